import PyProof.Rows.All
import Wide.All
import OpenK.AllK
import Wide.FinOn
import Lean
import PyProof.EqAt
import PyProof.EqKinds
import PyProof.TupleCall
import PyProof.SetNew
import PyProof.SetRoads
import PySem.Challenge.RW_surebook_k48_texts
set_option Elab.async false
set_option linter.all false
set_option maxRecDepth 100000
set_option maxHeartbeats 3200000
abbrev Tn:=PySem.Str->Option PySem.Value
abbrev TB:=PySem.Value->PySem.Shared->Prop
abbrev TC:=List (PySem.Addr × PySem.Obj)
abbrev TD:=List PySem.Str
abbrev TF:=List PySem.Value
abbrev TH:=List PySem.Addr
abbrev TJ:=List PySem.Expr
abbrev TK:=Option PySem.Addr
abbrev TL:=PySem.W.Frag
abbrev TM:=PySem.Program
abbrev TN:=List Int
abbrev TU:List PySem.Str:=["__module__","__name__","__qualname__","__doc__","__annotations__"]
abbrev TV:List PySem.Str:=["_law_script","_law_k"]
abbrev TW:List PySem.Str:=["_law_top","_law_bottom"]
abbrev TX:List PySem.Str:=["_law_cell_here"]
abbrev TY:List PySem.Str:=["one","other"]
abbrev TZ:List PySem.Str:=["top","bottom"]
abbrev Ui:List PySem.Str:=["text"]
abbrev UA:List PySem.Str:=["words"]
abbrev UB:List PySem.Str:=["names","words"]
abbrev UC:List PySem.Str:=["_law_one"]
abbrev UD:List PySem.Str:=["_law_bag_here"]
abbrev UE:List PySem.Str:=["_law_bag_here","_law_count"]
abbrev UF:List PySem.Str:=["_law_world","_law_bag_here"]
abbrev UG:List PySem.Str:=["_law_names_here","_law_offer"]
abbrev UH:List PySem.Str:=["_law_names_here","_law_offers"]
abbrev UI:List PySem.Str:=["_law_found"]
abbrev UJ:List PySem.Str:=["_law_found","_law_due"]
abbrev UK:List PySem.Str:=["_law_bag_here","_law_most"]
abbrev UL:List PySem.Str:=["_law_found","_law_names_here","_law_offers"]
abbrev YA:=@PySem.wpAny_bind
abbrev YB:=@PySem.Heap.get?_push_of_some
abbrev YC:=@List.length_map
abbrev YD:=@PySem.wpAny_pure
abbrev YE:=@Nat.le_refl
abbrev YF:=@List.size_toArray
abbrev YG:=@PySem.Heap.get?_push_size
abbrev YH:=@PySem.Heap.lt_size
abbrev YI:=@List.getElem?_map
abbrev YJ:=@List.mem_cons
abbrev YK:=@List.mem_cons_of_mem
abbrev YL:=@List.mem_cons_self
abbrev YM:=@Bool.false_ne_true
abbrev YN:=@Nat.lt_of_lt_of_le
abbrev YO:=@List.mem_of_getElem?
abbrev YQ:=@PySem.sizeLine_eq
abbrev YR:=@Option.some.inj
abbrev YS:=@List.length_cons
abbrev YT:=@Nat.ne_of_lt
abbrev YU:=@PyProof.Rows.boot_isinstance
abbrev YV:=@PySem.Str.length_append
abbrev YW:=@List.mem_append_left
abbrev YX:=@PySem.W.mg_none_of
abbrev YY:=@List.mem_append
abbrev YZ:=@List.getElem?_eq_getElem
abbrev XA:=@Nat.le_trans
abbrev XB:=@PySem.wpAny_field
abbrev XC:=@decide_eq_true
abbrev XD:=@if_neg
abbrev XF:=@List.length_append
abbrev XG:=@List.getElem?_eq_some_iff
abbrev XH:=@PySem.wpAny_callSpecial?_slot
abbrev XI:=@PySem.F.plainAttrs_list
abbrev XJ:=@List.map_append
abbrev XL:=@decide_eq_false
abbrev XM:=@PySem.wpAny_holding
abbrev XN:=@List.mem_append_right
abbrev XO:=@Nat.lt_irrefl
abbrev XQ:=@if_pos
abbrev XR:=@PySem.wpAny_call_entry
abbrev XS:=@List.length_take
abbrev XU:=@List.lookup_cons
abbrev XV:=@List.take_length
abbrev XW:=@PyProof.Rows.boot_tuple
abbrev XX:=@PySem.F.plainAttrs_str
abbrev XY:=@PySem.wpAny_setField_rec
abbrev XZ:=@Array.length_toList
abbrev JA:=@PySem.wpAny_newObj_type
abbrev JB:=@Nat.mul_le_mul_right
abbrev JC:=@Nat.lt_of_le_of_lt
abbrev JD:=@PySem.Heap.SameBut.update
abbrev JE:=@List.mem_map
abbrev JF:=@PyProof.Rows.size_push'
abbrev JG:=@Int.eq_ofNat_of_zero_le
abbrev JH:=@Nat.zero_le
abbrev JI:=@Array.getElem?_eq_getElem
abbrev JJ:=@PySem.wpAny_seqItems
abbrev JK:=@PySem.Paired.length
abbrev JL:=@PySem.wpAny_truthy_bool
abbrev JM:=@List.take_of_length_le
abbrev JN:=@List.pairwise_iff_getElem
abbrev JO:=@beq_eq_false_iff_ne
abbrev JP:=@List.filterMap_cons
abbrev JQ:=@PySem.Heap.size_push
abbrev JR:=@PySem.boot_len
abbrev JS:=@PySem.F.slot_list_append
abbrev JT:=@PySem.F.type_list_append
abbrev JU:=@PySem.codeAny_builtin
abbrev JV:=@Bool.eq_iff_iff
abbrev JW:=@Nat.lt_trans
abbrev JX:=@Bool.false_eq_true
abbrev JY:=@PySem.wpAny_isInstance
abbrev JZ:=@List.not_mem_nil
abbrev GA:=@PySem.Around.under_plainId
abbrev GB:=@PySem.Heap.get?_update_other
abbrev GC:=@decide_eq_true_eq
abbrev GD:=@PyProof.Rows.boot_list
abbrev GE:=@Nat.min_eq_left
abbrev GF:=@PySem.PassesOwn.never
abbrev GG:=@PySem.Heap.get?_update_self
abbrev GH:=@List.getElem?_toArray
abbrev GI:=@PySem.builtinLookup_eq_fast
abbrev GJ:=@PySem.wpAny_rule
abbrev GK:=@Bool.and_eq_true
abbrev GL:=@Nat.le_of_not_lt
abbrev GM:=@Ne.symm
abbrev GN:=@Int.toNat_natCast
abbrev GO:=@of_decide_eq_true
abbrev GP:=@List.forIn_cons
abbrev GQ:=@PySem.F.slot_zip_next
abbrev GR:=@PyProof.Rows.callWith_type1
abbrev GS:=@PySem.wpAny_attempt
abbrev GT:=@beq_self_eq_true
abbrev GU:=@List.all_eq_true
abbrev GV:=@Nat.le_add_right
abbrev GW:=@PySem.F.slot_tuple_iterator_next
abbrev GX:=@PySem.wpAny_mono
abbrev GY:=@List.getElem?_append_right
abbrev GZ:=@Array.getElem?_eq_some_iff
abbrev qc:=@List.mem_singleton
abbrev qd:=@List.nodup_iff_pairwise_ne
abbrev qe:=@PyProof.Rows.boot_str
abbrev qf:=@PySem.F.slot_str_join
abbrev qg:=@PySem.F.type_str_join
abbrev qh:=@List.getElem?_append_left
abbrev qi:=@PySem.wpAny_passesOwn
abbrev qj:=@PySem.SeqAt.EqAt.same
abbrev qk:=@PySem.wpAny_setState_of
abbrev ql:=@PySem.F.slot_list_extend
abbrev qm:=@PySem.F.type_list_extend
abbrev qo:=@PyProof.Rows.slot_tuple_getitem
abbrev qp:=@PySem.mem_of_lookup
abbrev qq:=@PySem.isSubtype_stop
abbrev qr:=@List.mem_range
abbrev qu:=@PySem.W.kia_one
abbrev qv:=@List.length_drop
abbrev qw:=@List.eq_nil_of_length_eq_zero
abbrev qx:=@PySem.F.called_set
abbrev qy:=@PySem.typeLookup_type
abbrev qz:=@List.getElem?_eq_none
abbrev qA:=@Array.getElem?_toList
abbrev qB:=@PySem.wpAny_pyIter_list
abbrev qC:=@List.pairwise_map
abbrev qD:=@List.take_add_one
abbrev qE:=@PySem.wpAny_setField
abbrev qF:=@if_false
abbrev qG:=@List.getElem?_of_mem
abbrev qH:=@PySem.isSubtype_type
abbrev qI:=@List.mem_of_mem_take
abbrev qJ:=@PySem.codeAny_mono
abbrev qK:=@List.any_cons
abbrev qL:=@PySem.plainId_quiet
abbrev qM:=@List.mem_filter
abbrev qN:=@Int.emod_nonneg
abbrev qO:=@PySem.slot_listiter_next
abbrev qP:=@PySem.wpAny_Call_Name_kw
abbrev qQ:=@PySem.call_meets
abbrev qR:=@List.filter_append
abbrev qS:=@Int.emod_lt_of_pos
abbrev qT:=@Nat.le_succ
abbrev qU:=@PySem.F.slot_zip_getattribute
abbrev qV:=@Nat.le_of_lt
abbrev qW:=@List.getElem?_set_self
abbrev qX:=@Nat.ne_of_gt
abbrev qY:=@List.forIn_nil
abbrev qZ:=@PySem.F.args_zip_next_1
abbrev z3:=@List.pairwise_lt_range
abbrev z4:=@PySem.F.slot_str_split
abbrev z9:=@PySem.F.type_str_split
abbrev za:=@Nat.succ.inj
abbrev zb:=@PySem.F.slot_dict_get
abbrev zc:=@PyProof.Rows.boot_abs
abbrev zd:=@PyProof.Rows.boot_int
abbrev ze:=@PyProof.Rows.boot_all
abbrev zf:=@PySem.typeIs_str
abbrev zg:=@PySem.F.entry_zip_next
abbrev zh:=@Nat.mod_lt
abbrev zi:=@PySem.F.slot_str_ascii_iterator_next
abbrev zj:=@List.cons_append
abbrev zk:=@PySem.wpAny_standAt
abbrev zl:=@if_true
abbrev zm:=@List.map_cons
abbrev zn:=@Nat.log2_lt
abbrev zo:=@PySem.codeAny_call_builtin
abbrev zp:=@or_false
abbrev zq:=@List.getElem?_append
abbrev zr:=@PySem.F.args_tuple_iterator_next_1
abbrev zt:=@PySem.wpAny_execs_nil
abbrev zu:=@List.append_nil
abbrev zv:=@List.nodup_cons
abbrev zw:=@Option.map_some
abbrev zx:=@Nat.le_antisymm
abbrev zy:=@PySem.wpAny_loadPart'
abbrev zA:=@List.find?_cons
abbrev zB:=@List.range_succ
abbrev zC:=@Nat.add_le_add_left
abbrev zD:=@List.length_zipWith
abbrev zE:=@ne_true_of_eq_false
abbrev zF:=@List.length_pos_iff
abbrev zG:=@PySem.F.entry_tuple_iterator_next
abbrev zH:=@PySem.wpAny_typeOf
abbrev zI:=@Int.gcd_comm
abbrev zJ:=@PySem.Obj.data_mapFields
abbrev zK:=@PySem.F.slot_range_iterator_next
abbrev zL:=@List.drop_zero
abbrev zM:=@PySem.Calls.Name_function_global
abbrev zN:=@PySem.SeqAt.EqAt.int_int
abbrev zO:=@PySem.SeqAt.EqAt.str_str
abbrev zP:=@Int.natAbs_mul
abbrev zQ:=@Nat.not_lt
abbrev zR:=@PySem.F.called_enumerate
abbrev zS:=@PySem.F.args_str_split_2
abbrev zT:=@List.length_eraseIdx_of_lt
abbrev zU:=@PySem.wpAny_FormattedValue_plain
abbrev zV:=@Int.gcd_sub_mul_left_left
abbrev zW:=@Nat.lt_of_succ_lt
abbrev zX:=@PySem.slot_list_getitem
abbrev zY:=@PySem.SeqAt.RcAt.tuples
abbrev zZ:=@Option.some.injEq
abbrev j2:=@List.getElem_take
abbrev j3:=@PySem.F.entry_str_split
abbrev j4:=@List.append_assoc
abbrev j5:=@PySem.wpAny_getItem_list_slice
abbrev j6:=@List.all_cons
abbrev j7:=@PySem.wpAny_comprehension_free
abbrev j8:=@PySem.StrLaws.sliceIdx_none_hi
abbrev j9:=@PySem.entryFor_of_tree
abbrev ja:=@Nat.min_le_right
abbrev jb:=@Option.getD_none
abbrev jc:=@List.ext_getElem
abbrev jd:=@PySem.wpAny_askSetting
abbrev je:=@PySem.F.slot_str_split
abbrev jf:=@List.range'_succ
abbrev jg:=@List.filter_cons
abbrev jh:=@PySem.F.slot_list_index
abbrev ji:=@PySem.F.type_list_index
abbrev jj:=@PySem.F.plainAttrs_dict
abbrev jk:=@PySem.Str.append_assoc
abbrev jl:=@Int.mul_comm
abbrev jm:=@Int.fmod_nonneg_of_pos
abbrev jn:=@beq_iff_eq
abbrev jp:=@List.range_succ_eq_map
abbrev jq:=@Array.getElem?_eq_none
abbrev jr:=@PyProof.Rows.boot_bool
abbrev js:=@List.of_mem_zip
abbrev jt:=@PySem.codeAny_of_tree
abbrev ju:=@List.take_left'
abbrev jv:=@List.drop_left'
abbrev jw:=@Int.natAbs_dvd_natAbs
abbrev jx:=@List.cons_lt_cons_iff
abbrev jy:=@PyProof.Rows.boot_set
abbrev jz:=@PySem.F.type_dict_get
abbrev jQ:=@PySem.wpAny_throw
abbrev jR:=@PySem.wpAny_of_eq
abbrev jS:=@List.getElem?_set_ne
abbrev jT:=@PySem.entryFor_alias
abbrev jU:=@List.tail_cons
abbrev jV:=@Nat.add_mul
abbrev jW:=@List.getElem_of_mem
abbrev jX:=@List.foldl_toArray'
abbrev jY:=@PySem.wpAny_onRaise
abbrev jZ:=@List.drop_one
abbrev Y00:=@Option.isSome_none
abbrev Y01:=@List.mem_filterMap
abbrev Y02:=@Nat.eq_zero_or_pos
abbrev Y03:=@Int.fmod_lt_of_pos
abbrev Y04:=@List.getElem?_drop
abbrev Y05:=@Array.forIn_toList
abbrev Y06:=@List.any_map
abbrev Y07:=@Nat.sub_zero
theorem Sb.sz0:0<=PySem.sizeLine:=by decide
theorem Sb.sz1:1<=PySem.sizeLine:=by decide
theorem Sb.sz2:2<=PySem.sizeLine:=by decide
theorem Sb.sz4:4<=PySem.sizeLine:=by decide
variable {A:PySem.Around}{C b f it l t:PySem.Addr}{E:TB}{K:TL}{N ps:TD}{c j:Nat}{env:PySem.Env}{es:TJ}{fd:PySem.FuncData}{g:TG}{h h':PySem.Heap}{its:TF}{mg:Tn}{ns:TN}{o:PySem.Obj}{pins:TC}{pos:PySem.Pos}{prog:TM}{qual:PySem.Str}{s:PySem.Shared}{scope:PySem.Scope}{sr:Bool}{st:PySem.Stmt}{tg:PySem.Expr}{tt:TT}{u:PySem.Value}
theorem U{p:Prop}(h:p:=by omega):p:=h
theorem J0{p:Prop}(h:p:=by decide):p:=h
theorem J1{p:Prop}(h:p:=by simp):p:=h
theorem J2{p:Prop}(h:p:=by decide +kernel):p:=h
theorem J3{p:Prop}(h:p:=by grind):p:=h
namespace Sb
open PySem PySem.Spec PyProof.Rows
def NoCtx (o:Obj):Prop:=∃ vs,o.data=.fields vs/\vs[2]?=some .none
def Qt (A:Around)(h:Heap):Prop:=A.handled=none \/ ∃ a o,A.handled=some (.ref a)/\h.get? a=some o/\NoCtx o
def QtP (A:Around)(pn:TC):Prop:=A.handled=none \/ ∃ p∈pn,A.handled=some (.ref p.1)/\NoCtx p.2
theorem QtP.at {pn:TC}(q:QtP A pn)(k:∀ p∈pn,h.get? p.1=some p.2):Qt A h :=
 q.imp id λ⟨p,hp,e,n⟩=>⟨p.1,p.2,e,k p hp,n⟩
theorem Qt.keeps (q:Qt A h)(k:∀ b o,h.get? b=some o->NoCtx o->h'.get? b=some o):Qt A h':=q.imp id λ⟨a,o,e,g,n⟩=>⟨a,o,e,k a o g n,n⟩
theorem Qt.but {a:Addr}{f:Obj->Obj}(q:Qt A h)(ha:h.get? a=some o)(n:¬ NoCtx o):Qt A (h.update a f) :=
 q.imp id λ⟨b,u,e,g,m⟩=>⟨b,u,e,(JD ..).extBut b u (λz=>n (by rw[z,ha] at g;cases g;exact m)) g,m⟩
theorem Uk:entryFor table "proto.unchain"=some Builtin.«proto.unchain»:=j9 (by kernel_rfl)
section
variable {prog:TM}{w:World}{A:Around}{E:TB}{s:Shared}
theorem P3 {α:Type}{e:Addr}{oe:Obj}{vs:Array Value}{Q:α->Shared->Prop}(hq:Qt A s.heap)(he:s.heap.get? e=some oe)(hd:oe.data=.fields vs)(hz:2<vs.size)(hn:∀ a,A.handled=some (.ref a)->a≠e)
  (h:∀ h':Heap,Heap.SameBut e s.heap h'->(∃ o',h'.get? e=some o'/\o'.cls=oe.cls)->E (.ref e) { s with heap:=h' }):wpAny (model prog w) A (raiseNew (.ref e):Sem α) Q E s:=by
 unfold raiseNew;refine YA (wpAny_handled ?_);rcases hq with hh | ⟨a,o,hh,ha,xs,hx,h2⟩
 ·rw[hh]
  first
   | exact jQ (h s.heap (Heap.SameBut.refl ..) ⟨_,he,rfl⟩)
   | exact YA (YD (jQ (h s.heap (Heap.SameBut.refl ..) ⟨_,he,rfl⟩)))
 have ne:=hn a hh;rw[hh];dsimp only;have nb:(Value.ref a != Value.ref e)=true:=by simpa using ne
 rw[XQ nb];refine YA (XM (wpAny_runValue (JU Uk ?_)));show wpAny _ _ (field (.ref a) 2 >>= _) _ _ s;refine YA (XB ha hx (x:=.none) h2 ?_);refine YD ?_;simp only [updateField];refine YA (YA (wpAny_load he ?_));rw[hd];show wpAny _ _ (if 2<vs.size then _ else _) _ _ _;rw[XQ hz];refine wpAny_update he ?_;refine jQ (h _ (JD ..) ⟨_,GG _ he ?_,?_⟩)
 ·exact Obj.isFreed_of_fields (zJ hd _)
 exact Obj.cls_mapFields ..
theorem Wz {α:Type}{Q:α->Shared->Prop}(hq:Qt A s.heap)
  (h:∀ (h':Heap) (e:Addr),(∀ b o,s.heap.get? b=some o->h'.get? b=some o)->(∃ o,h'.get? e=some o/\o.cls=.type "StopIteration")->E (.ref e) { s with heap:=h' }) :
  wpAny (model prog w) A (newExc (.type "StopIteration") [] >>= λe=>(raiseNew e:Sem α)) Q E s:=by
 refine YA ?_;simp only [newExc,newTuple];refine YA (JA ?_ (by size_fits));refine YA (m:=firstArgMember _ _) (jR (a:=Value.none) (by first | rfl | (simp only [firstArgMember];rfl)) ?_);refine JA ?_ (by size_fits);have sz:∀ (o:Obj),(s.heap.push o).objs.size=s.heap.objs.size+1:=λo=>JQ ..;refine P3 (hq.keeps λb o hb _=>YB _ (YB _ hb)) (YG _ rfl) rfl (by simp[ownMembersOf]) (λa ha z=>?_) λh' sb ho=>?_
 ·rcases hq with q | ⟨b,o,q,hb,_⟩
  ·rw[q] at ha;cases ha
  rw[q] at ha
  cases ha;have:=YH hb;rw[z,sz] at this;exact XO _ (zW this)
 refine h h' _ (λb o hb=>?_) ho;refine sb.extBut b o (λz=>?_) (YB _ (YB _ hb));have:=YH hb;rw[z,sz] at this;exact XO _ (zW this)
theorem U2 {i:Nat}{items}{Q:Option Value->Shared->Prop}(hq:Qt A s.heap)
  (hit:s.heap.IsListIter it l i) (hl:s.heap.IsList l items) (hx:items[i]?=none)
  (hQ:∀ h',Heap.ExtBut it s.heap h'->Q none { s with heap:=h' }):wpAny (model prog w) A (pyNext (.ref it)) Q E s:=by
 obtain⟨o,ho,hc,hd⟩:=id hit;obtain⟨ol,hol,_,nl,hdl⟩:=hl;unfold pyNext;refine YA (GS (XH (name:=Str.ofString "__next__") hit.typeIs qO
  (XR qO hit.typeIs entry_listiter_next ?_ (args_listiter_next _))))
 show wpAny _ _ (field (.ref it) 0 >>= _) _ _ s;refine YA (XB ho hd (x:=.ref l) rfl ?_);show wpAny _ _ (if (Value.ref l == Value.none)=true then _ else _) _ _ s;rw[XD (show ¬ ((Value.ref l == Value.none)=true) from YM)];show wpAny _ _ (field (.ref it) 1 >>= _) _ _ s;refine YA (XB ho hd (x:=.int i 0) rfl ?_);show wpAny _ _ (seqItems? (.ref l) >>= _) _ _ s;refine YA (JJ hol hdl ?_);simp only [GN,hx];refine YA (GJ (YA (qE ho hd J1 ?_)));refine Wz (hq:=(hq.but ho λn=>?_)) λh' e k he=>?_
 ·obtain⟨vs,e1,e2⟩:=n;rw[hd] at e1
  cases e1;simp at e2
 obtain⟨oe,h1,h2⟩:=he;refine YA (JY (T:="StopIteration") (b:=true) ⟨_,h1,h2⟩ qq ?_);exact YD (hQ _ λb o hb e=>k b o ((JD ..).extBut b o hb e))
theorem V8 {i:Nat}{items}{Q:Option Value->Shared->Prop}(hq:Qt A s.heap)
  (hit:s.heap.IsTupleIter it t i) (ht:s.heap.IsTuple t items) (hx:items[i]?=none)
  (hQ:∀ h',Heap.ExtBut it s.heap h'->Q none { s with heap:=h' }):wpAny (model prog w) A (pyNext (.ref it)) Q E s:=by
 obtain⟨o,ho,hc,hd⟩:=id hit;obtain⟨ol,hol,_,nl,hdl⟩:=ht;unfold pyNext;refine YA (GS (XH (name:=Str.ofString "__next__") hit.typeIs GW
  (XR GW hit.typeIs zG ?_ (zr _))))
 show wpAny _ _ (field (.ref it) 0 >>= _) _ _ s;refine YA (XB ho hd (x:=.ref t) rfl ?_);show wpAny _ _ (if (Value.ref t == Value.none)=true then _ else _) _ _ s;rw[XD (show ¬ ((Value.ref t == Value.none)=true) from YM)];show wpAny _ _ (field (.ref it) 1 >>= _) _ _ s;refine YA (XB ho hd (x:=.int i 0) rfl ?_);show wpAny _ _ (seqItems? (.ref t) >>= _) _ _ s;refine YA (JJ hol hdl ?_);simp only [GN,hx];refine YA (GJ (YA (qE ho hd J1 ?_)));refine Wz (hq:=(hq.but ho λn=>?_)) λh' e k he=>?_
 ·obtain⟨vs,e1,e2⟩:=n;rw[hd] at e1
  cases e1;simp at e2
 obtain⟨oe,h1,h2⟩:=he;refine YA (JY (T:="StopIteration") (b:=true) ⟨_,h1,h2⟩ qq ?_);exact YD (hQ _ λb o hb e=>k b o ((JD ..).extBut b o hb e))
theorem Rj {x left step:Int}{Q:Option Value->Shared->Prop}(hq:Qt A s.heap)(hit:IsRangeIter s.heap it x left step)(hleft:left<=0)
  (hQ:∀ h',Heap.ExtBut it s.heap h'->Q none { s with heap:=h' }):wpAny (model prog w) A (pyNext (.ref it)) Q E s:=by
 have hT:s.TypeIs (.ref it) "range_iterator":=⟨_,hit,rfl⟩;unfold pyNext;refine YA (GS (XH (name:=Str.ofString "__next__") hT zK
  (XR zK hT F.entry_range_iterator_next ?_ (F.args_range_iterator_next_1 _))))
 show wpAny _ _ (field (.ref it) 0 >>= _) _ _ s;refine YA (XB hit rfl (x:=rawInt x) rfl ?_);show wpAny _ _ (field (.ref it) 1 >>= _) _ _ s;refine YA (XB hit rfl (x:=rawInt left) rfl ?_);show wpAny _ _ (field (.ref it) 2 >>= _) _ _ s;refine YA (XB hit rfl (x:=rawInt step) rfl ?_);show wpAny _ _ (if left<=0 then _ else _) _ _ s;rw[XQ hleft];refine YA (GJ ?_);refine YA ?_;refine Wz (hq:=hq) λh' e k he=>?_;obtain⟨oe,h1,h2⟩:=he;refine YA (JY (T:="StopIteration") (b:=true) ⟨_,h1,h2⟩ qq ?_);exact YD (hQ _ λb o hb e=>k b o e)
theorem Uf {items:Array Value}{Q:List Value->Shared->Prop}(hq:Qt A s.heap)(ht:IsTup s.heap t items)
  (hQ:∀ h',Heap.ExtBut s.heap.objs.size s.heap h'->Q items.toList { s with heap:=h' }):wpAny (model prog w) A (unpackItems (.ref t) items.size none) Q E s:=by
 have hlt:t≠s.heap.objs.size:=by obtain⟨o,ho,_⟩:=ht;exact YT (YH ho)
 unfold unpackItems;refine YA ?_;unfold notIterableAtAll;refine YA (wpAny_specialOf ht.typeIs slot_tuple_iter.lookup ?_);refine YD ?_;simp only [JX,qF];refine YA (XM (iter_tuple ht ?_));refine YA (XM (draw_tuple hlt items.size 0 _ _ ⟨_,YG _ rfl,rfl,rfl⟩ (ht.push _) U λh₁ hit₁ hs₁=>?_));have hall:List.take items.size (List.drop 0 items.toList)=items.toList:=by
  rw[zL];exact JM J1
 rw[hall];rw[XD J1];have ht₁:IsTup h₁ t items:=(ht.push _).extBut hs₁.extBut hlt;have kp:∀ b o,s.heap.get? b=some o->h₁.get? b=some o:=λb o e=>hs₁.extBut b o (λz=>by have:=YH e;rw[z] at this;exact XO _ this) (YB _ e);refine YA (XM (V8 (hq.keeps λb o e _=>kp b o e) hit₁ ht₁ J1 λh₂ he₂=>?_));simp only [Y00,JX,qF];refine YD (hQ h₂ λb o hb e=>he₂ b o hb (kp b o e))
theorem Ue {elts:TJ}{x1}{pos:Pos}{items:Array Value}{Q:Unit->Shared->Prop}(hq:Qt A s.heap)(ht:IsTup s.heap t items)
  (hn:(assignEach elts env).length=items.size) (hstar:(assignEach elts env).findIdx? (·.1)=none)
  (h:∀ h',Heap.ExtBut s.heap.objs.size s.heap h'->wpAny (model prog w) A (assignInOrder ((assignEach elts env).map (·.2)) items.toList) Q E { s with heap:=h' }) :
  wpAny (model prog w) A (assign (.Tuple elts x1 pos) env (.ref t)) Q E s:=by
 rw[assign_Tuple];refine YA (zk ?_);unfold unpack;rw[hn,hstar];exact YA (XM (Uf hq ht h))
end
theorem Walks.listQ {w:World}{qs:TC}(hq:QtP A qs)(I ax:Addr)(hne:ax≠I)(hqs:∀ p∈qs,p.1≠I)(items:Array Value) :
  Walks prog w A I (I::ax::qs.map Prod.fst) [I] items.size (λi v=>items[i]?=some v) (λi h=>h.IsListIter I ax i/\h.IsList ax items/\∀ p∈qs,h.get? p.1=some p.2) where
 sub:=λb hb=>by simp at hb;simp[hb]
 frame:=λ_ _ _ st hk=>⟨st.1.at λo e=>hk I J1 o e,st.2.1.at λo e=>hk ax J1 o e,λp hp=>hk p.1 (by simp;exact .inr (.inr ⟨p.2,hp⟩)) p.2 (st.2.2 p hp)⟩
 item:=λi s Q E hi st hQ=>by
  refine wpAny_pyNext_list_item st.1 st.2.1 (x:=items[i]) (by simp[hi]) λh' hit' hs'=>?_;exact hQ _ h' s.toks (by simp[hi]) ⟨hit',st.2.1.extBut hs'.extBut hne,λp hp=>hs'.extBut p.1 p.2 (hqs p hp) (st.2.2 p hp)⟩ λb o hb e=>hs'.extBut b o (λh=>hb (by simp[h])) e
 done:=λs Q E st hQ=>U2 (hq.at st.2.2) st.1 st.2.1 J1 λh' he'=>hQ h' s.toks λb o hb e=>he' b o (λh=>hb (by simp[h])) e
 self:=λ_ _ _ _ st hQ=>wpAny_pyIter_listiter st.1 hQ
theorem P0 {prog:TM}{w:World}{A:Around}{I:Addr}{a c:Int}{n:Nat}(i:Nat)(s:Shared)(Q:Option Value->Shared->Prop)(E:TB)(hi:i<n)(st:IsRangeIter s.heap I (a+(i:Nat)*c) ((n:Int) - (i:Nat)) c)
  (hQ:∀ v h' tk,(∃ t,v=Value.int (a+i*c) t)->IsRangeIter h' I (a+((i+1:Nat):Int)*c) ((n:Int) - ((i+1:Nat):Int)) c->(∀ b o,b ∉ [I]->s.heap.get? b=some o->h'.get? b=some o)->Q (some v) { s with heap:=h',toks:=tk }) :
  wpAny (model prog w) A (pyNext (.ref I)) Q E s:=by
 refine wpAny_pyNext_range_item st U λh' hit' hs'=>?_;refine hQ _ h' _ ⟨_,rfl⟩ ?_ λb o hb e=>hs'.extBut b o (λh=>hb (by simp[h])) e;have e1:a+((i+1:Nat):Int)*c=a+(i:Int)*c+c:=by push_cast;rw[Int.add_mul,Int.one_mul,Int.add_assoc]
 have e2:(n:Int) - ((i+1:Nat):Int)=(n:Int) - (i:Int) - 1:=by push_cast;omega
 rw[e1,e2];exact hit'
def QtE (A:Around)(h:Heap)(H:Addr->Option α)(fs:TH):Prop:=A.handled=none \/ ∃ a o,A.handled=some (.ref a)/\h.get? a=some o/\NoCtx o/\H a=none/\a ∉ fs/\∀ v,o.data≠.cell v
def qpin (A:Around)(h:Heap):List (Addr × Obj):=match A.handled with
 | some (.ref a)=>match h.get? a with
  | some o=>[(a,o)]
  | none=>[]
 | _=>[]
theorem QtE.pin {H:Addr->Option α}{fs:TH}(q:QtE A h H fs):QtP A (qpin A h):=by
 rcases q with q | ⟨a,o,e,g,n,_⟩
 ·exact .inl q
 refine .inr ⟨(a,o),?_,e,n⟩;unfold qpin;rw[e];dsimp only;rw[g];simp
theorem QtE.mem {H:Addr->Option α}{fs:TH}(q:QtE A h H fs)(p:Addr × Obj)(hp:p∈qpin A h):h.get? p.1=some p.2/\H p.1=none/\p.1 ∉ fs/\∀ v,p.2.data≠.cell v:=by
 rcases q with q | ⟨a,o,e,g,n,h1,h2,h3⟩
 ·unfold qpin at hp;rw[q] at hp
  cases hp
 unfold qpin at hp;rw[e] at hp;dsimp only at hp;rw[g] at hp;obtain rfl:p=(a,o):=by simpa using hp
 exact⟨g,h1,h2,h3⟩
section
variable {prog:TM}{w:World}{A:Around}{E:TB}{s:Shared}
theorem Wn {i:Nat}{items}{Q:TB}(hq:Qt A s.heap)
  (hit:s.heap.IsListIter it l i) (hl:s.heap.IsList l items) (hx:items[i]?=none)
  (hE:∀ h' e,Heap.ExtBut it s.heap h'->(∃ o,h'.get? e=some o/\o.cls=.type "StopIteration")->E (.ref e) { s with heap:=h' }) :
  wpAny (model prog w) A (Builtin.SmallTypes.nextOf (.ref it)) Q E s:=by
 obtain⟨o,ho,hc,hd⟩:=id hit;obtain⟨ol,hol,_,nl,hdl⟩:=hl;unfold Builtin.SmallTypes.nextOf;refine YA (XH (name:=Str.ofString "__next__") hit.typeIs qO
  (XR qO hit.typeIs entry_listiter_next ?_ (args_listiter_next _)))
 show wpAny _ _ (field (.ref it) 0 >>= _) _ _ s;refine YA (XB ho hd (x:=.ref l) rfl ?_);show wpAny _ _ (if (Value.ref l == Value.none)=true then _ else _) _ _ s;rw[XD (show ¬ ((Value.ref l == Value.none)=true) from YM)];show wpAny _ _ (field (.ref it) 1 >>= _) _ _ s;refine YA (XB ho hd (x:=.int i 0) rfl ?_);show wpAny _ _ (seqItems? (.ref l) >>= _) _ _ s;refine YA (JJ hol hdl ?_);simp only [GN,hx];refine YA (GJ (YA (qE ho hd J1 ?_)));refine Wz (hq:=(hq.but ho λn=>?_)) λh' e k he=>?_
 ·obtain⟨vs,e1,e2⟩:=n;rw[hd] at e1
  cases e1;simp at e2
 exact hE _ _ (λb o hb e=>k b o ((JD ..).extBut b o hb e)) he
end
theorem Draws.listQ {w:World}{qs:TC}(hq:QtP A qs)(it l:Addr)(hne:l≠it)(hqs:∀ p∈qs,p.1≠it)(items:Array Value) :
  Draws prog w A it (it::l::qs.map Prod.fst) items.size (λi v=>items[i]?=some v) (λi h=>h.IsListIter it l i/\h.IsList l items/\∀ p∈qs,h.get? p.1=some p.2) where
 live:=λ_ _ st=>let ⟨o,ho,_⟩:=st.1;⟨o,ho⟩
 frame:=λ_ _ _ st hk=>⟨st.1.at λo e=>hk it J1 o e,st.2.1.at λo e=>hk l J1 o e,λp hp=>hk p.1 (by simp;exact .inr (.inr ⟨p.2,hp⟩)) p.2 (st.2.2 p hp)⟩
 item:=λi s Q E hi st hQ=>by
  refine wpAny_nextOf_list_item st.1 st.2.1 (x:=items[i]) (by simp[hi]) λh' hit' hs'=>?_;exact hQ _ h' s.toks (by simp[hi]) ⟨hit',st.2.1.extBut hs'.extBut hne,λp hp=>hs'.extBut p.1 p.2 (hqs p hp) (st.2.2 p hp)⟩ hs'
 done:=λs Q E st hE=>Wn (hq.at st.2.2) st.1 st.2.1 J1 hE
end Sb
namespace L2
open PySem PySem.Spec PyProof.Rows
abbrev Key:=Sum Int Str
def keyIs:Key->Value->Bool
 | .inl k,v=>Value.isInt k v
 | .inr x,v=>Value.isStrOf x v
def keyH (w:World):Key->Int
 | .inl k=>hashInt k
 | .inr x=>hashStr w x
theorem Zy:∀ {k:Key} {v:Value},keyIs k v=true->(∃ i t,k=Sum.inl i/\v=Value.int i t) \/ (∃ x t,k=Sum.inr x/\v=Value.str x t)
 | .inl i,v,h=>by
  obtain⟨t,e⟩:=Value.isInt_shape (k:=i) (v:=v) h;exact .inl ⟨i,t,rfl,e⟩
 | .inr x,v,h=>by
  obtain⟨t,e⟩:=Value.isStrOf_shape (x:=x) (v:=v) h;exact .inr ⟨x,t,rfl,e⟩
theorem Mj (i:Int)(t:Tok):keyIs (.inl i) (.int i t)=true:=by simp[keyIs,Value.isInt]
theorem Mi (x:Str)(t:Tok):keyIs (.inr x) (.str x t)=true:=by simp[keyIs,Value.isStrOf]
theorem Fu (a b:Int):decide ((Sum.inl a:Key)=Sum.inl b)=(a == b):=by
 by_cases e:a=b
 ·subst e;simp
 have h:¬ (Sum.inl a:Key)=Sum.inl b:=λq=>e (Sum.inl.inj q);rw[XL h];exact (JO.mpr e).symm
theorem Fr (a b:Str):decide ((Sum.inr a:Key)=Sum.inr b)=decide (a=b):=by
 by_cases e:a=b
 ·subst e;simp
 have h:¬ (Sum.inr a:Key)=Sum.inr b:=λq=>e (Sum.inr.inj q);rw[XL h,XL e]
theorem Ft (a:Int)(b:Str):decide ((Sum.inl a:Key)=Sum.inr b)=false:=XL (λq=>nomatch q)
theorem Fs (a:Str)(b:Int):decide ((Sum.inr a:Key)=Sum.inl b)=false:=XL (λq=>nomatch q)
def mixKind (prog:TM)(w:World):PySem.KeyKind prog w Key where
 is:=keyIs
 hash:=keyH w
 inj:=λv a b ha hb=>by
  rcases Zy ha with ⟨i,t,rfl,rfl⟩ | ⟨x,t,rfl,rfl⟩
  ·rcases Zy hb with ⟨j,u,rfl,e⟩ | ⟨y,u,rfl,e⟩
   ·injection e with e1 _;rw[e1]
   exact nomatch e
  rcases Zy hb with ⟨j,u,rfl,e⟩ | ⟨y,u,rfl,e⟩
  ·exact nomatch e
  injection e with e1 _;rw[e1]
 byValue:=λk v h=>by
  rcases Zy h with ⟨i,t,rfl,rfl⟩ | ⟨x,t,rfl,rfl⟩ <;> rfl
 pyHash:=λhv h=>by
  rcases Zy hv with ⟨i,t,rfl,rfl⟩ | ⟨x,t,rfl,rfl⟩
  ·exact wpAny_pyHash_int h
  exact wpAny_pyHash_str h
 eqBool:=λhu hv h=>by
  rcases Zy hu with ⟨i,t,rfl,rfl⟩ | ⟨x,t,rfl,rfl⟩
  ·rcases Zy hv with ⟨j,u,rfl,rfl⟩ | ⟨y,u,rfl,rfl⟩
   ·rw[Fu] at h;exact wpAny_eqBool_int h
   rw[Ft] at h;exact SeqAt.EqAt.int_str i t y u _ _ _ _ h
  rcases Zy hv with ⟨j,u,rfl,rfl⟩ | ⟨y,u,rfl,rfl⟩
  ·rw[Fs] at h;exact SeqAt.EqAt.str_int x t j u _ _ _ _ h
  rw[Fr] at h;exact wpAny_eqBool_str h
 «strs»:=λk x t v h=>by
  rcases Zy h with ⟨i,u,rfl,e⟩ | ⟨y,u,rfl,e⟩
  ·exact nomatch e
  injection e with e1 _
  subst e1
  cases v <;> rfl
theorem Q4 (prog:TM)(w:World)(i:Int)(t:Tok):(mixKind prog w).is (.inl i) (.int i t)=true:=Mj i t
theorem Q3 (prog:TM)(w:World)(x:Str)(t:Tok):(mixKind prog w).is (.inr x) (.str x t)=true:=Mi x t
inductive V where
 | non | bl (b:Bool) | int (i:Int) | str (x:Str) | byt (b:Array UInt8) | flt (b:UInt64) | ref (a:Addr) | ty (n:String)
 deriving DecidableEq
abbrev _root_.TQ:=List V
def RelV:V->Value->Prop
 | .non,u=>u=Value.none
 | .bl b,u=>u=Value.bool b
 | .int i,u=>∃ t,u=Value.int i t
 | .str x,u=>∃ t,u=Value.str x t
 | .byt b,u=>∃ t,u=Value.bytes b t
 | .flt b,u=>∃ t,u=Value.float b t
 | .ref a,u=>u=Value.ref a
 | .ty n,u=>u=Value.type n
abbrev Vals:List V->List Value->Prop:=Paired RelV
theorem Vals.length {xs:TQ}{us:TF}(r:Vals xs us):xs.length=us.length:=JK r
theorem Vals.get:∀ {xs:TQ} {us:TF} {i:Nat} {x:V},Vals xs us->xs[i]?=some x->∃ u,us[i]?=some u/\RelV x u
 | _,_,_,_,.nil,e=>by simp at e
 | _,_,0,_,.cons r _,e=>by simp at e;subst e;exact⟨_,rfl,r⟩
 | _,_,i+1,x,.cons _ t,e=>by
  obtain⟨u,h1,h2⟩:=Vals.get (i:=i) (x:=x) t (by simpa using e);exact⟨u,by simpa using h1,h2⟩
theorem Vals.set {x:V}{u:Value}(r:RelV x u):∀ {xs:TQ} {us:TF} (i:Nat),Vals xs us->Vals (xs.set i x) (us.set i u)
 | _,_,_,.nil=>.nil
 | _,_,0,.cons _ t=>.cons r t
 | _,_,i+1,.cons q t=>.cons q (Vals.set r i t)
theorem Vals.append:∀ {xs ys:TQ} {us ws:TF},Vals xs us->Vals ys ws->Vals (xs++ys) (us++ws)
 | _,_,_,_,.nil,s=>s
 | _,_,_,_,.cons r t,s=>.cons r (Vals.append t s)
theorem Vals.take:∀ {xs:TQ} {us:TF} (n:Nat),Vals xs us->Vals (xs.take n) (us.take n)
 | _,_,0,_=>.nil
 | _,_,_+1,.nil=>.nil
 | _,_,n+1,.cons r t=>.cons r (Vals.take n t)
theorem Vals.drop:∀ {xs:TQ} {us:TF} (n:Nat),Vals xs us->Vals (xs.drop n) (us.drop n)
 | _,_,0,r=>r
 | _,_,_+1,.nil=>.nil
 | _,_,n+1,.cons _ t=>Vals.drop n t
def RelO:Option V->Option Value->Prop
 | some v,some u=>RelV v u
 | none,none=>True
 | _,_=>False
def KV {κ:Type}:List (κ × V)->List (κ × Value)->Prop:=Paired λ(p:κ × V) (q:κ × Value)=>p.1=q.1/\RelV p.2 q.2
def kV:Key->V
 | .inl i=>.int i
 | .inr x=>.str x
inductive HO where
 | lst (xs:TQ)
 | tup (xs:TQ)
 | dK (kvs:List (Key × V)) | dT (kvs:List (List Key × V))
 | set (S:Int->Bool) (n:Nat)
 | ins (C dx:Addr) (fs:List (Str × V))
 | own (x:Addr)
 | xd (fs:List (Str × V))
 | met (f x:Addr)
 | rng (lo hi:Int)
 | frz (o:Obj) (u:HO)
 | tbl (ps:Array Value)
 | ext (φ:Heap->Prop)
abbrev Hp:=Addr->Option HO
def upd (H:Hp)(a:Addr)(o:HO):Hp:=λb=>if b=a then some o else H b
theorem Z5 {H:Hp}{a:Addr}{o:HO}:upd H a o a=some o:=by unfold upd;rw[XQ rfl]
theorem Zi {H:Hp}{a:Addr}{o:HO}(h:b≠a):upd H a o b=H b:=by unfold upd;rw[XD h]
theorem Gh {H:Hp}{a:Addr}{o u:HO}(h:H a=some o)(h':H b=some u)(d:o≠u):a≠b:=by
 intro e;subst e;rw[h] at h';exact d (YR h')
theorem Zb {H:Hp}{a:Addr}{o:HO}(h:H a=some o)(h':H b=none):a≠b:=by
 intro e;subst e;rw[h] at h';cases h'
section
variable (P:TM)(w:World)
def ObjOk (H:Hp)(h:Heap)(a:Addr):HO->Prop
 | .lst xs=>xs.length<=sizeLine/\∃ (its:TF) (n:Nat),Vals xs its/\h.get? a=some { cls:=.type "list",data:=.seq its.toArray n }
 | .tup xs=>xs.length<=sizeLine/\∃ its:List Value,Vals xs its/\IsTup h a its.toArray
 | .dK kvs=>kvs.length<=sizeLine/\(a == sysModules)=false/\∃ vs,KV kvs vs/\h.DictOf (mixKind P w) a vs
 | .dT kvs=>kvs.length<=sizeLine/\(a == sysModules)=false/\∃ xs:List (List Key × Addr × Value),
   Paired (λ(p:List Key × V) (q:List Key × Addr × Value)=>p.1=q.1/\H q.2.1=some (.tup (p.1.map kV))/\RelV p.2 q.2.2) kvs xs ∧
   ∃ o es ep,h.get? a=some o/\o.ExactDict/\o.data=.dict es ep/\es.toList=xs.map (entryOfKey (tupleKind (mixKind P w)))/\(xs.map (·.1)).Nodup
 | .set S n=>h.SetOf (intKind P w) a S n
 | .ins C dx fs=>H dx=some (.own a)/\fs.length<=1000/\dx≠a/\h.get? a=some (W.instObj C dx) ∧
   ∃ mA,h.Ns1 dx mA/\(∀ f,RelO (fs.lookup f) (mA f))/\PySem.Within mA (fs.map (·.1))
 | .own _=>∃ o,h.get? a=some o
 | .xd fs=>∃ mA,h.Ns1 a mA/\∀ f,RelO (fs.lookup f) (mA f)
 | .rng lo hi=>∃ t u v,h.get? a=some { cls:=.type "range",data:=.fields #[.int lo t,.int hi u,.int 1 v] }
 | .frz o u=>h.get? a=some o/\ObjOk H h a u
 | .tbl ps=>h.get? a=some { cls:=.none,data:=.fields ps }
 | .met f x=>h.get? a=some (W.methodObj (.ref f) (.ref x))
 | .ext φ=>φ h/\(∃ o,h.get? a=some o)/\∀ h1 h2:Heap,φ h1->(∀ o,h1.get? a=some o->h2.get? a=some o)->φ h2
def HOk (H:Hp)(h:Heap):Prop:=∀ a o,H a=some o->ObjOk P w H h a o
end
section
variable {P:TM}{w:World}{H H':Hp}{h h':Heap}{a:Addr}{o:HO}
theorem ObjOk.lt (x:ObjOk P w H h a o):a<h.objs.size:=by
 cases o with
 | lst xs=>obtain⟨_,_,_,_,e⟩:=x;exact YH e
 | tup xs=>obtain⟨_,_,_,p⟩:=x;exact p.lt
 | dK kvs=>obtain⟨_,_,_,_,o,_,_,e,_⟩:=x;exact YH e
 | dT kvs=>obtain⟨_,_,_,_,o,_,_,e,_⟩:=x;exact YH e
 | set S n=>obtain⟨o,_,_,_,e,_⟩:=x;exact YH e
 | ins C dx fs=>obtain⟨_,_,_,e,_⟩:=x;exact YH e
 | own y=>obtain⟨_,e⟩:=x;exact YH e
 | xd fs=>obtain⟨_,⟨_,_,_,e,_⟩,_⟩:=x;exact YH e
 | rng lo hi=>obtain⟨_,_,_,e⟩:=x;exact YH e
 | frz ob u=>obtain⟨e,_⟩:=x;exact YH e
 | tbl ps=>exact YH (show h.get? a=some _ from x)
 | met f y=>exact YH (show h.get? a=some _ from x)
 | ext φ=>obtain⟨_,⟨_,e⟩,_⟩:=x;exact YH e
theorem Paired.mapP {α β:Type}{F G:α->β->Prop}:∀ {l₁:List α} {l₂:List β},Paired F l₁ l₂->(∀ a b,F a b->G a b)->Paired G l₁ l₂
 | _,_,.nil,_=>.nil
 | _,_,.cons r t,f=>.cons (f _ _ r) (Paired.mapP t f)
theorem ObjOk.stay (x:ObjOk P w H h a o)(k:∀ b u,(b=a \/ H b=some (.own a))->h.get? b=some u->h'.get? b=some u)
  (ho:∀ b,H b=some (.own a)->H' b=some (.own a)) (ht:∀ b xs,H b=some (.tup xs)->H' b=some (.tup xs)):ObjOk P w H' h' a o:=by
 induction o with
 | lst xs=>obtain⟨z,its,n,r,e⟩:=x;exact⟨z,its,n,r,k _ _ (.inl rfl) e⟩
 | tup xs=>obtain⟨z,its,r,ob,e,c⟩:=x;exact⟨z,its,r,ob,k _ _ (.inl rfl) e,c⟩
 | dK kvs=>obtain⟨z,y,vs,r,ob,es,ep,e,c⟩:=x;exact⟨z,y,vs,r,ob,es,ep,k _ _ (.inl rfl) e,c⟩
 | dT kvs =>
  obtain⟨z,y,xs,r,ob,es,ep,e,c⟩:=x;exact⟨z,y,xs,Paired.mapP r λp q z=>⟨z.1,ht _ _ z.2.1,z.2.2⟩,ob,es,ep,k _ _ (.inl rfl) e,c⟩
 | set S n=>obtain⟨ob,es,ep,t,e,c⟩:=x;exact⟨ob,es,ep,t,k _ _ (.inl rfl) e,c⟩
 | ins C dx fs =>
  obtain⟨d,z,ne,e,mA,⟨od,es,ep,e2,c⟩,r⟩:=x;exact⟨ho _ d,z,ne,k _ _ (.inl rfl) e,mA,⟨od,es,ep,k _ _ (.inr d) e2,c⟩,r⟩
 | own y=>obtain⟨ob,e⟩:=x;exact⟨ob,k _ _ (.inl rfl) e⟩
 | xd fs=>obtain⟨mA,⟨od,es,ep,e,c⟩,r⟩:=x;exact⟨mA,⟨od,es,ep,k _ _ (.inl rfl) e,c⟩,r⟩
 | rng lo hi=>obtain⟨t,u,v,e⟩:=x;exact⟨t,u,v,k _ _ (.inl rfl) e⟩
 | frz ob u ih=>obtain⟨e,q⟩:=x;exact⟨k _ _ (.inl rfl) e,ih q⟩
 | tbl ps =>
  have e:h.get? a=some { cls:=.none,data:=.fields ps }:=x;show h'.get? a=some { cls:=.none,data:=.fields ps };exact k a _ (.inl rfl) e
 | met f y =>
  have e:h.get? a=some (W.methodObj (.ref f) (.ref y)):=x;show h'.get? a=some (W.methodObj (.ref f) (.ref y));exact k a _ (.inl rfl) e
 | ext φ=>obtain⟨p,⟨o,e⟩,st⟩:=x;exact⟨st _ _ p λo q=>k _ _ (.inl rfl) q,⟨o,k _ _ (.inl rfl) e⟩,st⟩
theorem HOk.lt (x:HOk P w H h)(e:H a=some o):a<h.objs.size:=(x a o e).lt
theorem HOk.fresh (x:HOk P w H h)(e:h.objs.size<=a):H a=none:=by
 cases q:H a with
 | none=>rfl
 | some u=>exact absurd (YN (x.lt q) e) (XO _)
theorem HOk.kept (x:HOk P w H h)(k:∀ b u,h.get? b=some u->h'.get? b=some u):HOk P w H h':=λa o e =>
 (x a o e).stay (λb u _ q=>k b u q) (λ_ q=>q) λ_ _ q=>q
theorem HOk.laid (x:HOk P w H h)(k:∀ b u,h.get? b=some u->h'.get? b=some u)(hp:h.objs.size<=a)(new:ObjOk P w (upd H a o) h' a o):HOk P w (upd H a o) h':=λb u e=>by
 have hn:=x.fresh hp;by_cases hb:b=a
 ·subst hb;rw[Z5] at e;cases e;exact new
 rw[Zi hb] at e;exact (x b u e).stay (λc v _ q=>k c v q) (λc q=>by rw[Zi (Zb q hn)];exact q) λc xs q=>by rw[Zi (Zb q hn)];exact q
end
def Rd (H:Hp)(a:Addr)(u:HO):Prop:=H a=some u \/ ∃ o,H a=some (.frz o u)
theorem Rd.ok {P:TM}{w:World}{H:Hp}{a:Addr}{u:HO}(r:Rd H a u)(x:HOk P w H h):ObjOk P w H h a u:=by
 rcases r with r | ⟨o,r⟩
 ·exact x a u r
 obtain⟨_,q⟩:=x a _ r;exact q
def Mut:Option HO->Prop
 | some (.lst _)=>True
 | some (.dK _)=>True
 | some (.dT _)=>True
 | some (.set _ _)=>True
 | some (.ins _ _ _)=>True
 | some (.ext _)=>True
 | _=>False
section
variable {P:TM}{w:World}{H:Hp}{h h':Heap}{x e:Addr}{o':HO}
theorem HOk.write (ok:HOk P w H h)(mu:Mut (H x))(he:e=x \/ H e=some (.own x))(k:∀ b u,b≠e->h.get? b=some u->h'.get? b=some u)(heo:∃ u,h'.get? e=some u)
  (new:ObjOk P w (upd H x o') h' x o'):HOk P w (upd H x o') h':=λb u q=>by
 have nown:∀ c y,H c=some (.own y)->c≠x:=λc y r z=>by subst z;rw[r] at mu;exact mu
 have ntup:∀ c xs,H c=some (.tup xs)->c≠x:=λc xs r z=>by subst z;rw[r] at mu;exact mu
 by_cases hb:b=x
 ·subst hb;rw[Z5] at q;cases q;exact new
 rw[Zi hb] at q;by_cases hbe:b=e
 ·have q':H b=some (.own x):=by
   rcases he with z | z
   ·exact absurd (hbe.trans z) hb
   rw[hbe];exact z
  rw[q] at q';cases q';obtain⟨v,hv⟩:=heo;exact⟨v,by rw[hbe];exact hv⟩
 refine (ok b u q).stay (λc v hc r=>k c v ?_ r) (λc r=>by rw[Zi (nown c b r)];exact r) λc xs r=>by rw[Zi (ntup c xs r)];exact r
 rcases hc with rfl | hc
 ·exact hbe
 rintro rfl;rcases he with z | z
 ·exact nown c b hc z
 rw[hc] at z;cases z;exact hb rfl
end
structure Un (fs ex:TH)(H H':Hp)(h h':Heap):Prop where
 keep:∀ b o,h.get? b=some o->H b=none->b ∉ fs->b ∉ ex->h'.get? b=some o
 slot:∀ b o,h.get? b=some o->H b=none->b∈fs->b ∉ ex->∃ sl,h'.get? b=some { o with slots:=sl }
 free:∀ b o,h.get? b=some o->H b=none->b ∉ ex->H' b=none
 there:∀ b o,h.get? b=some o->b ∉ ex->∃ o',h'.get? b=some o'
 tups:∀ b xs,H b=some (.tup xs)->H' b=some (.tup xs)
 frzs:∀ b o u,H b=some (.frz o u)->H' b=some (.frz o u)
 tbls:∀ b ps,H b=some (.tbl ps)->∃ more,H' b=some (.tbl (ps++more))
section
variable {fs ex:TH}{H H1:Hp}{h h1 h':Heap}{a x e:Addr}{o:HO}
theorem Un.any (u:Un fs ex H H1 h h1){b:Addr}{ob:Obj}(q:h.get? b=some ob)(n:H b=none)(hx:b ∉ ex):∃ sl,h1.get? b=some { ob with slots:=sl }:=by
 by_cases hb:b∈fs
 ·exact u.slot b ob q n hb hx
 exact⟨ob.slots,u.keep b ob q n hb hx⟩
theorem Un.kept (k:∀ b u,h.get? b=some u->h'.get? b=some u):Un fs ex H H h h' :=
 ⟨λb ob q _ _ _=>k b ob q,λb ob q _ _ _=>⟨ob.slots,k b ob q⟩,λ_ _ _ n _=>n,λb ob q _=>⟨ob,k b ob q⟩,λ_ _ q=>q,λ_ _ _ q=>q,λ_ ps q=>⟨#[],by rw[q];simp⟩⟩
theorem Un.refl:Un fs ex H H h h:=Un.kept λ_ _ q=>q
theorem Un.laid (k:∀ b u,h.get? b=some u->h'.get? b=some u)(hp:h.objs.size<=a)(hn:H a=none):Un fs ex H (upd H a o) h h' where
 keep:=λb u q _ _ _=>k b u q
 slot:=λb u q _ _ _=>⟨u.slots,k b u q⟩
 free:=λb u q n _=>by rw[Zi (YT (YN (YH q) hp))];exact n
 there:=λb u q _=>⟨u,k b u q⟩
 tups:=λb xs q=>by rw[Zi (Zb q hn)];exact q
 frzs:=λb u xs q=>by rw[Zi (Zb q hn)];exact q
 tbls:=λb ps q=>⟨#[],by rw[Zi (Zb q hn),q];simp⟩
theorem Un.write (mu:Mut (H x))(he:e=x \/ H e=some (.own x))(k:∀ b u,b≠e->h.get? b=some u->h'.get? b=some u)(heo:∃ u,h'.get? e=some u):Un fs ex H (upd H x o) h h':=by
 have hx:∀ b,H b=none->b≠x:=λb n z=>by subst z;rw[n] at mu;exact mu
 have hb:∀ b,H b=none->b≠e:=λb n z=>by
  subst z;rcases he with r | r
  ·exact hx b n r
  rw[n] at r;cases r
 have hm:∀ b u,H b=some u->¬ Mut (some u)->b≠x:=λb u q nm z=>by subst z;rw[q] at mu;exact nm mu
 refine⟨λb u q n _ _=>k b u (hb b n) q,λb u q n _ _=>⟨u.slots,k b u (hb b n) q⟩,λb u q n _=>by rw[Zi (hx b n)];exact n,λb u q _=>?_,
  λb xs q=>by rw[Zi (hm b _ q λz=>z)];exact q,λb u xs q=>by rw[Zi (hm b _ q λz=>z)];exact q,λb ps q=>⟨#[],by rw[Zi (hm b _ q λz=>z),q];simp⟩⟩
 by_cases hbe:b=e
 ·subst hbe;exact heo
 exact⟨u,k b u hbe q⟩
end
def trk (h:Heap)(H:Hp):List Addr:=(List.range h.objs.size).filter λa=>(H a).isSome
def hidT (h:Heap)(H:Hp):Heap:=W.hideAll h (trk h H)
theorem Mm (h:Heap)(H:Hp):(hidT h H).objs.size=h.objs.size:=W.hideAll_size _ _
theorem Kf {H:Hp}(e:h.get? b=some o)(n:H b=none):(hidT h H).get? b=some o :=
 W.hideAll_get _ e λhm=>by
  have q:(H b).isSome=true:=(qM.mp hm).2;rw[n] at q;simp at q
theorem Jl {h:Heap}{H:Hp}{b:Addr}{o:Obj}(e:(hidT h H).get? b=some o):h.get? b=some o/\H b=none:=by
 have e':h.get? b=some o:=W.of_hideAll (trk h H) e;refine⟨e',?_⟩
 cases q:H b with
 | none=>rfl
 | some x =>
  have hm:b∈trk h H:=qM.mpr ⟨qr.mpr (YH e'),by simp[q]⟩;have z:(hidT h H).get? b=none:=W.hideAll_none (trk h H) hm;rw[z] at e;cases e
def allNews (g h:Heap)(L:Addr):List (Addr × Obj):=(List.range h.objs.size).filterMap λa=>if a=L \/ (g.get? a).isSome=true then none else (h.get? a).map λo=>(a,o)
def rest (g h:Heap)(L d:Addr):List (Addr × Obj):=(allNews g h L).filter λp=>decide (p.1≠d)
end L2
variable {H H' H1:L2.Hp}{v:L2.V}{xs ys:TQ}
namespace Sb
open PySem PySem.Spec PyProof.Rows
def Seen (P:TM)(l:List Env):Prop:=P.given.tree=none/\∃ e r,l=e::r/\e.scope.isGenerator=false/\e.scope.isCoroutine=false/\e.builtins=builtinsNs/\e.globals=mainGlobals
end Sb
namespace L2
open PySem PySem.Spec PyProof.Rows
structure Mod (K:TL)(mg:Tn)(base:Heap):Prop where
 kin:K.In base
 glob:base.Ns mainGlobals mg
 blt:∃ mb,base.Ns builtinsNs mb/\∀ x:Str,x≠"__name__"->mb x=bootBuiltins x
 nolimit:base.NoLimit
 seer:base.NoSeer
structure Cx where
 prog:Program
 w:World
 K:W.Frag
 mg:Str->Option Value
 base:Heap
 A:Around
 N:List Str
 s₀:Shared
 H₀:Hp
 env:Env
 outer:List Env
 stack:List Env
 ex:List Addr
 fn:Str->Bool
 calm:Bool
 pn:List (Addr × Obj)
 xe:Value->Shared->Prop
def frs (l:List Env):List Addr:=l.filterMap (·.frame)
abbrev Cx.fs (X:Cx):List Addr:=frs X.outer
def Vis (sc:Scope)(x:Str):Prop:=sc.names.lookup x=some .local \/ sc.names.lookup x=some .cell \/ sc.names.lookup x=some .free
def Loc (sc:Scope)(x:Str):Prop:=sc.names.lookup x=some .local \/ sc.names.lookup x=some .cell
def Look (env:Env)(h:Heap)(m:Tn)(x:Str)(u:Value):Prop :=
 (env.kindOf x=some .local/\m x=some u) \/ ((env.kindOf x=some .cell \/ env.kindOf x=some .free)/\∃ c,env.cells.lookup x=some c/\h.IsCell c (some u))
structure Cx.Ok (X:Cx):Prop where
 mod:Mod X.K X.mg X.base
 kind:X.env.scope.kind=.function
 glob:X.env.globals=mainGlobals
 blt:X.env.builtins=builtinsNs
 above:X.s₀.heap.objs.size<=X.env.locals
 inj:∀ x y c,X.env.cells.lookup x=some c->X.env.cells.lookup y=some c->x=y
 has:∀ x,(X.env.kindOf x=some .cell \/ X.env.kindOf x=some .free)->∃ c,X.env.cells.lookup x=some c
 cab:∀ x c,X.fn x=true->X.env.cells.lookup x=some c->X.s₀.heap.objs.size<=c
 hd:X.calm=true->Sb.QtP X.A X.pn
 frames:X.A.frames=some X.stack
 stk:X.stack=X.outer \/ (X.stack=X.env::X.outer/\X.env.frame=some X.env.locals)
 exf:∀ b∈X.ex,b≠X.env.locals/\∀ x c,X.env.cells.lookup x=some c->c≠b
 bs:∀ b o,X.base.get? b=some o->X.s₀.heap.get? b=some o/\X.H₀ b=none
 bsz:X.base.objs.size<=X.s₀.heap.objs.size
 noex:∀ b o,X.base.get? b=some o->b ∉ X.ex
 exfs:∀ b∈X.ex,b ∉ X.fs
 funs:X.s₀.heap.FunFrames X.base X.outer
 frf:∀ b∈X.fs,X.H₀ b=none
 seen:Sb.Seen X.prog X.stack
 dpt:X.A.depth+100<recursionLimit
structure Inv (X:Cx)(pins:TC)(σ:List (Option V))(H:Hp)(s:Shared):Prop where
 ok:X.Ok
 os:s.os=X.s₀.os
 bare:AllBare s.gens
 base:Un X.fs X.ex X.H₀ H X.s₀.heap s.heap
 loc:∃ m,s.heap.Ns X.env.locals m/\∀ (i:Nat) (x:Str) (v:V),X.N[i]?=some x->σ[i]?=some (some v)->Vis X.env.scope x->∃ u,RelV v u/\Look X.env s.heap m x u
 cell:∀ x c,X.env.cells.lookup x=some c->∃ v,s.heap.IsCell c v
 free:H X.env.locals=none
 freeC:∀ x c,X.env.cells.lookup x=some c->H c=none
 pin:∀ p∈X.pn++pins,s.heap.get? p.1=some p.2/\H p.1=none/\p.1≠X.env.locals/\p.1 ∉ X.fs/\∀ v,p.2.data≠.cell v
 hok:HOk X.prog X.w H s.heap
 len:σ.length=X.N.length
theorem Inv.qt {X:Cx}{σ:List (Option V)}(I:Inv X pins σ H s)(hc:X.calm=true):Sb.Qt X.A s.heap:=(I.ok.hd hc).at λp hp=>(I.pin p (YW _ hp)).1
section
variable {X:Cx}{pins:TC}{σ:List (Option V)}{H H':Hp}{s:Shared}{h':Heap}
theorem Cx.Ok.nofr (ok:X.Ok){b:Addr}{o:Obj}(e:X.base.get? b=some o):b ∉ X.fs:=λhb=>by
 have:=(ok.funs.mem hb).1;rw[e] at this;cases this
theorem Inv.bs (I:Inv X pins σ H s):∀ b o,X.base.get? b=some o->s.heap.get? b=some o/\H b=none:=λb o e =>
 ⟨I.base.keep b o (I.ok.bs b o e).1 (I.ok.bs b o e).2 (I.ok.nofr e) (I.ok.noex b o e),I.base.free b o (I.ok.bs b o e).1 (I.ok.bs b o e).2 (I.ok.noex b o e)⟩
theorem Inv.bk (I:Inv X pins σ H s):∀ b o,X.base.get? b=some o->s.heap.get? b=some o:=λb o e=>(I.bs b o e).1
theorem Inv.mod (I:Inv X pins σ H s):Mod X.K X.mg X.base:=I.ok.mod
theorem Inv.kIn (I:Inv X pins σ H s):X.K.In s.heap:=I.ok.mod.kin.keeps I.bk
theorem Inv.nolimit (I:Inv X pins σ H s):s.heap.NoLimit:=I.ok.mod.nolimit.keeps I.bk
theorem Inv.pylong (I:Inv X pins σ H s):PySem.PylongRoom (model X.prog X.w) X.A s:=by
 obtain⟨ht,e,l,hs,h1,h2,h3,h4⟩:=I.ok.seen;exact PySem.PylongRoom.of I.nolimit I.ok.dpt (PySem.SeerAt.of (I.ok.mod.seer.keeps I.bk) ht (by rw[I.ok.frames,hs]) h1 h2 h3 h4)
theorem Inv.lt (I:Inv X pins σ H s):X.env.locals<s.heap.objs.size:=let ⟨_,hn,_⟩:=I.loc;hn.lt
theorem Inv.sz (I:Inv X pins σ H s):X.s₀.heap.objs.size<=s.heap.objs.size:=XA I.ok.above (qV I.lt)
theorem Inv.nofs (I:Inv X pins σ H s){a:Addr}(h:s.heap.objs.size<=a):a ∉ X.fs:=λhb=>by
 obtain⟨_,o,ho,_⟩:=I.ok.funs.mem hb;exact absurd (YN (YH ho) (XA I.sz h)) (XO _)
theorem Inv.cne (I:Inv X pins σ H s):∀ x c,X.env.cells.lookup x=some c->c≠X.env.locals:=λx c e z=>by
 obtain⟨v,o,ho,hd⟩:=I.cell x c e;obtain⟨m,⟨o',es,ep,ho',hd',_⟩,_⟩:=I.loc;rw[z,ho'] at ho;cases ho;rw[hd'] at hd;cases hd
theorem Inv.funs (I:Inv X pins σ H s):s.heap.FunFrames X.base X.outer:=by
 have all:∀ (l:List Env),(∀ b∈frs l,b∈X.fs)->X.s₀.heap.FunFrames X.base l->s.heap.FunFrames X.base l:=by
  intro l
  induction l with
  | nil=>intro _ _;trivial
  | cons env r ih =>
   intro hs hl;obtain⟨hk,⟨L,o,hf,hn,ho,hd⟩,hr⟩:=hl;have hL:L∈X.fs:=hs L (by unfold frs;rw[JP,hf];exact YL);obtain⟨sl,e⟩:=I.base.slot L o ho (I.ok.frf L hL) hL λz=>I.ok.exfs L z hL;exact⟨hk,⟨L,_,hf,hn,e,hd⟩,ih (λb hb=>hs b (by unfold frs;rw[JP,hf];exact YK _ hb)) hr⟩
 exact all X.outer (λ_ hb=>hb) I.ok.funs
theorem Inv.stack (I:Inv X pins σ H s):s.heap.FunFrames X.base X.stack:=by
 rcases I.ok.stk with e | ⟨e,hf⟩
 ·rw[e];exact I.funs
 rw[e];obtain⟨m,hn,_⟩:=I.loc;refine .cons (by rw[I.ok.kind];decide) hf hn ?_ I.funs;exact Heap.get?_none_of_le (XA I.ok.bsz I.ok.above)
theorem Inv.stkSub (I:Inv X pins σ H s):∀ b∈frs X.stack,b∈X.env.locals::X.fs:=λb hb=>by
 rcases I.ok.stk with e | ⟨e,hf⟩
 ·rw[e] at hb;exact YK _ hb
 rw[e] at hb;unfold frs at hb;rw[JP,hf] at hb;exact hb
theorem Inv.stkFree (I:Inv X pins σ H s):∀ b∈frs X.stack,H b=none:=λb hb=>by
 rcases YJ.mp (I.stkSub b hb) with e | hb
 ·rw[e];exact I.free
 obtain⟨_,o,ho,_⟩:=I.ok.funs.mem hb;exact I.base.free b o ho (I.ok.frf b hb) λz=>I.ok.exfs b z hb
theorem Inv.step {g':Array GenState}{t':Nat}{d':Drawn}{ch:TH}(I:Inv X pins σ H s)
  (hch:∀ b∈ch,(b∈X.ex \/ X.s₀.heap.objs.size<=b)/\b≠X.env.locals/\(∀ x c,X.env.cells.lookup x=some c->c≠b)/\∀ p∈X.pn++pins,p.1≠b)
  (keep:∀ b o,b≠X.env.locals->b ∉ X.fs->b ∉ ch->s.heap.get? b=some o->H b=none->h'.get? b=some o)
  (slot:∀ b o,b≠X.env.locals->b∈X.fs->b ∉ ch->s.heap.get? b=some o->H b=none->∃ sl,h'.get? b=some { o with slots:=sl }) (free:∀ b o,b ∉ ch->s.heap.get? b=some o->H b=none->H' b=none)
  (there:∀ b o,b ∉ ch->s.heap.get? b=some o->∃ o',h'.get? b=some o')
  (tups:∀ b xs,H b=some (.tup xs)->H' b=some (.tup xs)) (frzs:∀ b o u,H b=some (.frz o u)->H' b=some (.frz o u)) (tbls:∀ b ps,H b=some (.tbl ps)->∃ more,H' b=some (.tbl (ps++more)))
  (ns:∀ m,s.heap.Ns X.env.locals m->h'.Ns X.env.locals m) (hok:HOk X.prog X.w H' h') (hg:AllBare g') :
  Inv X pins σ H' { s with heap:=h',gens:=g',drawn:=d',toks:=t' }:=by
 have neL:∀ b o,X.s₀.heap.get? b=some o->b≠X.env.locals:=λb o e=>YT (YN (YH e) I.ok.above);have neC:∀ b o,X.s₀.heap.get? b=some o->b ∉ X.ex->b ∉ ch:=λb o e hx hb=>by
  rcases (hch b hb).1 with z | z
  ·exact hx z
  exact absurd (YN (YH e) z) (XO _)
 have cellK:∀ x c,X.env.cells.lookup x=some c->∀ v,s.heap.IsCell c v->h'.IsCell c v:=λx c e v ⟨o,ho,hd⟩=>by
  have nch:c ∉ ch:=λz=>(hch c z).2.2.1 x c e rfl;by_cases hc:c∈X.fs
  ·obtain⟨sl,q⟩:=slot c o (I.cne x c e) hc nch ho (I.freeC x c e);exact⟨_,q,hd⟩
  exact⟨o,keep c o (I.cne x c e) hc nch ho (I.freeC x c e),hd⟩
 refine⟨I.ok,I.os,hg,⟨λb o e n hb hx=>?_,λb o e n hb hx=>?_,λb o e n hx=>?_,λb o e hx=>?_,λb xs e=>tups b xs (I.base.tups b xs e),λb o xs e=>frzs b o xs (I.base.frzs b o xs e),λb ps e=>?_⟩,?_,λx c e=>?_,?_,λx c e=>?_,λp hp=>?_,hok,I.len⟩
 ·exact keep b o (neL b o e) hb (neC b o e hx) (I.base.keep b o e n hb hx) (I.base.free b o e n hx)
 ·obtain⟨sl,e1⟩:=I.base.slot b o e n hb hx;obtain⟨sl',e2⟩:=slot b _ (neL b o e) hb (neC b o e hx) e1 (I.base.free b o e n hx);exact⟨sl',e2⟩
 ·obtain⟨o',e1⟩:=I.base.there b o e hx;exact free b o' (neC b o e hx) e1 (I.base.free b o e n hx)
 ·obtain⟨o',e1⟩:=I.base.there b o e hx;exact there b o' (neC b o e hx) e1
 ·obtain⟨m1,e1⟩:=I.base.tbls b ps e;obtain⟨m2,e2⟩:=tbls b _ e1;exact⟨m1++m2,by rw[e2,Array.append_assoc]⟩
 ·obtain⟨m,hn,hl⟩:=I.loc;refine⟨m,ns m hn,λi x v e1 e2 e3=>?_⟩;obtain⟨u,r,l⟩:=hl i x v e1 e2 e3;refine⟨u,r,?_⟩;rcases l with l | ⟨k,c,e,z⟩
  ·exact .inl l
  exact .inr ⟨k,c,e,cellK x c e _ z⟩
 ·obtain⟨v,z⟩:=I.cell x c e;exact⟨v,cellK x c e v z⟩
 ·obtain⟨m,⟨o,_,_,ho,_⟩,_⟩:=I.loc;exact free _ o (λz=>(hch _ z).2.1 rfl) ho I.free
 ·obtain⟨v,o,ho,hd⟩:=I.cell x c e;exact free c o (λz=>(hch c z).2.2.1 x c e rfl) ho (I.freeC x c e)
 obtain⟨e,n,ne,nf,d⟩:=I.pin p hp;have nch:p.1 ∉ ch:=λz=>(hch p.1 z).2.2.2 p hp rfl;exact⟨keep p.1 p.2 ne nf nch e n,free p.1 p.2 nch e n,ne,nf,d⟩
theorem Inv.un {t':Nat}(I:Inv X pins σ H s)(u:Un X.fs [] H H' s.heap h')(hok:HOk X.prog X.w H' h'):Inv X pins σ H' { s with heap:=h',toks:=t' }:=by
 obtain⟨m,⟨o,es,ep,ho,r⟩,_⟩:=id I.loc;obtain⟨sl,hL⟩:=u.any ho I.free J1;exact I.step (g':=s.gens) (d':=s.drawn) (ch:=[]) (λ_ z=>nomatch z) (λb o _ hb _ e n=>u.keep b o e n hb J1) (λb o _ hb _ e n=>u.slot b o e n hb J1) (λb o _ e n=>u.free b o e n J1) (λb o _ e=>u.there b o e J1) u.tups u.frzs u.tbls (λm' hm=>by
  obtain⟨o',es',ep',ho',r'⟩:=hm;rw[ho] at ho';cases ho';exact⟨_,es',ep',hL,r'⟩) hok I.bare
theorem Inv.call {g':Array GenState}{t':Nat}{d':Drawn}{ch:TH}(I:Inv X pins σ H s)(u:Un (frs X.stack) ch H H' s.heap h')(hok:HOk X.prog X.w H' h')(hg:AllBare g')
  (hch:∀ b∈ch,(b∈X.ex \/ X.s₀.heap.objs.size<=b)/\b≠X.env.locals/\(∀ x c,X.env.cells.lookup x=some c->c≠b)/\∀ p∈X.pn++pins,p.1≠b) :
  Inv X pins σ H' { s with heap:=h',gens:=g',drawn:=d',toks:=t' }:=by
 obtain⟨m,⟨o,es,ep,ho,r⟩,_⟩:=id I.loc;obtain⟨sl,hL⟩:=u.any ho I.free λz=>(hch _ z).2.1 rfl;exact I.step (ch:=ch) hch (λb o hL hb hc e n=>u.keep b o e n (λz=>(YJ.mp (I.stkSub b z)).elim hL hb) hc) (λb o _ _ hc e n=>u.any e n hc) (λb o hc e n=>u.free b o e n hc) (λb o hc e=>u.there b o e hc) u.tups u.frzs u.tbls (λm' hm=>by
  obtain⟨o',es',ep',ho',r'⟩:=hm;rw[ho] at ho';cases ho';exact⟨_,es',ep',hL,r'⟩) hok hg
theorem Inv.turned {t':Nat}(I:Inv X pins σ H s)(k:∀ b o,b≠it->s.heap.get? b=some o->h'.get? b=some o)(hn:H it=none)(hL:it≠X.env.locals)
  (h1:it∈X.ex \/ X.s₀.heap.objs.size<=it) (h2:∀ x c,X.env.cells.lookup x=some c->c≠it) (h3:∀ p∈X.pn++pins,p.1≠it):Inv X pins σ H { s with heap:=h',toks:=t' }:=by
 have nit:∀ b u,H b=some u->b≠it:=λb u e z=>by rw[z,hn] at e;cases e
 refine I.step (g':=s.gens) (d':=s.drawn) (ch:=[it]) (λb hb=>?_) (λb o _ _ hc e _=>k b o (λz=>hc (by simp[z])) e) (λb o _ _ hc e _=>⟨o.slots,k b o (λz=>hc (by simp[z])) e⟩) (λ_ _ _ _ n=>n)
  (λb o hc e=>⟨o,k b o (λz=>hc (by simp[z])) e⟩) (λ_ _ e=>e) (λ_ _ _ e=>e) (λb ps e=>⟨#[],by rw[e];simp⟩) (λm hm=>?_) (λb u e=>?_) I.bare
 ·have e:b=it:=by simpa using hb
  subst e;exact⟨h1,hL,h2,h3⟩
 ·obtain⟨o,es,ep,ho,r⟩:=hm;exact⟨o,es,ep,k _ o (GM hL) ho,r⟩
 refine (I.hok b u e).stay (λc v hc q=>k c v ?_ q) (λ_ q=>q) λ_ _ q=>q;rcases hc with z | z
 ·rw[z];exact nit b u e
 exact nit c _ z
theorem Inv.tok (I:Inv X pins σ H s)(t:Nat):Inv X pins σ H { s with toks:=t }:=I.un (h':=s.heap) (t':=t) Un.refl I.hok
theorem Inv.kept {t':Nat}(I:Inv X pins σ H s)(k:∀ b u,s.heap.get? b=some u->h'.get? b=some u):Inv X pins σ H { s with heap:=h',toks:=t' }:=I.un (Un.kept k) (I.hok.kept k)
theorem Inv.laid {a:Addr}{o:HO}{t':Nat}(I:Inv X pins σ H s)(k:∀ b u,s.heap.get? b=some u->h'.get? b=some u)(hp:s.heap.objs.size<=a)(new:ObjOk X.prog X.w (upd H a o) h' a o) :
  Inv X pins σ (upd H a o) { s with heap:=h',toks:=t' }:=I.un (Un.laid k hp (I.hok.fresh hp)) (I.hok.laid k hp new)
theorem Inv.write {x e:Addr}{o:HO}{t':Nat}(I:Inv X pins σ H s)(mu:Mut (H x))(he:e=x \/ H e=some (.own x))(k:∀ b u,b≠e->s.heap.get? b=some u->h'.get? b=some u)(heo:∃ u,h'.get? e=some u)
  (new:ObjOk X.prog X.w (upd H x o) h' x o):Inv X pins σ (upd H x o) { s with heap:=h',toks:=t' }:=I.un (Un.write mu he k heo) (I.hok.write mu he k heo new)
theorem Inv.weak {σ':List (Option V)}(I:Inv X pins σ H s)(hl:σ'.length=σ.length)(w:∀ (i:Nat) v,σ'[i]?=some (some v)->σ[i]?=some (some v)):Inv X pins σ' H s :=
 ⟨I.ok,I.os,I.bare,I.base,let ⟨m,hn,hl'⟩:=I.loc;⟨m,hn,λi x v e1 e2 e3=>hl' i x v e1 (w i v e2) e3⟩,I.cell,I.free,I.freeC,I.pin,I.hok,hl.trans I.len⟩
theorem Inv.pins_of {pins':TC}(I:Inv X pins σ H s)(h:∀ p∈pins',s.heap.get? p.1=some p.2/\H p.1=none/\p.1≠X.env.locals/\p.1 ∉ X.fs/\∀ v,p.2.data≠.cell v):Inv X pins' σ H s :=
 ⟨I.ok,I.os,I.bare,I.base,I.loc,I.cell,I.free,I.freeC,λp hp=>(YY.mp hp).elim (λz=>I.pin p (YW _ z)) (h p),I.hok,I.len⟩
theorem Rz (hN:N.Nodup){i j:Nat}{x:Str}(a:N[i]?=some x)(b:N[j]?=some x):i=j:=by
 obtain⟨h1,e1⟩:=XG.mp a;obtain⟨h2,e2⟩:=XG.mp b;exact (List.getElem_inj hN).mp (e1.trans e2.symm)
theorem Ur {M:Model}{A:Around}{E:TB}{i:Nat}{x:Str}{Q:Unit->Shared->Prop}(I:Inv X pins σ H s)(hN:X.N.Nodup)(hi:X.N[i]?=some x)(hx:Loc X.env.scope x)(r:RelV v u)
  (h:∀ s',Inv X pins (σ.set i (some v)) H s'->(∃ a,Heap.SameBut a s.heap s'.heap/\(a=X.env.locals \/ X.env.cells.lookup x=some a))->Q () s') (hf:X.fn x=true \/ X.env.scope.names.lookup x=some .local:=by first | exact .inl rfl | exact .inr rfl | assumption):wpAny M A (storeName X.env x u) Q E s:=by
 obtain⟨m,hn,hl⟩:=id I.loc;have hcls:(X.env.scope.kind == .class || (X.env.scope.kind == .module && X.env.locals != X.env.globals))=false:=by rw[I.ok.kind];rfl
 have hiσ:i<σ.length:=by rw[I.len];exact (XG.mp hi).1
 have cne:=I.cne;have tracked:∀ {a:Addr} {h':Heap},(∃ o,s.heap.get? a=some o/\H a=none)->Heap.SameBut a s.heap h'->HOk X.prog X.w H h':=λ{a h'} ha hs b ob e=>by
  obtain⟨_,_,hfree⟩:=ha;refine (I.hok b ob e).stay (λc w' hc q=>(hs.2 c ?_).trans q) (λ_ q=>q) λ_ _ q=>q;rintro rfl;rcases hc with rfl | hc
  ·rw[hfree] at e;cases e
  rw[hfree] at hc;cases hc
 rcases hx with hk | hk
 ·refine wpAny_storeName_local hk hn (λh' hn' hs=>?_) hcls;obtain⟨oL,_,_,hoL,_⟩:=id hn;refine h _ ⟨I.ok,I.os,I.bare,⟨λb o e n hb hx=>?_,λb o e n hb hx=>?_,I.base.free,λb o e hx=>?_,I.base.tups,I.base.frzs,I.base.tbls⟩,⟨_,hn',λj y v' e1 e2 e3=>?_⟩,λy c e=>?_,I.free,I.freeC,λp hp=>?_,tracked ⟨oL,hoL,I.free⟩ hs,by simpa using I.len⟩ ⟨_,hs,.inl rfl⟩
  ·exact (hs.2 b (YT (YN (YH e) I.ok.above))).trans (I.base.keep b o e n hb hx)
  ·obtain⟨sl,e1⟩:=I.base.slot b o e n hb hx;exact⟨sl,(hs.2 b (YT (YN (YH e) I.ok.above))).trans e1⟩
  ·obtain⟨o',e1⟩:=I.base.there b o e hx;exact⟨o',(hs.2 b (YT (YN (YH e) I.ok.above))).trans e1⟩
  ·by_cases hj:j=i
   ·subst hj;rw[hi] at e1;cases e1;rw[qW hiσ] at e2
    cases e2;exact⟨u,r,.inl ⟨hk,J1⟩⟩
   rw[jS (GM hj)] at e2;obtain⟨u',r',q⟩:=hl j y v' e1 e2 e3;refine⟨u',r',?_⟩;rcases q with ⟨k,e⟩ | ⟨k,c,e,z⟩
   ·refine .inl ⟨k,?_⟩;have:y≠x:=λe=>hj (Rz hN e1 (e ▸ hi));simp[this,e]
   exact .inr ⟨k,c,e,z.sameBut hs (cne y c e)⟩
  ·obtain⟨w',z⟩:=I.cell y c e;exact⟨w',z.sameBut hs (cne y c e)⟩
  obtain⟨e,n,ne,nf,d⟩:=I.pin p hp;exact⟨(hs.2 p.1 ne).trans e,n,ne,nf,d⟩
 have hfn:X.fn x=true:=by
  rcases hf with z | z
  ·exact z
  rw[z] at hk;cases hk
 obtain⟨c,hc⟩:=I.ok.has x (.inl hk);obtain⟨w',z⟩:=I.cell x c hc;refine wpAny_storeName_cell I.ok.kind hk hc z (λh' hc' hs=>?_);obtain⟨oc,hoc,hocd⟩:=id z;refine h { s with heap:=h' } ⟨I.ok,I.os,I.bare,⟨λb o e n hb hx=>?_,λb o e n hb hx=>?_,I.base.free,λb o e hx=>?_,I.base.tups,I.base.frzs,I.base.tbls⟩,⟨m,hn.sameBut hs (GM (cne x c hc)),λj y v' e1 e2 e3=>?_⟩,λy c' e=>?_,I.free,I.freeC,λp hp=>?_,tracked ⟨oc,hoc,I.freeC x c hc⟩ hs,by simpa using I.len⟩ ⟨c,hs,.inr hc⟩
 ·exact (hs.2 b (YT (YN (YH e) (I.ok.cab x c hfn hc)))).trans (I.base.keep b o e n hb hx)
 ·obtain⟨sl,e1⟩:=I.base.slot b o e n hb hx;exact⟨sl,(hs.2 b (YT (YN (YH e) (I.ok.cab x c hfn hc)))).trans e1⟩
 ·obtain⟨o',e1⟩:=I.base.there b o e hx;exact⟨o',(hs.2 b (YT (YN (YH e) (I.ok.cab x c hfn hc)))).trans e1⟩
 ·by_cases hj:j=i
  ·subst hj;rw[hi] at e1;cases e1;rw[qW hiσ] at e2
   cases e2;exact⟨u,r,.inr ⟨.inl hk,c,hc,hc'⟩⟩
  rw[jS (GM hj)] at e2;obtain⟨u',r',q⟩:=hl j y v' e1 e2 e3;refine⟨u',r',?_⟩;rcases q with q | ⟨k,c',e,z'⟩
  ·exact .inl q
  refine .inr ⟨k,c',e,z'.sameBut hs ?_⟩;rintro rfl;exact hj (Rz hN e1 (I.ok.inj _ _ _ e hc ▸ hi))
 ·by_cases hcc:c'=c
  ·subst hcc;exact⟨_,hc'⟩
  obtain⟨w2,z2⟩:=I.cell y c' e;exact⟨w2,z2.sameBut hs hcc⟩
 obtain⟨e,n,ne,nf,d⟩:=I.pin p hp;refine⟨(hs.2 p.1 ?_).trans e,n,ne,nf,d⟩;intro q;rw[q,hoc] at e;have q':oc=p.2:=YR e;exact d w' (by rw[<-q'];exact hocd)
theorem R4 {M:Model}{A:Around}{E:TB}{i:Nat}{x:Str}{Q:Unit->Shared->Prop}(I:Inv X pins σ H s)(hN:X.N.Nodup)(hi:X.N[i]?=some x)(hx:Loc X.env.scope x)(r:RelV v u)
  (h:∀ s',Inv X pins (σ.set i (some v)) H s'->Q () s') (hf:X.fn x=true \/ X.env.scope.names.lookup x=some .local:=by first | exact .inl rfl | exact .inr rfl | assumption):wpAny M A (storeName X.env x u) Q E s :=
 Ur I hN hi hx r (λs' I' _=>h s' I') hf
theorem Inv.call' {s':Shared}{ch:TH}(I:Inv X pins σ H s)(ho:s'.os=s.os)(u:Un (frs X.stack) ch H H' s.heap s'.heap)(hok:HOk X.prog X.w H' s'.heap)(hg:AllBare s'.gens)
  (hch:∀ b∈ch,(b∈X.ex \/ X.s₀.heap.objs.size<=b)/\b≠X.env.locals/\(∀ x c,X.env.cells.lookup x=some c->c≠b)/\∀ p∈X.pn++pins,p.1≠b):Inv X pins σ H' s':=by
 obtain⟨h',g',d',t',o'⟩:=s';have e:o'=s.os:=ho;subst e;exact I.call (g':=g') (t':=t') (d':=d') u hok hg hch
end
abbrev XK:=Value->Option Addr->Hp->Prop
abbrev St:=List (Option V)
abbrev VK:=V->Hp->Prop
abbrev TE:=St->Hp->VK->Prop
abbrev TT:=St->Hp->(Bool->Hp->Prop)->Prop
abbrev TA:=St->Hp->(List V->Hp->Prop)->Prop
structure Ends where
 nx:St->Hp->Prop
 rt:VK
 bk:St->Hp->Prop:=λ_ _=>False
 ct:St->Hp->Prop:=λ_ _=>False
abbrev TS:=Ends->St->Hp->Prop
def EP (X:Cx)(pins:TC)(σ:St)(Q:VK)(u:Value)(s':Shared):Prop:=∃ v H',Inv X pins σ H' s'/\RelV v u/\Q v H'
def TP (X:Cx)(pins:TC)(σ:St)(Q:Bool->Hp->Prop)(b:Bool)(s':Shared):Prop:=∃ H',Inv X pins σ H' s'/\Q b H'
def AP (X:Cx)(pins:TC)(σ:St)(Q:List V->Hp->Prop)(us:TF)(s':Shared):Prop:=∃ vs H',Inv X pins σ H' s'/\Vals vs us/\Q vs H'
def SP (X:Cx)(pins:TC)(D:Ends)(f:Flow)(s':Shared):Prop :=
 match f with
 | .next=>∃ σ' H',Inv X pins σ' H' s'/\D.nx σ' H'
 | .brk=>∃ σ' H',Inv X pins σ' H' s'/\D.bk σ' H'
 | .cont=>∃ σ' H',Inv X pins σ' H' s'/\D.ct σ' H'
 | .ret u=>∃ v σ' H',Inv X pins σ' H' s'/\RelV v u/\D.rt v H'
def PE (X:Cx)(e:Expr)(t:TE):Prop :=
 ∀ (pins:TC) (s:Shared) (σ:St) (H:Hp) (Q:VK),Inv X pins σ H s->t σ H Q->wpAny (model X.prog X.w) X.A (eval e X.env) (EP X pins σ Q) X.xe s
def PT (X:Cx)(e:Expr)(t:TT):Prop :=
 ∀ (pins:TC) (s:Shared) (σ:St) (H:Hp) (Q:Bool->Hp->Prop),Inv X pins σ H s->t σ H Q->wpAny (model X.prog X.w) X.A (isTrue e X.env (eval e X.env)) (TP X pins σ Q) X.xe s
def PW (X:Cx)(e:Expr)(t:TT):Prop :=
 ∀ (whole:Sem Value) (pins:TC) (s:Shared) (σ:St) (H:Hp) (Q:Bool->Hp->Prop),Inv X pins σ H s->t σ H Q->wpAny (model X.prog X.w) X.A (isTrue e X.env whole) (TP X pins σ Q) X.xe s
theorem PW.pt {X:Cx}{e:Expr}{t:TT}(h:PW X e t):PT X e t:=h _
def PA (X:Cx)(es:TJ)(t:TA):Prop :=
 ∀ (pos:Pos) (pins:TC) (s:Shared) (σ:St) (H:Hp) (Q:List V->Hp->Prop),Inv X pins σ H s->t σ H Q->wpAny (model X.prog X.w) X.A (spliced (backTo pos (starEach es X.env))) (AP X pins σ Q) X.xe s
def PS (X:Cx)(st:Stmt)(t:TS):Prop :=
 ∀ (pins:TC) (s:Shared) (σ:St) (H:Hp) (D:Ends),Inv X pins σ H s->t D σ H->wpAny (model X.prog X.w) X.A (exec st X.env) (SP X pins D) X.xe s
def PSs (X:Cx)(st:List Stmt)(t:TS):Prop :=
 ∀ (pins:TC) (s:Shared) (σ:St) (H:Hp) (D:Ends),Inv X pins σ H s->t D σ H->wpAny (model X.prog X.w) X.A (execs st X.env) (SP X pins D) X.xe s
theorem thn {α:Type}{t:Sem α}{Q Q':α->Shared->Prop}{M:Model}(h:wpAny M A t Q E s)(hQ:∀ a s,Q a s->Q' a s):wpAny M A t Q' E s:=GX h hQ λ_ _ x=>x
end L2
variable {X:L2.Cx}{tb:L2.TS}{te tl:L2.TE}{σ:L2.St}
namespace L2
open PySem PySem.Spec PyProof.Rows
section
variable {X:Cx}
inductive tVar (i:Nat) (σ:L2.St) (H:Hp) (Q:VK):Prop
 | mk (v:_) (zz0:σ[i]?=some (some v)) (zz1:Q v H)
def tC (v:V):TE:=λ_ H Q=>Q v H
theorem Fa {i:Nat}{x:Str}{pos:Pos}(hN:X.N[i]?=some x)(hv:Vis X.env.scope x)(hd:(x == ("__debug__":Str))=false:=by decide)(hcd:(x == ("__classdict__":Str))=false:=by decide):PE X (.Name x pos) (tVar i):=by
 intro pins s σ H Q I h;obtain⟨v,e,h⟩:=h;obtain⟨m,hn,hl⟩:=I.loc;obtain⟨u,r,l⟩:=hl i x v hN e hv;have fin:EP X pins σ Q u s:=⟨v,H,I,r,h⟩;rcases l with ⟨hk,hm⟩ | ⟨hk,c,hc,hcell⟩
 ·exact wpAny_Name (wpAny_loadName_local I.ok.kind hk hn hm fin) hd
 rcases hk with hk | hk
 ·exact wpAny_Name (wpAny_loadName_cell I.ok.kind hk hc hcell fin) hd
 exact wpAny_Name (wpAny_loadName_free I.ok.kind hk hc hcell fin hcd) hd
theorem Z4 {i j pos}:PE X (.Constant (.int i) j pos) (tC (.int i)):=λ_ _ _ H _ I h=>wpAny_Constant_int ⟨.int i,H,I.tok _,⟨_,rfl⟩,h⟩
theorem Xv {b j pos}:PE X (.Constant (.bool b) j pos) (tC (.bl b)):=λ_ _ _ H _ I h=>Constant_bool ⟨.bl b,H,I,rfl,h⟩
theorem Zl {j pos}:PE X (.Constant .none j pos) (tC .non):=λ_ _ _ H _ I h=>Constant_none ⟨.non,H,I,rfl,h⟩
theorem Zj {x j pos}:PE X (.Constant (.str x) j pos) (tC (.str x)):=λ_ _ _ H _ I h=>Calls.Constant_str ⟨.str x,H,I.tok _,⟨_,rfl⟩,h⟩
def Gl (X:Cx)(x:Str):Prop:=X.env.kindOf x=some .globalImplicit
theorem N6 {E:TB}{x:Str}{pos:Pos}{Q:TB}(I:Inv X pins σ H s)(hg:Gl X x)(hm:X.mg x=some u)(h:Q u s)
  (hd:(x == ("__debug__":Str))=false:=by decide):wpAny (model X.prog X.w) X.A (eval (.Name x pos) X.env) Q E s :=
 zM I.ok.kind hg (Calls.loadGlobal_global (by rw[I.ok.glob];exact I.mod.glob.keeps I.bk) hm h) hd
theorem Wa {E:TB}{x:Str}{pos:Pos}{Q:TB}(I:Inv X pins σ H s)(hg:Gl X x)(hm:X.mg x=none)(hv:bootBuiltins x=some u)(h:Q u s)
  (hn:x≠"__name__":=by decide) (hd:(x == ("__debug__":Str))=false:=by decide):wpAny (model X.prog X.w) X.A (eval (.Name x pos) X.env) Q E s:=by
 obtain⟨mb,h1,h2⟩:=I.mod.blt;exact zM I.ok.kind hg (Calls.loadGlobal_builtin (by rw[I.ok.glob];exact I.mod.glob.keeps I.bk) hm (by rw[I.ok.blt];exact h1.keeps I.bk) ((h2 x hn).trans hv) h) hd
theorem Y8 {x:Str}{pos:Pos}(hg:Gl X x)(hm:X.mg x=some u)(r:RelV v u)(hd:(x == ("__debug__":Str))=false:=by decide):PE X (.Name x pos) (tC v) :=
 λ_ _ _ H _ I h=>N6 I hg hm ⟨v,H,I,r,h⟩ hd
theorem Jb {x:Str}{pos:Pos}(hg:Gl X x)(hm:X.mg x=none)(hv:bootBuiltins x=some u)(r:RelV v u)(hn:x≠"__name__":=by decide)(hd:(x == ("__debug__":Str))=false:=by decide):PE X (.Name x pos) (tC v) :=
 λ_ _ _ H _ I h=>Wa I hg hm hv ⟨v,H,I,r,h⟩ hn hd
variable {a b:Expr}{ta tb:TE}{pos:Pos}
inductive tB_i (Q:(Bool->Hp->Prop)) (x:V) (H1:Hp):Prop
 | mk (c:_) (zz0:x=.bl c) (zz1:Q c H1)
def tB (t:TE):TT:=λσ H Q=>t σ H (tB_i Q)
theorem Y6 {e:Expr}{t:TE}(h:PE X e t)(he:∀ whole,isTrue e X.env whole=(do let v <-whole;standAt e.pos;holding [v] (truthy v)):=by intro _;rfl):PT X e (tB t):=by
 intro pins s σ H Q I hw;refine isTrue_plain (thn (h pins s σ H _ I hw) λv s1 ⟨x,H1,I1,r1,q1⟩=>?_) (he _);obtain⟨d,rfl,q⟩:=q1
 cases r1;exact JL ⟨H1,I1,q⟩
variable {tA tB':TT}{rest:TJ}
def tOr (t u:TT):TT:=λσ H Q=>t σ H λc H1=>if c=true then Q true H1 else u σ H1 Q
def tNot (t:TT):TT:=λσ H Q=>t σ H λc H1=>Q (!c) H1
theorem Ym (ha:PT X a tA):PW X (.BoolOp .Or [a] pos) tA:=by
 intro wh pins s σ H Q I h;refine isTrue_or (thn (ha pins s σ H Q I h) λc s1 e=>?_)
 cases c with
 | false=>exact isTrue_or_nil e
 | true=>exact e
theorem Y4 (ha:PT X a tA)(hb:PW X (.BoolOp .Or (b::rest) pos) tB'):PW X (.BoolOp .Or (a::b::rest) pos) (tOr tA tB'):=by
 intro wh pins s σ H Q I h;refine isTrue_or (thn (ha pins s σ H _ I h) λc s1 ⟨H1,I1,q1⟩=>?_)
 cases c with
 | true=>exact⟨H1,I1,q1⟩
 | false=>exact hb wh pins s1 σ H1 Q I1 q1
theorem Y7 (ha:PT X a tA):PT X (.UnaryOp .Not a pos) (tNot tA):=by
 intro pins s σ H Q I h;exact isTrue_not (ha pins s σ H (λc H1=>Q (!c) H1) I h)
inductive tAndV_i (tb:TE) (σ:L2.St) (Q:VK) (x:V) (H1:Hp):Prop
 | mk (c:_) (zz0:x=.bl c) (zz1:if c=true then tb σ H1 Q else Q (.bl false) H1)
def tAndV (ta tb:TE):TE:=λσ H Q=>ta σ H (tAndV_i tb σ Q)
inductive tNotV_i (Q:VK) (x:V) (H1:Hp):Prop
 | mk (c:_) (zz0:x=.bl c) (zz1:Q (.bl (!c)) H1)
def tNotV (ta:TE):TE:=λσ H Q=>ta σ H (tNotV_i Q)
theorem Tt {op}{t:TE}(h:PE X a t):PE X (.BoolOp op [a] pos) t:=λpins s σ H Q I hw=>BoolOp_one (h pins s σ H Q I hw)
theorem Tu (ha:PE X a ta)(hb:PE X (.BoolOp .And (b::rest) pos) tb):PE X (.BoolOp .And (a::b::rest) pos) (tAndV ta tb):=by
 intro pins s σ H Q I h;refine BoolOp_and (thn (ha pins s σ H _ I h) λv s1 ⟨x,H1,I1,r1,q1⟩=>?_);obtain⟨c,rfl,q1⟩:=q1
 cases r1;refine JL ?_
 cases c with
 | true=>exact hb pins s1 σ H1 Q I1 q1
 | false=>exact⟨.bl false,H1,I1,rfl,q1⟩
theorem Lv (ha:PE X a ta):PE X (.UnaryOp .Not a pos) (tNotV ta):=by
 intro pins s σ H Q I h;refine UnaryOp_ (thn (ha pins s σ H _ I h) λv s1 ⟨x,H1,I1,r1,q1⟩=>?_);obtain⟨c,rfl,q1⟩:=q1
 cases r1;exact not_of (JL ⟨.bl (!c),H1,I1,rfl,q1⟩)
def tIf (t:TT)(ta tb:TE):TE:=λσ H Q=>t σ H λc H1=>if c=true then ta σ H1 Q else tb σ H1 Q
theorem Yu {c:Expr}(hc:PT X c tA)(ha:PE X a ta)(hb:PE X b tb):PE X (.IfExp c a b pos) (tIf tA ta tb):=by
 intro pins s σ H Q I h;refine wpAny_IfExp (thn (hc pins s σ H _ I h) λd s1 ⟨H1,I1,q1⟩=>?_)
 cases d with
 | true=>exact ha pins s1 σ H1 Q I1 q1
 | false=>exact hb pins s1 σ H1 Q I1 q1
end
def SqL (K:TL)(H:Hp)(a:Addr)(xs:TQ):Prop :=
 Rd H a (.lst xs) ∨
  ∃ (o:Obj) (its:Array Value) (n:Nat),K.lookup a=some o/\o.cls=.type "list"/\o.dict=none/\o.data=.seq its n/\its.size<=sizeLine/\Vals xs its.toList
def SqT (K:TL)(H:Hp)(a:Addr)(xs:TQ):Prop :=
 Rd H a (.tup xs) ∨
  ∃ (o:Obj) (its:Array Value) (n:Nat),K.lookup a=some o/\o.cls=.type "tuple"/\o.data=.seq its n/\its.size<=sizeLine/\Vals xs its.toList
def absV:Value->Option V
 | .none=>some .non
 | .bool b=>some (.bl b)
 | .int i _=>some (.int i)
 | .str x _=>some (.str x)
 | .bytes b _=>some (.byt b)
 | .float b _=>some (.flt b)
 | .ref a=>some (.ref a)
 | .type n=>some (.ty n)
 | _=>none
theorem RelV.abs {x:V}{u:Value}(r:RelV x u):absV u=some x:=by
 cases x with
 | non=>cases r;rfl
 | bl _=>cases r;rfl
 | int _=>obtain⟨t,rfl⟩:=r;rfl
 | str _=>obtain⟨t,rfl⟩:=r;rfl
 | byt _=>obtain⟨t,rfl⟩:=r;rfl
 | flt _=>obtain⟨t,rfl⟩:=r;rfl
 | ref _=>cases r;rfl
 | ty _=>cases r;rfl
theorem RelV.inj {x y:V}(r:RelV x u)(q:RelV y u):x=y:=YR (r.abs.symm.trans q.abs)
theorem Vals.inj:∀ {xs ys:TQ} {us:TF},Vals xs us->Vals ys us->xs=ys
 | _,_,_,.nil,.nil=>rfl
 | _,_,_,.cons r t,.cons r' t'=>by rw[r.inj r',Vals.inj t t']
section
variable {X:Cx}{pins:TC}{σ:St}{H:Hp}{s:Shared}{a:Addr}{xs ys:TQ}
theorem SqL.of (h:H a=some (.lst xs)):SqL K H a xs:=.inl (.inl h)
theorem SqT.of (h:H a=some (.tup xs)):SqT K H a xs:=.inl (.inl h)
theorem Inv.list (I:Inv X pins σ H s)(h:SqL X.K H a xs):∃ its:List Value,Vals xs its/\PlainL s.heap a its.toArray/\xs.length<=sizeLine:=by
 rcases h with h | ⟨o,its,n,hk,hc,hd,hs,hz,r⟩
 ·obtain⟨z,its,n,r,e⟩:=h.ok I.hok;exact⟨its,r,⟨_,n,e,rfl,rfl,rfl⟩,z⟩
 refine⟨its.toList,r,⟨o,n,I.kIn a o hk,hc,hd,by simpa using hs⟩,?_⟩;have e:=r.length;simp only [XZ] at e;omega
theorem Inv.tuple (I:Inv X pins σ H s)(h:SqT X.K H a xs):∃ its:List Value,Vals xs its/\IsTup s.heap a its.toArray/\xs.length<=sizeLine:=by
 rcases h with h | ⟨o,its,n,hk,hc,hs,hz,r⟩
 ·obtain⟨z,its,r,p⟩:=h.ok I.hok;exact⟨its,r,p,z⟩
 refine⟨its.toList,r,⟨o,I.kIn a o hk,hc,n,by simpa using hs⟩,?_⟩;have e:=r.length;simp only [XZ] at e;omega
theorem Inv.list_inj (I:Inv X pins σ H s)(h:SqL X.K H a xs)(h':SqL X.K H a ys):xs=ys:=by
 obtain⟨its,r,⟨o,n,e,_,_,d⟩,_⟩:=I.list h;obtain⟨its',r',⟨o',n',e',_,_,d'⟩,_⟩:=I.list h';rw[e] at e';cases e';rw[d] at d';injection d' with d1 _
 have:its=its':=by simpa using congrArg Array.toList d1
 subst this;exact r.inj r'
theorem Inv.tuple_inj (I:Inv X pins σ H s)(h:SqT X.K H a xs)(h':SqT X.K H a ys):xs=ys:=by
 obtain⟨its,r,⟨o,e,_,n,d⟩,_⟩:=I.tuple h;obtain⟨its',r',⟨o',e',_,n',d'⟩,_⟩:=I.tuple h';rw[e] at e';cases e';rw[d] at d';injection d' with d1 _
 have:its=its':=by simpa using congrArg Array.toList d1
 subst this;exact r.inj r'
end
abbrev Cx.wish (X:Cx)(E:TB):Cx:={ X with xe:=E }
abbrev Cx.nox (X:Cx):Cx:=X.wish λ_ _=>False
theorem Cx.Ok.wish {X:Cx}(ok:X.Ok)(E:TB):(X.wish E).Ok :=
 ⟨ok.mod,ok.kind,ok.glob,ok.blt,ok.above,ok.inj,ok.has,ok.cab,ok.hd,ok.frames,ok.stk,ok.exf,ok.bs,ok.bsz,ok.noex,ok.exfs,ok.funs,ok.frf,ok.seen,ok.dpt⟩
theorem Cx.Ok.unwish (ok:(X.wish E).Ok):X.Ok :=
 ⟨ok.mod,ok.kind,ok.glob,ok.blt,ok.above,ok.inj,ok.has,ok.cab,ok.hd,ok.frames,ok.stk,ok.exf,ok.bs,ok.bsz,ok.noex,ok.exfs,ok.funs,ok.frf,ok.seen,ok.dpt⟩
section
variable {X:Cx}{pins:TC}{σ:St}{H:Hp}{s:Shared}{E:TB}
theorem Inv.wish (I:Inv X pins σ H s)(E:TB):Inv (X.wish E) pins σ H s:=⟨I.ok.wish E,I.os,I.bare,I.base,I.loc,I.cell,I.free,I.freeC,I.pin,I.hok,I.len⟩
theorem Inv.unwish (I:Inv (X.wish E) pins σ H s):Inv X pins σ H s:=⟨I.ok.unwish,I.os,I.bare,I.base,I.loc,I.cell,I.free,I.freeC,I.pin,I.hok,I.len⟩
theorem SP.unwish {D:Ends}{f:Flow}{s':Shared}(h:SP (X.wish E) pins D f s'):SP X pins D f s':=by
 cases f with
 | next=>obtain⟨σ',H',I,q⟩:=h;exact⟨σ',H',I.unwish,q⟩
 | brk=>obtain⟨σ',H',I,q⟩:=h;exact⟨σ',H',I.unwish,q⟩
 | cont=>obtain⟨σ',H',I,q⟩:=h;exact⟨σ',H',I.unwish,q⟩
 | ret u=>obtain⟨v,σ',H',I,r,q⟩:=h;exact⟨v,σ',H',I.unwish,r,q⟩
theorem PSs.nox {st:List Stmt}{t:TS}(h:PSs X.nox st t):PSs X st t:=λpins s σ H D I hw =>
 GX (h pins s σ H D (I.wish _) hw) (λ_ _ q=>q.unwish) λ_ _ z=>False.elim z
end
section
variable {X:Cx}{st:Stmt}{rest:List Stmt}{t u:TS}{e:Expr}{te:TE}{pos:Pos}
def tNext:TS:=λD σ H=>D.nx σ H
def tSeq (t u:TS):TS:=λD σ H=>t { D with nx:=u D } σ H
theorem Zh:PSs X [] tNext:=λ_ _ σ H _ I h=>zt ⟨σ,H,I,h⟩
theorem Z3 (h1:PS X st t)(h2:PSs X rest u):PSs X (st::rest) (tSeq t u):=by
 intro pins s σ H D I h;refine wpAny_execs_cons (thn (h1 pins s σ H { D with nx:=u D } I h) λf s1 q=>?_)
 cases f with
 | next =>
  obtain⟨σ',H',I',q⟩:=q;exact h2 pins s1 σ' H' D I' q
 | ret v=>exact q
 | brk=>exact q
 | cont=>exact q
theorem Z6 (h1:PS X st t):PSs X [st] t:=by
 intro pins s σ H D I h;refine wpAny_execs_cons (thn (h1 pins s σ H D I h) λf s1 q=>?_)
 cases f with
 | next=>exact zt q
 | ret v=>exact q
 | brk=>exact q
 | cont=>exact q
theorem Inv.quiet (I:Inv X pins σ H s):interactive X.env=false:=by simp[interactive,I.ok.kind]
def tDrop (te:TE):TS:=λD σ H=>te σ H λ_ H1=>D.nx σ H1
theorem Yt (he:PE X e te)(hs:swapsWith e none pos.line X.env=pure false:=by rfl):PS X (.Expr e pos) (tDrop te):=by
 intro pins s σ H D I h;exact wpAny_Expr_any (thn (he pins s σ H _ I h) λv s1 ⟨x,H1,I1,r1,q1⟩=>⟨σ,H1,I1,q1⟩) I.quiet hs
def tRet (te:TE):TS:=λD σ H=>te σ H D.rt
theorem Za (he:PE X e te):PS X (.Return (some e) pos) (tRet te):=by
 intro pins s σ H D I h;exact wpAny_Return_some (thn (he pins s σ H _ I h) λv s1 ⟨x,H1,I1,r1,q1⟩=>⟨x,σ,H1,I1,r1,q1⟩)
def tIfS (c:TT)(t u:TS):TS:=λD σ H=>c σ H λb H1=>if b=true then t D σ H1 else u D σ H1
theorem Zr {c:Expr}{a b:List Stmt}{tc:TT}(hc:PT X c tc)(ha:PSs X a t)(hb:PSs X b u):PS X (.If c a b pos) (tIfS tc t u):=by
 intro pins s σ H D I h;refine wpAny_If (thn (hc pins s σ H _ I h) λd s1 ⟨H1,I1,q1⟩=>?_)
 cases d with
 | true=>exact ha pins s1 σ H1 D I1 q1
 | false=>exact hb pins s1 σ H1 D I1 q1
def tNever:TS:=λ_ _ _=>False
theorem Wk:PS X st tNever:=λ_ _ _ _ _ _ h=>h.elim
end
abbrev TG:=V->St->Hp->(St->Hp->Prop)->Prop
abbrev TGs:=List V->St->Hp->(St->Hp->Prop)->Prop
def PG (X:Cx)(target:Expr)(t:TG):Prop :=
 ∀ (pins:TC) (s:Shared) (σ:St) (H:Hp) (v:V) (u:Value) (Q:St->Hp->Prop),Inv X pins σ H s->RelV v u->t v σ H Q →
  wpAny (model X.prog X.w) X.A (assign target X.env u) (λ_ s'=>∃ σ' H',Inv X pins σ' H' s'/\Q σ' H') X.xe s
def PGs (X:Cx)(ts:TJ)(t:TGs):Prop :=
 ∀ (pins:TC) (s:Shared) (σ:St) (H:Hp) (vs:TQ) (us:TF) (Q:St->Hp->Prop),Inv X pins σ H s->Vals vs us->t vs σ H Q →
  wpAny (model X.prog X.w) X.A (assignInOrder ((assignEach ts X.env).map (·.2)) us) (λ_ s'=>∃ σ' H',Inv X pins σ' H' s'/\Q σ' H') X.xe s
abbrev TSet:=V->V->V->Hp->(Hp->Prop)->Prop
def PSet (X:Cx)(t:TSet):Prop :=
 ∀ (pins:TC) (s:Shared) (σ:St) (H:Hp) (o i v:V) (ov iv u:Value) (Q:Hp->Prop),Inv X pins σ H s->RelV o ov->RelV i iv->RelV v u->t o i v H Q →
  wpAny (model X.prog X.w) X.A (setItem ov iv u) (λ_ s'=>∃ H',Inv X pins σ H' s'/\Q H') X.xe s
section
variable {X:Cx}{pos:Pos}
def gName (i:Nat):TG:=λv σ H Q=>Q (σ.set i (some v)) H
theorem Zq {i:Nat}{x:Str}(hN:X.N.Nodup)(hi:X.N[i]?=some x)(hx:Loc X.env.scope x)(hf:X.fn x=true \/ X.env.scope.names.lookup x=some .local:=by first | exact .inl rfl | exact .inr rfl | assumption):PG X (.Name x pos) (gName i):=by
 intro pins s σ H v u Q I r h;exact wpAny_assign_Name (R4 I hN hi hx r (λs' I'=>⟨_,H,I',h⟩) hf)
def gNil:TGs:=λvs σ H Q=>vs=[]/\Q σ H
inductive gCons (t:TG) (u:TGs) (vs:TQ) (σ:L2.St) (H:Hp) (Q:(L2.St->Hp->Prop)):Prop
 | mk (v r:_) (zz0:vs=v::r) (zz1:t v σ H λσ' H'=>u r σ' H' Q)
theorem J9:PGs X [] gNil:=by
 intro pins s σ H vs us Q I r h;obtain⟨e,h⟩:=h;subst e
 cases r;exact assignInOrder_nil ⟨σ,H,I,h⟩
theorem Rq {e:Expr}{es:TJ}{t:TG}{u:TGs}(h1:PG X e t)(h2:PGs X es u)
  (hs:(assignEach (e::es) X.env).map (·.2)=assign e X.env::(assignEach es X.env).map (·.2):=by rfl):PGs X (e::es) (gCons t u):=by
 intro pins s σ H vs us Q I r h;obtain⟨v,vr,e1,h⟩:=h;subst e1
 cases r with
 | cons r rr =>
  rw[hs];refine assignInOrder_cons (thn (h1 pins s σ H _ _ _ I r h) λ_ s1 ⟨σ1,H1,I1,q1⟩=>?_);exact h2 pins s1 σ1 H1 _ _ Q I1 rr q1
inductive gTup (K:TL) (n:Nat) (t:TGs) (v:V) (σ:L2.St) (H:Hp) (Q:(L2.St->Hp->Prop)):Prop
 | mk (a xs:_) (zz0:v=.ref a) (zz1:SqT K H a xs) (zz2:xs.length=n) (zz3:t xs σ H Q)
theorem F9 {k:Nat}{t:TGs}{n:Nat}(hc:X.calm=true)(h:PGs X es t)
  (hn:(assignEach es X.env).length=n:=by rfl) (hst:(assignEach es X.env).findIdx? (·.1)=none:=by rfl):PG X (.Tuple es k pos) (gTup X.K n t):=by
 intro pins s σ H v u Q I r hw;obtain⟨a,xs,e1,hq,hl,hw⟩:=hw;subst e1
 cases r;obtain⟨its,rv,ht,hz⟩:=I.tuple hq;refine Sb.Ue (I.qt hc) ht (by simp[hn,<-hl,rv.length]) hst λh' hx=>?_;have I1:Inv X pins σ H { s with heap:=h' }:=I.kept (t':=s.toks) λb o e=>hx b o (YT (YH e)) e;exact h pins _ σ H xs _ Q I1 (by simpa using rv) hw
def gSub (to ti:TE)(t:TSet):TG:=λv σ H Q=>to σ H λo H1=>ti σ H1 λi H2=>t o i v H2 λH3=>Q σ H3
theorem Ts {o i:Expr}{to ti:TE}{t:TSet}(ho:PE X o to)(hi:PE X i ti)(hs:PSet X t)
  (ha:∀ v,assign (.Subscript o i pos) X.env v=(do
   let ov <-holding [v] (eval o X.env);let iv <-holding [v,ov] (eval i X.env)
   standAt pos
   holding [v,ov,iv] (setItem ov iv v)
   release [v,ov,iv] []):=by intro _;rfl):PG X (.Subscript o i pos) (gSub to ti t):=by
 intro pins s σ H v u Q I r h;rw[ha];refine YA (XM (thn (ho pins s σ H _ I h) λov s1 ⟨x,H1,I1,r1,q1⟩=>?_));refine YA (XM (thn (hi pins s1 σ H1 _ I1 q1) λiv s2 ⟨y,H2,I2,r2,q2⟩=>?_));refine YA (zk (YA (XM (thn (hs pins s2 σ H2 x y v ov iv u _ I2 r1 r2 r q2) λ_ s3 ⟨H3,I3,q3⟩=>?_))));exact wpAny_release ⟨σ,H3,I3,q3⟩
def tAsg (te:TE)(g:TG):TS:=λD σ H=>te σ H λx H1=>g x σ H1 D.nx
theorem Tq {e:Expr}(he:PE X e te)(hg:PG X tg g)(hs:swapsWithSole [tg] e pos.line X.env=pure false:=by rfl)(hw:swappedStores [tg] e X.env=pure none:=by rfl)
  (h1:(assignEach [tg] X.env).map (·.2)=[assign tg X.env]:=by rfl):PS X (.Assign [tg] e pos) (tAsg te g):=by
 intro pins s σ H D I h;refine wpAny_Assign_stores (thn (he pins s σ H _ I h) λv s1 ⟨x,H1,I1,r1,q1⟩=>?_) hs hw;rw[h1];exact thn (hg pins s1 σ H1 x v _ I1 r1 q1) λ_ s2 q=>q
theorem Z7 {i:Nat}{x:Str}{e:Expr}{te:TE}{pos':Pos}(hN:X.N.Nodup)(hi:X.N[i]?=some x)(hx:Loc X.env.scope x)(he:PE X e te)(hs:swapsWith e (some (.Name x pos')) pos.line X.env=pure false:=by rfl)(hf:X.fn x=true \/ X.env.scope.names.lookup x=some .local:=by first | exact .inl rfl | exact .inr rfl | assumption) :
  PS X (.Assign [.Name x pos'] e pos) (tAsg te (gName i)):=by
 intro pins s σ H D I h;refine wpAny_Assign_Name (thn (he pins s σ H _ I h) λv s1 ⟨y,H1,I1,r1,q1⟩=>?_) hs;exact R4 I1 hN hi hx r1 (λs2 I2=>⟨_,H1,I2,q1⟩) hf
def tWhile (c:TT)(tb:TS):TS:=λD σ H=>∃ W:Nat->St->Hp->Prop,(∃ m,W m σ H)/\∀ m σ H,W m σ H →
 c σ H λb H1=>if b=true then ∃ N:St->Hp->Prop,(∀ σ' H',N σ' H'->∃ m',m'<m/\W m' σ' H')/\tb { D with nx:=N,ct:=N,bk:=D.nx } σ H1 else D.nx σ H1
theorem Rn {c:Expr}{body:List Stmt}{tc:TT}{tb:TS}(hp:PassesOwn (model X.prog X.w) X.A X.env X.xe)(hc:PT X c tc)(hb:PSs X body tb):PS X (.While c body [] pos) (tWhile tc tb):=by
 intro pins s σ H D I h;obtain⟨W,⟨m0,w0⟩,turn⟩:=h;refine wpAny_While (codeAny_whileLoop (λn s'=>∃ σ' H',Inv X pins σ' H' s'/\W n σ' H') ?_ m0 ⟨σ,H,I,w0⟩);rintro n s1 ⟨σ1,H1,I1,w1⟩;refine qi hp (thn (hc pins s1 σ1 H1 _ I1 (turn n σ1 H1 w1)) λb s2 ⟨H2,I2,q2⟩=>?_)
 cases b with
 | true =>
  obtain⟨N,hN,q2⟩:=q2;rw[XQ rfl];refine qi hp (thn (hb pins s2 σ1 H2 _ I2 q2) λf s3 q3=>?_)
  cases f with
  | next =>
   obtain⟨σ3,H3,I3,n3⟩:=q3;obtain⟨m',hm,w3⟩:=hN σ3 H3 n3;exact⟨m',hm,σ3,H3,I3,w3⟩
  | cont =>
   obtain⟨σ3,H3,I3,n3⟩:=q3;obtain⟨m',hm,w3⟩:=hN σ3 H3 n3;exact⟨m',hm,σ3,H3,I3,w3⟩
  | brk=>exact q3
  | ret v=>exact q3
 | false =>
  rw[XD YM];exact zt ⟨σ1,H2,I2,q2⟩
end
structure It where
 go:Nat->Hp->Prop
 yld:Nat->Hp->V->Hp->Prop
 stop:Nat->Hp->Prop
def FpOk (X:Cx)(pins:TC)(H:Hp)(b:Addr):Prop :=
 H b=none/\b≠X.env.locals/\b ∉ X.fs/\(b∈X.ex \/ X.s₀.heap.objs.size<=b)/\(∀ x c,X.env.cells.lookup x=some c->c≠b)/\∀ p∈X.pn++pins,p.1≠b
theorem Inv.fpOk (I:Inv X pins σ H s)(hb:s.heap.objs.size<=b)(hn:H' b=none):FpOk X pins H' b:=by
 refine⟨hn,qX (YN I.lt hb),I.nofs hb,.inr (XA I.sz hb),λx c e z=>?_,λp hp z=>?_⟩
 ·obtain⟨v,q⟩:=I.cell x c e;exact absurd (YN q.lt (by rw[z];exact hb)) (XO _)
 exact absurd (YN (YH (I.pin p hp).1) (by rw[z];exact hb)) (XO _)
structure Turn (P:TM)(w:World)(K:TL)(tg:Expr)(J:It)(fp:TH)(it:Addr)(tn:Nat->Heap->Prop):Prop where
 mem:it∈fp
 obj:∀ i h,tn i h->∀ b∈fp,∃ o,h.get? b=some o/\∀ v,o.data≠.cell v
 keep:∀ i h h',tn i h->(∀ b∈fp,∀ o,h.get? b=some o->h'.get? b=some o)->tn i h'
 item:∀ (X:Cx),X.prog=P->X.w=w->X.K=K->X.calm=true->∀ (i:Nat) (pins:TC) (s:Shared) (σ:St) (H:Hp) (E:TB),Inv X pins σ H s->(∀ b∈fp,FpOk X pins H b)->tn i s.heap->J.go i H →
  wpAny (model P w) X.A (pyNext (.ref it)) (λr s1=>∃ u,r=some u ∧
   wpAny (model P w) X.A (letOwnedTupleGo tg (.ref it) u) (λ_ s2=>∃ x H',Inv X pins σ H' s2/\RelV x u/\J.yld i H x H'/\tn (i+1) s2.heap/\∀ b∈fp,H' b=none) E s1) E s
 done:∀ (X:Cx),X.prog=P->X.w=w->X.K=K->X.calm=true->∀ (i:Nat) (pins:TC) (s:Shared) (σ:St) (H:Hp) (E:TB),Inv X pins σ H s->(∀ b∈fp,FpOk X pins H b)->tn i s.heap->J.stop i H →
  wpAny (model P w) X.A (pyNext (.ref it)) (λr s1=>r=none/\Inv X pins σ H s1) E s
 self:∀ (A:Around) (i:Nat) (s:Shared) (Q:TB) (E:TB),tn i s.heap->Q (.ref it) s->wpAny (model P w) A (pyIter (.ref it)) Q E s
abbrev TI:=St->Hp->(It->Hp->Prop)->Prop
def PIE (X:Cx)(pins:TC)(σ:St)(tg:Expr)(R:It->Hp->Prop)(itv:Value)(s2:Shared):Prop :=
 ∃ (it:Addr) (fp:TH) (tn:Nat->Heap->Prop) (J:It) (H':Hp),itv=.ref it/\Inv X pins σ H' s2/\Turn X.prog X.w X.K tg J fp it tn/\tn 0 s2.heap/\(∀ b∈fp,FpOk X pins H' b)/\R J H'
def PI (X:Cx)(tg iter:Expr)(wi:TI):Prop :=
 ∀ (pins:TC) (s:Shared) (σ:St) (H:Hp) (R:It->Hp->Prop),Inv X pins σ H s->wi σ H R →
  wpAny (model X.prog X.w) X.A (eval iter X.env) (λv s1=>wpAny (model X.prog X.w) X.A (pyIter v) (PIE X pins σ tg R) X.xe s1) X.xe s
theorem Nc {M:Model}{A:Around}{E:TB}{s:Shared}{tg:Expr}{it:Addr}{u:Value}{o:Obj}{n:String}{vs:Array Value}{Q:Unit->Shared->Prop}(ho:s.heap.get? it=some o)(hc:o.cls=.type n)(hd:o.data=.fields vs)
  (hn:["enumerate","zip","dict_itemiterator","dict_reverseitemiterator","odict_iterator","itertools.zip_longest","itertools.pairwise"].contains n=false) (hQ:Q () s):wpAny M A (letOwnedTupleGo tg (.ref it) u) Q E s:=by
 unfold letOwnedTupleGo
 cases tg <;> first
  | exact YD hQ
  | (cases u <;> first
    | exact YD hQ
    | (refine YA (wpAny_load ho ?_)
       rw[hc,hd];show wpAny M A (if (["enumerate","zip","dict_itemiterator","dict_reverseitemiterator","odict_iterator","itertools.zip_longest","itertools.pairwise"].contains n && vs[0]? == some (rawInt _))=true then _ else _) Q E s;rw[XD (by intro h;rw[hn,Bool.false_and] at h;cases h)];exact YD hQ))
def Itl (K:TL)(a:Addr):It :=
 ⟨λi H=>∃ xs x,SqL K H a xs/\xs[i]?=some x,λi H x H'=>H'=H/\∀ xs,SqL K H a xs->xs[i]?=some x,λi H=>∃ xs,SqL K H a xs/\xs.length<=i⟩
def Itt (K:TL)(a:Addr):It :=
 ⟨λi H=>∃ xs x,SqT K H a xs/\xs[i]?=some x,λi H x H'=>H'=H/\∀ xs,SqT K H a xs->xs[i]?=some x,λi H=>∃ xs,SqT K H a xs/\xs.length<=i⟩
def Itr (lo:Int)(n:Nat):It:=⟨λi _=>i<n,λi H x H'=>H'=H/\x=.int (lo+i),λi _=>n<=i⟩
theorem Nt {P:TM}{w:World}(a it:Addr):Turn P w K tg (Itl K a) [it] it (λi h=>h.IsListIter it a i) where
 mem:=J1
 obj:=λi h st b hb=>by
  have e:b=it:=by simpa using hb
  subst e;obtain⟨o,e,c,d⟩:=st;exact⟨o,e,λv z=>by rw[d] at z;cases z⟩
 keep:=λi h h' st k=>st.at λo e=>k it J1 o e
 item:=by
  intro X hP hw hK hc i pins s σ H E I hf st hg;subst hP hw hK;obtain⟨xs,x,hq,hx⟩:=hg;obtain⟨its,rv,p,hz⟩:=I.list hq;obtain⟨u,hu,ru⟩:=rv.get hx;obtain⟨f0,f1,f2,f3,f4,f5⟩:=hf it J1;refine wpAny_pyNext_list_item st p.isList (x:=u) (by simpa using hu) λh' st' sb=>?_;have I1:Inv X pins σ H { s with heap:=h' }:=I.turned (t':=s.toks) (λb o hb e=>(sb.2 b hb).trans e) f0 f1 f3 f4 f5;obtain⟨o,e,c,d⟩:=id st';exact⟨u,rfl,Nc (s:={ s with heap:=h' }) e c d J0 ⟨x,H,I1,ru,⟨rfl,λys hy=>by rw[I.list_inj hy hq];exact hx⟩,st',λb hb=>(hf b hb).1⟩⟩
 done:=by
  intro X hP hw hK hc i pins s σ H E I hf st hg;subst hP hw hK;obtain⟨xs,hq,hx⟩:=hg;obtain⟨its,rv,p,hz⟩:=I.list hq;obtain⟨f0,f1,f2,f3,f4,f5⟩:=hf it J1;have hl:=rv.length;exact Sb.U2 (I.qt hc) st p.isList (by simp;omega) λh' eb=>⟨rfl,I.turned (t':=s.toks) (λb o hb e=>eb b o hb e) f0 f1 f3 f4 f5⟩
 self:=λ_ _ _ _ _ st h=>wpAny_pyIter_listiter st h
theorem Qm {P:TM}{w:World}(a it:Addr):Turn P w K tg (Itt K a) [it] it (λi h=>h.IsTupleIter it a i) where
 mem:=J1
 obj:=λi h st b hb=>by
  have e:b=it:=by simpa using hb
  subst e;obtain⟨o,e,c,d⟩:=st;exact⟨o,e,λv z=>by rw[d] at z;cases z⟩
 keep:=λi h h' st k=>st.at λo e=>k it J1 o e
 item:=by
  intro X hP hw hK hc i pins s σ H E I hf st hg;subst hP hw hK;obtain⟨xs,x,hq,hx⟩:=hg;obtain⟨its,rv,p,hz⟩:=I.tuple hq;obtain⟨u,hu,ru⟩:=rv.get hx;obtain⟨f0,f1,f2,f3,f4,f5⟩:=hf it J1;refine wpAny_pyNext_tuple_item st (show s.heap.IsTuple a its.toArray from p) (x:=u) (by simpa using hu) λh' st' sb=>?_;have I1:Inv X pins σ H { s with heap:=h' }:=I.turned (t':=s.toks) (λb o hb e=>(sb.2 b hb).trans e) f0 f1 f3 f4 f5;obtain⟨o,e,c,d⟩:=id st';exact⟨u,rfl,Nc (s:={ s with heap:=h' }) e c d J0 ⟨x,H,I1,ru,⟨rfl,λys hy=>by rw[I.tuple_inj hy hq];exact hx⟩,st',λb hb=>(hf b hb).1⟩⟩
 done:=by
  intro X hP hw hK hc i pins s σ H E I hf st hg;subst hP hw hK;obtain⟨xs,hq,hx⟩:=hg;obtain⟨its,rv,p,hz⟩:=I.tuple hq;obtain⟨f0,f1,f2,f3,f4,f5⟩:=hf it J1;have hl:=rv.length;exact Sb.V8 (I.qt hc) st (show s.heap.IsTuple a its.toArray from p) (by simp;omega) λh' eb=>⟨rfl,I.turned (t':=s.toks) (λb o hb e=>eb b o hb e) f0 f1 f3 f4 f5⟩
 self:=λ_ _ _ _ _ st h=>wpAny_pyIter_tupleiter st h
theorem Qn {P:TM}{w:World}(it:Addr)(lo:Int)(n:Nat):Turn P w K tg (Itr lo n) [it] it (λi h=>IsRangeIter h it (lo+(i:Nat)*1) ((n:Int) - (i:Nat)) 1) where
 mem:=J1
 obj:=λi h st b hb=>by
  have e:b=it:=by simpa using hb
  subst e;exact⟨_,st,λv z=>by
   have z':Data.fields _=Data.cell v:=z
   cases z'⟩
 keep:=λi h h' st k=>k it J1 _ st
 item:=by
  intro X hP hw hK hc i pins s σ H E I hf st hg;subst hP hw hK;obtain⟨f0,f1,f2,f3,f4,f5⟩:=hf it J1;refine Sb.P0 i s _ _ hg st λv h' tk hv st' kk=>?_;obtain⟨t,rfl⟩:=hv;have I1:Inv X pins σ H { s with heap:=h',toks:=tk }:=I.turned (λb o hb e=>kk b o (by simpa using hb) e) f0 f1 f3 f4 f5;refine⟨_,rfl,Nc (s:={ s with heap:=h',toks:=tk }) (n:="range_iterator") st' rfl rfl J0 ⟨.int (lo+i),H,I1,⟨t,?_⟩,⟨rfl,rfl⟩,st',λb hb=>(hf b hb).1⟩⟩;rw[Int.mul_one]
 done:=by
  intro X hP hw hK hc i pins s σ H E I hf st hg;subst hP hw hK;obtain⟨f0,f1,f2,f3,f4,f5⟩:=hf it J1;exact Sb.Rj (I.qt hc) st (by have:n<=i:=hg;omega) λh' eb=>⟨rfl,I.turned (t':=s.toks) (λb o hb e=>eb b o hb e) f0 f1 f3 f4 f5⟩
 self:=λ_ _ _ _ _ st h=>wpAny_pyIter_rangeiter st h
section
variable {X:Cx}{tg:Expr}
inductive iList_i (K:TL) (R:(It->Hp->Prop)) (x:V) (H1:Hp):Prop
 | mk (a:_) (zz0:x=.ref a) (zz1:(∃ xs,SqL K H1 a xs)) (zz2:R (Itl K a) H1)
def iList (K:TL)(tl:TE):TI:=λσ H R=>tl σ H (iList_i K R)
inductive iTup_i (K:TL) (R:(It->Hp->Prop)) (x:V) (H1:Hp):Prop
 | mk (a:_) (zz0:x=.ref a) (zz1:(∃ xs,SqT K H1 a xs)) (zz2:R (Itt K a) H1)
def iTup (K:TL)(tl:TE):TI:=λσ H R=>tl σ H (iTup_i K R)
theorem Xk {l:Expr}(hl:PE X l tl):PI X tg l (iList X.K tl):=by
 intro pins s σ H R I h;refine thn (hl pins s σ H _ I h) λv s1 ⟨x,H1,I1,r1,q1⟩=>?_;obtain⟨a,e,⟨xs,hq⟩,q⟩:=q1;subst e
 cases r1;obtain⟨its,rv,p,hz⟩:=I1.list hq;refine qB p.isList ?_;refine⟨s1.heap.objs.size,[s1.heap.objs.size],_,_,H1,rfl,I1.kept (t':=s1.toks) λb o e=>YB _ e,Nt a _,⟨_,YG _ rfl,rfl,rfl⟩,λb hb=>?_,q⟩;have e:b=s1.heap.objs.size:=by simpa using hb
 subst e;exact I1.fpOk (YE _) (I1.hok.fresh (YE _))
theorem V1 {l:Expr}(hl:PE X l tl):PI X tg l (iTup X.K tl):=by
 intro pins s σ H R I h;refine thn (hl pins s σ H _ I h) λv s1 ⟨x,H1,I1,r1,q1⟩=>?_;obtain⟨a,e,⟨xs,hq⟩,q⟩:=q1;subst e
 cases r1;obtain⟨its,rv,p,hz⟩:=I1.tuple hq;refine wpAny_pyIter_tuple (show s1.heap.IsTuple a its.toArray from p) ?_;refine⟨s1.heap.objs.size,[s1.heap.objs.size],_,_,H1,rfl,I1.kept (t':=s1.toks) λb o e=>YB _ e,Qm a _,⟨_,YG _ rfl,rfl,rfl⟩,λb hb=>?_,q⟩;have e:b=s1.heap.objs.size:=by simpa using hb
 subst e;exact I1.fpOk (YE _) (I1.hok.fresh (YE _))
theorem Ll {R:It->Hp->Prop}{lo hi:Int}{t u v:Tok}{tk:Nat}(I:Inv X pins σ H s)(h1:-(2 ^ 62)<=lo)(h2:lo<2 ^ 62)(h3:-(2 ^ 62)<=hi)(h4:hi<2 ^ 62)
  (q:R (Itr lo (hi - lo).toNat) H):wpAny (model X.prog X.w) X.A (pyIter (.ref s.heap.objs.size)) (PIE X pins σ tg R) E { s with heap:=s.heap.push { cls:=.type "range",data:=.fields #[.int lo t,.int hi u,.int 1 v] },toks:=tk }:=by
 refine wpAny_pyIter_range (IsRange.new ..) (small_one h1 h2 h3 h4) ?_;have I1:Inv X pins σ H { s with heap:=s.heap.push { cls:=.type "range",data:=.fields #[.int lo t,.int hi u,.int 1 v] },toks:=tk }:=I.kept λb o e=>YB _ e;refine⟨(s.heap.push { cls:=.type "range",data:=.fields #[.int lo t,.int hi u,.int 1 v] }).objs.size,[(s.heap.push { cls:=.type "range",data:=.fields #[.int lo t,.int hi u,.int 1 v] }).objs.size],_,_,H,rfl,
  I1.kept (t':=tk) λb o e=>YB _ e,Qn _ lo (hi - lo).toNat,?_,λb hb=>?_,q⟩
 ·have e1:lo+((0:Nat):Int)*1=lo:=J1
  have e2:(((hi - lo).toNat:Nat):Int) - ((0:Nat):Int)=Builtin.Range.rangeSize lo hi 1:=by rw[rangeSize_one];split <;> omega
  show IsRangeIter _ _ (lo+((0:Nat):Int)*1) ((((hi - lo).toNat:Nat):Int) - ((0:Nat):Int)) 1;rw[e1,e2];exact YG _ rfl
 have e:b=(s.heap.push { cls:=.type "range",data:=.fields #[.int lo t,.int hi u,.int 1 v] }).objs.size:=by simpa using hb
 subst e;exact I1.fpOk (YE _) (I1.hok.fresh (YE _))
inductive iRng1_i (R:(It->Hp->Prop)) (vs:TQ) (H1:Hp):Prop
 | mk (j:Int) (zz0:vs=[.int j]) (zz1:-(2 ^ 62)<=j) (zz2:j<2 ^ 62) (zz3:R (Itr 0 j.toNat) H1)
def iRng1 (ta:TA):TI:=λσ H R=>ta σ H (iRng1_i R)
theorem Yq {a:Expr}{ta:TA}{p pos:Pos}(hg:Gl X "range")(hm:X.mg "range"=none)(ha:PA X [a] ta)(hs:starEach [a] X.env=[(false,eval a X.env)]:=by rfl):PI X tg (.Call (.Name "range" p) [a] [] pos) (iRng1 ta):=by
 intro pins s σ H R I h;refine Call_ (Wa I hg hm boot_range (GR (thn (ha pos pins s σ H _ I h) λus s1 ⟨vs,H1,I1,r1,q1⟩=>?_) hs rfl));obtain⟨j,e,q1,q2,q⟩:=q1;subst e
 cases r1 with
 | cons r rr =>
  cases rr;obtain⟨t,rfl⟩:=r;exact call_range_1 (Ll I1 U U q1 q2 (by simpa using q))
def tFor (wi:TI)(g:TG)(tb:TS):TS:=λD σ H=>wi σ H λJ H1=>∃ W:Nat->Nat->St->Hp->Prop,(∃ m,W 0 m σ H1)/\∀ i m σ H,W i m σ H →
 (J.stop i H/\D.nx σ H) \/ (J.go i H/\∃ N:St->Hp->Prop,(∀ σ' H',N σ' H'->∃ m',m'<m/\W (i+1) m' σ' H')/\∀ x H',J.yld i H x H'->g x σ H' λσ2 H2=>tb { D with nx:=N,ct:=N,bk:=D.nx } σ2 H2)
def pinsAt (fp:TH)(h:Heap):List (Addr × Obj):=fp.filterMap λb=>(h.get? b).map λo=>(b,o)
theorem Xp {fp:TH}(hb:b∈fp)(e:h.get? b=some o):(b,o)∈pinsAt fp h:=Y01.mpr ⟨b,hb,by rw[e];rfl⟩
theorem Ma {fp:TH}{h:Heap}{p:Addr × Obj}(hp:p∈pinsAt fp h):p.1∈fp/\h.get? p.1=some p.2:=by
 obtain⟨b,hb,e⟩:=Y01.mp hp
 cases q:h.get? b with
 | none=>rw[q] at e;cases e
 | some o =>
  rw[q] at e;have e':(b,o)=p:=YR e;subst e';exact⟨hb,q⟩
theorem Inv.pinned {fp:TH}(I:Inv X pins σ H s)(hf:∀ b∈fp,FpOk X pins H b)(ho:∀ b∈fp,∃ o,s.heap.get? b=some o/\∀ v,o.data≠.cell v):Inv X (pins++pinsAt fp s.heap) σ H s :=
 I.pins_of λp hp=>(YY.mp hp).elim (λz=>I.pin p (XN _ z)) λz=>by
  obtain⟨hb,e⟩:=Ma z;obtain⟨f0,f1,f2,_⟩:=hf p.1 hb;obtain⟨o,e',d⟩:=ho p.1 hb;rw[e] at e';cases e';exact⟨e,f0,f1,f2,d⟩
theorem Inv.unpinned {pl:TC}(I:Inv X (pins++pl) σ H s):Inv X pins σ H s:=I.pins_of λp hp=>I.pin p (XN _ (YW _ hp))
theorem W7 {iter:Expr}{body:List Stmt}{wi:TI}{g:TG}{tb:TS}{pos:Pos}(hp:PassesOwn (model X.prog X.w) X.A X.env X.xe)(hc:X.calm=true)(hi:PI X tg iter wi)(hg:PG X tg g)(hb:PSs X body tb)
  (hs:∀ x,foldedSetIterable iter X.env x=pure x:=by intro _;rfl):PS X (.For tg iter body [] pos) (tFor wi g tb):=by
 intro pins s σ H D I h;refine wpAny_For (thn (hi pins s σ H _ I h) λv s1 h1=>thn h1 λitv s2 h2=>?_) hs;obtain⟨it,fp,tn,J,H2,e,I2,T,st2,f2,W,⟨m0,w0⟩,turn⟩:=h2;subst e;have stat:∀ {H':Hp},(∀ b∈fp,H' b=none)->∀ b∈fp,FpOk X pins H' b:=λhn b hb=>⟨hn b hb,(f2 b hb).2⟩;refine codeAny_forLoop_any (λn s'=>∃ i σ' H',Inv X pins σ' H' s'/\tn i s'.heap/\(∀ b∈fp,H' b=none)/\W i n σ' H') ?_ m0 ⟨0,σ,H2,I2,st2,λb hb=>(f2 b hb).1,w0⟩;rintro n s3 ⟨i,σ3,H3,I3,st3,fr3,w3⟩;rcases turn i n σ3 H3 w3 with ⟨stop,qn⟩ | ⟨go,N,hN,step⟩
 ·refine qi hp (thn (T.done X rfl rfl rfl hc i pins s3 σ3 H3 X.xe I3 (stat fr3) st3 stop) λr s4 ⟨hr,I4⟩=>?_);subst hr;exact zt ⟨σ3,H3,I4,qn⟩
 refine qi hp (thn (T.item X rfl rfl rfl hc i pins s3 σ3 H3 X.xe I3 (stat fr3) st3 go) λr s4 ⟨u,hr,h4⟩=>?_);subst hr;refine qi hp (thn h4 λ_ s5 ⟨x,H5,I5,r5,y5,st5,fr5⟩=>?_);have I5':=I5.pinned (stat fr5) (T.obj _ _ st5);refine qi hp (thn (hg _ s5 σ3 H5 x u _ I5' r5 (step x H5 y5)) λ_ s6 ⟨σ6,H6,I6,q6⟩=>?_);refine qi hp (thn (hb _ s6 σ6 H6 _ I6 q6) λf s7 q7=>?_);have again:∀ {σ7:St} {H7:Hp},Inv X (pins++pinsAt fp s5.heap) σ7 H7 s7->N σ7 H7->∃ m,m<n/\∃ i σ' H',Inv X pins σ' H' s7/\tn i s7.heap/\(∀ b∈fp,H' b=none)/\W i m σ' H':=λ{σ7 H7} I7 n7=>by
  obtain⟨m',hm,w7⟩:=hN σ7 H7 n7;refine⟨m',hm,i+1,σ7,H7,I7.unpinned,T.keep _ _ _ st5 λb hb o e=>(I7.pin (b,o) (XN _ (XN _ (Xp hb e)))).1,λb hb=>?_,w7⟩;obtain⟨o,e,d⟩:=T.obj _ _ st5 b hb;exact (I7.pin (b,o) (XN _ (XN _ (Xp hb e)))).2.1
 cases f with
 | next=>obtain⟨σ7,H7,I7,n7⟩:=q7;exact again I7 n7
 | cont=>obtain⟨σ7,H7,I7,n7⟩:=q7;exact again I7 n7
 | brk=>obtain⟨σ7,H7,I7,q7⟩:=q7;exact⟨σ7,H7,I7.unpinned,q7⟩
 | ret v=>obtain⟨x7,σ7,H7,I7,r7,q7⟩:=q7;exact⟨x7,σ7,H7,I7.unpinned,r7,q7⟩
end
theorem T6 {lo:Int}{n:Nat}{D:Ends}(Pv:Nat->St->Hp->Prop)(h0:Pv 0 σ H)
  (hs:∀ i σ H,i<n->Pv i σ H->g (.int (lo+i)) σ H λσ2 H2=>tb { D with nx:=Pv (i+1),ct:=Pv (i+1),bk:=D.nx } σ2 H2) (hd:∀ σ H,Pv n σ H->D.nx σ H) :
  ∃ W:Nat->Nat->St->Hp->Prop,(∃ m,W 0 m σ H)/\∀ i m σ H,W i m σ H →
   ((Itr lo n).stop i H/\D.nx σ H) \/ ((Itr lo n).go i H/\∃ N:St->Hp->Prop,(∀ σ' H',N σ' H'->∃ m',m'<m/\W (i+1) m' σ' H')/\∀ x H',(Itr lo n).yld i H x H'->g x σ H' λσ2 H2=>tb { D with nx:=N,ct:=N,bk:=D.nx } σ2 H2):=by
 refine⟨λi m σ H=>m=n - i/\i<=n/\Pv i σ H,⟨n,J1,JH _,h0⟩,?_⟩;rintro i m σ H ⟨rfl,hi,p⟩;by_cases hlt:i<n
 ·refine .inr ⟨hlt,Pv (i+1),λσ' H' p'=>⟨n - (i+1),U,rfl,hlt,p'⟩,λx H' y=>?_⟩;obtain⟨e,y⟩:=y;subst e y;exact hs i σ _ hlt p
 have e:i=n:=U
 subst e;exact .inl ⟨YE _,hd σ H p⟩
theorem Sy {c:TT}{tb:TS}{D:Ends}{σ:St}{H:Hp}(Pv:St->Hp->Prop)(μ:St->Hp->Nat)(h0:Pv σ H)
  (hs:∀ σ H,Pv σ H->c σ H λb H1=>if b=true then tb { D with nx:=λσ' H'=>Pv σ' H'/\μ σ' H'<μ σ H,ct:=λσ' H'=>Pv σ' H'/\μ σ' H'<μ σ H,bk:=D.nx } σ H1 else D.nx σ H1)
  (mono:∀ σ H Q Q',(∀ b H1,Q b H1->Q' b H1)->c σ H Q->c σ H Q'):tWhile c tb D σ H:=by
 refine⟨λm σ H=>m=μ σ H/\Pv σ H,⟨_,rfl,h0⟩,?_⟩;rintro m σ H ⟨rfl,p⟩;refine mono σ H _ _ (λb H1 q=>?_) (hs σ H p)
 cases b with
 | true=>exact⟨_,λσ' H' ⟨p',l⟩=>⟨_,l,rfl,p'⟩,q⟩
 | false=>exact q
abbrev R2:=V->V->Hp->VK->Prop
def OpR (X:Cx)(f:Value->Value->Sem Value)(r:R2):Prop :=
 ∀ (pins:TC) (s:Shared) (σ:St) (H:Hp) (x y:V) (v u:Value) (Q:VK),Inv X pins σ H s->RelV x v->RelV y u->r x y H Q →
  wpAny (model X.prog X.w) X.A (f v u) (EP X pins σ Q) X.xe s
def UnR (X:Cx)(f:Value->Sem Value)(r:V->Hp->VK->Prop):Prop :=
 ∀ (pins:TC) (s:Shared) (σ:St) (H:Hp) (x:V) (v:Value) (Q:VK),Inv X pins σ H s->RelV x v->r x H Q →
  wpAny (model X.prog X.w) X.A (f v) (EP X pins σ Q) X.xe s
def CallR (X:Cx)(f:Value)(r:List V->Hp->VK->Prop):Prop :=
 ∀ (pins:TC) (s:Shared) (σ:St) (H:Hp) (xs:TQ) (us:TF) (Q:VK),Inv X pins σ H s->Vals xs us->r xs H Q →
  wpAny (model X.prog X.w) X.A (call f us) (EP X pins σ Q) X.xe s
def TruR (X:Cx)(r:V->Hp->(Bool->Hp->Prop)->Prop):Prop :=
 ∀ (pins:TC) (s:Shared) (σ:St) (H:Hp) (x:V) (v:Value) (Q:Bool->Hp->Prop),Inv X pins σ H s->RelV x v->r x H Q →
  wpAny (model X.prog X.w) X.A (truthy v) (TP X pins σ Q) X.xe s
def tOp (r:R2)(ta tb:TE):TE:=λσ H Q=>ta σ H λx H1=>tb σ H1 λy H2=>r x y H2 Q
def tUn (r:V->Hp->VK->Prop)(ta:TE):TE:=λσ H Q=>ta σ H λx H1=>r x H1 Q
inductive rI (C:Int->Int->Prop) (g:Int->Int->V) (x:V) (y:V) (H:Hp) (Q:VK):Prop
 | mk (i j:_) (zz0:x=.int i) (zz1:y=.int j) (zz2:C i j) (zz3:Q (g i j) H)
inductive rI0 (g:Int->Int->V) (x:V) (y:V) (H:Hp) (Q:VK):Prop
 | mk (i j:_) (zz0:x=.int i) (zz1:y=.int j) (zz2:Q (g i j) H)
inductive rU (g:Int->V) (x:V) (H:Hp) (Q:VK):Prop
 | mk (i:_) (zz0:x=.int i) (zz1:Q (g i) H)
section
variable {X:Cx}{a b:Expr}{ta tb:TE}{pos:Pos}
theorem D0 (ha:PE X a ta)(hb:PE X b tb){pins:TC}{s:Shared}{σ:St}{H:Hp}{R:V->V->Hp->Prop}(I:Inv X pins σ H s)
  (h:ta σ H λx H1=>tb σ H1 λy H2=>R x y H2) {Q:TB} {f:Value->Value->Sem Value}
  (hf:∀ v u s2 x y H2,Inv X pins σ H2 s2->RelV x v->RelV y u->R x y H2->wpAny (model X.prog X.w) X.A (f v u) Q X.xe s2) :
  wpAny (model X.prog X.w) X.A (eval a X.env) (λv s₁=>wpAny (model X.prog X.w) X.A (eval b X.env) (λu s₂=>wpAny (model X.prog X.w) X.A (f v u) Q X.xe s₂) X.xe s₁) X.xe s:=by
 refine thn (ha pins s σ H _ I h) λv s1 ⟨x,H1,I1,r1,q1⟩=>?_;refine thn (hb pins s1 σ H1 _ I1 q1) λu s2 ⟨y,H2,I2,r2,q2⟩=>?_;exact hf v u s2 x y H2 I2 r1 r2 q2
theorem Zc {op:Operator}{r:R2}(ho:OpR X (binaryOp op) r)(ha:PE X a ta)(hb:PE X b tb):PE X (.BinOp a op b pos) (tOp r ta tb):=by
 intro pins s σ H Q I h;exact wpAny_BinOp (D0 ha hb I h λv u s2 x y H2 I2 rx ry q=>ho pins s2 σ H2 x y v u Q I2 rx ry q)
theorem Ge {op:UnaryOp}{r:V->Hp->VK->Prop}(ho:UnR X (unaryOp op) r)(ha:PE X a ta):PE X (.UnaryOp op a pos) (tUn r ta):=by
 intro pins s σ H Q I h;exact UnaryOp_ (thn (ha pins s σ H _ I h) λv s1 ⟨x,H1,I1,r1,q1⟩=>ho pins s1 σ H1 x v Q I1 r1 q1)
theorem opI {f:Value->Value->Sem Value}{C:Int->Int->Prop}{g:Int->Int->Int}
  (rule:∀ (i j:Int) (t u:Tok) (s:Shared) (Q:TB) (E:TB),C i j->Q (.int (g i j) s.toks) { s with toks:=s.toks+1 }->wpAny (model X.prog X.w) X.A (f (.int i t) (.int j u)) Q E s) :
  OpR X f (rI C λi j=>.int (g i j)):=by
 intro pins s σ H x y v u Q I rx ry h;obtain⟨i,j,rfl,rfl,hc,q⟩:=h;obtain⟨t,rfl⟩:=rx;obtain⟨t',rfl⟩:=ry;exact rule i j t t' s _ _ hc ⟨.int (g i j),H,I.tok _,⟨_,rfl⟩,q⟩
theorem Da {f:Value->Value->Sem Value}{g:Int->Int->Int}
  (rule:∀ (i j:Int) (t u:Tok) (s:Shared) (Q:TB) (E:TB),Q (.int (g i j) s.toks) { s with toks:=s.toks+1 }->wpAny (model X.prog X.w) X.A (f (.int i t) (.int j u)) Q E s) :
  OpR X f (rI0 λi j=>.int (g i j)):=by
 intro pins s σ H x y v u Q I rx ry h;obtain⟨i,j,rfl,rfl,q⟩:=h;obtain⟨t,rfl⟩:=rx;obtain⟨t',rfl⟩:=ry;exact rule i j t t' s _ _ ⟨.int (g i j),H,I.tok _,⟨_,rfl⟩,q⟩
theorem Fi {f:Value->Value->Sem Value}{g:Int->Int->Bool}
  (rule:∀ (i j:Int) (t u:Tok) (s:Shared) (Q:TB) (E:TB),Q (.bool (g i j)) s->wpAny (model X.prog X.w) X.A (f (.int i t) (.int j u)) Q E s) :
  OpR X f (rI0 λi j=>.bl (g i j)):=by
 intro pins s σ H x y v u Q I rx ry h;obtain⟨i,j,rfl,rfl,q⟩:=h;obtain⟨t,rfl⟩:=rx;obtain⟨t',rfl⟩:=ry;exact rule i j t t' s _ _ ⟨.bl (g i j),H,I,rfl,q⟩
def CPow (i j:Int):Prop:=0<=j/\j<=1000000/\i.natAbs<2 ^ 64
def CMul (i j:Int):Prop:=(-(2 ^ 64)<i/\i<2 ^ 64) \/ (-(2 ^ 64)<j/\j<2 ^ 64)
theorem Yn:OpR X (binaryOp .Add) (rI0 λi j=>.int (i+j)):=Da λ_ _ _ _ _ _ _ q=>add_int q
theorem Vt:OpR X (binaryOp .Sub) (rI0 λi j=>.int (i - j)):=Da λ_ _ _ _ _ _ _ q=>sub_int q
theorem Yv:OpR X (binaryOp .Mod) (rI (λ_ j=>0<j) λi j=>.int (i % j)):=opI λi j _ _ _ _ _ hc q=>by
 have h1:(0:Int)<j:=hc;exact mod_int' U (by rw[Int.fmod_eq_emod_of_nonneg i U];exact q)
theorem Jc:OpR X (binaryOp .Mod) (rI (λ_ j=>j≠0) λi j=>.int (i.fmod j)):=opI λ_ _ _ _ _ _ _ hc q=>mod_int' hc q
theorem Tv:OpR X (binaryOp .Pow) (rI CPow λi j=>.int (i ^ j.toNat)):=opI λ_ _ _ _ _ _ _ hc q=>pow_int_small hc.1 hc.2.1 hc.2.2 q
theorem unI {f:Value->Sem Value}{g:Int->Int}
  (rule:∀ (i:Int) (t:Tok) (s:Shared) (Q:TB) (E:TB),Q (.int (g i) s.toks) { s with toks:=s.toks+1 }->wpAny (model X.prog X.w) X.A (f (.int i t)) Q E s) :
  UnR X f (rU λi=>.int (g i)):=by
 intro pins s σ H x v Q I rx h;obtain⟨i,rfl,q⟩:=h;obtain⟨t,rfl⟩:=rx;exact rule i t s _ _ ⟨.int (g i),H,I.tok _,⟨_,rfl⟩,q⟩
theorem L8:UnR X (unaryOp .USub) (rU λi=>.int (-i)):=unI λ_ _ _ _ _ q=>neg_int q
end
def scal:V->V->Bool
 | .non,.non=>true | .non,.int _=>true | .int _,.non=>true | .non,.bl _=>true | .bl _,.non=>true | .non,.str _=>true | .str _,.non=>true
 | .int _,.int _=>true | .bl _,.bl _=>true | .str _,.str _=>true | .byt _,.byt _=>true
 | .int _,.str _=>true | .str _,.int _=>true | .bl _,.str _=>true | .str _,.bl _=>true
 | _,_=>false
def rEq:R2:=λx y H Q=>scal x y=true/\Q (.bl (decide (x=y))) H
def rNe:R2:=λx y H Q=>scal x y=true/\Q (.bl (!decide (x=y))) H
theorem Ni {i j:Int}:decide (V.int i=V.int j)=(i == j):=by
 rw[JV];simp
theorem Km {i j:Bool}:decide (V.bl i=V.bl j)=(i == j):=by
 rw[JV];simp
theorem Nh {i j:Str}:decide (V.str i=V.str j)=(i == j):=by
 rw[JV];simp
theorem Nj {i j:Array UInt8}:decide (V.byt i=V.byt j)=(i.toList == j.toList):=by
 rw[JV]
 cases i
 cases j;simp
section
variable {X:Cx}{a b c:Expr}{ta tb tc:TE}{pos:Pos}
theorem Zm {Q:VK}{k k':Bool}(I:Inv X pins σ H s)(q:Q (.bl k) H)(e:k=k'):EP X pins σ Q (.bool k') s:=by
 subst e;exact⟨.bl k,H,I,rfl,q⟩
theorem Xr:OpR X (compareOp .Eq) rEq:=by
 intro pins s σ H x y v u Q I rx ry h;obtain⟨hs,q⟩:=h
 cases x with
 | non =>
  cases rx
  cases y with
  | non=>cases ry;exact PySem.EqNone.eq_none_none (Zm I q J1)
  | bl j=>cases ry;exact PySem.EqNone.eq_none_bool (Zm I q J1)
  | int j=>obtain⟨t',rfl⟩:=ry;exact PySem.EqNone.eq_none_int (Zm I q J1)
  | str j=>obtain⟨t',rfl⟩:=ry;exact PySem.EqNone.eq_none_str (Zm I q J1)
  | _=>exact absurd (show false=true from hs) YM
 | bl i =>
  cases rx
  cases y with
  | non=>cases ry;exact PySem.EqNone.eq_bool_none (Zm I q J1)
  | bl j=>cases ry;exact eq_bool (Zm I q Km)
  | str j=>obtain⟨t',rfl⟩:=ry;exact PySem.EqMixed.eq_bool_str (Zm I q J1)
  | _=>exact absurd (show false=true from hs) YM
 | int i =>
  obtain⟨t,rfl⟩:=rx
  cases y with
  | non=>cases ry;exact PySem.EqNone.eq_int_none (Zm I q J1)
  | int j=>obtain⟨t',rfl⟩:=ry;exact eq_int (Zm I q Ni)
  | str j=>obtain⟨t',rfl⟩:=ry;exact PySem.EqMixed.eq_int_str (Zm I q J1)
  | _=>exact absurd (show false=true from hs) YM
 | str i =>
  obtain⟨t,rfl⟩:=rx
  cases y with
  | non=>cases ry;exact PySem.EqNone.eq_str_none (Zm I q J1)
  | bl j=>cases ry;exact PySem.EqMixed.eq_str_bool (Zm I q J1)
  | int j=>obtain⟨t',rfl⟩:=ry;exact PySem.EqMixed.eq_str_int (Zm I q J1)
  | str j=>obtain⟨t',rfl⟩:=ry;exact eq_str (Zm I q Nh)
  | _=>exact absurd (show false=true from hs) YM
 | byt i =>
  obtain⟨t,rfl⟩:=rx
  cases y with
  | byt j=>obtain⟨t',rfl⟩:=ry;exact W.eq_bytes (Zm I q Nj)
  | _=>exact absurd (show false=true from hs) YM
 | _=>cases y <;> exact absurd (show false=true from hs) YM
theorem W5:OpR X (compareOp .NotEq) rNe:=by
 intro pins s σ H x y v u Q I rx ry h;obtain⟨hs,q⟩:=h
 cases x with
 | non =>
  cases rx
  cases y with
  | non=>cases ry;exact PySem.EqNone.ne_none_none (Zm I q J1)
  | bl j=>cases ry;exact PySem.EqNone.ne_none_bool (Zm I q J1)
  | int j=>obtain⟨t',rfl⟩:=ry;exact PySem.EqNone.ne_none_int (Zm I q J1)
  | str j=>obtain⟨t',rfl⟩:=ry;exact PySem.EqNone.ne_none_str (Zm I q J1)
  | _=>exact absurd (show false=true from hs) YM
 | bl i =>
  cases rx
  cases y with
  | non=>cases ry;exact PySem.EqNone.ne_bool_none (Zm I q J1)
  | bl j=>cases ry;exact ne_bool (Zm I q (congrArg not Km))
  | str j=>obtain⟨t',rfl⟩:=ry;exact PySem.EqMixed.ne_bool_str (Zm I q J1)
  | _=>exact absurd (show false=true from hs) YM
 | int i =>
  obtain⟨t,rfl⟩:=rx
  cases y with
  | non=>cases ry;exact PySem.EqNone.ne_int_none (Zm I q J1)
  | int j=>obtain⟨t',rfl⟩:=ry;exact ne_int (Zm I q (congrArg not Ni))
  | str j=>obtain⟨t',rfl⟩:=ry;exact PySem.EqMixed.ne_int_str (Zm I q J1)
  | _=>exact absurd (show false=true from hs) YM
 | str i =>
  obtain⟨t,rfl⟩:=rx
  cases y with
  | non=>cases ry;exact PySem.EqNone.ne_str_none (Zm I q J1)
  | bl j=>cases ry;exact PySem.EqMixed.ne_str_bool (Zm I q J1)
  | int j=>obtain⟨t',rfl⟩:=ry;exact PySem.EqMixed.ne_str_int (Zm I q J1)
  | str j=>obtain⟨t',rfl⟩:=ry;exact ne_str (Zm I q (congrArg not Nh))
  | _=>exact absurd (show false=true from hs) YM
 | byt i =>
  obtain⟨t,rfl⟩:=rx
  cases y with
  | byt j=>obtain⟨t',rfl⟩:=ry;exact W.ne_bytes (Zm I q (congrArg not Nj))
  | _=>exact absurd (show false=true from hs) YM
 | _=>cases y <;> exact absurd (show false=true from hs) YM
theorem Vu:OpR X (compareOp .Lt) (rI0 λi j=>.bl (decide (i<j))):=Fi λ_ _ _ _ _ _ _ q=>lt_int q
theorem Vv:OpR X (compareOp .LtE) (rI0 λi j=>.bl (decide (i<=j))):=Fi λ_ _ _ _ _ _ _ q=>le_int q
theorem Gg:OpR X (compareOp .Gt) (rI0 λi j=>.bl (decide (j<i))):=Fi λ_ _ _ _ _ _ _ q=>gt_int q
theorem Xn:OpR X (compareOp .Is) (λx y H Q=>y=.non/\Q (.bl (decide (x=.non))) H):=by
 intro pins s σ H x y v u Q I rx ry h;obtain⟨rfl,q⟩:=h
 cases ry;refine is_none_gen (Zm I q ?_)
 cases x <;> first
  | (cases rx;rfl)
  | (obtain⟨t,rfl⟩:=rx;rfl)
theorem Xm:OpR X (compareOp .IsNot) (λx y H Q=>y=.non/\Q (.bl (!decide (x=.non))) H):=by
 intro pins s σ H x y v u Q I rx ry h;obtain⟨rfl,q⟩:=h
 cases ry;refine isnot_none_gen (Zm I q ?_)
 cases x <;> first
  | (cases rx;rfl)
  | (obtain⟨t,rfl⟩:=rx;rfl)
theorem Ze (b:Expr){op:CmpOp}(h:op≠.In:=by decide)(h2:op≠.NotIn:=by decide):behindInMarks op b=false:=by
 have e1:(op == CmpOp.In)=false:=by cases op <;> first | rfl | exact absurd rfl h
 have e2:(op == CmpOp.NotIn)=false:=by cases op <;> first | rfl | exact absurd rfl h2
 cases b <;> simp[behindInMarks,e1,e2]
theorem Vh {op:CmpOp}{r:R2}(ho:OpR X (compareOp op) r)(ha:PE X a ta)(hb:PE X b tb)(hm:behindInMarks op b=false):PE X (.Compare a [op] [b] pos) (tOp r ta tb):=by
 intro pins s σ H Q I h;exact wpAny_Compare1 (D0 ha hb I h λv u s2 x y H2 I2 rx ry q=>ho pins s2 σ H2 x y v u Q I2 rx ry q) hm
def tTest (t:TE):TT:=λσ H Q=>t σ H λx H'=>∃ k,x=.bl k/\Q k H'
theorem Z8 {op:CmpOp}{r:R2}(ho:OpR X (compareOp op) r)(ha:PE X a ta)(hb:PE X b tb)(hm:behindInMarks op b=false):PT X (.Compare a [op] [b] pos) (tTest (tOp r ta tb)):=by
 intro pins s σ H Q I h;refine wpAny_isTrue_Compare1 (thn (ha pins s σ H _ I h) λv s1 ⟨x,H1,I1,r1,q1⟩=>thn (hb pins s1 σ H1 _ I1 q1) λu s2 ⟨y,H2,I2,r2,q2⟩ =>
  thn (ho pins s2 σ H2 x y v u _ I2 r1 r2 q2) λc s3 ⟨z,H3,I3,r3,k,e,q3⟩=>?_) hm
 subst e
 cases r3;exact JL ⟨H3,I3,q3⟩
inductive tChain_i (r':R2) (tc:TE) (σ:L2.St) (Q:VK) (y:V) (z:V) (H3:Hp):Prop
 | mk (k:_) (zz0:z=.bl k) (zz1:(if k=true then tc σ H3 λw' H4=>r' y w' H4 Q else Q (.bl false) H3))
def tChain (r r':R2)(ta tb tc:TE):TE:=λσ H Q=>ta σ H λx H1=>tb σ H1 λy H2=>r x y H2 (tChain_i r' tc σ Q y)
theorem Rr {op op':CmpOp}{r r':R2}(ho:OpR X (compareOp op) r)(ho':OpR X (compareOp op') r')(ha:PE X a ta)(hb:PE X b tb)(hc:PE X c tc)
  (hm:lastMarks [op,op'] [b,c]=false:=by with_unfolding_all rfl):PE X (.Compare a [op,op'] [b,c] pos) (tChain r r' ta tb tc):=by
 intro pins s σ H Q I h;refine Compare_chain (thn (ha pins s σ H _ I h) λv s1 ⟨x,H1,I1,r1,q1⟩=>chain_link (thn (hb pins s1 σ H1 _ I1 q1) λu s2 ⟨y,H2,I2,r2,q2⟩ =>
  thn (ho pins s2 σ H2 x y v u _ I2 r1 r2 q2) λd s3 ⟨z,H3,I3,r3,k,e,q3⟩=>?_)) hm
 subst e
 cases r3;refine JL ?_
 cases k with
 | false=>exact ite_ff ⟨.bl false,H3,I3,rfl,q3⟩
 | true=>exact ite_tt (chain_last (thn (hc pins s3 σ H3 _ I3 q3) λw' s4 ⟨z',H4,I4,r4,q4⟩=>ho' pins s4 σ H4 y z' u w' Q I4 r2 r4 q4))
theorem Rm {op op':CmpOp}{r r':R2}(ho:OpR X (compareOp op) r)(ho':OpR X (compareOp op') r')(ha:PE X a ta)(hb:PE X b tb)(hc:PE X c tc)
  (hm:lastMarks [op,op'] [b,c]=false:=by with_unfolding_all rfl):PT X (.Compare a [op,op'] [b,c] pos) (tTest (tChain r r' ta tb tc)):=by
 intro pins s σ H Q I h;refine isTrue_chain (thn (ha pins s σ H _ I h) λv s1 ⟨x,H1,I1,r1,q1⟩=>test_link (thn (hb pins s1 σ H1 _ I1 q1) λu s2 ⟨y,H2,I2,r2,q2⟩ =>
  thn (ho pins s2 σ H2 x y v u _ I2 r1 r2 q2) λd s3 ⟨z,H3,I3,r3,k,e,q3⟩=>?_)) hm
 subst e
 cases r3;refine JL ?_
 cases k with
 | false =>
  obtain⟨k',e',q'⟩:=q3
  cases e';exact ite_ff ⟨H3,I3,q'⟩
 | true =>
  refine ite_tt (test_last (thn (hc pins s3 σ H3 _ I3 q3) λw' s4 ⟨z',H4,I4,r4,q4⟩=>thn (ho' pins s4 σ H4 y z' u w' _ I4 r2 r4 q4) λd' s5 ⟨z2,H5,I5,r5,k2,e2,q5⟩=>?_));subst e2
  cases r5;exact JL ⟨H5,I5,q5⟩
def TruV (K:TL)(x:V)(H:Hp)(k:Bool):Prop :=
 match x with
 | .non=>k=false
 | .bl b=>k=b
 | .int i=>k=(i != 0)
 | .str y=>y.length<=sizeLine/\k=((y.length:Int) != 0)
 | .byt y=>y.size<=sizeLine/\k=((y.size:Int) != 0)
 | .ref p=>(∃ xs,SqL K H p xs/\k=!xs.isEmpty) \/ (∃ xs,SqT K H p xs/\k=!xs.isEmpty) \/ ∃ kvs,H p=some (.dK kvs)/\k=!kvs.isEmpty
 | _=>False
theorem Pf {κ:Type}{kvs:List (κ × V)}{vs:List (κ × Value)}(r:KV kvs vs):(!vs.isEmpty)=!kvs.isEmpty:=by
 cases r <;> rfl
theorem U4 (r:Vals xs its):(!its.toArray.isEmpty)=!xs.isEmpty:=by
 cases r <;> simp
theorem W9:(sizeLine:Nat)<2 ^ 63:=by rw[YQ];decide
theorem Gr:TruR X (λx H Q=>∃ k,TruV X.K x H k/\Q k H):=by
 intro pins s σ H x v Q I rx h;obtain⟨k,e,q⟩:=h;have hl:=W9;have hs:sizeLine=16777216:=YQ
 cases x with
 | non =>
  cases rx;have e':k=false:=e;subst e';exact truthy_none ⟨H,I,q⟩
 | bl b =>
  cases rx;have e':k=b:=e;subst e';exact JL ⟨H,I,q⟩
 | int i =>
  obtain⟨t,rfl⟩:=rx;have e':k=(i != 0):=e;subst e';exact PySem.P.truthy_int ⟨H,I,q⟩
 | str y =>
  obtain⟨t,rfl⟩:=rx;obtain⟨hy,e'⟩:y.length<=sizeLine/\k=((y.length:Int) != 0):=e;subst e';exact PySem.P.truthy_str U ⟨H,I.tok _,q⟩
 | byt y =>
  obtain⟨t,rfl⟩:=rx;obtain⟨hy,e'⟩:y.size<=sizeLine/\k=((y.size:Int) != 0):=e;subst e';exact W.truthy_bytes U ⟨H,I.tok _,q⟩
 | ref p =>
  cases rx;have e':(∃ xs,SqL X.K H p xs/\k=!xs.isEmpty) \/ (∃ xs,SqT X.K H p xs/\k=!xs.isEmpty) \/ ∃ kvs,H p=some (.dK kvs)/\k=!kvs.isEmpty:=e;rcases e' with ⟨xs,hx,e'⟩ | ⟨xs,hx,e'⟩ | ⟨kvs,hx,e'⟩
  ·subst e';obtain⟨its,r,pl,hz⟩:=I.list hx;have hlen:=r.length;exact wpAny_truthy_list pl.isList (by simp only [YF];omega) ⟨H,I.tok _,by rw[U4 r];exact q⟩
  ·subst e';obtain⟨its,r,pl,hz⟩:=I.tuple hx;have hlen:=r.length;exact truthy_tuple pl (by simp only [YF];omega) ⟨H,I.tok _,by rw[U4 r];exact q⟩
  subst e';obtain⟨hz,hS,vs,r,m⟩:kvs.length<=sizeLine/\(p == sysModules)=false/\∃ vs,KV kvs vs/\s.heap.DictOf (mixKind X.prog X.w) p vs:=I.hok p _ hx;have hlen:kvs.length=vs.length:=JK r;exact wpAny_truthy_dict hS m U ⟨H,I.tok _,by rw[Pf r];exact q⟩
 | _=>exact (show False from e).elim
theorem Lm (ha:PE X a ta)(he:∀ whole,isTrue a X.env whole=(do let v <-whole;standAt a.pos;holding [v] (truthy v))) :
  PT X a (λσ H Q=>ta σ H λx H'=>∃ k,TruV X.K x H' k/\Q k H'):=by
 intro pins s σ H Q I h;exact isTrue_plain (thn (ha pins s σ H _ I h) λv s1 ⟨x,H1,I1,r1,q1⟩=>Gr pins s1 σ H1 x v Q I1 r1 q1) (he _)
theorem Zo:OpR X (binaryOp .Add) (λx y H Q=>∃ i j,x=.str i/\y=.str j/\i.length+j.length<=sizeLine/\Q (.str (i++j)) H):=by
 intro pins s σ H x y v u Q I rx ry h;obtain⟨i,j,rfl,rfl,hz,q⟩:=h;obtain⟨t,rfl⟩:=rx;obtain⟨t',rfl⟩:=ry;exact add_str (λt' tk=>⟨.str (i++j),H,I.tok _,⟨_,rfl⟩,q⟩) hz
theorem X8 {x:V}{us:TF}(r:Vals [x] us):∃ u,us=[u]/\RelV x u:=by
 cases r with
 | cons r1 r2=>cases r2;exact⟨_,rfl,r1⟩
theorem L7 {x y:V}{us:TF}(r:Vals [x,y] us):∃ u w',us=[u,w']/\RelV x u/\RelV y w':=by
 cases r with
 | cons r1 r2 =>
  cases r2 with
  | cons r3 r4=>cases r4;exact⟨_,_,rfl,r1,r3⟩
theorem Uc:CallR X (.builtin "abs") (λxs H Q=>∃ i,xs=[.int i]/\Q (.int (if i<0 then -i else i)) H):=by
 intro pins s σ H xs us Q I r h;obtain⟨i,rfl,q⟩:=h;obtain⟨u,rfl,t,rfl⟩:=X8 r;exact call_abs_int λu tk=>⟨.int (if i<0 then -i else i),H,I.tok _,⟨_,rfl⟩,q⟩
theorem Yy:CallR X (.type "str") (λxs H Q=>∃ i,xs=[.int i]/\i.natAbs.log2<1920/\Q (.str (toString i)) H):=by
 intro pins s σ H xs us Q I r h;obtain⟨i,rfl,hz,q⟩:=h;obtain⟨u,rfl,t,rfl⟩:=X8 r;exact PySem.P.str_of_int hz ⟨.str _,H,I.tok _,⟨_,rfl⟩,q⟩
end
structure ObjM (h:Heap)(x dx C:Addr)(mA:Tn):Prop where
 obj:h.get? x=some (W.instObj C dx)
 ns:h.Ns1 dx mA
 ne:dx≠x
theorem Mh {dx:Addr}{mA:Tn}(n:h.Ns1 dx mA):∃ od,h.get? dx=some od/\∀ name,W.lookIn name od=some (mA name):=by
 obtain⟨o,es,ep,ho,hd,hk,_,hm⟩:=n;refine⟨o,ho,λname=>?_⟩;have e:=hm name;unfold nsFind findBy at e;rw[<-Array.find?_toList] at e;unfold W.lookIn;rw[hd];dsimp only;split
 ·rename_i y q
  rw[q] at e;exact congrArg some e
 rename_i q
 rw[q] at e;have a:es.toList.any (·.refKey)=false:=by
  rw[List.any_eq_false];intro y hy;obtain⟨z,t,hkey⟩:=hk y (Array.mem_toList_iff.mp hy);simp[DictEntry.refKey,hkey]
 have a':¬ es.toList.any (·.refKey)=true:=by rw[a];exact YM
 rw[XD a'];exact congrArg some e
theorem ObjM.look {x dx:Addr}{mA:Tn}(I:ObjM h x dx C mA):∃ od,W.InstAt h x (W.instObj C dx) C (some od)/\∀ name,W.lookIn name od=some (mA name) :=
 let ⟨od,ho,hl⟩:=Mh I.ns
 ⟨od,⟨I.obj,rfl,rfl,ho⟩,hl⟩
section
variable {P:TM}{w:World}{H:Hp}{h:Heap}{a C dx:Addr}{fs:List (Str × V)}
theorem Wr (hok:HOk P w H h)(e:H a=some (.ins C dx fs)):∃ mA,ObjM h a dx C mA/\(∀ f,RelO (fs.lookup f) (mA f))/\PySem.Within mA (fs.map (·.1))/\fs.length<=1000/\H dx=some (.own a):=by
 obtain⟨d,z,ne,ob,mA,n,r,q⟩:=(show ObjOk P w H h a (.ins C dx fs) from hok a _ e);exact⟨mA,⟨ob,n,ne⟩,r,q,z,d⟩
end
structure Cls (K:TL)(C:Addr):Prop where
 pg:W.plainGet K C Str.empty=true
 hd:W.hasDictIn K C=true
 po:W.plainOver K C=true
 sa:W.findIn K (.ref C) "__setattr__"=some (some (.builtin "object.__setattr__"))
theorem Cls.get (c:Cls K C)(f:Str):W.plainGet K C f=true:=c.pg
section
variable {X:Cx}{pins:TC}{σ:St}{H:Hp}{s:Shared}{A:Around}{E:TB}{Q:TB}{c:Value}{b:Bool}
inductive TyOf (K:TL) (H:Hp):V->Value->Prop where
 | non:TyOf K H .non (.type "NoneType")
 | bl (x:Bool):TyOf K H (.bl x) (.type "bool")
 | int (i:Int):TyOf K H (.int i) (.type "int")
 | str (x:Str):TyOf K H (.str x) (.type "str")
 | flt (x:UInt64):TyOf K H (.flt x) (.type "float")
 | lst {a:Addr} {xs:TQ} (e:H a=some (.lst xs)):TyOf K H (.ref a) (.type "list")
 | frz {a:Addr} {o:Obj} {xs:TQ} (e:H a=some (.frz o (.lst xs))):TyOf K H (.ref a) (.type "list")
 | tup {a:Addr} {xs:TQ} (e:H a=some (.tup xs)):TyOf K H (.ref a) (.type "tuple")
 | dK {a:Addr} {kvs:List (Key × V)} (e:H a=some (.dK kvs)):TyOf K H (.ref a) (.type "dict")
 | dT {a:Addr} {kvs:List (List Key × V)} (e:H a=some (.dT kvs)):TyOf K H (.ref a) (.type "dict")
 | ins {a C dx:Addr} {fs:List (Str × V)} (e:H a=some (.ins C dx fs)) (cl:Cls K C) (ha:W.findIn K (.ref C) "__class__"=some (some (.builtin "object.__class__")))
   (hn:W.specialIn K (.builtin "object.__class__") "__get__"=some (some (.builtin "getset_descriptor.__get__"))) (htk:W.takesIn K (.builtin "object.__class__")=some true)
   (hm:W.mroIn K C (.type "object")=some true):TyOf K H (.ref a) (.ref C)
theorem Mk {x:V}{u t:Value}(I:Inv X pins σ H s)(rx:RelV x u)(ty:TyOf X.K H x t)(e:W.kitOne X.K t c=some b)(h:∀ tk,Q (.bool b) { s with toks:=tk }) :
  wpAny (model X.prog X.w) A (call (.builtin "isinstance") [u,c]) Q E s:=by
 cases ty with
 | non=>cases (show u=Value.none from rx);exact qu W.kitx_none I.kIn True.intro e (λz=>nomatch z) h
 | bl y=>cases (show u=Value.bool y from rx);exact qu W.kitx_bool I.kIn True.intro e (λz=>nomatch z) h
 | int i=>obtain⟨t,q⟩:=(show ∃ t,u=Value.int i t from rx);cases q;exact qu W.kitx_int I.kIn True.intro e (λz=>nomatch z) h
 | str y=>obtain⟨t,q⟩:=(show ∃ t,u=Value.str y t from rx);cases q;exact qu W.kitx_str I.kIn True.intro e (λz=>nomatch z) h
 | flt y=>obtain⟨t,q⟩:=(show ∃ t,u=Value.float y t from rx);cases q;exact qu W.kitx_float I.kIn True.intro e (λz=>nomatch z) h
 | @lst a xs ea =>
  cases (show u=Value.ref a from rx);obtain⟨_,_,n,_,h1⟩:=(show ObjOk X.prog X.w H s.heap a (.lst xs) from I.hok a _ ea);exact qu W.kitx_list I.kIn ⟨_,h1,rfl⟩ e (λz=>nomatch z) h
 | @frz a ob xs ea =>
  cases (show u=Value.ref a from rx);obtain⟨_,_,_,n,_,h1⟩:=(show ObjOk X.prog X.w H s.heap a (.frz ob (.lst xs)) from I.hok a _ ea);exact qu W.kitx_list I.kIn ⟨_,h1,rfl⟩ e (λz=>nomatch z) h
 | @tup a xs ea =>
  cases (show u=Value.ref a from rx);obtain⟨_,_,_,p⟩:=(show ObjOk X.prog X.w H s.heap a (.tup xs) from I.hok a _ ea);obtain⟨o,h1,h2,_⟩:=p;exact qu W.kitx_tuple I.kIn ⟨o,h1,h2⟩ e (λz=>nomatch z) h
 | @dK a kvs ea =>
  cases (show u=Value.ref a from rx);obtain⟨_,_,vs,_,p⟩:=(show ObjOk X.prog X.w H s.heap a (.dK kvs) from I.hok a _ ea);obtain⟨o,es,ep,h1,h2,_⟩:=p;exact qu W.kitx_dict I.kIn ⟨o,h1,h2.1⟩ e (λz=>nomatch z) h
 | @dT a kvs ea =>
  cases (show u=Value.ref a from rx);obtain⟨_,_,xs,_,o,es,ep,h1,h2,_⟩:=(show ObjOk X.prog X.w H s.heap a (.dT kvs) from I.hok a _ ea);exact qu W.kitx_dict I.kIn ⟨o,h1,h2.1⟩ e (λz=>nomatch z) h
 | @ins a C dx fs ea cl ha hn htk hm =>
  cases (show u=Value.ref a from rx);obtain⟨mA,O,_⟩:=Wr I.hok ea;obtain⟨od,J,_⟩:=O.look;exact qu (W.kitx_own (cl.get _) cl.hd ha hn htk hm) I.kIn J e (λz=>nomatch z) h
end
structure Room (k:Nat)(A:Around)(sr:Bool:=false):Prop where
 hd:sr=true->A.handled=none
 dp:A.depth+3*k+105<recursionLimit
 un:A.units+16*k+200<cLine
theorem Room.mono {k:Nat}(r:Room k A sr)(h:j<=k):Room j A sr:=⟨r.hd,by have:=r.dp;omega,by have:=r.un;omega⟩
theorem Room.deeper {k:Nat}{A:Around}{sr:Bool}(r:Room (k+1) A sr)(env:Env):Room k (A.deeper env) sr :=
 ⟨r.hd,by have:=r.dp;show A.depth+1+3*k+105<_;omega,by have:=r.un;show A.units+3+16*k+200<_;omega⟩
theorem Room.depth {k:Nat}{A:Around}{sr:Bool}(r:Room k A sr):A.depth<recursionLimit:=by have:=r.dp;omega
theorem Room.units {k:Nat}{A:Around}{sr:Bool}(r:Room k A sr):A.units+64<cLine:=by have:=r.un;omega
theorem Room.loose {k:Nat}(r:Room k A sr):Room k A:=⟨(λz=>nomatch z),r.dp,r.un⟩
def tNil:TA:=λ_ H Q=>Q [] H
def tCons (ta:TE)(tr:TA):TA:=λσ H Q=>ta σ H λx H1=>tr σ H1 λxs H2=>Q (x::xs) H2
section
variable {X:Cx}{e:Expr}{es:TJ}{te:TE}{t:TA}{pos:Pos}
theorem Z2:PA X [] tNil:=λ_ _ _ _ H Q I h=>Calls.spliced_nil ⟨[],H,I,.nil,h⟩
theorem Z0 (ha:PE X e te)(hr:PA X es t)(hs:starEach (e::es) X.env=(false,eval e X.env)::starEach es X.env:=by rfl):PA X (e::es) (tCons te t):=by
 intro pos pins s σ H Q I h;rw[hs];show wpAny _ _ (spliced ((false,eval e X.env)::backTo pos (starEach es X.env))) _ _ s;refine Calls.spliced_cons (thn (ha pins s σ H _ I h) λu s1 ⟨x,H1,I1,r1,q1⟩=>?_);exact thn (hr pos pins s1 σ H1 _ I1 q1) λus s2 ⟨xs,H2,I2,r2,q2⟩=>⟨x::xs,H2,I2,.cons r1 r2,q2⟩
def tTup (t:TA):TE:=λσ H Q=>t σ H λxs H1=>xs.length<=sizeLine/\∀ p,H1 p=none->Q (.ref p) (upd H1 p (.tup xs))
def tLst (t:TA):TE:=λσ H Q=>t σ H λxs H1=>xs.length<=sizeLine/\∀ p,H1 p=none->Q (.ref p) (upd H1 p (.lst xs))
theorem Xu {x1}(h:PA X es t):PE X (.Tuple es x1 pos) (tTup t):=by
 intro pins s σ H Q I hq;refine wpAny_Tuple_spliced (thn (h pos pins s σ H _ I hq) λus s1 ⟨xs,H1,I1,r,z,q⟩=>⟨by rw[<-r.length];exact z,?_⟩);have hf:H1 s1.heap.objs.size=none:=I1.hok.fresh (YE _);refine⟨.ref s1.heap.objs.size,upd H1 s1.heap.objs.size (.tup xs),I1.laid (t':=s1.toks) (λb u e=>YB _ e) (YE _) ?_,rfl,q _ hf⟩;exact⟨z,us,r,⟨_,YG _ rfl,rfl,_,rfl⟩⟩
theorem Yk (h:PA X es t):PE X (.List es pos) (tLst t):=by
 intro pins s σ H Q I hq;refine wpAny_List_spliced (thn (h pos pins s σ H _ I hq) λus s1 ⟨xs,H1,I1,r,z,q⟩=>⟨by rw[<-r.length];exact z,?_⟩);have hf:H1 s1.heap.objs.size=none:=I1.hok.fresh (YE _);refine⟨.ref s1.heap.objs.size,upd H1 s1.heap.objs.size (.lst xs),I1.laid (t':=s1.toks) (λb u e=>YB _ e) (YE _) ?_,rfl,q _ hf⟩;exact⟨z,us,0,r,YG _ rfl⟩
end
abbrev Sp:=List V->Hp->VK->XK->Prop
abbrev CXT:=List Env->Hp->Shared->XK->Value->Shared->Prop
structure Env0 (P:TM)(w:World)(K:TL)(mg:Tn)(base:Heap)(A:Around)(outer:List Env)(s:Shared)(H:Hp):Prop where
 frames:A.frames=some outer
 mod:Mod K mg base
 bs:∀ b o,base.get? b=some o->s.heap.get? b=some o/\H b=none
 bsz:base.objs.size<=s.heap.objs.size
 funs:s.heap.FunFrames base outer
 frf:∀ b∈frs outer,H b=none
 hok:HOk P w H s.heap
 bare:AllBare s.gens
 qt:Sb.QtE A s.heap H (frs outer)
 tree:P.given.tree=none
def CE (outer:List Env)(P:TM)(w:World)(H:Hp)(s:Shared)(Q:VK)(u:Value)(s':Shared):Prop :=
 ∃ v H',s'.os=s.os/\AllBare s'.gens/\Un (frs outer) [] H H' s.heap s'.heap/\HOk P w H' s'.heap/\RelV v u/\Q v H'
def CR (CX:CXT)(outer:List Env)(P:TM)(w:World)(H:Hp)(s:Shared)(Q:VK)(E:XK)(r:Result)(s':Shared):Prop :=
 match r with
 | .ok (.ret u)=>CE outer P w H s Q u s'
 | .ok _=>False
 | .error e=>CX outer H s E e s'
structure FnOk (P:TM)(w:World)(K:TL)(mg:Tn)(base:Heap)(CX:CXT)(k:Nat)(f:Addr)(fd:FuncData)(ps:TD)(sp:Sp)(sr:Bool:=false):Prop where
 len:∀ vs H Q E,sp vs H Q E->vs.length=ps.length
 run:∀ (A:Around) (outer:List Env) (s:Shared) (H:Hp) (args:Args) (us:TF) (vs:TQ) (Q:VK) (E:XK),Room k A sr->Env0 P w K mg base A outer s H->BindsTo s fd args (ps.zip us)->Vals vs us->sp vs H Q E →
  codeAny (model P w) A (.call (.ref f) args) (CR CX outer P w H s Q E) s
section
variable {X:Cx}{pins:TC}{σ:St}{H:Hp}{s s':Shared}
theorem Inv.env0 (I:Inv X pins σ H s)(hc:X.calm=true):Env0 X.prog X.w X.K X.mg X.base X.A X.stack s H :=
 ⟨I.ok.frames,I.ok.mod,I.bs,XA I.ok.bsz I.sz,I.stack,I.stkFree,I.hok,I.bare,(I.ok.hd hc).imp id λ⟨p,hp,e,n⟩=>by
  obtain⟨a1,a2,a3,a4,a5⟩:=I.pin p (YW _ hp);exact⟨p.1,p.2,e,a1,n,a2,λz=>(YJ.mp (I.stkSub p.1 z)).elim a3 a4,a5⟩,I.ok.seen.1⟩
theorem Inv.after {Q:VK}(I:Inv X pins σ H s)(h:CE X.stack X.prog X.w H s Q u s'):EP X pins σ Q u s':=by
 obtain⟨v,H',os,bare,un,hok,r,q⟩:=h;obtain⟨hh,g,d,t,os'⟩:=s';obtain rfl:os'=s.os:=os;exact⟨v,H',I.call (h':=hh) (g':=g) (d':=d) (t':=t) (ch:=[]) un hok bare (λb z=>absurd z J1),r,q⟩
end
def tCall (sp:Sp)(dvs:TQ)(E:XK)(t:TA):TE:=λσ H Q=>t σ H λvs H1=>sp (vs++dvs) H1 Q E
def Binds (K:TL)(fd:FuncData)(ps:TD)(ds:TF):Prop :=
 ∀ (s:Shared) (us:TF),K.In s.heap->(us++ds).length=ps.length->BindsTo s fd ⟨us,[]⟩ (ps.zip (us++ds))
theorem Binds.all (h:∀ us:List Value,us.length=ps.length->bindArgs fd ⟨us,[]⟩=pure (ps.zip us)):Binds K fd ps []:=λs us _ hl=>by
 rw[zu] at hl ⊢;exact .of_eq (h us hl)
def Passes (CX:CXT)(X:Cx)(E:XK):Prop:=∀ (pins:TC) (σ:St) (H:Hp) (s:Shared) (e:Value) (s':Shared),Inv X pins σ H s->CX X.stack H s E e s'->X.xe e s'
section
variable {X:Cx}{CX:CXT}{k:Nat}{f:Addr}{fd:FuncData}{ps:TD}{sp:Sp}{dvs:TQ}{ds:TF}{E:XK}{x:Str}{p pos:Pos}{e:Expr}{es:TJ}{t:TA}
theorem F6 {pins:TC}{σ:St}{H:Hp}{s:Shared}{Q:VK}{us:TF}{vs:TQ}{sr:Bool}(F:FnOk X.prog X.w X.K X.mg X.base CX k f fd ps sp sr)(hr:Room k X.A sr)(hb:Binds X.K fd ps ds)(hd:Vals dvs ds)(hx:Passes CX X E)(hc:X.calm=true)
  (I:Inv X pins σ H s) (r:Vals vs us) (h:sp (vs++dvs) H Q E):wpAny (model X.prog X.w) X.A (call (.ref f) us) (EP X pins σ Q) X.xe s:=by
 have r2:Vals (vs++dvs) (us++ds):=r.append hd;have hl:(us++ds).length=ps.length:=by rw[<-r2.length];exact F.len _ _ _ _ h
 refine wpAny_call (qJ (F.run X.A X.stack s H ⟨us,[]⟩ (us++ds) (vs++dvs) Q E hr (I.env0 hc) (hb s us I.kIn hl) r2 h) λr s' hq=>?_)
 cases r with
 | error e=>exact hx pins σ H s e s' I hq
 | ok fl =>
  cases fl with
  | ret u=>exact I.after hq
  | next=>exact False.elim hq
  | brk=>exact False.elim hq
  | cont=>exact False.elim hq
theorem N1 (F:FnOk X.prog X.w X.K X.mg X.base CX k f fd ps sp sr)(hr:Room k X.A sr)(hg:Gl X x)(hm:X.mg x=some (.ref f))(hk:W.keepIn X.K (.ref f)=true)(hb:Binds X.K fd ps ds)(hd:Vals dvs ds)(hx:Passes CX X E)
  (ha:PA X (e::es) t) (hdb:(x == ("__debug__":Str))=false:=by decide) (he:starEach (e::es) X.env=(false,eval e X.env)::starEach es X.env:=by rfl) (hpl:(backTo pos (starEach es X.env)).any (·.1)=false:=by rfl) (hc:X.calm=true:=by rfl) :
  PE X (.Call (.Name x p) (e::es) [] pos) (tCall sp dvs E t):=by
 intro pins s σ H Q I h;refine qP (N6 I hg hm ?_ hdb);refine W.callWith_K (h₀:=X.base) I.ok.mod.kin hk (thn (ha pos pins s σ H _ I h) λus s1 ⟨vs,H1,I1,r,q⟩=>⟨I1.kIn,?_⟩) he hpl;exact F6 F hr hb hd hx hc I1 r q
end
structure FnScope (N P:TD)(sc:Scope):Prop where
 kind:sc.kind=.function
 co:sc.isCoroutine=false
 gen:sc.isGenerator=false
 nd:N.Nodup
 pre:N.take P.length=P
 par:∀ x∈P,sc.names.lookup x=some .local \/ sc.names.lookup x=some .cell
 nofree:∀ y∈sc.names,y.2≠.free
theorem fsc {N P:TD}{sc:Scope}(a:sc.kind=.function:=by rfl)(b:sc.isCoroutine=false:=by rfl)(c:sc.isGenerator=false:=by rfl)(d:N.Nodup:=by decide +kernel)(e:N.take P.length=P:=by rfl)(f:∀ x∈P,sc.names.lookup x=some .local ∨ sc.names.lookup x=some .cell:=by decide +kernel)(g:∀ y∈sc.names,y.2≠.free:=by decide +kernel):FnScope N P sc:=⟨a,b,c,d,e,f,g⟩
theorem Te {kindOf:Str->Option NameKind}{x:Str}:∀ {binds:List (Str × Value)} {m:Tn},(∀ v,(x,v) ∉ binds)->bindL kindOf binds m x=m x
 | [],_,_=>rfl
 | (n,v)::r,m,h=>by
  unfold bindL;rw[Te λw hw=>h w (YK _ hw)];split
  ·have:x≠n:=by rintro rfl;exact h v YL
   simp[this]
  rfl
theorem Tg {kindOf:Str->Option NameKind}{x:Str}:∀ {binds:List (Str × Value)} {m:Tn},(∀ v,(x,v) ∉ binds)->bindC kindOf binds m x=m x
 | [],_,_=>rfl
 | (n,v)::r,m,h=>by
  unfold bindC;rw[Tg λw hw=>h w (YK _ hw)];split
  ·rfl
  have:x≠n:=by rintro rfl;exact h v YL
  simp[this]
theorem Tf {kindOf:Str->Option NameKind}{x:Str}{v:Value}:∀ {P:TD} {vs:TF} {i:Nat} {m:Tn},P.Nodup->P[i]?=some x->vs[i]?=some v->kindOf x=some .local →
  bindL kindOf (P.zip vs) m x=some v
 | [],_,_,_,_,h,_,_=>by simp at h
 | _::_,[],_,_,_,_,h,_=>by simp at h
 | p::P,w::vs,0,m,nd,h1,h2,hk=>by
  simp at h1 h2;subst h1;subst h2;show bindL kindOf ((p,w)::P.zip vs) m p=_;unfold bindL;rw[Te λv hv=>(zv.mp nd).1 (js hv).1,XQ hk];simp
 | p::P,w::vs,i+1,m,nd,h1,h2,hk=>by
  show bindL kindOf ((p,w)::P.zip vs) m x=_;unfold bindL;exact Tf (i:=i) (zv.mp nd).2 (by simpa using h1) (by simpa using h2) hk
theorem Th {kindOf:Str->Option NameKind}{x:Str}{v:Value}:∀ {P:TD} {vs:TF} {i:Nat} {m:Tn},P.Nodup->P[i]?=some x->vs[i]?=some v->kindOf x≠some .local →
  bindC kindOf (P.zip vs) m x=some v
 | [],_,_,_,_,h,_,_=>by simp at h
 | _::_,[],_,_,_,_,h,_=>by simp at h
 | p::P,w::vs,0,m,nd,h1,h2,hk=>by
  simp at h1 h2;subst h1;subst h2;show bindC kindOf ((p,w)::P.zip vs) m p=_;unfold bindC;rw[Tg λv hv=>(zv.mp nd).1 (js hv).1,XD hk];simp
 | p::P,w::vs,i+1,m,nd,h1,h2,hk=>by
  show bindC kindOf ((p,w)::P.zip vs) m x=_;unfold bindC;exact Th (i:=i) (zv.mp nd).2 (by simpa using h1) (by simpa using h2) hk
def start (N:TD)(vs:TQ):St:=vs.map some++List.replicate (N.length - vs.length) none
def cxOf (CX:CXT)(P:TM)(w:World)(K:TL)(mg:Tn)(base:Heap)(N:TD)(qual:Str)(scope:Scope)(f:Addr)(cd:Value)(A:Around)(outer:List Env)(s:Shared)(H:Hp)(E:XK):Cx where
 prog:=P
 w:=w
 K:=K
 mg:=mg
 base:=base
 A:=A.deeper (envOfC qual scope s.heap.objs.size f cd)
 N:=N
 s₀:=s
 H₀:=H
 env:=envOfC qual scope s.heap.objs.size f cd
 outer:=outer
 stack:=envOfC qual scope s.heap.objs.size f cd::outer
 ex:=[]
 calm:=true
 fn:=λ_=>true
 pn:=Sb.qpin A s.heap
 xe:=λe s'=>wpAny (model P w) (A.deeper (envOfC qual scope s.heap.objs.size f cd)) (leaving (envOfC qual scope s.heap.objs.size f cd) e) (λ_ s''=>CX outer H s E e s'') (λe' s''=>CX outer H s E e' s'') s'
theorem Qg {sc:Scope}{n:Nat}{x:Str}(h:sc.names.lookup x=some .cell):∃ c,(cellsFrom n sc.names []).lookup x=some c:=by
 have q:=W.cellsFrom_some sc.names n [] (.inl h);exact Option.isSome_iff_exists.mp q
theorem Ml {CX:CXT}{P:TM}{w:World}{K:TL}{mg:Tn}{base:Heap}{N ps:TD}{qual:Str}{scope:Scope}{f:Addr}{cd:Value}{A:Around}{outer:List Env}{s s1:Shared}{H:Hp}{E:XK}{us:TF}{vs:TQ}
  (S:FnScope N ps scope) (e0:Env0 P w K mg base A outer s H) (hdp:A.depth+1+100<recursionLimit) (hl:vs.length=ps.length) (r:Vals vs us)
  (x:InCallC s s.heap.objs.size (bindL (envOfC qual scope s.heap.objs.size f cd).kindOf (ps.zip us) λ_=>none) (cellsFrom (s.heap.objs.size+1) scope.names []) (bindC (envOfC qual scope s.heap.objs.size f cd).kindOf (ps.zip us) λ_=>none) s1) :
  Inv (cxOf CX P w K mg base N qual scope f cd A outer s H E) [] (start N vs) H s1:=by
 have hpl:ps.length<=N.length:=by have:=congrArg List.length S.pre;rw[XS] at this;omega
 obtain⟨h1,tk,rfl,hk⟩:=x.done;have noA:∀ b:Addr,b ∉ (cxOf CX P w K mg base N qual scope f cd A outer s H E).ex:=λb z=>absurd (show b∈([]:TH) from z) J1;refine⟨⟨e0.mod,S.kind,rfl,rfl,YE _,λy z c h1 h2=>?_,λy hy=>?_,λy c _ h=>?_,λ_=>e0.qt.pin,Around.frames_deeper e0.frames,.inr ⟨rfl,rfl⟩,λb z=>absurd z (noA b),e0.bs,e0.bsz,λb _ _=>noA b,λb z=>absurd z (noA b),e0.funs,e0.frf,⟨e0.tree,_,_,rfl,S.gen,S.co,rfl,rfl⟩,hdp⟩,
  rfl,e0.bare,Un.kept hk,⟨_,x.toInCall.ns,λi y v h1 h2 h3=>?_⟩,λy c h=>⟨_,x.cell y c h⟩,e0.hok.fresh (YE _),λy c h=>?_,λp hp=>?_,e0.hok.kept hk,?_⟩
 rotate_right 2
 ·obtain⟨a1,a2,a3,a4⟩:=e0.qt.mem p ((YY.mp hp).elim id λz=>absurd z J1);exact⟨hk _ _ a1,a2,YT (YH a1),a3,a4⟩
 rotate_left 1
 ·exact name_of_addr x.apart (qp h1) (qp h2)
 ·have hy:scope.names.lookup y=some .cell \/ scope.names.lookup y=some .free:=hy;rcases hy with hy | hy
  ·exact Qg hy
  exact absurd rfl (S.nofree _ (qp hy))
 ·exact qV (x.above y c (qp h))
 ·have hi:i<vs.length:=by
   unfold start at h2;by_cases hi:i<vs.length
   ·exact hi
   rw[GY (by simpa using hi)] at h2;rw[List.getElem?_replicate] at h2;split at h2 <;> cases h2
  have ha:vs[i]?=some v:=by
   unfold start at h2;rw[qh (by simpa using hi),YI] at h2
   cases e:vs[i]? with
   | none=>rw[e] at h2;cases h2
   | some a=>rw[e] at h2;cases h2;rfl
  obtain⟨u,hu,rv⟩:=r.get ha;have hp:ps[i]?=some y:=by
   rw[<-S.pre,List.getElem?_take_of_lt U];exact h1
  have ndP:ps.Nodup:=by rw[<-S.pre];exact S.nd.sublist (List.take_sublist _ _)
  refine⟨u,rv,?_⟩;rcases S.par y (YO hp) with k | k
  ·exact .inl ⟨k,Tf ndP hp hu k⟩
  obtain⟨c,e⟩:=Qg (n:=s.heap.objs.size+1) k;refine .inr ⟨.inl k,c,e,?_⟩;have q:=x.cell y c e;rw[Th ndP hp hu (by show scope.names.lookup y≠_;rw[k];decide)] at q;exact q
 ·exact e0.hok.fresh (qV (x.above y c (qp h)))
 unfold start;show _=N.length;rw[XF,YC,List.length_replicate];omega
theorem Dn {CX:CXT}{P:TM}{w:World}{K:TL}{mg:Tn}{base:Heap}{k:Nat}{f:Addr}{name qual:Str}{params:Arguments}{body:List Stmt}{scope:Scope}{dV kV doc pm cdv ct oc:Value}{an od:TK}
  {osl:Array (Option Value)} {N ps:TD} {sp:Sp} {sr:Bool} (lk:K.lookup f=some ⟨oc,od,.func (W.fnOf name qual params body scope dV kV doc pm an cdv ct),osl⟩) (hcd:W.codeIn K cdv qual=true) (S:FnScope N ps scope)
  (len:∀ vs H Q E,sp vs H Q E->vs.length=ps.length)
  (hbody:∀ (A:Around) (outer:List Env) (s:Shared) (H:Hp) (vs:TQ) (Q:VK) (E:XK),Room k (A.deeper (envOfC qual scope s.heap.objs.size f cdv)) sr->sp vs H Q E →
   ∃ t,PSs (cxOf CX P w K mg base N qual scope f cdv A outer s H E) body t/\t { nx:=λ_ H'=>Q .non H',rt:=Q } (start N vs) H) :
  FnOk P w K mg base CX (k+1) f (W.fnOf name qual params body scope dV kV doc pm an cdv ct) ps sp sr:=by
 refine⟨len,λA outer s H args us vs Q E hr e0 hb r hsp=>?_⟩;have hl:=len _ _ _ _ hsp;have KX:K.In s.heap:=e0.mod.kin.keeps λb o e=>(e0.bs b o e).1;have lim:s.heap.NoLimit:=e0.mod.nolimit.keeps λb o e=>(e0.bs b o e).1;have hkind:∀ y∈ps.zip us,scope.names.lookup y.1=some .local \/ (scope.names.lookup y.1=some .cell/\((cellsFrom (s.heap.objs.size+1) scope.names []).lookup y.1).isSome=true):=λ⟨n,v⟩ hy=>by
  rcases S.par n (js hy).1 with q | q
  ·exact .inl q
  exact .inr ⟨q,W.cellsFrom_some _ _ _ (.inl q)⟩
 refine codeAny_call_function hr.depth (KX _ _ lk) rfl S.co S.gen rfl (W.codeRec_of KX hcd) (hb _ _ _ _ ?_);refine wpAny_newFunctionEnv_cells S.kind hkind λenv he s1 x=>?_;subst he;refine⟨lim.keeps x.toInCall.keep,codeAny_func ?_⟩;obtain⟨t,ht,hq⟩:=hbody A outer s H vs Q E (hr.deeper _) hsp;have I:Inv (cxOf CX P w K mg base N qual scope f cdv A outer s H E) [] (start N vs) H s1:=Ml S e0 (by have:=(hr.deeper (envOfC qual scope s.heap.objs.size f cdv)).dp;have:A.depth+1+3*k+105<recursionLimit:=this;omega) hl r x;refine GX (ht [] s1 (start N vs) H _ I hq) (λfl s' hs=>?_) λe s' hs=>hs;have fin:∀ {σ':St} {H':Hp} {v:V} {u:Value},Inv (cxOf CX P w K mg base N qual scope f cdv A outer s H E) [] σ' H' s'->RelV v u->Q v H'->CE outer P w H s Q u s' :=
  λ{σ' H' v u} J rv q=>⟨v,H',J.os,J.bare,J.base,J.hok,rv,q⟩
 cases fl with
 | ret u =>
  obtain⟨v,σ',H',J,rv,q⟩:=hs;exact fin J rv q
 | next =>
  obtain⟨σ',H',J,q⟩:=hs;exact fin (v:=V.non) (u:=Value.none) J rfl q
 | brk =>
  obtain⟨_,_,_,q⟩:=hs;exact False.elim q
 | cont =>
  obtain⟨_,_,_,q⟩:=hs;exact False.elim q
end L2
variable {sp:L2.Sp}
namespace L2
open PySem PySem.Spec PyProof.Rows
section
variable {X:Cx}{x:Str}{p pos:Pos}{e:Expr}{es:TJ}{t:TA}{id T:String}{r:List V->Hp->VK->Prop}
def tCB (r:List V->Hp->VK->Prop)(t:TA):TE:=λσ H Q=>t σ H λvs H1=>r vs H1 Q
theorem Z9 (hc:CallR X (.builtin id) r)(hg:Gl X x)(hm:X.mg x=none)(hv:bootBuiltins x=some (.builtin id))(ha:PA X (e::es) t)(hn:x≠"__name__":=by decide)(hdb:(x == ("__debug__":Str))=false:=by decide)
  (he:starEach (e::es) X.env=(false,eval e X.env)::starEach es X.env:=by rfl) (hpl:(backTo pos (starEach es X.env)).any (·.1)=false:=by rfl):PE X (.Call (.Name x p) (e::es) [] pos) (tCB r t):=by
 intro pins s σ H Q I h;refine qP (Wa I hg hm hv ?_ hn hdb);exact PyProof.Rows.callWith_builtin1 (thn (ha pos pins s σ H _ I h) λus s1 ⟨vs,H1,I1,r1,q1⟩=>hc pins s1 σ H1 vs us Q I1 r1 q1) he hpl
theorem Zu (hc:CallR X (.type T) r)(hg:Gl X x)(hm:X.mg x=none)(hv:bootBuiltins x=some (.type T))(ha:PA X (e::es) t)(hn:x≠"__name__":=by decide)(hdb:(x == ("__debug__":Str))=false:=by decide)
  (he:starEach (e::es) X.env=(false,eval e X.env)::starEach es X.env:=by rfl) (hpl:(backTo pos (starEach es X.env)).any (·.1)=false:=by rfl):PE X (.Call (.Name x p) (e::es) [] pos) (tCB r t):=by
 intro pins s σ H Q I h;refine qP (Wa I hg hm hv ?_ hn hdb);exact GR (thn (ha pos pins s σ H _ I h) λus s1 ⟨vs,H1,I1,r1,q1⟩=>hc pins s1 σ H1 vs us Q I1 r1 q1) he hpl
end
end L2
namespace HT
open PySem PyProof.Rows
section
variable {prog:TM}{w:World}{A:Around}{E:TB}{s:Shared}
def sIx (n d:Nat):Option Int->Nat
 | none=>d
 | some v=>if v<0 then (v+(n:Int)).toNat else min v.toNat n
theorem sIx_none (n d:Nat):sIx n d none=d:=rfl
theorem sIx_nat (n d k:Nat):sIx n d (some (k:Int))=min k n:=by
 show (if (k:Int)<0 then ((k:Int)+(n:Int)).toNat else min (k:Int).toNat n)=min k n;rw[XD U,GN]
theorem F5 (n d:Nat)(hd:d<=n)(o:Option Int):sIx n d o<=n:=by
 cases o with
 | none=>exact hd
 | some v =>
  show (if v<0 then (v+(n:Int)).toNat else min v.toNat n)<=n;by_cases hv:v<0
  ·rw[XQ hv];omega
  rw[XD hv];exact ja _ _
theorem Nl (v:Int)(n d:Nat):(if v<0 then max (v+(n:Int)) 0 else min v (n:Int))=((sIx n d (some v):Nat):Int):=by
 show (if v<0 then max (v+(n:Int)) 0 else min v (n:Int))=(((if v<0 then (v+(n:Int)).toNat else min v.toNat n):Nat):Int);by_cases hv:v<0
 ·simp only [XQ hv];omega
 simp only [XD hv];omega
theorem Pt (lo hi:Option Int)(n:Nat):Builtin.Slice.sliceAdjust lo hi 1 (n:Int)=(((sIx n 0 lo:Nat):Int),((sIx n n hi:Nat):Int)):=by
 have h1:¬ ((1:Int)<0):=U
 unfold Builtin.Slice.sliceAdjust;simp only [h1,qF];refine Prod.ext ?_ ?_
 ·cases lo with
  | none=>rfl
  | some v=>exact Nl v n 0
 cases hi with
 | none=>rfl
 | some v=>exact Nl v n n
theorem P4 (i j:Nat):Builtin.Slice.slicePlaces (i:Int) (j:Int) 1=j - i:=by
 unfold Builtin.Slice.slicePlaces;have h1:(1:Int) > 0:=U
 simp only [h1,zl,Int.ediv_one];split <;> omega
theorem Vp {v:Value}{o:Option Int}{Q:Option Int->Shared->Prop}(p:IsPart v o)(h:Q o s):wpAny (model prog w) A (Builtin.Slice.slicePartIndex v) Q E s:=by
 cases p with
 | none=>exact slicePart_none h
 | int i t=>exact slicePart_int h
theorem V0 {sl:Addr}{vl vu:Value}{lo hi:Option Int}{n:Nat}{Q:Int × Int × Nat->Shared->Prop}(hs:s.heap.IsSliceOf sl vl vu .none)(pl:IsPart vl lo)(pu:IsPart vu hi)
  (h:Q (((sIx n 0 lo:Nat):Int),1,sIx n n hi - sIx n 0 lo) s):wpAny (model prog w) A (Builtin.Slice.sliceApplied (.ref sl) (pure (n:Int))) Q E s:=by
 obtain⟨os,hos,hcs,hds⟩:=id hs;unfold Builtin.Slice.sliceApplied Builtin.Slice.sliceFields;refine YA (YA (XB hos hds (x:=vl) rfl (YA (XB hos hds (x:=vu) rfl (YA (XB hos hds (x:=.none) rfl (YD ?_)))))));refine YA (slicePart_none ?_);show wpAny _ _ (if ((1:Int) == 0)=true then _ else _) _ _ s;rw[XD J0];refine YA (Vp pl (YA (Vp pu (YA (YD ?_)))));show wpAny _ _ (match Builtin.Slice.sliceAdjust lo hi 1 (n:Int) with | (lo,hi)=>pure (lo,(1:Int),Builtin.Slice.slicePlaces lo hi 1)) _ _ s;rw[Pt lo hi n];show wpAny _ _ (pure (((sIx n 0 lo:Nat):Int),(1:Int),Builtin.Slice.slicePlaces ((sIx n 0 lo:Nat):Int) ((sIx n n hi:Nat):Int) 1)) _ _ s;rw[P4];exact YD h
theorem Lr (xs:Array Value)(i k:Nat):((List.range k).filterMap λ(m:Nat)=>xs[((i:Int)+(m:Int)*1).toNat]?).toArray=((xs.toList.drop i).take k).toArray:=by
 have e:(λ(m:Nat)=>xs[((i:Int)+(m:Int)*1).toNat]?)=λm=>xs[i+m]?:=by
  funext m
  have:((i:Int)+(m:Int)*1).toNat=i+m:=U
  rw[this]
 rw[e];have:=pick_run xs i k;rw[List.filterMap_map] at this;have e2:((λx=>xs[x]?) ∘ λx=>i+x)=λm=>xs[i+m]?:=rfl;rw[e2] at this;rw[this]
theorem getItem_tuple_cut {t sl:Addr}{items:Array Value}{vl vu:Value}{lo hi:Option Int}{Q:TB}(ht:IsTup s.heap t items)(hs:s.heap.IsSliceOf sl vl vu .none)(pl:IsPart vl lo)(pu:IsPart vu hi)
  (hw:¬ (sIx items.size 0 lo=0/\sIx items.size items.size hi=items.size))
  (h:Q (.ref s.heap.objs.size) { s with heap:=s.heap.push { cls:=.type "tuple",data:=.seq ((items.toList.drop (sIx items.size 0 lo)).take (sIx items.size items.size hi - sIx items.size 0 lo)).toArray } })
  (hsz:items.size<=sizeLine):wpAny (model prog w) A (getItem (.ref t) (.ref sl)) Q E s:=by
 have htake:sizeOk (.seq ((items.toList.drop (sIx items.size 0 lo)).take (sIx items.size items.size hi - sIx items.size 0 lo)).toArray):=by
  show ((items.toList.drop (sIx items.size 0 lo)).take (sIx items.size items.size hi - sIx items.size 0 lo)).toArray.size<=sizeLine;rw[YF,XS,qv,XZ];omega
 have hj:sIx items.size items.size hi<=items.size:=F5 _ _ (YE _) hi;obtain⟨os,hos,hcs,hds⟩:=id hs;have hTs:s.TypeIs (.ref sl) "slice":=⟨os,hos,hcs⟩;unfold getItem
 try with_reducible refine XM ?_
 first | refine YA (YD ?_) | skip
 refine YA (wpAny_sequenceKey ht.typeIs J0 ?_);refine YA (XH (name:=Str.ofString "__getitem__") ht.typeIs qo
  (XR qo ht.typeIs entry_tuple_getitem ?_ (args_tuple_getitem _ _)))
 show wpAny _ _ (Builtin.Tuple.tupleItemsOf (.ref t) >>= _) _ _ s;refine YA (tupleItemsOf_ ht ?_);refine YA (zH hTs ?_);rw[XQ J0];refine YA (V0 hs pl pu ?_);have hno:¬ ((((sIx items.size 0 lo:Nat):Int) == 0 && (1:Int) == 1 && (sIx items.size items.size hi - sIx items.size 0 lo) == items.size)=true):=by
  intro q;rw[GK,GK] at q;have q1:((sIx items.size 0 lo:Nat):Int)=0:=eq_of_beq q.1.1;have q2:sIx items.size items.size hi - sIx items.size 0 lo=items.size:=eq_of_beq q.2;exact hw ⟨U,U⟩
 show wpAny _ _ (if (((sIx items.size 0 lo:Nat):Int) == 0 && (1:Int) == 1 && (sIx items.size items.size hi - sIx items.size 0 lo) == items.size)=true then _ else _) _ _ s;rw[XD hno,Lr]
 first
  | exact YA (m:=Builtin.Tuple.tupleExact _) (JA (YD ⟨_,rfl,YD h⟩) htake)
  | exact YA (m:=Builtin.Tuple.tupleExact _) (JA (YA (YD (YD ⟨_,rfl,YD h⟩))) htake)
  | exact YA (YA (m:=Builtin.Tuple.tupleExact _) (JA (YD (YD ⟨_,rfl,YD h⟩)) htake))
  | exact YA (YA (m:=Builtin.Tuple.tupleExact _) (JA (YD ⟨_,rfl,YD h⟩) htake))
end
end HT
namespace L2
open PySem PySem.Spec PyProof.Rows
abbrev TO:=St->Hp->(Option Int->Hp->Prop)->Prop
def PO (X:Cx)(e:Option Expr)(t:TO):Prop :=
 ∀ (pins:TC) (s:Shared) (σ:St) (H:Hp) (Q:Option Int->Hp->Prop),Inv X pins σ H s->t σ H Q →
  wpAny (model X.prog X.w) X.A (evalPart e X.env) (λu s'=>∃ o H',Inv X pins σ H' s'/\IsPart u o/\Q o H') X.xe s
def tNoPart:TO:=λ_ H Q=>Q none H
inductive tPart_i (Q:(Option Int->Hp->Prop)) (x:V) (H1:Hp):Prop
 | mk (i:_) (zz0:x=.int i) (zz1:Q (some i) H1)
def tPart (t:TE):TO:=λσ H Q=>t σ H (tPart_i Q)
section
variable {X:Cx}{e:Expr}{te:TE}{lo hi:Option Expr}{tl th:TO}{pos p2:Pos}
theorem Yd:PO X none tNoPart:=by
 intro pins s σ H Q I h;rw[evalPart_none];exact YD ⟨none,H,I,.none,h⟩
theorem Y0 (h:PE X e te):PO X (some e) (tPart te):=by
 intro pins s σ H Q I hw;rw[evalPart_some];refine thn (h pins s σ H _ I hw) λu s1 ⟨x,H1,I1,r1,q1⟩=>?_;obtain⟨i,rfl,q⟩:=q1;obtain⟨t,rfl⟩:=r1;exact⟨some i,H1,I1,.int i t,q⟩
def SlR (X:Cx)(r:V->Option Int->Option Int->Hp->VK->Prop):Prop :=
 ∀ (pins:TC) (s:Shared) (σ:St) (H:Hp) (x:V) (v vl vu:Value) (lo hi:Option Int) (sl:Addr) (Q:VK),Inv X pins σ H s->RelV x v->s.heap.IsSliceOf sl vl vu .none->IsPart vl lo->IsPart vu hi->r x lo hi H Q →
  ∃ T id,typeLookup (.type T) "__getitem__"=pure (some (.builtin id))/\s.TypeIs v T/\wpAny (model X.prog X.w) X.A (getItem v (.ref sl)) (EP X pins σ Q) X.xe s
def tSl (r:V->Option Int->Option Int->Hp->VK->Prop)(te:TE)(tl th:TO):TE:=λσ H Q=>te σ H λx H1=>tl σ H1 λl H2=>th σ H2 λu H3=>r x l u H3 Q
theorem Yf {r:V->Option Int->Option Int->Hp->VK->Prop}(hr:SlR X r)(he:PE X e te)(hl:PO X lo tl)(hu:PO X hi th):PE X (.Subscript e (.Slice lo hi none p2) pos) (tSl r te tl th):=by
 intro pins s σ H Q I h;refine Subscript_ (thn (he pins s σ H _ I h) λv s1 ⟨x,H1,I1,r1,q1⟩=>?_);refine wpAny_Slice (thn (hl pins s1 σ H1 _ I1 q1) λvl s2 ⟨l,H2,I2,pl,q2⟩=>thn (hu pins s2 σ H2 _ I2 q2) λvu s3 ⟨u,H3,I3,pu,q3⟩=>?_);rw[evalPart_none];refine YD ?_;have I4:Inv X pins σ H3 { s3 with heap:=s3.heap.push { cls:=.type "slice",data:=.fields #[vl,vu,.none] } }:=I3.kept (t':=s3.toks) λb ob q=>YB _ q;obtain⟨T,id,hT,ht,hg⟩:=hr pins { s3 with heap:=s3.heap.push { cls:=.type "slice",data:=.fields #[vl,vu,.none] } } σ H3 x v vl vu l u s3.heap.objs.size Q I4 r1 (Heap.IsSliceOf.new ..) pl pu q3;show wpAny (model X.prog X.w) X.A (subscriptTail e (.Slice lo hi none p2) v (.ref s3.heap.objs.size)) (EP X pins σ Q) X.xe { s3 with heap:=s3.heap.push { cls:=.type "slice",data:=.fields #[vl,vu,.none] } };exact tail_any (ops:=[.ref s3.heap.objs.size,v]) ht hT hg (by with_unfolding_all rfl)
def cutV (xs:TQ)(lo hi:Option Int):List V:=(xs.drop (HT.sIx xs.length 0 lo)).take (HT.sIx xs.length xs.length hi - HT.sIx xs.length 0 lo)
theorem Vc (xs:TQ)(lo hi:Option Int):(cutV xs lo hi).length<=xs.length:=by
 unfold cutV;rw[XS,qv];omega
inductive rSlT (K:TL) (x:V) (lo:Option Int) (hi:Option Int) (H:Hp) (Q:VK):Prop
 | mk (a xs:_) (zz0:x=.ref a) (zz1:SqT K H a xs) (zz2:¬ (HT.sIx xs.length 0 lo=0/\HT.sIx xs.length xs.length hi=xs.length)) (zz3:∀ p,H p=none->Q (.ref p) (upd H p (.tup (cutV xs lo hi))))
theorem Gx:SlR X (rSlT X.K):=by
 intro pins s σ H x v vl vu lo hi sl Q I rx hs pl pu h;obtain⟨a,xs,rfl,hx,hw,q⟩:=h
 cases rx;obtain⟨its,r,ht,hz⟩:=I.tuple hx;have hlen:its.toArray.size=xs.length:=by rw[YF];exact r.length.symm
 refine⟨"tuple",_,qo.lookup,ht.typeIs,?_⟩;refine HT.getItem_tuple_cut ht hs pl pu (by rw[hlen];exact hw) ?_ (by rw[hlen];exact hz);rw[hlen];refine⟨.ref s.heap.objs.size,_,I.laid (t':=s.toks) (o:=.tup (cutV xs lo hi)) (λb ob q=>YB _ q) (YE _) ?_,rfl,q _ (I.hok.fresh (YE _))⟩;exact⟨XA (Vc xs lo hi) hz,_,(r.drop (HT.sIx xs.length 0 lo)).take (HT.sIx xs.length xs.length hi - HT.sIx xs.length 0 lo),IsTup.new _ _⟩
end
def ixN (n:Nat)(i:Int):Option Nat:=if 0<=i then (if i<n then some i.toNat else none) else if -(n:Int)<=i then some (i+n).toNat else none
def atI {α:Type}(xs:List α)(i:Int):Option α:=(ixN xs.length i).bind λj=>xs[j]?
theorem N9 {n:Nat}{i:Int}(h:ixN n i=some j):seqIndex? i n=some j/\j<n/\-(n:Int)<=i/\i<n:=by
 unfold ixN at h;by_cases h0:0<=i
 ·rw[XQ h0] at h;by_cases h1:i<n
  ·rw[XQ h1] at h;have e:i.toNat=j:=YR h;exact⟨by rw[seqIndex_of h0 h1,e],U,U,h1⟩
  rw[XD h1] at h;cases h
 rw[XD h0] at h;by_cases h1:-(n:Int)<=i
 ·rw[XQ h1] at h;have e:(i+n).toNat=j:=YR h;exact⟨by rw[seqIndex_neg U h1,e],U,h1,U⟩
 rw[XD h1] at h;cases h
theorem Su {α:Type}{xs:List α}{i:Int}{v:α}(h:atI xs i=some v):∃ j,seqIndex? i xs.length=some j/\xs[j]?=some v/\j<xs.length/\-(xs.length:Int)<=i/\i<xs.length:=by
 unfold atI at h
 cases e:ixN xs.length i with
 | none=>rw[e] at h;cases h
 | some j =>
  rw[e] at h;obtain⟨h1,h2,h3,h4⟩:=N9 e;exact⟨j,h1,h,h2,h3,h4⟩
theorem Yi {α:Type}{xs:List α}{v:α}(h:xs[j]?=some v):atI xs (j:Int)=some v:=by
 have hj:j<xs.length:=(XG.mp h).1;have e:ixN xs.length (j:Int)=some j:=by
  unfold ixN;rw[XQ U,XQ U];simp
 unfold atI;rw[e];exact h
def PlainIx (b:Expr):Prop:=∀ o i,subscripted b false o i=operate [o,i] (getItem o i)
def IxR (X:Cx)(r:R2):Prop :=
 ∀ (value slice:Expr) (pins:TC) (s:Shared) (σ:St) (H:Hp) (x y:V) (v u:Value) (Q:VK),Inv X pins σ H s->RelV x v->RelV y u->r x y H Q →
  subscripted slice false v u=operate [v,u] (getItem v u)->wpAny (model X.prog X.w) X.A (subscriptTail value slice v u) (EP X pins σ Q) X.xe s
def MtR (X:Cx)(id:String)(r:V->List V->Hp->VK->Prop):Prop :=
 ∀ (pins:TC) (s:Shared) (σ:St) (H:Hp) (x:V) (xs:TQ) (v:Value) (us:TF) (Q:VK),Inv X pins σ H s->RelV x v->Vals xs us->r x xs H Q →
  wpAny (model X.prog X.w) X.A (call (.builtin id) (v::us)) (EP X pins σ Q) X.xe s
section
variable {X:Cx}{a b:Expr}{ta tb:TE}{pos:Pos}
theorem Zd {r:R2}(hr:IxR X r)(ha:PE X a ta)(hb:PE X b tb)(hs:PlainIx b):PE X (.Subscript a b pos) (tOp r ta tb):=by
 intro pins s σ H Q I h;exact Subscript_ (D0 ha hb I h λv u s2 x y H2 I2 rx ry q=>hr a b pins s2 σ H2 x y v u Q I2 rx ry q (hs _ _))
inductive rIxL (K:TL) (x:V) (y:V) (H:Hp) (Q:VK):Prop
 | mk (p xs i v:_) (zz0:x=.ref p) (zz1:y=.int i) (zz2:SqL K H p xs) (zz3:atI xs i=some v) (zz4:Q v H)
inductive rIxT (K:TL) (x:V) (y:V) (H:Hp) (Q:VK):Prop
 | mk (p xs i v:_) (zz0:x=.ref p) (zz1:y=.int i) (zz2:SqT K H p xs) (zz3:atI xs i=some v) (zz4:Q v H)
inductive rIxS (x:V) (y:V) (H:Hp) (Q:VK):Prop
 | mk (z i c:_) (zz0:x=.str z) (zz1:y=.int i) (zz2:z.length<=sizeLine) (zz3:atI z.cps.toList i=some c) (zz4:Q (.str ⟨#[c]⟩) H)
theorem Y1:IxR X (rIxL X.K):=by
 intro value slice pins s σ H x y v u Q I rx ry h hs;obtain⟨p,xs,i,z,rfl,rfl,hq,he,q⟩:=h
 cases rx;obtain⟨t,rfl⟩:=ry;obtain⟨its,r,pl,hz⟩:=I.list hq;obtain⟨j,h1,h2,h3,h4,h5⟩:=Su he;obtain⟨w,ew,rw'⟩:=r.get h2;have hl:=r.length;have hn:=W9;have fin:EP X pins σ Q w s:=⟨z,H,I,rw',q⟩;by_cases h0:0<=i
 ·have hj:i.toNat=j:=by
   rw[seqIndex_of h0 h5] at h1;exact YR h1
  exact item_listR pl.isList h0 U (by rw[hj];simpa using ew) fin hs
 have hj:(i+(its.toArray.size:Int)).toNat=j:=by
  rw[seqIndex_neg U h4] at h1;rw[YF,<-hl];exact YR h1
 exact subscriptTail_builtinR (x:=w) pl.isList.typeIs zX.lookup
  (wpAny_getItem_list_neg (Q:=λr s'=>r=w/\EP X pins σ Q r s') pl.isList U (by rw[YF] <;> omega) U (by rw[hj];simpa using ew) ⟨rfl,fin⟩) hs
theorem Zs:IxR X (rIxT X.K):=by
 intro value slice pins s σ H x y v u Q I rx ry h hs;obtain⟨p,xs,i,z,rfl,rfl,hq,he,q⟩:=h
 cases rx;obtain⟨t,rfl⟩:=ry;obtain⟨its,r,pl,hz⟩:=I.tuple hq;obtain⟨j,h1,h2,h3,h4,h5⟩:=Su he;obtain⟨w,ew,rw'⟩:=r.get h2;have hl:=r.length;have hn:=W9;have fin:EP X pins σ Q w s:=⟨z,H,I,rw',q⟩;exact subscriptTail_builtinR (x:=w) pl.typeIs slot_tuple_getitem.lookup
  (getItem_tuple (j:=j) (Q:=λr s'=>r=w/\EP X pins σ Q r s') pl U U (by rw[YF,<-hl];exact h1) (by simpa using ew) ⟨rfl,fin⟩) hs
theorem Ka:IxR X rIxS:=by
 intro value slice pins s σ H x y v u Q I rx ry h hs;obtain⟨z,i,c,rfl,rfl,hz,he,q⟩:=h;obtain⟨t,rfl⟩:=rx;obtain⟨t',rfl⟩:=ry;obtain⟨j,h1,h2,h3,h4,h5⟩:=Su he;have hl:z.cps.toList.length=z.length:=by simp[Str.length]
 rw[hl] at h1 h4 h5;have hn:=W9;exact tail_any (zf s z t) slot_str_getitem.lookup (getItem_str (c:=c) (by
  have e1:decide (i < -(2 ^ 63:Int))=false:=XL U;have e2:decide (i ≥ 2 ^ 63)=false:=XL U;rw[e1,e2,Bool.or_false]) (by rw[h1];simpa using h2) ⟨.str ⟨#[c]⟩,H,I.tok _,⟨_,rfl⟩,q⟩) hs
theorem Pd (its:TF)(n j:Nat)(u:Value):Obj.mapSeq (·.setIfInBounds j u) { cls:=.type "list",data:=.seq its.toArray n }={ cls:=.type "list",data:=.seq (its.set j u).toArray n }:=by
 simp[Obj.mapSeq]
theorem Inv.lst {pins:TC}{σ:St}{H:Hp}{s:Shared}{p:Addr}{xs:TQ}(I:Inv X pins σ H s)(h:H p=some (.lst xs)) :
  ∃ (its:TF) (n:Nat),Vals xs its/\s.heap.get? p=some { cls:=.type "list",data:=.seq its.toArray n }/\xs.length<=sizeLine:=by
 obtain⟨z,its,n,r,e⟩:=I.hok p _ h;exact⟨its,n,r,e,z⟩
theorem Inv.lstUpd {p:Addr}{ys:TQ}{its its':TF}{n n':Nat}{f:Obj->Obj}(I:Inv X pins σ H s)(h:H p=some (.lst xs))
  (ho:s.heap.get? p=some { cls:=.type "list",data:=.seq its.toArray n }) (hf:f { cls:=.type "list",data:=.seq its.toArray n }={ cls:=.type "list",data:=.seq its'.toArray n' }) (r:Vals ys its') (hz:ys.length<=sizeLine) (t:Nat) :
  Inv X pins σ (upd H p (.lst ys)) { s with heap:=s.heap.update p f,toks:=t }:=by
 have e:(s.heap.update p f).get? p=some { cls:=.type "list",data:=.seq its'.toArray n' }:=by
  rw[GG f ho (by rw[hf] <;> rfl),hf]
 refine I.write (x:=p) (e:=p) (by rw[h];trivial) (.inl rfl) (λb u hb q=>(GB _ _ (GM hb)).trans q) ⟨_,e⟩ ?_;exact⟨hz,its',n',r,e⟩
inductive rSetL (o:V) (i:V) (v:V) (H:Hp) (Q:(Hp->Prop)):Prop
 | mk (p xs k j:_) (zz0:o=.ref p) (zz1:i=.int k) (zz2:H p=some (.lst xs)) (zz3:ixN xs.length k=some j) (zz4:Q (upd H p (.lst (xs.set j v))))
theorem Wh:PSet X rSetL:=by
 intro pins s σ H o i v ov iv u Q I ro ri rv h;obtain⟨p,xs,k,j,rfl,rfl,hp,hj,q⟩:=h
 cases ro;obtain⟨t,rfl⟩:=ri;obtain⟨its,n,r,ho,hz⟩:=I.lst hp;obtain⟨h1,h2,h3,h4⟩:=N9 hj;have hl:=r.length;have hn:=W9;have I':Inv X pins σ (upd H p (.lst (xs.set j v))) { s with heap:=s.heap.update p (Obj.mapSeq (·.setIfInBounds j u)) } :=
  I.lstUpd hp ho (Pd its n j u) (r.set rv j) (by rw[List.length_set];exact hz) s.toks
 by_cases h0:0<=k
 ·have hk:k.toNat=j:=by
   rw[seqIndex_of h0 h4] at h1;exact YR h1
  exact W.ki_setAt ho h0 U (by rw[YF,<-hl];exact h4) (by rw[hk];exact⟨_,I',q⟩)
 have hk:(k+(its.toArray.size:Int)).toNat=j:=by
  rw[seqIndex_neg U h3] at h1;rw[YF,<-hl];exact YR h1
 exact W.ki_setBack ho U (by rw[YF,<-hl];exact h3) U (by rw[hk];exact⟨_,I',q⟩)
theorem Tl (lo hi:Option Int)(n:Nat):(sliceBounds lo hi none n).1=((HT.sIx n 0 lo:Nat):Int)/\(sliceBounds lo hi none n).2.1=((HT.sIx n n hi:Nat):Int)/\(sliceBounds lo hi none n).2.2=1:=by
 refine⟨?_,?_,rfl⟩
 ·cases lo with
  | none=>simp[sliceBounds,HT.sIx]
  | some i =>
   simp only [sliceBounds,HT.sIx,jb,show (1:Int) > 0 by decide,zl];by_cases h:i<0
   ·simp only [h,zl] <;> omega
   simp only [h,qF] <;> omega
 cases hi with
 | none=>simp[sliceBounds,HT.sIx]
 | some i =>
  simp only [sliceBounds,HT.sIx,jb,show (1:Int) > 0 by decide,zl];by_cases h:i<0
  ·simp only [h,zl] <;> omega
  simp only [h,qF] <;> omega
theorem Uh (its:TF)(lo hi:Option Int):slicePick its.toArray lo hi none=((its.drop (HT.sIx its.length 0 lo)).take (HT.sIx its.length its.length hi - HT.sIx its.length 0 lo)).toArray:=by
 obtain⟨h1,h2,h3⟩:=Tl lo hi its.toArray.size;unfold slicePick;rw[h1,h2,h3];simp only [sliceRange_one,pick_run,YF] <;> rfl
inductive rSlL (K:TL) (x:V) (lo:Option Int) (hi:Option Int) (H:Hp) (Q:VK):Prop
 | mk (a xs:_) (zz0:x=.ref a) (zz1:SqL K H a xs) (zz2:∀ p,H p=none->Q (.ref p) (upd H p (.lst (cutV xs lo hi))))
theorem W0:SlR X (rSlL X.K):=by
 intro pins s σ H x v vl vu lo hi sl Q I rx hs pl pu h;obtain⟨a,xs,rfl,hx,q⟩:=h
 cases rx;obtain⟨its,r,ht,hz⟩:=I.list hx;have hlen:=r.length;refine⟨"list",_,zX.lookup,ht.isList.typeIs,?_⟩;refine j5 ht.isList hs pl pu .none J1 ?_ (by rw[YF] <;> omega);rw[Uh,<-hlen];refine⟨.ref s.heap.objs.size,_,I.laid (t':=s.toks) (o:=.lst (cutV xs lo hi)) (λb ob q=>YB _ q) (YE _) ?_,rfl,q _ (I.hok.fresh (YE _))⟩;exact⟨XA (Vc xs lo hi) hz,_,0,(r.drop (HT.sIx xs.length 0 lo)).take (HT.sIx xs.length xs.length hi - HT.sIx xs.length 0 lo),YG _ rfl⟩
def flatV:V->Bool
 | .non=>true
 | .bl _=>true
 | .int _=>true
 | .str _=>true
 | _=>false
def eqV:V->V->Bool
 | .non,.non=>true
 | .bl a,.bl b=>a == b
 | .bl a,.int b=>(if a then 1 else 0) == b
 | .int a,.bl b=>a == (if b then 1 else 0)
 | .int a,.int b=>a == b
 | .str a,.str b=>a == b
 | _,_=>false
theorem Fy {A:Around}{s:Shared}{y x:V}{u v:Value}(ry:RelV y u)(rx:RelV x v)(fy:flatV y=true)(fx:flatV x=true):SeqAt.EqAt A s u v (eqV y x):=by
 cases y with
 | non =>
  cases ry
  cases x with
  | non=>cases rx;exact qj _
  | bl b=>cases rx;exact SeqAt.EqAt.none_bool b
  | int b=>obtain⟨t,rfl⟩:=rx;exact SeqAt.EqAt.none_int b t
  | str b=>obtain⟨t,rfl⟩:=rx;exact SeqAt.EqAt.none_str b t
  | _=>exact absurd (show false=true from fx) YM
 | bl a =>
  cases ry
  cases x with
  | non=>cases rx;exact SeqAt.EqAt.bool_none a
  | bl b=>cases rx;exact SeqAt.EqAt.bool_bool a b
  | int b=>obtain⟨t,rfl⟩:=rx;exact SeqAt.EqAt.bool_int a b t
  | str b=>obtain⟨t,rfl⟩:=rx;exact SeqAt.EqAt.bool_str a b t
  | _=>exact absurd (show false=true from fx) YM
 | int a =>
  obtain⟨t',rfl⟩:=ry
  cases x with
  | non=>cases rx;exact SeqAt.EqAt.int_none a t'
  | bl b=>cases rx;exact SeqAt.EqAt.int_bool a t' b
  | int b=>obtain⟨t,rfl⟩:=rx;exact zN a t' b t
  | str b=>obtain⟨t,rfl⟩:=rx;exact SeqAt.EqAt.int_str a t' b t
  | _=>exact absurd (show false=true from fx) YM
 | str a =>
  obtain⟨t',rfl⟩:=ry
  cases x with
  | non=>cases rx;exact SeqAt.EqAt.str_none a t'
  | bl b=>cases rx;exact SeqAt.EqAt.str_bool a t' b
  | int b=>obtain⟨t,rfl⟩:=rx;exact SeqAt.EqAt.str_int a t' b t
  | str b=>obtain⟨t,rfl⟩:=rx;exact zO a t' b t
  | _=>exact absurd (show false=true from fx) YM
 | _=>exact absurd (show false=true from fy) YM
def eqU (x:V)(u:Value):Bool:=match u with
 | .none=>eqV .non x
 | .bool b=>eqV (.bl b) x
 | .int i _=>eqV (.int i) x
 | .str z _=>eqV (.str z) x
 | _=>false
theorem Pj {x y:V}{u:Value}(r:RelV y u)(f:flatV y=true):eqU x u=eqV y x:=by
 cases y with
 | non=>cases r;rfl
 | bl b=>cases r;rfl
 | int i=>obtain⟨t,rfl⟩:=r;rfl
 | str z=>obtain⟨t,rfl⟩:=r;rfl
 | _=>exact absurd (show false=true from f) YM
theorem Wx {x:V}:∀ {xs:TQ} {us:TF},Vals xs us->xs.all flatV=true->us.any (eqU x)=xs.any λy=>eqV y x
 | _,_,.nil,_=>rfl
 | y::xs,u::us,.cons r t,f=>by
  rw[j6,GK] at f;rw[qK,qK,Pj r f.1,Wx t f.2]
theorem Xe {A:Around}{s:Shared}{x:V}{v:Value}(rx:RelV x v)(fx:flatV x=true):∀ {xs:TQ} {us:TF},Vals xs us->xs.all flatV=true->∀ u∈us,SeqAt.EqAt A s u v (eqU x u)
 | _,_,.nil,_=>λu hu=>by cases hu
 | y::xs,u::us,.cons r t,f=>λu' hu=>by
  rw[j6,GK] at f;rcases YJ.mp hu with rfl | hu
  ·rw[Pj r f.1];exact Fy r rx f.1 fx
  exact Xe rx fx t f.2 u' hu
def inV (x:V)(xs:TQ):Bool:=xs.any λy=>eqV y x
inductive rIn (K:TL) (neg:Bool) (x:V) (y:V) (H:Hp) (Q:VK):Prop
 | mk (p xs:_) (zz0:y=.ref p) (zz1:(SqL K H p xs \/ SqT K H p xs)) (zz2:flatV x=true) (zz3:xs.all flatV=true) (zz4:Q (.bl (if neg then !inV x xs else inV x xs)) H)
theorem Uy:OpR X (compareOp .In) (rIn X.K false):=by
 intro pins s σ H x y v u Q I rx ry h;obtain⟨p,xs,rfl,hq,fx,fs,q⟩:=h
 cases ry;rcases hq with hq | hq
 ·obtain⟨its,r,pl,hz⟩:=I.list hq;refine SeqAt.in_listAt (eqU x) pl.isList (λw hw=>Xe rx fx r fs w (by simpa using hw)) ⟨.bl _,H,I,rfl,?_⟩;rw[show its.toArray.any (eqU x)=its.any (eqU x) by simp,Wx r fs];exact q
 obtain⟨its,r,pl,hz⟩:=I.tuple hq;refine SeqAt.in_tupleAt (eqU x) pl (λw hw=>Xe rx fx r fs w (by simpa using hw)) ⟨.bl _,H,I,rfl,?_⟩;rw[show its.toArray.any (eqU x)=its.any (eqU x) by simp,Wx r fs];exact q
theorem Tx:OpR X (compareOp .NotIn) (rIn X.K true):=by
 intro pins s σ H x y v u Q I rx ry h;obtain⟨p,xs,rfl,hq,fx,fs,q⟩:=h
 cases ry;rcases hq with hq | hq
 ·obtain⟨its,r,pl,hz⟩:=I.list hq;refine SeqAt.notIn_listAt (eqU x) pl.isList (λw hw=>Xe rx fx r fs w (by simpa using hw)) ⟨.bl _,H,I,rfl,?_⟩;rw[show its.toArray.any (eqU x)=its.any (eqU x) by simp,Wx r fs];exact q
 obtain⟨its,r,pl,hz⟩:=I.tuple hq;refine SeqAt.notIn_tupleAt (eqU x) pl (λw hw=>Xe rx fx r fs w (by simpa using hw)) ⟨.bl _,H,I,rfl,?_⟩;rw[show its.toArray.any (eqU x)=its.any (eqU x) by simp,Wx r fs];exact q
theorem Tw:OpR X (compareOp .NotIn) (λx y H Q=>∃ i j,x=.str i/\y=.str j/\Q (.bl (!(!(Builtin.Str.occurrences j i 0 j.length 1).isEmpty))) H):=by
 intro pins s σ H x y v u Q I rx ry h;obtain⟨i,j,rfl,rfl,q⟩:=h;obtain⟨t,rfl⟩:=rx;obtain⟨t',rfl⟩:=ry;exact notIn_str ⟨.bl _,H,I,rfl,q⟩
theorem Zg:CallR X (.builtin "len") (λxs H Q=>∃ p ys,xs=[.ref p]/\(SqL X.K H p ys \/ SqT X.K H p ys)/\Q (.int ys.length) H):=by
 intro pins s σ H xs us Q I r h;obtain⟨p,ys,rfl,hq,q⟩:=h;obtain⟨u,rfl,rx⟩:=X8 r
 cases rx;have hn:=W9;rcases hq with hq | hq
 ·obtain⟨its,r',pl,hz⟩:=I.list hq;have hlen:=r'.length;exact Calls.call_len_list pl.isList (by simp only [YF] <;> omega) ⟨.int ys.length,H,I.tok _,⟨s.toks+1,by rw[YF,hlen]⟩,q⟩
 obtain⟨its,r',pl,hz⟩:=I.tuple hq;have hlen:=r'.length;exact len_tuple pl (by simp only [YF] <;> omega) ⟨.int ys.length,H,I.tok _,⟨s.toks+1,by rw[YF,hlen]⟩,q⟩
theorem Wv:CallR X (.builtin "len") (λxs H Q=>∃ z,xs=[.str z]/\z.length<=sizeLine/\Q (.int z.length) H):=by
 intro pins s σ H xs us Q I r h;obtain⟨z,rfl,hz,q⟩:=h;obtain⟨u,rfl,t,rfl⟩:=X8 r;have hn:=W9;exact len_str U ⟨.int z.length,H,I.tok _,⟨_,rfl⟩,q⟩
theorem Yz:CallR X (.type "list") (λxs H Q=>∃ p ys,xs=[.ref p]/\(SqL X.K H p ys \/ SqT X.K H p ys)/\∀ l,H l=none->Q (.ref l) (upd H l (.lst ys))):=by
 intro pins s σ H xs us Q I r h;obtain⟨p,ys,rfl,hq,q⟩:=h;obtain⟨u,rfl,rx⟩:=X8 r
 cases rx;have fin:∀ (its:TF),Vals ys its->ys.length<=sizeLine->∀ (h':Heap) (c':Nat),(∀ b o',s.heap.get? b=some o'->h'.get? b=some o') →
   h'.get? s.heap.objs.size=some { cls:=.type "list",dict:=none,data:=.seq its.toArray c',slots:=#[] }->EP X pins σ Q (.ref s.heap.objs.size) { s with heap:=h' }:=λits r' hz h' c' kp e =>
  ⟨.ref s.heap.objs.size,_,I.laid (t':=s.toks) kp (YE _) (show ObjOk X.prog X.w _ h' _ (.lst ys) from ⟨hz,its,c',r',e⟩),rfl,q _ (I.hok.fresh (YE _))⟩
 rcases hq with hq | hq
 ·obtain⟨its,r',pl,hz⟩:=I.list hq;have hlen:=r'.length;obtain⟨o,ho,hc,n,hd⟩:=pl.isList;exact call_list_seq p (.inl rfl) ho hc hd (λh' c' kp e=>fin its r' hz h' c' kp e) (by simp only [YF] <;> omega)
 obtain⟨its,r',pl,hz⟩:=I.tuple hq;have hlen:=r'.length;obtain⟨o,ho,hc,n,hd⟩:=pl;exact call_list_seq p (.inr rfl) ho hc hd (λh' c' kp e=>fin its r' hz h' c' kp e) (by simp only [YF] <;> omega)
theorem Yh:CallR X (.type "tuple") (λxs H Q=>∃ p ys,xs=[.ref p]/\((SqL X.K H p ys/\∀ l,H l=none->Q (.ref l) (upd H l (.tup ys))) \/ (SqT X.K H p ys/\Q (.ref p) H))):=by
 intro pins s σ H xs us Q I r h;obtain⟨p,ys,rfl,h⟩:=h;obtain⟨u,rfl,rx⟩:=X8 r
 cases rx;rcases h with ⟨hq,q⟩ | ⟨hq,q⟩
 ·obtain⟨its,r',pl,hz⟩:=I.list hq;have hlen:=r'.length;refine call_tuple_list pl.isList (λh' kp=>?_) (by simp only [YF] <;> omega);have I1:Inv X pins σ H { s with heap:=h' }:=I.kept (t':=s.toks) kp;have I2:Inv X pins σ (upd H h'.objs.size (.tup ys)) { s with heap:=h'.push { cls:=.type "tuple",data:=.seq its.toArray } } :=
   I1.laid (t':=s.toks) (λb o e=>YB _ e) (YE _) (show ObjOk X.prog X.w _ _ _ (.tup ys) from ⟨hz,its,r',IsTup.new _ _⟩)
  exact⟨.ref h'.objs.size,_,I2,rfl,q _ (I1.hok.fresh (YE _))⟩
 obtain⟨its,r',pl,hz⟩:=I.tuple hq;exact call_tuple_same pl ⟨.ref p,H,I,rfl,q⟩
def tyV (K:TL)(T:String)(x:V)(H:Hp):Prop:=match x with
 | .str _=>T="str"
 | .int _=>T="int"
 | .ref p=>(T="list"/\∃ xs,SqL K H p xs) \/ (T="tuple"/\∃ o,K.lookup p=some o/\o.cls=.type "tuple"/\o.dict=none) ∨
   (T="dict"/\((∃ kvs,H p=some (.dK kvs)) \/ ∃ kvs,H p=some (.dT kvs))) \/ (T="set"/\∃ S n,H p=some (.set S n))
 | _=>False
theorem Gq {pins:TC}{σ:St}{H:Hp}{s:Shared}{T:String}{x:V}{v:Value}(I:Inv X pins σ H s)(r:RelV x v)(ty:tyV X.K T x H) :
  s.TypeIs v T/\∀ a,v=.ref a->∃ ob,s.heap.get? a=some ob/\ob.dict=none:=by
 cases x with
 | str z =>
  obtain⟨t,rfl⟩:=r
  cases (show T="str" from ty);exact⟨zf s z t,λ_ e=>nomatch e⟩
 | int i =>
  obtain⟨t,rfl⟩:=r
  cases (show T="int" from ty);exact⟨typeIs_int s i t,λ_ e=>nomatch e⟩
 | ref p =>
  cases r;rcases ty with ⟨rfl,xs,hq⟩ | ⟨rfl,o,hk,hc,hd⟩ | ⟨rfl,hk⟩ | ⟨rfl,S,n,hk⟩
  ·obtain⟨its,_,pl,_⟩:=I.list hq;refine⟨pl.isList.typeIs,λa e=>?_⟩
   cases e;obtain⟨o,n,e,c,hd,_⟩:=pl;exact⟨o,e,hd⟩
  ·refine⟨⟨o,I.kIn p o hk,hc⟩,λa e=>?_⟩
   cases e;exact⟨o,I.kIn _ o hk,hd⟩
  ·have z:∃ o,s.heap.get? p=some o/\o.ExactDict:=by
    rcases hk with ⟨kvs,hk⟩ | ⟨kvs,hk⟩
    ·obtain⟨_,_,_,_,o,_,_,e,ex,_⟩:=I.hok p _ hk;exact⟨o,e,ex⟩
    obtain⟨_,_,_,_,o,_,_,e,ex,_⟩:=I.hok p _ hk;exact⟨o,e,ex⟩
   obtain⟨o,e,ex⟩:=z;refine⟨⟨o,e,ex.1⟩,λa e2=>?_⟩
   cases e2;exact⟨o,e,ex.2.1⟩
  obtain⟨o,_,_,_,e,ex,_⟩:=I.hok p _ hk;refine⟨⟨o,e,ex.1⟩,λa e2=>?_⟩
  cases e2;exact⟨o,e,ex.2.1⟩
 | _=>exact False.elim ty
def tBM (K:TL)(T:String)(r:V->List V->Hp->VK->Prop)(to:TE)(t:TA):TE:=λσ H Q=>to σ H λx H1=>tyV K T x H1/\t σ H1 λxs H2=>r x xs H2 Q
variable {o e:Expr}{es:TJ}{to:TE}{t:TA}{name:Str}{apos cpos:Pos}{T id:String}{r:V->List V->Hp->VK->Prop}
theorem Y9 (pa:PlainAttrs T)(slot:Slot T name id)(hty:typeOf (.builtin id)=pure (.type "method_descriptor"))(hm:MtR X id r)(ho:PE X o to)(ha:PA X (e::es) t)
  (hbase:attributeBase o name X.env (eval o X.env)=eval o X.env:=by rfl)
  (hfew:((backTo cpos (starEach (e::es) X.env)).all (λx=>!x.1) && (backToKw cpos (keywordEach [] X.env)).all (λx=>x.1.isSome)
   && decide ((e::es).length+([]:List Keyword).length+(if ([]:List Keyword).isEmpty then 0 else 1)<30))=true:=by rfl)
  (hline:(apos.endLine == cpos.line)=true:=by rfl) (hs:starEach (e::es) X.env=(false,eval e X.env)::starEach es X.env:=by rfl) (hplain:(backTo cpos (starEach es X.env)).any (·.1)=false:=by rfl) :
  PE X (.Call (.Attribute o name apos) (e::es) [] cpos) (tBM X.K T r to t):=by
 intro pins s σ H Q I h;refine wpAny_Call_method_late hbase hfew hline rfl (thn (ho pins s σ H _ I h) λv s1 ⟨x,H1,I1,r1,ty,q1⟩=>?_);obtain⟨h1,h2⟩:=Gq I1 r1 ty;refine⟨T,id,pa,slot,hty,h1,h2,?_⟩;have hA:=ha cpos pins s1 σ H1 _ I1 q1;rw[hs] at hA ⊢;refine Calls.callWith_builtin (by show (false || (backTo cpos (starEach es X.env)).any (·.1))=false;rw[hplain] <;> rfl) (Calls.evalArgs_plain ?_);exact thn hA λus s2 ⟨vs,H2,I2,r2,q2⟩=>hm pins s2 σ H2 x vs v us Q I2 r1 r2 q2
end
def MtM (X:Cx)(id:String)(r:V->List V->Hp->VK->Prop):Prop :=
 ∀ (pins:TC) (s:Shared) (σ:St) (H:Hp) (x:V) (xs:TQ) (v:Value) (us:TF) (Q:VK),Inv X pins σ H s->RelV x v->Vals xs us->r x xs H Q →
  wpAny (model X.prog X.w) X.A (call (.builtin id) (v::us)) (EP X pins σ Q) X.xe s
theorem Vals.one:∀ {x:V} {us:TF},Vals [x] us->∃ u,us=[u]/\RelV x u
 | _,_,.cons r .nil=>⟨_,rfl,r⟩
section
variable {X:Cx}{pins:TC}{σ:St}{H:Hp}{s:Shared}{l:Addr}{xs ys:TQ}
theorem Inv.lset {its its':TF}{n:Nat}{f:Array Value->Array Value}{t':Nat}(I:Inv X pins σ H s)(hH:H l=some (.lst xs))
  (e:s.heap.get? l=some { cls:=.type "list",data:=.seq its.toArray n }) (hf:f its.toArray=its'.toArray) (hv:Vals ys its') (hz:ys.length<=sizeLine) :
  Inv X pins σ (upd H l (.lst ys)) { s with heap:=s.heap.update l (Obj.mapSeq f),toks:=t' }:=by
 have q:=PySem.IsL.update e f;rw[hf] at q;refine I.write (x:=l) (e:=l) (by rw[hH];exact trivial) (.inl rfl) (λb' u hb hu=>(GB s.heap (Obj.mapSeq f) (GM hb)).trans hu) ⟨_,q⟩ ?_;exact⟨hz,its',_,hv,q⟩
theorem Inv.lnew {t':Nat}(I:Inv X pins σ H s)(hv:Vals ys its)(hz:ys.length<=sizeLine) :
  Inv X pins σ (upd H s.heap.objs.size (.lst ys)) { s with heap:=s.heap.push { cls:=.type "list",data:=.seq its.toArray },toks:=t' } :=
 I.laid (λ_ _ q=>YB _ q) (YE _) ⟨hz,its,0,hv,YG _ rfl⟩
theorem Inv.fresh (I:Inv X pins σ H s):H s.heap.objs.size=none:=I.hok.fresh (YE _)
theorem Inv.lstM (I:Inv X pins σ H s)(hH:H l=some (.lst xs)):xs.length<=sizeLine/\∃ (its:TF) (n:Nat),Vals xs its/\xs.length=its.length/\s.heap.get? l=some { cls:=.type "list",data:=.seq its.toArray n }:=by
 obtain⟨z,its,n,r,e⟩:=I.hok l _ hH;exact⟨z,its,n,r,r.length,e⟩
theorem K2 {n:Nat}(h:n<=sizeLine):Builtin.List.listTooLong n=false:=by
 unfold Builtin.List.listTooLong;exact XL U
end
section
variable {X:Cx}
inductive rAppend (x:V) (vs:TQ) (H:Hp) (Q:VK):Prop
 | mk (l xs y:_) (zz0:x=.ref l) (zz1:vs=[y]) (zz2:H l=some (.lst xs)) (zz3:xs.length<sizeLine) (zz4:Q .non (upd H l (.lst (xs++[y]))))
theorem Ys:MtM X "list.append" rAppend:=by
 intro pins s σ H x vs v us Q I rx rv h;obtain⟨l,xs,y,rfl,rfl,hH,hz,q⟩:=h
 cases rx;obtain⟨u,rfl,ru⟩:=rv.one;obtain⟨z,its,n,r,hl,e⟩:=I.lstM hH;refine qQ F.slot_list_append ⟨_,e,rfl⟩ F.entry_list_append (F.args_list_append_2 _ _) (PySem.list_append l its.toArray n u (by rw[YF];omega)) ⟨e,?_⟩;refine⟨.non,_,I.lset (its':=its++[u]) hH e J1 (r.append (.cons ru .nil)) ?_,rfl,q⟩;rw[XF,List.length_singleton];omega
inductive rExtend (x:V) (vs:TQ) (H:Hp) (Q:VK):Prop
 | mk (l b xs zs:_) (zz0:x=.ref l) (zz1:vs=[.ref b]) (zz2:H l=some (.lst xs)) (zz3:H b=some (.lst zs)) (zz4:xs.length+zs.length<=sizeLine) (zz5:Q .non (upd H l (.lst (xs++zs))))
theorem W2:MtM X "list.extend" rExtend:=by
 intro pins s σ H x vs v us Q I rx rv h;obtain⟨l,b,xs,zs,rfl,rfl,hH,hB,hz,q⟩:=h
 cases rx;obtain⟨u,rfl,ru⟩:=rv.one
 cases ru;obtain⟨z,its,n,r,hl,e⟩:=I.lstM hH;obtain⟨z2,its2,n2,r2,hl2,e2⟩:=I.lstM hB;have hsz:its.toArray.size+its2.toArray.size<=sizeLine:=by rw[YF,YF];omega
 have hlong:¬ (!its.toArray.isEmpty && Builtin.List.listTooLong (its.toArray.size+its2.toArray.size))=true:=by
  rw[K2 hsz,Bool.and_false];exact YM
 refine qQ F.slot_list_extend ⟨_,e,rfl⟩ F.entry_list_extend (F.args_list_extend_2 _ _)
  (AutoSeq1.list_extend_list_list_0 l its.toArray n b its2.toArray n2 hlong (by rw[YF];omega) U) ⟨e,e2,?_⟩
 refine⟨.non,_,I.lset (its':=its++its2) hH e J1 (r.append r2) ?_,rfl,q⟩;rw[XF];omega
inductive rCat (x:V) (y:V) (H:Hp) (Q:VK):Prop
 | mk (l b xs zs:_) (zz0:x=.ref l) (zz1:y=.ref b) (zz2:H l=some (.lst xs)) (zz3:H b=some (.lst zs)) (zz4:xs.length+zs.length<=sizeLine) (zz5:∀ p,H p=none->Q (.ref p) (upd H p (.lst (xs++zs))))
theorem Tz:OpR X (binaryOp .Add) rCat:=by
 intro pins s σ H x y v u Q I rx ry h;obtain⟨l,b,xs,zs,rfl,rfl,hH,hB,hz,q⟩:=h
 cases rx
 cases ry;obtain⟨z,its,n,r,hl,e⟩:=I.lstM hH;obtain⟨z2,its2,n2,r2,hl2,e2⟩:=I.lstM hB;refine PySem.P.add_list e e2 ?_ (by rw[YF,YF];omega);have ea:its.toArray++its2.toArray=(its++its2).toArray:=J1
 rw[ea];exact⟨.ref _,_,I.lnew (t':=s.toks) (r.append r2) (by rw[XF];omega),rfl,q _ I.fresh⟩
end
end L2
namespace Att
open PySem PySem.W PySem.Calls PyProof.Rows
theorem Vf {P:Params}{h:Heap}:∀ (ns:TN) (vs:TF),WellAll P h vs (ns.map WData.int)->IntsAre vs ns:=by
 intro ns
 induction ns with
 | nil =>
  intro vs w;rw[List.map_nil] at w
  cases w;exact .nil
 | cons n ns ih =>
  intro vs w;rw[zm] at w
  cases w with
  | cons a b =>
   cases a;exact .cons _ _ (ih _ b)
theorem Nw {l:OpenLaw}{n:Nat}(hn:l.most=some n){P:Params}{h:Heap}{args:List WData}{vals:TF}
  (hpre:l.row.toRowW.claim.pre args=true) (hwl:WellAll P h vals args) :
  ∃ a vs ns,vals=[Value.ref a]/\args=[WData.list (ns.map WData.int)]/\h.get? a=some { cls:=.type "list",data:=.seq vs.toArray }/\IntsAre vs ns/\ns.length<=n:=by
 have hsh:WShape.hasAll [] args [.list .int]=true:=(pre_splitW hpre).1;have hc:l.pre.holds [] { args:=args }=true:=(pre_splitW hpre).2;obtain⟨d,r,rfl,h1,h2⟩:=hasAllW_cons hsh;obtain rfl:=hasAllW_nil h2;obtain⟨xs,rfl,h3⟩:=hasW_list h1;obtain⟨ns,rfl⟩:=items_int h3;have hlen:ns.length<=n:=by
  unfold OpenLaw.pre at hc;have h4:(WTm.not (.lt (.lit (.int (n:Int))) (.len (.arg 0)))).holds [] { args:=[.list (ns.map .int)] }=true:=by
   have h4:=(holds_andW hc).1;rw[hn] at h4;exact h4
  have h5:=condW_of h4 (w_not (w_lt w_lit (w_len_list (w_arg rfl))));rw[YC] at h5;refine GL λq=>?_;have q':(n:Int)<((ns.length:Nat):Int):=U
  first
   | (rw[XC q'] at h5;exact absurd h5 J0)
   | (simp at h5;omega)
 cases hwl with
 | cons w1 w2 =>
  cases w2
  cases w1 with
  | list ho hall=>exact⟨_,_,ns,rfl,rfl,ho,Vf ns _ hall,hlen⟩
theorem M1 (l:OpenLaw)(args:List WData):l.row.toRowW.claim.post args (.bool true) args=true :=
 postW_of (r:=l.row.toRowW) (X:=(true == true))
  (show WShape.has [] (.bool true) .bool=true by first | rfl | decide | simp[WShape.has,WShape.arms,WShape.armsAll])
  (show (WTm.eq .res (.lit (.bool true))).value [] { args:=args,res:=some (.bool true),after:=args }=some (.bool (true == true)) from w_eq_bool (w_res rfl) w_lit) rfl
theorem attach_call {l:OpenLaw}{n:Nat}{q:TM}{loose:TD}{XP:(Str->Option Value)->Heap->Prop}{YP:World->Heap->Prop}{d:DefRec}
  (hn:l.most=some n) (hdf:d.params.defaults=[])
  (call:∀ (w:World) (s₀ s₁:Shared) (mg mb:Tn) (fa:Addr) (o:Obj) (pm cd doc:Value) (a:Addr) (vs:TF) (ns:TN),
   Ground q loose [] XP w s₀ mg mb s₁.heap->YP w s₁.heap →
   s₁.heap.get? fa=some o->o.data=.func (docDef d.name d.params d.body d.scope pm cd doc)->s₁.heap.CodeRec cd d.name->mg d.name=some (.ref fa) →
   s₁.heap.get? a=some { cls:=.type "list",data:=.seq vs.toArray }->IntsAre vs ns->ns.length<=n->s₁.gens=#[] →
   codeAny (model l.prog w) callerA (.call (.ref fa) ⟨[.ref a],[]⟩) (λr s'=>r=.ok (.ret (.bool true))/\OldK s₁.heap s'.heap/\s'.os=s₁.os/\AllBare s'.gens) s₁) :
  WalkO q loose XP YP l.row.toRowW d [] (λf vs=>PySem.call f vs):=by
 intro w s₀ s₁ mg mb G Y fa o pm cd doc dV kV ho hd hcd hD hmg hg args vals as hpre hlay hrd hwl hlo;obtain rfl:dV=.none:=Dflts.none hD hdf;obtain rfl:kV=.none:=Dflts.noKw hD;obtain⟨a,vs,ns,rfl,rfl,hobj,hints,hlen⟩:=Nw hn hpre hwl;refine enter_call (qJ (call w s₀ s₁ mg mb fa o pm cd doc a vs ns G Y ho (fd_plain hd) hcd hmg hobj hints hlen hg) λr s' hq=>?_);obtain⟨rfl,h2,h3,h4⟩:=hq;exact⟨.inl ⟨.bool true,.bool true,[],rfl,λ_=>rfl,.bool true,M1 l _,λ_=>⟨List.Pairwise.nil,λ_ hm=>(nomatch hm)⟩⟩,h2,h3,h4⟩
section
def ledger (h:Heap)(L d:Addr):List (Addr × Obj):=(List.range h.objs.size).filterMap λa=>if a=L \/ a=d then none else (h.get? a).map λo=>(a,o)
end
end Att
namespace L2
open PySem PySem.Spec PyProof.Rows
theorem Uq:∀ {vs:TF} {ns:TN},IntsAre vs ns->Vals (ns.map V.int) vs
 | _,_,.nil=>.nil
 | _,_,.cons n t h=>.cons ⟨t,rfl⟩ (Uq h)
def Only (H:Hp):Prop:=∀ b,H b=none \/ ∃ o xs,H b=some (.frz o (.lst xs))
theorem K7 {P:TM}{w:World}{K:TL}{mg mb:Tn}{CX:CXT}{k:Nat}{fa a:Addr}{fd:FuncData}{x:Str}{sp:Sp}{s₁:Shared}{vs:TF}{ns:TN}
  (KX:K.In s₁.heap) (hns:s₁.heap.Ns mainGlobals mg) (hb:s₁.heap.Ns builtinsNs mb) (hbb:∀ x:Str,x≠"__name__"->mb x=bootBuiltins x) (hlim:s₁.heap.NoLimit) (hsee:s₁.heap.NoSeer) (htree:P.given.tree=none) (hg:s₁.gens=#[])
  (ha:s₁.heap.get? a=some { cls:=.type "list",data:=.seq vs.toArray }) (hi:IntsAre vs ns) (hl:ns.length<=sizeLine) {sr:Bool} (hr:Room k callerA sr)
  (F:∀ base:Heap,K.In base->base.Ns mainGlobals mg->FnOk P w K mg base CX k fa fd [x] sp sr) (hbind:∀ (s:Shared) (u:Value),BindsTo s fd ⟨[u],[]⟩ [(x,u)])
  (hsp:∀ H:Hp,Only H->SqL K H a (ns.map V.int)->sp [.ref a] H (λv _=>v=.bl true) λ_ _ _=>False)
  (hCX:∀ H e s',CX [] H s₁ (λ_ _ _=>False) e s'->False) :
  codeAny (model P w) callerA (.call (.ref fa) ⟨[.ref a],[]⟩) (λr s'=>r=.ok (.ret (.bool true))/\OldK s₁.heap s'.heap/\s'.os=s₁.os/\AllBare s'.gens) s₁:=by
 have rv:=Uq hi;have lenV:=hi.length;have core:∀ H:Hp,Only H->SqL K H a (ns.map V.int)->HOk P w H s₁.heap->(∀ b,H b≠none->b=a)->(H a≠none->K.lookup a=none) →
   codeAny (model P w) callerA (.call (.ref fa) ⟨[.ref a],[]⟩) (λr s'=>r=.ok (.ret (.bool true))/\OldK s₁.heap s'.heap/\s'.os=s₁.os/\AllBare s'.gens) s₁:=by
  intro H hO hS hok hA hK;have base_of:∀ {b:Addr} {o:Obj},s₁.heap.get? b=some o->H b=none->(hidT s₁.heap H).get? b=some o:=λe n=>Kf e n;have noA:∀ {b:Addr} {o:Obj} {es:Array DictEntry} {ep:Nat},s₁.heap.get? b=some o->o.data=.dict es ep->H b=none:=λ{b o es ep} e d=>by
   cases q:H b with
   | none=>rfl
   | some u =>
    have e':b=a:=hA b (by rw[q];simp);subst e';rw[ha] at e;cases e;have d':Data.seq vs.toArray _=Data.dict es ep:=d
    cases d'
  have noM:∀ {b:Addr} {o:Obj},s₁.heap.get? b=some o->o.cls=.type "module"->H b=none:=λ{b o} e d=>by
   cases q:H b with
   | none=>rfl
   | some u =>
    have e':b=a:=hA b (by rw[q];simp);subst e';rw[ha] at e
    cases e;injection d with z
    exact absurd z J0
  have nsK:∀ {b:Addr} {m:Tn},s₁.heap.Ns b m->(hidT s₁.heap H).Ns b m:=λ{b m} ⟨o,es,ep,e,d,r⟩=>⟨o,es,ep,base_of e (noA e d),d,r⟩;have hKb:K.In (hidT s₁.heap H):=λb o e=>base_of (KX b o e) (by
   cases q:H b with
   | none=>rfl
   | some u =>
    have e':b=a:=hA b (by rw[q];simp);subst e';rw[hK (by rw[q];simp)] at e;cases e)
  have hM:Mod K mg (hidT s₁.heap H):=⟨hKb,nsK hns,⟨mb,nsK hb,hbb⟩,let ⟨mc,h1,h2⟩:=hlim;⟨mc,nsK h1,h2⟩,⟨let ⟨mc,a1,a2⟩:=hsee.statics;⟨mc,nsK a1,a2⟩,let ⟨mc,a1,a2⟩:=hsee.mods;⟨mc,nsK a1,a2⟩,let ⟨mc,a1,a2⟩:=hsee.imp;⟨mc,nsK a1,a2⟩,let ⟨mg',bm,ob,a1,a2,a3,a4,a5⟩:=hsee.main;⟨mg',bm,ob,nsK a1,a2,base_of a3 (noM a3 a4),a4,a5⟩⟩⟩;have e0:Env0 P w K mg (hidT s₁.heap H) callerA [] s₁ H:=⟨rfl,hM,λb o e=>Jl e,Nat.le_of_eq (Mm _ _),trivial,λb hb=>absurd (show b∈([]:TH) from hb) J1,hok,.of_eq hg,.inl rfl,htree⟩;refine qJ ((F _ hKb (nsK hns)).run callerA [] s₁ H ⟨[.ref a],[]⟩ [.ref a] [.ref a] _ _ hr e0 (hbind s₁ (.ref a)) (.cons rfl .nil) (hsp H hO hS)) λr s' h=>?_
  cases r with
  | error e=>exact (hCX H e s' h).elim
  | ok fl =>
   cases fl with
   | next=>exact False.elim h
   | brk=>exact False.elim h
   | cont=>exact False.elim h
   | ret u =>
    obtain⟨v,H',os,bare,un,hok',r',q⟩:=h;have q':v=.bl true:=q;subst q';obtain rfl:u=Value.bool true:=r';refine⟨rfl,OldK.of_keep λb o e=>?_,os,bare⟩
    cases q:H b with
    | none=>exact un.keep b o e q (by intro z;exact absurd (show b∈([]:TH) from z) J1) J1
    | some u =>
     rcases hO b with z | ⟨ob,xs,z⟩
     ·rw[q] at z;cases z
     have z2:=un.frzs b ob _ z;obtain⟨e1,_⟩:=hok b _ z;obtain⟨e2,_⟩:=hok' b _ z2;rw[e] at e1;cases e1;exact e2
 cases hk:K.lookup a with
 | some o =>
  have e:=KX a o hk;rw[ha] at e
  cases e;refine core (λ_=>none) (λ_=>.inl rfl) (.inr ⟨_,vs.toArray,_,hk,rfl,rfl,rfl,by rw[YF,lenV];exact hl,by simpa using rv⟩) (λb u z=>by have z':(none:Option HO)=some u:=z;cases z') (λb z=>absurd rfl z) λz=>absurd rfl z
 | none =>
  refine core (λb=>if b=a then some (.frz { cls:=.type "list",data:=.seq vs.toArray } (.lst (ns.map V.int))) else none) (λb=>?_) (.inl (.inr ⟨{ cls:=.type "list",data:=.seq vs.toArray },XQ rfl⟩)) (λb u z=>?_) (λb z=>?_) λ_=>hk
  ·by_cases hb:b=a
   ·exact .inr ⟨_,_,XQ hb⟩
   exact .inl (XD hb)
  ·by_cases hb:b=a
   ·have z':=(XQ hb).symm.trans z
    cases z';subst hb;exact⟨ha,by rw[YC];exact hl,vs,_,rv,ha⟩
   have z':=(XD hb).symm.trans z
   cases z'
  by_cases hb:b=a
  ·exact hb
  exact absurd (XD hb) z
abbrev KOf {K:TL}{h:Heap}(_:K.In h):W.Frag:=K
theorem Kv {l:W.OpenLaw}{n k:Nat}{q:TM}{loose:TD}{XP:(Str->Option Value)->Heap->Prop}{YP:World->Heap->Prop}{d:DefRec}{K:Params->W.Frag}{CX:World->CXT}{sp:World->Sp}{x:Str}
  (hn:l.most=some n) (hn2:n<=sizeLine) (hq:PyProof.Rows.importsNone q=true) (htr:l.prog.given.tree=none) (hdf:d.params.defaults=[]) {sr:Bool} (hr:Room k callerA sr)
  (hY:∀ (w:World) (h:Heap),YP w h->(K w.params).In h)
  (F:∀ (w:World) (mg:Tn) (fa:Addr) (h:Heap),(K w.params).In h->h.Ns mainGlobals mg->mg d.name=some (.ref fa) →
   ∃ fd:FuncData,(∀ (s:Shared) (u:Value),BindsTo s fd ⟨[u],[]⟩ [(x,u)]) ∧
    ∀ base:Heap,(K w.params).In base->base.Ns mainGlobals mg->FnOk l.prog w (K w.params) mg base (CX w) k fa fd [x] (sp w) sr)
  (hsp:∀ (w:World) (H:Hp) (a:Addr) (ns:TN),ns.length<=n->Only H->SqL (K w.params) H a (ns.map V.int)->sp w [.ref a] H (λv _=>v=.bl true) λ_ _ _=>False)
  (hCX:∀ (w:World) (H:Hp) (s:Shared) (e:Value) (s':Shared),CX w [] H s (λ_ _ _=>False) e s'->False) :
  W.WalkO q loose XP YP l.row.toRowW d [] (λf vs=>PySem.call f vs):=by
 refine Att.attach_call hn hdf λw s₀ s₁ mg mb fa o pm cd doc a vs ns G Y ho hd hcd hmg hobj hints hlen hg=>?_;have KX:=hY w _ Y;obtain⟨fd,hb,hF⟩:=F w mg fa _ KX G.T.g hmg;exact K7 KX G.T.g G.T.b G.T.builtins G.T.nolimit (G.T.seer hq) htr hg hobj hints (XA hlen hn2) hr hF hb (λH hO hS=>hsp w H a ns hlen hO hS) λH e s'=>hCX w H s₁ e s'
theorem L6 {l:W.OpenLaw}{n k:Nat}{q:TM}{loose:TD}{XP:(Str->Option Value)->Heap->Prop}{YP:World->Heap->Prop}{d:DefRec}{K:Params->W.Frag}{CX:CXT}{sp:W.Frag->Sp}{x:Str}
  (hn:l.most=some n) (hn2:n<=sizeLine) (hq:PyProof.Rows.importsNone q=true) (htr:l.prog.given.tree=none) (hdf:d.params.defaults=[]) {sr:Bool} (hr:Room k callerA sr)
  (hY:∀ (w:World) (h:Heap),YP w h->(K w.params).In h)
  (F:∀ (w:World) (mg:Tn) (fa:Addr) (h:Heap),(K w.params).In h->h.Ns mainGlobals mg->mg d.name=some (.ref fa) →
   ∃ fd:FuncData,(∀ (s:Shared) (u:Value),BindsTo s fd ⟨[u],[]⟩ [(x,u)]) ∧
    ∀ base:Heap,(K w.params).In base->base.Ns mainGlobals mg->FnOk l.prog w (K w.params) mg base CX k fa fd [x] (sp (K w.params)) sr)
  (hsp:∀ (K:TL) (H:Hp) (a:Addr) (ns:TN),ns.length<=n->Only H->SqL K H a (ns.map V.int)->sp K [.ref a] H (λv _=>v=.bl true) λ_ _ _=>False)
  (hCX:∀ (H:Hp) (s:Shared) (e:Value) (s':Shared),CX [] H s (λ_ _ _=>False) e s'->False) :
  W.WalkO q loose XP YP l.row.toRowW d [] (λf vs=>PySem.call f vs) :=
 Kv (K:=K) (CX:=λ_=>CX) (sp:=λw=>sp (K w.params)) hn hn2 hq htr hdf hr hY F (λw H a ns h1 h2 h3=>hsp (K w.params) H a ns h1 h2 h3) λ_ H s e s'=>hCX H s e s'
def defArgs (s:Stmt):Arguments:=match s with
 | .FunctionDef _ a _ _ _ _ _ _ _ _=>a
 | _=>{ posonlyargs:=[],args:=[],vararg:=none,kwonlyargs:=[],kw_defaults:=[],kwarg:=none,defaults:=[] }
def defBody (s:Stmt):List Stmt:=match s with
 | .FunctionDef _ _ b _ _ _ _ _ _ _=>b
 | _=>[]
def defScope (s:Stmt):Scope:=match s with
 | .FunctionDef _ _ _ _ _ _ sc _ _ _=>sc
 | _=>{ kind:=.function,names:=[],isGenerator:=false,isCoroutine:=false }
abbrev CX0:CXT:=λ_ _ _ _ _ _=>False
abbrev E0:XK:=λ_ _ _=>False
theorem Gf:Passes CX0 X E0:=λ_ _ _ _ _ _ _ h=>h.elim
structure Fun (K:TL)(x qual:Str)(st:Stmt)(f:Addr)(fd:FuncData):Prop where
 ex:∃ (oc:Value) (od:TK) (kV doc pm:Value) (an:TK) (cdv ct:Value) (osl:Array (Option Value)),
  fd=W.fnOf x qual (defArgs st) (defBody st) (defScope st) .none kV doc pm an cdv ct/\K.lookup f=some ⟨oc,od,.func fd,osl⟩/\W.codeIn K cdv qual=true
 kp:W.keepIn K (.ref f)=true
section
variable {P:TM}{w:World}{K:TL}{mg:Tn}{base:Heap}
theorem Fun.ok {x:Str}{k:Nat}(F:Fun K x qual st f fd)(S:FnScope N ps (defScope st))(len:∀ vs H Q E,sp vs H Q E->vs.length=ps.length)
  (hbody:∀ (cdv:Value) (A:Around) (outer:List Env) (s:Shared) (H:Hp) (vs:TQ) (Q:VK) (E:XK),Room k (A.deeper (envOfC qual (defScope st) s.heap.objs.size f cdv)) sr->sp vs H Q E →
   ∃ t,PSs (cxOf CX0 P w K mg base N qual (defScope st) f cdv A outer s H E).nox (defBody st) t/\t { nx:=λ_ H'=>Q .non H',rt:=Q } (start N vs) H):FnOk P w K mg base CX0 (k+1) f fd ps sp sr:=by
 obtain⟨oc,od,kV,doc,pm,an,cdv,ct,osl,rfl,lk,hcd⟩:=F.ex;refine Dn lk hcd S len λA outer s H vs Q E hr hsp=>?_;obtain⟨t,h,q⟩:=hbody cdv A outer s H vs Q E hr hsp;exact⟨t,h.nox,q⟩
theorem Fun.binds {x:Str}(F:Fun K x qual st f fd)
  (h:∀ (kV doc pm:Value) (an:TK) (cdv ct:Value) (us:TF),us.length=ps.length->bindArgs (W.fnOf x qual (defArgs st) (defBody st) (defScope st) .none kV doc pm an cdv ct) ⟨us,[]⟩=pure (ps.zip us)):Binds K fd ps []:=by
 obtain⟨oc,od,kV,doc,pm,an,cdv,ct,osl,rfl,lk,hcd⟩:=F.ex;exact .all (h kV doc pm an cdv ct)
theorem Ph {x:Str}{oc:Value}{od an:TK}{osl:Array (Option Value)}{kV doc pm cdv ct:Value}(l:K.lookup f=some ⟨oc,od,.func (W.fnOf x qual (defArgs st) (defBody st) (defScope st) .none kV doc pm an cdv ct),osl⟩)
  (c:W.codeIn K cdv qual=true) (k:W.keepIn K (.ref f)=true):Fun K x qual st f (W.fnOf x qual (defArgs st) (defBody st) (defScope st) .none kV doc pm an cdv ct):=⟨⟨oc,od,kV,doc,pm,an,cdv,ct,osl,rfl,l,c⟩,k⟩
end
theorem Dm {k:Nat}(hr:Room k A sr):A.units+1<cLine:=JC (zC (by decide:1<=64) _) hr.units
section
variable {X:Cx}
theorem pv (i:Nat){x:Str}{pos:Pos}(hN:X.N[i]?=some x:=by rfl)(hv:Vis X.env.scope x:=by first | exact Or.inl rfl | exact Or.inr (Or.inl rfl) | exact Or.inr (Or.inr rfl))(hd:(x == ("__debug__":Str))=false:=by decide)
  (hcd:(x == ("__classdict__":Str))=false:=by decide):PE X (.Name x pos) (tVar i):=Fa hN hv hd hcd
end
theorem Y2 {A B:Prop}(h:B):if false=true then A else B:=by
 rw[XD YM];exact h
theorem Wb {A B:Prop}(h:A):if true=true then A else B:=by
 rw[XQ rfl];exact h
theorem Sj {c A B:Prop}[Decidable c](h1:c->A)(h2:¬ c->B):if c then A else B:=by
 by_cases h:c
 ·rw[XQ h];exact h1 h
 rw[XD h];exact h2 h
theorem Kb {c A B:Prop}[Decidable c](hc:c)(h:B):if (!decide c)=true then A else B:=by
 rw[XC hc];exact Y2 h
def Same (H H':Hp):Prop:=∀ b o,H b=some o->H' b=some o
theorem Same.refl (H:Hp):Same H H:=λ_ _ h=>h
theorem Same.trans {H2:Hp}(a:Same H H1)(b:Same H1 H2):Same H H2:=λc o h=>b c o (a c o h)
end L2
namespace Sb
def Bd (n:Nat)(x:Int):Prop:=x.natAbs<2 ^ n
theorem Bd.mul {m n:Nat}{x y:Int}(h:Bd m x)(k:Bd n y):Bd (m+n) (x*y):=by
 unfold Bd at *
 rw[zP,Nat.pow_add];exact Nat.mul_lt_mul'' h k
theorem Bd.log {n:Nat}{x:Int}(h:Bd n x)(k:n<450000):x.natAbs.log2<450000:=by
 rcases Y02 x.natAbs with h0 | hp
 ·rw[h0];decide
 have:=(zn (qX hp)).mpr h;omega
def gI (p q:Int):Int:=(Int.gcd p q:Int)
def sg (p q:Int):Int:=if q<0 then -(gI p q) else gI p q
def nT (p q:Int):Int:=p.fdiv (sg p q)
def nB (p q:Int):Int:=q.fdiv (sg p q)
theorem Pg {p q:Int}(h:q≠0):0<gI p q:=by
 have:=Int.gcd_pos_of_ne_zero_right p h;unfold gI;omega
theorem Us {p q:Int}(h:q≠0):sg p q≠0:=by
 have:=Pg (p:=p) h;unfold sg;split <;> omega
theorem Qs (p q:Int):sg p q ∣ p:=by
 unfold sg gI;split
 ·exact Int.neg_dvd.mpr (Int.gcd_dvd_left ..)
 exact Int.gcd_dvd_left ..
theorem Qu (p q:Int):sg p q ∣ q:=by
 unfold sg gI;split
 ·exact Int.neg_dvd.mpr (Int.gcd_dvd_right ..)
 exact Int.gcd_dvd_right ..
theorem U6 {a b:Int}(h:b ∣ a):a.fdiv b*b=a:=by
 rw[Int.fdiv_eq_ediv_of_dvd h];exact Int.ediv_mul_cancel h
theorem P9 (p q:Int):nT p q*sg p q=p:=U6 (Qs p q)
theorem Vy (p q:Int):nB p q*sg p q=q:=U6 (Qu p q)
theorem Pa {p q:Int}(h:q≠0):0<nB p q:=by
 have e:=Vy p q;have g:=Pg (p:=p) h;by_cases hq:q<0
 ·have s:sg p q=-(gI p q):=by unfold sg;rw[XQ hq]
  rw[s] at e;rcases Int.lt_trichotomy 0 (nB p q) with k | k | k
  ·exact k
  ·rw[<-k] at e;simp at e;omega
  have:=Int.mul_pos_of_neg_of_neg k (show -(gI p q)<0 by omega);omega
 have s:sg p q=gI p q:=by unfold sg;rw[XD hq]
 rw[s] at e;rcases Int.lt_trichotomy 0 (nB p q) with k | k | k
 ·exact k
 ·rw[<-k] at e;simp at e;omega
 have:=Int.mul_neg_of_neg_of_pos k g;omega
theorem Jo (p q:Int):nT p q*q=p*nB p q:=by
 have h1:=P9 p q;have h2:=Vy p q
 calc nT p q*q=nT p q*(nB p q*sg p q):=by rw[h2]
  _=(nT p q*sg p q)*nB p q:=by rw[jl (nB p q),Int.mul_assoc]
  _=p*nB p q:=by rw[h1]
theorem Gi {p q:Int}(h:q≠0):Int.gcd (nT p q) (nB p q)=1:=by
 have g:=Pg (p:=p) h;have e1:=P9 p q;have e2:=Vy p q;have e:Int.gcd p q=Int.gcd (nT p q) (nB p q)*(sg p q).natAbs:=by
  have z:=Int.gcd_mul_right (nT p q) (sg p q) (nB p q);rw[e1,e2] at z;exact z
 have s:(sg p q).natAbs=Int.gcd p q:=by
  unfold sg gI;split <;> simp
 rw[s] at e;have gp:0<Int.gcd p q:=by unfold gI at g;omega
 have e':1*Int.gcd p q=Int.gcd (nT p q) (nB p q)*Int.gcd p q:=U
 exact (Nat.eq_of_mul_eq_mul_right gp e').symm
theorem Ld {p q:Int}(h:q≠0):1<=(sg p q).natAbs:=by
 have:=Us (p:=p) h;omega
theorem V3 {a b c:Int}(h:a*b=c)(hb:1<=b.natAbs):a.natAbs<=c.natAbs:=by
 rw[<-h,zP];exact Nat.le_mul_of_pos_right _ hb
theorem Gj {p q:Int}(h:q≠0):(nT p q).natAbs<=p.natAbs:=V3 (P9 p q) (Ld h)
theorem Gk {p q:Int}(h:q≠0):(nB p q).natAbs<=q.natAbs:=V3 (Vy p q) (Ld h)
theorem D6 {p q:Int}(h:q≠0):(sg p q).natAbs<=q.natAbs:=by
 have e:=Vy p q;rw[jl] at e;have:=Pa (p:=p) h;exact V3 e U
theorem gcd_step {a b:Int}:Int.gcd b (a % b)=Int.gcd a b:=by
 rw[zI b,Int.emod_def];rw[zV]
theorem Mn (a b:Int):Int.gcd b (a.fmod b)=Int.gcd a b:=by
 rw[zI b,Int.fmod_def];rw[zV]
theorem Kg (a:Int){b:Int}(h:b≠0):(a.fmod b).natAbs<b.natAbs:=by
 rcases Int.lt_or_gt_of_ne h with k | k
 ·have h0:=Int.neg_fmod_neg a b;have h1:=jm (-a) (show 0 < -b by omega);have h2:=Y03 (-a) (show 0 < -b by omega);omega
 have h1:=jm a k;have h2:=Y03 a k;omega
theorem Fw (a b:Int)(ha:0<=a)(h:b=0):a=(Int.gcd a b:Int):=by
 subst h;simp;omega
end Sb
namespace Sb
open PySem PySem.Spec PyProof.Rows L2
theorem Bd.bits {n:Nat}{x:Int}(h:Bd n x):Builtin.Int.intBits x<=n:=by
 unfold Builtin.Int.intBits;split
 ·exact JH _
 rename_i h0
 have hn:x.natAbs≠0:=by
  intro z;have:x=0:=U
  exact h0 (by simp[this])
 have:=(zn hn).mpr h;omega
theorem Bd.mulOk {m n:Nat}{x y:Int}(h:Bd m x)(k:Bd n y)(hm:m<=1048576)(hn:n<=1048576):IntMulOk x y :=
 IntMulOk.of_bits (XA h.bits (XA hm J0)) (XA k.bits (XA hn J0))
theorem Pb {x y:Int}(h1:-(2 ^ 64)<x)(h2:x<2 ^ 64):IntMulOk x y:=IntMulOk.of_left (intBits_le_64 h1 h2)
theorem Md {x y:Int}(h1:-(2 ^ 64)<y)(h2:y<2 ^ 64):IntMulOk x y:=IntMulOk.of_right (intBits_le_64 h1 h2)
section
variable {X:Cx}
theorem Ya:OpR X (binaryOp .Mult) (rI IntMulOk λi j=>.int (i*j)):=opI λ_ _ _ _ _ _ _ hc q=>mul_int q hc
def DivOk (_ j:Int):Prop:=j≠0/\j.natAbs.log2<450000
theorem W1:OpR X (binaryOp .FloorDiv) (rI DivOk λi j=>.int (i.fdiv j)):=by
 intro pins s σ H x y v u Q I rx ry h;obtain⟨i,j,rfl,rfl,hc,q⟩:=h;obtain⟨t,rfl⟩:=rx;obtain⟨t',rfl⟩:=ry;exact floordiv_int hc.1 ⟨.int (i.fdiv j),H,I.tok _,⟨_,rfl⟩,q⟩ (.inr I.pylong)
inductive rP0 (K:TL) (x:V) (y:V) (H:Hp) (Q:VK):Prop
 | mk (p u v:_) (zz0:x=.ref p) (zz1:y=.int 0) (zz2:SqT K H p [u,v]) (zz3:Q u H)
inductive rP1 (K:TL) (x:V) (y:V) (H:Hp) (Q:VK):Prop
 | mk (p u v:_) (zz0:x=.ref p) (zz1:y=.int 1) (zz2:SqT K H p [u,v]) (zz3:Q v H)
inductive rL0 (K:TL) (x:V) (y:V) (H:Hp) (Q:VK):Prop
 | mk (p u v:_) (zz0:x=.ref p) (zz1:y=.int 0) (zz2:SqL K H p [u,v]) (zz3:Q u H)
inductive rL1 (K:TL) (x:V) (y:V) (H:Hp) (Q:VK):Prop
 | mk (p u v:_) (zz0:x=.ref p) (zz1:y=.int 1) (zz2:SqL K H p [u,v]) (zz3:Q v H)
theorem at0 {α:Type}(x:α)(xs:List α):atI (x::xs) 0=some x:=Yi (j:=0) rfl
theorem at1 {α:Type}(x y:α)(xs:List α):atI (x::y::xs) 1=some y:=Yi (j:=1) rfl
theorem Xw:IxR X (rP0 X.K):=λvl sl pins s σ H x y v u Q I rx ry ⟨p,a,b,e1,e2,h,q⟩ hs=>Zs vl sl pins s σ H x y v u Q I rx ry ⟨p,_,_,_,e1,e2,h,at0 _ _,q⟩ hs
theorem Xs:IxR X (rP1 X.K):=λvl sl pins s σ H x y v u Q I rx ry ⟨p,a,b,e1,e2,h,q⟩ hs=>Zs vl sl pins s σ H x y v u Q I rx ry ⟨p,_,_,_,e1,e2,h,at1 _ _ _,q⟩ hs
theorem N8:IxR X (rL0 X.K):=λvl sl pins s σ H x y v u Q I rx ry ⟨p,a,b,e1,e2,h,q⟩ hs=>Y1 vl sl pins s σ H x y v u Q I rx ry ⟨p,_,_,_,e1,e2,h,at0 _ _,q⟩ hs
theorem N7:IxR X (rL1 X.K):=λvl sl pins s σ H x y v u Q I rx ry ⟨p,a,b,e1,e2,h,q⟩ hs=>Y1 vl sl pins s σ H x y v u Q I rx ry ⟨p,_,_,_,e1,e2,h,at1 _ _ _,q⟩ hs
theorem Xq {x:Str}{T:String}{pos:Pos}(hm:X.mg x=none)(hv:bootBuiltins x=some (.type T))(hg:Gl X x:=by rfl)(hn:x≠"__name__":=by decide)(hd:(x == ("__debug__":Str))=false:=by decide):PE X (.Name x pos) (tC (.ty T)) :=
 Jb hg hm hv rfl hn hd
theorem Yb:CallR X (.builtin "isinstance") (λxs H Q=>∃ x T t b,xs=[x,.ty T]/\TyOf X.K H x t/\W.kitOne X.K t (.type T)=some b/\Q (.bl b) H):=by
 intro pins s σ H xs us Q I r h;obtain⟨x,T,t,b,rfl,ty,k,q⟩:=h;obtain⟨u,w',rfl,rx,ry⟩:=L7 r
 cases (show w'=Value.type T from ry);exact Mk I rx ty k λtk=>⟨.bl b,H,I.tok tk,rfl,q⟩
theorem Yo:CallR X (.builtin "isinstance") (λxs H Q=>∃ a ys T b,xs=[.ref a,.ty T]/\SqT X.K H a ys/\W.kitOne X.K (.type "tuple") (.type T)=some b/\Q (.bl b) H):=by
 intro pins s σ H xs us Q I r h;obtain⟨a,ys,T,b,rfl,hs,k,q⟩:=h;obtain⟨u,w',rfl,rx,ry⟩:=L7 r
 cases (show w'=Value.type T from ry)
 cases (show u=Value.ref a from rx);obtain⟨its,_,tup,_⟩:=I.tuple hs;obtain⟨o,h1,h2,_⟩:=tup;exact qu W.kitx_tuple I.kIn ⟨o,h1,h2⟩ k (λz=>nomatch z) λtk=>⟨.bl b,H,I.tok tk,rfl,q⟩
end
theorem Yg {T:String}:W.kitOne K (.type T) (.type T)=some true:=by
 unfold W.kitOne;rw[XQ J1]
theorem Wp:W.kitOne K (.type "int") (.type "bool")=some false:=by
 show (if (Value.type "int" == Value.type "bool")=true then some true else (if W.kitMeta "bool"=true then (fastBuiltinMro "int").map (·.contains (Value.type "bool")) else none))=some false
 decide +kernel
def Has (P:TM)(w:World)(K:TL)(mg:Tn)(base:Heap)(k:Nat)(x:Str)(ps:TD)(sp:Sp)(sr:Bool:=false):Prop :=
 ∃ (f:Addr) (fd:FuncData),FnOk P w K mg base CX0 k f fd ps sp sr/\mg x=some (.ref f)/\W.keepIn K (.ref f)=true/\Binds K fd ps []
def Def (K:TL)(mg:Tn)(x:Str)(st:Stmt)(ps:TD):Prop :=
 ∃ (f:Addr) (fd:FuncData),Fun K x x st f fd/\mg x=some (.ref f)/\Binds K fd ps []
theorem Def.has {P:TM}{w:World}{base:Heap}{k:Nat}{x:Str}(D:Def K mg x st ps)
  (h:∀ (f:Addr) (fd:FuncData),Fun K x x st f fd->FnOk P w K mg base CX0 k f fd ps sp sr):Has P w K mg base k x ps sp sr:=by
 obtain⟨f,fd,F,hm,b⟩:=D;exact⟨f,fd,h f fd F,hm,F.kp,b⟩
section
variable {X:Cx}{k:Nat}{x:Str}{ps:TD}{sp:Sp}{e:Expr}{es:TJ}{t:TA}{p pos:Pos}
theorem Fb (h:Has X.prog X.w X.K X.mg X.base k x ps sp)(hr:Room k X.A sr)(hg:Gl X x)(ha:PA X (e::es) t)(hdb:(x == ("__debug__":Str))=false:=by decide)
  (he:starEach (e::es) X.env=(false,eval e X.env)::starEach es X.env:=by rfl) (hpl:(backTo pos (starEach es X.env)).any (·.1)=false:=by rfl) (hc:X.calm=true:=by rfl):PE X (.Call (.Name x p) (e::es) [] pos) (tCall sp [] E0 t):=by
 obtain⟨f,fd,F,hm,hk,hb⟩:=h;exact N1 F hr.loose hg hm hk hb .nil Gf ha hdb he hpl hc
theorem Xl (h:Has X.prog X.w X.K X.mg X.base k x ps sp true)(hr:Room k X.A true)(hg:Gl X x)(ha:PA X (e::es) t)(hdb:(x == ("__debug__":Str))=false:=by decide)
  (he:starEach (e::es) X.env=(false,eval e X.env)::starEach es X.env:=by rfl) (hpl:(backTo pos (starEach es X.env)).any (·.1)=false:=by rfl) (hc:X.calm=true:=by rfl):PE X (.Call (.Name x p) (e::es) [] pos) (tCall sp [] E0 t):=by
 obtain⟨f,fd,F,hm,hk,hb⟩:=h;exact N1 F hr hg hm hk hb .nil Gf ha hdb he hpl hc
theorem Zf (h:Has X.prog X.w X.K X.mg X.base k x ps sp)(hr:Room j X.A sr)(ha:PA X (e::es) t)(hg:Gl X x:=by rfl)(hj:k<=j:=by decide)(hdb:(x == ("__debug__":Str))=false:=by decide)
  (he:starEach (e::es) X.env=(false,eval e X.env)::starEach es X.env:=by rfl) (hpl:(backTo pos (starEach es X.env)).any (·.1)=false:=by rfl) (hc:X.calm=true:=by rfl):PE X (.Call (.Name x p) (e::es) [] pos) (tCall sp [] E0 t):=Fb h (hr.mono hj) hg ha hdb he hpl hc
end
section
variable {X:Cx}{st:Stmt}{t:TS}
inductive tJ (t:TS) (D:Ends) (σ:L2.St) (H:Hp):Prop
 | mk (J:L2.St->Hp->Prop) (zz0:t { D with nx:=J } σ H) (zz1:∀ σ' H',J σ' H'->D.nx σ' H')
theorem Zx (h:PS X st t):PS X st (tJ t):=by
 intro pins s σ H D I ⟨J,a,b⟩;refine thn (h pins s σ H _ I a) λf s' q=>?_
 cases f with
 | next=>obtain⟨σ',H',I',q⟩:=q;exact⟨σ',H',I',b _ _ q⟩
 | brk=>exact q
 | cont=>exact q
 | ret v=>exact q
end
def SameX (a:Addr)(H H':Hp):Prop:=∀ b o,H b=some o->b≠a->H' b=some o
theorem SameX.trans {a:Addr}{H2:Hp}(x:SameX a H H1)(y:SameX a H1 H2):SameX a H H2:=λb o h n=>y b o (x b o h n) n
theorem SameX.of {a:Addr}(x:Same H H'):SameX a H H':=λb o h _=>x b o h
theorem SameX.upd (a:Addr)(H:Hp)(o:HO):SameX a H (upd H a o):=λb u h n=>by rw[Zi n];exact h
theorem Same.new {a:Addr}{o:HO}(h:H a=none):Same H (upd H a o):=λb u e=>by rw[Zi (Zb e h)];exact e
theorem Zw {a:Addr}(e:Same H H')(h:SqT K H a xs):SqT K H' a xs:=by
 rcases h with (h | ⟨o,h⟩) | h
 ·exact .inl (.inl (e _ _ h))
 ·exact .inl (.inr ⟨o,e _ _ h⟩)
 exact .inr h
def BagAt (H:Hp)(a:Addr)(n:Nat):Prop:=∃ x y:Int,H a=some (.lst [.int x,.int y])/\0<=y/\y<=n
theorem BagAt.mono {a:Addr}{m n:Nat}(h:BagAt H a m)(k:m<=n):BagAt H a n:=by
 obtain⟨x,y,e,h1,h2⟩:=h;exact⟨x,y,e,h1,U⟩
theorem BagAt.same {a:Addr}{n:Nat}(h:BagAt H a n)(x:Same H H'):BagAt H' a n:=by
 obtain⟨p,q,e,r⟩:=h;exact⟨p,q,x _ _ e,r⟩
theorem BagAt.upd {H:Hp}{a l:Addr}{o:HO}{n:Nat}(h:BagAt H a n)(k:a≠l):BagAt (L2.upd H l o) a n:=by
 obtain⟨p,q,e,r⟩:=h;exact⟨p,q,by rw[Zi k];exact e,r⟩
theorem BagAt.lst {H:Hp}{a:Addr}{n:Nat}(h:BagAt H a n):∃ ys,H a=some (.lst ys):=by
 obtain⟨x,y,e,_⟩:=h;exact⟨_,e⟩
theorem Zn {x:Str}{oc:Value}{od an:TK}{sl:Array (Option Value)}{kV dc pm cd ct:Value}(X:K.In h)(G:h.Ns mainGlobals mg)
  (a:W.nsIn K mainGlobals x=some (some (.ref f)):=by k_is) (l:K.lookup f=some ⟨oc,od,.func (W.fnOf x x (defArgs st) (defBody st) (defScope st) .none kV dc pm an cd ct),sl⟩:=by k_is) (c:W.codeIn K cd x=true:=by k_is) (k:W.keepIn K (.ref f)=true:=by k_is)
  (b:∀ (kV doc pm:Value) (an:TK) (cdv ct:Value) (us:TF),us.length=ps.length->bindArgs (W.fnOf x x (defArgs st) (defBody st) (defScope st) .none kV doc pm an cdv ct) ⟨us,[]⟩=pure (ps.zip us):=by intro _ _ _ _ _ _ us h;(iterate 9 (try (rcases us with _|⟨_,us⟩;·cases h)));rcases us with _|⟨_,us⟩<;>first|rfl|cases h):Def K mg x st ps :=
 ⟨f,_,Ph l c k,W.mg_of X G a,(Ph l c k).binds b⟩
theorem Fp {P:TM}{w:World}{x:Str}{fa:Addr}{oc:Value}{od an:TK}{sl:Array (Option Value)}{kV dc pm cd ct:Value}{n:Nat}(X:K.In h)(G:h.Ns mainGlobals mg)(hfa:mg "law"=some (.ref fa))
  (a:W.nsIn K mainGlobals "law"=some (some (.ref f))) (l:K.lookup f=some ⟨oc,od,.func (W.fnOf "law" "law" (defArgs st) (defBody st) (defScope st) .none kV dc pm an cd ct),sl⟩) (c:W.codeIn K cd "law"=true) (k:W.keepIn K (.ref f)=true)
  (b:∀ (s:Shared) (v:Value),BindsTo s (W.fnOf "law" "law" (defArgs st) (defBody st) (defScope st) .none kV dc pm an cd ct) ⟨[v],[]⟩ [(x,v)])
  (ok:∀ (fd:FuncData) (base:Heap),Fun K "law" "law" st fa fd->FnOk P w K mg base CX0 n fa fd [x] sp sr) :
  ∃ fd:FuncData,(∀ (s:Shared) (v:Value),BindsTo s fd ⟨[v],[]⟩ [(x,v)])/\∀ base:Heap,K.In base->base.Ns mainGlobals mg->FnOk P w K mg base CX0 n fa fd [x] sp sr:=by
 have e:=hfa.symm.trans (W.mg_of X G a)
 cases e;exact⟨_,b,λbase _ _=>ok _ base (Ph l c k)⟩
theorem Wd (env:Env):∀ (ns:List (Str × NameKind)) (cs:List (Str × Addr)),(∀ y∈ns,y.2=.free->∃ c,env.cells.lookup y.1=some c)->(∀ y c,cs.lookup y=some c->env.cells.lookup y=some c) →
  ∃ cl,(forIn ns cs (λ(x:Str × NameKind) (r:List (Str × Addr))=>(if (x.2 == .free)=true then do let a <-cellOf env x.1;pure (ForInStep.yield ((x.1,a)::r)) else pure (ForInStep.yield r):Sem (ForInStep (List (Str × Addr))))))=pure cl ∧
   (∀ y c,cl.lookup y=some c->env.cells.lookup y=some c)/\(∀ y c,cs.lookup y=some c->∃ c',cl.lookup y=some c')/\∀ y∈ns,y.2=.free->∃ c,cl.lookup y.1=some c
 | [],cs,_,hs=>⟨cs,J1,hs,λy c e=>⟨c,e⟩,λy hy=>nomatch hy⟩
 | (n,k)::r,cs,hf,hs=>by
  have hr:∀ y∈r,y.2=.free->∃ c,env.cells.lookup y.1=some c:=λy hy=>hf y (YK _ hy);by_cases hk:k=.free
  ·subst hk;obtain⟨c,hc⟩:=hf (n,.free) YL rfl;have hc':env.cells.lookup n=some c:=hc;have hs':∀ y d,((n,c)::cs).lookup y=some d->env.cells.lookup y=some d:=λy d e=>by
    by_cases hy:y=n
    ·subst hy;simp only [XU,GT] at e
     cases e;exact hc'
    have hb:(y == n)=false:=JO.mpr hy;simp only [XU,hb] at e;exact hs y d e
   obtain⟨cl,h1,h2,h3,h4⟩:=Wd env r ((n,c)::cs) hr hs';have up:∃ c',cl.lookup n=some c':=h3 n c (by simp[XU]);refine⟨cl,?_,h2,λy d e=>?_,λy hy hyf=>?_⟩
   ·have e:cellOf env n=pure c:=by unfold cellOf;rw[hc']
    simp only [GP,GT,zl,e];exact h1
   ·by_cases hy:y=n
    ·subst hy;exact up
    have hb:(y == n)=false:=JO.mpr hy;exact h3 y d (by simp only [XU,hb];exact e)
   rcases YJ.mp hy with z | z
   ·subst z;exact up
   exact h4 y z hyf
  obtain⟨cl,h1,h2,h3,h4⟩:=Wd env r cs hr hs;refine⟨cl,?_,h2,h3,λy hy hyf=>?_⟩
  ·have hb:(k == NameKind.free)=false:=JO.mpr hk;simp only [GP,hb,JX,qF];exact h1
  rcases YJ.mp hy with z | z
  ·subst z;exact absurd hyf hk
  exact h4 y z hyf
theorem W6 (hf:∀ y∈scope.names,y.2=.free->∃ c,env.cells.lookup y.1=some c) :
  ∃ cl,closureFor scope env=pure cl/\(∀ y c,cl.lookup y=some c->env.cells.lookup y=some c)/\∀ y∈scope.names,y.2=.free->∃ c,cl.lookup y.1=some c:=by
 obtain⟨cl,h1,h2,_,h4⟩:=Wd env scope.names [] hf (λy c e=>by simp at e);refine⟨cl,?_,h2,h4⟩;have e:closureFor scope env=((forIn scope.names ([]:List (Str × Addr)) (λ(x:Str × NameKind) (r:List (Str × Addr))=>(if (x.2 == .free)=true then do let a <-cellOf env x.1;pure (ForInStep.yield ((x.1,a)::r)) else pure (ForInStep.yield r):Sem (ForInStep (List (Str × Addr)))))) >>= λr=>pure r):=by
  unfold closureFor
  congr 1
 rw[e,h1];rfl
theorem Pc {l:List (Str × NameKind)}{x:Str}{q:NameKind}(h:l.lookup x=some q):(x,q)∈l:=by
 obtain⟨a,b,e,_⟩:=List.lookup_eq_some_iff.mp h;rw[e];simp
theorem Wj {env:Env}(hf:env.scope.kind=.function):∀ {names:List (Str × NameKind)} {x:Str},names.lookup x=some .free->env.kindOf x=some .cell →
  (names.map λ(n,k)=>if (k == .free && env.scope.kind == .function && env.kindOf n == some .cell) then (n,NameKind.cell) else (n,k)).lookup x=some .cell
 | [],_,h,_=>by simp at h
 | (n,k)::r,x,h,hx=>by
  by_cases e:x=n
  ·subst e;simp only [XU,GT] at h
   cases h;simp[XU,hf,hx]
  have hb:(x == n)=false:=JO.mpr e;simp only [XU,hb] at h;have ih:=Wj hf h hx;show List.lookup x ((if (k == .free && env.scope.kind == .function && env.kindOf n == some .cell)=true then (n,NameKind.cell) else (n,k))::_)=_;by_cases c:(k == .free && env.scope.kind == .function && env.kindOf n == some .cell)=true
  ·rw[XQ c];simp only [XU,hb];exact ih
  rw[XD c];simp only [XU,hb];exact ih
theorem Xj {env:Env}:∀ {names:List (Str × NameKind)} {x:Str} {q:NameKind},(q=.cell \/ q=.free) →
  (names.map λ(n,k)=>if (k == .free && env.scope.kind == .function && env.kindOf n == some .cell) then (n,NameKind.cell) else (n,k)).lookup x=some q →
  ∃ y∈names,y.1=x/\(y.2=.free \/ y.2=.cell)
 | [],_,_,_,h=>by simp at h
 | (n,k)::r,x,q,hq,h=>by
  by_cases e:x=n
  ·subst e;refine⟨(x,k),YL,rfl,?_⟩;replace h:List.lookup x ((if (k == .free && env.scope.kind == .function && env.kindOf x == some .cell)=true then (x,NameKind.cell) else (x,k))::_)=some q:=h;by_cases c:(k == .free && env.scope.kind == .function && env.kindOf x == some .cell)=true
   ·have:k=.free:=by
     rw[GK,GK] at c;exact jn.mp c.1.1
    exact .inl this
   rw[XD c] at h;simp only [XU,GT] at h
   cases h;rcases hq with z | z
   ·exact .inr z
   exact .inl z
  have hb:(x == n)=false:=JO.mpr e;replace h:List.lookup x ((if (k == .free && env.scope.kind == .function && env.kindOf n == some .cell)=true then (n,NameKind.cell) else (n,k))::_)=some q:=h;have h':(r.map λ(n,k)=>if (k == .free && env.scope.kind == .function && env.kindOf n == some .cell) then (n,NameKind.cell) else (n,k)).lookup x=some q:=by
   by_cases c:(k == .free && env.scope.kind == .function && env.kindOf n == some .cell)=true
   ·rw[XQ c] at h;simp only [XU,hb] at h;exact h
   rw[XD c] at h;simp only [XU,hb] at h;exact h
  obtain⟨y,hy,z⟩:=Xj hq h';exact⟨y,YK _ hy,z⟩
section
variable {prog:TM}{w:World}{A:Around}{R:Result->Shared->Prop}{s:Shared}
abbrev noX:Value->Shared->Prop:=λ_ _=>False
theorem Mv {elt tg iter:Expr}{ifs:TJ}{scope:Scope}{pos:Pos}{it acc:Value}{env:Env}(J:Nat->Shared->Prop)
  (turn:∀ n s,J n s->wpAny (model prog w) A (pyNext it) (λr s1=>match r with
   | none=>R (.ok .next) s1
   | some v=>wpAny (model prog w) A (letOwnedTupleGo tg it v) (λ_ s2=>wpAny (model prog w) A (assign tg env v) (λ_ s3 =>
     wpAny (model prog w) A (forIn ifs true λc r=>if r=true then do let ok <-isTrue c env (eval c env);pure (ForInStep.yield ok) else pure (ForInStep.yield r)) (λok s4 =>
      if ok=true then wpAny (model prog w) A (eval elt env) (λx s5=>wpAny (model prog w) A (call (.builtin "list.append") [acc,x]) (λ_ s6=>∃ m,m<n/\J m s6) noX s5) noX s4
      else ∃ m,m<n/\J m s4) noX s3) noX s2) noX s1) noX s)
  (n:Nat) (h:J n s):codeAny (model prog w) A (.compLoop (.ListComp elt [⟨tg,iter,ifs,0⟩] scope pos) 0 it acc env) R s:=by
 have no:∀ {Z:TB} (a:Value) (b:Shared),noX a b->Z a b:=λ_ _ f=>f.elim;refine codeAny_loop rfl J (λn s hJ=>?_) n h;show wpAny _ A ((compTurn (.ListComp elt [⟨tg,iter,ifs,0⟩] scope pos) 0 it acc env).onRaise (λx=>do noteFrame x env;theTreesLotGoes x)) _ _ s;refine wpAny_noted ?_;rw[compTurn_list];refine YA (zk (YA (GX (turn n s hJ) (λr s1 h1=>?_) no)))
 cases r with
 | none=>exact YD h1
 | some v =>
  refine YA (GX h1 (λ_ s2 h2=>YA (GX h2 (λ_ s3 h3=>YA (GX h3 (λok s4 h4=>?_) no)) no)) no)
  cases ok with
  | false=>exact YD ⟨rfl,h4⟩
  | true=>exact YA (YA (GX h4 (λx s5 h5=>YA (GX h5 (λ_ s6 h6=>YD (YD ⟨rfl,h6⟩)) no)) no))
end
def cellsO (ox:Option Str)(n:Addr)(cl:List (Str × Addr)):List (Str × Addr):=ox.elim cl λx=>(x,n)::cl
def compCx (X:Cx)(N:TD)(scope:Scope)(ox:Option Str)(cl:List (Str × Addr))(C:Addr)(fp:TH)(s:Shared)(H:Hp):Cx where
 prog:=X.prog
 w:=X.w
 K:=X.K
 mg:=X.mg
 base:=X.base
 A:=X.A
 N:=N
 s₀:=s
 H₀:=H
 env:=compEnvC scope (cellsO ox (C+1) cl) C X.env
 outer:=X.stack
 stack:=X.stack
 ex:=fp
 fn:=λy=>ox.elim false λx=>y == x
 calm:=true
 pn:=X.pn
 xe:=noX
def comp0 (k:Nat)(fv:List Nat)(σ:L2.St):L2.St:=List.replicate k none++fv.map λj=>σ.getD j none
def PTs (X:Cx)(ifs:TJ)(t:TT):Prop :=
 ∀ (pins:TC) (s:Shared) (σ:L2.St) (H:Hp) (Q:Bool->Hp->Prop),Inv X pins σ H s->t σ H Q →
  wpAny (model X.prog X.w) X.A (forIn ifs true λc r=>if r=true then do let ok <-isTrue c X.env (eval c X.env);pure (ForInStep.yield ok) else pure (ForInStep.yield r)) (TP X pins σ Q) X.xe s
def tYes:TT:=λ_ H Q=>Q true H
theorem Yc:PTs X [] tYes:=λ_ _ _ H _ I h=>wpAny_tests_nil ⟨H,I,h⟩
theorem To {c:Expr}{t:TT}(h:PT X c t):PTs X [c] t:=λpins s σ H Q I q=>wpAny_tests_one (h pins s σ H Q I q)
def Weaker (σ4 σ0:L2.St):Prop:=σ0.length=σ4.length/\∀ (i:Nat) (v:V),σ0[i]?=some (some v)->σ4[i]?=some (some v)
def tComp (wi:TI)(g:TG)(tt:TT)(te:TE)(k:Nat)(fv:List Nat):TE:=λσ H Q=>wi σ H λJ H1=>∀ d,H1 d=none->∃ (n:Nat) (W:Nat->List V->Hp->Prop),n<=sizeLine/\W 0 [] (upd H1 d (.lst [])) ∧
 (∀ i ys H2,i<n->W i ys H2->H2 d=some (.lst ys)->J.go i H2/\∀ x H3,J.yld i H2 x H3->g x (comp0 k fv σ) H3 λσ4 H4=>tt σ4 H4 λb H5 =>
  if b=true then te σ4 H5 λy H6=>H6 d=some (.lst ys)/\W (i+1) (ys++[y]) (upd H6 d (.lst (ys++[y]))) else H5 d=some (.lst ys)/\W (i+1) ys H5) ∧
 (∀ ys H2,W n ys H2->H2 d=some (.lst ys)->J.stop n H2/\Q (.ref d) H2)
theorem Ju {P:TM}{w:World}(x:HOk P w H h)(hn:H C=none)(k:∀ b,b≠C->h'.get? b=h.get? b):HOk P w H h':=λa o e =>
 (x a o e).stay (λb u hb q=>by
  rw[k b]
  ·exact q
  rintro rfl;rcases hb with rfl | hb
  ·rw[hn] at e;cases e
  rw[hn] at hb;cases hb) (λ_ q=>q) λ_ _ q=>q
theorem Gp {fs ex:TH}{h1 h2:Heap}(u:Un fs ex H H' h h1)(hC:h.get? C=none)(k:∀ b,b≠C->h2.get? b=h1.get? b):Un fs ex H H' h h2:=by
 have ne:∀ b o,h.get? b=some o->b≠C:=λb o e z=>by rw[z,hC] at e;cases e
 exact⟨λb o e n hf hx=>by rw[k b (ne b o e)];exact u.keep b o e n hf hx,λb o e n hf hx=>by rw[k b (ne b o e)];exact u.slot b o e n hf hx,u.free,λb o e hx=>by rw[k b (ne b o e)];exact u.there b o e hx,u.tups,u.frzs,u.tbls⟩
theorem G6:∀ (names:List (Str × NameKind)) (ox:Option Str) (n:Nat) (acc:List (Str × Addr)) (h:Heap),(names.filter λy=>y.2 == .cell)=ox.toList.map (λx=>(x,.cell))->cellsFrom n names acc=cellsO ox n acc/\pushCells h names=ox.elim h λ_=>h.push { cls:=.type "cell",data:=.cell none }:=by
 intro names
 induction names with
 | nil =>
  intro ox n acc h e
  cases ox with
  | none=>exact⟨rfl,rfl⟩
  | some x=>cases e
 | cons y r ih =>
  obtain⟨m,k⟩:=y;intro ox n acc h e;by_cases hk:(k == NameKind.cell)=true
  ·rw[List.filter_cons_of_pos (a:=(m,k)) (l:=r) (p:=λy:Str × NameKind=>y.2 == .cell) hk] at e
   cases ox with
   | none=>cases e
   | some x =>
    injection e with e1 e2
    cases e1;unfold cellsFrom pushCells;rw[XQ hk,XQ hk];exact ih none _ _ _ e2
  rw[List.filter_cons_of_neg (a:=(m,k)) (l:=r) (p:=λy:Str × NameKind=>y.2 == .cell) hk] at e;unfold cellsFrom pushCells;rw[XD hk,XD hk];exact ih ox n acc h e
theorem Dh {M:Model}{A:Around}{E:TB}{globals:Addr}{cl:List (Str × Addr)}{func:TK}{code:Value}{outer:Env}{builtins:Addr}{Q:Env->Shared->Prop}{ox:Option Str}
  (hone:(scope.names.filter λy=>y.2 == .cell)=ox.toList.map (λx=>(x,.cell)))
  (hQ:∀ h',h'.Ns s.heap.objs.size (λ_=>none)->(∀ x,ox=some x->h'.IsCell (s.heap.objs.size+1) none)->(∀ b o,s.heap.get? b=some o->h'.get? b=some o)->Q (newEnv scope s.heap.objs.size globals (cellsO ox (s.heap.objs.size+1) cl) qual func code (some outer) builtins) { s with heap:=h' }) :
  wpAny M A (newFunctionEnv scope globals cl [] qual func code (some outer) builtins) Q E s:=by
 simp only [newFunctionEnv,Option.isSome_some,zl];refine YA (wpAny_alloc ?_);refine YA (wpAny_layCells _ (λname kind cells=>by cases hkc:kind == NameKind.cell <;> simp[hkc]) _ _ _ _ ?_);have e:=JQ s.heap { cls:=.type "dict",data:=.dict #[] };obtain⟨c1,c2⟩:=G6 scope.names ox (s.heap.objs.size+1) cl (s.heap.push { cls:=.type "dict",data:=.dict #[] }) hone;rw[show ({ s with heap:=s.heap.push { cls:=.type "dict",data:=.dict #[] } }:Shared).heap.objs.size=s.heap.objs.size+1 from e,c1,c2];refine YA ?_;rw[qY];refine YD (YD (hQ _ ?_ ?_ ?_))
 ·cases ox
  ·exact Heap.Ns.new s.heap (.type "dict")
  exact (Heap.Ns.new s.heap (.type "dict")).keeps λb o e=>YB _ e
 ·rintro x rfl;rw[<-e];exact⟨_,YG _ rfl,rfl⟩
 intro b o q
 cases ox
 ·exact YB _ q
 exact YB _ (YB _ q)
theorem Q6 {ox:Option Str}{n:Addr}{cl:List (Str × Addr)}{y:Str}{c:Addr}(h:(cellsO ox n cl).lookup y=some c):(ox=some y/\c=n) \/ (ox≠some y/\cl.lookup y=some c):=by
 cases ox with
 | none=>exact .inr ⟨nofun,h⟩
 | some x =>
  replace h:((x,n)::cl).lookup y=some c:=h;rw[XU] at h
  cases hb:y == x with
  | true=>rw[hb] at h;cases h;exact .inl ⟨by rw[jn.mp hb],rfl⟩
  | false=>rw[hb] at h;exact .inr ⟨λz=>JO.mp hb (YR z).symm,h⟩
theorem Di {ox:Option Str}{n:Addr}{cl:List (Str × Addr)}{y:Str}(h:ox≠some y):(cellsO ox n cl).lookup y=cl.lookup y:=by
 cases ox with
 | none=>rfl
 | some x =>
  show ((x,n)::cl).lookup y=_;rw[XU,JO.mpr λz=>h (by rw[z])]
section
variable {X:Cx}{pins:TC}{σ:L2.St}{H:Hp}{s:Shared}{N:TD}{scope:Scope}{cl:List (Str × Addr)}{fp:TH}{k:Nat}{fv:List Nat}{ox:Option Str}
theorem G5 (I:Inv X pins σ H s)(hc:X.calm=true)(hf:∀ b∈fp,FpOk X pins H b)(hl:∀ b∈fp,b<s.heap.objs.size)(hkind:scope.kind=.function)(hone:(scope.names.filter λy=>y.2 == .cell)=ox.toList.map (λx=>(x,.cell)))
  (h1:∀ y c,cl.lookup y=some c->X.env.cells.lookup y=some c) (h2:∀ y∈scope.names,y.2=.free->∃ c,cl.lookup y.1=some c):(compCx X N scope ox cl s.heap.objs.size fp s H).Ok where
 mod:=I.ok.mod
 kind:=hkind
 glob:=I.ok.glob
 blt:=I.ok.blt
 above:=YE _
 inj:=λy z c a b=>by
  have old:∀ {n:Str} {d:Addr},cl.lookup n=some d->d<s.heap.objs.size:=λ{n d} e=>by
   obtain⟨v,ic⟩:=I.cell n d (h1 n d e);exact ic.lt
  rcases Q6 a with ⟨ey,ec⟩ | ⟨ny,a'⟩
  ·rcases Q6 b with ⟨ez,_⟩ | ⟨nz,b'⟩
   ·exact YR (ey.symm.trans ez)
   have:=old b';rw[ec] at this;exact absurd this (zQ.mpr (qT _))
  rcases Q6 b with ⟨ez,ec⟩ | ⟨nz,b'⟩
  ·have:=old a';rw[ec] at this;exact absurd this (zQ.mpr (qT _))
  exact I.ok.inj y z c (h1 y c a') (h1 z c b')
 has:=λz hz=>by
  have:∃ y∈scope.names,y.1=z/\(y.2=.free \/ y.2=.cell):=by
   rcases hz with q | q
   ·exact Xj (.inl rfl) q
   exact Xj (.inr rfl) q
  obtain⟨y,hy,e,q⟩:=this;by_cases hx:ox=some z
  ·refine⟨s.heap.objs.size+1,?_⟩;show (cellsO ox _ cl).lookup z=_;rw[hx];show ((z,_)::cl).lookup z=_;rw[XU,GT]
  rcases q with q | q
  ·obtain⟨c,hcl⟩:=h2 y hy q;exact⟨c,(Di hx).trans (by rw[<-e];exact hcl)⟩
  have m:y∈scope.names.filter λy=>y.2 == .cell:=qM.mpr ⟨hy,by rw[q];rfl⟩;rw[hone] at m;obtain⟨x,hx',rfl⟩:=JE.mp m;exact absurd ((Option.mem_toList.mp hx').trans (by rw[<-e])) hx
 cab:=λy c z e=>by
  rcases Q6 e with ⟨_,rfl⟩ | ⟨n,_⟩
  ·exact qT _
  cases ox with
  | none=>cases z
  | some x=>exact absurd (congrArg some (jn.mp z).symm) n
 hd:=λ_=>I.ok.hd hc
 frames:=I.ok.frames
 stk:=.inl rfl
 exf:=λb hb=>⟨YT (hl b hb),λy c e=>by
  rcases Q6 e with ⟨_,rfl⟩ | ⟨_,e⟩
  ·exact λz=>absurd (hl b hb) (zQ.mpr (by rw[<-z];exact qT _))
  exact (hf b hb).2.2.2.2.1 y c (h1 y c e)⟩
 bs:=I.bs
 bsz:=XA I.ok.bsz I.sz
 noex:=λb o e hb=>by
  rcases (hf b hb).2.2.2.1 with z | z
  ·exact I.ok.noex b o e z
  exact absurd (YN (YH (I.ok.bs b o e).1) z) (XO _)
 exfs:=λb hb z=>(YJ.mp (I.stkSub b z)).elim (λe=>(hf b hb).2.1 e) λe=>(hf b hb).2.2.1 e
 funs:=I.stack
 frf:=I.stkFree
 seen:=I.ok.seen
 dpt:=I.ok.dpt
theorem Kp (I:Inv X pins σ H s)(hc:X.calm=true)(hf:∀ b∈fp,FpOk X pins H b)(hl:∀ b∈fp,b<s.heap.objs.size)(hkind:scope.kind=.function)(hone:(scope.names.filter λy=>y.2 == .cell)=ox.toList.map (λx=>(x,.cell)))(hx:∀ y∈N.drop k,ox≠some y)
  (h1:∀ y c,cl.lookup y=some c->X.env.cells.lookup y=some c) (h2:∀ y∈scope.names,y.2=.free->∃ c,cl.lookup y.1=some c)
  (hN:N.length=k+fv.length) (hfv:fv.map (λj=>X.N[j]?)=(N.drop k).map some) (hk:(N.drop k).map X.env.kindOf=(N.drop k).map λ_=>some .cell) (hfl:∀ y∈N.drop k,scope.names.lookup y=some .free)
  {h':Heap} {tk:Nat} (hn:h'.Ns s.heap.objs.size λ_=>none) (hcn:∀ x,ox=some x->h'.IsCell (s.heap.objs.size+1) none) (hb:∀ b o,s.heap.get? b=some o->h'.get? b=some o) :
  Inv (compCx X N scope ox cl s.heap.objs.size fp s H) [] (comp0 k fv σ) H { s with heap:=h',toks:=tk } where
 ok:=G5 I hc hf hl hkind hone h1 h2
 os:=rfl
 bare:=I.bare
 base:=Un.kept hb
 loc:=⟨_,hn,λi y v e1 e2 e3=>by
  have hik:k<=i:=by
   apply GL;intro z;have:(comp0 k fv σ)[i]?=some none:=by
    unfold comp0;rw[qh (by simpa using z)];simp[z]
   rw[this] at e2
   cases e2
  obtain⟨j,rfl⟩:∃ j,i=k+j:=⟨i - k,U⟩;have e2':(fv.map λj=>σ.getD j none)[j]?=some (some v):=by
   have:(comp0 k fv σ)[k+j]?=(fv.map λj=>σ.getD j none)[j]?:=by
    unfold comp0;rw[GY J1];simp
   rw[<-this];exact e2
  rw[YI] at e2'
  cases hj:fv[j]? with
  | none=>rw[hj] at e2';cases e2'
  | some m =>
   rw[hj] at e2';have e4:σ.getD m none=some v:=YR e2';have e5:(N.drop k)[j]?=some y:=by rw[Y04];exact e1
   have e6:X.N[m]?=some y:=by
    have a:=congrArg (λl=>l[j]?) hfv;simp only [YI,hj,e5,zw] at a;exact YR a
   have e7:X.env.kindOf y=some .cell:=by
    have a:=congrArg (λl=>l[j]?) hk;simp only [YI,e5,zw] at a;exact YR a
   have e8:σ[m]?=some (some v):=by
    cases q:σ[m]? with
    | none=>rw[List.getD,q] at e4;cases e4
    | some o=>rw[List.getD,q] at e4;rw[show o=some v from e4]
   obtain⟨m0,hm0,hl0⟩:=I.loc;obtain⟨u,ru,lk⟩:=hl0 m y v e6 e8 (.inr (.inl e7));refine⟨u,ru,?_⟩;rcases lk with ⟨z,_⟩ | ⟨_,c,hcc,ic⟩
   ·rw[e7] at z;cases z
   have mem:y∈N.drop k:=YO e5;have fr:=hfl y mem;obtain⟨c',hc'⟩:=h2 (y,.free) (Pc fr) rfl;have ec:=h1 y c' hc';rw[hcc] at ec
   cases ec;refine .inr ⟨.inl (Wj I.ok.kind fr e7),c,(Di (hx y mem)).trans hc',?_⟩;obtain⟨o,ho,hd⟩:=ic;exact⟨o,hb _ _ ho,hd⟩⟩
 cell:=λy c e=>by
  rcases Q6 e with ⟨z,rfl⟩ | ⟨_,e⟩
  ·exact⟨_,hcn y z⟩
  obtain⟨v,o,ho,hd⟩:=I.cell y c (h1 y c e);exact⟨v,o,hb _ _ ho,hd⟩
 free:=I.hok.fresh (YE _)
 freeC:=λy c e=>by
  rcases Q6 e with ⟨_,rfl⟩ | ⟨_,e⟩
  ·exact I.hok.fresh (qT _)
  exact I.freeC y c (h1 y c e)
 pin:=λp hp=>by
  obtain⟨a1,a2,a3,a4,a5⟩:=I.pin p (YW _ ((YY.mp hp).elim id λz=>nomatch z));exact⟨hb _ _ a1,a2,YT (YH a1),λz=>(YJ.mp (I.stkSub p.1 z)).elim a3 a4,a5⟩
 hok:=I.hok.kept hb
 len:=by
  show (comp0 k fv σ).length=N.length;unfold comp0;simp[hN]
end
section
variable {X:Cx}
theorem Ub {elt iter tg:Expr}{ifs:TJ}{scope:Scope}{pos:Pos}{g:TG}{tt:TT}{te:TE}{N:TD}{k:Nat}{fv:List Nat}{cl:List (Str × Addr)}{ox:Option Str}
  {pins:TC} {σ:L2.St} {H:Hp} {s:Shared} {it:Addr} {fp:TH} {tn:Nat->Heap->Prop} {J:It} {Q:VK} {RR:Value->Addr->Result->Shared->Prop} {E:TB}
  (hc:X.calm=true) (hg:∀ cl C fp s H,PG (compCx X N scope ox cl C fp s H) tg g) (ht:∀ cl C fp s H,PTs (compCx X N scope ox cl C fp s H) ifs tt) (he:∀ cl C fp s H,PE (compCx X N scope ox cl C fp s H) elt te)
  (hw:∀ r x H Q,g x (List.replicate k none++r) H Q->g x (List.replicate k none++r) H λσ4 H4=>Q σ4 H4/\Weaker σ4 (List.replicate k none++r))
  (hN:N.length=k+fv.length) (hfv:fv.map (λj=>X.N[j]?)=(N.drop k).map some) (hk:(N.drop k).map X.env.kindOf=(N.drop k).map λ_=>some .cell) (hfl:∀ y∈N.drop k,scope.names.lookup y=some .free)
  (hone:(scope.names.filter λy=>y.2 == .cell)=ox.toList.map (λx=>(x,.cell))) (hx0:∀ y∈N.drop k,ox≠some y) (hkind:scope.kind=.function) (h1:∀ y c,cl.lookup y=some c->X.env.cells.lookup y=some c) (h2:∀ y∈scope.names,y.2=.free->∃ c,cl.lookup y.1=some c)
  (I:Inv X pins σ H s) (T:Turn X.prog X.w X.K tg J fp it tn) (st:tn 0 s.heap) (f:∀ b∈fp,FpOk X pins H b)
  (body:∀ d,H d=none->∃ (n:Nat) (W:Nat->List V->Hp->Prop),n<=sizeLine/\W 0 [] (upd H d (.lst [])) ∧
   (∀ i ys H2,i<n->W i ys H2->H2 d=some (.lst ys)->J.go i H2/\∀ x H3,J.yld i H2 x H3->g x (comp0 k fv σ) H3 λσ4 H4=>tt σ4 H4 λb H5 =>
    if b=true then te σ4 H5 λy H6=>H6 d=some (.lst ys)/\W (i+1) (ys++[y]) (upd H6 d (.lst (ys++[y]))) else H5 d=some (.lst ys)/\W (i+1) ys H5) ∧
   (∀ ys H2,W n ys H2->H2 d=some (.lst ys)->J.stop n H2/\Q (.ref d) H2))
  (hR:∀ (D C:Addr) (H':Hp) (s':Shared),(∃ m,s'.heap.Ns C m)->FpOk X pins H' C->Q (.ref D) H'->(∀ h',Heap.SameBut C s'.heap h'->Inv X pins σ H' { s' with heap:=h' })->RR (.ref D) C (.ok .next) s') :
  wpAny (model X.prog X.w) X.A (newList []) (λacc s3=>wpAny (model X.prog X.w) X.A (newFunctionEnv scope X.env.globals cl [] X.env.qual none .none (some X.env)) (λcenv s4 =>
   codeAny (model X.prog X.w) X.A (.compStart (.ListComp elt [⟨tg,iter,ifs,0⟩] scope pos) 0 (.ref it) acc { cenv with scope:=relabel scope X.env }) (RR acc cenv.locals) s4) E s3) E s:=by
 refine JA ?_;have I3:=I.lnew (its:=[]) (ys:=[]) (t':=s.toks) .nil (JH _);have fresh:=I.fresh;generalize hD:s.heap.objs.size=D at I3 fresh ⊢;have f3:∀ b∈fp,FpOk X pins (upd H D (.lst [])) b:=λb hb=>by
  refine⟨?_,(f b hb).2⟩;have hne:b≠D:=by
   obtain⟨o,e,_⟩:=T.obj 0 _ st b hb;rw[<-hD];exact YT (YH e)
  rw[Zi hne];exact (f b hb).1
 have up3:∀ b o,s.heap.get? b=some o->(s.heap.push { cls:=.type "list",data:=.seq ([]:TF).toArray }).get? b=some o:=λb o e=>YB _ e;have st3:tn 0 (s.heap.push { cls:=.type "list",data:=.seq ([]:TF).toArray }):=T.keep 0 _ _ st λb _ o e=>up3 b o e;have hl3:∀ b∈fp,b<(s.heap.push { cls:=.type "list",data:=.seq ([]:TF).toArray }).objs.size:=λb hb=>by
  obtain⟨o,e,_⟩:=T.obj 0 _ st3 b hb;exact YH e
 obtain⟨n,W,hn,w0,step,fin⟩:=body D fresh;generalize hS3:({ s with heap:=s.heap.push { cls:=.type "list",data:=.seq ([]:TF).toArray },toks:=s.toks }:Shared)=s3 at I3;have eS3:s3.heap=s.heap.push { cls:=.type "list",data:=.seq ([]:TF).toArray }:=by rw[<-hS3]
 rw[<-eS3] at st3 hl3;refine Dh hone (λh4 hns hcn old=>?_);have I4:=Kp (N:=N) (tk:=s3.toks) I3 hc f3 hl3 hkind hone hx0 h1 h2 hN hfv hk hfl (h':=h4) hns hcn old;have st4:tn 0 h4:=T.keep 0 _ _ st3 λb _ o e=>old b o e;have hCn:s3.heap.get? s3.heap.objs.size=none:=by
  cases e:s3.heap.get? s3.heap.objs.size with
  | none=>rfl
  | some o=>exact absurd (YH e) (XO _)
 generalize hC:s3.heap.objs.size=C at I4 hCn ⊢;have stat:∀ {H':Hp} {ps:TC},(∀ b∈fp,H' b=none)->(∀ p∈ps,p.1 ∉ fp)->∀ b∈fp,FpOk (compCx X N scope ox cl C fp s3 (upd H D (.lst []))) ps H' b:=λ{H' ps} hn hp b hb =>
  ⟨hn b hb,by rw[<-hC];exact YT (hl3 b hb),λz=>(YJ.mp (I3.stkSub b z)).elim (λe=>(f3 b hb).2.1 e) λe=>(f3 b hb).2.2.1 e,.inl hb,λx c e=>(Q6 e).elim (λz q=>absurd (hl3 b hb) (zQ.mpr (by rw[<-q,z.2,<-hC];exact qT _))) (λz=>(f3 b hb).2.2.2.2.1 x c (h1 x c z.2)),λp q z=>(YY.mp q).elim (λq=>(f3 b hb).2.2.2.2.2 p (YW _ q) z) λq=>hp p q (by rw[z];exact hb)⟩
 have loop:∀ s4:Shared,s4={ s3 with heap:=h4,toks:=s3.toks } →
   codeAny (model X.prog X.w) X.A (.compLoop (.ListComp elt [⟨tg,iter,ifs,0⟩] scope pos) 0 (.ref it) (.ref D) (compEnvC scope (cellsO ox (C+1) cl) C X.env)) (RR (.ref D) C) s4:=by
  rintro s4 rfl;refine Mv (λm s'=>∃ i ys H',Inv (compCx X N scope ox cl C fp s3 (upd H D (.lst []))) [] (comp0 k fv σ) H' s'/\tn i s'.heap/\(∀ b∈fp,H' b=none)/\i<=n/\m=n+1 - i/\ys.length<=i/\H' D=some (.lst ys)/\W i ys H') ?_ (n+1)
   ⟨0,[],_,I4,st4,λb hb=>(f3 b hb).1,JH _,rfl,YE _,Z5,w0⟩
  rintro m s5 ⟨i,ys,H5,I5,st5,fr5,hi,rfl,hys,hD5,w5⟩;by_cases hlt:i<n
  ·obtain⟨go,stp⟩:=step i ys H5 hlt w5 hD5;refine thn (T.item (compCx X N scope ox cl C fp s3 (upd H D (.lst []))) rfl rfl rfl rfl i [] s5 _ H5 noX I5 (stat fr5 J1) st5 go) λr s6 ⟨u,er,h6⟩=>?_;subst er;refine thn h6 λ_ s7 ⟨x,H7,I7,r7,y7,st7,fr7⟩=>?_;have I7':=I7.pinned (stat fr7 J1) (T.obj _ _ st7);refine thn (hg cl C fp s3 _ _ s7 _ H7 x u _ I7' r7 (hw _ x H7 _ (stp x H7 y7))) λ_ s8 ⟨σ8,H8,I8,q8,wk⟩=>?_;refine thn (ht cl C fp s3 _ _ s8 σ8 H8 _ I8 q8) λok s9 ⟨H9,I9,q9⟩=>?_;have back:∀ {σ':L2.St} {H':Hp} {s':Shared},Inv (compCx X N scope ox cl C fp s3 (upd H D (.lst []))) ([]++pinsAt fp s7.heap) σ' H' s'->Weaker σ' (comp0 k fv σ) →
     Inv (compCx X N scope ox cl C fp s3 (upd H D (.lst []))) [] (comp0 k fv σ) H' s'/\tn (i+1) s'.heap/\∀ b∈fp,H' b=none:=λ{σ' H' s'} I' wk'=>by
    refine⟨I'.unpinned.weak wk'.1 wk'.2,T.keep _ _ _ st7 λb hb o e=>(I'.pin (b,o) (XN _ (XN _ (Xp hb e)))).1,λb hb=>?_⟩;obtain⟨o,e,_⟩:=T.obj _ _ st7 b hb;exact (I'.pin (b,o) (XN _ (XN _ (Xp hb e)))).2.1
   cases ok with
   | false =>
    rw[XD YM] at q9 ⊢;obtain⟨hD9,w9⟩:=q9;obtain⟨a1,a2,a3⟩:=back I9 wk;exact⟨n+1 - (i+1),U,i+1,ys,H9,a1,a2,a3,hlt,rfl,Nat.le_succ_of_le hys,hD9,w9⟩
   | true =>
    rw[XQ rfl] at q9 ⊢;refine thn (he cl C fp s3 _ _ s9 σ8 H9 _ I9 q9) λy s10 ⟨yv,H10,I10,r10,hD10,w10⟩=>?_;refine thn (Ys _ s10 σ8 H10 (.ref D) [yv] (.ref D) [y] (λ_ H'=>H'=upd H10 D (.lst (ys++[yv]))) I10 rfl (.cons r10 .nil) ⟨D,ys,yv,rfl,rfl,hD10,JC hys (YN hlt hn),rfl⟩) λ_ s11 ⟨_,H11,I11,_,e11⟩=>?_;subst e11;obtain⟨a1,a2,a3⟩:=back I11 wk;exact⟨n+1 - (i+1),U,i+1,ys++[yv],_,a1,a2,a3,hlt,rfl,by rw[XF];show ys.length+1<=i+1;omega,Z5,w10⟩
  obtain rfl:i=n:=zx hi (zQ.mp hlt);obtain⟨stop,q⟩:=fin ys H5 w5 hD5;refine thn (T.done (compCx X N scope ox cl C fp s3 (upd H D (.lst []))) rfl rfl rfl rfl i [] s5 _ H5 noX I5 (stat fr5 J1) st5 stop) λr s6 ⟨er,I6⟩=>?_;subst er;refine hR D C H5 s6 ?_ (I3.fpOk (by rw[hC];exact YE _) I6.free) q λh' hs'=>?_
  ·obtain⟨m,hm,_⟩:=I6.loc;exact⟨m,hm⟩
  have hs2:∀ b,b≠C->h'.get? b=s6.heap.get? b:=λb hb=>hs'.2 b hb;refine I3.call' (s':={ s6 with heap:=h' }) (ch:=fp) ?_ (Gp I6.base hCn hs2) (Ju I6.hok I6.free hs2) I6.bare λb hb=>?_
  ·exact I6.os
  exact⟨(f3 b hb).2.2.2.1,(f3 b hb).2.1,(f3 b hb).2.2.2.2.1,(f3 b hb).2.2.2.2.2⟩
 exact codeAny_compStart_list (loop _ rfl) (T.self _ 0 _ _ _ st4 (loop _ rfl))
theorem Ye {elt iter:Expr}{ifs:TJ}{pos:Pos}{wi:TI}{k:Nat}{fv:List Nat}{ox:Option Str}
  (hc:X.calm=true) (hi:PI X tg iter wi) (hg:∀ cl C fp s H,PG (compCx X N scope ox cl C fp s H) tg g) (ht:∀ cl C fp s H,PTs (compCx X N scope ox cl C fp s H) ifs tt) (he:∀ cl C fp s H,PE (compCx X N scope ox cl C fp s H) elt te)
  (hw:∀ r x H Q,g x (List.replicate k none++r) H Q->g x (List.replicate k none++r) H λσ4 H4=>Q σ4 H4/\Weaker σ4 (List.replicate k none++r))
  (hN:N.length=k+fv.length:=by rfl) (hfv:fv.map (λj=>X.N[j]?)=(N.drop k).map some:=by rfl) (hk:(N.drop k).map X.env.kindOf=(N.drop k).map (λ_=>some .cell):=by rfl)
  (hfl:∀ y∈N.drop k,scope.names.lookup y=some .free:=by decide +kernel) (hfr:∀ y∈scope.names,y.2=.free->y.1∈N.drop k:=by decide +kernel)
  (hone:(scope.names.filter λy=>y.2 == .cell)=ox.toList.map (λx=>(x,.cell)):=by decide +kernel) (hx0:∀ y∈N.drop k,ox≠some y:=by decide +kernel) (hkind:scope.kind=.function:=by rfl) (hnames:∀ y∈scope.names,y.2=.local->scope.names.lookup y.1=some .local:=by decide +kernel)
  (hs:∀ x,foldedSetIterable iter X.env x=pure x:=by intro _;rfl):PE X (.ListComp elt [⟨tg,iter,ifs,0⟩] scope pos) (tComp wi g tt te k fv):=by
 intro pins s σ H Q I h;have kc:∀ y∈N.drop k,X.env.kindOf y=some .cell:=λy hy=>by
  obtain⟨j,hj⟩:=qG hy;have a:=congrArg (λl=>l[j]?) hk;simp only [YI,hj,zw] at a;exact YR a
 obtain⟨cl,hclos,h1,h2⟩:=W6 (env:=X.env) (scope:=scope) λy hy hf=>I.ok.has y.1 (.inl (kc y.1 (hfr y hy hf)));rw[eval_ListComp];refine j7 (use:=none) rfl hs hclos hkind hnames (thn (hi pins s σ H _ I h) λxv s1 h1'=>thn h1' λitv s2 h2'=>?_);obtain⟨it,fp,tn,J,H2,e,I2,T,st2,f2,body⟩:=h2';subst e;exact Ub (RR:=λacc C=>compPost (model X.prog X.w) X.A X.xe none (EP X pins σ Q) acc C) hc hg ht he hw hN hfv hk hfl hone hx0 hkind h1 h2 I2 T st2 f2 body λD C H' s' ⟨m,hm⟩ _ q iv=>⟨m,hm,λh' hs'=>⟨.ref D,H',iv h' hs',rfl,q⟩⟩
theorem Zt:∀ (r:L2.St) (x:V) (H:Hp) (Q:L2.St->Hp->Prop),gName 0 x (List.replicate 1 none++r) H Q->gName 0 x (List.replicate 1 none++r) H λσ4 H4=>Q σ4 H4/\Weaker σ4 (List.replicate 1 none++r):=λr x H Q h =>
 ⟨h,J1,λi v e=>by
  cases i with
  | zero=>cases e
  | succ j=>exact e⟩
end
theorem Yx {x:V}{σ:L2.St}{A B:L2.St->Hp->Prop}(h:A (σ.set 0 (some x)) H):gName 0 x σ H λσ4 H4=>tYes σ4 H4 λb H5=>if b=true then A σ4 H5 else B σ4 H5:=by
 show if true=true then A (σ.set 0 (some x)) H else B (σ.set 0 (some x)) H
 exact Wb h
section
variable {X:Cx}{K:TL}
theorem Gm (h:X.K=K:=by rfl):IxR X (rIxL K):=h ▸ Y1
end
theorem Q1 {x:V}{σ:L2.St}{A B:L2.St->Hp->Prop}{t:TT}(h:t (σ.set 0 (some x)) H λb H5=>if b=true then A (σ.set 0 (some x)) H5 else B (σ.set 0 (some x)) H5) :
  gName 0 x σ H λσ4 H4=>t σ4 H4 λb H5=>if b=true then A σ4 H5 else B σ4 H5:=h
theorem L3 (bs:List Bool):(List.range bs.length).any (λi=>bs.getD i false)=bs.any id:=by
 induction bs with
 | nil=>rfl
 | cons b r ih =>
  rw[YS,jp,qK,Y06,qK,<-ih];rfl
section
variable {X:Cx}
theorem L1 (hc:X.calm=true):CallR X (.builtin "any") (λxs H Q=>∃ (p:Addr) (bs:List Bool),xs=[.ref p]/\SqL X.K H p (bs.map V.bl)/\Q (.bl (bs.any id)) H):=by
 intro pins s σ H xs us Q I r h;obtain⟨p,bs,rfl,hs,q⟩:=h;obtain⟨u,e0,rx⟩:=X8 r
 cases (show u=Value.ref p from rx);subst e0;obtain⟨its,rv,pl,hz⟩:=I.list hs;have hl:=rv.length;rw[YC] at hl;have lp:s.heap.IsList p its.toArray:=pl.isList;have lt:p<s.heap.objs.size:=by
  obtain⟨o,e,_⟩:=lp;exact YH e
 have ip:∀ p∈X.pn,s.heap.get? p.1=some p.2:=λp hp=>(I.pin p (YW _ hp)).1;refine call_any_walk (qB lp ?_);refine⟨s.heap.objs.size,_,_,_,_,_,λi=>bs.getD i false,rfl,Walks.listQ (A:=X.A.in1) (I.ok.hd hc) s.heap.objs.size p (YT lt) (λp hp=>YT (YH (ip p hp))) its.toArray,⟨⟨_,YG _ rfl,rfl,rfl⟩,lp.push _,λp hp=>YB _ (ip p hp)⟩,?_,λh' tk k=>?_⟩
 ·intro i v s' Q' E' hP hQ;have hi:i<its.length:=by
   have:=(GZ.mp hP).1
   simpa using this
  have hb:i<bs.length:=U
  have e1:(bs.map V.bl)[i]?=some (V.bl bs[i]):=by simp[hb]
  obtain⟨w,e2,rw'⟩:=rv.get e1;have e3:its[i]?=some v:=by simpa using hP
  rw[e2] at e3
  cases e3
  cases (show v=Value.bool bs[i] from rw');have e4:bs.getD i false=bs[i]:=by simp[List.getD,hb]
  replace hQ:Q' (bs.getD i false) s':=hQ;rw[e4] at hQ;exact JL hQ
 have e:(List.range its.toArray.size).any (λi=>bs.getD i false)=bs.any id:=by
  rw[YF,<-hl];exact L3 bs
 rw[e];refine⟨.bl (bs.any id),H,?_,rfl,q⟩;exact I.kept (t':=tk) λb o z=>k b o (by
  intro m;have:b=s.heap.objs.size:=by simpa using m
  rw[this] at z;exact absurd (YH z) (XO _)) (YB _ z)
end
end Sb
namespace Sb
open PySem PySem.Builtin.SmallTypes
def kN (l:Bool):String:=cond l "list" "tuple"
def kI (l:Bool):String:=cond l "list_iterator" "tuple_iterator"
def Iq (l:Bool)(h:Heap)(a:Addr)(ys:Array Value):Prop:=∃ o,h.get? a=some o/\o.cls=.type (kN l)/\∃ n,o.data=.seq ys n
def Ir (l:Bool)(h:Heap)(a t:Addr)(i:Nat):Prop:=∃ o,h.get? a=some o/\o.cls=.type (kI l)/\o.data=.fields #[.ref t,.int i 0]
section
variable {prog:TM}{w:World}{A:Around}{E:TB}{s:Shared}
theorem Q0 {it t:Addr}{j:Nat}{ys:Array Value}{Q:TB}(hq:Qt A s.heap)(ti:s.heap.IsTupleIter it t j)(tt:s.heap.IsTuple t ys)
  (hQ:∀ y,ys[j]?=some y->∀ h',h'.IsTupleIter it t (j+1)->Heap.SameBut it s.heap h'->Q y { s with heap:=h' })
  (hE:ys[j]?=none->∀ h' e,Heap.ExtBut it s.heap h'->(∃ o,h'.get? e=some o/\o.cls=.type "StopIteration")->E (.ref e) { s with heap:=h' }):wpAny (model prog w) A (nextOf (.ref it)) Q E s:=by
 obtain⟨oi,ei,ci,di⟩:=id ti;obtain⟨ot,et,_,nt,dt⟩:=tt;unfold nextOf;refine YA (XH (name:=Str.ofString "__next__") ti.typeIs GW (XR GW ti.typeIs zG ?_ (zr _)));show wpAny _ _ (field (.ref it) 0 >>= _) _ _ _;refine YA (XB ei di (x:=.ref t) rfl ?_);show wpAny _ _ (if (Value.ref t == Value.none)=true then _ else _) _ _ _;rw[XD (show ¬ ((Value.ref t == Value.none)=true) from λq=>YM q)];show wpAny _ _ (field (.ref it) 1 >>= _) _ _ _;refine YA (XB ei di (x:=.int j 0) rfl ?_);show wpAny _ _ (seqItems? (.ref t) >>= _) _ _ _;refine YA (JJ et dt ?_)
 cases ey:ys[j]? with
 | some y =>
  simp only [GN,ey];refine YA (qE ei di J1 (YD ⟨y,rfl,YD (hQ y ey _ ?_ (JD ..))⟩));refine⟨_,GG _ ei (Obj.isFreed_of_fields (zJ di _)),(Obj.cls_mapFields ..).trans ci,?_⟩;rw[zJ di];simp[rawInt]
 | none =>
  simp only [GN,ey];refine YA (GJ (YA (qE ei di J1 ?_)));refine Wz (hq:=(hq.but ei λn=>?_)) λh' e k he=>hE ey _ _ (λb o hb e=>k b o ((JD ..).extBut b o hb e)) he;obtain⟨vs,e1,e2⟩:=n;rw[di] at e1
  cases e1;simp at e2
theorem Mr {qs:TC}(hq:QtP A qs)(it t:Addr)(ne:t≠it)(hqs:∀ p∈qs,p.1≠it)(ys:Array Value) :
  Draws prog w A it (it::t::qs.map Prod.fst) ys.size (λi x=>ys[i]?=some x) (λi h=>h.IsTupleIter it t i/\h.IsTuple t ys/\∀ p∈qs,h.get? p.1=some p.2) where
 live:=λi h st=>by
  obtain⟨⟨o,e,_⟩,_⟩:=st;exact⟨o,e⟩
 frame:=λi h h' st k=>by
  obtain⟨⟨o,e,r⟩,⟨o',e',r'⟩,st⟩:=st;exact⟨⟨o,k it J1 o e,r⟩,⟨o',k t J1 o' e',r'⟩,λp hp=>k p.1 (by simp;exact .inr (.inr ⟨p.2,hp⟩)) p.2 (st p hp)⟩
 item:=λi s Q E lt st hQ=>Q0 (hq.at st.2.2) st.1 st.2.1 (λy ey h' a b=>hQ _ h' s.toks ey ⟨a,st.2.1.extBut b.extBut ne,λp hp=>b.extBut p.1 p.2 (hqs p hp) (st.2.2 p hp)⟩ b) λz=>by
  rw[JI lt] at z
  cases z
 done:=λs Q E st hE=>Q0 (hq.at st.2.2) st.1 st.2.1 (λy ey=>by
  rw[jq (YE _)] at ey
  cases ey) λ_=>hE
theorem Sm (l:Bool){qs:TC}(hq:QtP A qs)(it t:Addr)(ne:t≠it)(hqs:∀ p∈qs,p.1≠it)(ys:Array Value) :
  Draws prog w A it (it::t::qs.map Prod.fst) ys.size (λi x=>ys[i]?=some x) (λi h=>Ir l h it t i/\Iq l h t ys/\∀ p∈qs,h.get? p.1=some p.2):=by
 cases l
 ·exact Mr hq it t ne hqs ys
 exact Draws.listQ hq it t ne hqs ys
theorem U3 {l:Bool}{ys:Array Value}{Q:TB}(hl:Iq l s.heap t ys)(hQ:Q (.ref s.heap.objs.size) { s with heap:=s.heap.push { cls:=.type (kI l),data:=.fields #[.ref t,.int 0 0] } }):wpAny (model prog w) A (pyIter (.ref t)) Q E s:=by
 cases l
 ·exact wpAny_pyIter_tuple hl hQ
 exact qB hl hQ
end
structure ZOff (z TI TO i1 i2:Addr):Prop where
 a1:TI≠z
 a2:TO≠z
 a3:i1≠z
 a4:i2≠z
 a5:TI≠TO
 a6:TI≠i1
 a7:TI≠i2
 a8:TO≠i1
 a9:TO≠i2
 b1:i1≠i2
structure Off (z TI TO i1 i2:Addr)(f1 f2:TH):Prop extends ZOff z TI TO i1 i2 where
 z1:z ∉ f1
 o1:TO ∉ f1
 n1:i2 ∉ f1
 z2:z ∉ f2
 o2:TO ∉ f2
 n2:i1 ∉ f2
section
variable {prog:TM}{w:World}{A:Around}{E:TB}{s:Shared}{z TI TO i1 i2:Addr}{f1 f2:TH}{n1 n2:Nat}{P1 P2:Nat->Value->Prop}{S1 S2:Nat->Heap->Prop}
theorem No {k:Nat}{a b:Value}{Q:TB}(D:Off z TI TO i1 i2 f1 f2)(D1:Draws prog w A i1 f1 n1 P1 S1)(D2:Draws prog w A i2 f2 n2 P2 S2)
  (hz:IsZip s.heap z TI TO .none) (hTI:IsPair s.heap TI (.ref i1) (.ref i2)) (hTO:IsPair s.heap TO a b) (c1:S1 k s.heap) (c2:S2 k s.heap) (l1:k<n1) (l2:k<n2)
  (hQ:∀ x y h' tk,P1 k x->P2 k y->IsZip h' z TI TO (rawInt s.heap.objs.size)->IsPair h' TO x y->S1 (k+1) h'->S2 (k+1) h'->IsPair h' s.heap.objs.size x y->h'.objs.size=s.heap.objs.size+1 →
   (∀ c o,c≠z->c≠TO->c≠i1->c≠i2->s.heap.get? c=some o->h'.get? c=some o)->Q (.ref s.heap.objs.size) { s with heap:=h',toks:=tk }) :
  wpAny (model prog w) A (Builtin.«zip.__next__» ⟨[.ref z],[]⟩) (λfin s'=>∃ v,fin=.done (.ret v)/\Q v s') E s:=by
 show wpAny _ _ (field (.ref z) 2 >>= _) _ _ _;refine YA (XB hz rfl (x:=.bool false) rfl ?_);show wpAny _ _ (field (.ref z) 3 >>= _) _ _ _;refine YA (XB hz rfl (x:=.ref TI) rfl ?_);refine YA (JJ hTI rfl ?_);show wpAny _ _ (ownedTupleIsFree (.ref z) >>= _) _ _ _;refine YA ?_;unfold ownedTupleIsFree;refine YA (XB hz rfl (x:=.none) rfl (YD ?_));simp only [zl];refine YA (GJ ?_);refine YA (XB hz rfl (x:=.ref TO) rfl ?_);refine YA (XY hz J1 λg1 z1 s1=>?_);replace z1:IsZip g1 z TI TO .ellipsis:=z1;refine YA ?_;simp only [List.zipIdx_cons,List.zipIdx_nil,GP,qY];refine YA (YA (jY ?_));show wpAny _ _ (nextOf (.ref i1) >>= _) _ _ _;have c11:S1 k g1:=D1.frame _ _ _ c1 λb hb o e=>s1.extBut b o (λq=>D.z1 (q ▸ hb)) e;refine YA (D1.item k _ _ _ l1 c11 λx g2 tk2 p1 c12 s2=>YD ?_);replace s2:Heap.SameBut i1 g1 g2:=s2;have t2:IsPair g2 TO a b:=s2.extBut _ _ D.a8 (s1.extBut _ _ D.a2 hTO);refine YA (JJ t2 rfl ?_);refine YA (wpAny_updateSeq_pair t2 λg3 t3 s3=>?_);replace t3:IsPair g3 TO x b:=t3;replace s3:Heap.SameBut TO g2 g3:=s3;refine YA (wpAny_letGo (YD ?_));refine YA (YA (jY ?_));show wpAny _ _ (nextOf (.ref i2) >>= _) _ _ _;have c23:S2 k g3:=D2.frame _ _ _ c2 λb hb o e=>s3.extBut b o (λq=>D.o2 (q ▸ hb)) (s2.extBut b o (λq=>D.n2 (q ▸ hb)) (s1.extBut b o (λq=>D.z2 (q ▸ hb)) e));have c13:S1 (k+1) g3:=D1.frame _ _ _ c12 λb hb o e=>s3.extBut b o (λq=>D.o1 (q ▸ hb)) e;refine YA (D2.item k _ _ _ l2 c23 λy g4 tk4 p2 c24 s4=>YD ?_);replace s4:Heap.SameBut i2 g3 g4:=s4;have t4:IsPair g4 TO x b:=s4.extBut _ _ D.a9 t3;refine YA (JJ t4 rfl ?_);refine YA (wpAny_updateSeq_pair t4 λg5 t5 s5=>?_);replace t5:IsPair g5 TO x y:=t5;replace s5:Heap.SameBut TO g4 g5:=s5;refine YA (wpAny_letGo (YD (YD ?_)));refine YA (JJ t5 rfl ?_);refine YA (wpAny_newTuple ?_);have sz:g5.objs.size=s.heap.objs.size:=by rw[s5.1,s4.1,s3.1,s2.1,s1.1]
 have z5:IsZip g5 z TI TO .ellipsis:=s5.extBut _ _ D.a2.symm (s4.extBut _ _ D.a4.symm (s3.extBut _ _ D.a2.symm (s2.extBut _ _ D.a3.symm z1)));have k5:∀ c o,c≠z->c≠TO->c≠i1->c≠i2->s.heap.get? c=some o->g5.get? c=some o:=λc o q1 q2 q3 q4 e =>
  s5.extBut _ _ q2 (s4.extBut _ _ q4 (s3.extBut _ _ q2 (s2.extBut _ _ q3 (s1.extBut _ _ q1 e))))
 have c15:S1 (k+1) g5:=D1.frame _ _ _ c13 λb hb o e=>s5.extBut b o (λq=>D.o1 (q ▸ hb)) (s4.extBut b o (λq=>D.n1 (q ▸ hb)) e);have c25:S2 (k+1) g5:=D2.frame _ _ _ c24 λb hb o e=>s5.extBut b o (λq=>D.o2 (q ▸ hb)) e;have zlt:z<g5.objs.size:=YH z5;show wpAny _ _ (ownedTupleHandOut (.ref z) (.ref g5.objs.size) >>= _) _ _ _;refine YA ?_;unfold ownedTupleHandOut;have z6:IsZip (g5.push { cls:=.type "tuple",data:=.seq #[x,y] }) z TI TO .ellipsis:=YB _ z5;refine YA (XY z6 J1 λg7 z7 s7=>?_);replace z7:IsZip g7 z TI TO (rawInt g5.objs.size):=z7;refine XY z7 J1 λg8 z8 s8=>?_;replace z8:IsZip g8 z TI TO (rawInt g5.objs.size):=z8;have up:∀ c o,c≠z->g5.get? c=some o->g8.get? c=some o:=λc o q e=>s8.extBut _ _ q (s7.extBut _ _ q (YB _ e));have t8:IsPair g8 g5.objs.size x y:=s8.extBut _ _ (qX zlt) (s7.extBut _ _ (qX zlt) (YG _ rfl));have sz8:g8.objs.size=g5.objs.size+1:=by rw[s8.1,s7.1,JQ]
 rw[sz] at z8 t8 sz8;refine YD ⟨_,rfl,?_⟩;show Q (.ref g5.objs.size) _;rw[sz];exact hQ x y g8 tk4 p1 p2 z8 (up _ _ D.a2 t5) (D1.frame _ _ _ c15 λb hb o e=>up b o (λq=>D.z1 (q ▸ hb)) e) (D2.frame _ _ _ c25 λb hb o e=>up b o (λq=>D.z2 (q ▸ hb)) e) t8 sz8
  λc o q1 q2 q3 q4 e=>up c o q1 (k5 c o q1 q2 q3 q4 e)
theorem Nn {k:Nat}{a b:Value}{Q:Fin->Shared->Prop}(D:Off z TI TO i1 i2 f1 f2)(D1:Draws prog w A i1 f1 n1 P1 S1)(hz:IsZip s.heap z TI TO .none)(hTI:IsPair s.heap TI (.ref i1) (.ref i2))(c1:S1 n1 s.heap)
  (hE:∀ h' e,(∀ c o,c≠z->c≠i1->s.heap.get? c=some o->h'.get? c=some o)->(∃ o,h'.get? e=some o/\o.cls=.type "StopIteration")->E (.ref e) { s with heap:=h' }) :
  wpAny (model prog w) A (Builtin.«zip.__next__» ⟨[.ref z],[]⟩) Q E s:=by
 show wpAny _ _ (field (.ref z) 2 >>= _) _ _ _;refine YA (XB hz rfl (x:=.bool false) rfl ?_);show wpAny _ _ (field (.ref z) 3 >>= _) _ _ _;refine YA (XB hz rfl (x:=.ref TI) rfl ?_);refine YA (JJ hTI rfl ?_);show wpAny _ _ (ownedTupleIsFree (.ref z) >>= _) _ _ _;refine YA ?_;unfold ownedTupleIsFree;refine YA (XB hz rfl (x:=.none) rfl (YD ?_));simp only [zl];refine YA (GJ ?_);refine YA (XB hz rfl (x:=.ref TO) rfl ?_);refine YA (XY hz J1 λg1 z1 s1=>?_);replace z1:IsZip g1 z TI TO .ellipsis:=z1;refine YA ?_;simp only [List.zipIdx_cons,List.zipIdx_nil,GP,qY];refine YA (YA (jY ?_));show wpAny _ _ (nextOf (.ref i1) >>= _) _ _ _;have c11:S1 n1 g1:=D1.frame _ _ _ c1 λb hb o e=>s1.extBut b o (λq=>D.z1 (q ▸ hb)) e;refine YA (D1.done _ _ _ c11 λg2 e s2 he=>?_);obtain⟨oe,eo,ce⟩:=he;replace s2:Heap.ExtBut i1 g1 g2:=s2;have z2:IsZip g2 z TI TO .ellipsis:=s2 _ _ D.a3.symm z1;have ez:e≠z:=λq=>by
  subst q;rw[z2] at eo
  cases eo;simp at ce
 exact XY z2 J1 λg3 _ s3=>hE g3 e (λc o q1 q3 h=>s3.extBut _ _ q1 (s2 _ _ q3 (s1.extBut _ _ q1 h))) ⟨oe,s3.extBut _ _ ez eo,ce⟩
theorem Rk {k:Nat}{a b:Value}{Q:Option Value->Shared->Prop}(D:Off z TI TO i1 i2 f1 f2)(D1:Draws prog w A.in1 i1 f1 n1 P1 S1)(D2:Draws prog w A.in1 i2 f2 n2 P2 S2)
  (hz:IsZip s.heap z TI TO .none) (hTI:IsPair s.heap TI (.ref i1) (.ref i2)) (hTO:IsPair s.heap TO a b) (c1:S1 k s.heap) (c2:S2 k s.heap) (l1:k<n1) (l2:k<n2)
  (hQ:∀ x y h' tk,P1 k x->P2 k y->IsZip h' z TI TO (rawInt s.heap.objs.size)->IsPair h' TO x y->S1 (k+1) h'->S2 (k+1) h'->IsPair h' s.heap.objs.size x y->h'.objs.size=s.heap.objs.size+1 →
   (∀ c o,c≠z->c≠TO->c≠i1->c≠i2->s.heap.get? c=some o->h'.get? c=some o)->Q (some (.ref s.heap.objs.size)) { s with heap:=h',toks:=tk }):wpAny (model prog w) A (pyNext (.ref z)) Q E s:=by
 have hT:s.TypeIs (.ref z) "zip":=⟨_,hz,rfl⟩;unfold pyNext;exact YA (GS (XH (name:=Str.ofString "__next__") hT GQ (XR GQ hT zg
   (No D D1 D2 hz hTI hTO c1 c2 l1 l2 λx y h' tk p1 p2 q1 q2 q3 q4 q5 q6 q7=>YD (hQ x y h' tk p1 p2 q1 q2 q3 q4 q5 q6 q7)) (qZ _))))
theorem Ve {Q:Option Value->Shared->Prop}(D:Off z TI TO i1 i2 f1 f2)(D1:Draws prog w A.in1 i1 f1 n1 P1 S1)(hz:IsZip s.heap z TI TO .none)(hTI:IsPair s.heap TI (.ref i1) (.ref i2))(c1:S1 n1 s.heap)
  (hQ:∀ h',(∀ c o,c≠z->c≠i1->s.heap.get? c=some o->h'.get? c=some o)->Q none { s with heap:=h' }):wpAny (model prog w) A (pyNext (.ref z)) Q E s:=by
 have hT:s.TypeIs (.ref z) "zip":=⟨_,hz,rfl⟩;unfold pyNext;refine YA (GS (XH (name:=Str.ofString "__next__") hT GQ (XR GQ hT zg
  (Nn (k:=0) (a:=.none) (b:=.none) D D1 hz hTI c1 λh' e hk he=>?_) (qZ _))))
 obtain⟨o,ho,hc⟩:=he;exact YA (JY (T:="StopIteration") (b:=true) ⟨o,ho,hc⟩ qq (YD (hQ _ hk)))
end
abbrev zH1 (l:Bool)(h:Heap)(t:Addr):Heap:=h.push { cls:=.type (kI l),data:=.fields #[.ref t,.int 0 0] }
abbrev zH2 (l m:Bool)(h:Heap)(t u:Addr):Heap:=zH1 m (zH1 l h t) u
abbrev zH3 (l m:Bool)(h:Heap)(t u:Addr):Heap:=(zH2 l m h t u).push { cls:=.type "tuple",data:=.seq #[.ref h.objs.size,.ref (zH1 l h t).objs.size] }
abbrev zH4 (l m:Bool)(h:Heap)(t u:Addr):Heap:=(zH3 l m h t u).push { cls:=.type "tuple",data:=.seq #[.none,.none] }
abbrev zH5 (l m:Bool)(h:Heap)(t u:Addr):Heap:=(zH4 l m h t u).push { cls:=.type "zip",data:=.fields #[.none,.bool false,.bool false,.ref (zH2 l m h t u).objs.size,.ref (zH3 l m h t u).objs.size] }
theorem Mg (l m:Bool)(t u:Addr)(xs ys:Array Value):Meets (Builtin.«zip.__new__» ⟨[.type "zip",.ref t,.ref u],[]⟩) (λ_ R s=>Iq l s.heap t xs/\Iq m s.heap u ys ∧
  R (.ok (.ret (.ref (zH4 l m s.heap t u).objs.size))) { s with heap:=zH5 l m s.heap t u }) :=
 .of_wp λprog w A R s h=>by
  obtain⟨hp,g,d,tk,os⟩:=s;obtain⟨h1,⟨o,e,r⟩,h⟩:=h;have hsub:=sub_zip;have T1:Iq l (Shared.heap ⟨hp,g,d,tk,os⟩) t xs:=h1;have T2:Iq m (Shared.heap ⟨zH1 l hp t,g,d,tk,os⟩) u ys:=⟨o,YB _ e,r⟩
  wp_walk using U3 T1,U3 T2
  exact⟨_,rfl,h⟩
theorem Kq {prog:TM}{w:World}{A:Around}{E:TB}{u:Addr}{xs ys:Array Value}{Q:TB}(l m:Bool)(h1:Iq l s.heap t xs)(h2:Iq m s.heap u ys)
  (h:∀ h',IsZip h' (s.heap.objs.size+4) (s.heap.objs.size+2) (s.heap.objs.size+3) .none->IsPair h' (s.heap.objs.size+2) (.ref s.heap.objs.size) (.ref (s.heap.objs.size+1))->IsPair h' (s.heap.objs.size+3) .none .none →
   Ir l h' s.heap.objs.size t 0->Ir m h' (s.heap.objs.size+1) u 0->h'.objs.size=s.heap.objs.size+5->(∀ c o,s.heap.get? c=some o->h'.get? c=some o)->Q (.ref (s.heap.objs.size+4)) { s with heap:=h' }) :
  wpAny (model prog w) A (call (.type "zip") [.ref t,.ref u]) Q E s:=by
 refine callType_new F.called_zip J0 (F.typeCall_zip_2 _ _) (F.newCall_zip_2 _ _) (λobj=>F.args_object_init_3 obj _ _) F.entry_zip_new (Mg l m t u xs ys) ⟨h1,h2,?_⟩;have e1:(zH1 l s.heap t).objs.size=s.heap.objs.size+1:=JQ ..;have e2:(zH2 l m s.heap t u).objs.size=s.heap.objs.size+2:=by rw[JQ,e1]
 have e3:(zH3 l m s.heap t u).objs.size=s.heap.objs.size+3:=by rw[JQ,e2]
 have e4:(zH4 l m s.heap t u).objs.size=s.heap.objs.size+4:=by rw[JQ,e3]
 have up:∀ {h:Heap} {c:Addr} {x o:Obj},h.get? c=some o->(h.push x).get? c=some o:=λe=>YB _ e;have p5:(zH5 l m s.heap t u).get? (zH4 l m s.heap t u).objs.size=some _:=YG _ rfl;have p4:(zH5 l m s.heap t u).get? (zH3 l m s.heap t u).objs.size=some _:=up (YG _ rfl);have p3:(zH5 l m s.heap t u).get? (zH2 l m s.heap t u).objs.size=some _:=up (up (YG _ rfl));have p2:(zH5 l m s.heap t u).get? (zH1 l s.heap t).objs.size=some _:=up (up (up (YG _ rfl)));show _/\_;rw[e2,e3,e4] at p5;rw[e1,e2] at p3;rw[e3] at p4;rw[e1] at p2;rw[e4];exact⟨⟨_,p5,rfl⟩,h _ p5 p3 p4 ⟨_,up (up (up (up (YG _ rfl)))),rfl,rfl⟩ ⟨_,p2,rfl,rfl⟩ (by rw[JQ,e4]) λc o x=>up (up (up (up (up x))))⟩
end Sb
namespace Sb
open PySem PySem.Spec PyProof.Rows L2
section
variable {X:Cx}{pins:TC}{σ:L2.St}{H:Hp}{s:Shared}{h':Heap}{t':Nat}{ch:TH}
theorem Qa (I:Inv X pins σ H s)(hn:∀ b∈ch,H b=none)(k:∀ b o,b ∉ ch->s.heap.get? b=some o->h'.get? b=some o):HOk X.prog X.w H h':=λa o e =>
 (I.hok a o e).stay (λb u hb q=>k b u (λz=>by
  have n:=hn b z;rcases hb with rfl | hb
  ·rw[n] at e;cases e
  rw[n] at hb;cases hb) q) (λ_ q=>q) λ_ _ q=>q
theorem Q9 (I:Inv X pins σ H s)(hf:∀ b∈ch,FpOk X pins H b)(k:∀ b o,b ∉ ch->s.heap.get? b=some o->h'.get? b=some o):Inv X pins σ H { s with heap:=h',toks:=t' }:=by
 refine I.step (g':=s.gens) (d':=s.drawn) (ch:=ch) (λb hb=>?_) (λb o _ _ hc e _=>k b o hc e) (λb o _ _ hc e _=>⟨o.slots,k b o hc e⟩) (λ_ _ _ _ n=>n) (λb o hc e=>⟨o,k b o hc e⟩) (λ_ _ e=>e) (λ_ _ _ e=>e)
  (λb ps e=>⟨#[],by rw[e];simp⟩) (λm hm=>?_) (Qa I (λb hb=>(hf b hb).1) k) I.bare
 ·exact⟨(hf b hb).2.2.2.1,(hf b hb).2.1,(hf b hb).2.2.2.2.1,(hf b hb).2.2.2.2.2⟩
 obtain⟨o,es,ep,ho,r⟩:=hm;exact⟨o,es,ep,k _ o (λz=>(hf _ z).2.1 rfl) ho,r⟩
theorem Sk {p:Addr}{u:HO}(I:Inv X pins σ H s)(hf:∀ b∈ch,FpOk X pins H b)(k:∀ b o,b ∉ ch->s.heap.get? b=some o->h'.get? b=some o)(hp:s.heap.objs.size<=p)(new:ObjOk X.prog X.w (upd H p u) h' p u) :
  Inv X pins σ (upd H p u) { s with heap:=h',toks:=t' }:=by
 have lt:∀ b o,s.heap.get? b=some o->b≠p:=λb o e z=>absurd (YN (YH e) hp) (by rw[z];exact XO _);have ltH:∀ b o,H b=some o->b≠p:=λb o e z=>absurd (YN (I.hok.lt e) hp) (by rw[z];exact XO _);have hk:=Qa I (λb hb=>(hf b hb).1) k;refine I.step (g':=s.gens) (d':=s.drawn) (ch:=ch) (λb hb=>?_) (λb o _ _ hc e _=>k b o hc e) (λb o _ _ hc e _=>⟨o.slots,k b o hc e⟩) (λb o _ e n=>by rw[Zi (lt b o e)];exact n) (λb o hc e=>⟨o,k b o hc e⟩)
  (λb _ e=>by rw[Zi (ltH b _ e)];exact e) (λb _ _ e=>by rw[Zi (ltH b _ e)];exact e) (λb ps e=>⟨#[],by rw[Zi (ltH b _ e),e];simp⟩) (λm hm=>?_) (λb o e=>?_) I.bare
 ·exact⟨(hf b hb).2.2.2.1,(hf b hb).2.1,(hf b hb).2.2.2.2.1,(hf b hb).2.2.2.2.2⟩
 ·obtain⟨o,es,ep,ho,r⟩:=hm;exact⟨o,es,ep,k _ o (λz=>(hf _ z).2.1 rfl) ho,r⟩
 by_cases hb:b=p
 ·subst hb;rw[Z5] at e
  cases e;exact new
 rw[Zi hb] at e;exact (hk b o e).stay (λ_ _ _ q=>q) (λc q=>by rw[Zi (ltH c _ q)];exact q) λc xs q=>by rw[Zi (ltH c _ q)];exact q
def Sq (l:Bool)(K:TL)(H:Hp)(t:Addr)(xs:TQ):Prop:=cond l (SqL K H t xs) (SqT K H t xs)
theorem Vo {l:Bool}(I:Inv X pins σ H s)(h:Sq l X.K H t xs):∃ us:List Value,Vals xs us/\Iq l s.heap t us.toArray:=by
 cases l
 ·obtain⟨u,v,p,_⟩:=I.tuple h;exact⟨u,v,p⟩
 obtain⟨u,v,p,_⟩:=I.list h;exact⟨u,v,p.isList⟩
theorem Gu {l:Bool}(I:Inv X pins σ H s)(h:Sq l X.K H t xs)(h':Sq l X.K H t ys):xs=ys:=by
 cases l
 ·exact I.tuple_inj h h'
 exact I.list_inj h h'
theorem D4 {l:Bool}(h:Sq l K H t xs):(∃ u,Rd H t u) \/ ∃ o,K.lookup t=some o:=by
 cases l
 ·rcases h with h | ⟨o,its,n,h,_⟩
  ·exact .inl ⟨_,h⟩
  exact .inr ⟨o,h⟩
 rcases h with h | ⟨o,its,n,h,_⟩
 ·exact .inl ⟨_,h⟩
 exact .inr ⟨o,h⟩
theorem Ga {l:Bool}(I:Inv X pins σ H s)(hf:FpOk X pins H b)(h:Sq l X.K H t xs):t≠b:=by
 rintro rfl;rcases D4 h with ⟨u,h | ⟨o,h⟩⟩ | ⟨o,h⟩
 ·rw[hf.1] at h;cases h
 ·rw[hf.1] at h;cases h
 have e:=I.ok.mod.kin _ _ h;rcases hf.2.2.2.1 with z | z
 ·exact I.ok.noex _ _ e z
 exact absurd (YN (YH (I.ok.bs _ _ e).1) z) (XO _)
theorem Lq (hf:FpOk X pins H b):(∀ x,(b,x) ∉ X.pn)/\∀ p∈X.pn,p.1≠b:=⟨λx m=>hf.2.2.2.2.2 _ (YW _ m) rfl,λp hp=>hf.2.2.2.2.2 p (YW _ hp)⟩
theorem Gd (I:Inv X pins σ H s):∀ p∈X.pn,s.heap.get? p.1=some p.2:=λp hp=>(I.pin p (YW _ hp)).1
theorem Ng {l:Bool}(I:Inv X pins σ H s)(hc:X.calm=true)(hf:FpOk X pins H it)(hx:Sq l X.K H t xs)(us:TF) :
  Draws X.prog X.w X.A.in1 it (it::t::X.pn.map Prod.fst) us.toArray.size (λi x=>us.toArray[i]?=some x) (λi h=>Ir l h it t i/\Iq l h t us.toArray/\∀ p∈X.pn,h.get? p.1=some p.2) :=
 Sm (A:=X.A.in1) l (I.ok.hd hc) it t (Ga I hf hx) (Lq hf).2 us.toArray
theorem Dl {u:TF}{i:Nat}{x:Value}(v:Vals xs u)(lx:i<xs.length)(px:u.toArray[i]?=some x):∃ x0,xs[i]?=some x0/\RelV x0 x:=by
 obtain⟨x1,ex1,rx⟩:=v.get (i:=i) (x:=xs[i]) (by simp[lx]);rw[GH,ex1] at px
 cases px;exact⟨_,by simp[lx],rx⟩
theorem Dg {p:Addr}{u:HO}(hp:p=s.heap.objs.size)(hf:∀ b∈ch,FpOk X pins H b)(ob:∀ b∈ch,∃ o,s.heap.get? b=some o/\∀ v,o.data≠.cell v):∀ b∈ch,upd H p u b=none:=λb hb=>by
 obtain⟨o,e,_⟩:=ob b hb;rw[Zi (by rw[hp];exact YT (YH e))];exact (hf b hb).1
end
section
variable {X:Cx}{b:Expr}
theorem Fx {σ:L2.St}{ch:List Nat}(I:Inv X pins σ H s)(h:∀ b∈ch,s.heap.objs.size<=b):∀ b∈ch,FpOk X pins H b:=λb hb=>I.fpOk (h b hb) (I.hok.fresh (h b hb))
end
end Sb
namespace Sb
open PySem L2
structure Ext (H H':Hp):Prop where
 tup:∀ b xs,H b=some (.tup xs)->H' b=some (.tup xs)
 frz:∀ b o u,H b=some (.frz o u)->H' b=some (.frz o u)
theorem Ext.trans {H2:Hp}(a:Ext H H1)(b:Ext H1 H2):Ext H H2:=⟨λc xs h=>b.tup c xs (a.tup c xs h),λc o u h=>b.frz c o u (a.frz c o u h)⟩
theorem Ext.same (x:Same H H'):Ext H H':=⟨λb _ h=>x b _ h,λb _ _ h=>x b _ h⟩
theorem Ext.x {a:Addr}(x:SameX a H H')(ha:H a=some (.lst ys)):Ext H H' :=
 ⟨λb _ h=>x b _ h (Gh h ha (by intro z;cases z)),λb _ _ h=>x b _ h (Gh h ha (by intro z;cases z))⟩
theorem Ext.bag {a:Addr}{n:Nat}(x:SameX a H H')(ha:BagAt H a n):Ext H H':=by
 obtain⟨ys,e⟩:=ha.lst;exact Ext.x x e
theorem Ext.upd {l:Addr}{H:Hp}{ys:TQ}{o:HO}(hl:H l=some (.lst ys)):Ext H (L2.upd H l o):=Ext.x (SameX.upd l H o) hl
theorem Ext.new {l:Addr}{H:Hp}{o:HO}(hl:H l=none):Ext H (L2.upd H l o):=Ext.same (Same.new hl)
theorem Ext.sq {a:Addr}(e:Ext H H')(h:SqT K H a xs):SqT K H' a xs:=by
 rcases h with (h | ⟨o,h⟩) | h
 ·exact .inl (.inl (e.tup _ _ h))
 ·exact .inl (.inr ⟨o,e.frz _ _ _ h⟩)
 exact .inr h
abbrev Rat:=Int × Int
abbrev _root_.TR:=List Rat
def IsR (K:TL)(H:Hp)(r:Rat)(v:V):Prop:=∃ b,v=.ref b/\SqT K H b [.int r.1,.int r.2]
theorem IsR.ext {r:Rat}(h:IsR K H r v)(e:Ext H H'):IsR K H' r v:=by
 obtain⟨b,q,h⟩:=h;exact⟨b,q,e.sq h⟩
def Rs (K:TL)(H:Hp)(rs:TR)(xs:TQ):Prop:=Paired (IsR K H) rs xs
theorem Rs.ext {K:TL}{H H':Hp}{rs:TR}{xs:TQ}(h:Rs K H rs xs)(e:Ext H H'):Rs K H' rs xs:=Paired.mapP h λ_ _ q=>q.ext e
theorem Rs.snoc {K:TL}{H:Hp}{rs:TR}{xs:TQ}{r:Rat}{v:V}(h:Rs K H rs xs)(q:IsR K H r v):Rs K H (rs++[r]) (xs++[v]):=Paired.snoc h q
theorem Rs.len {rs:TR}(h:Rs K H rs xs):rs.length=xs.length:=JK h
theorem Rs.at {K:TL}{H:Hp}:∀ {rs:TR} {xs:TQ} {i:Nat} {r:Rat},Rs K H rs xs->rs[i]?=some r->∃ v,xs[i]?=some v/\IsR K H r v
 | _,_,_,_,.nil,e=>by simp at e
 | _,_,0,_,.cons q _,e=>by
  simp at e;subst e;exact⟨_,rfl,q⟩
 | _,_,i+1,r,.cons _ t,e=>by
  obtain⟨v,h1,h2⟩:=Rs.at (i:=i) (r:=r) t (by simpa using e);exact⟨v,by simpa using h1,h2⟩
theorem Rs.back {rs:TR}{i:Nat}(h:Rs K H rs xs)(e:xs[i]?=some v):∃ r,rs[i]?=some r/\IsR K H r v:=by
 have hi:i<xs.length:=(XG.mp e).1;have hr:i<rs.length:=by rw[h.len];exact hi
 obtain⟨w,h1,h2⟩:=h.at (i:=i) (r:=rs[i]) (by simp[hr]);rw[e] at h1
 cases h1;exact⟨_,by simp[hr],h2⟩
def RowAt (K:TL)(H:Hp)(a:Addr)(rs:TR):Prop:=∃ xs,SqT K H a xs/\Rs K H rs xs
theorem RowAt.ext {K:TL}{H H':Hp}{a:Addr}{rs:TR}(h:RowAt K H a rs)(e:Ext H H'):RowAt K H' a rs:=by
 obtain⟨xs,h1,h2⟩:=h;exact⟨xs,e.sq h1,h2.ext e⟩
structure Good (n:Nat)(r:Rat):Prop where
 b1:Bd n r.1
 b2:Bd n r.2
 pos:0<r.2
 cop:Int.gcd r.1 r.2=1
def nrm (p q:Int):Rat:=(nT p q,nB p q)
def mulR' (r s:Rat):Rat:=nrm (r.1*s.1) (r.2*s.2)
theorem K4 {a b:Int}(ha:0<a)(hb:0<b):a*b≠0:=by
 have:=Int.mul_pos ha hb;omega
end Sb
variable {r:Sb.Rat}
namespace Sb
open PySem PySem.Spec PyProof.Rows L2
set_option maxRecDepth 100000
section
variable {X:Cx}{K:TL}
inductive rEqI (K:TL) (x:V) (y:V) (H:Hp) (Q:VK):Prop
 | mk (a b:Addr) (ns ms:TN) (zz0:x=.ref a) (zz1:y=.ref b) (zz2:SqT K H a (ns.map V.int)) (zz3:SqT K H b (ms.map V.int)) (zz4:Q (.bl (decide (ns=ms))) H)
theorem D3 (ns ms:TN):((List.range (min ns.length ms.length)).all (λj=>ns.getD j 0 == ms.getD j 0) && ns.length == ms.length)=decide (ns=ms):=by
 rw[JV];simp only [GK,GU,qr,jn,GC];constructor
 ·rintro ⟨h,hl⟩;refine jc hl λi h1 h2=>?_;have:=h i U
  simpa [List.getD,h1,h2] using this
 rintro rfl;exact⟨λ_ _=>rfl,rfl⟩
theorem Nb {us:TF}(r:Vals (ns.map V.int) us){j:Nat}(h:j<us.length):∃ t,us[j]=Value.int (ns.getD j 0) t:=by
 have hl:=r.length;rw[YC] at hl;have hj:j<ns.length:=U
 obtain⟨u,e,q⟩:=r.get (i:=j) (show (ns.map V.int)[j]?=some (V.int ns[j]) by simp[hj]);obtain⟨t,rfl⟩:=q;have e2:us[j]?=some us[j]:=by simp[h]
 rw[e2] at e;refine⟨t,?_⟩;rw[YR e];simp[List.getD,hj]
theorem Fh (hu:X.A.units<cLine)(hK:X.K=K:=by rfl):OpR X (compareOp .Eq) (rEqI K):=by
 subst hK;intro pins s σ H x y v u Q I rx ry h;obtain⟨a,b,ns,ms,rfl,rfl,ha,hb,q⟩:=h
 cases rx
 cases ry;obtain⟨its,r1,p1,_⟩:=I.tuple ha;obtain⟨its2,r2,p2,_⟩:=I.tuple hb;have l1:=r1.length;have l2:=r2.length;rw[YC] at l1 l2;refine SeqAt.eq_tupleAt (e:=λj=>ns.getD j 0 == ms.getD j 0) p1 p2 hu (λj h1 h2=>?_) ?_
 ·obtain⟨t,e1⟩:=Nb r1 (j:=j) (by simpa using h1);obtain⟨t',e2⟩:=Nb r2 (j:=j) (by simpa using h2);have e1':its.toArray[j]=Value.int (ns.getD j 0) t:=by simpa using e1
  have e2':its2.toArray[j]=Value.int (ms.getD j 0) t':=by simpa using e2
  rw[e1',e2'];exact zN _ _ _ _
 rw[YF,YF,<-l1,<-l2,D3];exact⟨.bl _,H,I,rfl,q⟩
theorem Ff (h:X.K=K:=by rfl):OpR X (compareOp .In) (rIn K false):=h ▸ Uy
end
end Sb
namespace Sb
open PySem L2
def evI (c:Nat)(p:Nat->Bool):List Int:=((List.range c).filter p).map λ(w:Nat)=>(w:Int)
def EvAt (K:TL)(H:Hp)(c:Nat)(o:Option (Nat->Bool))(v:V):Prop:=match o with
 | none=>v=.non
 | some p=>∃ a,v=.ref a/\SqT K H a ((evI c p).map V.int)
theorem Kc {c A B:Prop}[Decidable c](hc:¬ c)(h:B):if decide c=true then A else B:=by rw[XL hc];exact Y2 h
theorem Yp {b:Bool}{A B:Prop}(h1:b=true->A)(h0:b=false->B):if b=true then A else B:=by
 cases b with
 | true=>exact Wb (h1 rfl)
 | false=>exact Y2 (h0 rfl)
theorem Rs.app {K:TL}{H:Hp}:∀ {rs ss:TR} {xs ys:TQ},Rs K H rs xs->Rs K H ss ys->Rs K H (rs++ss) (xs++ys)
 | _,_,_,_,.nil,s=>s
 | _,_,_,_,.cons r t,s=>.cons r (Rs.app t s)
theorem Fz {i:Nat}(h:i<=xs.length):cutV xs none (some (i:Int))=xs.take i:=by
 unfold cutV;rw[HT.sIx_none,HT.sIx_nat,GE h];simp
theorem So {i:Nat}(h:i<=xs.length):cutV xs (some (i:Int)) none=xs.drop i:=by
 unfold cutV;rw[HT.sIx_none,HT.sIx_nat,GE h,JM J1]
theorem Zz {a:Addr}(e:Same H H')(h:SqL K H a xs):SqL K H' a xs:=by
 rcases h with (h | ⟨o,h⟩) | h
 ·exact .inl (.inl (e _ _ h))
 ·exact .inl (.inr ⟨o,e _ _ h⟩)
 exact .inr h
end Sb
namespace Sb
open PySem PySem.Spec PyProof.Rows L2
structure CatchBy (K:TL)(C D:Addr):Prop where
 nt:W.instIn K (.ref D) (.type "tuple")=some false
 be:W.subIn K (.ref D) (.type "BaseException")=some true
 it:W.kitOne K (.type "int") (.ref D)=some false
 sub:W.subIn K (.ref C) (.ref D)=some true
open PySem.W (Looks findIn specialIn takesIn mroIn clsIn InstAt findObj KitX)
def flatE:V->Bool
 | .non | .bl _ | .int _ | .str _ | .ref _=>true
 | _=>false
def EqU (K:TL)(H:Hp):Nat->V->V->Prop
 | 0,x,y=>x=y/\flatE x=true
 | n+1,x,y=>(x=y/\flatE x=true) \/ ∃ (a b:Addr) (xs ys:TQ),x=.ref a/\y=.ref b/\((SqL K H a xs/\SqL K H b ys) \/ (SqT K H a xs/\SqT K H b ys))/\Paired (EqU K H n) xs ys
theorem EqU.flat {K:TL}{H:Hp}{n:Nat}{x:V}(h:flatE x=true):EqU K H n x x:=by
 cases n with
 | zero=>exact⟨rfl,h⟩
 | succ n=>exact .inl ⟨rfl,h⟩
theorem Paired.getB {α β:Type}{R:α->β->Prop}:∀ {xs:List α} {ys:List β} {i:Nat} {x:α} {y:β},Paired R xs ys->xs[i]?=some x->ys[i]?=some y->R x y
 | _,_,_,_,_,.nil,e,_=>by simp at e
 | _,_,0,_,_,.cons q _,e,e'=>by
  simp at e e';subst e e';exact q
 | _,_,i+1,x,y,.cons _ t,e,e'=>Paired.getB (i:=i) t (by simpa using e) (by simpa using e')
section
variable {X:Cx}{pins:TC}{σ:L2.St}{H:Hp}{s:Shared}{K:TL}
theorem T9 {A:Around}{x:V}{u v:Value}(h:flatE x=true)(ru:RelV x u)(rv:RelV x v):SeqAt.EqAt A s u v true:=by
 cases x with
 | non=>cases ru;cases rv;exact qj _
 | bl b=>cases ru;cases rv;exact qj _
 | int i =>
  obtain⟨t,rfl⟩:=ru;obtain⟨t',rfl⟩:=rv;have:=zN (A:=A) (s:=s) i t i t'
  rwa [GT] at this
 | str z =>
  obtain⟨t,rfl⟩:=ru;obtain⟨t',rfl⟩:=rv;have:=zO (A:=A) (s:=s) z t z t'
  rwa [GT] at this
 | ref a=>cases ru;cases rv;exact qj _
 | byt b=>cases h
 | flt b=>cases h
 | ty b=>cases h
theorem Xi (n:Nat):(List.range n).all (λ_=>true)=true:=by simp
theorem Pk (I:Inv X pins σ H s):∀ (n:Nat) (A:Around) (x y:V) (u v:Value),A.units+n<cLine->EqU X.K H n x y->RelV x u->RelV y v->SeqAt.EqAt A s u v true
 | 0,A,x,y,u,v,_,⟨e,h⟩,ru,rv=>by
  subst e;exact T9 h ru rv
 | n+1,A,x,y,u,v,hu,h,ru,rv=>by
  rcases h with ⟨e,h⟩ | ⟨a,b,xs,ys,rfl,rfl,h,p⟩
  ·subst e;exact T9 h ru rv
  cases ru
  cases rv;by_cases hab:a=b
  ·subst hab;exact qj _
  refine SeqAt.EqAt.of_refs hab ?_;have lp:=JK p;rcases h with ⟨h1,h2⟩ | ⟨h1,h2⟩
  ·obtain⟨i1,r1,p1,_⟩:=I.list h1;obtain⟨i2,r2,p2,_⟩:=I.list h2;have l1:=r1.length;have l2:=r2.length;have:=SeqAt.RcAt.lists (A:=A) (e:=λ_=>true) p1.isList p2.isList (by simp;omega) U λj h1 h2=>by
    have h1':j<i1.length:=by simpa using h1
    have h2':j<i2.length:=by simpa using h2
    obtain⟨w1,e1,q1⟩:=r1.get (i:=j) (x:=xs[j]'U) J1;obtain⟨w2,e2,q2⟩:=r2.get (i:=j) (x:=ys[j]'U) J1;have g1:i1.toArray[j]=w1:=by
     have:i1[j]?=some i1[j]:=by simp[h1']
     rw[this] at e1
     simpa using YR e1
    have g2:i2.toArray[j]=w2:=by
     have:i2[j]?=some i2[j]:=by simp[h2']
     rw[this] at e2
     simpa using YR e2
    rw[g1,g2];exact Pk I n A.in1 _ _ _ _ (by show A.units+1+n<cLine;omega) (Paired.getB p (i:=j) J1 J1) q1 q2
   rwa [Xi] at this
  obtain⟨i1,r1,p1,_⟩:=I.tuple h1;obtain⟨i2,r2,p2,_⟩:=I.tuple h2;have l1:=r1.length;have l2:=r2.length;have:=zY (A:=A) (e:=λ_=>true) p1 p2 U λj h1 h2=>by
   have h1':j<i1.length:=by simpa using h1
   have h2':j<i2.length:=by simpa using h2
   obtain⟨w1,e1,q1⟩:=r1.get (i:=j) (x:=xs[j]'U) J1;obtain⟨w2,e2,q2⟩:=r2.get (i:=j) (x:=ys[j]'U) J1;have g1:i1.toArray[j]=w1:=by
    have:i1[j]?=some i1[j]:=by simp[h1']
    rw[this] at e1
    simpa using YR e1
   have g2:i2.toArray[j]=w2:=by
    have:i2[j]?=some i2[j]:=by simp[h2']
    rw[this] at e2
    simpa using YR e2
   rw[g1,g2];exact Pk I n A.in1 _ _ _ _ (by show A.units+1+n<cLine;omega) (Paired.getB p (i:=j) J1 J1) q1 q2
  rw[Xi] at this;have e:(i1.toArray.size == i2.toArray.size)=true:=by simp;omega
  rw[e] at this;exact this
inductive rAlike (K:TL) (ans:Bool) (x:V) (y:V) (H:Hp) (Q:VK):Prop
 | mk (n:Nat) (a b:Addr) (xs ys:TQ) (zz0:x=.ref a) (zz1:y=.ref b) (zz2:n<=60) (zz3:((SqL K H a xs/\SqL K H b ys) \/ (SqT K H a xs/\SqT K H b ys))) (zz4:Paired (EqU K H n) xs ys) (zz5:Q (.bl ans) H)
theorem Xb (I:Inv X pins σ H s){n:Nat}{A:Around}{xs ys:TQ}{i1 i2:TF}(hu:A.units+n<cLine)(p:Paired (EqU X.K H n) xs ys)(r1:Vals xs i1)(r2:Vals ys i2)(j:Nat)(h1:j<i1.toArray.size)(h2:j<i2.toArray.size):SeqAt.EqAt A s i1.toArray[j] i2.toArray[j] true:=by
 have l1:=r1.length;have l2:=r2.length;have h1':j<i1.length:=by simpa using h1
 have h2':j<i2.length:=by simpa using h2
 obtain⟨w1,e1,q1⟩:=r1.get (i:=j) (x:=xs[j]'U) J1;obtain⟨w2,e2,q2⟩:=r2.get (i:=j) (x:=ys[j]'U) J1;have g1:i1.toArray[j]=w1:=by
  have:i1[j]?=some i1[j]:=by simp[h1']
  rw[this] at e1
  simpa using YR e1
 have g2:i2.toArray[j]=w2:=by
  have:i2[j]?=some i2[j]:=by simp[h2']
  rw[this] at e2
  simpa using YR e2
 rw[g1,g2];exact Pk I n A _ _ _ _ hu (Paired.getB p (i:=j) J1 J1) q1 q2
theorem Ty (hu:X.A.units+64<cLine)(hK:X.K=K:=by rfl):OpR X (compareOp .NotEq) (rAlike K false):=by
 subst hK;intro pins s σ H x y v u Q I rx ry h;obtain⟨n,a,b,xs,ys,rfl,rfl,hn,h,p,q⟩:=h
 cases rx
 cases ry;have lp:=JK p;rcases h with ⟨h1,h2⟩ | ⟨h1,h2⟩
 ·obtain⟨i1,r1,p1,_⟩:=I.list h1;obtain⟨i2,r2,p2,_⟩:=I.list h2;have l1:=r1.length;have l2:=r2.length;refine SeqAt.RcNeAt.lists (A:=X.A) (e:=λ_=>true) p1.isList p2.isList (by simp;omega) U (λj h1 h2=>Xb I (by show X.A.units+1+n<cLine;omega) p r1 r2 j h1 h2) _ _ _ _ ?_;rw[Xi];exact⟨.bl false,H,I,rfl,q⟩
 obtain⟨i1,r1,p1,_⟩:=I.tuple h1;obtain⟨i2,r2,p2,_⟩:=I.tuple h2;have l1:=r1.length;have l2:=r2.length;refine SeqAt.RcNeAt.tuples (A:=X.A) (e:=λ_=>true) p1 p2 U (λj h1 h2=>Xb I (by show X.A.units+1+n<cLine;omega) p r1 r2 j h1 h2) _ _ _ _ ?_;have e:(i1.toArray.size == i2.toArray.size)=true:=by simp;omega
 rw[Xi,e];exact⟨.bl false,H,I,rfl,q⟩
end
end Sb
namespace Sv
def sm:Nat->(Nat->Int)->Int
 | 0,_=>0
 | n+1,f=>sm n f+f n
theorem R7 {n:Nat}{f g:Nat->Int}(h:∀ i,i<n->f i=g i):sm n f=sm n g:=by
 induction n with
 | zero=>rfl
 | succ n ih =>
  show sm n f+f n=sm n g+g n;rw[ih λi hi=>h i U,h n U]
theorem Gw (n:Nat)(f g:Nat->Int):sm n (λi=>f i+g i)=sm n f+sm n g:=by
 induction n with
 | zero=>rfl
 | succ n ih=>show sm n _+(f n+g n)=(sm n f+f n)+(sm n g+g n);rw[ih];omega
theorem Gv (a:Int)(n:Nat)(f:Nat->Int):sm n (λi=>a*f i)=a*sm n f:=by
 induction n with
 | zero=>show (0:Int)=a*0;simp
 | succ n ih=>show sm n _+_=a*(sm n f+f n);rw[ih,Int.mul_add]
theorem Ky {n:Nat}{f:Nat->Int}(h:∀ i,i<n->f i=0):sm n f=0:=by
 induction n with
 | zero=>rfl
 | succ n ih=>show sm n f+f n=0;rw[ih λi hi=>h i U,h n U];rfl
theorem Lb {n k:Nat}{f:Nat->Int}(hk:k<n):sm n f=f k+sm n (λi=>if i=k then 0 else f i):=by
 induction n with
 | zero=>omega
 | succ n ih =>
  show sm n f+f n=f k+(sm n (λi=>if i=k then 0 else f i)+if n=k then 0 else f n);by_cases e:n=k
  ·subst e;rw[XQ rfl,R7 (f:=λi=>if i=n then 0 else f i) (g:=f) λi hi=>XD U];omega
  rw[XD e,ih U];omega
theorem Nv {n:Nat}{f:Nat->Int}(h:∀ i,i<n->0<=f i):0<=sm n f:=by
 induction n with
 | zero=>exact Int.le_refl _
 | succ n ih =>
  show 0<=sm n f+f n;have:=ih λi hi=>h i U;have:=h n U;omega
theorem D5 {n:Nat}{f g:Nat->Int}(h:∀ i,i<n->f i<=g i):sm n f<=sm n g:=by
 induction n with
 | zero=>exact Int.le_refl _
 | succ n ih =>
  show sm n f+f n<=sm n g+g n;have:=ih λi hi=>h i U;have:=h n U;omega
abbrev Vec:=Nat->Int
abbrev Mat:=Nat->Vec
def skip (k i:Nat):Nat:=if i<k then i else i+1
def put (v:Mat)(c:Nat)(x:Vec):Mat:=λi=>if i=c then x else v i
end Sv
namespace Sb
theorem Nf {a b c:Int}(h:a ∣ b*c)(g:Int.gcd a b=1):a ∣ c:=by
 have h1:a.natAbs ∣ b.natAbs*c.natAbs:=by
  rw[<-zP];exact jw.mpr h
 exact jw.mp (Nat.Coprime.dvd_of_dvd_mul_left g h1)
theorem Qz {s:Rat}(hr:0<r.2)(hs:0<s.2)(cr:Int.gcd r.1 r.2=1)(cs:Int.gcd s.1 s.2=1)(h:r.1*s.2=s.1*r.2):r=s:=by
 have d1:r.2 ∣ s.2:=by
  have:r.2 ∣ r.1*s.2:=⟨s.1,by rw[h,jl]⟩;exact Nf this (by rw[zI];exact cr)
 have d2:s.2 ∣ r.2:=by
  have:s.2 ∣ s.1*r.2:=⟨r.1,by rw[<-h,jl]⟩;exact Nf this (by rw[zI];exact cs)
 have e:r.2=s.2:=Int.dvd_antisymm U U d1 d2;have e1:r.1=s.1:=by
  rw[e] at h;exact Int.eq_of_mul_eq_mul_right U h
 obtain⟨a,b⟩:=r;obtain⟨c,d⟩:=s;simp only at e e1;rw[e,e1]
structure Low (r:Rat):Prop where
 pos:0<r.2
 cop:Int.gcd r.1 r.2=1
structure RepL (n:Nat)(D:Int)(Ws:TN)(rs:TR):Prop where
 pos:0<D
 bD:Bd n D
 len:Ws.length=rs.length
 at_:∀ (i:Nat) (W:Int) (r:Rat),Ws[i]?=some W->rs[i]?=some r->r.1*D=W*r.2/\Bd n W/\Low r
end Sb
namespace Sb
open PySem PySem.Spec PyProof.Rows L2
section
variable {X:Cx}
theorem Tp {i:Nat}{x:Str}{pos' spos:Pos}{elt iter:Expr}{ifs:TJ}{pos:Pos}{wi:TI}{k:Nat}{fv:List Nat}{ox:Option Str}
  (hXN:X.N.Nodup) (hix:X.N[i]?=some x) (hx:Loc X.env.scope x)
  (hc:X.calm=true) (hi:PI X tg iter wi) (hg:∀ cl C fp s H,PG (compCx X N scope ox cl C fp s H) tg g) (ht:∀ cl C fp s H,PTs (compCx X N scope ox cl C fp s H) ifs tt) (he:∀ cl C fp s H,PE (compCx X N scope ox cl C fp s H) elt te)
  (hw:∀ r x H Q,g x (List.replicate k none++r) H Q->g x (List.replicate k none++r) H λσ4 H4=>Q σ4 H4/\Weaker σ4 (List.replicate k none++r))
  (hN:N.length=k+fv.length:=by rfl) (hfv:fv.map (λj=>X.N[j]?)=(N.drop k).map some:=by rfl) (hk:(N.drop k).map X.env.kindOf=(N.drop k).map (λ_=>some .cell):=by rfl)
  (hfl:∀ y∈N.drop k,scope.names.lookup y=some .free:=by decide +kernel) (hfr:∀ y∈scope.names,y.2=.free->y.1∈N.drop k:=by decide +kernel)
  (hone:(scope.names.filter λy=>y.2 == .cell)=ox.toList.map (λx=>(x,.cell)):=by decide +kernel) (hx0:∀ y∈N.drop k,ox≠some y:=by decide +kernel) (hkind:scope.kind=.function:=by rfl) (hnames:∀ y∈scope.names,y.2=.local->scope.names.lookup y.1=some .local:=by decide +kernel)
  (hs:∀ x,foldedSetIterable iter X.env x=pure x:=by intro _;rfl)
  (hsw:swapsWith (.ListComp elt [⟨tg,iter,ifs,0⟩] scope pos) (some (.Name x pos')) spos.line X.env=pure true:=by rfl)
  (hf:X.fn x=true \/ X.env.scope.names.lookup x=some .local:=by first | exact .inl rfl | exact .inr rfl | assumption) :
  PS X (.Assign [.Name x pos'] (.ListComp elt [⟨tg,iter,ifs,0⟩] scope pos) spos) (tAsg (tComp wi g tt te k fv) (gName i)):=by
 intro pins s σ H D I h;have kc:∀ y∈N.drop k,X.env.kindOf y=some .cell:=λy hy=>by
  obtain⟨j,hj⟩:=qG hy;have a:=congrArg (λl=>l[j]?) hk;simp only [YI,hj,zw] at a;exact YR a
 obtain⟨cl,hclos,h1,h2⟩:=W6 (env:=X.env) (scope:=scope) λy hy hf=>I.ok.has y.1 (.inl (kc y.1 (hfr y hy hf)));rw[exec_Assign_Name_used _ _ _ _ hsw];refine YA (zk (YA ?_));unfold evalThenUse;refine YA (j7 (use:=some (assign (.Name x pos') X.env)) rfl hs hclos hkind hnames (thn (hi pins s σ H _ I h) λxv s1 h1'=>thn h1' λitv s2 h2'=>?_));obtain⟨it,fp,tn,J,H2,e,I2,T,st2,f2,body⟩:=h2';subst e;refine Ub (Q:=λv H1=>gName i v σ H1 D.nx) (RR:=λacc C=>compPost (model X.prog X.w) X.A X.xe (some (assign (.Name x pos') X.env)) _ acc C) hc hg ht he hw hN hfv hk hfl hone hx0 hkind h1 h2 I2 T st2 f2 body λDd C H' s' ⟨m,hm⟩ fpC q iv=>?_;show wpAny _ _ (assign (.Name x pos') X.env (.ref Dd)) _ _ s';have I':Inv X pins σ H' s':=iv s'.heap ⟨rfl,λ_ _=>rfl⟩;refine wpAny_assign_Name (Ur I' hXN hix hx (v:=.ref Dd) rfl (λs3 I3 ⟨a,sb,ha⟩=>⟨m,?_,λh' hs'=>?_⟩) hf)
 ·have hne:C≠a:=by
   rcases ha with rfl | ha
   ·exact fpC.2.1
   exact λz=>fpC.2.2.2.2.1 x a ha z.symm
  obtain⟨o,es,ep,ho,r⟩:=hm;exact⟨o,es,ep,by rw[sb.2 C hne];exact ho,r⟩
 refine YD (YD ?_);have I4:=Q9 (ch:=[C]) (h':=h') (t':=s3.toks) I3 (λb hb=>by rw[qc.mp hb];exact fpC) λb o hb e=>by
  rw[hs'.2 b (λz=>hb (by rw[z];exact qc.mpr rfl))];exact e
 exact⟨_,H',I4,q⟩
end
end Sb
namespace Sb
open PySem L2
theorem Paired.appP {α β:Type}{R:α->β->Prop}:∀ {xs xs':List α} {ys ys':List β},Paired R xs ys->Paired R xs' ys'->Paired R (xs++xs') (ys++ys')
 | _,_,_,_,.nil,s=>s
 | _,_,_,_,.cons r t,s=>.cons r (Paired.appP t s)
end Sb
namespace Sb
open PySem PySem.Spec PyProof.Rows L2
def stepV (xs:TQ)(lo hi st:Option Int):List V :=
 (sliceRange (sliceBounds lo hi st xs.length).1 (sliceBounds lo hi st xs.length).2.1 (sliceBounds lo hi st xs.length).2.2).filterMap (xs[·]?)
theorem Nr {xs:TQ}{us:TF}(r:Vals xs us)(l:List Nat):Vals (l.filterMap (xs[·]?)) (l.filterMap (us[·]?)):=by
 have len:=r.length
 induction l with
 | nil=>exact .nil
 | cons i l ih =>
  by_cases h:i<xs.length
  ·have e:xs[i]?=some xs[i]:=by simp[h]
   obtain⟨u,eu,ru⟩:=r.get e;rw[JP,JP,e,eu];exact .cons ru ih
  rw[JP,JP,qz U,qz U];exact ih
section
variable {X:Cx}
inductive rSl3 (K:TL) (x:V) (lo hi st:Option Int) (H:Hp) (Q:VK):Prop
 | mk (a:Addr) (xs:TQ) (a0:x=.ref a) (a1:SqL K H a xs) (a2:st≠some 0) (a3:(stepV xs lo hi st).length<=sizeLine) (a4:∀ p,H p=none->Q (.ref p) (upd H p (.lst (stepV xs lo hi st))))
def tSl3 (K:TL)(te:TE)(tl th tk:TO):TE:=λσ H Q=>te σ H λx H1=>tl σ H1 λl H2=>th σ H2 λu H3=>tk σ H3 λk H4=>rSl3 K x l u k H4 Q
theorem V2 {e:Expr}{lo hi:Option Expr}{st:Expr}{tl th tk:TO}{p2:Pos}(he:PE X e te)(hl:PO X lo tl)(hu:PO X hi th)(hk:PO X (some st) tk):PE X (.Subscript e (.Slice lo hi (some st) p2) pos) (tSl3 X.K te tl th tk):=by
 intro pins s σ H Q I h;refine Subscript_ (thn (he pins s σ H _ I h) λv s1 ⟨x,H1,I1,r1,q1⟩=>?_);refine wpAny_Slice (thn (hl pins s1 σ H1 _ I1 q1) λvl s2 ⟨l,H2,I2,pl,q2⟩=>thn (hu pins s2 σ H2 _ I2 q2) λvu s3 ⟨u,H3,I3,pu,q3⟩=>thn (hk pins s3 σ H3 _ I3 q3) λvk s4 ⟨k,H4,I4,pk,q4⟩=>?_);have I5:Inv X pins σ H4 { s4 with heap:=s4.heap.push { cls:=.type "slice",data:=.fields #[vl,vu,vk] } }:=I4.kept (t':=s4.toks) λb ob q=>YB _ q;obtain⟨a,xs,rfl,hx,h0,hn,q⟩:=q4
 cases r1;show wpAny (model X.prog X.w) X.A (subscriptTail e (.Slice lo hi (some st) p2) (.ref a) (.ref s4.heap.objs.size)) (EP X pins σ Q) X.xe { s4 with heap:=s4.heap.push { cls:=.type "slice",data:=.fields #[vl,vu,vk] } };obtain⟨its,r,ht,hz⟩:=I5.list hx;have hlen:=r.length;refine tail_any (ops:=[.ref a,.ref s4.heap.objs.size]) ht.isList.typeIs zX.lookup ?_ (by with_unfolding_all rfl);refine j5 ht.isList (Heap.IsSliceOf.new ..) pl pu pk h0 ?_ (by rw[YF] <;> omega);have e1:slicePick its.toArray l u k=((sliceRange (sliceBounds l u k xs.length).1 (sliceBounds l u k xs.length).2.1 (sliceBounds l u k xs.length).2.2).filterMap (its[·]?)).toArray:=by
  unfold slicePick;rw[YF,<-hlen];simp
 rw[e1];refine⟨.ref _,_,I5.laid (t':=s4.toks) (o:=.lst (stepV xs l u k)) (λb ob q=>YB _ q) (YE _) ?_,rfl,q _ (I5.hok.fresh (YE _))⟩;exact⟨hn,_,0,Nr r _,YG _ rfl⟩
end
section
variable {X:Cx}{K:TL}
inductive rIndexF (K:TL) (x:V) (vs:TQ) (H:Hp) (Q:VK):Prop
 | mk (l:Addr) (xs:TQ) (v:V) (j:Nat) (a0:x=.ref l) (a1:vs=[v]) (a2:SqL K H l xs) (a3:flatV v=true) (a4:xs.all flatV=true) (a5:∃ y,xs[j]?=some y/\eqV y v=true) (a6:∀ m y,m<j->xs[m]?=some y->eqV y v=false) (a7:xs.length<=1000) (a8:Q (.int j) H)
theorem T3 (hK:X.K=K:=by rfl):MtM X "list.index" (rIndexF K):=by
 subst hK;intro pins s σ H x vs v us Q I rx rv h;obtain⟨l,xs,w,j,rfl,rfl,hq,fw,fs,⟨yj,ej,tj⟩,hno,hl,q⟩:=h
 cases rx;obtain⟨u,rfl,ru⟩:=rv.one;obtain⟨its,r,pl,hz⟩:=I.list hq;obtain⟨⟨cls,dd,data,sl⟩,ho,hc,n,hd⟩:=pl.isList;simp only at hc hd;subst hc hd;have lr:=r.length;have hjn:j<xs.length:=(XG.mp ej).1;have hjs:j<its.toArray.size:=by simp;omega
 have at_:∀ (m:Nat) (hm:m<its.toArray.size) (y:V),xs[m]?=some y->eqU w its.toArray[m]=eqV y w:=λm hm y ey=>by
  obtain⟨z,e,rz⟩:=r.get ey;have hm':m<its.length:=by simpa using hm
  have:its[m]?=some its[m]:=by simp[hm']
  rw[this] at e;have e2:its.toArray[m]=z:=by simpa using YR e
  rw[e2];exact Pj rz (GU.mp fs y (YO ey))
 refine qQ F.slot_list_index ⟨_,ho,rfl⟩ F.entry_list_index (F.args_list_index_2 _ _) (SeqAt.list_indexAt l its.toArray n dd sl u (eqU w) j hjs U ?_ ?_) ⟨ho,λy hy=>?_,?_⟩
 ·rw[at_ j hjs yj ej];exact tj
 ·intro m hm hmj;have hm':m<xs.length:=by simp at hm;omega
  have ey:xs[m]?=some xs[m]:=by simp[hm']
  rw[at_ m hm _ ey];exact hno m _ hmj ey
 ·exact Xe ru fw r fs y (by simpa using hy)
 exact⟨.int j,H,I.tok _,⟨_,rfl⟩,q⟩
end
end Sb
namespace Sb
open PySem PySem.Builtin.SmallTypes PyProof.Rows
section
variable {prog:TM}{w:World}{A:Around}{E:TB}{s:Shared}
theorem Vg {T newId:String}{Bn:Builtin}{args:TF}{kw:List (Str × Value)}{S:PySem.Spec}{Q Q₁:TB}(ft:TypeCalled T newId "object.__init__")
  (hct:checkTypeCall T ⟨args,kw⟩=pure ()) (hcn:checkBuiltinCall newId ⟨.type T::args,kw⟩=pure ())
  (entryN:entryFor table newId=some Bn) (g:Meets (Bn ⟨.type T::args,kw⟩) S)
  (h:S A.in1 (wants Q₁ E) s)
  (hnext:∀ obj s₁,Q₁ obj s₁->s₁.TypeIs obj T/\argsOk "object.__init__" ⟨obj::args,kw⟩/\∃ Si,Meets (Builtin.«object.__init__» ⟨obj::args,kw⟩) Si/\Si A.in1 (wants (λr s₂=>r=.none/\Q obj s₂) E) s₁) :
  wpAny (model prog w) A (call (.type T) args kw) Q E s:=by
 obtain⟨c,tl,hmro⟩:=ft.mro;have hmade:=ft.made;have hsub:=ft.sub;refine wpAny_call (jt ?_);show wpAny _ _ (callAny (.type T) _) _ _ _;refine YD ⟨Code.quiet_builtin _ J2,JU F.entry_type_call ?_⟩;rw[Around.under_plain (weight_type_call_type T args kw) (units_type_call_type T args kw)];have h1:=ft.notType;have h2:=ft.canCreate
 repeat (any_goals (first | assumption | wp_step))
 refine qJ (zo ft.plain entryN (jR hcn (g prog w A.in1 _ s h))) λr s₁ hr=>?_
 cases r with
 | error e=>exact hr
 | ok fl =>
  cases fl with
  | ret obj =>
   obtain⟨hT,hok,Si,gi,hsi⟩:=hnext _ _ hr;have hli:=ft.init.lookup;have hbi:=ft.init.bind obj
   repeat (any_goals (first | assumption | wp_step))
   refine qJ (zo ft.init.plain F.entry_object_init (ft.init.check _ _ _ _ _ _ _ _ hT hok (gi prog w A.in1 _ s₁ hsi))) λr₂ s₂ hr₂=>?_
   cases r₂ with
   | error e=>exact hr₂
   | ok fl₂ =>
    cases fl₂ with
    | ret r =>
     obtain⟨rfl,hq⟩:=hr₂
     repeat (any_goals (first | assumption | wp_step))
    | _=>exact hr₂.elim
  | _=>exact hr.elim
end
end Sb
namespace Sb
open PySem PySem.Builtin.SmallTypes
section
variable {prog:TM}{w:World}{A:Around}{s:Shared}
theorem P8 {T newId:String}{self:Value}{rest:TF}{kw:List (Str × Value)}(hl:typeLookup (.type T) "__init__"=pure (some (.builtin "object.__init__")))
  (hm:Bind.madeBy (.type T)=pure (some newId)) (hne:(some newId != some "object.__new__")=true) :
  Meets (Builtin.«object.__init__» ⟨self::rest,kw⟩) (λ_ R s=>s.TypeIs self T/\R (.ok (.ret .none)) s):=by
 refine Meets.of_wp λprog w A R s hs=>?_;obtain⟨hT,hq⟩:=hs
 cases rest with
 | nil =>
  cases kw with
  | nil=>exact YD ⟨_,rfl,hq⟩
  | cons a kw =>
   repeat (any_goals (first | assumption | wp_step))
   exact⟨_,rfl,hq⟩
 | cons a rest =>
  repeat (any_goals (first | assumption | wp_step))
  exact⟨_,rfl,hq⟩
theorem La (a:Value)(k:Tok):checkTypeCall "enumerate" ⟨[a],[("start",.int 1 k)]⟩=pure ():=by kernel_rfl
theorem K3 (a:Value)(k:Tok):checkBuiltinCall "enumerate.__new__" ⟨[.type "enumerate",a],[("start",.int 1 k)]⟩=pure ():=by kernel_rfl
theorem Kt (o a:Value)(k:Tok):argsOk "object.__init__" ⟨[o,a],[("start",.int 1 k)]⟩:=by
 unfold argsOk
 kernel_rfl
theorem Q5 (l:Bool)(t:Addr)(k:Tok)(ys:Array Value)(n:Nat)(dd:TK)(sl:Array (Option Value)):Meets (Builtin.«enumerate.__new__» ⟨[.type "enumerate",.ref t],[("start",.int 1 k)]⟩) (λ_ R s=>s.heap.get? t=some { cls:=.type (kN l),dict:=dd,data:=.seq ys n,slots:=sl } ∧
  R (.ok (.ret (.ref (zH1 l s.heap t).objs.size))) { s with heap:=(zH1 l s.heap t).push { cls:=.type "enumerate",data:=.fields #[.none,.bool false,.ref s.heap.objs.size,rawInt 1,.none,.none] } }) :=
 .of_wp λprog w A R s h=>by
  obtain⟨hp,g,d,tk,os⟩:=s;obtain⟨hl,h⟩:=h;have hsub:=sub_enumerate;have hL:Iq l (Shared.heap ⟨hp,g,d,tk,os⟩) t ys:=⟨_,hl,rfl,n,rfl⟩
  wp_walk using zy hl
  refine wpAny_stack_any λst=>YD ?_;split
  ·rename_i c _ _ _ _ _
   cases (c == Value.type "enumerate")
   ·wp_walk using zy hl,U3 hL
    exact⟨_,rfl,h⟩
   wp_walk using zy hl,U3 hL
   exact⟨_,rfl,h⟩
  wp_walk using zy hl,U3 hL
  exact⟨_,rfl,h⟩
end
section
variable {prog:TM}{w:World}{A:Around}{E:TB}{s:Shared}
theorem Pq {k:Tok}{ys:Array Value}{Q:TB}(l:Bool)(ht:Iq l s.heap t ys)
  (h:∀ h',IsEnum h' (s.heap.objs.size+1) s.heap.objs.size 1 .none->Ir l h' s.heap.objs.size t 0->h'.objs.size=s.heap.objs.size+2->(∀ b o,s.heap.get? b=some o->h'.get? b=some o)->Q (.ref (s.heap.objs.size+1)) { s with heap:=h' }) :
  wpAny (model prog w) A (call (.type "enumerate") [.ref t] [("start",.int 1 k)]) Q E s:=by
 obtain⟨⟨c,dd,dt,sl⟩,e,c1,n,d1⟩:=ht
 cases c1
 cases d1;refine Vg (Q₁:=λobj s₁=>s₁.TypeIs obj "enumerate"/\Q obj s₁) zR (La _ _) (K3 _ _) F.entry_enumerate_new (Q5 l t k ys n dd sl) ⟨e,?_⟩ λobj s₁ hq=>⟨hq.1,Kt _ _ _,_,P8 zR.init.lookup zR.made J0,hq.1,rfl,hq.2⟩;have hz:(zH1 l s.heap t).objs.size=s.heap.objs.size+1:=JQ ..;have q:=YG (zH1 l s.heap t) (o:={ cls:=.type "enumerate",data:=.fields #[.none,.bool false,.ref s.heap.objs.size,rawInt 1,.none,.none] }) rfl;show _/\_;rw[hz] at q ⊢;exact⟨⟨_,q,rfl⟩,h _ q ⟨_,YB _ (YG _ rfl),rfl,rfl⟩ (by rw[JQ,hz]) λb o x=>YB _ (YB _ x)⟩
theorem G0 {fp:TH}{n:Nat}{P:Nat->Value->Prop}{St:Nat->Heap->Prop}(D:Draws prog w A it fp n P St):Draws prog w A it fp (n+1) (λi=>P (i - 1)) (λi h=>0<i/\St (i - 1) h) where
 live:=λi h st=>D.live _ h st.2
 frame:=λi h h' st k=>⟨st.1,D.frame _ h h' st.2 k⟩
 item:=λi s Q E lt st hQ=>D.item (i - 1) s Q E U st.2 λx h' tk px st' sb=>hQ x h' tk px ⟨Nat.succ_pos _,by rw[show i+1 - 1=i - 1+1 by omega];exact st'⟩ sb
 done:=λs Q E st hE=>D.done s Q E st.2 hE
end
end Sb
namespace Sb
open PySem PySem.Spec PyProof.Rows L2
def Ite1 (S:Hp->Addr->List V->Prop)(t:Addr):It :=
 ⟨λi H=>∃ xs,S H t xs/\i<xs.length,
   λi H v H'=>∃ p x,v=.ref p/\H p=none/\H'=upd H p (.tup [.int ((i+1:Nat):Int),x])/\∀ xs,S H t xs->xs[i]?=some x,
   λi H=>∃ xs,S H t xs/\i=xs.length⟩
section
variable {P:TM}{w:World}{K:TL}{es:TJ}{kk:Nat}{tp:Pos}{e it t:Addr}{l:Bool}
theorem Kl {i:Nat}{j:Int}(st:(∃ old,IsEnum h e it j old)/\Ir l h it t i):∀ b∈[e,it],∃ o,h.get? b=some o/\∀ v,o.data≠.cell v:=λb hb=>by
 obtain⟨⟨old,he⟩,⟨o1,e1,_,d1⟩⟩:=st;simp only [YJ,JZ,zp] at hb;rcases hb with rfl | rfl
 ·exact⟨_,he,λv q=>by have q':Data.fields _=Data.cell v:=q;cases q'⟩
 exact⟨_,e1,λv q=>by rw[d1] at q;cases q⟩
theorem Qo (O:e≠it)(t:Addr):Turn P w K (.Tuple es kk tp) (Ite1 (Sq l K) t) [e,it] e (λi h=>(∃ old,IsEnum h e it ((i+1:Nat):Int) old)/\Ir l h it t i) where
 mem:=J1
 obj:=λi h st=>Kl st
 keep:=λi h h' st k=>by
  obtain⟨⟨old,he⟩,⟨o1,e1,r1⟩⟩:=st;exact⟨⟨old,k e J1 _ he⟩,⟨o1,k it J1 _ e1,r1⟩⟩
 item:=by
  intro X hP hw hK hc i pins s σ H E I hf st hg;subst hP hw hK;obtain⟨xs,hx,lx⟩:=hg;have ob:=Kl st;obtain⟨⟨old,he⟩,c1⟩:=st;obtain⟨u1,v1,p1⟩:=Vo I hx;have n1:=v1.length;have m0:=hf e J1;refine wpAny_pyNext_enum_itemD (i:=i+1) (G0 (Ng I hc (hf it J1) hx u1)) he ⟨Nat.succ_pos _,c1,p1,Gd I⟩ (by simp;omega) O (by simp[O,(Ga I m0 hx).symm,(Lq m0).1]) λx g tk px out s1 pr sz kp=>?_;refine⟨_,rfl,wpAny_letOwnedTupleGo_enum out λg2 z2 sb=>?_⟩;obtain⟨x0,ex,rx⟩:=Dl v1 lx px;have sb2:∀ b,b≠e->g2.get? b=g.get? b:=λb hb=>sb.2 b hb;have new:ObjOk X.prog X.w (upd H s.heap.objs.size (.tup [.int ((i+1:Nat):Int),x0])) g2 s.heap.objs.size (.tup [.int ((i+1:Nat):Int),x0]) :=
   ⟨by show 2<=sizeLine;decide,[.int ((i+1:Nat):Int) tk,x],.cons ⟨tk,rfl⟩ (.cons rx .nil),⟨_,by rw[sb2 _ (qX (YH he))];exact pr,rfl,0,rfl⟩⟩
  have I2:=Sk (t':=tk+1) I hf (λb o hb q=>by
   simp only [YJ,JZ,zp,not_or] at hb;rw[sb2 b hb.1];exact kp b o hb.1 hb.2 q) (YE _) new
  refine⟨.ref s.heap.objs.size,_,I2,rfl,⟨_,x0,rfl,I.fresh,rfl,λxs' h1=>by rw[Gu I h1 hx];exact ex⟩,⟨⟨x,z2⟩,?_⟩,Dg rfl hf ob⟩;obtain⟨_,⟨o,q,r⟩,_⟩:=s1;exact⟨o,sb.extBut _ _ O.symm q,r⟩
 done:=by
  intro X hP hw hK hc i pins s σ H E I hf st hg;subst hP hw hK;obtain⟨xs,hx,rfl⟩:=hg;obtain⟨⟨old,he⟩,c1⟩:=st;obtain⟨u1,v1,p1⟩:=Vo I hx;have c1':Ir l s.heap it t u1.toArray.size:=by
   rw[YF,<-v1.length];exact c1
  refine wpAny_pyNext_enum_endD (Ng I hc (hf it J1) hx u1) he ⟨c1',p1,Gd I⟩ λg kp=>⟨rfl,?_⟩;exact Q9 (t':=s.toks) I hf λb o hb q=>by
   simp only [YJ,JZ,zp,not_or] at hb;exact kp b o hb.2 q
 self:=λ_ _ _ _ _ st h=>by
  obtain⟨⟨old,he⟩,_⟩:=st;exact wpAny_pyIter_enum he h
end
end Sb
namespace Sb
open PySem PyProof.Rows
section
variable {M:Model}{A:Around}{E:TB}{s:Shared}{env:Env}
theorem Ss {T:String}{e:Expr}{rest:TJ}{kws:List Keyword}{Q:TB}
  (h:wpAny M A (spliced (backTo pos (starEach (e::rest) env))) (λvs s₁=>wpAny M A (evalAll ((backToKw pos (keywordEach kws env)).map (·.2)))
   (λkvs s₂=>wpAny M A (call (.type T) vs (((backToKw pos (keywordEach kws env)).filterMap (·.1)).zip kvs)) Q E s₂) E s₁) E s)
  (he:backTo pos (starEach (e::rest) env)=(false,eval e env)::backTo pos (starEach rest env):=by rfl)
  (hplain:(backTo pos (starEach (e::rest) env)).any (·.1)=false:=by rfl)
  (hall:(backToKw pos (keywordEach kws env)).all (·.1.isSome)=true:=by rfl)
  (hkw:(backToKw pos (keywordEach kws env)).any (·.1.isNone)=false:=by rfl) :
  wpAny M A (callWith pos (.type T) [] (backTo pos (starEach (e::rest) env)) (backToKw pos (keywordEach kws env))) Q E s:=by
 rw[he] at h hplain ⊢;unfold callWith;refine YA (XM (GX (evalArgs_kwB (Q:=λa s₁=>wpAny M A (call (.type T) ([]++a.pos) a.kw) Q E s₁) hall h) (λa s₁ h₁=>YA (zk ?_)) λ_ _ x=>x));simp only [hplain,hkw,Bool.or_false];refine YA (YD ?_);exact YA (GX h₁ (λr s₂ hr=>YA (XM (wpAny_point (YD hr)))) λ_ _ x=>x)
end
end Sb
namespace Sb
open PySem PySem.Spec PyProof.Rows L2
section
variable {X:Cx}{es:TJ}{kk:Nat}{tp:Pos}{p pos:Pos}{ta:TA}{a:Expr}
inductive iEnum1_i (S:Hp->Addr->List V->Prop) (R:(It->Hp->Prop)) (vs:TQ) (H1:Hp):Prop
 | mk (t:Addr) (a0:vs=[.ref t]) (a1:(∃ xs,S H1 t xs)) (a2:R (Ite1 S t) H1)
def iEnum1 (S:Hp->Addr->List V->Prop)(ta:TA):TI:=λσ H R=>ta σ H (iEnum1_i S R)
theorem Lu {j:Nat}{cp kp:Pos}(hg:Gl X "enumerate")(hm:X.mg "enumerate"=none)(ha:PA X [a] ta)(hs:starEach [a] X.env=[(false,eval a X.env)]:=by rfl) :
  PI X (.Tuple es kk tp) (.Call (.Name "enumerate" p) [a] [⟨some "start",.Constant (.int 1) j cp,kp⟩] pos) (iEnum1 (SqL X.K) ta):=by
 intro pins s σ H R I h;refine qP (Wa I hg hm boot_enumerate (Ss (thn (ha pos pins s σ H _ I h) λus s1 ⟨vs,H1,I1,r1,q1⟩=>?_) (by rw[hs];rfl) (by rw[hs];rfl) rfl rfl));obtain⟨t,e,⟨xs,hx⟩,q⟩:=q1;subst e;obtain⟨t0,e0,rt⟩:=X8 r1
 cases (show t0=Value.ref t from rt);subst e0;refine kws_cons (wpAny_Constant_int ?_);refine kws_nil ?_;obtain⟨u1,v1,p1⟩:=Vo (l:=true) I1 hx;refine Pq true p1 λg z0 i1 sz kp=>wpAny_pyIter_enum z0 ?_;refine⟨s1.heap.objs.size+1,[s1.heap.objs.size+1,s1.heap.objs.size],_,_,H1,rfl,I1.kept (t':=s1.toks+1) kp,Qo (l:=true) (O:=?_) t,⟨⟨_,z0⟩,i1⟩,Fx I1 ?_,q⟩
 ·show @Ne Nat _ _;omega
 simp
end
def valK (kvs:List (Key × V))(k:Key):Option V:=(kvs.find? λkv=>decide (kv.1=k)).map (·.2)
def RelO:Option V->Option Value->Prop
 | none,none=>True
 | some x,some u=>RelV x u
 | _,_=>False
theorem RelO.getD {a:Option V}{b:Option Value}{x:V}{u:Value}(h:RelO a b)(d:RelV x u):RelV (a.getD x) (b.getD u):=by
 cases a with
 | none =>
  cases b with
  | none=>exact d
  | some _=>exact h.elim
 | some a =>
  cases b with
  | none=>exact h.elim
  | some _=>exact h
theorem Fq {kvs:List (Key × V)}{vs:List (Key × Value)}(r:KV kvs vs)(k:Key):RelO (valK kvs k) (valueAt vs k):=by
 unfold KV at r
 induction r with
 | nil=>exact True.intro
 | @cons p q ps qs h t ih =>
  obtain⟨h1,h2⟩:=h;by_cases e:p.1=k
  ·have e':q.1=k:=h1.symm.trans e;have b:valueAt (q::qs) k=some q.2:=by simp[valueAt,zA,e']
   have c:valK (p::ps) k=some p.2:=by simp[valK,zA,e]
   rw[b,c];exact h2
  have e':¬ q.1=k:=λz=>e (h1.trans z);have b:valueAt (q::qs) k=valueAt qs k:=by simp[valueAt,zA,e']
  have c:valK (p::ps) k=valK ps k:=by simp[valK,zA,e]
  rw[b,c];exact ih
theorem K9 {P:TM}{w:World}{k:Key}{u:Value}(r:RelV (kV k) u):(mixKind P w).is k u=true:=by
 cases k with
 | inl i=>obtain⟨t,e⟩:=(show ∃ t,u=Value.int i t from r);subst e;exact Q4 P w i t
 | inr x=>obtain⟨t,e⟩:=(show ∃ t,u=Value.str x t from r);subst e;exact Q3 P w x t
section
variable {X:Cx}
inductive rDGet (x:V) (vs:TQ) (H:Hp) (Q:VK):Prop
 | mk (a:Addr) (kvs:List (Key × V)) (k:Key) (a0:x=.ref a) (a1:vs=[kV k]) (a2:H a=some (.dK kvs)) (a3:Q ((valK kvs k).getD .non) H)
theorem N4:MtR X "dict.get" rDGet:=by
 intro pins s σ H x vs v us Q I rx rv h;obtain⟨a,kvs,k,rfl,rfl,e,q⟩:=h
 cases rx;obtain⟨u,rfl,ru⟩:=rv.one;obtain⟨z,hd,ws,rel,dd⟩:=(show ObjOk X.prog X.w H s.heap a (.dK kvs) from I.hok a _ e);refine call_meetsIn zb dd.typeIs PySem.F.entry_dict_get (PySem.F.args_dict_get_2 _ _) (meets_dict_get (mixKind X.prog X.w) a (K9 ru) hd) ⟨_,dd.mapOf,?_⟩;exact⟨_,H,I.tok _,(Fq rel k).getD (x:=.non) (show Value.none=Value.none from rfl),q⟩
end
end Sb
namespace Sb
open PySem
def Ris (xs:Array Nat):Prop:=∀ i j,i<j->j<xs.size->xs.getD i 0<xs.getD j 0
theorem Ks {xs:Array Nat}{j:Nat}(r:Ris xs):∀ (fuel lo hi:Nat),lo<=hi->hi<=xs.size->hi - lo<=fuel->(∀ i,i<lo->xs.getD i 0<j)->(∀ i,hi<=i->i<xs.size->j<=xs.getD i 0) →
  (SetTable.below.go xs j fuel lo hi)<=xs.size/\(∀ i,i<SetTable.below.go xs j fuel lo hi->xs.getD i 0<j)/\∀ i,SetTable.below.go xs j fuel lo hi<=i->i<xs.size->j<=xs.getD i 0:=by
 intro fuel
 induction fuel with
 | zero =>
  intro lo hi h1 h2 h3 a b;have:lo=hi:=U
  subst this;exact⟨h2,a,b⟩
 | succ fuel ih =>
  intro lo hi h1 h2 h3 a b;unfold SetTable.below.go;by_cases h:lo<hi
  ·rw[XQ h];have m1:(lo+hi) / 2<hi:=U
   have m2:lo<=(lo+hi) / 2:=U
   have eD:xs.getD ((lo+hi) / 2) j=xs.getD ((lo+hi) / 2) 0:=by simp[Array.getD,show (lo+hi) / 2<xs.size by omega]
   dsimp only;rw[eD];by_cases c:xs.getD ((lo+hi) / 2) 0<j
   ·rw[XQ c];refine ih _ _ U h2 U (λi hi'=>?_) b;by_cases e:i=(lo+hi) / 2
    ·rw[e];exact c
    exact JW (r i _ U U) c
   rw[XD c];refine ih _ _ m2 U U a (λi h4 h5=>?_);by_cases e:i=(lo+hi) / 2
   ·rw[e];omega
   have:=r ((lo+hi) / 2) i U h5;omega
  rw[XD h];have:lo=hi:=U
  subst this;exact⟨h2,a,b⟩
theorem Ww {xs:Array Nat}(r:Ris xs):SetTable.below xs j<=xs.size/\(∀ i,i<SetTable.below xs j->xs.getD i 0<j)/\∀ i,SetTable.below xs j<=i->i<xs.size->j<=xs.getD i 0 :=
 Ks r _ _ _ (JH _) (YE _) U (λi h=>absurd h (Nat.not_lt_zero _)) λi h1 h2=>U
theorem Ps {xs:Array Nat}(r:Ris xs){i:Nat}(h:i<xs.size):SetTable.below xs (xs.getD i 0+1)=i+1:=by
 obtain⟨a,b,c⟩:=Ww (j:=xs.getD i 0+1) r;apply zx
 ·apply GL;intro z;have:=b (i+1) z;have:=r i (i+1) U U;omega
 apply GL;intro z;have:=c i U h;omega
theorem Pr {xs:Array Nat}(r:Ris xs):SetTable.below xs 0=0:=by
 obtain⟨a,b,_⟩:=Ww (j:=0) r;apply Nat.eq_zero_of_not_pos;intro z;exact absurd (b 0 z) (Nat.not_lt_zero _)
theorem Jv {xs:Array Nat}{i:Nat}(r:Ris xs)(h:i<xs.size)(e:xs.getD i 0=j):xs[SetTable.below xs j]?=some j:=by
 obtain⟨a,b,c⟩:=Ww (j:=j) r;have h1:SetTable.below xs j<=i:=by
  apply GL;intro z;have:=b i z;omega
 have h2:SetTable.below xs j=i:=by
  apply zx h1;apply GL;intro z;have:=c (SetTable.below xs j) (YE _) U;have:=r (SetTable.below xs j) i z h;omega
 rw[h2,JI h];simp[Array.getD,h] at e;rw[e]
theorem Wr {xs:Array Nat}{p x i:Nat}(hp:p<=xs.size):(SetTable.insertAt xs p x).size=xs.size+1/\(SetTable.insertAt xs p x).getD i 0=if i<p then xs.getD i 0 else if i=p then x else xs.getD (i - 1) 0:=by
 have e:SetTable.insertAt xs p x=((xs.toList.take p)++x::xs.toList.drop p).toArray:=by
  apply Array.ext';rw[SetTable.toList_insertAt]
 have n:xs.toList.length=xs.size:=XZ;constructor
 ·rw[e];simp;omega
 have g:∀ (l:List Nat) (k:Nat),l.toArray.getD k 0=l.getD k 0:=λl k=>by simp[Array.getD,List.getD,GH];split <;> simp_all
 have g2:∀ k,xs.getD k 0=xs.toList.getD k 0:=λk=>by rw[<-g]
 rw[e,g,g2,g2];by_cases h:i<p
 ·rw[XQ h];have h':i<min p xs.size:=U
  simp[List.getD,zq,List.getElem?_take,h,n];rw[XQ h']
 rw[XD h];by_cases h2:i=p
 ·subst h2;simp[List.getD,zq,n,GE hp]
 rw[XD h2];have:i - min p xs.size=(i - p - 1)+1:=by rw[GE hp];omega
 simp[List.getD,zq,n,GE hp,h];rw[show i - p=(i - p - 1)+1 by omega,List.getElem?_cons_succ,Y04,show p+(i - p - 1)=i - 1 by omega];simp
theorem J7 {xs:Array Nat}(r:Ris xs)(no:∀ i,i<xs.size->xs.getD i 0≠j):Ris (SetTable.insertAt xs (SetTable.below xs j) j):=by
 obtain⟨a,b,c⟩:=Ww (j:=j) r;intro i k hik hk;rw[(Wr (i:=i) a).1] at hk;rw[(Wr (i:=i) a).2,(Wr (i:=k) a).2];generalize SetTable.below xs j=p at *
 by_cases h1:i<p
 ·rw[XQ h1];by_cases h2:k<p
  ·rw[XQ h2];exact r i k hik U
  rw[XD h2];by_cases h3:k=p
  ·rw[XQ h3];exact b i h1
  rw[XD h3];exact r i (k - 1) U U
 rw[XD h1,XD (show ¬ k<p by omega),XD (show ¬ k=p by omega)];by_cases h3:i=p
 ·rw[XQ h3];have:=c (k - 1) U U;have:=no (k - 1) U;omega
 rw[XD h3];exact r (i - 1) (k - 1) U U
structure TabG (t:SetTable):Prop where
 ris:Ris t.place
 nd:t.dummies=#[]
theorem Nz (n:Nat):Ris (Array.range n):=λi j h hj=>by
 simp at hj;simp[Array.getD,hj,show i<n by omega];exact h
theorem TabG.standIn (t:SetTable)(n:Nat):TabG (t.standIn n):=⟨Nz n,rfl⟩
theorem Ln {t:SetTable}{f:Nat->Int}{h:Int}(nd:t.dummies=#[]):∀ (fuel:Nat) (p:SetTable.Probe) (j:Nat) (d:Option Nat),p.dummy=none->SetTable.probe.go t f h fuel p=some (.empty j d)->d=none/\t.slot j=.empty:=by
 intro fuel
 induction fuel with
 | zero=>intro p j d _ e;cases e
 | succ fuel ih =>
  intro p j d hp e;unfold SetTable.probe.go at e;have adv:(t.advance p).dummy=none:=by
   unfold SetTable.advance;split
   ·exact hp
   exact hp
  cases hs:t.slot p.j with
  | empty =>
   rw[hs] at e;simp only [zZ,SetTable.Met.empty.injEq] at e;obtain⟨rfl,rfl⟩:=e;exact⟨hp,hs⟩
  | dummy =>
   exfalso;unfold SetTable.slot at hs;dsimp only at hs;split at hs
   ·cases hs
   rw[nd] at hs;simp[SetTable.has] at hs
  | live i =>
   rw[hs] at e;dsimp only at e;split at e
   ·cases e
   exact ih _ j d adv e
theorem Jx {t:SetTable}(g:TabG t){h:Int}{j:Nat}{b:Bool}(e:t.freeSlot h=some (j,b)):(∀ i,i<t.place.size->t.place.getD i 0≠j)/\b=false:=by
 unfold SetTable.freeSlot SetTable.probe at e;split at e
 ·rename_i j' d hp
  obtain⟨rfl,sl⟩:=Ln g.nd _ _ j' d rfl hp;simp only [jb,Y00,zZ,Prod.mk.injEq] at e;obtain⟨rfl,rfl⟩:=e;refine⟨λi hi z=>?_,rfl⟩;have:=Jv g.ris hi z;unfold SetTable.slot at sl;dsimp only at sl;rw[this] at sl;simp at sl
 cases e
theorem TabG.put {t:SetTable}(g:TabG t){j:Nat}(no:∀ i,i<t.place.size->t.place.getD i 0≠j):TabG (t.put j).1:=by
 refine⟨J7 g.ris no,?_⟩;show (if SetTable.has t.dummies j=true then _ else t.dummies)=#[];rw[g.nd];simp[SetTable.has]
theorem TabG.or {t:SetTable}(g:TabG t)(n:Nat):TabG (t.orStandIn n):=by
 unfold SetTable.orStandIn;split
 ·exact g
 exact TabG.standIn _ _
theorem TabG.layNew {t:SetTable}(g:TabG t)(es:Array (Int × Value))(h:Int)(x:Value):TabG (layNew t es h x).2.1/\(layNew t es h x).2.1.led=t.led:=by
 unfold PySem.layNew;split
 ·rename_i slot b e
  obtain⟨no,_⟩:=Jx g e;have l:∀ (u:SetTable) (n:Nat),(u.orStandIn n).led=u.led:=λu n=>by
   unfold SetTable.orStandIn;split <;> rfl
  exact⟨(g.put no).or _,l _ _⟩
 exact⟨TabG.standIn _ _,rfl⟩
theorem TabG.laid {mask finger moves:Nat}{led plain:Bool}{hs:Array Int}{t:SetTable}{o:Array Nat}(e:SetTable.laid mask finger moves led plain hs=some (t,o)):TabG t/\t.led=led:=by
 unfold SetTable.laid at e
 cases hl:SetTable.layClean mask hs with
 | none=>rw[hl] at e;cases e
 | some owner =>
  rw[hl] at e;simp only [Option.bind_eq_bind,Option.bind_some,Option.pure_def,zZ,Prod.mk.injEq] at e;obtain⟨rfl,_⟩:=e;refine⟨⟨?_,rfl⟩,rfl⟩;have key:((List.filterMap (λj=>(owner.getD j none).map (j,·)) (List.range (mask+1))).map (·.1)).Pairwise (·<·):=by
   rw[qC];refine List.Pairwise.filterMap _ ?_ (z3 (n:=mask+1));intro a a' h b hb b' hb';simp only [Option.mem_def,Option.map_eq_some_iff] at hb hb';obtain⟨_,_,rfl⟩:=hb;obtain⟨_,_,rfl⟩:=hb';exact h
  intro i j hij hj;simp only [YF] at hj;have g:∀ (l:List Nat) (k:Nat) (hk:k<l.length),l.toArray.getD k 0=l[k]:=λl k hk=>by simp[Array.getD,hk]
  rw[g _ i U,g _ j hj];exact JN.mp key i j _ _ hij
theorem TabG.relay {t:SetTable}(g:TabG t)(es:Array (Int × Value))(n:Nat):TabG (relayAll t es n).2.1/\(relayAll t es n).2.1.led=t.led:=by
 unfold relayAll;split
 ·rename_i t' o e
  have:=TabG.laid e;dsimp only;split
  ·exact this
  exact⟨TabG.standIn _ _,rfl⟩
 exact⟨TabG.standIn _ _,rfl⟩
section
variable {prog:TM}{w:World}{K:Type}[DecidableEq K]{knd:KeyKind prog w K}{A:Around}{E:TB}{s:Shared}
structure SetG (knd:KeyKind prog w K)(h:Heap)(a:Addr)(es:Array (Int × Value))(led:Bool):Prop where
 o:∃ o ep t,h.get? a=some o/\o.ExactSet/\o.data=.set es ep t/\t.fits es.size=true/\TabG t/\t.led=led
 el:ElemsOf knd es.toList
 sz:es.size<scanBound
theorem Px {a:Addr}{es:Array (Int × Value)}{ep:Nat}{t:SetTable}(ho:h.get? a=some o)(hex:o.ExactSet)(hd:o.data=.set es ep t)
  {es':Array (Int × Value)} {t':SetTable} {led:Bool} (hel:ElemsOf knd es'.toList) (hb:es'.size<scanBound) (hf:t'.fits es'.size=true) (g:TabG t') (l:t'.led=led) :
  (h.update a (Obj.putSet es' t')).get? a=some { o with data:=.set es' (ep+1) t' }/\SetG knd (h.update a (Obj.putSet es' t')) a es' led:=by
 have hg:(h.update a (Obj.putSet es' t')).get? a=some { o with data:=.set es' (ep+1) t' }:=by
  have:=GG (Obj.putSet es' t') ho (by rw[putSet_of es' t' hd];rfl);rw[putSet_of es' t' hd] at this;exact this
 exact⟨hg,⟨_,ep+1,t',hg,hex,rfl,hf,g,l⟩,hel,hb⟩
theorem Ti {g:Bool->Sem Unit}(hg:∀ (b:Bool) (s₁:Shared) (Q':Unit->Shared->Prop),Q' () s₁->wpAny (model prog w) A (g b) Q' E s₁)
  {a:Addr} {o:Obj} {es:Array (Int × Value)} {ep:Nat} {t:SetTable} (ho:s.heap.get? a=some o) (hex:o.ExactSet) (hd:o.data=.set es ep t)
  {es1:Array (Int × Value)} {t2:SetTable} {led:Bool} (hel1:ElemsOf knd es1.toList)
  (hb1:es1.size<scanBound) (hf2:t2.fits es1.size=true) (g2:TabG t2) (l2:t2.led=led) {wasDummy:Bool} {R:Option Bool->Shared->Prop}
  (h:∀ h' es2,Heap.SameBut a s.heap h'->SetG knd h' a es2 led->es2.toList.Perm es1.toList->R (some true) { s with heap:=h' }) :
  wpAny (model prog w) A (do
    storeSet a es1 t2
    if (!wasDummy && t2.tooFull)=true then do
      g (relayAll t2 es1 (SetTable.grown es1.size)).2.2
      storeSet a (relayAll t2 es1 (SetTable.grown es1.size)).1 (relayAll t2 es1 (SetTable.grown es1.size)).2.1
      pure (some true)
     else pure (some true)) R E s:=by
 refine YA (wpAny_storeSet_of ho hd ?_ (fits_of_scanBound hb1));obtain⟨ho1,hS1⟩:=Px (knd:=knd) ho hex hd hel1 hb1 hf2 g2 l2;have hsb1:=JD s.heap a (Obj.putSet es1 t2);split
 ·have hp:=relayAll_perm t2 es1 (SetTable.grown es1.size);have hfr:=relayAll_fits t2 es1 (SetTable.grown es1.size);have hgr:=g2.relay es1 (SetTable.grown es1.size);generalize hRl:relayAll t2 es1 (SetTable.grown es1.size)=Rl at hp hfr hgr ⊢;obtain⟨es2,t3,gave2⟩:=Rl;dsimp only at hp hfr hgr ⊢;have hel2:ElemsOf knd es2.toList:=hel1.perm hp;have hsz:es2.size=es1.size:=by rw[<-XZ,hp.length_eq,XZ]
  have hb2:es2.size<scanBound:=by rw[hsz];exact hb1
  refine YA (hg _ _ _ ?_);refine YA (wpAny_storeSet_of ho1 rfl ?_ (fits_of_scanBound hb2));obtain⟨_,hS2⟩:=Px (knd:=knd) ho1 hex rfl hel2 hb2 hfr hgr.1 (hgr.2.trans l2);exact YD (h _ es2 (hsb1.trans (JD _ a _)) hS2 hp)
 exact YD (h _ es1 hsb1 hS1 (List.Perm.refl _))
theorem Dp {a:Addr}{es:Array (Int × Value)}{led:Bool}{k:K}{x:Value}{Q:Bool->Shared->Prop}(hkey:knd.is k x=true)(hsc:x.scannable=true)(hS:SetG knd s.heap a es led)
  (hroom:es.size+1<scanBound) (new:∀ e∈es.toList,knd.is k e.2=false)
  (h:∀ h' es',Heap.SameBut a s.heap h'->SetG knd h' a es' led->es'.toList.Perm (es.toList++[(knd.hash k,x)])->Q true { s with heap:=h' }) :
  wpAny (model prog w) A (setAddHashed a x (knd.hash k)) Q E s:=by
 obtain⟨⟨o,ep,t,ho,hex,hd,hf,tg,tl⟩,hel,hb⟩:=hS;unfold setAddHashed setAddHashedIn;refine XM (YA (qk ho hd hf ?_));dsimp only;rw[byScan_of hsc hb hel];simp only [↓reduceIte];unfold setAddByScan;refine YA ?_;refine YA (GJ ?_);refine YA (wpAny_setScan_of hkey ho hd hf hel ?_);have hr:List.findIdx? (λe=>knd.is k e.2) es.toList=none:=List.findIdx?_eq_none_iff.mpr new;rw[hr];dsimp only;have hgw:∀ (b:Bool) {s₁:Shared} {Q':Unit->Shared->Prop},Q' () s₁->wpAny (model prog w) A (match b with | true=>rule "set.scan.the-table-gave-way" | false=>pure ()) Q' E s₁ :=
  λb s₁ Q' hq=>by cases b <;> first | exact YD hq | exact GJ hq
 have hperm:=layNew_perm t es (knd.hash k) x;have hfits:=layNew_fits t es (knd.hash k) x;have hlay:=tg.layNew es (knd.hash k) x;generalize hL:layNew t es (knd.hash k) x=L at hperm hfits hlay ⊢;obtain⟨es1,t1,wasDummy,gave⟩:=L;dsimp only at hperm hfits hlay ⊢;rw[Array.toList_push] at hperm;have hel1:ElemsOf knd es1.toList:=(hel.push hkey hsc).perm hperm;have hb1':es1.size<scanBound:=by rw[<-XZ,hperm.length_eq,XF,XZ];simpa using hroom
 refine YA (hgw _ ?_);have hend:∀ h' es',Heap.SameBut a s.heap h'->SetG knd h' a es' led->es'.toList.Perm es1.toList->Q true { s with heap:=h' }:=λh' es' hsb hS' p=>h h' es' hsb hS' (p.trans hperm);have off:∀ {u:SetTable},TabG u->TabG { u with plain:=false }:=λg=>⟨g.ris,g.nd⟩;split
 ·refine YA ?_;rw[hashByValue_scannable 8 hsc];refine YD ?_;refine Ti (led:=led) ?_ ho hex hd hel1 hb1' ?_ ?_ ?_ ?_
  ·intro b s₁ Q' hq;cases b <;> first | exact YD hq | exact GJ hq
  ·split
   ·exact hfits
   exact SetTable.fits_plain_off hfits
  ·split
   ·exact hlay.1
   exact off hlay.1
  ·split
   ·exact hlay.2.trans tl
   exact hlay.2.trans tl
  intro h' es' hsb hS' p;dsimp only;exact YD (hend h' es' hsb hS' p)
 refine YA (YD ?_);simp only [↓reduceIte];refine Ti ?_ ho hex hd hel1 hb1' hfits hlay.1 (hlay.2.trans tl) ?_
 ·intro b s₁ Q' hq;cases b <;> first | exact YD hq | exact GJ hq
 intro h' es' hsb hS' p;dsimp only;exact YD (hend h' es' hsb hS' p)
end
end Sb
namespace Sb
open PySem PySem.Spec PyProof.Rows L2
section
variable {prog:TM}{w:World}{A:Around}{s:Shared}{κ:Type}[DecidableEq κ]{knd:KeyKind prog w κ}
theorem Xy:entryFor table "set.update.loop"=some Builtin.«set.update.loop»:=j9 (by kernel_rfl)
theorem X3:plainId "set.update.loop"=true:=by decide +kernel
def setL (knd:KeyKind prog w κ)(ks:List κ)(vs:TF):List (Int × Value):=List.zipWith (λk v=>(knd.hash k,v)) ks vs
theorem SetG.on {a:Addr}{es:Array (Int × Value)}{led:Bool}(g:SetG knd h a es led)(k:∀ o,h.get? a=some o->h'.get? a=some o):SetG knd h' a es led:=by
 obtain⟨⟨o,ep,t,ho,r⟩,el,sz⟩:=g;exact⟨⟨o,ep,t,k o ho,r⟩,el,sz⟩
theorem Le {R:Result->Shared->Prop}{h0:Heap}{l I d:Addr}{items:Array Value}{ks:List κ}{led:Bool}(hA:A.handled=none)(hI:h0.get? I=none)(hd:h0.get? d=none)(hdI:d≠I)(hl:h0.IsList l items)
  (len:items.size=ks.length) (hz:ks.length<1000) (hk:∀ (i:Nat) (k:κ) (v:Value),ks[i]?=some k->items[i]?=some v->knd.is k v=true/\v.scannable=true) (nd:ks.Nodup) :
  ∀ (n i:Nat) (s:Shared) (es:Array (Int × Value)),ks.length - i=n->i<=ks.length->s.heap.IsListIter I l i->SetG knd s.heap d es led->es.toList.Perm (setL knd (ks.take i) (items.toList.take i))->(∀ b o,h0.get? b=some o->s.heap.get? b=some o) →
  (∀ h' tk es',SetG knd h' d es' led->es'.toList.Perm (setL knd ks items.toList)->(∀ b o,b≠I->b≠d->s.heap.get? b=some o->h'.get? b=some o)->R (.ok (.ret .none)) { s with heap:=h',toks:=tk }) →
  codeAny (model prog w) A (.builtin "set.update.loop" ⟨[.ref d,.ref I],[]⟩) R s:=by
 have hlI:l≠I:=λe=>by
  obtain⟨o,ho,_⟩:=hl;rw[e,hI] at ho
  cases ho
 have W:=Walks.listQ (prog:=prog) (w:=w) (A:=A.in1) (qs:=[]) (.inl hA) I l hlI J1 items;intro n
 induction n with
 | zero =>
  intro i s es hn hi hit hg hp kp hR;have hin:i=ks.length:=U
  subst hin;refine JU Xy ?_;rw[GA X3 _];show wpAny _ A.in1 (pyNext (.ref I) >>= _) _ _ s;refine YA (W.done s _ _ (by rw[len];exact⟨hit,hl.at λo e=>kp _ _ e,J1⟩) λh' tk hk'=>?_);rw[XV,<-len,JM J1] at hp;refine YD (hR h' tk es (hg.on λo e=>hk' d o (by simpa using hdI) e) hp λb o hb _ e=>hk' b o (by simpa using hb) e)
 | succ n ih =>
  intro i s es hn hi hit hg hp kp hR;have hlt:i<ks.length:=U
  refine JU Xy ?_;rw[GA X3 _];show wpAny _ A.in1 (pyNext (.ref I) >>= _) _ _ s;refine YA (W.item i s _ _ U ⟨hit,hl.at λo e=>kp _ _ e,J1⟩ λx h' tk hx' st hk'=>?_);have hpos:items[i]?=some x:=hx';have ek:ks[i]?=some ks[i]:=by simp[hlt]
  obtain⟨kis,ksc⟩:=hk i _ x ek hpos;have kp':∀ b o,h0.get? b=some o->h'.get? b=some o:=λb o e=>hk' b o (by simpa using λz:b=I=>by rw[z,hI] at e;cases e) (kp b o e);have hg':=hg.on (h':=h') λo e=>hk' d o (by simpa using hdI) e;have ts:ks.take (i+1)=ks.take i++[ks[i]]:=by rw[qD,ek];rfl
  have tv:items.toList.take (i+1)=items.toList.take i++[x]:=by rw[qD,qA,hpos];rfl
  have el:(ks.take i).length=(items.toList.take i).length:=by simp[XS,len]
  have new:∀ e∈es.toList,knd.is ks[i] e.2=false:=λe he=>by
   have:=hp.mem_iff.mp he;unfold setL at this;obtain⟨m,hm,em⟩:=jW this;rw[zD,XS,XS,XZ] at hm;rw[List.getElem_zipWith,j2,j2] at em;subst em;have k2:=hk m ks[m] items[m] J1 J1
   cases hb:knd.is ks[i] (items.toList[m]'(by simp;omega)) with
   | false=>rfl
   | true =>
    exfalso;have:=knd.inj _ _ _ hb (show knd.is ks[m] (items.toList[m]'(by simp;omega))=true from k2.1);exact (JN.mp nd m i U hlt U) this.symm
  have sz:es.size+1<scanBound:=by
   have:=hp.length_eq;unfold setL at this;rw[zD,XS,XS,XZ] at this;show es.size+1<4096;omega
  show wpAny _ _ (holding [x] _ >>= _) _ _ _;refine YA (XM ?_);unfold setAdd;refine XM (YA (knd.pyHash kis ?_));refine Dp kis ksc hg' sz new λh2 es2 sb2 g2 p2=>?_;refine YD ⟨qL X3 _,?_⟩;refine ih (i+1) _ es2 U hlt (st.1.at λo e=>(sb2.2 I (GM hdI)).trans e) g2 ?_ (λb o e=>(sb2.2 b (λz=>by rw[z,hd] at e;cases e)).trans (kp' b o e)) λh3 tk3 es3 g3 p3 k3=>?_
  ·refine p2.trans ?_;rw[ts,tv];unfold setL;rw[List.zipWith_append el];exact List.Perm.append_right _ hp
  exact hR h3 tk3 es3 g3 p3 λb o bI bd e=>k3 b o bI bd ((sb2.2 b bd).trans (hk' b o (by simpa using bI) e))
end
section
variable {prog:TM}{w:World}{A:Around}{E:TB}{s:Shared}{κ:Type}[DecidableEq κ]
theorem Kw (a:Value):checkTypeCall "set" ⟨[a],[]⟩=pure ():=by kernel_rfl
theorem Jn (a:Value):checkBuiltinCall "set.__new__" ⟨[.type "set",a],[]⟩=pure ():=by kernel_rfl
def byT (w:World):Bool:=w.params.followText "set-order"
abbrev set0 (w:World):Obj:={ cls:=.type "set",dict:=none,data:=.set #[] 0 (.fresh 0 0 (!byT w)) }
theorem Mw {a:Value}{Q₁:TB}(h:Q₁ (.ref s.heap.objs.size) { s with heap:=s.heap.push (set0 w) }) :
  codeAny (model prog w) A (.call (.builtin "set.__new__") ⟨[.type "set",a],[]⟩) (wants Q₁ E) s:=by
 refine jt ?_;show wpAny _ A.in1 (do checkBuiltinCall "set.__new__" ⟨[.type "set",a],[]⟩;again (.builtin "set.__new__" ⟨[.type "set",a],[]⟩)) _ _ s;refine YA (jR (Jn a) (YD ⟨qL F.plain_set_new _,JU F.entry_set_new ?_⟩));rw[GA F.plain_set_new _];unfold Builtin.«set.__new__» Builtin.Frozenset.newClass;have hsub:=sub_set_self;obtain⟨hp,g,d,tk,os⟩:=s;dsimp only
 wp_walk
 refine jd (YD ?_);dsimp only;simp only [newObj];refine YA (wpAny_alloc (YD ?_));exact YD h
theorem Tj:isSubtype (.type "list") (.type "set")=pure false:=by rw[qH];kernel_rfl
theorem Ug:isSubtype (.type "list") (.type "frozenset")=pure false:=by rw[qH];kernel_rfl
theorem Po {M:Model}{self a:Value}{Q:Unit->Shared->Prop}(hT:s.TypeIs self "set")(hQ:Q () s):wpAny M A (checkBuiltinCall "set.__init__" ⟨[self,a],[]⟩) Q E s:=by
 simp only [checkBuiltinCall,kind_set_init,split_set_init,sig_set_init];refine YA (JY hT sub_set_self ?_);simp only [Bool.not_true,JX,qF];unfold Bind.checkArgs;dsimp only;refine YA (m:=Bind.printed "set" true _ _) (PyProof.Rows.printed_name J0 ?_);refine YA (m:=Bind.printed "*" false _ _) (PyProof.Rows.printed_star (self:=self) rfl hT λshort=>?_);have hrn:(Manifest.Receiver.self == Manifest.Receiver.none)=false:=J0
 have hn:(if (Manifest.Receiver.self == Manifest.Receiver.none)=true then [self,a].length else [self,a].length - 1)=1:=by simp[hrn]
 rw[hn];simp only [List.map_nil];have hc:Bind.check ⟨.positional,"set","*",.self,[⟨"iterable",.posOnly,false⟩]⟩ "set" short 1 []=pure ():=by
  simp[Bind.check,Bind.checkCount,Bind.isPositional];intro z;exact absurd z J0
 rw[hc];exact YD hQ
set_option maxRecDepth 100000 in
theorem Mz {a:Value}{Q:TB}
  (h:wpAny (model prog w) A.in1.in1 (Builtin.«set.__init__» ⟨[.ref s.heap.objs.size,a],[]⟩) (λfin s'=>fin=.done (.ret .none)/\Q (.ref s.heap.objs.size) s') E { s with heap:=s.heap.push (set0 w) }) :
  wpAny (model prog w) A (call (.type "set") [a]) Q E s:=by
 obtain⟨c,tl,hmro⟩:=qx.mro;have hmade:=qx.made;have hsub:=qx.sub;refine wpAny_call (jt ?_);show wpAny _ _ (callAny (.type "set") _) _ _ _;refine YD ⟨Code.quiet_builtin _ J2,JU F.entry_type_call ?_⟩;rw[Around.under_plain (weight_type_call_type "set" [a] []) rfl];have h1:=qx.notType;have h2:=qx.canCreate;have hct:=Kw a
 repeat (any_goals (first | assumption | wp_step))
 refine qJ (Mw (E:=E) (Q₁:=λobj s₁=>obj=.ref s.heap.objs.size/\s₁={ s with heap:=s.heap.push (set0 w) }) ⟨rfl,rfl⟩) λr s₁ hr=>?_
 cases r with
 | error e=>exact hr
 | ok fl =>
  cases fl with
  | ret obj =>
   obtain⟨rfl,rfl⟩:=hr;have hS:(s.heap.push (set0 w)).get? s.heap.objs.size=some (set0 w):=YG _ rfl;have hT:Shared.TypeIs { s with heap:=s.heap.push (set0 w) } (.ref s.heap.objs.size) "set":=⟨_,hS,rfl⟩;have hli:=qx.init.lookup;have hbi:=qx.init.bind (.ref s.heap.objs.size)
   repeat (any_goals (first | assumption | wp_step))
   refine qJ (zo (R:=wants (λr s₂=>r=.none/\Q (.ref s.heap.objs.size) s₂) E) qx.init.plain F.entry_set_init (Po hT ?_)) λr₂ s₂ hr₂=>?_
   ·refine GX h (λfin s' hf=>?_) λ_ _ x=>x;obtain⟨rfl,q⟩:=hf;exact⟨rfl,q⟩
   cases r₂ with
   | error e=>exact hr₂
   | ok fl₂ =>
    cases fl₂ with
    | ret r =>
     obtain⟨rfl,hq⟩:=hr₂
     repeat (any_goals (first | assumption | wp_step))
    | _=>exact hr₂.elim
  | _=>exact hr.elim
end
section
variable {prog:TM}{w:World}{A:Around}{E:TB}{s:Shared}{κ:Type}[DecidableEq κ]{knd:KeyKind prog w κ}
theorem Td {l:Addr}{items:Array Value}{ks:List κ}{Q:TB}(hA:A.handled=none)(hl:s.heap.IsList l items)
  (len:items.size=ks.length) (hz:ks.length<1000) (hk:∀ (i:Nat) (k:κ) (v:Value),ks[i]?=some k->items[i]?=some v->knd.is k v=true/\v.scannable=true) (nd:ks.Nodup)
  (h:∀ h' tk es,SetG knd h' s.heap.objs.size es (!byT w)->es.toList.Perm (setL knd ks items.toList)->(∀ b o,s.heap.get? b=some o->h'.get? b=some o)->Q (.ref s.heap.objs.size) { s with heap:=h',toks:=tk }) :
  wpAny (model prog w) A (call (.type "set") [.ref l]) Q E s:=by
 refine Mz ?_;have hS:(s.heap.push (set0 w)).get? s.heap.objs.size=some (set0 w):=YG _ rfl;have hT:Shared.TypeIs { s with heap:=s.heap.push (set0 w) } (.ref s.heap.objs.size) "set":=⟨_,hS,rfl⟩;have g0:SetG knd (s.heap.push (set0 w)) s.heap.objs.size #[] (!byT w):=⟨⟨_,0,_,hS,⟨rfl,rfl,rfl⟩,rfl,rfl,⟨λi j _ hj=>by simp[SetTable.fresh] at hj,rfl⟩,rfl⟩,λe he=>by simp at he,J0⟩;have hl1:(s.heap.push (set0 w)).IsList l items:=hl.at λo e=>YB _ e;have hTl:Shared.TypeIs { s with heap:=s.heap.push (set0 w) } (.ref l) "list":=Heap.IsList.typeIs (s:={ s with heap:=s.heap.push (set0 w) }) hl1;have f1:=Tj;have f2:=Ug;unfold Builtin.«set.__init__» noKeywords
 wp_walk using qB hl1
 have e1:(s.heap.push (set0 w)).objs.size=s.heap.objs.size+1:=JQ ..;have no:∀ {n:Nat},s.heap.objs.size<=n->s.heap.get? n=none:=λ{n} hn=>by
  cases e:s.heap.get? n with
  | none=>rfl
  | some o=>exact absurd (YH e) (zQ.mpr hn)
 have up:∀ (h':Heap) (x y:Obj) (b:Addr) (o:Obj),h'.get? b=some o->((h'.push x).push y).get? b=some o:=λh' x y b o e=>YB _ (YB _ e);refine Le (A:=A.in1.in1) (knd:=knd) (h0:=s.heap) (l:=l) (led:=!byT w) (items:=items) (ks:=ks) hA (no (by show s.heap.objs.size<=(s.heap.push (set0 w)).objs.size;omega)) (no (YE _)) (by show s.heap.objs.size≠(s.heap.push (set0 w)).objs.size;omega) hl len hz hk nd ks.length 0 _ #[] rfl (JH _) ?_ ?_ (by simp[setL]) ?_ λh' tk es g p k=>?_
 ·exact⟨_,YG _ rfl,rfl,rfl⟩
 ·exact g0.on λo e=>YB _ e
 ·exact λb o e=>up _ _ _ b o e
 dsimp only;refine YD (YD ⟨rfl,h h' tk es g p λb o e=>?_⟩);have lt:=YH e;exact k b o (YT (by show b<(s.heap.push (set0 w)).objs.size;rw[e1];exact Nat.lt_succ_of_lt lt)) (YT lt) (up _ _ _ b o e)
end
open PySem.Builtin PySem.Builtin.Str
section
variable {prog:TM}{w:World}{A:Around}{E:TB}{s:Shared}{x y:PySem.Str}{t u:Tok}{Q:TB}
theorem Kx (hy:(y.length == 0)=false)(hx:x.length<=1000000)(hz:(partsBetween x (occurrences x y 0 x.length (x.length+1)) y.length).length<=sizeLine)
  (hq:∀ l k,l.map (·.1)=Txt.split x y->Q (.ref s.heap.objs.size) { s with heap:=s.heap.push { cls:=.type "list",data:=.seq (strValues l).toArray },toks:=k }):wpAny (model prog w) A (call (.builtin "str.split") [.str x t,.str y u]) Q E s:=by
 have hs:x.length<=sizeLine:=XA hx J0
 cases h1:(decide (x.length<y.length) || decide (strKind x<strKind y))
 ·cases hf:(occurrences x y 0 x.length (x.length+1)).isEmpty
  ·refine qQ je (zf _ _ _) j3 (zS _ _) (meets_str_split_sep x y t u h1 hy hf hs hz) ?_;have e:=hq (numbered s.toks (partsBetween x (occurrences x y 0 x.length (x.length+1)) y.length));rw[<-strsFrom_eq] at e;exact e _ ((numbered_texts _ _).trans ((XD (zE h1)).trans (XD (zE hf))).symm)
  exact qQ je (zf _ _ _) j3 (zS _ _) (meets_str_split_not_found x y t u h1 hy hf) (hq [(x,t)] _ ((XD (zE h1)).trans (XQ hf)).symm)
 exact qQ je (zf _ _ _) j3 (zS _ _) (meets_str_split_cannot_occur x y t u h1) (hq [(x,t)] _ (XQ h1).symm)
end
section
variable {X:Cx}{K:TL}
theorem Vk:∀ {l:List (PySem.Str × Tok)} {ws:List PySem.Str},l.map (·.1)=ws->Vals (ws.map V.str) (strValues l)
 | [],_,e=>by subst e;exact .nil
 | p::l,_,e=>by
  subst e;exact .cons ⟨p.2,rfl⟩ (Vk rfl)
theorem Vn:∀ {ws:List PySem.Str} {its:TF},Vals (ws.map V.str) its->∃ l:List (PySem.Str × Tok),l.map (·.1)=ws/\its=strValues l
 | [],_,.nil=>⟨[],rfl,rfl⟩
 | w::ws,_,.cons ⟨t,e⟩ r=>by
  obtain⟨l,h1,rfl⟩:=Vn r;subst e;exact⟨(w,t)::l,by rw[zm,h1],rfl⟩
inductive rSplit (x:V) (vs:TQ) (H:Hp) (Q:VK):Prop
 | mk (z y:PySem.Str) (a0:x=.str z) (a1:vs=[.str y]) (a2:(y.length == 0)=false) (a3:z.length<=1000000) (a4:(Txt.split z y).length<=sizeLine) (a5:(partsBetween z (occurrences z y 0 z.length (z.length+1)) y.length).length<=sizeLine) (a6:∀ l,H l=none->Q (.ref l) (upd H l (.lst ((Txt.split z y).map V.str))))
theorem Vz:MtR X "str.split" rSplit:=by
 intro pins s σ H x vs v us Q I rx rv h;obtain⟨z,y,rfl,rfl,hy,hz,hl,hp,q⟩:=h;obtain⟨t,rfl⟩:=rx;obtain⟨u,rfl,t',rfl⟩:=rv.one;refine Kx hy hz hp λl k e=>?_;refine⟨.ref s.heap.objs.size,_,I.laid (t':=k) (λb o e=>YB _ e) (YE _) (show ObjOk X.prog X.w _ _ _ (.lst ((Txt.split z y).map V.str)) from ⟨by rw[YC];exact hl,strValues l,0,Vk e,YG _ rfl⟩),rfl,q _ (I.hok.fresh (YE _))⟩
inductive rJoin (K:TL) (x:V) (vs:TQ) (H:Hp) (Q:VK):Prop
 | mk (z:PySem.Str) (p:Addr) (ws:List PySem.Str) (a0:x=.str z) (a1:vs=[.ref p]) (a2:SqL K H p (ws.map V.str)) (a3:JoinOk z ws=true) (a4:Q (.str (Txt.join z ws)) H)
theorem Wo (hK:X.K=K:=by rfl):MtR X "str.join" (rJoin K):=by
 subst hK;intro pins s σ H x vs v us Q I rx rv h;obtain⟨z,p,ws,rfl,rfl,hs,ho,q⟩:=h;obtain⟨t,rfl⟩:=rx;obtain⟨u,rfl,ru⟩:=rv.one
 cases ru;obtain⟨its,r,pl,_⟩:=I.list hs;obtain⟨l,e,rfl⟩:=Vn r;exact SC.join pl.isList e ho λt' k=>⟨.str _,H,I.tok _,⟨t',rfl⟩,q⟩
inductive rStarts (x:V) (vs:TQ) (H:Hp) (Q:VK):Prop
 | mk (z y:PySem.Str) (a0:x=.str z) (a1:vs=[.str y]) (a2:Q (.bl (Txt.startswith z y)) H)
theorem Me:MtR X "str.startswith" rStarts:=by
 intro pins s σ H x vs v us Q I rx rv h;obtain⟨z,y,rfl,rfl,q⟩:=h;obtain⟨t,rfl⟩:=rx;obtain⟨u,rfl,t',rfl⟩:=rv.one;exact SC.startswith ⟨.bl _,H,I,rfl,q⟩
inductive rInt (vs:TQ) (H:Hp) (Q:VK):Prop
 | mk (z:PySem.Str) (n:Int) (a0:vs=[.str z]) (a1:PySem.intText? z=some n) (a2:z.length<=640) (a3:Q (.int n) H)
theorem Kr:CallR X (.type "int") rInt:=by
 intro pins s σ H xs us Q I r h;obtain⟨z,n,rfl,e,l,q⟩:=h;obtain⟨u,rfl,t,rfl⟩:=X8 r;exact W.KIN.call_text e l ⟨.int n,H,I.tok _,⟨_,rfl⟩,q⟩
def setS (P:TM)(w:World)(d:Addr)(es:Array (Int × Value)):HO:=.ext λh=>SetG (strKind P w) h d es (!byT w)
def setI (P:TM)(w:World)(d:Addr)(es:Array (Int × Value)):HO:=.ext λh=>SetG (intKind P w) h d es (!byT w)
theorem Lg {P:TM}{w:World}{κ:Type}[DecidableEq κ]{knd:KeyKind P w κ}{ks:List κ}{vs:TF}(h:vs.length=ks.length):(setL knd ks vs).length=ks.length:=by
 unfold setL;rw[zD,h,Nat.min_self]
inductive rSetS (P:TM) (w:World) (K:TL) (xs:TQ) (H:Hp) (Q:VK):Prop
 | mk (p:Addr) (ws:List PySem.Str) (a0:xs=[.ref p]) (a1:SqL K H p (ws.map V.str)) (a2:ws.Nodup) (a3:ws.length<1000) (a4:∀ d es,H d=none->es.size=ws.length->Q (.ref d) (upd H d (setS P w d es)))
theorem Mx (hA:X.A.handled=none)(hK:X.K=K:=by rfl):CallR X (.type "set") (rSetS X.prog X.w K):=by
 subst hK;intro pins s σ H xs us Q I r h;obtain⟨p,ws,rfl,hq,nd,hz,q⟩:=h;obtain⟨u,rfl,rx⟩:=X8 r
 cases rx;obtain⟨its,r',pl,_⟩:=I.list hq;obtain⟨l,e1,rfl⟩:=Vn r';have lr:=r'.length;rw[YC] at lr;refine Td (knd:=strKind X.prog X.w) (ks:=ws) hA pl.isList (by simpa using lr.symm) hz (λi k v hk hv=>?_) nd λh' tk es g pm kp=>?_
 ·rw[GH] at hv;obtain⟨w',e2,t,rfl⟩:=r'.get (i:=i) (x:=V.str k) (by rw[YI,hk];rfl);rw[hv] at e2
  cases e2;exact⟨strKind_is _ _ k t,rfl⟩
 have sz:es.size=ws.length:=by
  rw[<-XZ,pm.length_eq,Lg (by simpa using lr.symm)]
 refine⟨.ref s.heap.objs.size,_,I.laid (t':=tk) kp (YE _) (show ObjOk X.prog X.w _ h' _ (setS X.prog X.w s.heap.objs.size es) from ⟨g,?_,?_⟩),rfl,q _ _ (I.hok.fresh (YE _)) sz⟩
 ·obtain⟨⟨o,ep,t,ho,_⟩,_,_⟩:=g;exact⟨o,ho⟩
 intro h1 h2 g1 k;exact g1.on k
inductive rSetI (P:TM) (w:World) (K:TL) (xs:TQ) (H:Hp) (Q:VK):Prop
 | mk (p:Addr) (ns:TN) (a0:xs=[.ref p]) (a1:SqL K H p (ns.map V.int)) (a2:ns.Nodup) (a3:ns.length<1000) (a4:∀ (d:Addr) (es:Array (Int × Value)) (ms:TN),H d=none->ms.Perm ns->Vals (ms.map V.int) (es.toList.map (·.2))->Q (.ref d) (upd H d (setI P w d es)))
theorem Up {us vs:TF}(p:us.Perm vs):∀ {ns:TN},Vals (ns.map V.int) vs->∃ ms:List Int,ms.Perm ns/\Vals (ms.map V.int) us:=by
 induction p with
 | nil=>intro ns h;exact⟨ns,List.Perm.refl _,h⟩
 | cons x _ ih =>
  intro ns h
  cases ns with
  | nil=>cases h
  | cons n ns =>
   cases h with
   | cons h1 h2 =>
    obtain⟨ms,pm,hv⟩:=ih h2;exact⟨n::ms,pm.cons n,.cons h1 hv⟩
 | swap x y l =>
  intro ns h
  cases ns with
  | nil=>cases h
  | cons a ns =>
   cases h with
   | cons h1 h2 =>
    cases ns with
    | nil=>cases h2
    | cons b ns =>
     cases h2 with
     | cons h3 h4=>exact⟨b::a::ns,List.Perm.swap _ _ _,.cons h3 (.cons h1 h4)⟩
 | trans _ _ ih1 ih2 =>
  intro ns h;obtain⟨m1,p1,v1⟩:=ih2 h;obtain⟨m2,p2,v2⟩:=ih1 v1;exact⟨m2,p2.trans p1,v2⟩
theorem My (hA:X.A.handled=none)(hK:X.K=K:=by rfl):CallR X (.type "set") (rSetI X.prog X.w K):=by
 subst hK;intro pins s σ H xs us Q I r h;obtain⟨p,ns,rfl,hq,nd,hz,q⟩:=h;obtain⟨u,rfl,rx⟩:=X8 r
 cases rx;obtain⟨its,r',pl,_⟩:=I.list hq;have lr:=r'.length;rw[YC] at lr;refine Td (knd:=intKind X.prog X.w) (ks:=ns) hA pl.isList (by simpa using lr.symm) hz (λi k v hk hv=>?_) nd λh' tk es g pm kp=>?_
 ·rw[GH] at hv;obtain⟨w',e2,t,rfl⟩:=r'.get (i:=i) (x:=V.int k) (by rw[YI,hk];rfl);rw[hv] at e2
  cases e2;exact⟨by simp[intKind,Value.isInt],rfl⟩
 have e3:(setL (intKind X.prog X.w) ns its).map (·.2)=its:=by
  unfold setL;rw[List.map_zipWith];have key:∀ {a:TN} {b:TF},a.length=b.length->List.zipWith (λ(_:Int) (v:Value)=>v) a b=b:=by
   intro a
   induction a with
   | nil=>intro b hb;cases b;rfl;cases hb
   | cons x a ih=>intro b hb;cases b with | nil=>cases hb | cons y b=>rw[List.zipWith_cons_cons,ih (by simpa using hb)]
  exact key lr
 have pv:(es.toList.map (·.2)).Perm its:=by
  have:=pm.map (·.2);rw[show its.toArray.toList=its from rfl,e3] at this;exact this
 obtain⟨ms,p2,v2⟩:=Up pv r';refine⟨.ref s.heap.objs.size,_,I.laid (t':=tk) kp (YE _) (show ObjOk X.prog X.w _ h' _ (setI X.prog X.w s.heap.objs.size es) from ⟨g,?_,?_⟩),rfl,q _ _ _ (I.hok.fresh (YE _)) p2 v2⟩
 ·obtain⟨⟨o,ep,t,ho,_⟩,_,_⟩:=g;exact⟨o,ho⟩
 intro h1 h2 g1 k;exact g1.on k
inductive rLenS (P:TM) (w:World) (xs:TQ) (H:Hp) (Q:VK):Prop
 | mk (d:Addr) (es:Array (Int × Value)) (a0:xs=[.ref d]) (a1:H d=some (setS P w d es)) (a2:Q (.int (es.size:Int)) H)
theorem L0:CallR X (.builtin "len") (rLenS X.prog X.w):=by
 intro pins s σ H xs us Q I r h;obtain⟨d,es,rfl,hd,q⟩:=h;obtain⟨u,rfl,rx⟩:=X8 r
 cases rx;obtain⟨⟨⟨o,ep,t,ho,hX,hdt,hf,_⟩,_,sz⟩,_⟩:=(show ObjOk X.prog X.w H s.heap d (setS X.prog X.w d es) from I.hok d _ hd);have:es.size<4096:=sz;exact call_len_set ho hX hdt hf U ⟨.int _,H,(I.tok _),⟨_,rfl⟩,q⟩
end
end Sb
namespace Sb
open PySem
set_option maxHeartbeats 1000000
theorem slot_sit_next:Slot "set_iterator" "__next__" "set_iterator.__next__" :=
 .of (owner:="set_iterator") (n:="__next__") (by rw[qy,GI];kernel_rfl) J2 J2 J2
  (by first | exact .inl J2 | exact .inr J2) (by rw[qH];kernel_rfl)
theorem U7:entryFor table "set_iterator.__next__"=some Builtin.«set_iterator.__next__»:=entryFor_of_fast (by kernel_rfl)
theorem Um (a:Value):argsOk "set_iterator.__next__" ⟨[a],[]⟩:=by unfold argsOk;kernel_rfl
theorem V9:Slot "set" "__iter__" "set.__iter__" :=
 .of (owner:="set") (n:="__iter__") (by rw[qy,GI];kernel_rfl) J2 J2 J2
  (by first | exact .inl J2 | exact .inr J2) (by rw[qH];kernel_rfl)
theorem Sl:entryFor table "set.__iter__"=some Builtin.«frozenset.__iter__» :=
 jT (id':="frozenset.__iter__") (by kernel_rfl) rfl J2 (by kernel_rfl)
theorem Qi (a:Value):argsOk "set.__iter__" ⟨[a],[]⟩:=by unfold argsOk;kernel_rfl
theorem Wc {α:Type}:∀ {l:List α} {i:Nat} (h:i<l.length),(l[i]::l.eraseIdx i).Perm l
 | x::l,0,_=>.refl _
 | x::l,i+1,h=>by
  have:=Wc (l:=l) (i:=i) (by simpa using h);simp only [List.getElem_cons_succ,List.eraseIdx_cons_succ];exact (List.Perm.swap _ _ _).trans (this.cons x)
theorem J8 {α:Type}(next:Nat->Nat):∀ (fuel k:Nat) (left:List α) (out:Array α),left.length<=fuel->(pickOrder.go next fuel k left out).toList.Perm (out.toList++left):=by
 intro fuel
 induction fuel with
 | zero =>
  intro k left out h;have:left=[]:=qw U;subst this;unfold pickOrder.go;simp
 | succ fuel ih =>
  intro k left out h;unfold pickOrder.go;by_cases z:left=[]
  ·subst z;simp
  have hp:0<left.length:=zF.mpr z;have hl:next k % left.length<left.length:=zh _ hp
  rw[YZ hl];refine (ih (k+1) _ _ (by rw[zT hl];omega)).trans ?_;rw[Array.toList_push,j4];exact (Wc hl).append_left _
theorem M2 {α:Type}(next:Nat->Nat)(xs:Array α):(pickOrder next xs).toList.Perm xs.toList:=by
 have:=J8 next xs.size 0 xs.toList #[] J1
 simpa [pickOrder] using this
section
variable {prog:TM}{w:World}{A:Around}{E:TB}{s:Shared}
theorem Vd {α:Type}:∀ (n:Nat) (xs:List α) (s:Shared) (Q:List α->Shared->Prop),xs.length=n->(∀ ys d,ys.Perm xs->Q ys { s with drawn:=d })->wpAny (model prog w) A (drawOrder n xs) Q E s:=by
 intro n
 induction n with
 | zero =>
  intro xs s Q h hQ;have:xs=[]:=qw h;subst this;exact YD (hQ [] s.drawn (.refl _))
 | succ n ih =>
  intro xs s Q h hQ
  cases xs with
  | nil=>cases h
  | cons x xs =>
   show wpAny (model prog w) A (choose .order (x::xs).length >>= _) Q E s;refine YA ?_;intro Γ p hΓ;refine⟨J1,?_⟩;have hl:(model prog w).w.draws .order (s.drawn.get .order) % (x::xs).length<(x::xs).length:=zh _ J1;generalize (model prog w).w.draws .order (s.drawn.get .order) % (x::xs).length=j at hl;generalize s.drawn.bump .order=d0;show wpAny (model prog w) A _ Q E { s with drawn:=d0 };rw[YZ hl];refine YA (ih _ _ _ (by rw[zT hl];simpa using h) λys d hy=>YD (hQ _ d ?_));exact (hy.cons _).trans (Wc hl)
abbrev sitObj (first:Value)(i:Nat)(a:Addr)(n ep:Nat):Obj:={ cls:=.type "set_iterator",data:=.fields #[first,.int i 0,.ref a,.int n 0,.int ep 0] }
inductive Stand (w:World) (h:Heap) (ps:TH) (a:Addr) (es:Array (Int × Value)) (ep:Nat) (t:SetTable) (vs:TF) (i:Nat) (first:Value):Prop
 | txt (u:Int) (b:byT w=true) (e:first=.int u 0) (ev:vs=(pickOrder (w.params.setOrder a ep) es).toList.map (·.2))
 | led (u:Nat) (b:byT w=false) (d:(!t.plain && decide (es.size > 1))=false) (e:first=.int (u:Int) 0) (hu:SetTable.below t.place u=i) (ev:vs=es.toList.map (·.2))
 | drw (p:Addr) (qs:List Nat) (b:byT w=false) (e:first=.ref p) (hp:p∈ps) (tp:h.IsTuple p (qs.map λ(k:Nat)=>rawInt k).toArray) (lt:∀ k∈qs,k<es.size) (ev:vs=qs.map λk=>(es.getD k (0,.none)).2)
inductive SitAt (w:World) (ps:TH) (I a:Addr) (vs:TF) (i:Nat) (h:Heap):Prop
 | mk (o:Obj) (es:Array (Int × Value)) (ep:Nat) (t:SetTable) (first:Value) (ho:h.get? a=some o) (hd:o.data=.set es ep t) (hf:t.fits es.size=true) (g:TabG t) (hl:t.led=!byT w) (hn:vs.length=es.size)
   (hI:h.get? I=some (sitObj first i a es.size ep)) (st:Stand w h ps a es ep t vs i first)
theorem Stand.at {h h':Heap}{ps:TH}{a:Addr}{es:Array (Int × Value)}{ep:Nat}{t:SetTable}{vs:TF}{i:Nat}{first:Value}(S:Stand w h ps a es ep t vs i first)(k:∀ b∈ps,∀ o,h.get? b=some o->h'.get? b=some o):Stand w h' ps a es ep t vs i first:=by
 cases S with
 | txt u b e ev=>exact .txt u b e ev
 | led u b d e hu ev=>exact .led u b d e hu ev
 | drw p qs b e hp tp lt ev=>exact .drw p qs b e hp (tp.at λo e=>k p hp o e) lt ev
theorem SitAt.at {h h':Heap}{ps:TH}{I a:Addr}{vs:TF}{i:Nat}(S:SitAt w ps I a vs i h)(k:∀ b∈I::a::ps,∀ o,h.get? b=some o->h'.get? b=some o):SitAt w ps I a vs i h':=by
 obtain⟨o,es,ep,t,first,ho,hd,hf,g,hl,hn,hI,st⟩:=S;exact⟨o,es,ep,t,first,k a J1 _ ho,hd,hf,g,hl,hn,k I J1 _ hI,st.at λb hb=>k b (by simp[hb])⟩
theorem SitAt.type {ps:TH}{I a:Addr}{vs:TF}{i:Nat}(S:SitAt w ps I a vs i s.heap):s.TypeIs (.ref I) "set_iterator":=by
 obtain⟨_,_,_,_,_,_,_,_,_,_,_,hI,_⟩:=S;exact⟨_,hI,rfl⟩
theorem Wy {Q:Bool->Shared->Prop}(h:Q (byT w) s):wpAny (model prog w) A setsByText Q E s:=by
 unfold setsByText;exact YA (jd (YD h))
inductive NextIs (w:World) (h:Heap) (ps:TH) (a:Addr) (es:Array (Int × Value)) (ep:Nat) (t:SetTable) (vs:TF) (i:Nat):Option (Value × Nat)->Prop
 | item (v:Value) (u:Nat) (hv:vs[i]?=some v) (st:Stand w h ps a es ep t vs (i+1) (.int (u:Int) 0)):NextIs w h ps a es ep t vs i (some (v,u))
 | done (hv:vs[i]?=none):NextIs w h ps a es ep t vs i none
theorem Qv {ps:TH}{a:Addr}{o:Obj}{es:Array (Int × Value)}{ep:Nat}{t:SetTable}{vs:TF}{i:Nat}{u:Int}{Q:Option (Value × Nat)->Shared->Prop}
  (ho:s.heap.get? a=some o) (hd:o.data=.set es ep t) (hf:t.fits es.size=true) (g:TabG t) (hl:t.led=!byT w) (st:Stand w s.heap ps a es ep t vs i (.int u 0))
  (hQ:∀ r,NextIs w s.heap ps a es ep t vs i r->Q r s):wpAny (model prog w) A (setNext a u.toNat (Int.toNat i) (Int.toNat ep)) Q E s:=by
 unfold setNext;refine YA (qk ho hd hf ?_);refine YA (Wy ?_)
 cases st with
 | txt u' b e ev =>
  cases e;rw[b];show wpAny _ _ (if (ep != Int.toNat ep)=true then _ else _) _ _ s;rw[XD J1];refine YA ?_;unfold setWalk;refine YA (qk ho hd hf ?_);refine YA (Wy ?_);rw[b];show wpAny _ _ (ask >>= _) _ _ s;refine YA (jd (YD (YD ?_)));show Q (Option.map (λe=>(e.snd,u.toNat)) (pickOrder (w.params.setOrder a ep) es)[i]?) s;have ei:vs[i]?=((pickOrder (w.params.setOrder a ep) es)[i]?).map (·.2):=by
   rw[ev,YI,qA]
  cases hx:(pickOrder (w.params.setOrder a ep) es)[i]? with
  | none=>exact hQ _ (.done (by rw[ei,hx];rfl))
  | some x=>exact hQ _ (.item x.2 u.toNat (by rw[ei,hx];rfl) (.txt _ b rfl ev))
 | led u' b d e hu ev =>
  cases e;rw[b];show wpAny _ _ (if (!t.plain && decide (es.size > 1))=true then _ else _) _ _ s;rw[XD (by rw[d];simp)];show wpAny _ _ ((if (!t.led && !es.isEmpty)=true then _ else _) >>= _) _ _ s;rw[XD (by rw[hl,b];simp)];refine YA (YD (YD ?_));show Q (match es[SetTable.below t.place u']?,t.place[SetTable.below t.place u']? with
   | some (_,x),some j=>some (x,j+1)
   | _,_=>none) s
  rw[hu];have sz:t.place.size=es.size:=by
   have:=hf;unfold SetTable.fits at this;simp at this;exact this.1
  have ei:vs[i]?=(es[i]?).map (·.2):=by
   rw[ev,YI,qA]
  by_cases hi:i<es.size
  ·have h1:es[i]?=some es[i]:=JI hi;have h2:t.place[i]?=some (t.place[i]'U):=JI _;rw[h1] at ei ⊢;rw[h2];refine hQ _ (.item _ _ ei (.led _ b d rfl ?_ ev));have:=Ps g.ris (i:=i) U;simp[Array.getD,show i<t.place.size by omega] at this;exact this
  have h1:es[i]?=none:=jq U;rw[h1] at ei ⊢;exact hQ _ (.done ei)
 | drw p qs b e hp tp lt ev=>cases e
theorem R8 {ps:TH}{I a:Addr}{vs:TF}{i:Nat}{Q:Option Value->Shared->Prop}(hh:A.handled=none)(S:SitAt w ps I a vs i s.heap)(nI:I≠a)(nP:I ∉ ps)
  (hQ:∀ v h',vs[i]?=some v->SitAt w ps I a vs (i+1) h'->Heap.SameBut I s.heap h'->Q (some v) { s with heap:=h' })
  (hN:vs[i]?=none->∀ h',Heap.ExtBut I s.heap h'->Q none { s with heap:=h' }):wpAny (model prog w) A (pyNext (.ref I)) Q E s:=by
 have hT:=S.type;obtain⟨o,es,ep,t,first,ho,hd,hf,g,hl,hn,hI,st⟩:=S;unfold pyNext;refine YA (GS (XH (name:=Str.ofString "__next__") hT slot_sit_next
  (XR slot_sit_next hT U7 ?_ (Um _))))
 show wpAny _ _ (fieldsOf (.ref I) >>= _) _ _ s;refine YA (wpAny_fieldsOf hI rfl ?_);show wpAny _ _ (setEntries a >>= _) _ _ s;refine YA (wpAny_setEntries_of ho hd hf ?_);rw[XD J1];have fin:∀ (first':Value) (i':Nat) (h':Heap),h'.get? I=some (sitObj first' i' a es.size ep)->Heap.SameBut I s.heap h'->Stand w s.heap ps a es ep t vs i' first'->SitAt w ps I a vs i' h':=by
  intro first' i' h' e1 e2 e3;exact⟨o,es,ep,t,first',(e2.2 a nI.symm).trans ho,hd,hf,g,hl,hn,e1,e3.at λb hb o e=>(e2.2 b (λz=>nP (z ▸ hb))).trans e⟩
 have fin2:vs[i]?=none->∀ (Q':PySem.Fin->Shared->Prop) (s2:Shared),Heap.SameBut I s.heap s2.heap->s2={ s with heap:=s2.heap }->wpAny (model prog w) A.in1 (newExc (Value.type "StopIteration") [] >>= λx=>(raiseNew x:Sem PySem.Fin)) Q'
   (λe s'=>wpAny (model prog w) A
    (match (Except.error e:Except Value (Option Value)) with
    | Except.ok (some v)=>pure (some v)
    | Except.ok none=>unsupported "iter:the-iterator's-class-has-lost-its-__next__-amid-the-walk"
    | Except.error e=>do
     let __do_lift <-isInstance e (Value.type "StopIteration")
     if __do_lift=true then pure none else throw e)
    Q E s') s2:=by
  intro hv Q' s2 sb e2;refine YA ?_;simp only [newExc,newTuple];refine YA (JA ?_ (by size_fits));refine YA (m:=firstArgMember _ _) (jR (a:=Value.none) (by first | rfl | (simp only [firstArgMember];rfl)) ?_);refine JA ?_ (by size_fits);simp only [raiseNew];refine YA (wpAny_handled ?_);rw[show A.in1.handled=none from hh];refine YA (YD (jQ ?_));refine YA (JY (T:="StopIteration") (b:=true) ⟨_,YG _ rfl,rfl⟩ qq ?_);rw[e2];exact YD (hN hv _ ((sb.extBut.push _).push _))
 have alt:(∃ u:Int,first=.int u 0) \/ ∃ (p:Addr) (qs:List Nat),byT w=false/\first=.ref p/\p∈ps/\s.heap.IsTuple p (qs.map λ(k:Nat)=>rawInt k).toArray/\(∀ k∈qs,k<es.size)/\vs=qs.map λk=>(es.getD k (0,.none)).2:=by
  cases st with
  | txt u b e ev=>exact .inl ⟨u,e⟩
  | led u b d e hu ev=>exact .inl ⟨u,e⟩
  | drw p qs b e hp tp lt ev=>exact .inr ⟨p,qs,b,e,hp,tp,lt,ev⟩
 rcases alt with ⟨u,rfl⟩ | ⟨p,qs,b,rfl,hp,tp,lt,ev⟩
 ·show wpAny _ _ (setNext a u.toNat (Int.toNat i) (Int.toNat ep) >>= _) _ _ s;refine YA (Qv ho hd hf g hl st λr hr=>?_)
  cases hr with
  | item v u' hv st' =>
   refine YA (XY hI J1 λh1 e1 b1=>?_);refine YA (XY (s:={ s with heap:=h1 }) e1 J1 λh2 e2 b2=>?_);exact YD ⟨v,rfl,YD (hQ v h2 hv (fin (.int (u':Int) 0) (i+1) h2 (by rw[e2];simp[rawInt]) (b1.trans b2) st') (b1.trans b2))⟩
  | done hv =>
   refine YA (XY hI J1 λh1 e1 b1=>?_);exact fin2 hv _ _ b1 rfl
 obtain⟨op,hop,_,np,hdp⟩:=id tp;show wpAny _ _ (seqItems? (.ref p) >>= _) _ _ s;refine YA (JJ hop hdp ?_);have ei:vs[i]?=(qs[i]?).map λk=>(es.getD k (0,.none)).2:=by rw[ev,YI]
 dsimp only;rw[show Int.toNat (i:Int)=i from rfl,show (List.map (λk:Nat=>rawInt (k:Int)) qs).toArray[i]?=(qs[i]?).map λk:Nat=>rawInt (k:Int) by rw[GH,YI]]
 cases hx:qs[i]? with
 | none =>
  rw[hx] at ei;refine YA (XY hI J1 λh1 e1 b1=>?_);refine YA (XY (s:={ s with heap:=h1 }) e1 J1 λh2 e2 b2=>?_);exact fin2 ei _ _ (b1.trans b2) rfl
 | some k =>
  rw[hx] at ei;have hk:k<es.size:=lt k (YO hx);show wpAny _ _ (setNextDrawn a (Int.toNat k) (Int.toNat ep) >>= _) _ _ s;refine YA ?_;unfold setNextDrawn;refine YA (qk ho hd hf ?_);show wpAny _ _ (if (ep != Int.toNat ep)=true then _ else _) _ _ s;rw[XD J1];show wpAny _ _ (match es[k]? with | some (_,x)=>_ | _=>_) _ _ s;rw[JI hk];refine YD ?_;refine YA (XY hI J1 λh1 e1 b1=>?_);exact YD ⟨es[k].2,rfl,YD (hQ _ h1 (by rw[ei];simp[Array.getD,hk]) (fin (.ref p) (i+1) h1 (by rw[e1];simp[rawInt]) b1 (.drw p qs b rfl hp tp lt ev)) b1)⟩
end
set_option maxHeartbeats 1000000
theorem W4:Slot "set_iterator" "__iter__" "set_iterator.__iter__" :=
 .of (owner:="set_iterator") (n:="__iter__") (by rw[qy,GI];kernel_rfl) J2 J2 J2
  (by first | exact .inl J2 | exact .inr J2) (by rw[qH];kernel_rfl)
theorem U8:entryFor table "set_iterator.__iter__"=some Builtin.«dict_keyiterator.__iter__» :=
 jT (id':="dict_keyiterator.__iter__") (by kernel_rfl) rfl J2 (by kernel_rfl)
theorem Uo (a:Value):argsOk "set_iterator.__iter__" ⟨[a],[]⟩:=by unfold argsOk;kernel_rfl
theorem M0 {es:Array (Int × Value)}:(List.range es.size).map (λk=>(es.getD k (0,.none)).2)=es.toList.map (·.2):=by
 apply jc
 ·simp
 intro i h1 h2;have h:i<es.size:=by simpa using h1
 simp[Array.getD,h]
section
variable {prog:TM}{w:World}{A:Around}{E:TB}{s:Shared}
theorem Lf {a:Addr}{o:Obj}{es:Array (Int × Value)}{ep:Nat}{t:SetTable}{Q:TB}(ho:s.heap.get? a=some o)(hex:o.ExactSet)(hd:o.data=.set es ep t)(hf:t.fits es.size=true)(g:TabG t)(hl:t.led=!byT w)(hz:es.size<4096)
  (hQ:∀ h' ps I d vs,(∀ b o,s.heap.get? b=some o->h'.get? b=some o)->SitAt w ps I a vs 0 h'->vs.Perm (es.toList.map (·.2))->(∀ p∈I::ps,s.heap.objs.size<=p/\p<h'.objs.size)->I ∉ ps->Q (.ref I) { s with heap:=h',drawn:=d }) :
  wpAny (model prog w) A (pyIter (.ref a)) Q E s:=by
 have hT:s.TypeIs (.ref a) "set":=⟨o,ho,hex.1⟩;refine wpAny_pyIter_slot hT V9 (XR V9 hT Sl ?_ (Qi _));unfold Builtin.«frozenset.__iter__» Builtin.Frozenset.slot0 slotArgs;simp only [List.isEmpty_nil,Bool.not_true,JX,↓reduceIte,bind_assoc,List.length_nil,bne_self_eq_false];unfold Builtin.Frozenset.addrOf Builtin.Frozenset.sizeOf;refine YA (YD ?_)
 try dsimp only
 refine YA (YD ?_);refine YA (YA (wpAny_setEntries_of ho hd hf (YD ?_)));refine YA ?_;unfold setDrawn;refine YA (qk ho hd hf ?_);refine YA (Wy (YD ?_));have tail:∀ (first:Value) (s2:Shared) (ps:TH) (vs:TF),(∀ b o,s.heap.get? b=some o->s2.heap.get? b=some o)->s.heap.objs.size<=s2.heap.objs.size->(∀ p∈ps,s.heap.objs.size<=p/\p<s2.heap.objs.size)->Stand w s2.heap ps a es ep t vs 0 first->vs.Perm (es.toList.map (·.2)) →
   s2={ s with heap:=s2.heap,drawn:=s2.drawn }->wpAny (model prog w) A.in1 (setEpoch a >>= λe=>newFields "set_iterator" [first,rawInt 0,Value.ref a,rawInt ↑es.size,rawInt ↑e] >>= λv=>ret v)
   (λfin s'=>∃ v,fin=Fin.done (Flow.ret v)/\∃ T' r,s'.TypeIs v T'/\typeLookup (Value.type T') (Str.ofString "__next__")=pure (some r)/\Q v s') E s2:=by
  intro first s2 ps vs k sz hp st pm e2
  have hp':∀ (x:Obj) b o,s.heap.get? b=some o->(s2.heap.push x).get? b=some o:=λx b o e=>YB _ (k b o e);unfold setEpoch;refine YA (YA (qk (k _ _ ho) hd hf (YD ?_)));refine YA (JA (YD ⟨_,rfl,"set_iterator",_,⟨_,YG _ rfl,rfl⟩,slot_sit_next.lookup,?_⟩));rw[e2];refine hQ _ ps _ _ vs (hp' _) ⟨o,es,ep,t,first,hp' _ _ _ ho,hd,hf,g,hl,by rw[pm.length_eq];simp,YG _ rfl,st.at λb _ o e=>YB _ e⟩ pm (λp q=>?_) λq=>XO _ (hp _ q).2;rw[JF];rcases YJ.mp q with rfl | q
  ·exact⟨sz,Nat.lt_succ_self _⟩
  exact⟨(hp p q).1,Nat.lt_succ_of_lt (hp p q).2⟩
 cases hb:byT w with
 | true =>
  rw[XD J1];exact YA (YD (tail _ s [] _ (λ_ _ e=>e) (YE _) (λ_ h=>by cases h) (.txt 0 hb rfl rfl) ((M2 _ _).map _) rfl))
 | false =>
  cases hdr:(!t.plain && decide (es.size > 1)) with
  | false =>
   show wpAny _ _ (if (!false && (!t.plain && decide (es.size > 1)))=true then _ else _) _ _ _;rw[XD (show ¬ (!false && (!t.plain && decide (es.size > 1)))=true by rw[hdr];simp)];exact YA (YD (tail _ s [] _ (λ_ _ e=>e) (YE _) (λ_ h=>by cases h) (.led 0 hb hdr rfl (Pr g.ris) rfl) (.refl _) rfl))
  | true =>
   show wpAny _ _ (if (!false && (!t.plain && decide (es.size > 1)))=true then _ else _) _ _ _;rw[XQ (show (!false && (!t.plain && decide (es.size > 1)))=true by rw[hdr];rfl)];refine YA (Vd _ _ _ _ J1 λys d py=>?_);have yl:ys.length=es.size:=by rw[py.length_eq];simp
   refine YA (JA ?_ (by simp only [PySem.sizeOk,PySem.sizeLine_eq,YF,YC];omega));refine tail (.ref s.heap.objs.size) _ [s.heap.objs.size] (ys.map λk=>(es.getD k (0,.none)).2) (λ_ _ e=>YB _ e) (by rw[JF];exact qT _) (λp hp=>?_)
    (.drw s.heap.objs.size ys hb rfl J1 ⟨_,YG _ rfl,rfl,0,rfl⟩ (λk hk=>?_) rfl) ?_ rfl
   ·rw[qc.mp hp,JF];exact⟨YE _,Nat.lt_succ_self _⟩
   ·simpa using py.mem_iff.mp hk
   rw[<-M0];exact py.map _
theorem L5 {ps:TH}{I a:Addr}{vs:TF}(hh:A.handled=none)(nI:I≠a)(nP:I ∉ ps):Walks prog w A I (I::a::ps) [I] vs.length (λi v=>vs[i]?=some v) (λi h=>SitAt w ps I a vs i h) where
 sub:=λb hb=>by simp at hb;simp[hb]
 frame:=λi h h' st k=>st.at k
 item:=λi s Q E hi st hQ=>by
  refine R8 hh st nI nP (λv h' hv st' sb=>hQ v h' s.toks hv st' λb o hb e=>(sb.2 b (λz=>hb (by simp[z]))).trans e) λhv=>?_;rw[YZ hi] at hv
  cases hv
 done:=λs Q E st hQ=>by
  refine R8 hh st nI nP (λv h' hv=>?_) λ_ h' eb=>hQ h' s.toks λb o hb e=>eb b o (λz=>hb (by simp[z])) e;rw[qz (YE _)] at hv
  cases hv
 self:=λi s Q E st hQ=>by
  have hT:=st.type;refine wpAny_pyIter_slot hT W4 (XR W4 hT U8 ?_ (Uo _));show wpAny _ _ (ret (.ref I)) _ _ s;exact YD ⟨_,rfl,"set_iterator",_,hT,slot_sit_next.lookup,hQ⟩
end
set_option maxHeartbeats 1000000
section
variable {prog:TM}{w:World}{A:Around}{E:TB}{s:Shared}
theorem Pe {vs:TF}{acc:Array Value}(h:ItemsOf (λi v=>vs[i]?=some v) acc vs.length):acc.toList=vs:=by
 apply List.ext_getElem?;intro i;rw[qA]
 cases hx:acc[i]? with
 | some v=>exact (h.2 i v hx).symm
 | none =>
  have:=Array.getElem?_eq_none_iff.mp hx;rw[h.1] at this;exact (qz this).symm
theorem Vq:typeLookup (.type "set") "__len__"=pure (some (.builtin "set.__len__")):=by rw[qy,GI];kernel_rfl
theorem Qf {a:Addr}{es:Array (Int × Value)}{ep:Nat}{t:SetTable}{Q:List Value->Shared->Prop}(hh:A.handled=none)(ho:s.heap.get? a=some o)(hex:o.ExactSet)(hd:o.data=.set es ep t)(hf:t.fits es.size=true)(g:TabG t)(hl:t.led=!byT w)(hz:es.size<4096)
  (hQ:∀ h' d tk vs,(∀ b o,s.heap.get? b=some o->h'.get? b=some o)->s.heap.objs.size<=h'.objs.size->vs.Perm (es.toList.map (·.2))->Q vs { s with heap:=h',drawn:=d,toks:=tk }) :
  wpAny (model prog w) A (collect (.ref a)) Q E s:=by
 have lt:a<s.heap.objs.size:=YH ho;have hSa:s.heap.objs.size≠a:=λe=>XO _ (e ▸ lt);unfold collect;refine YA (wpAny_runValue (JU F.entry_proto_collect ?_));rw[GA F.plain_proto_collect _];show wpAny _ A.in1 (newList [] >>= λl=>again (.builtin "list.__iadd__" ⟨[l,.ref a],[]⟩)) _ _ s;refine YA (JA ?_);refine YD ⟨qL F.plain_list_iadd _,JU F.entry_list_iadd ?_⟩;rw[GA F.plain_list_iadd _];have k1:∀ b o,s.heap.get? b=some o->(s.heap.push { cls:=.type "list",data:=.seq ([]:TF).toArray }).get? b=some o:=λb o e=>YB _ e;have hS₁:(s.heap.push { cls:=.type "list",data:=.seq ([]:TF).toArray }).get? s.heap.objs.size=some { cls:=.type "list",data:=.seq ([]:TF).toArray }:=YG _ rfl;have h1:Builtin.List.listSameRef (.ref s.heap.objs.size) (.ref a)=false:=by simp[Builtin.List.listSameRef,hSa]
 show wpAny _ A.in1 (Builtin.List.listExtendWith (.ref s.heap.objs.size) (.ref a) (.ref s.heap.objs.size)) _ _ _;unfold Builtin.List.listExtendWith;have hT:∀ s2:Shared,s2.heap.get? a=some o->s2.TypeIs (.ref a) "set":=λs2 e=>⟨o,e,hex.1⟩;refine YA (zH (hT _ (k1 _ _ ho)) ?_);rw[XD (by rw[h1];decide)];refine YA (Lf (k1 _ _ ho) hex hd hf g hl hz λh2 ps I d vs k2 S pm hp nI=>?_);refine YA (XM ?_);unfold Builtin.List.listLengthHint;refine YA (wpAny_specialOf (hT _ (k2 _ _ (k1 _ _ ho))) Vq ?_)
 (generalize hid:("set.__len__":String)=id0;(fail_if_success (clear hid id0));wp_delta;rw[show splitId id0=some ("set","__len__") from by subst hid;decide +kernel];subst hid)
 refine YA (JY (b:=true) (hT _ (k2 _ _ (k1 _ _ ho))) (by rw[qH];kernel_rfl) ?_);show wpAny _ A.in1 (typeOf (.ref a) >>= _) _ _ _;refine YA (zH (hT _ (k2 _ _ (k1 _ _ ho))) ?_);refine YD ?_;show wpAny _ A.in1 (rule "list.extend.makes-room" >>= λ_=>Builtin.List.listTouch (.ref s.heap.objs.size) >>= λ_ =>
  again (.builtin "list.extend.loop" ⟨[.ref s.heap.objs.size,.ref I,.ref s.heap.objs.size],[]⟩)) _ _ _
 refine YA (GJ ?_);have hS2:=k2 _ _ hS₁;have nSI:s.heap.objs.size≠I:=by
  have:=(hp I J1).1;rw[JF] at this;omega
 refine YA ?_;show wpAny _ A.in1 (updateSeq s.heap.objs.size (·.push .none) >>= λ_=>updateSeq s.heap.objs.size (·.pop)) _ _ _;refine YA (wpAny_updateSeq hS2 rfl ?_);have hS₂:=GG (Obj.mapSeq (·.push Value.none)) hS2 rfl;refine wpAny_updateSeq hS₂ rfl ?_;have hS₃:=GG (Obj.mapSeq (·.pop)) hS₂ rfl;have oth:∀ b o,b≠s.heap.objs.size->h2.get? b=some o->((h2.update s.heap.objs.size (Obj.mapSeq (·.push Value.none))).update s.heap.objs.size (Obj.mapSeq (·.pop))).get? b=some o :=
  λb o hb e=>(GB _ _ (GM hb)).trans ((GB _ _ (GM hb)).trans e)
 have nIa:I≠a:=by
  intro z;have:=(hp I J1).1;rw[JF,z] at this;exact XO _ (YN lt (Nat.le_of_succ_le this))
 have hSf:s.heap.objs.size ∉ I::a::ps:=by
  intro q;rcases YJ.mp q with q | q
  ·exact nSI q
  rcases YJ.mp q with q | q
  ·exact hSa q
  have:=(hp _ (YK _ q)).1;rw[JF] at this;omega
 have W:=(L5 (prog:=prog) (w:=w) (A:=A.in1) (ps:=ps) (I:=I) (a:=a) (vs:=vs) hh nIa nI).toS;have vl:vs.length=es.size:=by rw[pm.length_eq];simp
 refine YD ⟨qL F.plain_extend_loop _,codeAny_extend_loopS W (by rw[vl,YQ];omega) _ hSf _ vs.length 0 _ _ _ rfl (JH _) ?_ hS₃ (ItemsOf.nil _) λs' acc' c' hm hS' hacc=>?_⟩
 ·exact S.at λb hb o e=>oth b o (λz=>hSf (z ▸ hb)) e
 show wpAny _ A (load s.heap.objs.size >>= _) _ _ s';refine YA (wpAny_load hS' ?_);rw[show s'={ s with heap:=s'.heap,drawn:=s'.drawn,toks:=s'.toks } from by
  obtain⟨h1,h2,h3,h4,h5⟩:=hm
  cases s';dsimp only at h2 h4;rw[h2,h4]]
 refine YD (show Q acc'.toList _ from ?_);rw[Pe hacc];refine hQ s'.heap s'.drawn s'.toks vs (λb o e=>?_) (qV (YH hS')) pm;have hb:b<s.heap.objs.size:=YH e;have hbI:b≠I:=by
  intro z;have:=(hp I J1).1;rw[JF,<-z] at this;exact XO _ (YN hb (Nat.le_of_succ_le this))
 exact hm.heap b o (λz=>by simp at z;rcases z with z | z;exact YT hb z;exact hbI z) (oth b o (YT hb) (k2 b o (k1 b o e)))
end
end Sb
namespace Sb
open PySem PySem.Spec PyProof.Rows L2
set_option maxHeartbeats 1000000
theorem Na:∀ {ms:TN} {vs:TF},Vals (ms.map V.int) vs->IntsAre vs ms
 | [],_,.nil=>.nil
 | m::ms,_,.cons (b:=v) h hs=>by
  obtain⟨t,rfl⟩:=h;exact .cons m t (Na hs)
theorem Wf:∀ {ms:TN} {vs:TF},IntsAre vs ms->Vals (ms.map V.int) vs
 | _,_,.nil=>.nil
 | _,_,.cons n t h=>.cons ⟨t,rfl⟩ (Wf h)
section
variable {prog:TM}{w:World}{A:Around}{E:TB}{s:Shared}
theorem Qq {a:Addr}{es:Array (Int × Value)}{ep:Nat}{t:SetTable}{Q:TB}(hh:A.handled=none)(ho:s.heap.get? a=some o)(hex:o.ExactSet)(hd:o.data=.set es ep t)(hf:t.fits es.size=true)(g:TabG t)(hl:t.led=!byT w)
  (hv:Vals (ns.map V.int) (es.toList.map (·.2))) (h64:ns.length<64)
  (h:∀ h' d tk l (out:Array Value) ms,s.heap.objs.size<=l->(∀ b o,s.heap.get? b=some o->h'.get? b=some o)->(∃ c,h'.get? l=some (seqObj "list" out c))->IntsAre out.toList ms->ms.Perm ns->ms.Pairwise (·<=·)->Q (.ref l) { s with heap:=h',drawn:=d,toks:=tk }) :
  wpAny (model prog w) A (call (.builtin "sorted") [.ref a]) Q E s:=by
 have lz:es.size=ns.length:=by
  have:=hv.length
  simpa using this.symm
 refine Calls.call_function_entry kind_sorted plain_sorted entry_sorted (args_sorted1 _) ?_;unfold Builtin.«sorted»;refine YA (m:=checkCount "sorted" 1 1 _) (YD ?_);refine YA (Qf hh ho hex hd hf g hl U λh1 d tk vs k1 sz pm=>?_);obtain⟨ms,p1,v1⟩:=Up pm hv;have hI:=Na v1;have vl:vs.length=ns.length:=by rw[pm.length_eq];simpa using lz
 refine YA (wpAny_newList ?_ (by rw[YQ];omega));have hoL:(h1.push (seqObj "list" vs.toArray 0)).get? h1.objs.size=some (seqObj "list" vs.toArray 0):=YG _ rfl;refine YA (XM (XR slot_list_sort ⟨_,hoL,rfl⟩ entry_list_sort (list_sort_tree hoL hI U λout ns' a1 a2 a3=>⟨_,rfl,?_⟩) (args_list_sort _)));refine YD ⟨_,rfl,?_⟩;refine h _ d tk h1.objs.size out ns' sz (λb o e=>?_) ?_ a1 (a2.trans p1) a3
 ·have hb:b≠h1.objs.size:=YT (YH (k1 b o e));unfold sortedHeap;rw[GB _ _ hb.symm];refine YB _ (YB _ ?_);rw[GB _ _ hb.symm];exact YB _ (k1 b o e)
 unfold sortedHeap;have e1:=get?_update_seq hoL λ_=>(#[]:Array Value);have e2:=get?_update_seq (YB (seqObj "list" #[] 0) (YB (seqObj "tuple" vs.toArray 0) e1)) λ_=>out;exact⟨_,e2⟩
end
section
variable {X:Cx}
theorem Inv.draw {σ:L2.St}{d:Drawn}(I:Inv X pins σ H s):Inv X pins σ H { s with drawn:=d } :=
 ⟨I.ok,I.os,I.bare,I.base,I.loc,I.cell,I.free,I.freeC,I.pin,I.hok,I.len⟩
inductive rSortI (P:TM) (w:World) (xs:TQ) (H:Hp) (Q:VK):Prop
 | mk (p:Addr) (es:Array (Int × Value)) (ns:TN) (a0:xs=[.ref p]) (a1:H p=some (setI P w p es)) (a2:Vals (ns.map V.int) (es.toList.map (·.2))) (a3:ns.length<64)
   (a4:∀ (d:Addr) (ms:TN),H d=none->ms.Perm ns->ms.Pairwise (·<=·)->Q (.ref d) (upd H d (.lst (ms.map V.int))))
theorem Pp (hA:X.A.handled=none):CallR X (.builtin "sorted") (rSortI X.prog X.w):=by
 intro pins s σ H xs us Q I r h;obtain⟨p,es,ns,rfl,hp,hv,h64,q⟩:=h;obtain⟨u,rfl,rx⟩:=X8 r
 cases rx;obtain⟨⟨⟨o,ep,t,ho,hX,hdt,hf,tg,tl⟩,_,sz⟩,_⟩:=(show ObjOk X.prog X.w H s.heap p (setI X.prog X.w p es) from I.hok p _ hp);refine Qq hA ho hX hdt hf tg tl hv h64 λh' d tk l out ms lb k il ia pm pw=>?_;refine⟨.ref l,_,(Inv.draw (d:=d) (I.laid (t':=tk) k lb (show ObjOk X.prog X.w _ h' l (.lst (ms.map V.int)) from ?_))),rfl,q l ms (I.hok.fresh lb) pm pw⟩;obtain⟨c,il⟩:=il;have ml:ms.length=ns.length:=pm.length_eq;exact⟨by rw[YC,YQ];omega,out.toList,c,Wf ia,by rw[il]⟩
end
set_option maxHeartbeats 1000000
theorem G8 (ns ms:List PySem.Str):((List.range (min ns.length ms.length)).all (λj=>ns.getD j "" == ms.getD j "") && ns.length == ms.length)=decide (ns=ms):=by
 rw[JV];simp only [GK,GU,qr,jn,GC];constructor
 ·rintro ⟨h,hl⟩;refine jc hl λi h1 h2=>?_;have:=h i U
  simpa [List.getD,h1,h2] using this
 rintro rfl;exact⟨λ_ _=>rfl,rfl⟩
section
variable {X:Cx}{K:TL}{pins:TC}{σ:L2.St}{H:Hp}{s:Shared}
theorem Pw {ns:List PySem.Str}{us:TF}(r:Vals (ns.map V.str) us){j:Nat}(h:j<us.length):∃ t,us[j]=Value.str (ns.getD j "") t:=by
 have hl:=r.length;rw[YC] at hl;have hj:j<ns.length:=U
 obtain⟨u,e,q⟩:=r.get (i:=j) (show (ns.map V.str)[j]?=some (V.str ns[j]) by simp[hj]);obtain⟨t,rfl⟩:=q;have e2:us[j]?=some us[j]:=by simp[h]
 rw[e2] at e;refine⟨t,?_⟩;rw[YR e];simp[List.getD,hj]
theorem R1 {a:List PySem.Str}:∀ {b:List PySem.Str} {us:TF},Vals (a.map V.str) us->Vals (b.map V.str) us->a=b:=by
 induction a with
 | nil =>
  intro b us h1 h2
  cases h1
  cases b with
  | nil=>rfl
  | cons _ _=>cases h2
 | cons x a ih =>
  intro b us h1 h2
  cases b with
  | nil=>cases h2;cases h1
  | cons y b =>
   cases h1 with
   | cons r t =>
    cases h2 with
    | cons r' t' =>
     obtain⟨_,rfl⟩:=r;obtain⟨_,e⟩:=r'
     cases e;rw[ih t t']
theorem Mq (I:Inv X pins σ H s){a b:Addr}{ws us:List PySem.Str}(ha:SqT X.K H a (ws.map V.str))(hb:SqT X.K H b (us.map V.str))(hu:A.units<cLine):SeqAt.EqAt A s (.ref a) (.ref b) (decide (ws=us)):=by
 obtain⟨i1,r1,p1,_⟩:=I.tuple ha;obtain⟨i2,r2,p2,_⟩:=I.tuple hb;by_cases e:a=b
 ·subst e;have:i1=i2:=by
   obtain⟨o,ho,_,n,hd⟩:=p1;obtain⟨o',ho',_,n',hd'⟩:=p2;rw[ho] at ho'
   cases ho';rw[hd] at hd';injection hd' with h1
   simpa using h1
  subst this;rw[R1 r1 r2,XC rfl];exact qj _
 refine SeqAt.EqAt.of_refs e ?_;have l1:=r1.length;have l2:=r2.length;rw[YC] at l1 l2;have:=zY (A:=A) (e:=λj=>ws.getD j "" == us.getD j "") p1 p2 hu λj h1 h2=>by
  obtain⟨t,e1⟩:=Pw r1 (j:=j) (by simpa using h1);obtain⟨t',e2⟩:=Pw r2 (j:=j) (by simpa using h2);have e1':i1.toArray[j]=Value.str (ws.getD j "") t:=by simpa using e1
  have e2':i2.toArray[j]=Value.str (us.getD j "") t':=by simpa using e2
  rw[e1',e2'];exact zO _ _ _ _
 rwa [YF,YF,<-l1,<-l2,G8] at this
inductive rNotInT (K:TL) (x:V) (y:V) (H:Hp) (Q:VK):Prop
 | mk (a p:Addr) (ws:List PySem.Str) (cs:TH) (wss:List (List PySem.Str)) (a0:x=.ref a) (a1:y=.ref p) (a2:SqT K H a (ws.map V.str)) (a3:SqT K H p (cs.map V.ref)) (a4:Paired (λc us=>SqT K H c (List.map V.str us)) cs wss) (a5:Q (.bl (!decide (ws∈wss))) H)
theorem Uw:∀ {cs:TH} {us:TF},Vals (cs.map V.ref) us->us=cs.map Value.ref
 | [],_,.nil=>rfl
 | _::_,_,.cons r t=>by cases r;rw[Uw t];rfl
theorem M5 (hu:X.A.units+1<cLine)(hK:X.K=K:=by rfl):OpR X (compareOp .NotIn) (rNotInT K):=by
 subst hK;intro pins s σ H x y v u Q I rx ry h;obtain⟨a,p,ws,cs,wss,rfl,rfl,ha,hp,pr,q⟩:=h
 cases rx
 cases ry;obtain⟨its,r,pl,_⟩:=I.tuple hp;have e:=Uw r;subst e;have key:∀ c us,SqT X.K H c (List.map V.str us)->SeqAt.EqAt X.A.in1 s (.ref c) (.ref a) (decide (us=ws)):=λc us hc=>Mq I hc ha (by show X.A.units+1<cLine;exact hu);have uniq:∀ c us us',SqT X.K H c (List.map V.str us)->SqT X.K H c (List.map V.str us')->us=us':=by
  intro c us us' h1 h2;obtain⟨i1,r1,p1,_⟩:=I.tuple h1;obtain⟨i2,r2,p2,_⟩:=I.tuple h2;have:i1=i2:=by
   obtain⟨o,ho,_,n,hd⟩:=p1;obtain⟨o',ho',_,n',hd'⟩:=p2;rw[ho] at ho'
   cases ho';rw[hd] at hd';injection hd' with h1
   simpa using h1
  subst this;exact R1 r1 r2
 have some_at:∀ (cs:TH) (wss:List (List PySem.Str)),Paired (λc us=>SqT X.K H c (List.map V.str us)) cs wss->(∀ y∈cs.map Value.ref,∃ c us,y=.ref c/\us∈wss/\SqT X.K H c (List.map V.str us)):=by
  intro cs wss pr
  induction pr with
  | nil=>intro y hy;cases hy
  | cons h _ ih =>
   intro y hy;rcases YJ.mp hy with rfl | hy
   ·exact⟨_,_,rfl,YL,h⟩
   obtain⟨c,us,e,m,k⟩:=ih y hy;exact⟨c,us,e,YK _ m,k⟩
 have anyE:∀ (e:Value->Bool) (cs:TH) (wss:List (List PySem.Str)),Paired (λc us=>SqT X.K H c (List.map V.str us)) cs wss->(∀ c us,SqT X.K H c (List.map V.str us)->e (.ref c)=decide (us=ws))->(cs.map Value.ref).any e=decide (ws∈wss):=by
  intro e cs wss pr he
  induction pr with
  | nil=>rfl
  | cons h _ ih =>
   rw[zm,qK,ih,he _ _ h,JV];simp only [Bool.or_eq_true,GC,YJ];exact or_congr_left eq_comm
 classical
 let e:Value->Bool:=λy=>match y with
  | .ref c=>decide (SqT X.K H c (List.map V.str ws))
  | _=>false
 have he:∀ c us,SqT X.K H c (List.map V.str us)->e (.ref c)=decide (us=ws):=by
  intro c us h;show decide (SqT X.K H c (List.map V.str ws))=decide (us=ws);rw[JV,GC,GC];exact⟨λz=>uniq c _ _ h z,λz=>z ▸ h⟩
 refine SeqAt.notIn_tupleAt e pl (λy hy=>?_) ⟨.bl _,H,I,rfl,?_⟩
 ·obtain⟨c,us,rfl,_,k⟩:=some_at cs wss pr y (by simpa using hy);rw[he c us k];exact key c us k
 rw[show (cs.map Value.ref).toArray.any e=(cs.map Value.ref).any e by simp,anyE e cs wss pr he];exact q
inductive rInN (K:TL) (x:V) (y:V) (H:Hp) (Q:VK):Prop
 | mk (p:Addr) (xs:TQ) (a0:x=.non) (a1:y=.ref p) (a2:SqL K H p xs) (a3:∀ z∈xs,z=.non \/ ∃ c zs,z=.ref c/\SqT K H c zs) (a4:Q (.bl (decide (V.non∈xs))) H)
theorem Fe (hu:X.A.units+1<cLine)(hK:X.K=K:=by rfl):OpR X (compareOp .In) (rInN K):=by
 subst hK;intro pins s σ H x y v u Q I rx ry h;obtain⟨p,xs,rfl,rfl,hp,ho,q⟩:=h
 cases rx
 cases ry;obtain⟨its,r,pl,_⟩:=I.list hp;let e:Value->Bool:=λy=>match y with
  | .none=>true
  | _=>false
 have key:∀ {xs:TQ} {its:TF},Vals xs its->(∀ z∈xs,z=.non \/ ∃ c zs,z=.ref c/\SqT X.K H c zs)->(∀ y∈its,SeqAt.EqAt X.A.in1 s y .none (e y))/\its.any e=decide (V.non∈xs):=by
  intro xs
  induction xs with
  | nil=>intro its r _;cases r;exact⟨λy hy=>(nomatch hy),rfl⟩
  | cons z xs ih =>
   intro its r ho
   cases r with
   | cons r t =>
   obtain⟨i1,i2⟩:=ih t λz hz=>ho z (YK _ hz);rcases ho _ YL with rfl | ⟨c,zs,rfl,hc⟩
   ·cases r;refine⟨λy hy=>?_,by simp[e]⟩;rcases YJ.mp hy with rfl | hy
    ·exact qj _
    exact i1 y hy
   cases r;refine⟨λy hy=>?_,by rw[qK,i2];simp[e]⟩;rcases YJ.mp hy with rfl | hy
   ·obtain⟨i3,_,p3,_⟩:=I.tuple hc;exact SeqAt.EqAt.tuple_none p3 hu
   exact i1 y hy
 obtain⟨k1,k2⟩:=key r ho;refine SeqAt.in_listAt e pl.isList (λy hy=>k1 y (by simpa using hy)) ⟨.bl _,H,I,rfl,?_⟩;rw[show its.toArray.any e=its.any e by simp,k2];exact q
end
end Sb
namespace Sb
open PySem PySem.Builtin.SmallTypes
set_option maxHeartbeats 1000000
abbrev IsZipB (h:Heap)(z TI TO T:Addr)(b:Bool):Prop:=h.get? z=some { cls:=.type "zip",data:=.fields #[rawInt T,.bool b,.bool false,.ref TI,.ref TO] }
section
variable {prog:TM}{w:World}{A:Around}{E:TB}{s:Shared}{z TI TO i1 i2 T:Addr}{f1 f2:TH}{n1 n2:Nat}{P1 P2:Nat->Value->Prop}{S1 S2:Nat->Heap->Prop}
theorem Sx {M:Model}{a:Addr}{Q:Option Obj->Shared->Prop}(h:Q (s.heap.get? a) s):wpAny M A (loadIfAlive a) Q E s:=λ_ _ _=>h
theorem Vs {bb:Bool}{o:Obj}{Q:Bool->Shared->Prop}(hz:IsZipB s.heap z TI TO T bb)(ho:s.heap.get? T=some o)(hQ:∀ h',IsZipB h' z TI TO T true->Heap.SameBut z s.heap h'->Q false { s with heap:=h' }):wpAny (model prog w) A (ownedTupleIsFree (.ref z)) Q E s:=by
 unfold ownedTupleIsFree;refine YA (XB hz rfl (x:=rawInt T) rfl ?_);show wpAny _ _ (loadIfAlive T >>= _) _ _ _;refine YA (Sx ?_);rw[ho];show wpAny _ _ (field (.ref z) 1 >>= _) _ _ _;refine YA (XB hz rfl (x:=.bool bb) rfl ?_)
 cases bb with
 | true=>exact YD (hQ s.heap hz ⟨rfl,λ_ _=>rfl⟩)
 | false =>
  show wpAny _ _ (setField (.ref z) 1 (.bool true) >>= _) _ _ _;exact YA (XY hz J1 λh1 z1 s1=>YD (hQ h1 z1 s1))
theorem Nq {k:Nat}{bb:Bool}{Q:TB}(D:Off z TI TO i1 i2 f1 f2)(D1:Draws prog w A i1 f1 n1 P1 S1)(D2:Draws prog w A i2 f2 n2 P2 S2)
  (hz:IsZipB s.heap z TI TO T bb) (ho:s.heap.get? T=some o) (hTI:IsPair s.heap TI (.ref i1) (.ref i2)) (c1:S1 k s.heap) (c2:S2 k s.heap) (l1:k<n1) (l2:k<n2)
  (hQ:∀ x y h' tk,P1 k x->P2 k y->IsZipB h' z TI TO T true->S1 (k+1) h'->S2 (k+1) h'->IsPair h' s.heap.objs.size x y->h'.objs.size=s.heap.objs.size+1 →
   (∀ c o,c≠z->c≠i1->c≠i2->s.heap.get? c=some o->h'.get? c=some o)->Q (.ref s.heap.objs.size) { s with heap:=h',toks:=tk }) :
  wpAny (model prog w) A (Builtin.«zip.__next__» ⟨[.ref z],[]⟩) (λfin s'=>∃ v,fin=.done (.ret v)/\Q v s') E s:=by
 show wpAny _ _ (field (.ref z) 2 >>= _) _ _ _;refine YA (XB hz rfl (x:=.bool false) rfl ?_);show wpAny _ _ (field (.ref z) 3 >>= _) _ _ _;refine YA (XB hz rfl (x:=.ref TI) rfl ?_);refine YA (JJ hTI rfl ?_);show wpAny _ _ (ownedTupleIsFree (.ref z) >>= _) _ _ _;refine YA (Vs hz ho λg1 z1 s1=>?_);simp only [JX,qF,<-Y05,GP,qY];refine YA (YA (YA (XM ?_)));show wpAny _ _ (nextOf (.ref i1) >>= _) _ _ _;have c11:S1 k g1:=D1.frame _ _ _ c1 λb hb o e=>s1.extBut b o (λq=>D.z1 (q ▸ hb)) e;refine YA (D1.item k _ _ _ l1 c11 λx g2 tk2 p1 c12 s2=>YD (YD ?_));replace s2:Heap.SameBut i1 g1 g2:=s2;refine YA (YA (XM ?_));show wpAny _ _ (nextOf (.ref i2) >>= _) _ _ _;have c22:S2 k g2:=D2.frame _ _ _ c2 λb hb o e=>s2.extBut b o (λq=>D.n2 (q ▸ hb)) (s1.extBut b o (λq=>D.z2 (q ▸ hb)) e);refine YA (D2.item k _ _ _ l2 c22 λy g3 tk3 p2 c23 s3=>YD (YD (YD ?_)));replace s3:Heap.SameBut i2 g2 g3:=s3;have c13:S1 (k+1) g3:=D1.frame _ _ _ c12 λb hb o e=>s3.extBut b o (λq=>D.n1 (q ▸ hb)) e;have sz:g3.objs.size=s.heap.objs.size:=by rw[s3.1,s2.1,s1.1]
 have up:∀ (c:Addr) o (t:Obj),g3.get? c=some o->(g3.push t).get? c=some o:=λc o t e=>YB _ e;show wpAny _ _ (newTuple [x,y] >>= _) _ _ _;refine YA (wpAny_newTuple ?_);refine YD ⟨_,rfl,?_⟩;have pr:IsPair (g3.push { cls:=.type "tuple",data:=.seq #[x,y] }) g3.objs.size x y:=YG _ rfl;show Q (.ref g3.objs.size) _;rw[sz] at pr ⊢;exact hQ x y _ tk3 p1 p2 (up _ _ _ (s3.extBut _ _ D.a4.symm (s2.extBut _ _ D.a3.symm z1))) (D1.frame _ _ _ c13 λb _ o e=>up b o _ e) (D2.frame _ _ _ c23 λb _ o e=>up b o _ e) pr (by rw[JF,sz])
  λc o q1 q2 q3 e=>up c o _ (s3.extBut _ _ q3 (s2.extBut _ _ q2 (s1.extBut _ _ q1 e)))
theorem Np {bb:Bool}{Q:Fin->Shared->Prop}(D:Off z TI TO i1 i2 f1 f2)(D1:Draws prog w A i1 f1 n1 P1 S1)(hz:IsZipB s.heap z TI TO T bb)(ho:s.heap.get? T=some o)(hTI:IsPair s.heap TI (.ref i1) (.ref i2))(c1:S1 n1 s.heap)
  (hE:∀ h' e,(∀ c o,c≠z->c≠i1->s.heap.get? c=some o->h'.get? c=some o)->(∃ o,h'.get? e=some o/\o.cls=.type "StopIteration")->E (.ref e) { s with heap:=h' }) :
  wpAny (model prog w) A (Builtin.«zip.__next__» ⟨[.ref z],[]⟩) Q E s:=by
 show wpAny _ _ (field (.ref z) 2 >>= _) _ _ _;refine YA (XB hz rfl (x:=.bool false) rfl ?_);show wpAny _ _ (field (.ref z) 3 >>= _) _ _ _;refine YA (XB hz rfl (x:=.ref TI) rfl ?_);refine YA (JJ hTI rfl ?_);show wpAny _ _ (ownedTupleIsFree (.ref z) >>= _) _ _ _;refine YA (Vs hz ho λg1 z1 s1=>?_);simp only [JX,qF,<-Y05,GP,qY];refine YA (YA (YA (XM ?_)));show wpAny _ _ (nextOf (.ref i1) >>= _) _ _ _;have c11:S1 n1 g1:=D1.frame _ _ _ c1 λb hb o e=>s1.extBut b o (λq=>D.z1 (q ▸ hb)) e;exact YA (D1.done _ _ _ c11 λg2 e s2 he=>hE g2 e (λc o q1 q2 h=>s2 _ _ q2 (s1.extBut _ _ q1 h)) he)
end
end Sb
namespace Sb
open PySem PySem.Spec PyProof.Rows L2 PySem.Builtin.SmallTypes
set_option maxHeartbeats 1000000
structure ZW (l m:Bool)(ex:TH)(z TI TO i1 i2 t u:Addr)(xs ys:Array Value)(i:Nat)(h:Heap):Prop where
 zz:(IsZip h z TI TO .none/\∃ a b,IsPair h TO a b) \/ ∃ T bb o,IsZipB h z TI TO T bb/\h.get? T=some o/\T ∉ ex
 ti:IsPair h TI (.ref i1) (.ref i2)
 r1:Ir l h i1 t i
 r2:Ir m h i2 u i
 q1:Iq l h t xs
 q2:Iq m h u ys
 live:∀ e∈ex,∃ o,h.get? e=some o
section
variable {prog:TM}{w:World}{A:Around}{E:TB}{s:Shared}{l m:Bool}{ex:TH}{z TI TO i1 i2 t u:Addr}{xs ys:Array Value}
theorem Pu {i:Nat}{Q:Option Value->Shared->Prop}(hA:A.handled=none)(D:Off z TI TO i1 i2 [i1,t] [i2,u])(e1:t≠i1)(e2:u≠i2)(o:∀ b∈[TI,t,u],b ∉ [z,TO,i1,i2])(sub:∀ b∈[z,TO,i1,i2],b∈ex)(Z:ZW l m ex z TI TO i1 i2 t u xs ys i s.heap)(hs:xs.size=ys.size)(hi:i<=xs.size)
  (hQ:∀ p x y h' tk,xs[i]?=some x->ys[i]?=some y->ZW l m ex z TI TO i1 i2 t u xs ys (i+1) h'->IsPair h' p x y->p=s.heap.objs.size->(∀ c o,c ∉ [z,TO,i1,i2]->s.heap.get? c=some o->h'.get? c=some o)->Q (some (.ref p)) { s with heap:=h',toks:=tk })
  (hN:∀ h',i=xs.size->(∀ c o,c ∉ [z,TO,i1,i2]->s.heap.get? c=some o->h'.get? c=some o)->Q none { s with heap:=h' }):wpAny (model prog w) A (pyNext (.ref z)) Q E s:=by
 obtain⟨zz,ti,r1,r2,q1,q2,live⟩:=Z;have hA1:QtP A.in1 []:=.inl hA;have D1:=Sm (prog:=prog) (w:=w) l hA1 i1 t e1 J1 xs;have D2:=Sm (prog:=prog) (w:=w) m hA1 i2 u e2 J1 ys;have nin:∀ {c:Addr},c ∉ [z,TO,i1,i2]->c≠z/\c≠TO/\c≠i1/\c≠i2:=λhc=>by simpa using hc
 have keep:∀ {h':Heap},(∀ c o,c ∉ [z,TO,i1,i2]->s.heap.get? c=some o->h'.get? c=some o)->IsPair h' TI (.ref i1) (.ref i2)/\Iq l h' t xs/\Iq m h' u ys:=by
  intro h' k;obtain⟨o1,h1,r1⟩:=q1;obtain⟨o2,h2,r2⟩:=q2;exact⟨k _ _ (o TI J1) ti,⟨o1,k _ _ (o t J1) h1,r1⟩,⟨o2,k _ _ (o u J1) h2,r2⟩⟩
 have fresh:∀ e∈ex,e≠s.heap.objs.size:=λe he=>by
  obtain⟨o,ho⟩:=live e he;exact YT (YH ho)
 have hlt:i<xs.size \/ i=xs.size:=U
 have hTz:s.TypeIs (.ref z) "zip":=by
  rcases zz with ⟨h,_⟩ | ⟨_,_,_,h,_⟩
  ·exact⟨_,h,rfl⟩
  exact⟨_,h,rfl⟩
 rcases hlt with hlt | rfl
 ·have ex1:xs[i]?=some xs[i]:=JI hlt;have ex2:ys[i]?=some (ys[i]'U):=JI _;rcases zz with ⟨hz,a,b,hTO⟩ | ⟨T,bb,oT,hz,hT,nT⟩
  ·refine Rk D D1 D2 hz ti hTO ⟨r1,q1,J1⟩ ⟨r2,q2,J1⟩ hlt U λx y h' tk px py z' to' s1 s2 pr sz kp=>?_;have kp':∀ c o,c ∉ [z,TO,i1,i2]->s.heap.get? c=some o->h'.get? c=some o:=λc o hc e=>kp c o (nin hc).1 (nin hc).2.1 (nin hc).2.2.1 (nin hc).2.2.2 e;obtain⟨k1,k2,k3⟩:=keep kp';refine hQ _ x y h' tk px py ⟨.inr ⟨s.heap.objs.size,false,_,z',pr,λq=>fresh _ q rfl⟩,k1,s1.1,s2.1,k2,k3,λe he=>?_⟩ pr rfl kp';by_cases c1:e=z
   ·exact⟨_,c1 ▸ z'⟩
   by_cases c2:e=TO
   ·exact⟨_,c2 ▸ to'⟩
   by_cases c3:e=i1
   ·obtain⟨o,ho,_⟩:=s1.1;exact⟨_,c3 ▸ ho⟩
   by_cases c4:e=i2
   ·obtain⟨o,ho,_⟩:=s2.1;exact⟨_,c4 ▸ ho⟩
   obtain⟨o,ho⟩:=live e he;exact⟨o,kp e o c1 c2 c3 c4 ho⟩
  unfold pyNext;refine YA (GS (XH (name:=Str.ofString "__next__") hTz GQ (XR GQ hTz zg
   (Nq D D1 D2 hz hT ti ⟨r1,q1,J1⟩ ⟨r2,q2,J1⟩ hlt U λx y h' tk px py z' s1 s2 pr sz kp=>YD ?_) (qZ _))))
  have kp':∀ c o,c ∉ [z,TO,i1,i2]->s.heap.get? c=some o->h'.get? c=some o:=λc o hc e=>kp c o (nin hc).1 (nin hc).2.2.1 (nin hc).2.2.2 e;obtain⟨k1,k2,k3⟩:=keep kp';have nT':=λb hb=>λq:T=b=>nT (q ▸ sub b hb);refine hQ _ x y h' tk px py ⟨.inr ⟨T,true,_,z',kp T _ (nT' z J1) (nT' i1 J1) (nT' i2 J1) hT,nT⟩,k1,s1.1,s2.1,k2,k3,λe he=>?_⟩ pr rfl kp';by_cases c1:e=z
  ·exact⟨_,c1 ▸ z'⟩
  by_cases c3:e=i1
  ·obtain⟨o,ho,_⟩:=s1.1;exact⟨_,c3 ▸ ho⟩
  by_cases c4:e=i2
  ·obtain⟨o,ho,_⟩:=s2.1;exact⟨_,c4 ▸ ho⟩
  obtain⟨o,ho⟩:=live e he;exact⟨o,kp e o c1 c3 c4 ho⟩
 rcases zz with ⟨hz,a,b,hTO⟩ | ⟨T,bb,oT,hz,hT,nT⟩
 ·exact Ve D D1 hz ti ⟨r1,q1,J1⟩ λh' kp=>hN h' rfl λc o hc e=>kp c o (nin hc).1 (nin hc).2.2.1 e
 unfold pyNext;refine YA (GS (XH (name:=Str.ofString "__next__") hTz GQ (XR GQ hTz zg
  (Np D D1 hz hT ti ⟨r1,q1,J1⟩ λh' e kp he=>?_) (qZ _))))
 obtain⟨o,ho,hc⟩:=he;exact YA (JY (T:="StopIteration") (b:=true) ⟨o,ho,hc⟩ qq (YD (hN h' rfl λc o hc e=>kp c o (nin hc).1 (nin hc).2.2.1 e)))
end
set_option maxHeartbeats 1000000
theorem Qj:typeLookup (.type "zip") "__getattr__"=pure none:=by rw[qy,GI];kernel_rfl
theorem Sw:entryFor table "zip.__getattribute__"=some Builtin.«object.__getattribute__» :=
 jT (id':="object.__getattribute__") (by kernel_rfl) J2 J2 (by kernel_rfl)
theorem U1 (a:Addr)(xs:Array Value)(name:Str)(u:Tok)(hmiss:typeLookup (.type "zip") name=pure none)(hname:(TU:List Str).contains name=false)(hsz:name.length+100<=sizeLine:=by size_fits) :
  Meets (Builtin.«object.__getattribute__» ⟨[.ref a,.str name u],[]⟩) (λA R s=>s.heap.get? a=some { cls:=.type "zip",dict:=none,data:=.fields xs,slots:=#[] }/\raisesAttr (.ref a) name A R s) :=
 Meets.of_wp λprog w A R s hs=>by
  obtain⟨hp,g,d,tk,os⟩:=s;obtain⟨hx,hs⟩:=hs;have hT:(⟨hp,g,d,tk,os⟩:Shared).TypeIs (.ref a) "zip":=⟨_,hx,rfl⟩;unfold Builtin.«object.__getattribute__»
  repeat (any_goals (first | assumption | wp_step))
  simp only [hname,JX,qF]
  repeat (any_goals (first | assumption | wp_step))
  exact wpAny_raiseAttrError hs.1 hs.2 (attrMsg_fits J2 hsz)
section
variable {prog:TM}{w:World}{A:Around}{E:TB}{s:Shared}
theorem Wt {a:Addr}{xs:Array Value}{name:Str}{Q:Option Value->Shared->Prop}
  (hx:s.heap.get? a=some { cls:=.type "zip",dict:=none,data:=.fields xs,slots:=#[] }) (hmiss:typeLookup (.type "zip") name=pure none) (hname:(TU:List Str).contains name=false) (hA:A.handled=none)
  (h:∀ h' tk e,Heap.NewExcOf s.heap h' e "AttributeError"->Q none { s with heap:=h',toks:=tk }) (hsz:name.length+100<=sizeLine:=by size_fits) :
  wpAny (model prog w) A (getAttr? (.ref a) name) Q E s:=by
 obtain⟨hp,g,d,tk,os⟩:=s;have hT:∀ tk',(⟨hp,g,d,tk',os⟩:Shared).TypeIs (.ref a) "zip":=λ_=>⟨_,hx,rfl⟩;have f1:=sub_AttributeError;have f3:=qU.lookup;have f4:=qU.bind (.ref a);have f5:=Qj;unfold getAttr? getAttrBy? getAttrBy
 repeat (any_goals (first | assumption | exact hT _ | ((with_reducible show wpAny _ _ (call (Value.builtin "zip.__getattribute__") _ _) _ _ _);refine qQ qU (hT _) Sw (F.args_zip_getattribute_2 _ _) (U1 a xs name _ hmiss hname hsz) ⟨hx,hA,λh' tk' e hx'=>?_⟩) | wp_step))
 obtain⟨t',u',he⟩:=hx'.there;show wpAny _ _ (getattributeRaised _ _ _ _ _ _ _) _ _ _;unfold getattributeRaised
 repeat (any_goals (first | assumption | wp_step))
 exact h _ _ _ hx'.of
end
set_option maxHeartbeats 1000000
theorem R3 {kvs:List (Key × Value)}(nd:(kvs.map (·.1)).Nodup){i:Nat}{k:Key}{v:Value}(h:kvs[i]?=some (k,v)):stored (kvs.take i) k v=kvs.take (i+1):=by
 have no:¬ (kvs.take i).any (λkv=>kv.1=k)=true:=by
  intro q;obtain⟨p,hp,e⟩:=List.any_eq_true.mp q;obtain⟨j,hj,e2⟩:=jW hp;have e:p.1=k:=by simpa using e
  rw[XS] at hj;have hj1:j<i:=U
  have hi:=(XG.mp h).1;have g1:(kvs.map (·.1))[j]'(by rw[YC];omega)=k:=by
   rw[List.getElem_map,<-e,<-e2,j2]
  have g2:(kvs.map (·.1))[i]'(by rw[YC];omega)=k:=by
   rw[List.getElem_map,(XG.mp h).2]
  exact (JN.mp nd) j i (by rw[YC];omega) (by rw[YC];omega) hj1 (g1.trans g2.symm)
 unfold stored;rw[XD no,List.take_succ,h];rfl
section
variable {prog:TM}{w:World}{A:Around}{s:Shared}{l m:Bool}{z TI TO i1 i2 t u d:Addr}{xs ys:Array Value}
theorem Vb:entryFor table "dict.update.loop"=some Builtin.«dict.update.loop»:=j9 (by kernel_rfl)
theorem Xa:plainId "dict.update.loop"=true:=by decide +kernel
theorem V5 {kvs:List (Key × Value)}(hm:h.DictOf (mixKind prog w) d kvs)(k:∀ o,h.get? d=some o->h'.get? d=some o):h'.DictOf (mixKind prog w) d kvs:=by
 obtain⟨o,es,ep,ho,r⟩:=hm;exact⟨o,es,ep,k o ho,r⟩
theorem ZW.put {i:Nat}(Z:ZW l m [z,TO,i1,i2,d] z TI TO i1 i2 t u xs ys i h)(nd:d ∉ [z,TI,TO,i1,i2,t,u])(sb:Heap.SameBut d h h')(hd:∃ o,h'.get? d=some o):ZW l m [z,TO,i1,i2,d] z TI TO i1 i2 t u xs ys i h':=by
 obtain⟨zz,ti,⟨o1,a1,r1⟩,⟨o2,a2,r2⟩,⟨o3,a3,r3⟩,⟨o4,a4,r4⟩,live⟩:=Z;have k:∀ b∈[z,TI,TO,i1,i2,t,u],∀ o,h.get? b=some o->h'.get? b=some o:=λb hb o e=>(sb.2 b (λq=>nd (q ▸ hb))).trans e;refine⟨?_,k TI J1 _ ti,⟨o1,k i1 J1 _ a1,r1⟩,⟨o2,k i2 J1 _ a2,r2⟩,⟨o3,k t J1 _ a3,r3⟩,⟨o4,k u J1 _ a4,r4⟩,λe he=>?_⟩
 ·rcases zz with ⟨hz,a,b,hTO⟩ | ⟨T,bb,oT,hz,hT,nT⟩
  ·exact .inl ⟨k z J1 _ hz,a,b,k TO J1 _ hTO⟩
  exact .inr ⟨T,bb,oT,k z J1 _ hz,(sb.2 T (λq=>nT (q ▸ J1))).trans hT,nT⟩
 by_cases c:e=d
 ·exact c ▸ hd
 obtain⟨o,ho⟩:=live e he;exact⟨o,(sb.2 e c).trans ho⟩
theorem Pl {R:Result->Shared->Prop}{kvs:List (Key × Value)}{res:Value}(hA:A.handled=none)(D:Off z TI TO i1 i2 [i1,t] [i2,u])(e1:t≠i1)(e2:u≠i2)(o:∀ b∈[TI,t,u],b ∉ [z,TO,i1,i2])(nd:d ∉ [z,TI,TO,i1,i2,t,u])(hs:xs.size=ys.size)(len:kvs.length=xs.size)(hz:kvs.length<=sizeLine)
  (hk:∀ (i:Nat) (x y:Value),xs[i]?=some x->ys[i]?=some y->∃ k,kvs[i]?=some (k,y)/\(mixKind prog w).is k x=true) (nu:(kvs.map (·.1)).Nodup) :
  ∀ (k i:Nat) (s:Shared) (tk0:Tok),kvs.length - i=k->i<=kvs.length->ZW l m [z,TO,i1,i2,d] z TI TO i1 i2 t u xs ys i s.heap->s.heap.DictOf (mixKind prog w) d (kvs.take i) →
  (∀ h' tk,h'.DictOf (mixKind prog w) d kvs->(∀ b o,b ∉ [z,TO,i1,i2,d]->s.heap.get? b=some o->h'.get? b=some o)->R (.ok (.ret res)) { s with heap:=h',toks:=tk }) →
  codeAny (model prog w) A (.builtin "dict.update.loop" ⟨[.ref d,.ref z,.int i tk0,res],[]⟩) R s:=by
 have nd4:d ∉ [z,TO,i1,i2]:=λq=>nd (by simp at q;simp;rcases q with q | q | q | q <;> simp[q]);intro k
 induction k with
 | zero =>
  intro i s tk0 hk0 hi Z hm hR;have hin:i=kvs.length:=U
  subst hin;refine JU Vb ?_;rw[GA Xa _];show wpAny _ A.in1 (pyNext (.ref z) >>= _) _ _ s;refine YA (Pu hA D e1 e2 o (λb hb=>by simp at hb;simp;rcases hb with q | q | q | q <;> simp[q]) Z hs U (λp x y h' tk hx=>?_) λh' _ kp=>?_)
  ·exact absurd (GZ.mp hx).1 U
  rw[XV] at hm;exact YA (YD (YD (hR h' s.toks (V5 hm λo e=>kp d o nd4 e) λb o hb e=>kp b o (λq=>hb (by simp at q;simp;rcases q with q | q | q | q <;> simp[q])) e)))
 | succ k ih =>
  intro i s tk0 hk0 hi Z hm hR;have hlt:i<kvs.length:=U
  refine JU Vb ?_;rw[GA Xa _];show wpAny _ A.in1 (pyNext (.ref z) >>= _) _ _ s;refine YA (Pu hA D e1 e2 o (λb hb=>by simp at hb;simp;rcases hb with q | q | q | q <;> simp[q]) Z hs U (λp x y h' tk hx hy Z' pr hp kp=>?_) λh' hh=>absurd hh U);obtain⟨key,ekv,is⟩:=hk i x y hx hy;show wpAny _ _ (holding [.ref p] _ >>= _) _ _ _;refine YA (XM (YA (wpAny_tryCatch ?_)));unfold Builtin.Dict.pairItems;refine YA (zH (T:="tuple") ⟨_,pr,rfl⟩ ?_);rw[XQ J0];refine YA (JJ pr rfl (YD ?_));show wpAny _ _ (holding [x,y] (dictSet d x y)) _ _ _;refine XM (wpAny_dictSet_pairs (knd:=mixKind prog w) is (V5 hm λo e=>kp d o nd4 e) (λh2 hm2 hs2=>?_) (by rw[XS];omega));rw[R3 nu ekv] at hm2;refine YD ⟨qL Xa _,?_⟩;refine ih (i+1) _ _ U hlt (Z'.put nd hs2 (by obtain⟨o,_,_,ho,_⟩:=hm2;exact⟨o,ho⟩)) hm2 λh3 tk3 hm3 k3=>?_;exact hR h3 tk3 hm3 λb o hb e=>k3 b o hb ((hs2.2 b (λq=>hb (q ▸ J1))).trans (kp b o (λq=>hb (by simp at q;simp;rcases q with q | q | q | q <;> simp[q])) e))
end
set_option maxHeartbeats 1000000
section
variable {prog:TM}{w:World}{A:Around}{E:TB}{s:Shared}{l m:Bool}{z TI TO i1 i2 t u:Addr}{xs ys:Array Value}
theorem Ul {kvs:List (Key × Value)}{Q:TB}(hA:A.handled=none)(D:Off z TI TO i1 i2 [i1,t] [i2,u])(e1:t≠i1)(e2:u≠i2)(o:∀ b∈[TI,t,u],b ∉ [z,TO,i1,i2])
  (hz0:IsZip s.heap z TI TO .none) (ti:IsPair s.heap TI (.ref i1) (.ref i2)) (to:∃ a b,IsPair s.heap TO a b) (r1:Ir l s.heap i1 t 0) (r2:Ir m s.heap i2 u 0) (q1:Iq l s.heap t xs) (q2:Iq m s.heap u ys)
  (hs:xs.size=ys.size) (len:kvs.length=xs.size) (hz:kvs.length<=sizeLine)
  (hk:∀ (i:Nat) (x y:Value),xs[i]?=some x->ys[i]?=some y->∃ k,kvs[i]?=some (k,y)/\(mixKind prog w).is k x=true) (nu:(kvs.map (·.1)).Nodup)
  (h:∀ h' tk,h'.DictOf (mixKind prog w) s.heap.objs.size kvs->(∀ b o,b ∉ [z,TO,i1,i2]->s.heap.get? b=some o->h'.get? b=some o)->Q (.ref s.heap.objs.size) { s with heap:=h',toks:=tk }) :
  wpAny (model prog w) A (call (.type "dict") [.ref z]) Q E s:=by
 refine callType_codes (Q₁:=λobj s₁=>obj=.ref s.heap.objs.size/\s₁={ s with heap:=s.heap.push { cls:=.type "dict",data:=.dict #[] } }) F.kt_called_dict (F.kt_typeCall_dict_1 _) F.entry_dict_init (kt_code_dict_new _ ⟨rfl,rfl⟩) ?_;rintro obj s₁ ⟨rfl,rfl⟩;have hnew:(s.heap.push { cls:=.type "dict",data:=.dict #[] }).DictOf (mixKind prog w) s.heap.objs.size []:=Heap.DictOf.new s.heap;refine⟨hnew.typeIs,F.args_dict_init_2 _ _,?_⟩;unfold Builtin.«dict.__init__»;refine YA ?_;unfold Builtin.Dict.selfAndRest;refine YA (wpAny_notOrdered_dict hnew.typeIs ?_);show wpAny _ _ (pure (s.heap.objs.size,[Value.ref z])) _ _ _;refine YD ?_;show wpAny _ _ (Builtin.Dict.updateFrom "dict.__init__" s.heap.objs.size (.ref z) [] .none) _ _ _;unfold Builtin.Dict.updateFrom;have ho':IsZip (s.heap.push { cls:=.type "dict",data:=.dict #[] }) z TI TO .none:=YB _ hz0;refine YA (zH (T:="zip") ⟨_,ho',rfl⟩ ?_);rw[XQ J0];refine YA (Wt ho' (by rw[qy,GI];kernel_rfl) J2 hA λh1 tk1 ee hn1=>?_);rw[XQ (show (none:Option Value).isNone=true from rfl)];refine YA (GJ ?_);have kp1:∀ b o,s.heap.get? b=some o->h1.get? b=some o:=λb o e=>hn1.keeps b o (YB _ e);refine YA (wpAny_pyIter_zip (kp1 _ _ hz0) ?_);have hd1:h1.get? s.heap.objs.size=some { cls:=.type "dict",data:=.dict #[] }:=hn1.keeps _ _ (YG _ rfl);obtain⟨a0,b0,to⟩:=to;have lt:∀ b,(∃ o,s.heap.get? b=some o)->b≠s.heap.objs.size:=λb hb q=>by
  obtain⟨o,ho⟩:=hb;exact XO _ (q ▸ YH ho)
 obtain⟨o1,a1,r1⟩:=r1;obtain⟨o2,a2,r2⟩:=r2;obtain⟨o3,a3,r3⟩:=q1;obtain⟨o4,a4,r4⟩:=q2;have nd:s.heap.objs.size ∉ [z,TI,TO,i1,i2,t,u]:=by
  intro q;simp only [YJ,JZ,zp] at q;rcases q with q | q | q | q | q | q | q
  ·exact lt z ⟨_,hz0⟩ q.symm
  ·exact lt TI ⟨_,ti⟩ q.symm
  ·exact lt TO ⟨_,to⟩ q.symm
  ·exact lt i1 ⟨_,a1⟩ q.symm
  ·exact lt i2 ⟨_,a2⟩ q.symm
  ·exact lt t ⟨_,a3⟩ q.symm
  exact lt u ⟨_,a4⟩ q.symm
 refine YD ⟨qL Xa _,?_⟩;refine Pl (A:=A.in1) (l:=l) (m:=m) (xs:=xs) (ys:=ys) hA D e1 e2 o nd hs len hz hk nu kvs.length 0 _ _ rfl (JH _) ?_ ?_ λh' tk hm' k'=>?_
 ·refine⟨.inl ⟨kp1 _ _ hz0,a0,b0,kp1 _ _ to⟩,kp1 _ _ ti,⟨o1,kp1 _ _ a1,r1⟩,⟨o2,kp1 _ _ a2,r2⟩,⟨o3,kp1 _ _ a3,r3⟩,⟨o4,kp1 _ _ a4,r4⟩,λe he=>?_⟩;simp only [YJ,JZ,zp] at he;rcases he with rfl | rfl | rfl | rfl | rfl
  ·exact⟨_,kp1 _ _ hz0⟩
  ·exact⟨_,kp1 _ _ to⟩
  ·exact⟨_,kp1 _ _ a1⟩
  ·exact⟨_,kp1 _ _ a2⟩
  exact⟨_,hd1⟩
 ·rw[List.take_zero];exact V5 hnew λo e=>hn1.keeps _ _ e
 refine⟨rfl,h h' tk hm' λb o hb e=>k' b o (λq=>?_) (kp1 b o e)⟩;simp only [YJ,JZ,zp] at q;rcases q with q | q | q | q | q
 ·exact hb (by simp[q])
 ·exact hb (by simp[q])
 ·exact hb (by simp[q])
 ·exact hb (by simp[q])
 exact lt b ⟨o,e⟩ q
end
set_option maxHeartbeats 1000000
section
variable {X:Cx}{K:TL}{p p2 pos pos2:Pos}{ta:TA}{a b:Expr}
theorem Kd {σ:L2.St}(I:Inv X pins σ H s):sysModules<s.heap.objs.size:=by
 have hg:=I.mod.glob.keeps I.bk |>.lt
 exact JW (show sysModules<mainGlobals by decide) hg
theorem K8:∀ {ks:List PySem.Str} {ys:TQ} {us:TF},Vals ys us->KV ((ks.map Sum.inr).zip ys) ((ks.map (Sum.inr:PySem.Str->Key)).zip us)
 | [],_,_,_=>.nil
 | _::_,_,_,.nil=>.nil
 | _::_,_,_,.cons r t=>.cons ⟨rfl,r⟩ (K8 t)
inductive rDZ (K:TL) (Q:VK) (vs:TQ) (H1:Hp):Prop
 | mk (t u:Addr) (ks:List PySem.Str) (ys:TQ) (a0:vs=[.ref t,.ref u]) (a1:SqL K H1 t (ks.map V.str)) (a2:SqT K H1 u ys) (a3:ks.length=ys.length) (a4:ks.Nodup) (a5:∀ d,H1 d=none->Q (.ref d) (upd H1 d (.dK ((ks.map Sum.inr).zip ys))))
def tDZ (K:TL)(ta:TA):TE:=λσ H Q=>ta σ H (rDZ K Q)
theorem Lw (hA:X.A.handled=none)(hgd:Gl X "dict")(hmd:X.mg "dict"=none)(hgz:Gl X "zip")(hmz:X.mg "zip"=none)(ha:PA X [a,b] ta)(hs:starEach [a,b] X.env=[(false,eval a X.env),(false,eval b X.env)]:=by rfl)
  (hs2:starEach [b] X.env=[(false,eval b X.env)]:=by rfl) (hs3:starEach [.Call (.Name "zip" p2) [a,b] [] pos2] X.env=[(false,eval (.Call (.Name "zip" p2) [a,b] [] pos2) X.env)]:=by rfl) (hK:X.K=K:=by rfl) :
  PE X (.Call (.Name "dict" p) [.Call (.Name "zip" p2) [a,b] [] pos2] [] pos) (tDZ K ta):=by
 subst hK;intro pins s σ H Q I h;refine Call_ (Wa I hgd hmd boot_dict (GR ?_ hs3 rfl));rw[hs3];refine Calls.spliced_cons (Call_ (Wa I hgz hmz boot_zip (GR (thn (ha pos2 pins s σ H _ I h) λus s1 ⟨vs,H1,I1,r1,q1⟩=>?_) (by rw[hs,hs2]) (by rw[hs2];rfl))));obtain⟨t,u,ks,ys,e,hx,hy,len,nd,q⟩:=q1;subst e;obtain⟨t0,u0,e0,rt,ru⟩:=L7 r1
 cases (show t0=Value.ref t from rt)
 cases (show u0=Value.ref u from ru);subst e0;obtain⟨u1,v1,p1⟩:=Vo (l:=true) I1 hx;obtain⟨u2,v2,p2'⟩:=Vo (l:=false) I1 hy;have n1:=v1.length;have n2:=v2.length;rw[YC] at n1;refine Kq true false p1 p2' λg z0 ti to i1 i2 sz kp=>Calls.spliced_nil ?_;have lt:t<s1.heap.objs.size:=by
  obtain⟨o,ho,_⟩:=p1;exact YH ho
 have lu:u<s1.heap.objs.size:=by
  obtain⟨o,ho,_⟩:=p2';exact YH ho
 have up:∀ {l:Bool} {c:Addr} {zs:Array Value},Iq l s1.heap c zs->Iq l g c zs:=λhq=>by
  obtain⟨o,ho,r⟩:=hq;exact⟨o,kp _ _ ho,r⟩
 have nt:∀ k:Nat,t≠s1.heap.objs.size+k:=λk=>YT (YN lt (GV _ _));have nu:∀ k:Nat,u≠s1.heap.objs.size+k:=λk=>YT (YN lu (GV _ _));have D:Off (s1.heap.objs.size+4) (s1.heap.objs.size+2) (s1.heap.objs.size+3) s1.heap.objs.size (s1.heap.objs.size+1) [s1.heap.objs.size,t] [s1.heap.objs.size+1,u]:=by
  refine⟨⟨?_,?_,?_,?_,?_,?_,?_,?_,?_,?_⟩,?_,?_,?_,?_,?_,?_⟩ <;> first
   | (show @Ne Nat _ _;omega)
   | (intro z;simp only [YJ,JZ,zp] at z;rcases z with z | z
      ·exact absurd (show @Eq Nat _ _ from z) U
      first | exact nt _ z.symm | exact nu _ z.symm | exact nt 0 z.symm | exact nu 0 z.symm)
 have vl:((ks.map (Sum.inr:PySem.Str->Key)).zip u2).length=u1.toArray.size:=by
  rw[List.length_zip,YC,YF];omega
 have len2:ks.length=u2.length:=U
 refine Ul (l:=true) (m:=false) (kvs:=(ks.map (Sum.inr:PySem.Str->Key)).zip u2) hA D (nt 0) (nu 1) (λb hb z=>?_) z0 ti ⟨_,_,to⟩ i1 i2 (up p1) (up p2') (by simp;omega) vl ?_ (λi x y hx' hy'=>?_) ?_ λh' tk hm k'=>?_
 ·simp only [YJ,JZ,zp] at hb z;rcases hb with rfl | rfl | rfl
  ·rcases z with z | z | z | z <;> exact absurd (show @Eq Nat _ _ from z) U
  ·rcases z with z | z | z | z
   ·exact nt _ z
   ·exact nt _ z
   ·exact nt 0 z
   exact nt _ z
  rcases z with z | z | z | z
  ·exact nu _ z
  ·exact nu _ z
  ·exact nu 0 z
  exact nu _ z
 ·rw[vl,YF,<-n1];obtain⟨its,r,pl,hz⟩:=I1.list hx;rw[YC] at hz;exact hz
 ·have hi:i<u1.length:=by
   have:=(GZ.mp hx').1
   simpa using this
  obtain⟨w1,e1,r⟩:=v1.get (i:=i) (x:=V.str (ks[i]'U)) J1;rw[GH] at hx' hy';rw[hx'] at e1
  cases e1;refine⟨Sum.inr (ks[i]'U),?_,K9 (k:=Sum.inr _) r⟩;rw[List.getElem?_zip_eq_some];exact⟨J1,hy'⟩
 ·have:((ks.map (Sum.inr:PySem.Str->Key)).zip u2).map (·.1)=ks.map Sum.inr:=by
   rw[List.map_fst_zip (by simp;omega)]
  rw[this];rw[qd,qC];exact (qd.mp nd).imp λhne z=>hne (Sum.inr.inj z)
 have kp':∀ b o,s1.heap.get? b=some o->h'.get? b=some o:=λb o e=>k' b o (λz=>by
  have hb:b<s1.heap.objs.size:=YH e;simp only [YJ,JZ,zp] at z;rcases z with z | z | z | z
  ·exact YT (YN hb (GV _ _)) z
  ·exact YT (YN hb (GV _ _)) z
  ·exact YT hb z
  exact YT (YN hb (GV _ _)) z) (kp b o e)
 have big:s1.heap.objs.size<=g.objs.size:=by rw[sz];exact GV _ _
 refine⟨.ref g.objs.size,_,I1.laid (t':=tk) kp' big (show ObjOk X.prog X.w _ h' g.objs.size (.dK ((ks.map Sum.inr).zip ys)) from ⟨?_,?_,_,K8 v2,hm⟩),rfl,q _ (I1.hok.fresh big)⟩
 ·obtain⟨its,r,pl,hz⟩:=I1.list hx;rw[YC] at hz;rw[List.length_zip,YC];exact XA (Nat.min_le_left _ _) hz
 exact beq_false_of_ne (qX (YN (Kd I1) big))
end
end Sb
namespace Sb
open PySem PySem.Spec PyProof.Rows L2
open PySem.Builtin PySem.Builtin.Str
section
variable {X:Cx}
def partP (z y:PySem.Str):List PySem.Str:=match occurrences z y 0 z.length 1 with
 | i::_=>[strSub z 0 i,y,strSub z (i+y.length) z.length]
 | []=>[z,Str.empty,Str.empty]
inductive rPartit (x:V) (vs:TQ) (H:Hp) (Q:VK):Prop
 | mk (z y:PySem.Str) (a0:x=.str z) (a1:vs=[.str y]) (a2:(y.length == 0)=false) (a3:z.length<=1000000) (a4:∀ l,H l=none->Q (.ref l) (upd H l (.tup ((partP z y).map V.str))))
theorem Mf:MtR X "str.partition" rPartit:=by
 intro pins s σ H x vs v us Q I rx rv h;obtain⟨z,y,rfl,rfl,hy,hz,q⟩:=h;obtain⟨t,rfl⟩:=rx;obtain⟨u,rfl,t',rfl⟩:=rv.one;refine qQ F.slot_str_partition (zf _ _ _) F.entry_str_partition (F.args_str_partition_2 _ _) (meets_str_partition z y t t' hy (XA hz J0)) ?_;have fin:∀ (l:List (PySem.Str × Tok)) (k:Nat),l.map (·.1)=partP z y->EP X pins σ Q (.ref s.heap.objs.size) { s with heap:=s.heap.push { cls:=.type "tuple",data:=.seq (strValues l).toArray },toks:=k }:=λl k e=>by
  have ln:(partP z y).length<=3:=by unfold partP;split <;> exact YE 3
  exact⟨.ref s.heap.objs.size,_,I.laid (t':=k) (λb o e=>YB _ e) (YE _) (show ObjOk X.prog X.w _ _ _ (.tup ((partP z y).map V.str)) from ⟨by rw[YC];exact XA ln J0,strValues l,Vk e,⟨_,YG _ rfl,rfl,0,rfl⟩⟩),rfl,q _ (I.hok.fresh (YE _))⟩
 unfold partP at fin
 cases ho:occurrences z y 0 z.length 1 with
 | nil =>
  rw[ho] at fin;exact fin [(z,t),(Str.empty,s.toks),(Str.empty,s.toks)] _ rfl
 | cons i r =>
  rw[ho] at fin;exact fin [(strSub z 0 i,s.toks),(y,t'),(strSub z (i+y.length) z.length,s.toks+1)] _ rfl
def cutS (z:PySem.Str)(a b:Nat):PySem.Str:=⟨((z.cps.toList.drop a).take (b - a)).toArray⟩
def loN:Option Nat->Option Int:=λo=>o.map λk=>(k:Int)
inductive rSlS (x:V) (lo hi:Option Int) (H:Hp) (Q:VK):Prop
 | mk (z:PySem.Str) (a b:Option Nat) (a0:x=.str z) (a1:lo=loN a) (a2:hi=loN b) (a3:min (a.getD 0) z.length<=min (b.getD z.length) z.length) (a4:z.length<=1000000) (a5:Q (.str (cutS z (min (a.getD 0) z.length) (min (b.getD z.length) z.length))) H)
theorem P5 {z:PySem.Str}{a b:Nat}(h:a<=b)(hb:b<=z.length):((List.range' a (b - a)).filterMap (z.cps[·]?))=(z.cps.toList.drop a).take (b - a):=by
 have e:∀ (l:List Nat) (a n:Nat),a+n<=l.length->(List.range' a n).filterMap (l[·]?)=(l.drop a).take n:=by
  intro l a n
  induction n generalizing a with
  | zero=>intro _;simp
  | succ n ih =>
   intro hl;have ha:a<l.length:=U
   rw[jf,JP,YZ ha,ih (a+1) U,List.drop_eq_getElem_cons ha,List.take_succ_cons]
 have:=e z.cps.toList a (b - a) (by
  have:z.cps.toList.length=z.length:=by simp[Str.length]
  omega)
 rw[<-this]
 congr 1
 funext k
 simp
theorem Ke (a b n:Nat):strSliceIndices (some (a:Int)) (some (b:Int)) 1 n=strSliceIndices (some ((min a n:Nat):Int)) (some ((min b n:Nat):Int)) 1 n:=by
 have h1:¬ ((a:Int)<0):=U
 have h2:¬ ((b:Int)<0):=U
 have h3:¬ (((min a n:Nat):Int)<0):=U
 have h4:¬ (((min b n:Nat):Int)<0):=U
 have e1:max (0:Int) (min (a:Int) (n:Int))=max (0:Int) (min ((min a n:Nat):Int) (n:Int)):=U
 have e2:max (0:Int) (min (b:Int) (n:Int))=max (0:Int) (min ((min b n:Nat):Int) (n:Int)):=U
 simp only [strSliceIndices,h1,h2,h3,h4,qF,show ((1:Int) > 0)=True from by simp,zl,e1,e2]
theorem Ri (a n:Nat):(List.range n).map (λk=>a+k)=List.range' a n:=by
 rw[List.range_eq_range',List.map_add_range'];simp
theorem Jt (lo hi:Option Nat)(n:Nat)(h:min (lo.getD 0) n<=min (hi.getD n) n):strSliceIndices (loN lo) (loN hi) 1 n=List.range' (min (lo.getD 0) n) (min (hi.getD n) n - min (lo.getD 0) n):=by
 have e1:strSliceIndices (loN lo) (loN hi) 1 n=strSliceIndices (some ((lo.getD 0:Nat):Int)) (some ((hi.getD n:Nat):Int)) 1 n:=by
  cases lo with
  | none =>
   show strSliceIndices none _ 1 n=_;rw[StrLaws.sliceIdx_none_lo]
   cases hi with
   | none=>show strSliceIndices _ none 1 n=_;rw[j8];rfl
   | some b=>rfl
  | some a =>
   cases hi with
   | none=>show strSliceIndices _ none 1 n=_;rw[j8];rfl
   | some b=>rfl
 rw[e1,Ke,StrLaws.strSliceIndices_plain h (ja _ _),Ri]
theorem Qr:SlR X rSlS:=by
 intro pins s σ H x v vl vu lo hi sl Q I rx hs pl pu h;obtain⟨z,a,b,rfl,rfl,rfl,hab,hz,q⟩:=h;obtain⟨t,rfl⟩:=rx;have part:∀ {v:Value} {o:Option Nat},IsPart v (loN o)->∃ p:Option (Int × Tok),v=partValue p/\p.map (·.1)=loN o:=λ{v o} hp=>by
  generalize loN o=c at hp
  cases hp with
  | none=>exact⟨none,rfl,rfl⟩
  | int i t=>exact⟨some (i,t),rfl,rfl⟩
 obtain⟨p,rfl,ep⟩:=part pl;obtain⟨p',rfl,ep'⟩:=part pu;refine⟨"str",_,F.slot_str_getitem.lookup,zf _ _ _,wpAny_getItem_str_slice (l:=p) (u:=p') (st:=none) hs rfl ?_⟩;have pk:slicePicked z p p' none=List.range' (min (a.getD 0) z.length) (min (b.getD z.length) z.length - min (a.getD 0) z.length):=by
  unfold slicePicked;rw[ep,ep'];exact Jt a b z.length hab
 have hc:=P5 (z:=z) hab (ja _ _);unfold sliceMade;rw[pk];split
 ·rename_i hw
  have hw:((List.range' (min (a.getD 0) z.length) (min (b.getD z.length) z.length - min (a.getD 0) z.length)).length == z.length)=true:=hw;rw[List.length_range'] at hw;have hw:=eq_of_beq hw;have h0:min (a.getD 0) z.length=0:=U
  have h1:min (b.getD z.length) z.length=z.length:=U
  rw[h0,h1] at q;have e:cutS z 0 z.length=z:=by
   unfold cutS;have:z.cps.toList.length=z.length:=by simp[Str.length]
   rw[zL,Y07,<-this,XV]
  rw[e] at q;exact⟨.str z,H,I,⟨t,rfl⟩,q⟩
 rw[hc];refine⟨?_,.str (cutS z (min (a.getD 0) z.length) (min (b.getD z.length) z.length)),H,I.tok _,⟨_,rfl⟩,q⟩;refine XA ?_ (XA hz J0);show (List.toArray _).size<=z.cps.size;rw[YF,XS,qv];have:z.cps.toList.length=z.cps.size:=J1
 omega
end
theorem L4 (bs:List Bool):(List.range bs.length).all (λi=>bs.getD i false)=bs.all id:=by
 induction bs with
 | nil=>rfl
 | cons b r ih =>
  rw[YS,jp,j6,List.all_map,j6,<-ih];rfl
section
variable {X:Cx}{K:TL}
inductive rAll (K:TL) (xs:TQ) (H:Hp) (Q:VK):Prop
 | mk (p:Addr) (bs:List Bool) (a0:xs=[.ref p]) (a1:SqL K H p (bs.map V.bl)) (a2:Q (.bl (bs.all id)) H)
theorem V7 (hc:X.calm=true)(hK:X.K=K:=by rfl):CallR X (.builtin "all") (rAll K):=by
 subst hK;intro pins s σ H xs us Q I r h;obtain⟨p,bs,rfl,hs,q⟩:=h;obtain⟨u,e0,rx⟩:=X8 r
 cases (show u=Value.ref p from rx);subst e0;obtain⟨its,rv,pl,hz⟩:=I.list hs;have hl:=rv.length;rw[YC] at hl;have lp:s.heap.IsList p its.toArray:=pl.isList;have lt:p<s.heap.objs.size:=by
  obtain⟨o,e,_⟩:=lp;exact YH e
 have ip:∀ p∈X.pn,s.heap.get? p.1=some p.2:=λp hp=>(I.pin p (YW _ hp)).1;refine call_all_walk (qB lp ?_);refine⟨s.heap.objs.size,_,_,_,_,_,λi=>bs.getD i false,rfl,Walks.listQ (A:=X.A.in1) (I.ok.hd hc) s.heap.objs.size p (YT lt) (λp hp=>YT (YH (ip p hp))) its.toArray,⟨⟨_,YG _ rfl,rfl,rfl⟩,lp.at λo e=>YB _ e,λp hp=>YB _ (ip p hp)⟩,?_,λh' tk k=>?_⟩
 ·intro i v s' Q' E' hP hQ;have hi:i<its.length:=by
   have:=(GZ.mp hP).1
   simpa using this
  have hb:i<bs.length:=U
  have e1:(bs.map V.bl)[i]?=some (V.bl bs[i]):=by simp[hb]
  obtain⟨w,e2,rw'⟩:=rv.get e1;have e3:its[i]?=some v:=by simpa using hP
  rw[e2] at e3
  cases e3
  cases (show v=Value.bool bs[i] from rw');have e4:bs.getD i false=bs[i]:=by simp[List.getD,hb]
  replace hQ:Q' (bs.getD i false) s':=hQ;rw[e4] at hQ;exact JL hQ
 have e:(List.range its.toArray.size).all (λi=>bs.getD i false)=bs.all id:=by
  rw[YF,<-hl];exact L4 bs
 rw[e];refine⟨.bl (bs.all id),H,?_,rfl,q⟩;exact I.kept (t':=tk) λb o z=>k b o (by
  intro m;have:b=s.heap.objs.size:=by simpa using m
  rw[this] at z;exact absurd (YH z) (XO _)) (YB _ z)
inductive rLeS (x y:V) (H:Hp) (Q:VK):Prop
 | mk (i j:PySem.Str) (a0:x=.str i) (a1:y=.str j) (a2:Q (.bl (!decide (j.cps.toList<i.cps.toList))) H)
theorem Ux:OpR X (compareOp .LtE) rLeS:=by
 intro pins s σ H x y v u Q I rx ry h;obtain⟨i,j,rfl,rfl,q⟩:=h;obtain⟨t,rfl⟩:=rx;obtain⟨t',rfl⟩:=ry;exact PySem.P.le_str (Zm I q rfl)
end
section
variable {prog:TM}{w:World}{A:Around}{E:TB}{s:Shared}{it:Addr}{x:PySem.Str}{t:Tok}{i:Nat}
theorem Qh {Q:Option Value->Shared->Prop}(hq:Qt A s.heap)(hit:s.heap.IsStrIter it "str_ascii_iterator" x t i)(hx:x.cps[i]?=none)(hQ:∀ h',Heap.ExtBut it s.heap h'->Q none { s with heap:=h' }):wpAny (model prog w) A (pyNext (.ref it)) Q E s:=by
 obtain⟨o,io,hc,hd⟩:=id hit;have ty:=hit.typeIs;unfold pyNext;refine YA (GS (XH (name:=Str.ofString "__next__") ty zi (XR zi ty F.entry_str_ascii_iterator_next ?_ (F.args_str_ascii_iterator_next_1 _))));show wpAny _ _ (field (.ref it) 0 >>= _) _ _ s;refine YA (XB io hd (x:=.str x t) rfl ?_);show wpAny _ _ (field (.ref it) 1 >>= _) _ _ s;refine YA (XB io hd (x:=.int i 0) rfl ?_);simp only [GN,hx];refine YA (GJ (YA (qE io hd J1 (YA (wpAny_letGo ?_)))));refine Wz (hq:=(hq.but io λn=>?_)) λh' e k he=>?_
 ·obtain⟨vs,e1,e2⟩:=n;rw[hd] at e1
  cases e1;simp at e2
 obtain⟨oe,h1,h2⟩:=he;refine YA (JY (T:="StopIteration") (b:=true) ⟨_,h1,h2⟩ qq (YD (hQ _ λb o hb e=>k b o ((JD ..).extBut b o hb e))))
end
section
variable {X:Cx}{K:TL}{tg:Expr}
def Its (z:PySem.Str):It:=⟨λi _=>i<z.cps.size,λi H x H'=>H'=H/\∃ c,z.cps[i]?=some c/\x=.str ⟨#[c]⟩,λi _=>z.cps.size<=i⟩
theorem L9 {P:TM}{w:World}(it:Addr)(z:PySem.Str)(t:Tok):Turn P w K tg (Its z) [it] it (λi h=>h.IsStrIter it "str_ascii_iterator" z t i) where
 mem:=J1
 obj:=λi h st b hb=>by
  obtain rfl:b=it:=by simpa using hb
  obtain⟨o,e,c,q⟩:=st;exact⟨o,e,λv z=>by rw[q] at z;cases z⟩
 keep:=λi h h' st k=>let ⟨o,e,r⟩:=st;⟨o,k it J1 o e,r⟩
 item:=by
  intro X hP hw hK hc i pins s σ H E I hf st lt;subst hP hw hK;have lt:i<z.cps.size:=lt;obtain⟨f0,f1,f2,f3,f4,f5⟩:=hf it J1;refine wpAny_pyNext_ascii_item (c:=z.cps[i]) st (by simp[lt]) λh' st' sb=>?_;have I1:Inv X pins σ H { s with heap:=h',toks:=s.toks+1 }:=I.turned (t':=s.toks+1) (λb o hb e=>(sb.2 b hb).trans e) f0 f1 f3 f4 f5;obtain⟨oi,e,c,q⟩:=id st';exact⟨_,rfl,Nc (s:={ s with heap:=h',toks:=s.toks+1 }) e c q J0 ⟨.str ⟨#[z.cps[i]]⟩,H,I1,⟨_,rfl⟩,⟨rfl,_,by simp[lt],rfl⟩,st',λb hb=>(hf b hb).1⟩⟩
 done:=by
  intro X hP hw hK hc i pins s σ H E I hf st ge;subst hP hw hK;have ge:z.cps.size<=i:=ge;obtain⟨f0,f1,f2,f3,f4,f5⟩:=hf it J1;exact Qh (I.qt hc) st (by simp[ge]) λh' eb=>⟨rfl,I.turned (t':=s.toks) (λb o hb e=>eb b o hb e) f0 f1 f3 f4 f5⟩
 self:=λ_ _ _ _ _ st h=>wpAny_pyIter_striter_ascii st h
inductive iStr_i (R:It->Hp->Prop) (x:V) (H:Hp):Prop
 | mk (z:PySem.Str) (a0:x=.str z) (a1:z.cps.all (·<128)=true) (a2:R (Its z) H)
def iStr (tl:TE):TI:=λσ H R=>tl σ H (iStr_i R)
theorem Ls {l:Expr}(hl:PE X l tl):PI X tg l (iStr tl):=by
 intro pins s σ H R I h;refine thn (hl pins s σ H _ I h) λv s1 z=>?_;obtain⟨x,H1,I1,r1,z,rfl,ha,q⟩:=z;obtain⟨t,rfl⟩:=r1;refine wpAny_pyIter_ascii ha ?_;refine⟨s1.heap.objs.size,[s1.heap.objs.size],_,_,H1,rfl,I1.kept (t':=s1.toks) λb o e=>YB _ e,L9 _ z t,⟨_,YG _ rfl,rfl,rfl⟩,λb hb=>?_,q⟩;obtain rfl:b=s1.heap.objs.size:=by simpa using hb
 exact I1.fpOk (YE _) (I1.hok.fresh (YE _))
inductive rFmt2 (a c:PySem.Str) (Q:VK) (y:V) (H:Hp):Prop
 | mk (j:Int) (a0:y=.int j) (a1:j.natAbs.log2<1920) (a2:(a++c++PySem.Str.ofString (toString j)).length<=sizeLine) (a3:Q (.str (a++c++PySem.Str.ofString (toString j))) H)
inductive rFmt1 (σ:L2.St) (c:PySem.Str) (tb:TE) (Q:VK) (x:V) (H:Hp):Prop
 | mk (i:Int) (a0:x=.int i) (a1:i.natAbs.log2<1920) (a2:(PySem.Str.empty++PySem.Str.ofString (toString i)++c).length<=sizeLine) (a3:tb σ H (rFmt2 (PySem.Str.empty++PySem.Str.ofString (toString i)) c Q))
def tFmt (ta:TE)(c:PySem.Str)(tb:TE):TE:=λσ H Q=>ta σ H (rFmt1 σ c tb Q)
theorem Fc {ea eb:Expr}{ta tb:TE}{c:PySem.Str}{j p1 p2 p3 pos}(ha:PE X ea ta)(hb:PE X eb tb):PE X (.JoinedStr [.FormattedValue ea (-1) none p1,.Constant (.str c) j p2,.FormattedValue eb (-1) none p3] pos) (tFmt ta c tb):=by
 intro pins s σ H Q I h;refine wpAny_JoinedStr ?_;refine zU (thn (ha pins s σ H _ I h) λv s1 z=>?_);obtain⟨x,H1,I1,r1,i,rfl,l1,z1,q1⟩:=z;obtain⟨t,rfl⟩:=r1;refine wpAny_formatField_int l1 ⟨_,_,rfl,XA (by rw[strLen_append (PySem.Str.empty++PySem.Str.ofString (toString i)) c];exact GV _ _) z1,?_⟩;refine Calls.Constant_str ⟨_,_,rfl,z1,?_⟩;refine zU (thn (hb pins _ σ H1 _ ((I1.tok _).tok _) q1) λv s2 z=>?_);obtain⟨y,H2,I2,r2,j',rfl,l2,z2,q2⟩:=z;obtain⟨t',rfl⟩:=r2;refine wpAny_formatField_int l2 ⟨_,_,rfl,z2,?_⟩;exact⟨z2,.str _,H2,(I2.tok _).tok _,⟨_,rfl⟩,q2⟩
end
end Sb
namespace Sb
open PySem PySem.Spec PyProof.Rows
theorem Nk {c:Nat}:∀ {w v r q:List Nat},c ∉ w->c ∉ v->w++c::r=v++c::q->w=v/\r=q
 | [],[],r,q,_,_,h=>by
  simp at h;exact⟨rfl,h⟩
 | [],y::v,r,q,_,hv,h=>by
  simp at h;exact absurd (h.1 ▸ YL) hv
 | x::w,[],r,q,hw,_,h=>by
  simp at h;exact absurd (h.1 ▸ YL) hw
 | x::w,y::v,r,q,hw,hv,h=>by
  simp only [zj,List.cons.injEq] at h;obtain⟨a,b⟩:=Nk (λz=>hw (YK _ z)) (λz=>hv (YK _ z)) h.2;exact⟨by rw[h.1,a],b⟩
theorem Yj {a b:PySem.Str}(h:a.cps.toList=b.cps.toList):a=b:=Str.ext' (Array.toList_inj.mp h)
theorem Zp (a b:PySem.Str):(a++b).cps.toList=a.cps.toList++b.cps.toList:=by
 show (a.cps++b.cps).toList=_;simp
theorem Xf (y a b:PySem.Str)(r:List PySem.Str):Str.join y (a::b::r)=a++y++Str.join y (b::r):=rfl
theorem Q7 {c:Nat}:∀ {ws vs:List PySem.Str},ws≠[]->vs≠[]->(∀ w∈ws,c ∉ w.cps.toList)->(∀ v∈vs,c ∉ v.cps.toList)->Str.join ⟨#[c]⟩ ws=Str.join ⟨#[c]⟩ vs->ws=vs
 | [],_,h,_,_,_,_=>absurd rfl h
 | _,[],_,h,_,_,_=>absurd rfl h
 | [w],[v],_,_,_,_,h=>by rw[show w=v from h]
 | [w],v::v'::vs,_,_,hw,_,h=>by
  have:w=v++⟨#[c]⟩++Str.join ⟨#[c]⟩ (v'::vs):=h;exact absurd (by rw[this,Zp,Zp];simp) (hw w YL)
 | w::w'::ws,[v],_,_,_,hv,h=>by
  have:w++⟨#[c]⟩++Str.join ⟨#[c]⟩ (w'::ws)=v:=h;exact absurd (by rw[<-this,Zp,Zp];simp) (hv v YL)
 | w::w'::ws,v::v'::vs,_,_,hw,hv,h=>by
  have h:w++⟨#[c]⟩++Str.join ⟨#[c]⟩ (w'::ws)=v++⟨#[c]⟩++Str.join ⟨#[c]⟩ (v'::vs):=h;have h2:=congrArg (λz:PySem.Str=>z.cps.toList) h;simp only [Zp,j4] at h2;obtain⟨a,b⟩:=Nk (hw w YL) (hv v YL) h2;rw[Yj a,Q7 J1 J1 (λx hx=>hw x (YK _ hx)) (λx hx=>hv x (YK _ hx)) (Yj b)]
theorem Qp {ws:List PySem.Str}(h0:ws≠[])(h:∀ w∈ws,c ∉ w.cps.toList):Txt.split (Str.join ⟨#[c]⟩ ws) ⟨#[c]⟩=ws:=by
 refine Q7 (c:=c) (λz=>?_) h0 (λv hv=>StrLaws.split_free _ c v hv) h (StrLaws.join_split _ _);have:=split_pos (Str.join ⟨#[c]⟩ ws) ⟨#[c]⟩;rw[z] at this;exact absurd this J0
end Sb
namespace Sb
open PySem PySem.Spec PyProof.Rows PySem.NumText
abbrev numS (n:Int):PySem.Str:=PySem.Str.ofString (toString n)
abbrev digs (m:Nat):List Nat:=(Nat.toDigits 10 m).map Char.toNat
theorem Xo (m:Nat):(numS (m:Int)).cps.toList=digs m:=W.KIN.signs_num m
theorem Vi (m:Nat)(h:0<m):(numS (-(m:Int))).cps.toList=45::digs m:=by
 obtain⟨k,rfl⟩:∃ k,m=k+1:=⟨m - 1,U⟩;rw[signs_ofString];show ("-"++Nat.repr (k+1)).toList.map Char.toNat=_;rw[String.toList_append,XJ,Nat.toList_repr];rfl
theorem Xh (m:Nat):AllDigits (digs m):=by
 intro c hc;obtain⟨ch,hch,e⟩:=JE.mp hc;rw[<-e];exact digit_range (Nat.isDigit_of_mem_toDigits J0 J0 hch)
theorem Vj (m:Nat):digs m≠[]:=by
 intro e;have h:=toDigits_len_ge 10 m;rw[List.map_eq_nil_iff.mp e] at h;exact absurd h J0
theorem Ta:∀ (k fuel n:Nat) (ds:List Char),1<=k->n<10 ^ k->(Nat.toDigitsCore 10 fuel n ds).length<=ds.length+k
 | _,0,_,ds,_,_=>by simp[Nat.toDigitsCore]
 | k,fuel+1,n,ds,hk,hn=>by
  unfold Nat.toDigitsCore;by_cases h0:n / 10=0
  ·simp only [h0,zl,YS];omega
  simp only [h0,qF];have hk2:2<=k:=by
   by_cases h1:k=1
   ·subst h1;exfalso;apply h0;have:n<10:=by simpa using hn
    omega
   omega
  have hn':n / 10<10 ^ (k - 1):=by
   have e:10 ^ k=10 ^ (k - 1)*10:=by rw[<-Nat.pow_succ];congr 1;omega
   rw[e] at hn;exact Nat.div_lt_of_lt_mul (by rw[Nat.mul_comm];exact hn)
  have ih:=Ta (k - 1) fuel (n / 10) (Nat.digitChar (n % 10)::ds) U hn';simp only [YS] at ih;omega
theorem U9 {k m:Nat}(hk:1<=k)(h:m<10 ^ k):(digs m).length<=k:=by
 have:=Ta k (m+1) m [] hk h
 simpa [Nat.toDigits,digs] using this
theorem Zk (x:PySem.Str):x.length=x.cps.toList.length:=by simp[PySem.Str.length]
theorem W3 (n:Int):(∃ m:Nat,n=m) \/ ∃ m:Nat,0<m/\n=-(m:Int):=by
 by_cases h:0<=n
 ·exact .inl ⟨n.toNat,U⟩
 exact .inr ⟨(-n).toNat,U,U⟩
theorem Yw {n:Int}{k:Nat}(hk:1<=k)(h:n.natAbs<10 ^ k):(numS n).length<=k+1/\1<=(numS n).length:=by
 rcases W3 n with ⟨m,rfl⟩ | ⟨m,hm,rfl⟩
 ·rw[Zk,Xo];have:=U9 hk (show m<10 ^ k by simpa using h);have h2:=zF.mpr (Vj m);omega
 rw[Zk,Vi m hm];have:=U9 hk (show m<10 ^ k by simpa using h);simp only [YS];omega
theorem Mb {n:Int}{k:Nat}(hk:1<=k)(h:n.natAbs<10 ^ k)(k2:k<=600):PySem.intText? (numS n)=some n:=by
 have hl:=(Yw hk h).1;rcases W3 n with ⟨m,rfl⟩ | ⟨m,hm,rfl⟩
 ·have e:=intText_digits (x:=numS (m:Int)) (by rw[Xo];exact Xh m) (by rw[Xo];exact Vj m) U;rw[Xo,W.KIN.val_back] at e;exact e
 have e:=intText_neg (x:=numS (-(m:Int))) (Vi m hm) (Xh m) (Vj m) U;rw[W.KIN.val_back] at e;exact e
theorem Wm {n:Int}(h:c∈(numS n).cps.toList):c=45 \/ (48<=c/\c<=57):=by
 rcases W3 n with ⟨m,rfl⟩ | ⟨m,hm,rfl⟩
 ·rw[Xo] at h;exact .inr (Xh m c h)
 rw[Vi m hm] at h;rcases YJ.mp h with h | h
 ·exact .inl h
 exact .inr (Xh m c h)
def figs (n:Int):PySem.Str:=⟨(digs n.natAbs).toArray⟩
theorem Kh (m:Nat):figs m=numS m:=Yj (by rw[Xo];simp[figs])
theorem Vx {n:Int}(h:n<0):(numS n).cps.toList=45::(figs n).cps.toList:=by
 rcases W3 n with ⟨m,rfl⟩ | ⟨m,hm,rfl⟩
 ·omega
 rw[Vi m hm];simp[figs]
theorem Qd (n:Int):AllDigits (figs n).cps.toList:=by
 show AllDigits (digs n.natAbs).toArray.toList;exact Xh _
theorem Ki {n:Int}{k:Nat}(hk:1<=k)(h:n.natAbs<10 ^ k):1<=(figs n).length/\(figs n).length<=k:=by
 rw[Zk];show 1<=(digs n.natAbs).length/\(digs n.natAbs).length<=k;exact⟨zF.mpr (Vj _),U9 hk h⟩
end Sb
namespace Sb
open PySem PySem.Spec PyProof.Rows PySem.Builtin PySem.Builtin.Str PySem.StrLaws
theorem T0 (s sub:PySem.Str)(hi:Nat):∀ (m cur:Nat) (st:Array Nat × Nat),1<=st.fst.size->(forIn (List.range' cur m) st (occBody s sub hi 1)).run=st
 | 0,_,_,_=>rfl
 | m+1,cur,st,h=>by
  rw[jf,GP];unfold occBody;split
  ·rename_i hc
   exact absurd hc.1.1.1 U
  exact T0 s sub hi m (cur+1) st h
theorem Ry (s sub:PySem.Str)(hi:Nat):∀ (m cur:Nat) (st:Array Nat × Nat),st.fst=#[]->st.snd<=cur →
  ((forIn (List.range' cur m) st (occBody s sub hi 1)).run.fst=#[]/\∀ k,cur<=k->k<cur+m->¬ At s sub hi k) ∨
  ∃ i,cur<=i/\i<cur+m/\(forIn (List.range' cur m) st (occBody s sub hi 1)).run.fst=#[i]/\At s sub hi i/\∀ k,cur<=k->k<i->¬ At s sub hi k
 | 0,cur,st,h,_=>.inl ⟨h,λk h1 h2=>U⟩
 | m+1,cur,st,h,h2=>by
  rw[jf,GP];unfold occBody;split
  ·rename_i hc
   refine .inr ⟨cur,YE _,U,?_,⟨hc.1.2,hc.2⟩,λk h1 h3=>U⟩;show (forIn (List.range' (cur+1) m) _ (occBody s sub hi 1)).run.fst=#[cur];rw[T0 s sub hi m (cur+1) _ J1,h];rfl
  rename_i hc
  have no:¬ At s sub hi cur:=λq=>hc ⟨⟨⟨by rw[h];decide,h2⟩,q.1⟩,q.2⟩;rcases Ry s sub hi m (cur+1) st h U with ⟨a,b⟩ | ⟨i,a1,a2,a3,a4,a5⟩
  ·refine .inl ⟨a,λk h1 h3=>?_⟩;by_cases e:k=cur
   ·exact e ▸ no
   exact b k U U
  refine .inr ⟨i,U,U,a3,a4,λk h1 h3=>?_⟩;by_cases e:k=cur
  ·exact e ▸ no
  exact a5 k U h3
theorem Sf (x y:PySem.Str):(occurrences x y 0 x.length 1=[]/\∀ k,¬ At x y x.length k) \/ ∃ i,occurrences x y 0 x.length 1=[i]/\At x y x.length i/\∀ k,k<i->¬ At x y x.length k:=by
 rw[occ_eq];rcases Ry x y x.length (x.length+1 - 0) 0 ((#[]:Array Nat),0) rfl (YE _) with ⟨a,b⟩ | ⟨i,_,a2,a3,a4,a5⟩
 ·refine .inl ⟨by rw[a],λk q=>b k (JH _) (by have:=q.1;omega) q⟩
 exact .inr ⟨i,by rw[a3],a4,λk hk=>a5 k (JH _) hk⟩
theorem We (x:PySem.Str)(c i:Nat):At x ⟨#[c]⟩ x.length i ↔ x.cps.toList[i]?=some c:=subAt_one x c i
theorem Js (x:PySem.Str)(c:Nat):(occurrences x ⟨#[c]⟩ 0 x.length 1).isEmpty=!decide (c∈x.cps.toList):=by
 rcases Sf x ⟨#[c]⟩ with ⟨a,b⟩ | ⟨i,a,b,_⟩
 ·rw[a,XL (λh=>?_)]
  ·rfl
  obtain⟨j,hj⟩:=qG h;exact b j ((We x c j).mpr hj)
 rw[a,XC (YO ((We x c i).mp b))];rfl
theorem M4 {z:PySem.Str}(h:c ∉ z.cps.toList):partP z ⟨#[c]⟩=[z,Str.empty,Str.empty]:=by
 unfold partP;rcases Sf z ⟨#[c]⟩ with ⟨a,_⟩ | ⟨i,_,b,_⟩
 ·rw[a]
 exact absurd (YO ((We z c i).mp b)) h
theorem M3 {a b:PySem.Str}(h:c ∉ a.cps.toList):partP (a++⟨#[c]⟩++b) ⟨#[c]⟩=[a,⟨#[c]⟩,b]:=by
 have el:(a++⟨#[c]⟩++b).cps.toList=a.cps.toList++c::b.cps.toList:=by
  rw[Zp,Zp,j4];rfl
 have hat:(a++⟨#[c]⟩++b).cps.toList[a.length]?=some c:=by
  rw[el,Zk a,GY (YE _)];simp
 unfold partP;rcases Sf (a++⟨#[c]⟩++b) ⟨#[c]⟩ with ⟨_,q⟩ | ⟨i,e,q1,q2⟩
 ·exact absurd ((We _ c _).mpr hat) (q _)
 have hi:i=a.length:=by
  have g:=(We _ c i).mp q1;rw[el] at g;apply zx
  ·apply GL;intro z;exact q2 _ z ((We _ c _).mpr hat)
  apply GL;intro z;rw[qh (by rw[<-Zk];exact z)] at g;exact h (YO g)
 subst hi;rw[e];have l1:(a++(⟨#[c]⟩:PySem.Str)++b).length=a.length+1+b.length:=by
  rw[Zk,el,Zk a,Zk b,XF,YS];omega
 have e1:strSub (a++⟨#[c]⟩++b) 0 a.length=a:=Yj (by
  rw[strSub_toList,el,zL,Y07,Zk a,ju];rfl)
 have e2:strSub (a++⟨#[c]⟩++b) (a.length+(⟨#[c]⟩:PySem.Str).length) (a++⟨#[c]⟩++b).length=b:=Yj (by
  rw[strSub_toList,el,l1];show ((a.cps.toList++c::b.cps.toList).drop (a.length+1)).take (a.length+1+b.length - (a.length+1))=_;rw[Zk a,<-List.drop_drop,jv rfl,jZ,jU,JM];rw[Zk b];omega)
 show [strSub _ 0 a.length,_,strSub _ _ _]=_;rw[e1,e2]
theorem R5 (x:PySem.Str)(c:Nat):Txt.startswith x ⟨#[c]⟩=decide (x.cps.toList[0]?=some c):=by
 rw[JV,GC,<-We x c 0];unfold Txt.startswith At;simp
end Sb
namespace Sb
open PySem L2
theorem Gn {D:Ends}{σ:L2.St}(h:te σ H λx H1=>g x σ H1 D.nx):tAsg te g D σ H:=h
theorem Sr {t:TA}{σ:L2.St}{Q:List V->Hp->Prop}(h:te σ H λx H1=>t σ H1 λxs H2=>Q (x::xs) H2):tCons te t σ H Q:=h
theorem G7 {r:List V->Hp->VK->Prop}{t:TA}{σ:L2.St}{Q:VK}(h:t σ H λvs H1=>r vs H1 Q):tCB r t σ H Q:=h
section
variable {α:Type}
theorem Zv {d:Addr}{o:HO}(S:Same H H1)(hd:H d=none):Same H (upd H1 d o):=λb ob e=>by
 rw[Zi (Zb e hd)];exact S b ob e
theorem Y3 {zs:List α}{i:Nat}{z:α}(h:zs[i]?=some z):zs.take (i+1)=zs.take i++[z]:=by
 rw[qD,h];rfl
end
theorem Xc {i:Nat}{x:V}{σ:L2.St}{Q:L2.St->Hp->Prop}(h:Q (σ.set i (some x)) H):gName i x σ H Q:=h
theorem Gb {a b:TS}{D:Ends}{σ:L2.St}{H:Hp}(h:a { D with nx:=λσ' H'=>b D σ' H' } σ H):tSeq a b D σ H:=h
section
variable {K:TL}
theorem Mp {p:V->Bool}{i:Nat}{x:V}(h:xs[i]?=some x):(xs.take (i+1)).filter p=(xs.take i).filter p++(if p x=true then [x] else []):=by
 rw[qD,h];simp only [Option.toList_some,qR,jg,List.filter_nil]
theorem Ms {f:V->V}{k:Nat}{fv:List Nat}{σ:L2.St}{Q:VK}
  (htl:∀ G:VK,G (.ref l) H->tl σ H G) (hl:SqL K H l xs) (hz:xs.length<=1000)
  (elt:∀ (i:Nat) (x:V) (H1:Hp) (G:VK),xs[i]?=some x->Same H H1->(∀ H2,Same H1 H2->G (f x) H2)->te ((comp0 k fv σ).set 0 (some x)) H1 G)
  (fin:∀ (d:Addr) (H2:Hp),H d=none->Same H H2->H2 d=some (.lst (xs.map f))->Q (.ref d) H2) :
  tComp (iList K tl) (gName 0) tYes te k fv σ H Q:=by
 refine htl _ ⟨l,rfl,⟨_,hl⟩,λd hd=>?_⟩;refine⟨xs.length,λi ys H2=>Same H H2/\ys=(xs.take i).map f,XA hz J0,⟨Same.new hd,rfl⟩,?_,?_⟩
 ·rintro i ys H2 hi ⟨S2,rfl⟩ hd2;have hl2:=Zz S2 hl;have ex:xs[i]?=some xs[i]:=by simp[hi]
  generalize xs[i]=x at ex;refine⟨⟨_,x,hl2,ex⟩,?_⟩;rintro y H3 ⟨rfl,fx⟩;have e:=fx _ hl2;rw[ex] at e
  cases e;refine Yx ?_;refine elt i x H3 _ ex S2 λH4 S4=>?_;have hd4:=S4 _ _ hd2;refine⟨hd4,Zv (S2.trans S4) hd,?_⟩;rw[qD,ex];simp
 rintro ys H2 ⟨S2,rfl⟩ hd2;rw[XV] at hd2;exact⟨⟨_,Zz S2 hl,YE _⟩,fin d H2 hd S2 hd2⟩
end
theorem Rs.of_pairs {K:TL}{H:Hp}{as:TH}{rs:TR}(h:Paired (λa r=>SqT K H a [.int r.1,.int r.2]) as rs):Rs K H rs (as.map V.ref):=by
 induction h with
 | nil=>exact .nil
 | cons p _ ih=>exact .cons ⟨_,rfl,p⟩ ih
end Sb
namespace Sb
open PySem PySem.Spec PyProof.Rows L2
theorem Tb {k:Nat}{fv:List Nat}{σ:L2.St}{Q:VK}{z:PySem.Str}(f:Nat->Bool)(htl:∀ G:VK,G (.str z) H->tl σ H G)(ha:z.cps.all (·<128)=true)(hz:z.length<=1000)
  (elt:∀ (c:Nat) (H1:Hp) (G:VK),c∈z.cps.toList->G (.bl (f c)) H1->te ((comp0 k fv σ).set 0 (some (.str ⟨#[c]⟩))) H1 G)
  (fin:∀ (d:Addr) (H2:Hp),H d=none->Same H H2->H2 d=some (.lst ((z.cps.toList.map f).map V.bl))->Q (.ref d) H2):tComp (iStr tl) (gName 0) tYes te k fv σ H Q:=by
 refine htl _ ⟨z,rfl,ha,λd hd=>?_⟩;have ls:z.cps.toList.length=z.length:=by simp[Str.length]
 refine⟨z.length,λi ys H2=>Same H H2/\ys=((z.cps.toList.take i).map f).map V.bl,XA hz J0,⟨Same.new hd,rfl⟩,?_,?_⟩
 ·rintro i ys H2 hi ⟨S2,rfl⟩ hd2;refine⟨hi,?_⟩;rintro x H3 ⟨rfl,c,ec,rfl⟩;have ec':z.cps.toList[i]?=some c:=by simpa using ec
  refine Yx ?_;refine elt c H3 _ (YO ec') ?_;refine⟨hd2,Zv S2 hd,?_⟩;rw[Y3 ec',XJ,XJ];rfl
 rintro ys H2 ⟨S2,rfl⟩ hd2;refine⟨YE _,fin d H2 hd S2 ?_⟩;rw[hd2,<-ls,XV]
theorem Jy (h:48<=c/\c<=57):c∈(⟨#[48,49,50,51,52,53,54,55,56,57]⟩:PySem.Str).cps.toList:=by
 have:c=48 \/ c=49 \/ c=50 \/ c=51 \/ c=52 \/ c=53 \/ c=54 \/ c=55 \/ c=56 \/ c=57:=U
 simp;omega
theorem Mc (n:Int):decide ((numS n).cps.toList[0]?=some 45)=decide (n<0):=by
 by_cases h:n<0
 ·rw[Vx h,XC h];rfl
 obtain⟨m,rfl⟩:=JG (Int.not_lt.mp h);rw[XL h,XL];intro z;show False;have e:=Xo m;rw[e] at z;have:=Xh m 45 (YO z);omega
theorem Kn {n:Int}(h:n<0):cutS (numS n) (min 1 (numS n).length) (min (numS n).length (numS n).length)=figs n:=by
 apply Yj;have l:=Zk (numS n);rw[Vx h] at l;simp only [YS] at l;unfold cutS;rw[Vx h,l,GE U]
 try rw[Nat.min_self]
 rw[show min 1 ((figs n).cps.toList.length+1)=1 by omega];show ((45::(figs n).cps.toList).drop 1).take _=_;rw[jZ,jU,JM];omega
theorem Pi (n:Int):(figs n).cps.all (·<128)=true:=by
 rw[<-Array.all_toList,GU];intro c hc;have:=Qd n c hc;simp;omega
end Sb
namespace Sb
open PySem L2
theorem Mu {α β:Type}{zs:List α}{gi:α->V}{g:α->β}{k:Nat}{fv:List Nat}{σ:L2.St}{Q:VK}(R2:Hp->Addr->β->Prop)(hext2:∀ H1 H2 a z,Ext H1 H2->R2 H1 a z->R2 H2 a z)
  (htl:∀ G:VK,G (.ref l) H->tl σ H G) (hl:SqL K H l (zs.map gi)) (hz:zs.length<=1000)
  (elt:∀ (i:Nat) (z:α) (H1:Hp) (G:VK),zs[i]?=some z->Same H H1->(∀ c H2,Same H1 H2->R2 H2 c (g z)->G (.ref c) H2)->te ((comp0 k fv σ).set 0 (some (gi z))) H1 G)
  (fin:∀ (d:Addr) (H2:Hp) (bs:TH),H d=none->Same H H2->H2 d=some (.lst (bs.map V.ref))->Paired (R2 H2) bs (zs.map g)->Q (.ref d) H2) :
  tComp (iList K tl) (gName 0) tYes te k fv σ H Q:=by
 refine htl _ ⟨l,rfl,⟨_,hl⟩,λd hd=>?_⟩;refine⟨zs.length,λi ys H2=>Same H H2/\∃ bs:List Addr,ys=bs.map V.ref/\Paired (R2 H2) bs ((zs.take i).map g),XA hz J0,⟨Same.new hd,[],rfl,by simpa using Paired.nil⟩,?_,?_⟩
 ·rintro i ys H2 hi ⟨S2,bs,rfl,P2⟩ hd2;have hl2:=Zz S2 hl;have ez:zs[i]?=some zs[i]:=by simp[hi]
  generalize zs[i]=z at ez;have ex:(zs.map gi)[i]?=some (gi z):=by rw[YI,ez];rfl
  refine⟨⟨_,gi z,hl2,ex⟩,?_⟩;rintro x H3 ⟨rfl,fx⟩;have e:=fx _ hl2;rw[ex] at e
  cases e;refine Yx ?_;refine elt i z H3 _ ez S2 λc H4 S4 r4=>?_;have hd4:=S4 _ _ hd2;have E5:Ext H4 (upd H4 d (.lst (bs.map V.ref++[V.ref c]))):=Ext.upd hd4;refine⟨hd4,Zv (S2.trans S4) hd,bs++[c],J1,?_⟩;rw[Y3 ez,XJ];exact Paired.appP (Paired.mapP P2 λb y h=>hext2 _ _ _ _ ((Ext.same S4).trans E5) h) (.cons (hext2 _ _ _ _ E5 r4) .nil)
 rintro ys H2 ⟨S2,bs,rfl,P2⟩ hd2;rw[XV] at P2;exact⟨⟨_,Zz S2 hl,J1⟩,fin d H2 bs hd S2 hd2 P2⟩
theorem Mt {α:Type}{zs:List α}{gi g:α->V}{k:Nat}{fv:List Nat}{σ:L2.St}{Q:VK}
  (htl:∀ G:VK,G (.ref l) H->tl σ H G) (hl:SqL K H l (zs.map gi)) (hz:zs.length<=1000)
  (tst:∀ (i:Nat) (z:α) (H1:Hp) (G:Bool->Hp->Prop),zs[i]?=some z->Same H H1->G true H1->tt ((comp0 k fv σ).set 0 (some (gi z))) H1 G)
  (elt:∀ (i:Nat) (z:α) (H1:Hp) (G:VK),zs[i]?=some z->Same H H1->G (g z) H1->te ((comp0 k fv σ).set 0 (some (gi z))) H1 G)
  (fin:∀ (d:Addr) (H2:Hp),H d=none->Same H H2->H2 d=some (.lst (zs.map g))->Q (.ref d) H2) :
  tComp (iList K tl) (gName 0) tt te k fv σ H Q:=by
 refine htl _ ⟨l,rfl,⟨_,hl⟩,λd hd=>?_⟩;refine⟨zs.length,λi ys H2=>Same H H2/\ys=(zs.take i).map g,XA hz J0,⟨Same.new hd,rfl⟩,?_,?_⟩
 ·rintro i ys H2 hi ⟨S2,rfl⟩ hd2;have hl2:=Zz S2 hl;have ez:zs[i]?=some zs[i]:=by simp[hi]
  generalize zs[i]=z at ez;have ex:(zs.map gi)[i]?=some (gi z):=by rw[YI,ez];rfl
  refine⟨⟨_,gi z,hl2,ex⟩,?_⟩;rintro x H3 ⟨rfl,fx⟩;have e:=fx _ hl2;rw[ex] at e
  cases e;refine Xc (tst i z H3 _ ez S2 ?_);refine (XQ rfl).mpr ?_;refine elt i z H3 _ ez S2 ⟨hd2,Zv S2 hd,?_⟩;rw[Y3 ez,XJ];rfl
 rintro ys H2 ⟨S2,rfl⟩ hd2;rw[XV] at hd2;exact⟨⟨_,Zz S2 hl,J1⟩,fin d H2 hd S2 hd2⟩
theorem Qx {es:List Nat}(h:es.Pairwise (·<·)):(es.map λ(k:Nat)=>(k:Int)).Nodup:=by
 rw[qd,qC];exact h.imp λ{a b} q z=>U
theorem R6 {ms:TN}(p:ms.Perm ns)(h1:ms.Pairwise (·<=·))(h2:ns.Pairwise (·<=·)):ms=ns :=
 p.eq_of_pairwise (λa b _ _ h1 h2=>Int.le_antisymm h1 h2) h1 h2
theorem Qe {K:TL}{H:Hp}{n:Nat}:∀ ns:List Int,Paired (EqU K H n) (ns.map V.int) (ns.map V.int)
 | []=>.nil
 | a::ns=>.cons (EqU.flat (x:=.int a) rfl) (Qe ns)
theorem Xx {K:TL}{H:Hp}{n:Nat}:∀ {xs:TQ},(∀ x∈xs,flatE x=true)->Paired (EqU K H n) xs xs
 | [],_=>.nil
 | x::xs,h=>.cons (EqU.flat (h x YL)) (Xx λy hy=>h y (YK _ hy))
theorem Fd {K:TL}{T name id:_}{r:_}{o e:Expr}{to:TE}{t:TA}{apos cpos:Pos}(pa:PlainAttrs T)(slot:Slot T name id)(hty:typeOf (.builtin id)=pure (.type "method_descriptor"))(hm:MtR X id r)(ho:PE X o to)(ha:PA X (e::es) t)
  (hbase:attributeBase o name X.env (eval o X.env)=eval o X.env:=by rfl)
  (hfew:((backTo cpos (starEach (e::es) X.env)).all (λx=>!x.1) && (backToKw cpos (keywordEach [] X.env)).all (λx=>x.1.isSome)
   && decide ((e::es).length+([]:List Keyword).length+(if ([]:List Keyword).isEmpty then 0 else 1)<30))=true:=by rfl)
  (hline:(apos.endLine == cpos.line)=true:=by rfl) (hs:starEach (e::es) X.env=(false,eval e X.env)::starEach es X.env:=by rfl) (hplain:(backTo cpos (starEach es X.env)).any (·.1)=false:=by rfl) (hK:X.K=K:=by rfl) :
  PE X (.Call (.Attribute o name apos) (e::es) [] cpos) (tBM K T r to t):=hK ▸ Y9 pa slot hty hm ho ha hbase hfew hline hs hplain
theorem Tc {k:Nat}{fv:List Nat}{σ:L2.St}{Q:VK}
  (htl:∀ G:VK,G (.ref l) H->tl σ H G) (hl:SqL K H l xs) (hz:xs.length<=1000) (hy:ys.length=xs.length)
  (elt:∀ (i:Nat) (x y:V) (H1:Hp) (G:VK),xs[i]?=some x->ys[i]?=some y->Same H H1->(∀ H2,Same H1 H2->G y H2)->te ((comp0 k fv σ).set 0 (some x)) H1 G)
  (fin:∀ (d:Addr) (H2:Hp),H d=none->Same H H2->H2 d=some (.lst ys)->Q (.ref d) H2) :
  tComp (iList K tl) (gName 0) tYes te k fv σ H Q:=by
 refine htl _ ⟨l,rfl,⟨_,hl⟩,λd hd=>?_⟩;refine⟨xs.length,λi zs H2=>Same H H2/\zs=ys.take i,XA hz J0,⟨Same.new hd,rfl⟩,?_,?_⟩
 ·rintro i zs H2 hi ⟨S2,rfl⟩ hd2;have hl2:=Zz S2 hl;have ex:xs[i]?=some xs[i]:=by simp[hi]
  have ey:ys[i]?=some (ys[i]'U):=J1
  generalize xs[i]=x at ex;generalize (ys[i]'U)=y at ey;refine⟨⟨_,x,hl2,ex⟩,?_⟩;rintro x' H3 ⟨rfl,fx⟩;have e:=fx _ hl2;rw[ex] at e
  cases e;refine Yx ?_;refine elt i x y H3 _ ex ey S2 λH4 S4=>⟨S4 _ _ hd2,Zv (S2.trans S4) hd,?_⟩;rw[Y3 ey]
 rintro zs H2 ⟨S2,rfl⟩ hd2;rw[<-hy,XV] at hd2;exact⟨⟨_,Zz S2 hl,YE _⟩,fin d H2 hd S2 hd2⟩
theorem V6 {k:Nat}{fv:List Nat}{σ:L2.St}{Q:VK}
  (htl:∀ G:VK,G (.ref l) H->tl σ H G) (hl:SqT K H l xs) (hz:xs.length<=1000) (hy:ys.length=xs.length)
  (elt:∀ (i:Nat) (x y:V) (H1:Hp) (G:VK),xs[i]?=some x->ys[i]?=some y->Same H H1->(∀ H2,Same H1 H2->G y H2)->te ((comp0 k fv σ).set 0 (some x)) H1 G)
  (fin:∀ (d:Addr) (H2:Hp),H d=none->Same H H2->H2 d=some (.lst ys)->Q (.ref d) H2) :
  tComp (iTup K tl) (gName 0) tYes te k fv σ H Q:=by
 refine htl _ ⟨l,rfl,⟨_,hl⟩,λd hd=>?_⟩;refine⟨xs.length,λi zs H2=>Same H H2/\zs=ys.take i,XA hz J0,⟨Same.new hd,rfl⟩,?_,?_⟩
 ·rintro i zs H2 hi ⟨S2,rfl⟩ hd2;have hl2:=Zw S2 hl;have ex:xs[i]?=some xs[i]:=by simp[hi]
  have ey:ys[i]?=some (ys[i]'U):=J1
  generalize xs[i]=x at ex;generalize (ys[i]'U)=y at ey;refine⟨⟨_,x,hl2,ex⟩,?_⟩;rintro x' H3 ⟨rfl,fx⟩;have e:=fx _ hl2;rw[ex] at e
  cases e;refine Yx ?_;refine elt i x y H3 _ ex ey S2 λH4 S4=>⟨S4 _ _ hd2,Zv (S2.trans S4) hd,?_⟩;rw[Y3 ey]
 rintro zs H2 ⟨S2,rfl⟩ hd2;rw[<-hy,XV] at hd2;exact⟨⟨_,Zw S2 hl,YE _⟩,fin d H2 hd S2 hd2⟩
end Sb
namespace Sb
open PySem PySem.Spec PyProof.Rows L2
/-- a def's promise by its body alone -/
theorem Def.h9 {P:TM}{w:World}{base:Heap}{k:Nat}{x:Str}(D:Def K mg x st ps)(S:FnScope N ps (defScope st))
  (hbody:∀ {f:Addr} {cdv:Value} {A:Around} {outer:List Env} {s:Shared} {vs:TQ} {E:XK} (H:Hp) (Q:VK),Room k (A.deeper (envOfC x (defScope st) s.heap.objs.size f cdv)) sr->sp vs H Q E->N.Nodup →
   ∃ t,PSs (cxOf CX0 P w K mg base N x (defScope st) f cdv A outer s H E).nox (defBody st) t/\t { nx:=λ_ H'=>Q .non H',rt:=Q } (start N vs) H)
  (len:∀ vs H Q E,sp vs H Q E->vs.length=ps.length:=by intro _ _ _ _ h;first | (cases h;subst_vars;rfl) | ((repeat (obtain⟨_,h⟩:=h));subst_vars;rfl)):Has P w K mg base (k+1) x ps sp sr :=
 D.has λ_ _ F=>F.ok S len λ_ _ _ _ H _ Q _ hr h=>hbody H Q hr h S.nd
end Sb
namespace Sb
open PySem L2
def top (i:Nat):Stmt:=PySem.Challenge.pw_surebook_k48_texts.main.body.getD i (.Pass ⟨0,0,0,0⟩)
abbrev fU:Stmt:=top 5
abbrev fH:Stmt:=top 6
abbrev fX:Stmt:=top 7
abbrev fW:Stmt:=top 8
abbrev f6:Stmt:=top 9
abbrev fK:Stmt:=top 18
abbrev fI:Stmt:=top 19
abbrev fM:Stmt:=top 20
abbrev fY:Stmt:=top 21
abbrev fV:Stmt:=top 27
abbrev fO:Stmt:=top 28
abbrev fS:Stmt:=top 29
abbrev fJ:Stmt:=top 30
abbrev fN:Stmt:=top 31
abbrev fQ:Stmt:=top 32
abbrev gG:Stmt:=top 33
abbrev fL:Stmt:=top 34
abbrev f8:Stmt:=top 35
abbrev gK:Stmt:=top 37
abbrev fZ:Stmt:=top 38
abbrev gA:Stmt:=top 39
abbrev sIs:Stmt:=top 40
abbrev gM:Stmt:=top 41
abbrev gD:Stmt:=top 42
abbrev fT:Stmt:=top 43
abbrev gB:Stmt:=top 44
abbrev gH:Stmt:=top 45
abbrev fR:Stmt:=top 46
abbrev gE:Stmt:=top 47
abbrev gJ:Stmt:=top 48
abbrev gC:Stmt:=top 49
abbrev fP:Stmt:=top 50
abbrev gF:Stmt:=top 51
abbrev gL:Stmt:=top 52
structure Blt (mg:Tn):Prop where
 len:mg "len"=none
 abs:mg "abs"=none
 isinstance:mg "isinstance"=none
 int:mg "int"=none
 bool:mg "bool"=none
 tuple:mg "tuple"=none
 range:mg "range"=none
 zip:mg "zip"=none
 enumerate:mg "enumerate"=none
 any:mg "any"=none
 sum:mg "sum"=none
 list:mg "list"=none
 min:mg "min"=none
theorem Nm {k:Int}(h0:0<=k)(h1:k<((ns.map V.int).length:Int)):∃ z,atI (ns.map V.int) k=some (.int z):=by
 obtain⟨j,rfl⟩:=JG h0;rw[YC] at h1;have hj:j<ns.length:=U
 exact⟨ns[j],Yi (by simp[hj])⟩
theorem Fv {n:Nat}{k:Int}(h0:0<=k)(h1:k<(n:Int)):ixN n k=some k.toNat:=by
 unfold ixN;rw[XQ h0,XQ h1]
theorem U0 {j:Int}(h:(0:Int)<j):(0:Int)<j:=h
theorem G4 {j:Int}(h0:0<=j)(h1:j<=1000):CPow 10 j:=⟨h0,by omega,by decide⟩
theorem Xz (t:Int):-(2 ^ 64)<t % 65537/\t % 65537<2 ^ 64:=by omega
theorem Jw (p q:Int):Int.gcd (if p<0 then -p else p) (if q<0 then -q else q)=Int.gcd p q:=by
 split <;> split <;> simp
theorem Xt {n:Nat}(h:n<=1000):n<=sizeLine:=XA h J0
theorem K1 (hp:0<r.2)(hc:Int.gcd r.1 r.2=1):nrm r.1 r.2=r:=by
 have e:=Jo r.1 r.2;have hq:r.2≠0:=U
 refine Qz (Pa hq) hp (Gi hq) hc ?_;exact e
inductive spWhole (vs:TQ) (H:Hp) (Q:VK) (_z3:XK):Prop
 | mk (i:Int) (zz0:vs=[.int i]) (zz1:Q (.bl true) H)
section
variable {P:TM}{w:World}{K:TL}{mg:Tn}{base:Heap}
inductive spCell (K:TL) (vs:TQ) (H:Hp) (Q:VK) (_z3:XK):Prop
 | mk (a:Addr) (k:Int) (ns:TN) (zz0:vs=[.ref a,.int k]) (zz1:SqL K H a (ns.map V.int)) (zz2:0<=k) (zz3:k<=100000) (zz4:∀ z:Int,Q (.int z) H)
theorem Fo (D:Def K mg "_law_cell" gK TV)(T:Blt mg):Has P w K mg base 1 "_law_cell" TV (spCell K):=by
 refine D.h9 (N:=["_law_script","_law_k","_law_seed","_law_some"]) fsc λH Q hr h nd=>?_;obtain⟨a,k,ns,rfl,hS,hk,hk2,q⟩:=h;refine⟨_,(Z3 (Zr (Z8 Vu (pv 1) (Z9 Zg rfl T.len JR (Z0 (pv 0) Z2)) (Ze _))
   (Z6 (Za (Zd Y1 (pv 0) (pv 1) (λ_ _=>rfl))))
   Zh)
  (Z3 (Z7 (i:=2) nd rfl (Or.inl rfl) (Zc Ya (pv 1) Z4))
  (Z3 (Zr (Z8 Gg (Z9 Zg rfl T.len JR (Z0 (pv 0) Z2)) Z4 (Ze _))
   (Z6 (Z7 (i:=2) nd rfl (Or.inl rfl) (Zc Yn (pv 2) (Zc Yv (Zd Y1 (pv 0) (Zc Yv (pv 1) (Z9 Zg rfl T.len JR (Z0 (pv 0) Z2))) (λ_ _=>rfl)) Z4))))
   Zh)
  (Z3 (Z7 (i:=3) nd rfl (Or.inl rfl) (Zc Yv (Zc Ya (pv 2) Z4) Z4))
  (Z6 (Za (Zc Yv (Zc W1 (Zc Ya (pv 3) (Zc Yn (Zc Yn (pv 3) (Zc Ya Z4 (pv 1))) Z4)) Z4) Z4))))))),?_⟩
 refine⟨_,rfl,_,rfl,a,_,rfl,.inl hS,_,_,rfl,rfl,_,rfl,?_⟩;refine Sj (λh=>?_) (λh=>?_)
 ·have h':=GO h;obtain⟨z,hz⟩:=Nm hk h';exact⟨_,rfl,_,rfl,a,_,_,_,rfl,rfl,hS,hz,q z⟩
 refine⟨_,rfl,_,_,rfl,rfl,Md J0 J0,?_⟩;refine⟨_,rfl,a,_,rfl,.inl hS,_,_,rfl,rfl,_,rfl,?_⟩;refine Sj (λh2=>?_) (λh2=>?_)
 ·have h3:=GO h2;obtain⟨z,hz⟩:=Nm (ns:=ns) (k:=k % ((ns.map V.int).length:Int)) (qN _ U) (qS _ h3);refine⟨_,rfl,_,rfl,_,rfl,_,rfl,a,_,rfl,.inl hS,_,_,rfl,rfl,h3,a,_,_,_,rfl,rfl,hS,hz,_,_,rfl,rfl,U0 J0,_,_,rfl,rfl,?_⟩;refine⟨_,rfl,_,_,rfl,rfl,Md J0 J0,_,_,rfl,rfl,U0 J0,?_⟩;exact⟨_,rfl,_,rfl,_,rfl,_,_,rfl,rfl,Pb J0 J0,_,_,rfl,rfl,_,_,rfl,rfl,_,_,rfl,rfl,Pb (Xz _).1 (Xz _).2,_,_,rfl,rfl,⟨J0,J2⟩,_,_,rfl,rfl,U0 J0,q _⟩
 refine⟨_,rfl,_,_,rfl,rfl,Md J0 J0,_,_,rfl,rfl,U0 J0,?_⟩;exact⟨_,rfl,_,rfl,_,rfl,_,_,rfl,rfl,Pb J0 J0,_,_,rfl,rfl,_,_,rfl,rfl,_,_,rfl,rfl,Pb (Xz _).1 (Xz _).2,_,_,rfl,rfl,⟨J0,J2⟩,_,_,rfl,rfl,U0 J0,q _⟩
inductive spRatio (vs:TQ) (H:Hp) (Q:VK) (_z3:XK):Prop
 | mk (p q:Int) (zz0:vs=[.int p,.int q]) (zz1:q≠0) (zz2:q.natAbs.log2<450000) (zz3:∀ a H',H a=none->Same H H'->H' a=some (.tup [.int (nT p q),.int (nB p q)])->Q (.ref a) H')
theorem Tm {p q:Int}(h:q≠0)(k:q.natAbs.log2<450000):(sg p q).natAbs.log2<450000:=by
 have h1:=D6 (p:=p) h;have h0:=Us (p:=p) h;have h2:(sg p q).natAbs≠0:=U
 have h3:q.natAbs≠0:=U
 exact (zn h2).mpr (JC h1 ((zn h3).mp k))
def muRat (σ:St)(_:Hp):Nat:=match σ with
 | [_,_,some (.int x),_,_]=>x.toNat
 | _=>0
theorem Jh (D:Def K mg "_law_ratio" gA TW)(T:Blt mg):Has P w K mg base 2 "_law_ratio" TW spRatio:=by
 refine D.h9 (N:=["_law_top","_law_bottom","_law_one","_law_most","_law_rest"]) fsc λH Q hr h nd=>?_;obtain⟨p,q,rfl,hq,hlog,k⟩:=h;refine⟨_,(Z3 (Z7 (i:=2) nd rfl (Or.inl rfl) (Z9 Uc rfl T.abs zc (Z0 (pv 0) Z2)))
  (Z3 (Z7 (i:=3) nd rfl (Or.inl rfl) (Z9 Uc rfl T.abs zc (Z0 (pv 1) Z2)))
  (Z3 (Rn GF (Z8 Gg (pv 2) Z4 (Ze _))
   (Z3 (Z7 (i:=4) nd rfl (Or.inl rfl) (Zc Yv (pv 3) (pv 2)))
   (Z3 (Z7 (i:=3) nd rfl (Or.inl rfl) (pv 2))
   (Z6 (Z7 (i:=2) nd rfl (Or.inl rfl) (pv 4))))))
  (Z3 (Zx (Zr (Z8 Vu (pv 1) Z4 (Ze _))
   (Z6 (Z7 (i:=3) nd rfl (Or.inl rfl) (Ge L8 (pv 3))))
   Zh))
  (Z6 (Za (Xu (Z0 (Zc W1 (pv 0) (pv 3)) (Z0 (Zc W1 (pv 1) (pv 3)) Z2))))))))),?_⟩
 refine⟨_,rfl,_,rfl,_,rfl,_,rfl,?_⟩;refine Sy (λσ H'=>H'=H/\∃ (x y:Int) (r:Option V),σ=[some (.int p),some (.int q),some (.int x),some (.int y),r]/\0<=x/\0<=y/\Int.gcd y x=Int.gcd p q) muRat ⟨rfl,_,_,none,rfl,(by split <;> omega),(by split <;> omega),by rw[zI];exact Jw p q⟩ ?_
  (λσ H Q Q' f ⟨v,e,i,j,e1,e2,k,e3,z⟩=>⟨v,e,i,j,e1,e2,k,e3,f _ _ z⟩)
 rintro σ H' ⟨rfl,x,y,r,rfl,hx,hy,hg⟩;refine⟨_,rfl,_,_,rfl,rfl,_,rfl,?_⟩;refine Sj (λh=>?_) (λh=>?_)
 ·have h':0<x:=GO h;refine⟨_,rfl,_,rfl,_,_,rfl,rfl,h',?_⟩;refine⟨_,rfl,_,rfl,⟨rfl,y % x,x,_,rfl,qN _ U,hx,gcd_step.trans hg⟩,?_⟩;show (y % x).toNat<x.toNat;have:=qS y h';have:=qN y (show x≠0 by omega);omega
 have h':¬ 0<x:=λz=>h (XC z);have e:=Fw y x hy U;rw[hg] at e;subst e;refine⟨λσ H''=>H''=H'/\σ=[some (.int p),some (.int q),some (.int x),some (.int (sg p q)),r],?_,?_⟩
 ·refine⟨_,rfl,_,_,rfl,rfl,_,rfl,?_⟩;refine Sj (λh=>?_) (λh=>?_)
  ·have h':q<0:=GO h;refine⟨_,rfl,_,rfl,rfl,?_⟩;have e:sg p q=-((Int.gcd p q:Nat):Int):=by unfold sg gI;rw[XQ h']
   rw[e];rfl
  have h':¬ q<0:=λz=>h (XC z);refine⟨rfl,?_⟩;have e:sg p q=((Int.gcd p q:Nat):Int):=by unfold sg gI;rw[XD h']
  rw[e]
 rintro σ H'' ⟨rfl,rfl⟩;refine⟨_,rfl,_,rfl,_,_,rfl,rfl,⟨Us hq,Tm hq hlog⟩,_,rfl,_,rfl,_,_,rfl,rfl,⟨Us hq,Tm hq hlog⟩,sz2,λa ha=>?_⟩;exact k a _ ha (Same.new ha) Z5
inductive spBag (vs:TQ) (H:Hp) (Q:VK) (_z3:XK):Prop
 | mk (c:Int) (zz0:vs=[.int c]) (zz1:∀ a H',H a=none->Same H H'->BagAt H' a 1->Q (.ref a) H')
theorem Df (D:Def K mg "_law_bag" gM TX):Has P w K mg base 1 "_law_bag" TX spBag:=by
 refine D.h9 (N:=TX) fsc λH Q hr h nd=>?_;obtain⟨c,rfl,q⟩:=h;refine⟨_,(Z3 (Zr (Z8 Vu (pv 0) (Zc Tv Z4 Z4) (Ze _))
   (Z6 (Za (Yk (Z0 (pv 0) (Z0 Z4 Z2)))))
   Zh)
  (Z6 (Za (Yk (Z0 (pv 0) (Z0 Z4 Z2)))))),?_⟩
 refine⟨_,rfl,_,_,rfl,rfl,G4 J0 J0,_,_,rfl,rfl,_,rfl,?_⟩;refine Sj (λ_=>?_) (λ_=>?_)
 ·exact⟨_,rfl,sz2,λa ha=>q a _ ha (Same.new ha) ⟨_,_,Z5,J0,J0⟩⟩
 exact⟨_,rfl,sz2,λa ha=>q a _ ha (Same.new ha) ⟨_,_,Z5,J0,J0⟩⟩
inductive spTake (vs:TQ) (H:Hp) (Q:VK) (_z3:XK):Prop
 | mk (b:Addr) (m:Int) (n:Nat) (zz0:vs=[.ref b,.int m]) (zz1:BagAt H b n) (zz2:n<=1000000000) (zz3:0<m) (zz4:m.natAbs.log2<450000) (zz5:∀ (r:Int) (H':Hp),0<=r->r<m->BagAt H' b (n+1)->SameX b H H'->Q (.int r) H')
abbrev Z1 (P:TM)(w:World)(K:TL)(mg:Tn)(base:Heap):Prop:=Has P w K mg base 1 "_law_take" ["_law_bag_here","_law_many"] spTake
theorem Fj (D:Def K mg "_law_take" gD ["_law_bag_here","_law_many"]):Z1 P w K mg base:=by
 refine D.h9 (N:=["_law_bag_here","_law_many","_law_told"]) fsc λH Q hr h nd=>?_;obtain⟨b,m,n,rfl,⟨x,y,e,hy,hyn⟩,hn,hm,hlog,q⟩:=h;have hL:SqL K H b [.int x,.int y]:=SqL.of e;refine⟨_,(Z3 (Zr (Z8 Xr (Zd N7 (pv 0) Z4 (λ_ _=>rfl)) Z4 (Ze _))
   (Z3 (Z7 (i:=2) nd rfl (Or.inl rfl) (Zc Yv (Zd N8 (pv 0) Z4 (λ_ _=>rfl)) (pv 1)))
   (Z3 (Tq (Zc W1 (Zd N8 (pv 0) Z4 (λ_ _=>rfl)) (pv 1)) (Ts (pv 0) Z4 Wh))
   (Z6 (Za (pv 2)))))
   Zh)
  (Z3 (Tq (Zc Yv (Zc Yn (Zc Yn (Zc Ya (Zd N8 (pv 0) Z4 (λ_ _=>rfl)) Z4) (Zc Ya (Zc Ya Z4 (Zd N7 (pv 0) Z4 (λ_ _=>rfl))) (Zd N7 (pv 0) Z4 (λ_ _=>rfl)))) Z4) Z4) (Ts (pv 0) Z4 Wh))
  (Z3 (Tq (Zc Yn (Zd N7 (pv 0) Z4 (λ_ _=>rfl)) Z4) (Ts (pv 0) Z4 Wh))
  (Z6 (Za (Zc Yv (Zc Yv (Zc Ya (Zd N8 (pv 0) Z4 (λ_ _=>rfl)) Z4) Z4) (pv 1))))))),?_⟩
 refine⟨_,rfl,b,_,_,rfl,rfl,hL,rfl,_,rfl,?_⟩;refine Sj (λh=>?_) (λh=>?_)
 ·refine⟨_,rfl,b,_,_,rfl,rfl,hL,_,rfl,_,_,rfl,rfl,hm,?_⟩;refine⟨_,rfl,b,_,_,rfl,rfl,hL,_,rfl,_,_,rfl,rfl,⟨U,hlog⟩,_,rfl,b,_,_,0,rfl,rfl,e,rfl,?_⟩;refine⟨_,rfl,?_⟩;exact q _ _ (qN _ U) (qS _ hm) ⟨_,y,Z5,hy,U⟩ (SameX.upd b H _)
 refine⟨_,rfl,b,_,_,rfl,rfl,hL,_,_,rfl,rfl,Md J0 J0,_,rfl,b,_,_,rfl,rfl,hL,_,_,rfl,rfl,Pb J0 J0,_,rfl,b,_,_,rfl,rfl,hL,_,_,rfl,rfl,Md U U,_,_,rfl,rfl,_,_,rfl,rfl,_,_,rfl,rfl,U0 J0,_,rfl,b,_,_,0,rfl,rfl,e,rfl,?_⟩;refine⟨_,rfl,b,_,_,rfl,rfl,SqL.of Z5,_,_,rfl,rfl,_,rfl,b,_,_,1,rfl,rfl,Z5,rfl,?_⟩;refine⟨_,rfl,b,_,_,rfl,rfl,SqL.of Z5,_,_,rfl,rfl,Md J0 J0,_,_,rfl,rfl,U0 J0,_,rfl,_,_,rfl,rfl,hm,?_⟩;exact q _ _ (qN _ U) (qS _ hm) ⟨_,y+1,Z5,U,U⟩ ((SameX.upd b H _).trans (SameX.upd b _ _))
inductive spGcd (vs:TQ) (H:Hp) (Q:VK) (_z3:XK):Prop
 | mk (a b:Int) (zz0:vs=[.int a,.int b]) (zz1:Q (.int (Int.gcd a b:Nat)) H)
theorem D7:FnScope ["one","other","rest"] TY (defScope fH):=fsc
def muGcd (σ:St)(_:Hp):Nat:=match σ with
 | [_,some (.int y),_]=>y.natAbs
 | _=>0
theorem Jm {y:Int}(h:(!decide (V.int y=V.int 0))=true):y≠0:=by
 intro z;subst z;simp at h
theorem Jz {y:Int}(h:¬ (!decide (V.int y=V.int 0))=true):y=0:=by
 apply Classical.byContradiction;intro z;apply h;have:¬ V.int y=V.int 0:=λq=>z (V.int.inj q);simp[this]
theorem De (D:Def K mg "common_divisor" fH TY)(T:Blt mg):Has P w K mg base 1 "common_divisor" TY spGcd:=by
 refine D.h9 D7 λH Q hr h nd=>?_;obtain⟨a,b,rfl,q⟩:=h;refine⟨_,(Z3 (Rn GF (Z8 W5 (pv 1) Z4 (Ze _))
   (Z3 (Z7 (i:=2) nd rfl (Or.inl rfl) (Zc Jc (pv 0) (pv 1)))
   (Z3 (Z7 (i:=0) nd rfl (Or.inl rfl) (pv 1))
   (Z6 (Z7 (i:=1) nd rfl (Or.inl rfl) (pv 2))))))
  (Z6 (Za (Z9 Uc rfl T.abs zc (Z0 (pv 0) Z2))))),?_⟩
 refine Sy (λσ H'=>H'=H/\∃ (x y:Int) (r:Option V),σ=[some (.int x),some (.int y),r]/\Int.gcd x y=Int.gcd a b) muGcd ⟨rfl,a,b,none,rfl,rfl⟩ ?_
  (λσ H Q Q' f ⟨v,e,e1,k,e3,z⟩=>⟨v,e,e1,k,e3,f _ _ z⟩)
 rintro σ H' ⟨rfl,x,y,r,rfl,hg⟩;refine⟨_,rfl,rfl,_,rfl,?_⟩;refine Sj (λh=>?_) (λh=>?_)
 ·have h':y≠0:=Jm h;refine⟨_,rfl,_,rfl,_,_,rfl,rfl,h',?_⟩;refine⟨_,rfl,_,rfl,⟨rfl,y,x.fmod y,_,rfl,(Mn x y).trans hg⟩,?_⟩;exact Kg x h'
 have h':y=0:=Jz h;subst h';refine⟨_,rfl,_,rfl,?_⟩;have e:(if x<0 then -x else x)=((Int.gcd a b:Nat):Int):=by
  rw[<-hg];simp;split <;> omega
 rw[e];exact q
inductive spLowest (vs:TQ) (H:Hp) (Q:VK) (_z3:XK):Prop
 | mk (p q:Int) (zz0:vs=[.int p,.int q]) (zz1:q≠0) (zz2:q.natAbs.log2<450000) (zz3:∀ a H',H a=none->Same H H'->H' a=some (.tup [.int (nT p q),.int (nB p q)])->Q (.ref a) H')
theorem Lz (D:Def K mg "lowest" fX TZ)(eK:Has P w K mg base 1 "common_divisor" TY spGcd):Has P w K mg base 2 "lowest" TZ spLowest:=by
 refine D.h9 (N:=["top","bottom","divisor"]) fsc λH Q hr h nd=>?_;obtain⟨p,q,rfl,hq,hlog,k⟩:=h;refine⟨_,(Z3 (Z7 (i:=2) nd rfl (Or.inl rfl) (Zf eK hr (Z0 (pv 0) (Z0 (pv 1) Z2))))
  (Z3 (Zx (Zr (Z8 Vu (pv 1) Z4 (Ze _))
   (Z6 (Z7 (i:=2) nd rfl (Or.inl rfl) (Ge L8 (pv 2))))
   Zh))
  (Z6 (Za (Xu (Z0 (Zc W1 (pv 0) (pv 2)) (Z0 (Zc W1 (pv 1) (pv 2)) Z2))))))),?_⟩
 refine⟨_,rfl,_,rfl,_,_,rfl,?_⟩;refine⟨λσ H'=>H'=H/\σ=[some (.int p),some (.int q),some (.int (sg p q))],?_,?_⟩
 ·refine⟨_,rfl,_,_,rfl,rfl,_,rfl,?_⟩;refine Sj (λh=>?_) (λh=>?_)
  ·have h':q<0:=GO h;refine⟨_,rfl,_,rfl,rfl,?_⟩;have e:sg p q=-((Int.gcd p q:Nat):Int):=by unfold sg gI;rw[XQ h']
   rw[e];rfl
  have h':¬ q<0:=λz=>h (XC z);refine⟨rfl,?_⟩;have e:sg p q=((Int.gcd p q:Nat):Int):=by unfold sg gI;rw[XD h']
  rw[e];rfl
 rintro σ H' ⟨rfl,rfl⟩;refine⟨_,rfl,_,rfl,_,_,rfl,rfl,⟨Us hq,Tm hq hlog⟩,_,rfl,_,rfl,_,_,rfl,rfl,⟨Us hq,Tm hq hlog⟩,sz2,λa ha=>?_⟩;exact k a _ ha (Same.new ha) Z5
end
section
variable {K:TL}{H:Hp}{a:Addr}{rs:TR}
theorem RowAt.same {H':Hp}(h:RowAt K H a rs)(S:Same H H'):RowAt K H' a rs:=h.ext (Ext.same S)
end
theorem Jp (h:c<=1000):(c:Int).natAbs.log2<450000:=by
 have e:(c:Int).natAbs=c:=U
 rw[e];rcases Y02 c with z | z
 ·subst z;decide
 exact JC (Nat.log2_le_self c) U
theorem Yr {σ:L2.St}{Q:Option Int->Hp->Prop}(h:Q none H):tNoPart σ H Q:=h
section
variable {P:TM}{w:World}{K:TL}{mg:Tn}{base:Heap}
theorem M8 (D:Def K mg "is_whole" fU ["value"])(T:Blt mg):Has P w K mg base 1 "is_whole" ["value"] spWhole:=by
 refine D.h9 (N:=["value"]) fsc λH Q hr h nd=>?_;obtain⟨i,rfl,q⟩:=h;refine⟨_,(Z6 (Za (Tu (Z9 Yb rfl T.isinstance YU (Z0 (pv 0) (Z0 (Xq T.int zd) Z2))) (Tt (Lv (Z9 Yb rfl T.isinstance YU (Z0 (pv 0) (Z0 (Xq T.bool jr) Z2)))))))),?_⟩;refine⟨_,rfl,_,_,_,_,rfl,TyOf.int i,Yg,_,rfl,Wb ?_⟩;exact⟨_,rfl,_,_,_,_,rfl,TyOf.int i,Wp,_,rfl,q⟩
theorem Ly (D:Def K mg "ratio" fW TZ)(eQ:Has P w K mg base 1 "is_whole" ["value"] spWhole)(eM:Has P w K mg base 2 "lowest" TZ spLowest):Has P w K mg base 3 "ratio" TZ spLowest:=by
 refine D.h9 (N:=TZ) fsc λH Q hr h nd=>?_;obtain⟨p,q,rfl,hq,hlog,k⟩:=h;refine⟨_,(Z3 (Zr (PW.pt (Y4 (Y7 (Y6 (Zf eQ hr (Z0 (pv 0) Z2)))) (Ym (Y7 (Y6 (Zf eQ hr (Z0 (pv 1) Z2)))))))
   (Z6 Wk)
   Zh)
  (Z3 (Zr (Z8 Xr (pv 1) Z4 (Ze _))
   (Z6 Wk)
   Zh)
  (Z6 (Za (Zf eM hr (Z0 (pv 0) (Z0 (pv 1) Z2))))))),?_⟩
 refine⟨_,rfl,p,rfl,_,rfl,Y2 ⟨_,rfl,q,rfl,_,rfl,Y2 ?_⟩⟩;refine⟨_,rfl,rfl,_,rfl,Kc (λz=>hq (V.int.inj z)) ?_⟩;exact⟨_,rfl,_,rfl,p,q,rfl,hq,hlog,k⟩
end
end Sb
namespace Sb
open PySem PySem.Spec PyProof.Rows L2
section
variable {P:TM}{w:World}{K:TL}{mg:Tn}{base:Heap}
structure BltT (mg:Tn):Prop extends Blt mg where
 str:mg "str"=none
 all:mg "all"=none
 set:mg "set"=none
 dict:mg "dict"=none
 sorted:mg "sorted"=none
def shR (r:Rat):PySem.Str:=if r.2=1 then numS r.1 else numS r.1++⟨#[47]⟩++numS r.2
theorem T4 {n:Int}(h:n.natAbs<10 ^ 70):n.natAbs.log2<1920:=by
 by_cases z:n.natAbs=0
 ·rw[z];decide
 exact (zn z).mpr (JW h J2)
inductive spShowR (K:TL) (vs:TQ) (H:Hp) (Q:VK) (_z3:XK):Prop
 | mk (a:Addr) (r:Rat) (zz0:vs=[.ref a]) (zz1:SqT K H a [.int r.1,.int r.2]) (zz2:r.1.natAbs<10 ^ 70) (zz3:r.2.natAbs<10 ^ 70) (zz4:Q (.str (shR r)) H)
theorem Rt (D:Def K mg "show_ratio" fK ["one"])(T:BltT mg):Has P w K mg base 1 "show_ratio" ["one"] (spShowR K):=by
 refine D.h9 (N:=["one","top","bottom"]) fsc λH Q hr h nd=>?_;obtain⟨a,r,rfl,hS,h1,h2,q⟩:=h;refine⟨_,(Z3 (Z7 (i:=1) nd rfl (Or.inl rfl) (Zd Xw (pv 0) Z4 (λ_ _=>rfl)))
  (Z3 (Z7 (i:=2) nd rfl (Or.inl rfl) (Zd Xs (pv 0) Z4 (λ_ _=>rfl)))
  (Z6 (Za (Yu (Z8 Xr (pv 2) Z4 (Ze _)) (Zu Yy rfl T.str qe (Z0 (pv 1) Z2)) (Fc (pv 1) (pv 2))))))),?_⟩
 refine⟨_,rfl,_,_,_,rfl,rfl,hS,?_⟩;refine⟨_,rfl,_,_,_,rfl,rfl,hS,?_⟩;refine⟨_,rfl,rfl,_,rfl,Yp (λe=>?_) λe=>?_⟩
 ·refine⟨_,rfl,_,rfl,T4 h1,?_⟩;have e':r.2=1:=by simpa [eqV] using e
  have:shR r=numS r.1:=by unfold shR;rw[XQ e']
  rw[this] at q;exact q
 have e':¬ r.2=1:=by simpa [eqV] using e
 have:shR r=PySem.Str.empty++numS r.1++⟨#[47]⟩++numS r.2:=by unfold shR;rw[XD e',Str.empty_append]
 have l1:=(Yw (k:=70) J0 h1).1;have l2:=(Yw (k:=70) J0 h2).1;rw[this] at q;refine⟨_,rfl,_,rfl,T4 h1,?_,_,rfl,_,rfl,T4 h2,?_,q⟩
 ·rw[YV,YV,YQ];show 0+(numS r.1).length+1<=_;omega
 rw[YV,YV,YV,YQ];show 0+(numS r.1).length+1+(numS r.2).length<=_;omega
inductive spFigs (vs:TQ) (H:Hp) (Q:VK) (_z3:XK):Prop
 | mk (n:Int) (zz0:vs=[.str (numS n)]) (zz1:n.natAbs<10 ^ 30) (zz2:∀ H',Same H H'->Q (.int n) H')
theorem Uj (D:Def K mg "read_figures" fI Ui)(T:BltT mg)(m_FIGURES:∃ t,mg "FIGURES"=some (.str ⟨#[48,49,50,51,52,53,54,55,56,57]⟩ t))(m_MOST_FIGURES:∃ t,mg "MOST_FIGURES"=some (.int 30 t)):Has P w K mg base 1 "read_figures" Ui spFigs:=by
 refine D.h9 (N:=["text","figures"]) fsc λH Q hr h nd=>?_;obtain⟨n,rfl,hn,q⟩:=h;obtain⟨_,m_MOST_FIGURES⟩:=m_MOST_FIGURES;obtain⟨tF,m_FIGURES⟩:=m_FIGURES;let s_FIGURES:PySem.Str:=⟨#[48,49,50,51,52,53,54,55,56,57]⟩;have nd1:(["sign"]:TD).Nodup:=J2
 have nd2:(["sign"]:TD).Nodup:=J2
 refine⟨_,(Z3 (Zx (Z7 (i:=1) nd rfl (Or.inl rfl) (Yu (Y6 (Y9 XX PySem.F.slot_str_startswith PySem.F.type_str_startswith Me (pv 0) (Z0 Zj Z2))) (Yf Qr (pv 0) (Y0 Z4) Yd) (pv 0))))
  (Z3 (Zr (PW.pt (Y4 (Y7 (Rm Vv Vv Z4 (Z9 Wv rfl T.len JR (Z0 (pv 1) Z2)) (Y8 (v:=.int 30) rfl m_MOST_FIGURES ⟨_,rfl⟩))) (Ym (Y6 (Z9 (L1 rfl) rfl T.any PyProof.Rows.boot_any (Z0 (Ye (ox:=none) (N:=["sign"]) (k:=1) (fv:=[]) rfl (Ls (pv 1))
  (λ_ _ _ _ _=>Zq (i:=0) nd2 rfl (Or.inl rfl)) (λ_ _ _ _ _=>Yc) (λ_ _ _ _ _=>(Vh Tw (pv 0) (Y8 (v:=.str s_FIGURES) rfl m_FIGURES ⟨_,rfl⟩) rfl)) Zt) Z2))))))
   (Z6 (Za Zl))
   Zh)
  (Z6 (Za (Zu Kr rfl T.int zd (Z0 (pv 0) Z2)))))),?_⟩
 refine⟨λσ' H'=>σ'=[some (.str (numS n)),some (.str (figs n))]/\H'=H,?_,?_⟩
 ·refine⟨_,rfl,rfl,_,_,rfl,rfl,_,rfl,?_⟩;have e:Txt.startswith (numS n) (Str.ofString "-")=decide (n<0):=(R5 (numS n) 45).trans (Mc n);rw[e];have ln:=Yw (k:=30) J0 hn;refine Yp (λe=>?_) λe=>?_
  ·have e:=GO e;refine⟨_,rfl,_,rfl,Yr ⟨_,some 1,none,rfl,rfl,rfl,?_,U,?_⟩⟩
   ·show min 1 (numS n).length<=min (numS n).length (numS n).length;omega
   show [some (V.str (numS n)),some (V.str (cutS (numS n) (min 1 (numS n).length) (min (numS n).length (numS n).length)))]=_/\H=H;rw[Kn e];exact⟨rfl,rfl⟩
  have e:=of_decide_eq_false e;obtain⟨m,rfl⟩:=JG (Int.not_lt.mp e);refine⟨_,rfl,?_⟩;show [some (V.str (numS m)),some (V.str (numS m))]=_/\H=H;rw[Kh];exact⟨rfl,rfl⟩
 rintro _ _ ⟨rfl,rfl⟩;have lf:=Ki (k:=30) J0 hn;refine⟨_,rfl,_,rfl,by rw[YQ];omega,_,_,rfl,rfl,_,rfl,?_⟩;rw[XC (show (1:Int)<=((figs n).length:Int) by omega)];refine Wb ⟨_,_,rfl,rfl,_,rfl,?_⟩;rw[XC (show ((figs n).length:Int)<=30 by omega)];refine Y2 ?_;show tCB _ _ _ _ _;refine G7 (Sr ?_);refine Tb (λc=>!decide (c∈s_FIGURES.cps.toList)) (λG g=>⟨_,rfl,g⟩) (Pi n) U (λc H1 G hc g=>?_) λd H2 hd S2 e2=>?_
 ·refine⟨_,rfl,_,_,rfl,rfl,?_⟩;rw[Js]
  simpa using g
 refine⟨d,_,rfl,SqL.of e2,_,rfl,?_⟩;have e:((figs n).cps.toList.map λc=>!decide (c∈s_FIGURES.cps.toList)).any id=false:=by
  rw[Y06,List.any_eq_false];intro c hc;simp only [Function.comp,id];rw[XC (Jy (Qd n c hc))]
  decide
 rw[e];refine Y2 ?_;have ln:=Yw (k:=30) J0 hn;exact⟨_,rfl,_,n,rfl,Mb (k:=30) J0 hn J0,U,q H2 S2⟩
end
theorem Lc {n:Int}:47 ∉ (numS n).cps.toList:=λh=>by
 have:=Wm h;omega
theorem Lx:∃ y w,partP (shR r) ⟨#[47]⟩=[numS r.1,y,w]/\((y=(⟨#[47]⟩:PySem.Str)/\w=numS r.2) \/ (y=Str.empty/\r.2=1)):=by
 by_cases h:r.2=1
 ·exact⟨_,_,by unfold shR;rw[XQ h,M4 Lc],.inr ⟨rfl,h⟩⟩
 exact⟨_,_,by unfold shR;rw[XD h,M3 Lc],.inl ⟨rfl,rfl⟩⟩
theorem Wg {k:Nat}(hk:1<=k)(h1:r.1.natAbs<10 ^ k)(h2:r.2.natAbs<10 ^ k):(shR r).length<=2*k+3:=by
 have l1:=(Yw hk h1).1;have l2:=(Yw hk h2).1;unfold shR;split
 ·omega
 rw[YV,YV];show (numS r.1).length+1+(numS r.2).length<=_;omega
section
variable {P:TM}{w:World}{K:TL}{mg:Tn}{base:Heap}
structure Fit30 (r:Rat):Prop where
 pos:0<r.2
 gcd:Int.gcd r.1 r.2=1
 b1:r.1.natAbs<10 ^ 30
 b2:r.2.natAbs<10 ^ 30
inductive spReadR (vs:TQ) (H:Hp) (Q:VK) (_z3:XK):Prop
 | mk (r:Rat) (zz0:vs=[.str (shR r)]) (zz1:Fit30 r) (zz2:∀ a H',Same H H'->H' a=some (.tup [.int r.1,.int r.2])->Q (.ref a) H')
theorem K5 {n:Int}(h:n.natAbs<10 ^ 30):n.natAbs.log2<450000:=by
 by_cases z:n.natAbs=0
 ·rw[z];decide
 exact JW ((zn z).mpr (JW h (show 10 ^ 30<2 ^ 100 by decide +kernel))) J0
theorem Rv (D:Def K mg "read_ratio" fM Ui)(eI:Has P w K mg base 1 "read_figures" Ui spFigs)(fG:Has P w K mg base 3 "ratio" TZ spLowest)(eB:Has P w K mg base 1 "show_ratio" ["one"] (spShowR K)):Has P w K mg base 4 "read_ratio" Ui spReadR:=by
 refine D.h9 (N:=["text","parts","top","bottom","one"]) fsc λH Q hr h nd=>?_;obtain⟨r,rfl,hr',q⟩:=h;refine⟨_,(Z3 (Z7 (i:=1) nd rfl (Or.inl rfl) (Y9 XX PySem.F.slot_str_partition PySem.F.type_str_partition Mf (pv 0) (Z0 Zj Z2)))
  (Z3 (Z7 (i:=2) nd rfl (Or.inl rfl) (Zf eI hr (Z0 (Zd Zs (pv 1) Z4 (λ_ _=>rfl)) Z2)))
  (Z3 (Zx (Z7 (i:=3) nd rfl (Or.inl rfl) (Yu (Z8 Xr (Zd Zs (pv 1) Z4 (λ_ _=>rfl)) Zj (Ze _)) (Zf eI hr (Z0 (Zd Zs (pv 1) Z4 (λ_ _=>rfl)) Z2)) Z4)))
  (Z3 (Zr (PW.pt (Y4 (Z8 Xn (pv 2) Zl (Ze _)) (Y4 (Z8 Xn (pv 3) Zl (Ze _)) (Ym (Z8 Xr (pv 3) Z4 (Ze _))))))
   (Z6 (Za Zl))
   Zh)
  (Z3 (Z7 (i:=4) nd rfl (Or.inl rfl) (Zf fG hr (Z0 (pv 2) (Z0 (pv 3) Z2))))
  (Z6 (Za (Yu (Z8 Xr (Zf eB hr (Z0 (pv 4) Z2)) (pv 0) (Ze _)) (pv 4) Zl)))))))),?_⟩
 obtain⟨y,w',hp,hc⟩:=Lx (r:=r);have ln:=Wg (k:=30) J0 hr'.b1 hr'.b2;refine⟨_,rfl,rfl,_,_,rfl,rfl,rfl,U,λp f1=>?_⟩;have hp:partP (shR r) (Str.ofString "/")=[numS r.1,y,w']:=hp;rw[hp];refine⟨_,rfl,_,_,_,_,rfl,rfl,SqT.of Z5,rfl,?_⟩;refine⟨_,rfl,hr'.b1,λH2 S2=>?_⟩;have S3:Same H H2:=(Same.new f1).trans S2;have ep:H2 p=some (.tup [.str (numS r.1),.str y,.str w']):=S2 _ _ Z5;refine⟨λσ' H'=>σ'=[some (.str (shR r)),some (.ref p),some (.int r.1),some (.int r.2),none]/\Same H H',?_,?_⟩
 ·refine⟨_,rfl,_,_,_,_,rfl,rfl,SqT.of ep,rfl,rfl,_,rfl,?_⟩;refine Yp (λe=>?_) λe=>?_
  ·rcases hc with ⟨rfl,rfl⟩ | ⟨rfl,e1⟩
   ·refine⟨_,rfl,_,_,_,_,rfl,rfl,SqT.of ep,rfl,?_⟩;exact⟨_,rfl,hr'.b2,λH5 S5=>⟨rfl,S3.trans S5⟩⟩
   exact absurd e J0
  rcases hc with ⟨rfl,rfl⟩ | ⟨rfl,e1⟩
  ·exact absurd e J0
  show [some (V.str (shR r)),some (V.ref p),some (V.int r.1),some (V.int 1),none]=_/\Same H H2;rw[e1];exact⟨rfl,S3⟩
 rintro _ H4 ⟨rfl,S4⟩;refine⟨_,rfl,rfl,_,rfl,Y2 ?_⟩;refine⟨_,rfl,rfl,_,rfl,Y2 ?_⟩;refine⟨_,rfl,rfl,_,rfl,Kc (λz=>by have:=V.int.inj z;have:=hr'.pos;omega) ?_⟩;refine⟨_,rfl,_,rfl,_,_,rfl,by have:=hr'.pos;omega,K5 hr'.b2,λa H5 f5 S5 e5=>?_⟩;have hN:nrm r.1 r.2=r:=K1 hr'.pos hr'.gcd;have e5:H5 a=some (.tup [.int r.1,.int r.2]):=by
  rw[e5,show nT r.1 r.2=r.1 from congrArg Prod.fst hN,show nB r.1 r.2=r.2 from congrArg Prod.snd hN]
 have up:∀ {n:Int},n.natAbs<10 ^ 30->n.natAbs<10 ^ 70:=λh=>JW h J2;refine⟨_,rfl,a,r,rfl,SqT.of e5,up hr'.b1,up hr'.b2,_,rfl,rfl,_,rfl,?_⟩;refine Yp (λe=>?_) λe=>?_
 ·exact⟨_,rfl,q a H5 (S4.trans S5) e5⟩
 exact absurd e (by simp[eqV])
structure NameOk (z:PySem.Str):Prop where
 l1:1<=z.length
 l2:z.length<=8
 az:∀ c∈z.cps.toList,97<=c/\c<=122
theorem NameOk.ascii {z:PySem.Str}(h:NameOk z):z.cps.all (·<128)=true:=by
 rw[<-Array.all_toList,GU];intro c hc;have:=h.az c hc;simp;omega
inductive spIsName (vs:TQ) (H:Hp) (Q:VK) (_z3:XK):Prop
 | mk (z:PySem.Str) (zz0:vs=[.str z]) (zz1:NameOk z) (zz2:∀ H',Same H H'->Q (.bl true) H')
theorem K0 (D:Def K mg "is_name" fY Ui)(T:BltT mg)(m_MOST_LETTERS:∃ t,mg "MOST_LETTERS"=some (.int 8 t)):Has P w K mg base 1 "is_name" Ui spIsName:=by
 refine D.h9 (N:=Ui) fsc λH Q hr h nd=>?_;obtain⟨z,rfl,hz,q⟩:=h;obtain⟨_,m_MOST_LETTERS⟩:=m_MOST_LETTERS;have nd1:(["sign"]:TD).Nodup:=J2
 refine⟨_,(Z6 (Za (Tu (Rr Vv Vv Z4 (Z9 Wv rfl T.len JR (Z0 (pv 0) Z2)) (Y8 (v:=.int 8) rfl m_MOST_LETTERS ⟨_,rfl⟩)) (Tt (Z9 (V7 (K:=K) rfl) rfl T.all ze (Z0 (Ye (ox:=none) (N:=["sign"]) (k:=1) (fv:=[]) rfl (Ls (pv 0))
  (λ_ _ _ _ _=>Zq (i:=0) nd1 rfl (Or.inl rfl)) (λ_ _ _ _ _=>Yc) (λ_ _ _ _ _=>(Rr Ux Ux Zj (pv 0) Zj)) Zt) Z2)))))),?_⟩
 have h1:=hz.l1;have h2:=hz.l2;refine⟨_,rfl,_,rfl,by rw[YQ];omega,_,_,rfl,rfl,_,rfl,?_⟩;rw[XC (show (1:Int)<=(z.length:Int) by omega)];refine Wb ⟨_,_,rfl,rfl,?_⟩;rw[XC (show (z.length:Int)<=8 by omega)];refine⟨_,rfl,Wb (G7 (Sr ?_))⟩;refine Tb (λ_=>true) (λG g=>⟨_,rfl,g⟩) hz.ascii U (λc H1 G hc g=>?_) λd H2 hd S2 e2=>?_
 ·have a:=hz.az c hc;have e1:(!decide (([c]:List Nat)<[97]))=true:=by
   rw[XL]
   ·rfl
   intro z;have:c<97 \/ (c=97/\([]:List Nat)<[]):=jx.mp z;rcases this with z | ⟨_,z⟩
   ·omega
   cases z
  have e2:(!decide (([122]:List Nat)<[c]))=true:=by
   rw[XL]
   ·rfl
   intro z;have:122<c \/ (122=c/\([]:List Nat)<[]):=jx.mp z;rcases this with z | ⟨_,z⟩
   ·omega
   cases z
  refine⟨_,rfl,_,_,rfl,rfl,_,rfl,?_⟩;show if (!decide (([c]:List Nat)<[97]))=true then _ else _
  rw[e1];refine Wb ⟨_,_,rfl,rfl,?_⟩;show G (.bl (!decide (([122]:List Nat)<[c]))) _;rw[e2];exact g
 refine⟨d,_,rfl,SqL.of e2,?_⟩;have e:(z.cps.toList.map λ_=>true).all id=true:=J1
 rw[e];exact q H2 S2
inductive spReadRow (K:TL) (vs:TQ) (H:Hp) (Q:VK) (_z3:XK):Prop
 | mk (p:Addr) (rs:TR) (zz0:vs=[.ref p]) (zz1:SqL K H p (rs.map λr=>V.str (shR r))) (zz2:∀ r∈rs,Fit30 r) (zz3:rs.length<=1000) (zz4:∀ a H',Same H H'->RowAt K H' a rs->Q (.ref a) H')
theorem Ut:FnScope ["words","worths"] UA (defScope fS):=fsc
theorem M6 (D:Def K mg "read_row" fS UA)(T:BltT mg)(eH:Has P w K mg base 4 "read_ratio" Ui spReadR):Has P w K mg base 5 "read_row" UA (spReadRow K):=by
 refine D.has λf fd F=>F.ok Ut (λvs H Q E h=>?_) (λcdv A outer s H vs Q E hr h=>?_)
 ·obtain⟨p,rs,rfl,_⟩:=h;rfl
 obtain⟨p,rs,rfl,hS,hf,hn,q⟩:=h;have sc:=Ut;have hU1:=JC (zC (show 1<=64 by decide) _) hr.units;have nd1:(["word"]:TD).Nodup:=J2
 refine⟨_,(Z3 (Tp (i:=1) (ox:=none) (N:=["word"]) (k:=1) (fv:=[]) sc.nd rfl (Or.inl rfl) rfl (Xk (pv 0))
  (λ_ _ _ _ _=>Zq (i:=0) nd1 rfl (Or.inl rfl)) (λ_ _ _ _ _=>Yc) (λ_ _ _ _ _=>(Zf eH hr (Z0 (pv 0) Z2))) Zt)
  (Z6 (Za (Yu (Z8 (Fe (K:=K) hU1) Zl (pv 1) rfl) Zl (Zu Yh rfl T.tuple XW (Z0 (pv 1) Z2)))))),?_⟩
 refine Gb (Gn ?_);refine Mu (g:=λr:Rat=>r) (λH1 a (r:Rat)=>SqT K H1 a [.int r.1,.int r.2]) (λH1 H2 a z E h=>E.sq h) (λG g=>⟨_,rfl,g⟩) hS hn (λi r H1 G er S1 g=>?_) λd H2 bs hd S2 e2 pr=>?_
 ·refine⟨_,rfl,r,rfl,hf r (YO er),λa H3 S3 e3=>g a H3 S3 (SqT.of e3)⟩
 rw[List.map_id'] at pr;refine⟨_,rfl,_,_,rfl,rfl,SqL.of e2,?_,_,rfl,?_⟩
 ·intro z hz;obtain⟨b,hb,rfl⟩:=JE.mp hz;obtain⟨i,hi⟩:=qG hb;obtain⟨r,er⟩:∃ r,rs[i]?=some r:=⟨rs[i]'(by have:=(XG.mp hi).1;have:=JK pr;omega),J1⟩;have:=Paired.getB pr hi er;exact .inr ⟨b,_,rfl,this⟩
 rw[XL J1];refine Y2 ?_;have lb:=JK pr;exact⟨_,rfl,_,_,rfl,.inl ⟨SqL.of e2,λl hl=>q l _ (S2.trans (Same.new hl)) ⟨_,SqT.of Z5,(Rs.of_pairs pr).ext (Ext.new hl)⟩⟩⟩
end
theorem U5 (z:PySem.Str)(ns:List PySem.Str):inV (.str z) (ns.map V.str)=decide (z∈ns):=by
 unfold inV;rw[Y06,JV];simp only [List.any_eq_true,GC,Function.comp];constructor
 ·rintro ⟨x,hx,e⟩;have:x=z:=by simpa [eqV] using e
  exact this ▸ hx
 intro h;exact⟨z,h,by simp[eqV]⟩
theorem Xg (ns:List PySem.Str):(ns.map V.str).all flatV=true:=by
 rw[List.all_map,GU];intro x _;rfl
section
variable {P:TM}{w:World}{K:TL}{mg:Tn}{base:Heap}
abbrev natV (es:List Nat):List V:=(es.map λ(k:Nat)=>(k:Int)).map V.int
inductive spEventOf (K:TL) (vs:TQ) (H:Hp) (Q:VK) (_z3:XK):Prop
 | mk (a b:Addr) (ns:List PySem.Str) (es:List Nat) (zz0:vs=[.ref a,.ref b]) (zz1:SqL K H a (ns.map V.str)) (zz2:SqL K H b (es.map λi=>V.str (ns.getD i ""))) (zz3:ns.Nodup) (zz4:ns.length<=12) (zz5:es.Pairwise (·<·)) (zz6:∀ e∈es,e<ns.length) (zz7:es.length<=12) (zz8:∀ c H',Same H H'->H' c=some (.tup (natV es))->Q (.ref c) H')
theorem Uu:FnScope ["names","words","worlds"] UB (defScope fV):=fsc
theorem M9 (D:Def K mg "event_of" fV UB)(T:BltT mg):Has P w K mg base 5 "event_of" UB (spEventOf K) true:=by
 refine D.has λf fd F=>F.ok Uu (λvs H Q E h=>?_) (λcdv A outer s H vs Q E hr h=>?_)
 ·obtain⟨a,b,ns,es,rfl,_⟩:=h;rfl
 obtain⟨a,b,ns,es,rfl,hN,hW,nd,ln,ri,hlt,le,q⟩:=h;have sc:=Uu;have hH:=hr.hd rfl;have hU64:=hr.units;have nd1:(["word","names"]:List Str).Nodup:=J2
 refine⟨_,(Z3 (Tp (i:=2) (ox:=none) (N:=["word","names"]) (k:=1) (fv:=[0]) sc.nd rfl (Or.inl rfl) rfl (Xk (pv 1))
  (λ_ _ _ _ _=>Zq (i:=0) nd1 rfl (Or.inl rfl)) (λ_ _ _ _ _=>To (Z8 (Ff (K:=K)) (pv 0) (pv 1) rfl)) (λ_ _ _ _ _=>(Fd (K:=K) XI jh ji (T3 (K:=K)) (pv 1) (Z0 (pv 0) Z2))) Zt)
  (Z3 (Zr (PW.pt (Y4 (Z8 Vu (Z9 Zg rfl T.len JR (Z0 (pv 2) Z2)) (Z9 Zg rfl T.len JR (Z0 (pv 1) Z2)) (Ze _)) (Ym (Z8 (Ty (K:=K) hU64) (pv 2) (Z9 (Pp hH) rfl T.sorted PyProof.Rows.boot_sorted (Z0 (Zu (My (K:=K) hH) rfl T.set jy (Z0 (pv 2) Z2)) Z2)) (Ze _)))))
   (Z6 (Za Zl))
   Zh)
  (Z6 (Za (Zu Yh rfl T.tuple XW (Z0 (pv 2) Z2)))))),?_⟩
 refine Gb (Gn ?_);refine Mt (g:=λi:Nat=>V.int (i:Int)) (λG g=>⟨_,rfl,g⟩) hW U (λi z H1 G ez S1 g=>?_) (λi z H1 G ez S1 g=>?_) λd H2 hd S2 e2=>?_
 ·have hz:=hlt z (YO ez);refine⟨_,rfl,_,rfl,a,_,rfl,.inl (Zz S1 hN),rfl,Xg ns,_,rfl,?_⟩;rw[U5,XC (by simp[List.getD,hz])];exact g
 ·have hz:=hlt z (YO ez);refine⟨_,rfl,.inl ⟨rfl,_,Zz S1 hN⟩,_,rfl,a,_,_,z,rfl,rfl,Zz S1 hN,rfl,Xg ns,⟨.str (ns.getD z ""),by simp[List.getD,hz],by simp[eqV]⟩,λm y hm hy=>?_,by rw[YC];omega,g⟩;rw[YI] at hy;have hm2:m<ns.length:=U
  rw[YZ hm2] at hy
  cases hy;have:ns[m]≠ns.getD z "":=by
   simp only [List.getD,YZ hz,Option.getD_some];exact (JN.mp nd) m z hm2 hz hm
  simpa [eqV] using this
 refine Xc ?_;have hW2:=Zz S2 hW;have e2:H2 d=some (.lst (natV es)):=by rw[e2];simp[natV,Function.comp]
 refine⟨_,rfl,d,_,rfl,.inl (SqL.of e2),_,rfl,b,_,rfl,.inl hW2,_,_,rfl,rfl,_,rfl,?_⟩;rw[XL J1];refine Y2 ⟨_,rfl,_,rfl,d,_,rfl,SqL.of e2,Qx ri,by rw[YC];omega,λd2 es' ms h2 pm vl=>?_⟩;refine⟨d2,es',ms,rfl,Z5,vl,by rw[pm.length_eq,YC];omega,λd3 ms' h3 pm' pw=>?_⟩;have S3:Same H2 (upd (upd H2 d2 (setI P w d2 es')) d3 (.lst (ms'.map V.int))):=(Same.new h2).trans (Same.new h3);have em:ms'=es.map λ(k:Nat)=>(k:Int):=R6 (pm'.trans pm) pw (by
  rw[qC];exact ri.imp λ{a b} q=>U)
 refine⟨0,d,d3,_,_,rfl,rfl,J0,.inl ⟨SqL.of (S3 _ _ e2),SqL.of Z5⟩,by rw[em];exact Qe _,_,rfl,?_⟩;refine Y2 ⟨_,rfl,d,_,rfl,.inl ⟨SqL.of (S3 _ _ e2),λl hl=>?_⟩⟩;exact q l _ ((S2.trans S3).trans (Same.new hl)) Z5
end
theorem Tk {ws:List PySem.Str}{Q:VK}(h0:ws≠[])(h:∀ w∈ws,c ∉ w.cps.toList)(hl:(Str.join ⟨#[c]⟩ ws).length<=1000000)(q:∀ l,H l=none->Q (.ref l) (upd H l (.lst (ws.map V.str)))):rSplit (.str (Str.join ⟨#[c]⟩ ws)) [.str ⟨#[c]⟩] H Q:=by
 have e:=Qp h0 h;have l2:=split_le (Str.join ⟨#[c]⟩ ws) ⟨#[c]⟩;refine⟨_,_,rfl,rfl,rfl,hl,by rw[YQ];omega,?_,λl hl=>by rw[e];exact q l hl⟩;rw[len_partsBetween,YQ];have:=StrLaws.occ_length_le (Str.join ⟨#[c]⟩ ws) ⟨#[c]⟩ 0 (Str.join ⟨#[c]⟩ ws).length ((Str.join ⟨#[c]⟩ ws).length+1);omega
theorem Ud {x:V}:atI (x::xs) 0=some x:=Yi (xs:=x::xs) (j:=0) rfl
theorem NameOk.free {z:PySem.Str}(h:NameOk z){c:Nat}(hc:c<97):c ∉ z.cps.toList:=λq=>by
 have:=h.az c q;omega
theorem Y5 {c:Nat}{m:Nat}:∀ {ws:List PySem.Str},(∀ w∈ws,w.length<=m)->(Str.join ⟨#[c]⟩ ws).length<=ws.length*(m+1)
 | [],_=>JH _
 | [w],h=>by
  have:=h w YL;show w.length<=_;simp;omega
 | w::v::ws,h=>by
  have a:=h w YL;have b:=Y5 (c:=c) (ws:=v::ws) λx hx=>h x (YK _ hx);rw[Xf,YV,YV,YS,jV];show w.length+1+_<=_;omega
section
variable {P:TM}{w:World}{K:TL}{mg:Tn}{base:Heap}
def rowN (ns:List PySem.Str):PySem.Str:=Str.join ⟨#[32]⟩ (Str.ofString "worlds"::ns)
structure NamesOk (ns:List PySem.Str):Prop where
 nd:ns.Nodup
 l1:2<=ns.length
 l2:ns.length<=12
 ok:∀ z∈ns,NameOk z
inductive spReadNames (vs:TQ) (H:Hp) (Q:VK) (_z3:XK):Prop
 | mk (ns:List PySem.Str) (zz0:vs=[.str (rowN ns)]) (zz1:NamesOk ns) (zz2:∀ l H',Same H H'->H l=none->H' l=some (.lst (ns.map V.str))->Q (.ref l) H')
theorem Rx (D:Def K mg "read_names" fO ["row"])(T:BltT mg)(fC:Has P w K mg base 1 "is_name" Ui spIsName)(m_LEAST_WORLDS:∃ t,mg "LEAST_WORLDS"=some (.int 2 t))(m_MOST_WORLDS:∃ t,mg "MOST_WORLDS"=some (.int 12 t)):Has P w K mg base 5 "read_names" ["row"] spReadNames true:=by
 refine D.h9 (N:=["row","words","names"]) fsc λH Q hr h nd=>?_;obtain⟨ns,rfl,ok,q⟩:=h;obtain⟨_,m_LEAST_WORLDS⟩:=m_LEAST_WORLDS;obtain⟨_,m_MOST_WORLDS⟩:=m_MOST_WORLDS;have hH:=hr.hd rfl;have nd1:(["name"]:TD).Nodup:=J2
 refine⟨_,(Z3 (Z7 (i:=1) nd rfl (Or.inl rfl) (Y9 XX z4 z9 Vz (pv 0) (Z0 Zj Z2)))
  (Z3 (Z7 (i:=2) nd rfl (Or.inl rfl) (Yf W0 (pv 1) (Y0 Z4) Yd))
  (Z3 (Zr (PW.pt (Y4 (Z8 W5 (Zd Y1 (pv 1) Z4 (λ_ _=>rfl)) Zj (Ze _)) (Ym (Y7 (Rm Vv Vv (Y8 (v:=.int 2) rfl m_LEAST_WORLDS ⟨_,rfl⟩) (Z9 Zg rfl T.len JR (Z0 (pv 2) Z2)) (Y8 (v:=.int 12) rfl m_MOST_WORLDS ⟨_,rfl⟩))))))
   (Z6 (Za Zl))
   Zh)
  (Z3 (Zr (PW.pt (Y4 (Z8 Vu (Z9 L0 rfl T.len JR (Z0 (Zu (Mx (K:=K) hH) rfl T.set jy (Z0 (pv 2) Z2)) Z2)) (Z9 Zg rfl T.len JR (Z0 (pv 2) Z2)) (Ze _)) (Ym (Y7 (Y6 (Z9 (V7 (K:=K) rfl) rfl T.all ze (Z0 (Ye (ox:=none) (N:=["name"]) (k:=1) (fv:=[]) rfl (Xk (pv 2))
  (λ_ _ _ _ _=>Zq (i:=0) nd1 rfl (Or.inl rfl)) (λ_ _ _ _ _=>Yc) (λ_ _ _ _ _=>(Zf fC hr (Z0 (pv 0) Z2))) Zt) Z2)))))))
   (Z6 (Za Zl))
   Zh)
  (Z6 (Za (pv 2))))))),?_⟩
 have l1:=ok.l1;have l2:=ok.l2;have free:∀ z∈Str.ofString "worlds"::ns,32 ∉ z.cps.toList:=λz hz=>by
  rcases YJ.mp hz with rfl | hz
  ·decide
  exact (ok.ok z hz).free J0
 have lj:=Y5 (c:=32) (m:=8) (ws:=Str.ofString "worlds"::ns) λz hz=>by
  rcases YJ.mp hz with rfl | hz
  ·decide
  exact (ok.ok z hz).l2
 rw[YS] at lj;refine⟨_,rfl,rfl,?_⟩;refine Tk (ws:=Str.ofString "worlds"::ns) J1 free U λl f1=>?_;refine⟨_,rfl,_,rfl,Yr ⟨l,_,rfl,SqL.of Z5,λl2 f2=>?_⟩⟩;have e1:cutV ((Str.ofString "worlds"::ns).map V.str) (some 1) none=ns.map V.str:=by
  rw[show (1:Int)=((1:Nat):Int) from rfl,So J1];rfl
 rw[e1];have S2:Same H (upd (upd H l (.lst ((Str.ofString "worlds"::ns).map V.str))) l2 (.lst (ns.map V.str))):=(Same.new f1).trans (Same.new f2);have el:upd (upd H l (.lst ((Str.ofString "worlds"::ns).map V.str))) l2 (.lst (ns.map V.str)) l=some (.lst ((Str.ofString "worlds"::ns).map V.str)):=Same.new f2 _ _ Z5;have e2:upd (upd H l (.lst ((Str.ofString "worlds"::ns).map V.str))) l2 (.lst (ns.map V.str)) l2=some (.lst (ns.map V.str)):=Z5;have n2:H l2=none:=by
  cases e:H l2 with
  | none=>rfl
  | some o=>exact absurd (Same.new f1 _ _ e) (by rw[f2];simp)
 generalize upd (upd H l (.lst ((Str.ofString "worlds"::ns).map V.str))) l2 (.lst (ns.map V.str))=H2 at S2 el e2;refine Xc ?_;refine⟨_,rfl,l,_,0,.str (Str.ofString "worlds"),rfl,rfl,SqL.of el,by exact Ud,rfl,_,rfl,Yp (λe=>absurd e J1) λ_=>?_⟩;refine⟨_,rfl,l2,_,rfl,.inl (SqL.of e2),_,_,rfl,rfl,_,rfl,?_⟩;rw[YC,XC (show (2:Int)<=(ns.length:Int) by omega)];refine Wb ⟨_,_,rfl,rfl,_,rfl,?_⟩;rw[XC (show (ns.length:Int)<=12 by omega)];refine Y2 ?_;refine⟨_,rfl,l2,ns,rfl,SqL.of e2,ok.nd,U,λd es fd ez=>?_⟩;refine⟨d,es,rfl,Z5,_,rfl,l2,_,rfl,.inl (SqL.of (Same.new fd _ _ e2)),_,_,rfl,rfl,_,rfl,?_⟩;rw[YC,ez,XL U];refine Y2 ?_;show tCB _ _ _ _ _;refine G7 (Sr ?_);refine Ms (f:=λ_=>.bl true) (λG g=>⟨_,rfl,g⟩) (SqL.of (Same.new fd _ _ e2)) (by rw[YC];omega) (λi x H3 G ex S3 g=>?_) λd3 H3 h3 S3 e3=>?_
 ·rw[YI] at ex
  cases ez':ns[i]? with
  | none=>rw[ez'] at ex;cases ex
  | some z =>
   rw[ez'] at ex
   cases ex;exact⟨_,rfl,z,rfl,ok.ok z (YO ez'),λH4 S4=>g H4 S4⟩
 refine⟨d3,ns.map λ_=>true,rfl,SqL.of (by rw[e3,List.map_map,List.map_map];rfl),_,rfl,?_⟩;rw[show (ns.map λ_=>true).all id=true by simp];refine Y2 ⟨_,rfl,?_⟩;have S4:=(Same.new fd (o:=setS P w d es)).trans S3;exact q l2 H3 (S2.trans S4) n2 (S4 _ _ e2)
abbrev sAsk:PySem.Str:=Str.ofString "ask"
abbrev sBid:PySem.Str:=Str.ofString "bid"
def prW (oa ob:Option Rat):List PySem.Str:=(match oa with | none=>[] | some r=>[sAsk,shR r])++(match ob with | none=>[] | some r=>[sBid,shR r])
def PrAt (K:TL)(H:Hp)(v:V):Option Rat->Prop
 | none=>v=.non
 | some r=>∃ c,v=.ref c/\SqT K H c [.int r.1,.int r.2]
def prR (oa ob:Option Rat):List Rat:=oa.toList++ob.toList
def prK (oa ob:Option Rat):List PySem.Str:=(match oa with | none=>[] | some _=>[sAsk])++(match ob with | none=>[] | some _=>[sBid])
abbrev ixs (lo:Option Int)(n:Nat):List Nat:=sliceRange (sliceBounds lo none (some 2) n).1 (sliceBounds lo none (some 2) n).2.1 (sliceBounds lo none (some 2) n).2.2
theorem ix10:ixs (some 1) 0=[]:=by decide +kernel
theorem Dj:ixs (some 1) 2=[1]:=by decide +kernel
theorem ix14:ixs (some 1) 4=[1,3]:=by decide +kernel
theorem ix00:ixs none 0=[]:=by decide +kernel
theorem Dk:ixs none 2=[0]:=by decide +kernel
theorem ix04:ixs none 4=[0,2]:=by decide +kernel
theorem G9 (oa ob:Option Rat):stepV ((prW oa ob).map V.str) (some 1) none (some 2)=(prR oa ob).map λr=>V.str (shR r):=by
 cases oa <;> cases ob
 ·show (ixs (some 1) 0).filterMap _=_;rw[ix10];rfl
 ·show (ixs (some 1) 2).filterMap _=_;rw[Dj];rfl
 ·show (ixs (some 1) 2).filterMap _=_;rw[Dj];rfl
 show (ixs (some 1) 4).filterMap _=_;rw[ix14];rfl
theorem Py (oa ob:Option Rat):stepV ((prW oa ob).map V.str) none none (some 2)=(prK oa ob).map V.str:=by
 cases oa <;> cases ob
 ·show (ixs none 0).filterMap _=_;rw[ix00];rfl
 ·show (ixs none 2).filterMap _=_;rw[Dk];rfl
 ·show (ixs none 2).filterMap _=_;rw[Dk];rfl
 show (ixs none 4).filterMap _=_;rw[ix04];rfl
theorem Wl (oa ob:Option Rat):(prR oa ob).length<=2:=by cases oa <;> cases ob <;> simp[prR]
theorem Tr (oa ob:Option Rat):(prK oa ob).length=(prR oa ob).length:=by cases oa <;> cases ob <;> rfl
theorem N0 (oa ob:Option Rat):(prW oa ob).length=2*(prR oa ob).length:=by cases oa <;> cases ob <;> rfl
theorem askbid:sAsk≠sBid:=by decide
theorem F7 (oa ob:Option Rat):(prK oa ob).Nodup:=by
 have:=askbid
 cases oa <;> cases ob <;> simp[prK];exact this
theorem F8 (oa ob:Option Rat):prK oa ob∈[[],[sAsk],[sBid],[sAsk,sBid]]:=by cases oa <;> cases ob <;> simp[prK]
inductive PwC (K:TL) (mg:Tn):Prop
 | mk (c:Addr) (cs:TH) (m:mg "PRICE_WORDS"=some (.ref c)) (s:∀ H,SqT K H c (cs.map V.ref)) (t:∀ H,Paired (λc us=>SqT K H c (List.map V.str us)) cs [[],[sAsk],[sBid],[sAsk,sBid]])
theorem Go {H:Hp}{oa ob:Option Rat}{xs:TQ}(rx:Rs K H (prR oa ob) xs):PrAt K H ((valK (((prK oa ob).map (Sum.inr:PySem.Str->Key)).zip xs) (.inr sAsk)).getD .non) oa/\PrAt K H ((valK (((prK oa ob).map (Sum.inr:PySem.Str->Key)).zip xs) (.inr sBid)).getD .non) ob:=by
 have n1:=askbid;have n2:=askbid.symm
 cases oa with
 | none =>
  cases ob with
  | none=>exact⟨rfl,rfl⟩
  | some b =>
   cases rx with
   | cons h t =>
    cases t;refine⟨?_,?_⟩
    ·simp[valK,prK,PrAt,n2]
    simpa [valK,prK,PrAt,IsR] using h
 | some a =>
  cases ob with
  | none =>
   cases rx with
   | cons h t =>
    cases t;refine⟨?_,?_⟩
    ·simpa [valK,prK,PrAt,IsR] using h
    simp[valK,prK,PrAt,n1]
  | some b =>
   cases rx with
   | cons h t =>
    cases t with
    | cons h2 t2 =>
     cases t2;refine⟨?_,?_⟩
     ·simpa [valK,prK,PrAt,IsR] using h
     simpa [valK,prK,PrAt,IsR,n1] using h2
inductive spReadPrices (K:TL) (vs:TQ) (H:Hp) (Q:VK) (_z3:XK):Prop
 | mk (p:Addr) (oa ob:Option Rat) (zz0:vs=[.ref p]) (zz1:SqL K H p ((prW oa ob).map V.str)) (zz2:∀ r,oa=some r->Fit30 r) (zz3:∀ r,ob=some r->Fit30 r) (zz4:∀ c H' va vb,Same H H'->H' c=some (.tup [va,vb])->PrAt K H' va oa->PrAt K H' vb ob->Q (.ref c) H')
theorem S0 (D:Def K mg "read_prices" fJ UA)(T:BltT mg)(eJ:Has P w K mg base 5 "read_row" UA (spReadRow K))(hPW:PwC K mg):Has P w K mg base 6 "read_prices" UA (spReadPrices K) true:=by
 refine D.h9 (N:=["words","prices","told"]) fsc λH Q hr h nd=>?_;obtain⟨p,oa,ob,rfl,hS,fa,fb,q⟩:=h;have hH:=hr.hd rfl;have hU1:=JC (zC (show 1<=64 by decide) _) hr.units;obtain⟨c_PRICE_WORDS,cs,m_PRICE_WORDS,s1,t1⟩:=hPW;refine⟨_,(Z3 (Z7 (i:=1) nd rfl (Or.inl rfl) (Zf eJ hr (Z0 (V2 (pv 0) (Y0 Z4) Yd (Y0 Z4)) Z2)))
  (Z3 (Zr (PW.pt (Y4 (Z8 (M5 (K:=K) hU1) (Zu Yh rfl T.tuple XW (Z0 (V2 (pv 0) Yd Yd (Y0 Z4)) Z2)) (Y8 (v:=.ref c_PRICE_WORDS) rfl m_PRICE_WORDS rfl) rfl) (Y4 (Z8 Xr (Zc Yv (Z9 Zg rfl T.len JR (Z0 (pv 0) Z2)) Z4) Z4 (Ze _)) (Ym (Z8 Xn (pv 1) Zl (Ze _))))))
   (Z6 (Za Zl))
   Zh)
  (Z3 (Z7 (i:=2) nd rfl (Or.inl rfl) (Lw hH rfl T.dict rfl T.zip (Z0 (V2 (pv 0) Yd Yd (Y0 Z4)) (Z0 (pv 1) Z2))))
  (Z6 (Za (Xu (Z0 (Y9 jj zb jz N4 (pv 2) (Z0 Zj Z2)) (Z0 (Y9 jj zb jz N4 (pv 2) (Z0 Zj Z2)) Z2)))))))),?_⟩
 refine⟨_,rfl,_,rfl,Yr ⟨_,rfl,p,_,rfl,hS,J0,?_,λp1 f1=>?_⟩⟩
 ·have:=Wl oa ob;rw[G9,YC,YQ];omega
 rw[G9];refine⟨p1,prR oa ob,rfl,SqL.of Z5,?_,?_,λa H2 S2 ra=>?_⟩
 ·intro r hr';rcases YY.mp hr' with h | h
  ·exact fa r (by simpa using h)
  exact fb r (by simpa using h)
 ·have:=Wl oa ob;omega
 have S3:Same H H2:=(Same.new f1).trans S2;refine⟨_,rfl,Yr (Yr ⟨_,rfl,p,_,rfl,Zz S3 hS,J0,?_,λp2 f2=>?_⟩)⟩
 ·have:=Wl oa ob;rw[Py,YC,YQ,Tr];omega
 rw[Py];refine⟨p2,_,rfl,.inl ⟨SqL.of Z5,λp3 f3=>?_⟩⟩;refine⟨p3,c_PRICE_WORDS,prK oa ob,cs,_,rfl,rfl,SqT.of Z5,s1 _,t1 _,_,rfl,?_⟩;rw[XC (F8 oa ob)];refine Y2 ?_;generalize hH4:upd (upd H2 p2 (.lst ((prK oa ob).map V.str))) p3 (.tup ((prK oa ob).map V.str))=H4;have S4:Same H2 H4:=hH4 ▸ (Same.new f2).trans (Same.new f3);have hS4:=Zz (S3.trans S4) hS;have ra4:RowAt K H4 a (prR oa ob):=ra.same S4;refine⟨_,rfl,p,_,rfl,.inl hS4,_,_,rfl,rfl,J0,rfl,_,rfl,Kc (λz=>?_) ?_⟩
 ·have z:=V.int.inj z;rw[YC,N0] at z;omega
 refine⟨_,rfl,rfl,_,rfl,Y2 ?_⟩;obtain⟨xs,sx,rx⟩:=ra4;have lx:=rx.len;refine⟨_,rfl,Yr (Yr ⟨_,rfl,p,_,rfl,hS4,J0,?_,λp4 f4=>?_⟩)⟩
 ·have:=Wl oa ob;rw[Py,YC,YQ,Tr];omega
 rw[Py];have S5:Same H4 (upd H4 p4 (.lst ((prK oa ob).map V.str))):=Same.new f4;refine⟨_,rfl,p4,a,prK oa ob,xs,rfl,SqL.of Z5,Zw S5 sx,by rw[Tr];omega,F7 oa ob,λd fd'=>?_⟩;have S6:Same H4 (upd (upd H4 p4 (.lst ((prK oa ob).map V.str))) d (.dK (((prK oa ob).map Sum.inr).zip xs))):=S5.trans (Same.new fd');refine⟨_,rfl,.inr (.inr (.inl ⟨rfl,.inl ⟨_,Z5⟩⟩)),d,_,.inr sAsk,rfl,rfl,Z5,?_⟩;refine⟨_,rfl,.inr (.inr (.inl ⟨rfl,.inl ⟨_,Z5⟩⟩)),d,_,.inr sBid,rfl,rfl,Z5,?_⟩;refine⟨by show 2<=sizeLine;decide,λc fc=>?_⟩;have S7:=S6.trans (Same.new (o:=.tup [(valK (((prK oa ob).map (Sum.inr:PySem.Str->Key)).zip xs) (.inr sAsk)).getD .non,(valK (((prK oa ob).map (Sum.inr:PySem.Str->Key)).zip xs) (.inr sBid)).getD .non]) fc);have pr:=Go (rx.ext (Ext.same S7));exact q c _ _ _ ((S3.trans S4).trans S7) Z5 pr.1 pr.2
end
abbrev sOffer:PySem.Str:=Str.ofString "offer"
abbrev sIf:PySem.Str:=Str.ofString "if"
def evW (ns:List PySem.Str):Option (List Nat)->List PySem.Str
 | none=>[]
 | some es=>sIf::es.map λi=>ns.getD i ""
structure OffT (n:Nat)(rs:TR)(oa ob:Option Rat)(ev:Option (List Nat)):Prop where
 len:rs.length=n
 fr:∀ r∈rs,Fit30 r
 fa:∀ r,oa=some r->Fit30 r
 fb:∀ r,ob=some r->Fit30 r
 ev:∀ es,ev=some es->es≠[]/\es.Pairwise (·<·)/\∀ e∈es,e<n
def offW (ns:List PySem.Str)(rs:TR)(oa ob:Option Rat)(ev:Option (List Nat)):List PySem.Str:=sOffer::(rs.map shR++(prW oa ob++evW ns ev))
theorem R9 (h:c∈(shR r).cps.toList):45<=c/\c<=57:=by
 unfold shR at h;split at h
 ·have:=Wm h;omega
 rw[Zp,Zp] at h;rcases YY.mp h with h | h
 ·rcases YY.mp h with h | h
  ·have:=Wm h;omega
  have:c=47:=by simpa using h
  omega
 have:=Wm h;omega
theorem Gy (r:Rat):shR r≠sIf:=λe=>by
 have:105∈(shR r).cps.toList:=by rw[e];decide
 have:=R9 this;omega
theorem Lp (oa ob:Option Rat):sIf ∉ prW oa ob:=by
 have h1:sIf≠sAsk:=J0
 have h2:sIf≠sBid:=J0
 have h3:=λr=>(Gy r).symm
 cases oa <;> cases ob <;> simp[prW,h1,h2,h3]
theorem Uv {n:Nat}:∀ {es:List Nat} {lo:Nat},lo<=n->es.Pairwise (·<·)->(∀ e∈es,lo<=e/\e<n)->es.length+lo<=n
 | [],lo,h,_,_=>by simpa using h
 | e::t,lo,_,h,hl=>by
  have a:=hl e YL;have:=Uv (es:=t) (lo:=e+1) a.2 h.tail λx hx=>⟨List.rel_of_pairwise_cons h hx,(hl x (YK _ hx)).2⟩;rw[YS];omega
theorem Wi {n:Nat}{es:List Nat}(h:es.Pairwise (·<·))(hl:∀ e∈es,e<n):es.length<=n:=by
 have:=Uv (lo:=0) (JH n) h λe he=>⟨JH _,hl e he⟩;omega
section
variable {K:TL}
def EvT (K:TL)(H:Hp)(v:V):Option (List Nat)->Prop
 | none=>v=.non
 | some es=>∃ c,v=.ref c/\SqT K H c (natV es)
inductive OffAt (K:TL) (H:Hp) (v:V) (rs:TR) (oa ob:Option Rat) (ev:Option (List Nat)):Prop
 | mk (c r:Addr) (va vb ve:V) (e:v=.ref c) (h:SqT K H c [.ref r,va,vb,ve]) (hr:RowAt K H r rs) (ha:PrAt K H va oa) (hb:PrAt K H vb ob) (he:EvT K H ve ev)
theorem Ko {a b:Nat}(h:a<=b)(hb:b<=xs.length):cutV xs (some (a:Int)) (some (b:Int))=(xs.drop a).take (b - a):=by
 unfold cutV;rw[HT.sIx_nat,HT.sIx_nat,GE hb,GE (show a<=xs.length by omega)]
theorem G1 {a:Nat}(h:xs.length<=a):cutV xs (some (a:Int)) none=[]:=by
 unfold cutV;rw[HT.sIx_nat,Nat.min_eq_right h,List.drop_length];simp
end
theorem PrAt.same {K:TL}{H H':Hp}{v:V}{o:Option Rat}(h:PrAt K H v o)(S:Same H H'):PrAt K H' v o:=by
 cases o with
 | none=>exact h
 | some r =>
  obtain⟨c,e,q⟩:=h;exact⟨c,e,Zw S q⟩
theorem Lo {oa ob:Option Rat}{z:PySem.Str}(h:z∈prW oa ob):z=sAsk \/ z=sBid \/ ∃ r,(oa=some r \/ ob=some r)/\z=shR r:=by
 cases oa with
 | none =>
  cases ob with
  | none=>cases h
  | some b =>
   have:z=sBid \/ z=shR b:=by simpa [prW] using h
   rcases this with h | h
   ·exact .inr (.inl h)
   exact .inr (.inr ⟨b,.inr rfl,h⟩)
 | some a =>
  cases ob with
  | none =>
   have:z=sAsk \/ z=shR a:=by simpa [prW] using h
   rcases this with h | h
   ·exact .inl h
   exact .inr (.inr ⟨a,.inl rfl,h⟩)
  | some b =>
   have:z=sAsk \/ z=shR a \/ z=sBid \/ z=shR b:=by simpa [prW] using h
   rcases this with h | h | h | h
   ·exact .inl h
   ·exact .inr (.inr ⟨a,.inl rfl,h⟩)
   ·exact .inr (.inl h)
   exact .inr (.inr ⟨b,.inr rfl,h⟩)
theorem Kk {ns:List PySem.Str}{ev:Option (List Nat)}{z:PySem.Str}(hl:∀ es,ev=some es->∀ e∈es,e<ns.length)(h:z∈evW ns ev):z=sIf \/ z∈ns:=by
 cases ev with
 | none=>cases h
 | some es =>
  rcases YJ.mp h with h | h
  ·exact .inl h
  obtain⟨i,hi,e⟩:=JE.mp h;have:=hl es rfl i hi;exact .inr (by rw[<-e];simp[List.getD,this])
theorem X0 {ns:List PySem.Str}{rs:TR}{oa ob:Option Rat}{ev:Option (List Nat)}(ok:NamesOk ns)(ot:OffT ns.length rs oa ob ev):∀ z∈offW ns rs oa ob ev,(∀ c∈z.cps.toList,45<=c)/\z.length<=63:=by
 intro z hz;have sh:∀ r,Fit30 r->(∀ c∈(shR r).cps.toList,45<=c)/\(shR r).length<=63:=λr h=>⟨λc hc=>(R9 hc).1,Wg (k:=30) J0 h.b1 h.b2⟩;rcases YJ.mp hz with rfl | hz
 ·exact⟨J0,J0⟩
 rcases YY.mp hz with hz | hz
 ·obtain⟨r,hr,rfl⟩:=JE.mp hz;exact sh r (ot.fr r hr)
 rcases YY.mp hz with hz | hz
 ·rcases Lo hz with rfl | rfl | ⟨r,h,rfl⟩
  ·exact⟨J0,J0⟩
  ·exact⟨J0,J0⟩
  rcases h with h | h
  ·exact sh r (ot.fa r h)
  exact sh r (ot.fb r h)
 rcases Kk (λes e=>(ot.ev es e).2.2) hz with rfl | hz
 ·exact⟨J0,J0⟩
 have:=ok.ok z hz;exact⟨λc hc=>by have:=this.az c hc;omega,by have:=this.l2;omega⟩
theorem Xd {ns:List PySem.Str}{rs:TR}{oa ob:Option Rat}{ev:Option (List Nat)}(ok:NamesOk ns)(ot:OffT ns.length rs oa ob ev):(offW ns rs oa ob ev).length<=40:=by
 have h1:=ok.l2;have h2:=ot.len;have h3:=N0 oa ob;have h4:=Wl oa ob;have h5:(evW ns ev).length<=13:=by
  cases ev with
  | none=>exact JH _
  | some es =>
   have:=Wi (ot.ev es rfl).2.1 (ot.ev es rfl).2.2;simp[evW];omega
 unfold offW;rw[YS,XF,XF,YC];omega
section
variable {P:TM}{w:World}{K:TL}{mg:Tn}{base:Heap}
inductive spReadOffer (K:TL) (vs:TQ) (H:Hp) (Q:VK) (_z3:XK):Prop
 | mk (a:Addr) (ns:List PySem.Str) (rs:TR) (oa ob:Option Rat) (ev:Option (List Nat)) (zz0:vs=[.ref a,.str (Str.join ⟨#[32]⟩ (offW ns rs oa ob ev))]) (zz1:SqL K H a (ns.map V.str)) (zz2:NamesOk ns) (zz3:OffT ns.length rs oa ob ev) (zz4:∀ c H',Same H H'->OffAt K H' (.ref c) rs oa ob ev->Q (.ref c) H')
theorem Rw (D:Def K mg "read_offer" fN ["names","row"])(T:BltT mg)(eJ:Has P w K mg base 5 "read_row" UA (spReadRow K))(eO:Has P w K mg base 6 "read_prices" UA (spReadPrices K) true)(fA:Has P w K mg base 5 "event_of" UB (spEventOf K) true):Has P w K mg base 7 "read_offer" ["names","row"] (spReadOffer K) true:=by
 refine D.h9 (N:=["names","row","words","told","rest","place","worths","prices","event"]) fsc λH Q hr h nd=>?_;obtain⟨a,ns,rs,oa,ob,ev,rfl,hN,ok,ot,q⟩:=h;have hH:=hr.hd rfl;refine⟨_,(Z3 (Z7 (i:=2) nd rfl (Or.inl rfl) (Y9 XX z4 z9 Vz (pv 1) (Z0 Zj Z2)))
  (Z3 (Z7 (i:=3) nd rfl (Or.inl rfl) (Yf W0 (pv 2) (Y0 Z4) (Y0 (Zc Yn Z4 (Z9 Zg rfl T.len JR (Z0 (pv 0) Z2))))))
  (Z3 (Z7 (i:=4) nd rfl (Or.inl rfl) (Yf W0 (pv 2) (Y0 (Zc Yn Z4 (Z9 Zg rfl T.len JR (Z0 (pv 0) Z2)))) Yd))
  (Z3 (Zx (Z7 (i:=5) nd rfl (Or.inl rfl) (Yu (Z8 Uy Zj (pv 4) rfl) (Y9 XI jh ji (T3 (K:=K)) (pv 4) (Z0 Zj Z2)) (Z9 Zg rfl T.len JR (Z0 (pv 4) Z2)))))
  (Z3 (Z7 (i:=6) nd rfl (Or.inl rfl) (Zf eJ hr (Z0 (pv 3) Z2)))
  (Z3 (Z7 (i:=7) nd rfl (Or.inl rfl) (Xl eO (hr.mono J0) rfl (Z0 (Yf W0 (pv 4) Yd (Y0 (pv 5))) Z2)))
  (Z3 (Z7 (i:=8) nd rfl (Or.inl rfl) (Xl fA (hr.mono J0) rfl (Z0 (pv 0) (Z0 (Yf W0 (pv 4) (Y0 (Zc Yn (pv 5) Z4)) Yd) Z2))))
  (Z3 (Zr (PW.pt (Y4 (Z8 W5 (Zd Y1 (pv 2) Z4 (λ_ _=>rfl)) Zj (Ze _)) (Y4 (Z8 Vu (Z9 Zg rfl T.len JR (Z0 (pv 3) Z2)) (Z9 Zg rfl T.len JR (Z0 (pv 0) Z2)) (Ze _)) (Y4 (Z8 Xn (pv 6) Zl (Ze _)) (Ym (Z8 Xn (pv 7) Zl (Ze _)))))))
   (Z6 (Za Zl))
   Zh)
  (Z3 (Zr (Z8 Tx Zj (pv 4) rfl)
   (Z6 (Za (Xu (Z0 (pv 6) (Z0 (Zd Zs (pv 7) Z4 (λ_ _=>rfl)) (Z0 (Zd Zs (pv 7) Z4 (λ_ _=>rfl)) (Z0 Zl Z2)))))))
   Zh)
  (Z6 (Za (Yu (Lm (pv 8) (λ_=>rfl)) (Xu (Z0 (pv 6) (Z0 (Zd Zs (pv 7) Z4 (λ_ _=>rfl)) (Z0 (Zd Zs (pv 7) Z4 (λ_ _=>rfl)) (Z0 (pv 8) Z2))))) Zl)))))))))))),?_⟩
 have ow:=X0 ok ot;have ol:=Xd ok ot;have lj:=Y5 (c:=32) (m:=63) (ws:=offW ns rs oa ob ev) λz hz=>(ow z hz).2;have lj2:(offW ns rs oa ob ev).length*(63+1)<=40*64:=JB _ ol;refine⟨_,rfl,rfl,?_⟩;refine Tk (ws:=offW ns rs oa ob ev) (by simp[offW]) (λz hz q=>by have:=(ow z hz).1 32 q;omega) U λl f1=>?_;have S1:Same H (upd H l (.lst ((offW ns rs oa ob ev).map V.str))):=Same.new f1;have e1:upd H l (.lst ((offW ns rs oa ob ev).map V.str)) l=some (.lst ((offW ns rs oa ob ev).map V.str)):=Z5;generalize upd H l (.lst ((offW ns rs oa ob ev).map V.str))=H1 at S1 e1;have hN1:=Zz S1 hN;refine⟨_,rfl,_,rfl,_,rfl,a,_,rfl,.inl hN1,_,_,rfl,rfl,_,rfl,l,_,rfl,SqL.of e1,λp2 f2=>?_⟩;have nl:((ns.map V.str).length:Int)=(ns.length:Int):=by rw[YC]
 have ow2:(offW ns rs oa ob ev).map V.str=.str sOffer::(rs.map (λr=>V.str (shR r))++(prW oa ob++evW ns ev).map V.str):=by
  simp[offW,Function.comp]
 have lr:=ot.len;have e2:cutV ((offW ns rs oa ob ev).map V.str) (some 1) (some (1+((ns.map V.str).length:Int)))=rs.map λr=>V.str (shR r):=by
  rw[nl,show (1:Int)+(ns.length:Int)=((1+ns.length:Nat):Int) by omega,show (1:Int)=((1:Nat):Int) from rfl,Ko U (by rw[ow2];simp;omega),ow2,jZ,jU,ju (by rw[YC];omega)]
 have e3:cutV ((offW ns rs oa ob ev).map V.str) (some (1+((ns.map V.str).length:Int))) none=(prW oa ob++evW ns ev).map V.str:=by
  rw[nl,show (1:Int)+(ns.length:Int)=((1+ns.length:Nat):Int) by omega,So (by rw[ow2];simp;omega),ow2,Nat.add_comm,List.drop_succ_cons,jv (by rw[YC];omega)]
 rw[e2];have S2:Same H1 (upd H1 p2 (.lst (rs.map λr=>V.str (shR r)))):=Same.new f2;refine⟨_,rfl,_,rfl,a,_,rfl,.inl (Zz S2 hN1),_,_,rfl,rfl,_,rfl,Yr ⟨l,_,rfl,SqL.of (S2 _ _ e1),λp3 f3=>?_⟩⟩;rw[e3];have S3:Same H1 (upd (upd H1 p2 (.lst (rs.map λr=>V.str (shR r)))) p3 (.lst ((prW oa ob++evW ns ev).map V.str))):=S2.trans (Same.new f3);have g2:upd (upd H1 p2 (.lst (rs.map λr=>V.str (shR r)))) p3 (.lst ((prW oa ob++evW ns ev).map V.str)) p2=some (.lst (rs.map λr=>V.str (shR r))):=Same.new f3 _ _ Z5;have g3:upd (upd H1 p2 (.lst (rs.map λr=>V.str (shR r)))) p3 (.lst ((prW oa ob++evW ns ev).map V.str)) p3=some (.lst ((prW oa ob++evW ns ev).map V.str)):=Z5;generalize upd (upd H1 p2 (.lst (rs.map λr=>V.str (shR r)))) p3 (.lst ((prW oa ob++evW ns ev).map V.str))=H3 at S3 g2 g3;have g1:=S3 _ _ e1;have hN3:=Zz S3 hN1;have lp:(prW oa ob++evW ns ev).length<=40:=by
  have:(prW oa ob++evW ns ev).length<=(offW ns rs oa ob ev).length:=by simp[offW];omega
  omega
 have hin:decide (sIf∈prW oa ob++evW ns ev)=ev.isSome:=by
  cases ev with
  | none=>simpa [evW] using Lp oa ob
  | some es=>simp[evW]
 refine⟨λσ' H'=>σ'=[some (.ref a),some (.str (Str.join ⟨#[32]⟩ (offW ns rs oa ob ev))),some (.ref l),some (.ref p2),some (.ref p3),some (.int ((prW oa ob).length:Int)),none,none,none]/\H'=H3,?_,?_⟩
 ·refine⟨_,rfl,p3,_,rfl,.inl (SqL.of g3),rfl,Xg _,_,rfl,?_⟩;rw[U5,hin]
  cases ev with
  | none =>
   refine Y2 ⟨_,rfl,p3,_,rfl,.inl (SqL.of g3),?_⟩;rw[YC,show prW oa ob++evW ns none=prW oa ob from zu _];exact⟨rfl,rfl⟩
  | some es =>
   refine Wb ⟨_,rfl,.inl ⟨rfl,_,SqL.of g3⟩,p3,_,_,(prW oa ob).length,rfl,rfl,SqL.of g3,rfl,Xg _,⟨.str sIf,?_,by simp[eqV]⟩,λm y hm hy=>?_,by rw[YC];omega,⟨rfl,rfl⟩⟩
   ·rw[YI,GY (YE _),Nat.sub_self];rfl
   rw[YI,qh hm,YZ hm] at hy
   cases hy;have:=Lp oa ob;have n:(prW oa ob)[m]≠sIf:=λz=>this (z ▸ List.getElem_mem hm)
   simpa [eqV] using n
 rintro _ Hx ⟨rfl,hx⟩;rw[hx];refine⟨_,rfl,p2,rs,rfl,SqL.of g2,ot.fr,by have:=ok.l2;omega,λr H4 S4 ra=>?_⟩;have g3':=S4 _ _ g3;have c1:cutV ((prW oa ob++evW ns ev).map V.str) none (some ((prW oa ob).length:Int))=(prW oa ob).map V.str:=by
  rw[Fz J1,XJ,ju (by rw[YC])]
 have c2:cutV ((prW oa ob++evW ns ev).map V.str) (some (((prW oa ob).length:Int)+1)) none=(ev.getD []).map λi=>V.str (ns.getD i ""):=by
  rw[show ((prW oa ob).length:Int)+1=(((prW oa ob).length+1:Nat):Int) by omega]
  cases ev with
  | none=>rw[G1 (by simp[evW])];rfl
  | some es =>
   rw[So (by simp[evW]),XJ,<-List.drop_drop,jv (by rw[YC])];simp[evW,Function.comp]
 refine⟨_,rfl,Yr ⟨_,rfl,_,rfl,p3,_,rfl,SqL.of g3',λp5 f5=>?_⟩⟩;rw[c1];refine⟨p5,oa,ob,rfl,SqL.of Z5,ot.fa,ot.fb,λc H6 va vb S6 e6 pa pb=>?_⟩;have S5:Same H3 H6:=S4.trans ((Same.new f5).trans S6);refine⟨_,rfl,_,rfl,_,rfl,_,_,rfl,rfl,_,rfl,Yr ⟨p3,_,rfl,SqL.of (S5 _ _ g3),λp7 f7=>?_⟩⟩;rw[c2];have S7:Same H6 (upd H6 p7 (.lst ((ev.getD []).map λi=>V.str (ns.getD i "")))):=Same.new f7;have hes:(ev.getD []).Pairwise (·<·)/\∀ e∈ev.getD [],e<ns.length:=by
  cases ev with
  | none=>exact⟨.nil,λe he=>by cases he⟩
  | some es=>exact (ot.ev es rfl).2
 refine⟨a,p7,ns,ev.getD [],rfl,Zz (S5.trans S7) hN3,SqL.of Z5,ok.nd,ok.l2,hes.1,hes.2,by have:=Wi hes.1 hes.2;have:=ok.l2;omega,λc8 H8 S8 e8=>?_⟩;have S9:Same H6 H8:=S7.trans S8;have S10:Same H3 H8:=S5.trans S9;refine⟨_,rfl,l,_,0,.str sOffer,rfl,rfl,SqL.of (S10 _ _ g1),by rw[ow2];exact Ud,rfl,_,rfl,Yp (λe=>absurd e J1) λ_=>?_⟩;refine⟨_,rfl,p2,_,rfl,.inl (SqL.of (S10 _ _ g2)),_,rfl,a,_,rfl,.inl (Zz S10 hN3),_,_,rfl,rfl,_,rfl,?_⟩;rw[YC,YC,XL U];refine Y2 ⟨_,rfl,rfl,_,rfl,Y2 ⟨_,rfl,rfl,_,rfl,Y2 ?_⟩⟩;have e6':=S9 _ _ e6;have pa':=pa.same S9;have pb':=pb.same S9;have ra':=ra.same ((Same.new f5).trans S6 |>.trans S9);have ST:Same H H8:=S1.trans (S3.trans S10);refine⟨_,rfl,p3,_,rfl,.inl (SqL.of (S10 _ _ g3)),rfl,Xg _,_,rfl,?_⟩;rw[U5,hin]
 cases ev with
 | none =>
  refine Wb ?_;refine⟨_,rfl,_,rfl,c,_,_,va,rfl,rfl,SqT.of e6',rfl,_,rfl,c,_,_,vb,rfl,rfl,SqT.of e6',rfl,by show 4<=sizeLine;decide,λc9 f9=>?_⟩;have Sn:=Same.new (o:=.tup [.ref r,va,vb,.non]) f9;exact q c9 _ (ST.trans Sn) ⟨c9,r,va,vb,.non,rfl,SqT.of Z5,ra'.same Sn,pa'.same Sn,pb'.same Sn,rfl⟩
 | some es =>
  refine Y2 ?_;have hne:=(ot.ev es rfl).1;refine⟨_,rfl,true,.inr (.inl ⟨_,SqT.of e8,?_⟩),Wb ?_⟩
  ·cases es with
   | nil=>exact absurd rfl hne
   | cons x t=>rfl
  refine⟨_,rfl,_,rfl,c,_,_,va,rfl,rfl,SqT.of e6',rfl,_,rfl,c,_,_,vb,rfl,rfl,SqT.of e6',rfl,_,rfl,by show 4<=sizeLine;decide,λc9 f9=>?_⟩;have Sn:=Same.new (o:=.tup [.ref r,va,vb,.ref c8]) f9;exact q c9 _ (ST.trans Sn) ⟨c9,r,va,vb,.ref c8,rfl,SqT.of Z5,ra'.same Sn,pa'.same Sn,pb'.same Sn,c8,rfl,SqT.of (Sn _ _ e8)⟩
end
theorem Mo {a:Addr}{D:Ends}{σ:L2.St}(Pv:Nat->L2.St->Hp->Prop)(h0:Pv 0 σ H)(hl:∀ i σ H,i<=xs.length->Pv i σ H->SqL K H a xs)
  (hs:∀ i x σ H p,xs[i]?=some x->Pv i σ H->H p=none->g (.ref p) σ (upd H p (.tup [.int ((i+1:Nat):Int),x])) λσ2 H2=>tb { D with nx:=Pv (i+1),ct:=Pv (i+1),bk:=D.nx } σ2 H2) (hd:∀ σ H,Pv xs.length σ H->D.nx σ H) :
  ∃ W:Nat->Nat->L2.St->Hp->Prop,(∃ m,W 0 m σ H)/\∀ i m σ H,W i m σ H →
   ((Ite1 (SqL K) a).stop i H/\D.nx σ H) \/ ((Ite1 (SqL K) a).go i H/\∃ N:L2.St->Hp->Prop,(∀ σ' H',N σ' H'->∃ m',m'<m/\W (i+1) m' σ' H')/\∀ x H',(Ite1 (SqL K) a).yld i H x H'->g x σ H' λσ2 H2=>tb { D with nx:=N,ct:=N,bk:=D.nx } σ2 H2):=by
 refine⟨λi m σ H=>m=xs.length - i/\i<=xs.length/\Pv i σ H,⟨xs.length,J1,JH _,h0⟩,?_⟩;rintro i m σ H ⟨rfl,hi,p⟩;have q:=hl i σ H hi p;by_cases hlt:i<xs.length
 ·refine .inr ⟨⟨xs,q,hlt⟩,Pv (i+1),λσ' H' p'=>⟨xs.length - (i+1),U,rfl,hlt,p'⟩,λx H' y=>?_⟩;obtain⟨pp,x0,rfl,hp,rfl,fx⟩:=y;exact hs i x0 σ H pp (fx xs q) p hp
 have e:i=xs.length:=U
 subst e;exact .inl ⟨⟨xs,q,rfl⟩,hd σ H p⟩
structure Ofr where
 rs:List Rat
 oa:Option Rat
 ob:Option Rat
 ev:Option (List Nat)
abbrev Ofr.T (o:Ofr)(n:Nat):Prop:=OffT n o.rs o.oa o.ob o.ev
abbrev Ofr.At (o:Ofr)(K:TL)(H:Hp)(c:Addr):Prop:=OffAt K H (.ref c) o.rs o.oa o.ob o.ev
def Ofr.row (o:Ofr)(ns:List PySem.Str):PySem.Str:=Str.join ⟨#[32]⟩ (offW ns o.rs o.oa o.ob o.ev)
theorem PrAt.ext {K:TL}{H H':Hp}{v:V}{o:Option Rat}(h:PrAt K H v o)(S:Ext H H'):PrAt K H' v o:=by
 cases o with
 | none=>exact h
 | some r =>
  obtain⟨c,e,q⟩:=h;exact⟨c,e,S.sq q⟩
theorem OffAt.ext {K:TL}{H H':Hp}{v:V}{rs:TR}{oa ob:Option Rat}{ev:Option (List Nat)}(h:OffAt K H v rs oa ob ev)(S:Ext H H'):OffAt K H' v rs oa ob ev:=by
 obtain⟨c,r,va,vb,ve,e,h,hr,ha,hb,he⟩:=h;refine⟨c,r,va,vb,ve,e,S.sq h,hr.ext S,ha.ext S,hb.ext S,?_⟩
 cases ev with
 | none=>exact he
 | some es =>
  obtain⟨c,e,q⟩:=he;exact⟨c,e,S.sq q⟩
section
variable {P:TM}{w:World}{K:TL}{mg:Tn}{base:Heap}
inductive BookT (K:TL) (H H':Hp) (c:Addr) (ns:List PySem.Str) (os:List Ofr):Prop
 | mk (n l:Addr) (bs:TH) (h:H' c=some (.tup [.ref n,.ref l])) (fn:H n=none) (fl:H l=none) (nl:n≠l) (hn:H' n=some (.lst (ns.map V.str))) (hl:H' l=some (.lst (bs.map V.ref))) (ho:Paired (λb o=>Ofr.At o K H' b) bs os)
inductive spReadRows (K:TL) (vs:TQ) (H:Hp) (Q:VK) (_z3:XK):Prop
 | mk (p:Addr) (ns:List PySem.Str) (os:List Ofr) (zz0:vs=[.ref p]) (zz1:SqL K H p (.str (rowN ns)::os.map λo=>.str (o.row ns))) (zz2:NamesOk ns) (zz3:∀ o∈os,Ofr.T o ns.length) (zz4:os.length<=12) (zz5:∀ c H',Same H H'->BookT K H H' c ns os->Q (.ref c) H')
theorem P6 (D:Def K mg "read_rows" fQ ["rows"])(T:BltT mg)(eT:Has P w K mg base 5 "read_names" ["row"] spReadNames true)(eS:Has P w K mg base 7 "read_offer" ["names","row"] (spReadOffer K) true)(m_MOST_OFFERS:∃ t,mg "MOST_OFFERS"=some (.int 12 t)):Has P w K mg base 8 "read_rows" ["rows"] (spReadRows K) true:=by
 refine D.h9 (N:=["rows","names","offers","at","row","offer"]) fsc λH Q hr h nd=>?_;obtain⟨p,ns,os,rfl,hS,ok,hT,lo,q⟩:=h;obtain⟨_,m_MOST_OFFERS⟩:=m_MOST_OFFERS;have hH:=hr.hd rfl;refine⟨_,(Z3 (Z7 (i:=1) nd rfl (Or.inl rfl) (Xl eT (hr.mono J0) rfl (Z0 (Zd Y1 (pv 0) Z4 (λ_ _=>rfl)) Z2)))
  (Z3 (Zr (Z8 Xn (pv 1) Zl (Ze _))
   (Z6 Wk)
   Zh)
  (Z3 (Z7 (i:=2) nd rfl (Or.inl rfl) (Yk Z2))
  (Z3 (W7 GF rfl (Lu rfl T.enumerate (Z0 (Yf W0 (pv 0) (Y0 Z4) Yd) Z2)) (F9 (n:=2) rfl (Rq (Zq (i:=3) nd rfl (Or.inl rfl)) (Rq (Zq (i:=4) nd rfl (Or.inl rfl)) J9)))
   (Z3 (Z7 (i:=5) nd rfl (Or.inl rfl) (Yu (Z8 Vv (pv 3) (Y8 (v:=.int 12) rfl m_MOST_OFFERS ⟨_,rfl⟩) (Ze _)) (Xl eS (hr.mono J0) rfl (Z0 (pv 1) (Z0 (pv 4) Z2))) Zl))
   (Z3 (Zr (Z8 Xn (pv 5) Zl (Ze _))
    (Z6 Wk)
    Zh)
   (Z6 (Yt (Y9 XI JS JT Ys (pv 2) (Z0 (pv 5) Z2)))))))
  (Z6 (Za (Xu (Z0 (pv 1) (Z0 (pv 2) Z2))))))))),?_⟩
 refine⟨_,rfl,p,_,0,.str (rowN ns),rfl,rfl,hS,by exact Ud,ns,rfl,ok,λn H1 S1 fn e1=>?_⟩;refine⟨_,rfl,rfl,_,rfl,Y2 ?_⟩;refine⟨by show 0<=sizeLine;decide,λl fl=>?_⟩;have hS1:=Zz (S1.trans (Same.new (o:=.lst []) fl)) hS;have c1:cutV (.str (rowN ns)::os.map λo=>V.str (o.row ns)) (some 1) none=os.map λo=>V.str (o.row ns):=by
  rw[show (1:Int)=((1:Nat):Int) from rfl,So J1];rfl
 refine⟨_,rfl,_,rfl,Yr ⟨p,_,rfl,hS1,λt ft=>?_⟩⟩;rw[c1];refine⟨t,rfl,⟨_,SqL.of Z5⟩,?_⟩;have tl:t≠l:=λz=>by rw[z,Z5] at ft;cases ft
 refine Mo (xs:=os.map λo=>V.str (o.row ns)) (λi σ' H'=>∃ (bs:TH) (v3 v4 v5:Option V),σ'=[some (.ref p),some (.ref n),some (.ref l),v3,v4,v5]/\Same H1 H'/\H' l=some (.lst (bs.map V.ref))/\H' t=some (.lst (os.map λo=>V.str (o.row ns)))/\Paired (λb o=>Ofr.At o K H' b) bs (os.take i)) ?_ ?_ ?_ ?_
 ·exact⟨[],_,_,_,rfl,(Same.new fl).trans (Same.new ft),Same.new ft _ _ Z5,Z5,.nil⟩
 ·rintro i σ' H' _ ⟨_,_,_,_,_,_,_,e,_⟩;exact SqL.of e
 ·rintro i x _ H4 p' ex ⟨bs,v3,v4,v5,rfl,S4,el,et,pr⟩ fp;rw[YI] at ex
  cases eo:os[i]? with
  | none=>rw[eo] at ex;cases ex
  | some o =>
   rw[eo] at ex
   cases ex;have hi:=(XG.mp eo).1;have S5:Same H4 (upd H4 p' (.tup [.int ((i+1:Nat):Int),.str (o.row ns)])):=Same.new fp;refine⟨_,_,rfl,SqT.of Z5,rfl,_,_,rfl,_,_,rfl,rfl,?_⟩;refine⟨_,rfl,_,_,rfl,rfl,_,rfl,?_⟩;rw[XC (show ((i+1:Nat):Int)<=12 by omega)];refine Wb ?_;refine⟨_,rfl,_,rfl,n,ns,o.rs,o.oa,o.ob,o.ev,rfl,SqL.of ((S4.trans S5) _ _ e1),ok,hT o (YO eo),λc H6 S6 oc=>?_⟩;refine⟨_,rfl,rfl,_,rfl,Y2 ?_⟩;have S56:Same H4 H6:=S5.trans S6;have el6:=S56 _ _ el;have lb:=JK pr;have l12:(os.take i).length<=12:=by rw[XS];omega
   refine⟨_,rfl,.inl ⟨rfl,_,SqL.of el6⟩,_,rfl,l,_,_,rfl,rfl,el6,by rw[YC,YQ];omega,?_⟩;have E7:Ext H6 (upd H6 l (.lst (bs.map V.ref++[V.ref c]))):=Ext.upd el6;refine⟨bs++[c],_,_,_,rfl,Zv (S4.trans S56) fl,?_,?_,?_⟩
   ·rw[Z5,XJ];rfl
   ·rw[Zi tl];exact S56 _ _ et
   rw[Y3 eo];exact Paired.appP (Paired.mapP pr λb o h=>h.ext ((Ext.same S56).trans E7)) (.cons (OffAt.ext oc E7) .nil)
 rintro _ H4 ⟨bs,v3,v4,v5,rfl,S4,el,et,pr⟩;rw[YC,XV] at pr;refine⟨_,rfl,_,rfl,by show 2<=sizeLine;decide,λc fc=>?_⟩;have S5:=Same.new (o:=.tup [.ref n,.ref l]) fc;have fl0:H l=none:=by
  cases e:H l with
  | none=>rfl
  | some o=>exact absurd (S1 _ _ e) (by rw[fl];simp)
 refine q c _ (S1.trans (S4.trans S5)) ⟨n,l,bs,Z5,fn,fl0,λz=>?_,S5 _ _ (S4 _ _ e1),S5 _ _ el,Paired.mapP pr λb o h=>h.ext (Ext.same S5)⟩;rw[z] at e1;rw[e1] at fl
 cases fl
def bookT (ns:List PySem.Str)(os:List Ofr):PySem.Str:=Str.join ⟨#[10]⟩ (rowN ns::os.map λo=>o.row ns)
inductive spRead (K:TL) (vs:TQ) (H:Hp) (Q:VK) (_z3:XK):Prop
 | mk (ns:List PySem.Str) (os:List Ofr) (zz0:vs=[.str (bookT ns os)]) (zz2:NamesOk ns) (zz3:∀ o∈os,Ofr.T o ns.length) (zz4:os.length<=12) (zz5:∀ c H',Same H H'->BookT K H H' c ns os->Q (.ref c) H')
theorem V4 {c d:Nat}(hcd:c≠d):∀ {ws:List PySem.Str},(∀ w∈ws,c ∉ w.cps.toList)->c ∉ (Str.join ⟨#[d]⟩ ws).cps.toList
 | [],_=>λq=>by cases q
 | [w],h=>h w YL
 | w::v::ws,h=>by
  rw[Xf,Zp,Zp];intro q;rcases YY.mp q with q | q
  ·rcases YY.mp q with q | q
   ·exact h w YL q
   exact hcd (by simpa using q)
  exact V4 hcd (λx hx=>h x (YK _ hx)) q
theorem Fk (D:Def K mg "read" gG Ui)(eU:Has P w K mg base 8 "read_rows" ["rows"] (spReadRows K) true):Has P w K mg base 9 "read" Ui (spRead K) true:=by
 refine D.h9 (N:=Ui) fsc λH Q hr h nd=>?_;obtain⟨ns,os,rfl,ok,hT,lo,q⟩:=h;refine⟨_,(Z6 (Za (Xl eU (hr.mono J0) rfl (Z0 (Y9 XX z4 z9 Vz (pv 0) (Z0 Zj Z2)) Z2)))),?_⟩;refine⟨_,rfl,rfl,?_⟩;have wl:∀ z∈rowN ns::os.map (λo=>o.row ns),10 ∉ z.cps.toList/\z.length<=2560:=by
  intro z hz;rcases YJ.mp hz with rfl | hz
  ·refine⟨V4 J0 λw hw=>?_,?_⟩
   ·rcases YJ.mp hw with rfl | hw
    ·decide
    exact (ok.ok w hw).free J0
   have lj:=Y5 (c:=32) (m:=8) (ws:=Str.ofString "worlds"::ns) λz hz=>by
    rcases YJ.mp hz with rfl | hz
    ·decide
    exact (ok.ok z hz).l2
   rw[YS] at lj;have:=ok.l2;show (Str.join ⟨#[32]⟩ (Str.ofString "worlds"::ns)).length<=_;omega
  obtain⟨o,ho,rfl⟩:=JE.mp hz;have ot:=hT o ho;have ow:=X0 ok ot;have ol:=Xd ok ot;have lj:=Y5 (c:=32) (m:=63) (ws:=offW ns o.rs o.oa o.ob o.ev) λz hz=>(ow z hz).2;have lj2:(offW ns o.rs o.oa o.ob o.ev).length*(63+1)<=40*64:=JB _ ol;refine⟨V4 J0 λw hw q=>?_,?_⟩
  ·have:=(ow w hw).1 10 q;omega
  show (Str.join ⟨#[32]⟩ (offW ns o.rs o.oa o.ob o.ev)).length<=_;omega
 have lj:=Y5 (c:=10) (m:=2560) (ws:=rowN ns::os.map λo=>o.row ns) λz hz=>(wl z hz).2;rw[YS,YC] at lj;have lj2:(os.length+1)*(2560+1)<=13*2561:=JB _ U;refine Tk (ws:=rowN ns::os.map λo=>o.row ns) J1 (λz hz=>(wl z hz).1) U λl f1=>?_;have Sn:=Same.new (o:=.lst ((rowN ns::os.map λo=>o.row ns).map V.str)) f1;refine⟨l,ns,os,rfl,SqL.of (by rw[Z5];simp[Function.comp]),ok,hT,lo,λc H' S b=>?_⟩;obtain⟨n,l',bs,h,fn,fl,nl,hn,hl,ho⟩:=b;have back:∀ {x:Addr},upd H l (.lst ((rowN ns::os.map λo=>o.row ns).map V.str)) x=none->H x=none:=λ{x} h=>by
  cases e:H x with
  | none=>rfl
  | some o=>exact absurd (Sn _ _ e) (by rw[h];simp)
 exact q c H' (Sn.trans S) ⟨n,l',bs,h,back fn,back fl,nl,hn,hl,ho⟩
end
def onW (z:PySem.Str):Option Rat->List PySem.Str
 | none=>[]
 | some r=>[z,shR r]
theorem Qc {c m:Nat}:∀ {ws:List PySem.Str} {k:Nat},(∀ w∈ws,w.length<=m)->ws.foldl (λacc w=>acc+w.length+(⟨#[c]⟩:PySem.Str).length) k<=k+ws.length*(m+1)
 | [],k,_=>J1
 | w::ws,k,h=>by
  have a:=h w YL;have b:=Qc (c:=c) (ws:=ws) (k:=k+w.length+1) λx hx=>h x (YK _ hx);rw[List.foldl_cons,YS,jV];show ws.foldl _ (k+w.length+1)<=_;omega
theorem Sg {m:Nat}{ws:List PySem.Str}(h:∀ w∈ws,w.length<=m)(hl:ws.length*(m+1)<=1000000):JoinOk ⟨#[c]⟩ ws=true:=by
 have:=Qc (c:=c) (k:=0) h;unfold JoinOk PySem.Builtin.Str.tooLong;rw[jX]
 ·simp;have e:sizeLine=16777216:=YQ;omega
 rfl
theorem Wq (y:PySem.Str)(ws:List PySem.Str):Txt.join y ws=Str.join y ws:=by
 unfold Txt.join;rw[StrLaws.glued_eq_join]
theorem W8 (oa ob:Option Rat):prW oa ob=onW sAsk oa++onW sBid ob:=by cases oa <;> cases ob <;> rfl
theorem Vl {H H1:Hp}{d:Addr}(S:Same H H1)(hd:H1 d=none):H d=none:=by
 cases e:H d with
 | none=>rfl
 | some o=>exact absurd (S _ _ e) (by rw[hd];simp)
section
variable {P:TM}{w:World}{K:TL}{mg:Tn}{base:Heap}
inductive spShowOffer (K:TL) (vs:TQ) (H:Hp) (Q:VK) (_z3:XK):Prop
 | mk (a c:Addr) (ns:List PySem.Str) (o:Ofr) (zz0:vs=[.ref a,.ref c]) (zz1:SqL K H a (ns.map V.str)) (zz2:Ofr.At o K H c) (zz3:NamesOk ns) (zz4:Ofr.T o ns.length) (zz5:∀ H',Same H H'->Q (.str (o.row ns)) H')
theorem Ru (D:Def K mg "show_offer" fL ["names","offer"])(T:BltT mg)(eB:Has P w K mg base 1 "show_ratio" ["one"] (spShowR K))(m_ROW:∃ t,mg "ROW"=some (.int 0 t))(m_ASK:∃ t,mg "ASK"=some (.int 1 t))(m_BID:∃ t,mg "BID"=some (.int 2 t))(m_EVENT:∃ t,mg "EVENT"=some (.int 3 t)):Has P w K mg base 2 "show_offer" ["names","offer"] (spShowOffer K):=by
 refine D.h9 (N:=["names","offer","words"]) fsc λH Q hr h nd=>?_;obtain⟨a,c,ns,o,rfl,hN,ho,ok,ot,q⟩:=h;obtain⟨_,m_ROW⟩:=m_ROW;obtain⟨_,m_ASK⟩:=m_ASK;obtain⟨_,m_BID⟩:=m_BID;obtain⟨_,m_EVENT⟩:=m_EVENT;have nd1:(["worth"]:TD).Nodup:=J2
 have nd2:(["world","names"]:List Str).Nodup:=J2
 refine⟨_,(Z3 (Z7 (i:=2) nd rfl (Or.inl rfl) (Zc Tz (Yk (Z0 Zj Z2)) (Ye (ox:=none) (N:=["worth"]) (k:=1) (fv:=[]) rfl (V1 (Zd Zs (pv 1) (Y8 (v:=.int 0) rfl m_ROW ⟨_,rfl⟩) (λ_ _=>rfl)))
  (λ_ _ _ _ _=>Zq (i:=0) nd1 rfl (Or.inl rfl)) (λ_ _ _ _ _=>Yc) (λ_ _ _ _ _=>(Zf eB hr (Z0 (pv 0) Z2))) Zt)))
  (Z3 (Zx (Zr (Z8 Xm (Zd Zs (pv 1) (Y8 (v:=.int 1) rfl m_ASK ⟨_,rfl⟩) (λ_ _=>rfl)) Zl (Ze _))
   (Z6 (Yt (Y9 XI ql qm W2 (pv 2) (Z0 (Yk (Z0 Zj (Z0 (Zf eB hr (Z0 (Zd Zs (pv 1) (Y8 (v:=.int 1) rfl m_ASK ⟨_,rfl⟩) (λ_ _=>rfl)) Z2)) Z2))) Z2))))
   Zh))
  (Z3 (Zx (Zr (Z8 Xm (Zd Zs (pv 1) (Y8 (v:=.int 2) rfl m_BID ⟨_,rfl⟩) (λ_ _=>rfl)) Zl (Ze _))
   (Z6 (Yt (Y9 XI ql qm W2 (pv 2) (Z0 (Yk (Z0 Zj (Z0 (Zf eB hr (Z0 (Zd Zs (pv 1) (Y8 (v:=.int 2) rfl m_BID ⟨_,rfl⟩) (λ_ _=>rfl)) Z2)) Z2))) Z2))))
   Zh))
  (Z3 (Zx (Zr (Z8 Xm (Zd Zs (pv 1) (Y8 (v:=.int 3) rfl m_EVENT ⟨_,rfl⟩) (λ_ _=>rfl)) Zl (Ze _))
   (Z3 (Yt (Y9 XI JS JT Ys (pv 2) (Z0 Zj Z2)))
   (Z6 (Yt (Y9 XI ql qm W2 (pv 2) (Z0 (Ye (ox:=none) (N:=["world","names"]) (k:=1) (fv:=[0]) rfl (V1 (Zd Zs (pv 1) (Y8 (v:=.int 3) rfl m_EVENT ⟨_,rfl⟩) (λ_ _=>rfl)))
  (λ_ _ _ _ _=>Zq (i:=0) nd2 rfl (Or.inl rfl)) (λ_ _ _ _ _=>Yc) (λ_ _ _ _ _=>(Zd (Gm (K:=K)) (pv 1) (pv 0) (λ_ _=>rfl))) Zt) Z2)))))
   Zh))
  (Z6 (Za (Y9 XX qf qg (Wo (K:=K)) Zj (Z0 (pv 2) Z2)))))))),?_⟩
 obtain⟨_,r,va,vb,ve,e0,hc,hr',ha,hb,he⟩:=ho
 cases e0;obtain⟨xs,sx,rx⟩:=hr';have lx:=rx.len;have lr:=ot.len;have l2:=ok.l2;refine⟨by show 1<=sizeLine;decide,λp1 f1=>?_⟩;have S1:Same H (upd H p1 (.lst [.str sOffer])):=Same.new f1;refine V6 (ys:=o.rs.map λr=>V.str (shR r)) (λG g=>⟨_,rfl,c,_,_,.ref r,rfl,rfl,Zw S1 hc,rfl,g⟩) (Zw S1 sx) U (by rw[YC];omega) (λi x y H2 G ex ey S2 g=>?_) λd H2 hd S2 e2=>?_
 ·rw[YI] at ey
  cases er:o.rs[i]? with
  | none=>rw[er] at ey;cases ey
  | some r0 =>
   rw[er] at ey
   cases ey;obtain⟨v,ev',b,rfl,sq⟩:=rx.at er;rw[ex] at ev'
   cases ev';have f0:=ot.fr r0 (YO er);have up:∀ {n:Int},n.natAbs<10 ^ 30->n.natAbs<10 ^ 70:=λh=>JW h J2;exact⟨_,rfl,b,r0,rfl,Zw (S1.trans S2) sq,up f0.b1,up f0.b2,g H2 (Same.refl _)⟩
 refine⟨p1,d,_,_,rfl,rfl,S2 _ _ Z5,e2,by rw[YC,YQ];show 1+_<=_;omega,λl f3=>?_⟩;have up:∀ {n:Int},n.natAbs<10 ^ 30->n.natAbs<10 ^ 70:=λh=>JW h J2;have fl:H l=none:=Vl (S1.trans S2) f3;have S3:Same H (upd H2 l (.lst ([V.str (Str.ofString "offer")]++o.rs.map λr=>V.str (shR r)))):=(S1.trans S2).trans (Same.new f3);have e3:upd H2 l (.lst ([V.str (Str.ofString "offer")]++o.rs.map λr=>V.str (shR r))) l=some (.lst ((sOffer::o.rs.map shR).map V.str)):=by
  rw[Z5];simp[Function.comp]
 generalize upd H2 l (.lst ([V.str (Str.ofString "offer")]++o.rs.map λr=>V.str (shR r)))=H3 at S3 e3;refine Xc ?_;refine⟨λσ' H'=>σ'=[some (.ref a),some (.ref c),some (.ref l)]/\Same H H'/\H' l=some (.lst ((sOffer::o.rs.map shR++onW sAsk o.oa).map V.str)),?_,?_⟩
 ·refine⟨_,rfl,c,_,_,va,rfl,rfl,Zw S3 hc,rfl,rfl,_,rfl,?_⟩
  cases hoa:o.oa with
  | none =>
   rw[hoa] at ha;have ha:va=.non:=ha;subst ha;refine Yp (λe=>absurd e J1) λ_=>⟨rfl,S3,?_⟩;rw[e3];simp[onW]
  | some r0 =>
   rw[hoa] at ha;obtain⟨b,rfl,sq⟩:=ha;have f0:=ot.fa r0 hoa;refine Yp (λ_=>?_) λe=>absurd e J1;refine⟨_,rfl,.inl ⟨rfl,_,SqL.of e3⟩,_,rfl,c,_,_,.ref b,rfl,rfl,Zw S3 hc,rfl,b,r0,rfl,Zw S3 sq,up f0.b1,up f0.b2,by show 2<=sizeLine;decide,λp5 f5=>?_⟩;refine⟨l,p5,_,_,rfl,rfl,Same.new f5 _ _ e3,Z5,?_,rfl,?_,?_⟩
   ·rw[YC,YS,YC,YQ];show _+2<=_;omega
   ·exact Zv (S3.trans (Same.new f5)) fl
   rw[Z5];simp[onW]
 rintro _ H4 ⟨rfl,S4,e4⟩;refine⟨λσ' H'=>σ'=[some (.ref a),some (.ref c),some (.ref l)]/\Same H H'/\H' l=some (.lst ((sOffer::o.rs.map shR++onW sAsk o.oa++onW sBid o.ob).map V.str)),?_,?_⟩
 ·refine⟨_,rfl,c,_,_,vb,rfl,rfl,Zw S4 hc,rfl,rfl,_,rfl,?_⟩
  cases hob:o.ob with
  | none =>
   rw[hob] at hb;have hb:vb=.non:=hb;subst hb;refine Yp (λe=>absurd e J1) λ_=>⟨rfl,S4,?_⟩;rw[e4];simp[onW]
  | some r0 =>
   rw[hob] at hb;obtain⟨b,rfl,sq⟩:=hb;have f0:=ot.fb r0 hob;refine Yp (λ_=>?_) λe=>absurd e J1;refine⟨_,rfl,.inl ⟨rfl,_,SqL.of e4⟩,_,rfl,c,_,_,.ref b,rfl,rfl,Zw S4 hc,rfl,b,r0,rfl,Zw S4 sq,up f0.b1,up f0.b2,by show 2<=sizeLine;decide,λp5 f5=>?_⟩;refine⟨l,p5,_,_,rfl,rfl,Same.new f5 _ _ e4,Z5,?_,rfl,?_,?_⟩
   ·have:(onW sAsk o.oa).length<=2:=by cases o.oa <;> simp[onW]
    simp;rw[YQ];omega
   ·exact Zv (S4.trans (Same.new f5)) fl
   rw[Z5];simp[onW]
 rintro _ H5 ⟨rfl,S5,e5⟩;have lw:(sOffer::o.rs.map shR++onW sAsk o.oa++onW sBid o.ob).length<=20:=by
  have h1:(onW sAsk o.oa).length<=2:=by cases o.oa <;> simp[onW]
  have h2:(onW sBid o.ob).length<=2:=by cases o.ob <;> simp[onW]
  simp;omega
 refine⟨λσ' H'=>σ'=[some (.ref a),some (.ref c),some (.ref l)]/\Same H H'/\H' l=some (.lst ((offW ns o.rs o.oa o.ob o.ev).map V.str)),?_,?_⟩
 ·refine⟨_,rfl,c,_,_,ve,rfl,rfl,Zw S5 hc,rfl,rfl,_,rfl,?_⟩
  cases hev:o.ev with
  | none =>
   rw[hev] at he;have he:ve=.non:=he;subst he;refine Yp (λe=>absurd e J1) λ_=>⟨rfl,S5,?_⟩;rw[e5];simp[offW,evW,W8]
  | some es =>
   rw[hev] at he;obtain⟨b,rfl,sq⟩:=he;have oe:=ot.ev es hev;have le:=Wi oe.2.1 oe.2.2;refine Yp (λ_=>?_) λe=>absurd e J1;refine⟨_,rfl,.inl ⟨rfl,_,SqL.of e5⟩,l,_,_,rfl,rfl,e5,by rw[YC,YQ];omega,?_⟩;have S6:Same H (upd H5 l (.lst ((sOffer::o.rs.map shR++onW sAsk o.oa++onW sBid o.ob).map V.str++[.str sIf]))):=Zv S5 fl;refine⟨_,rfl,.inl ⟨rfl,_,SqL.of Z5⟩,?_⟩;refine V6 (ys:=es.map λi=>V.str (ns.getD i "")) (λG g=>⟨_,rfl,c,_,_,.ref b,rfl,rfl,Zw S6 hc,rfl,g⟩) (Zw S6 sq) (by simp;omega) J1 (λi x y H7 G ex ey S7 g=>?_) λd H7 hd S7 e7=>?_
   ·rw[YI] at ey;rw[YI,YI] at ex
    cases ek:es[i]? with
    | none=>rw[ek] at ey;cases ey
    | some k =>
     rw[ek] at ex ey
     cases ex
     cases ey;have hk:=oe.2.2 k (YO ek);exact⟨_,rfl,_,rfl,a,_,_,_,rfl,rfl,Zz (S6.trans S7) hN,Yi (by rw[YI,YZ hk];simp[List.getD,hk]),g H7 (Same.refl _)⟩
   refine⟨l,d,_,_,rfl,rfl,S7 _ _ Z5,e7,?_,rfl,?_,?_⟩
   ·rw[XF,YC,YC,YQ];show _+1+_<=_;omega
   ·exact Zv (S6.trans S7) fl
   rw[Z5];simp[offW,evW,W8,Function.comp]
 rintro _ H8 ⟨rfl,S8,e8⟩;have ow:=X0 ok ot;have ol:=Xd ok ot;have lj2:(offW ns o.rs o.oa o.ob o.ev).length*(63+1)<=40*64:=JB _ ol;refine⟨rfl,_,rfl,_,l,offW ns o.rs o.oa o.ob o.ev,rfl,rfl,SqL.of e8,Sg (c:=32) (m:=63) (λz hz=>(ow z hz).2) U,?_⟩;rw[Wq];exact q H8 S8
inductive spShown (K:TL) (vs:TQ) (H:Hp) (Q:VK) (_z3:XK):Prop
 | mk (a b:Addr) (ns:List PySem.Str) (bs:TH) (os:List Ofr) (zz0:vs=[.ref a,.ref b]) (zz1:SqL K H a (ns.map V.str)) (zz2:SqL K H b (bs.map V.ref)) (zz3:Paired (λb o=>Ofr.At o K H b) bs os) (zz4:NamesOk ns) (zz5:∀ o∈os,Ofr.T o ns.length) (zz6:os.length<=12) (zz7:∀ H',Same H H'->Q (.str (bookT ns os)) H')
theorem Jf (D:Def K mg "shown" f8 ["names","offers"])(T:BltT mg)(eR:Has P w K mg base 2 "show_offer" ["names","offer"] (spShowOffer K)):Has P w K mg base 3 "shown" ["names","offers"] (spShown K):=by
 refine D.h9 (N:=["names","offers","rows"]) fsc λH Q hr h nd=>?_;obtain⟨a,b,ns,bs,os,rfl,hN,hB,pr,ok,hT,lo,q⟩:=h;have nd1:(["offer","names"]:List Str).Nodup:=J2
 refine⟨_,(Z3 (Z7 (i:=2) nd rfl (Or.inl rfl) (Yk (Z0 (Y9 XX qf qg (Wo (K:=K)) Zj (Z0 (Zc Tz (Yk (Z0 Zj Z2)) (Zu Yz rfl T.list GD (Z0 (pv 0) Z2))) Z2)) Z2)))
  (Z3 (Yt (Y9 XI ql qm W2 (pv 2) (Z0 (Ye (ox:=none) (N:=["offer","names"]) (k:=1) (fv:=[0]) rfl (Xk (pv 1))
  (λ_ _ _ _ _=>Zq (i:=0) nd1 rfl (Or.inl rfl)) (λ_ _ _ _ _=>Yc) (λ_ _ _ _ _=>(Zf eR hr (Z0 (pv 1) (Z0 (pv 0) Z2)))) Zt) Z2)))
  (Z6 (Za (Y9 XX qf qg (Wo (K:=K)) Zj (Z0 (pv 2) Z2)))))),?_⟩
 have l2:=ok.l2;have lb:=JK pr;refine⟨rfl,by show 1<=sizeLine;decide,λp1 f1=>?_⟩;have S1:Same H (upd H p1 (.lst [.str (Str.ofString "worlds")])):=Same.new f1;refine⟨_,rfl,a,_,rfl,.inl (Zz S1 hN),λp2 f2=>?_⟩;have S2:=S1.trans (Same.new (o:=.lst (ns.map V.str)) f2);refine⟨p1,p2,_,_,rfl,rfl,Same.new f2 _ _ Z5,Z5,by rw[YC,YQ];show 1+_<=_;omega,λp3 f3=>?_⟩;have S3:=S2.trans (Same.new (o:=.lst ([V.str (Str.ofString "worlds")]++ns.map V.str)) f3);refine⟨_,p3,Str.ofString "worlds"::ns,rfl,rfl,SqL.of Z5,Sg (c:=32) (m:=8) (λz hz=>?_) (by rw[YS];omega),?_⟩
 ·rcases YJ.mp hz with rfl | hz
  ·decide
  exact (ok.ok z hz).l2
 rw[Wq,show Str.join (Str.ofString " ") (Str.ofString "worlds"::ns)=rowN ns from rfl];refine⟨by show 1<=sizeLine;decide,λl f4=>?_⟩;have fl:H l=none:=Vl S3 f4;have S4:=S3.trans (Same.new (o:=.lst [V.str (rowN ns)]) f4);have e4:upd (upd (upd (upd H p1 (.lst [.str (Str.ofString "worlds")])) p2 (.lst (ns.map V.str))) p3 (.lst ([V.str (Str.ofString "worlds")]++ns.map V.str))) l (.lst [V.str (rowN ns)]) l=some (.lst [V.str (rowN ns)]):=Z5;refine Xc ?_;generalize hG:upd (upd (upd (upd H p1 (.lst [.str (Str.ofString "worlds")])) p2 (.lst (ns.map V.str))) p3 (.lst ([V.str (Str.ofString "worlds")]++ns.map V.str))) l (.lst [V.str (rowN ns)])=H4 at S4 e4;refine⟨_,rfl,.inl ⟨rfl,_,SqL.of e4⟩,?_⟩;refine Tc (ys:=os.map λo=>V.str (o.row ns)) (λG g=>⟨_,rfl,g⟩) (Zz S4 hB) (by rw[YC];omega) (by rw[YC,YC];omega) (λi x y H5 G ex ey S5 g=>?_) λd H5 hd S5 e5=>?_
 ·rw[YI] at ex ey
  cases eo:os[i]? with
  | none=>rw[eo] at ey;cases ey
  | some o =>
   cases eb:bs[i]? with
   | none=>rw[eb] at ex;cases ex
   | some b0 =>
    rw[eb] at ex;rw[eo] at ey
    cases ex
    cases ey;have hA:=Paired.getB pr eb eo;exact⟨_,rfl,_,rfl,a,b0,ns,o,rfl,Zz (S4.trans S5) hN,OffAt.ext hA (Ext.same (S4.trans S5)),ok,hT o (YO eo),λH6 S6=>g H6 S6⟩
 refine⟨l,d,_,_,rfl,rfl,S5 _ _ e4,e5,by rw[YC,YQ];show 1+_<=_;omega,?_⟩;have S6:Same H (upd H5 l (.lst ([V.str (rowN ns)]++os.map λo=>V.str (o.row ns)))):=Zv (S4.trans S5) fl;have wl:∀ z∈rowN ns::os.map (λo=>o.row ns),z.length<=2560:=by
  intro z hz;rcases YJ.mp hz with rfl | hz
  ·have lj:=Y5 (c:=32) (m:=8) (ws:=Str.ofString "worlds"::ns) λz hz=>by
    rcases YJ.mp hz with rfl | hz
    ·decide
    exact (ok.ok z hz).l2
   rw[YS] at lj;show (Str.join ⟨#[32]⟩ (Str.ofString "worlds"::ns)).length<=_;omega
  obtain⟨o,ho,rfl⟩:=JE.mp hz;have ow:=X0 ok (hT o ho);have ol:=Xd ok (hT o ho);have lj:=Y5 (c:=32) (m:=63) (ws:=offW ns o.rs o.oa o.ob o.ev) λz hz=>(ow z hz).2;have lj2:(offW ns o.rs o.oa o.ob o.ev).length*(63+1)<=40*64:=JB _ ol;show (Str.join ⟨#[32]⟩ (offW ns o.rs o.oa o.ob o.ev)).length<=_;omega
 have lj2:(os.length+1)*(2560+1)<=13*2561:=JB _ U;refine⟨rfl,_,rfl,_,l,rowN ns::os.map λo=>o.row ns,rfl,rfl,SqL.of (by rw[Z5];simp[Function.comp]),Sg (c:=10) (m:=2560) wl (by rw[YS,YC];omega),?_⟩;rw[Wq];exact q _ S6
theorem Jk (D:Def K mg "_law_show" gE UC)(T:BltT mg):Has P w K mg base 1 "_law_show" UC (spShowR K):=by
 refine D.h9 (N:=UC) fsc λH Q hr h nd=>?_;obtain⟨a,r,rfl,hS,h1,h2,q⟩:=h;refine⟨_,(Z3 (Zr (Z8 Xr (Zd Xs (pv 0) Z4 (λ_ _=>rfl)) Z4 (Ze _))
   (Z6 (Za (Zu Yy rfl T.str qe (Z0 (Zd Xw (pv 0) Z4 (λ_ _=>rfl)) Z2))))
   Zh)
  (Z6 (Za (Zc Zo (Zc Zo (Zu Yy rfl T.str qe (Z0 (Zd Xw (pv 0) Z4 (λ_ _=>rfl)) Z2)) Zj) (Zu Yy rfl T.str qe (Z0 (Zd Xs (pv 0) Z4 (λ_ _=>rfl)) Z2)))))),?_⟩
 refine⟨_,rfl,_,_,_,rfl,rfl,hS,rfl,_,rfl,Yp (λe=>?_) λe=>?_⟩
 ·have e':r.2=1:=by simpa using e
  have:shR r=numS r.1:=by unfold shR;rw[XQ e']
  rw[this] at q;exact⟨_,rfl,_,_,_,rfl,rfl,hS,_,rfl,T4 h1,q⟩
 have e':¬ r.2=1:=by simpa using e
 have:shR r=numS r.1++⟨#[47]⟩++numS r.2:=by unfold shR;rw[XD e']
 have l1:=(Yw (k:=70) J0 h1).1;have l2:=(Yw (k:=70) J0 h2).1;rw[this] at q;refine⟨_,rfl,_,_,_,rfl,rfl,hS,_,rfl,T4 h1,_,_,rfl,rfl,?_,_,rfl,_,_,_,rfl,rfl,hS,_,rfl,T4 h2,_,_,rfl,rfl,?_,q⟩
 ·rw[YQ];show (numS r.1).length+1<=_;omega
 rw[YV,YQ];show (numS r.1).length+1+(numS r.2).length<=_;omega
end
theorem p30:(10:Int) ^ (30:Int).toNat=1000000000000000000000000000000:=by decide +kernel
theorem Nd {p q:Int}(hq:0<q)(h1:p.natAbs<10 ^ 30)(h2:q.natAbs<10 ^ 30):Fit30 (nrm p q) :=
 ⟨Pa U,Gi U,JC (Gj U) h1,JC (Gk U) h2⟩
section
variable {P:TM}{w:World}{K:TL}{mg:Tn}{base:Heap}
inductive spPart (vs:TQ) (H:Hp) (Q:VK) (_z3:XK):Prop
 | mk (b:Addr) (n:Nat) (zz0:vs=[.ref b]) (zz1:BagAt H b n) (zz2:n<=1000000) (zz3:∀ (a:Addr) (H':Hp) (r:Rat),BagAt H' b (n+3)->SameX b H H'->H' a=some (.tup [.int r.1,.int r.2])->Fit30 r->Q (.ref a) H')
theorem Fl (D:Def K mg "_law_part" gH UD)(eA:Z1 P w K mg base)(eG:Has P w K mg base 2 "_law_ratio" TW spRatio):Has P w K mg base 3 "_law_part" UD spPart:=by
 refine D.h9 (N:=["_law_bag_here","_law_way","_law_top"]) fsc λH Q hr h nd=>?_;obtain⟨b,n,rfl,hB,hn,k⟩:=h;refine⟨_,(Z3 (Z7 (i:=1) nd rfl (Or.inl rfl) (Zf eA hr (Z0 (pv 0) (Z0 Z4 Z2))))
  (Z3 (Zr (Z8 Xr (pv 1) Z4 (Ze _))
   (Z3 (Z7 (i:=2) nd rfl (Or.inl rfl) (Zc Vt (Zf eA hr (Z0 (pv 0) (Z0 (Zc Vt (Zc Ya Z4 (Zc Tv Z4 Z4)) Z4) Z2))) (Zc Vt (Zc Tv Z4 Z4) Z4)))
   (Z6 (Za (Zf eG hr (Z0 (pv 2) (Z0 (Zc Yn Z4 (Zf eA hr (Z0 (pv 0) (Z0 (Zc Vt (Zc Tv Z4 Z4) Z4) Z2)))) Z2))))))
   Zh)
  (Z6 (Za (Zf eG hr (Z0 (Zc Vt (Zf eA hr (Z0 (pv 0) (Z0 Z4 Z2))) Z4) (Z0 (Zc Yn Z4 (Zf eA hr (Z0 (pv 0) (Z0 Z4 Z2)))) Z2))))))),?_⟩
 have e30:(10:Nat) ^ 30=1000000000000000000000000000000:=J2
 refine⟨_,rfl,b,_,n,rfl,hB,U,J0,J2,λw1 H1 w10 w11 B1 S1=>?_⟩;refine⟨_,rfl,rfl,_,rfl,Yp (λe=>?_) λe=>?_⟩
 ·refine⟨_,rfl,_,_,rfl,rfl,G4 J0 J0,_,_,rfl,rfl,Pb J0 J0,_,_,rfl,rfl,b,_,n+1,rfl,B1,U,by rw[p30];decide,by rw[p30];decide +kernel,λr2 H2 r20 r21 B2 S2=>?_⟩;rw[p30] at r21;refine⟨_,_,rfl,rfl,G4 J0 J0,_,_,rfl,rfl,_,_,rfl,rfl,?_⟩;rw[p30];refine⟨_,rfl,_,rfl,_,_,rfl,rfl,G4 J0 J0,_,_,rfl,rfl,b,_,n+1+1,rfl,B2,U,by rw[p30];decide,by rw[p30];decide +kernel,λr3 H3 r30 r31 B3 S3=>⟨_,_,rfl,rfl,?_⟩⟩;rw[p30] at r31;have b2:(1+r3).natAbs<10 ^ 30:=by rw[e30];omega
  refine⟨_,_,rfl,U,K5 b2,λa H4 fa S4 ea=>?_⟩;exact k a H4 (nrm (r2 - (1000000000000000000000000000000 - 1)) (1+r3)) (B3.same S4) (((S1.trans S2).trans S3).trans (SameX.of S4)) ea (Nd U (by rw[e30];omega) b2)
 refine⟨_,rfl,b,_,n+1,rfl,B1,U,J0,J2,λr2 H2 r20 r21 B2 S2=>⟨_,_,rfl,rfl,?_⟩⟩;refine⟨_,rfl,b,_,n+1+1,rfl,B2,U,J0,J2,λr3 H3 r30 r31 B3 S3=>⟨_,_,rfl,rfl,?_⟩⟩;have b2:(1+r3).natAbs<10 ^ 30:=by rw[e30];omega
 refine⟨_,_,rfl,U,K5 b2,λa H4 fa S4 ea=>?_⟩;exact k a H4 (nrm (r2 - 10) (1+r3)) (B3.same S4) (((S1.trans S2).trans S3).trans (SameX.of S4)) ea (Nd U (by rw[e30];omega) b2)
inductive spAnyOffer (K:TL) (vs:TQ) (H:Hp) (Q:VK) (_z3:XK):Prop
 | mk (b:Addr) (c n:Nat) (zz0:vs=[.ref b,.int c]) (zz1:BagAt H b n) (zz2:n<=100000) (zz3:2<=c) (zz4:c<=12) (zz5:∀ (a:Addr) (H':Hp) (o:Ofr),BagAt H' b (n+100)->SameX b H H'->Ofr.At o K H' a->Ofr.T o c->Q (.ref a) H')
theorem Vr:FnScope ["_law_bag_here","_law_count","_law_row","_law_ask","_law_bid","_law_event","_law_bits"] UE (defScope fR):=fsc
theorem P7 (D:Def K mg "_law_any_offer" fR UE)(T:BltT mg)(eE:Has P w K mg base 3 "_law_part" UD spPart)(eA:Z1 P w K mg base):Has P w K mg base 4 "_law_any_offer" UE (spAnyOffer K):=by
 refine D.has λf fd F=>F.ok Vr (λvs H Q E h=>?_) (λcdv A outer s H vs Q E hr h=>?_)
 ·obtain⟨b,c,n,rfl,_⟩:=h;rfl
 obtain⟨b,c,n,rfl,hB,hn,hc,hc2,k⟩:=h;have sc:=Vr;have nd1:(UF:List Str).Nodup:=J2
 have nd2:(UF:List Str).Nodup:=J2
 have nd3:(UF:List Str).Nodup:=J2
 have nd4:(["_law_world","_law_bits"]:List Str).Nodup:=J2
 have nd5:(["_law_world","_law_bits"]:List Str).Nodup:=J2
 refine⟨_,(Z3 (Zx (Z7 (i:=2) sc.nd rfl (Or.inl rfl) (Zu Yh rfl T.tuple XW (Z0 (Ye (ox:=none) (N:=UF) (k:=1) (fv:=[0]) rfl (Yq rfl T.range (Z0 (pv 1) Z2))
  (λ_ _ _ _ _=>Zq (i:=0) nd2 rfl (Or.inl rfl)) (λ_ _ _ _ _=>Yc) (λ_ _ _ _ _=>(Zf eE hr (Z0 (pv 1) Z2))) Zt) Z2))))
  (Z3 (Zx (Z7 (i:=3) sc.nd rfl (Or.inl rfl) (Zd Y1 (Yk (Z0 Zl (Z0 (Zf eE hr (Z0 (pv 0) Z2)) Z2))) (Zf eA hr (Z0 (pv 0) (Z0 Z4 Z2))) (λ_ _=>rfl))))
  (Z3 (Zx (Z7 (i:=4) sc.nd rfl (Or.inl rfl) (Zd Y1 (Yk (Z0 Zl (Z0 (Zf eE hr (Z0 (pv 0) Z2)) Z2))) (Zf eA hr (Z0 (pv 0) (Z0 Z4 Z2))) (λ_ _=>rfl))))
  (Z3 (Z7 (i:=5) sc.nd rfl (Or.inl rfl) Zl)
  (Z3 (Zx (Zr (Z8 Xr (Zf eA hr (Z0 (pv 0) (Z0 Z4 Z2))) Z4 (Ze _))
   (Z3 (Z7 (i:=6) sc.nd rfl (Or.inr rfl) (Ye (ox:=none) (N:=UF) (k:=1) (fv:=[0]) rfl (Yq rfl T.range (Z0 (pv 1) Z2))
  (λ_ _ _ _ _=>Zq (i:=0) nd3 rfl (Or.inl rfl)) (λ_ _ _ _ _=>Yc) (λ_ _ _ _ _=>(Zf eA hr (Z0 (pv 1) (Z0 Z4 Z2)))) Zt))
   (Z3 (Tq Z4 (Ts (pv 6) (Zf eA hr (Z0 (pv 0) (Z0 (pv 1) Z2))) Wh))
   (Z6 (Z7 (i:=5) sc.nd rfl (Or.inl rfl) (Zu Yh rfl T.tuple XW (Z0 (Ye (ox:=none) (N:=["_law_world","_law_bits"]) (k:=1) (fv:=[6]) rfl (Yq rfl T.range (Z0 (pv 1) Z2))
  (λ_ _ _ _ _=>Zq (i:=0) nd5 rfl (Or.inl rfl)) (λ_ _ _ _ _=>To (Z8 Xr (Zd (Gm (K:=K)) (pv 1) (pv 0) (λ_ _=>rfl)) Z4 (Ze _))) (λ_ _ _ _ _=>(pv 0)) Zt) Z2))))))
   Zh))
  (Z6 (Za (Xu (Z0 (pv 2) (Z0 (pv 3) (Z0 (pv 4) (Z0 (pv 5) Z2)))))))))))),?_⟩
 have hBl:=hB.lst;refine⟨λσ' H'=>∃ (r:Addr) (rs:TR),σ'=[some (.ref b),some (.int c),some (.ref r),none,none,none,none]/\BagAt H' b (n+36)/\SameX b H H'/\RowAt K H' r rs/\rs.length=c/\∀ r∈rs,Fit30 r,?_,?_⟩
 ·refine⟨_,rfl,(c:Int),rfl,U,U,λd hd=>?_⟩;have hdb:d≠b:=by
   obtain⟨ys,e⟩:=hBl;exact (Zb e hd).symm
  have et:(c:Int).toNat=c:=U
  rw[et];refine⟨c,λi ys H2=>∃ rs,Rs K H2 rs ys/\rs.length=i/\(∀ r∈rs,Fit30 r)/\BagAt H2 b (n+3*i)/\SameX b H H2,Xt U,?_,?_,?_⟩
  ·exact⟨[],.nil,rfl,(λ_ h=>nomatch h),hB.upd (GM hdb),SameX.of (Same.new hd)⟩
  ·rintro i ys H2 hi ⟨rs,h1,h2,h3,h4,h5⟩ hd2;refine⟨hi,?_⟩;rintro x H3 ⟨rfl,rfl⟩;refine Yx ?_;refine⟨_,rfl,b,n+3*i,rfl,h4,U,λa H4 r B4 S4 e4 g4=>?_⟩;have E4:=Ext.bag S4 h4;have hd4:H4 d=some (.lst ys):=S4 _ _ hd2 hdb;have E5:Ext H4 (upd H4 d (.lst (ys++[.ref a]))):=Ext.upd hd4;refine⟨hd4,rs++[r],(h1.ext (E4.trans E5)).snoc ⟨a,rfl,E5.sq (SqT.of e4)⟩,by rw[XF,h2];rfl,λr' hr'=>?_,(B4.upd (GM hdb)).mono U,?_⟩
   ·rcases YY.mp hr' with z | z
    ·exact h3 r' z
    rw[qc.mp z];exact g4
   exact λq o e ne=>by
    have e2:=S4 q o (h5 q o e ne) ne;rw[Zi (Zb e hd)];exact e2
  rintro ys H2 ⟨rs,h1,h2,h3,h4,h5⟩ hd2;refine⟨YE _,d,ys,rfl,.inl ⟨SqL.of hd2,λl hl=>?_⟩⟩;have E:=Ext.new (o:=.tup ys) hl;exact⟨l,rs,rfl,(h4.same (Same.new hl)).mono U,h5.trans (SameX.of (Same.new hl)),⟨ys,SqT.of Z5,h1.ext E⟩,h2,h3⟩
 rintro _ H1 ⟨r,rs,rfl,B1,S1,r1,l1,f1⟩;refine⟨λσ' H'=>∃ (va:V) (oa:Option Rat),σ'=[some (.ref b),some (.int c),some (.ref r),some va,none,none,none]/\BagAt H' b (n+40)/\SameX b H H'/\RowAt K H' r rs/\PrAt K H' va oa/\∀ r,oa=some r->Fit30 r,?_,?_⟩
 ·refine⟨_,rfl,b,n+36,rfl,B1,U,λa1 H2 r2 B2 S2 e2 f2=>⟨by show 2<=sizeLine;decide,λp1 g1=>?_⟩⟩;have hpb:p1≠b:=by
   obtain⟨ys,e⟩:=B2.lst;exact (Zb e g1).symm
  have Sn:Same H2 (upd H2 p1 (.lst [.non,.ref a1])):=Same.new g1;refine⟨_,rfl,b,_,n+36+3,rfl,B2.same Sn,U,J0,J2,λj H3 j0 j1 B3 S3=>?_⟩;have el:H3 p1=some (.lst [.non,.ref a1]):=S3 _ _ Z5 hpb;have EX:Ext H1 H3:=(Ext.bag S2 B1).trans ((Ext.same Sn).trans (Ext.bag S3 (B2.same Sn)));have EA:SqT K H3 a1 [.int r2.1,.int r2.2]:=((Ext.same Sn).trans (Ext.bag S3 (B2.same Sn))).sq (SqT.of e2);have ST:SameX b H H3:=(S1.trans S2).trans ((SameX.of Sn).trans S3);have hj:j=0 \/ j=1:=U
  rcases hj with rfl | rfl
  ·exact⟨p1,_,_,.non,rfl,rfl,SqL.of el,rfl,.non,none,rfl,B3,ST,r1.ext EX,rfl,λr z=>by cases z⟩
  exact⟨p1,_,_,.ref a1,rfl,rfl,SqL.of el,rfl,.ref a1,some r2,rfl,B3,ST,r1.ext EX,⟨a1,rfl,EA⟩,λr z=>by cases z;exact f2⟩
 rintro _ H2 ⟨va,oa,rfl,B2,S2,r2,pa,fa⟩;refine⟨λσ' H'=>∃ (vb:V) (ob:Option Rat),σ'=[some (.ref b),some (.int c),some (.ref r),some va,some vb,none,none]/\BagAt H' b (n+44)/\SameX b H H'/\RowAt K H' r rs/\PrAt K H' va oa/\PrAt K H' vb ob/\∀ r,ob=some r->Fit30 r,?_,?_⟩
 ·refine⟨_,rfl,b,n+40,rfl,B2,U,λa1 H3 r3 B3 S3 e3 f3=>⟨by show 2<=sizeLine;decide,λp1 g1=>?_⟩⟩;have hpb:p1≠b:=by
   obtain⟨ys,e⟩:=B3.lst;exact (Zb e g1).symm
  have Sn:Same H3 (upd H3 p1 (.lst [.non,.ref a1])):=Same.new g1;refine⟨_,rfl,b,_,n+40+3,rfl,B3.same Sn,U,J0,J2,λj H4 j0 j1 B4 S4=>?_⟩;have el:H4 p1=some (.lst [.non,.ref a1]):=S4 _ _ Z5 hpb;have EX:Ext H2 H4:=(Ext.bag S3 B2).trans ((Ext.same Sn).trans (Ext.bag S4 (B3.same Sn)));have EA:SqT K H4 a1 [.int r3.1,.int r3.2]:=((Ext.same Sn).trans (Ext.bag S4 (B3.same Sn))).sq (SqT.of e3);have ST:SameX b H H4:=(S2.trans S3).trans ((SameX.of Sn).trans S4);have hj:j=0 \/ j=1:=U
  rcases hj with rfl | rfl
  ·exact⟨p1,_,_,.non,rfl,rfl,SqL.of el,rfl,.non,none,rfl,B4,ST,r2.ext EX,pa.ext EX,rfl,λr z=>by cases z⟩
  exact⟨p1,_,_,.ref a1,rfl,rfl,SqL.of el,rfl,.ref a1,some r3,rfl,B4,ST,r2.ext EX,pa.ext EX,⟨a1,rfl,EA⟩,λr z=>by cases z;exact f3⟩
 rintro _ H3 ⟨vb,ob,rfl,B3,S3,r3,pa3,pb,fb⟩;refine⟨λσ' H'=>∃ (ve:V) (ev:Option (List Nat)) (v6:Option V),σ'=[some (.ref b),some (.int c),some (.ref r),some va,some vb,some ve,v6]/\BagAt H' b (n+80)/\SameX b H H'/\RowAt K H' r rs/\PrAt K H' va oa/\PrAt K H' vb ob/\EvT K H' ve ev/\∀ es,ev=some es->es≠[]/\es.Pairwise (·<·)/\∀ e∈es,e<c,?_,?_⟩
 ·refine⟨_,rfl,b,_,n+44,rfl,B3,U,J0,J2,λz H4 z0 z1 B4 S4=>⟨rfl,_,rfl,?_⟩⟩;have X4:=Ext.bag S4 B3;refine Yp (λe=>?_) λe=>⟨.non,none,none,rfl,B4.mono U,S3.trans S4,r3.ext X4,pa3.ext X4,pb.ext X4,rfl,λes z=>by cases z⟩;have hBl4:=B4.lst;refine⟨_,rfl,(c:Int),rfl,U,U,λd hd=>?_⟩;have hdb:d≠b:=by
   obtain⟨ys,e⟩:=hBl4;exact (Zb e hd).symm
  have et:(c:Int).toNat=c:=U
  rw[et];refine⟨c,λi ys H2=>∃ ns:List Int,ys=ns.map V.int/\ns.length=i/\BagAt H2 b (n+45+i)/\SameX b H4 H2,Xt U,?_,?_,?_⟩
  ·exact⟨[],rfl,rfl,B4.upd (GM hdb),SameX.of (Same.new hd)⟩
  ·rintro i ys H2 hi ⟨ns,rfl,ln,B2,S2⟩ hd2;refine⟨hi,?_⟩;rintro x H3 ⟨rfl,rfl⟩;refine Yx ?_;refine⟨_,rfl,b,_,_,rfl,B2,U,J0,J2,λr H4 r0 r1 B4 S4=>?_⟩;have hd4:H4 d=some (.lst (ns.map V.int)):=S4 _ _ hd2 hdb;refine⟨hd4,ns++[r],by rw[XJ];rfl,by rw[XF,ln];rfl,(B4.upd (GM hdb)).mono U,λq o e ne=>?_⟩;have e2:=S4 q o (S2 q o e ne) ne;rw[Zi (Zb e hd)];exact e2
  rintro ys H5 ⟨ns,rfl,ln,B5,S5⟩ hd5;refine⟨YE _,?_⟩;have X5:=Ext.bag S5 B4;refine⟨_,rfl,_,rfl,_,rfl,b,_,n+45+c,rfl,B5,U,U,Jp U,λj H6 j0 j1 B6 S6=>?_⟩;have hd6:H6 d=some (.lst (ns.map V.int)):=S6 _ _ hd5 hdb;have X6:=Ext.bag S6 B5;refine⟨d,_,j,j.toNat,rfl,rfl,hd6,Fv j0 (by rw[YC,ln];exact j1),?_⟩;have X7:Ext H6 (upd H6 d (.lst ((ns.map V.int).set j.toNat (.int 1)))):=Ext.upd hd6;have B7:BagAt (upd H6 d (.lst ((ns.map V.int).set j.toNat (.int 1)))) b (n+45+c+1):=B6.upd (GM hdb);have em:(ns.map V.int).set j.toNat (.int 1)=(ns.set j.toNat 1).map V.int:=by rw[List.map_set]
  have ST:SameX b H (upd H6 d (.lst ((ns.map V.int).set j.toNat (.int 1)))):=λq o e ne=>by
   have e4:=(S3.trans S4) q o e ne;rw[Zi (Zb e4 hd)];exact S6 q o (S5 q o e4 ne) ne
  have hd7:upd H6 d (.lst ((ns.map V.int).set j.toNat (.int 1))) d=some (.lst ((ns.set j.toNat 1).map V.int)):=by rw[Z5,em]
  have XT:Ext H3 (upd H6 d (.lst ((ns.map V.int).set j.toNat (.int 1)))):=X4.trans (X5.trans (X6.trans X7));generalize upd H6 d (.lst ((ns.map V.int).set j.toNat (.int 1)))=H7 at B7 ST hd7 XT;have lm:(ns.set j.toNat 1).length=c:=by rw[List.length_set,ln]
  have hj1:(ns.set j.toNat 1).getD j.toNat 0=1:=by
   have:j.toNat<ns.length:=U
   simp[List.getD,this]
  have hjc:j.toNat<c:=U
  generalize ns.set j.toNat 1=ms at hd7 lm hj1;refine⟨_,rfl,(c:Int),rfl,U,U,λd5 h5=>?_⟩;rw[et];refine⟨c,λi ys H8=>ys=natV ((List.range i).filter λj=>decide (ms.getD j 0=1))/\Same H7 H8,Xt U,⟨rfl,Same.new h5⟩,?_,?_⟩
  ·rintro i ys H8 hi ⟨rfl,S8⟩ hd8;refine⟨hi,?_⟩;rintro x H9 ⟨rfl,rfl⟩;have e0:(0+(i:Int))=((i:Nat):Int):=U
   rw[e0];refine Q1 ?_;have hin:i<ms.length:=U
   have en:(ms.map V.int)[i]?=some (V.int (ms.getD i 0)):=by rw[YI];simp[List.getD,hin]
   refine⟨_,rfl,_,rfl,d,_,_,_,rfl,rfl,SqL.of (S8 _ _ hd7),Yi en,rfl,_,rfl,?_⟩;refine Sj (λh=>?_) (λh=>?_)
   ·have h0:ms.getD i 0=1:=V.int.inj (GO h);refine⟨_,rfl,hd8,?_,λq o e=>?_⟩
    ·have ef:[i].filter (λj=>decide (ms.getD j 0=1))=[i]:=by
      rw[jg,XQ (XC h0)];rfl
     rw[zB,qR,ef];unfold natV;rw[XJ,XJ];rfl
    rw[Zi (Zb e h5)];exact S8 _ _ e
   have h0:¬ ms.getD i 0=1:=λz=>h (XC (by rw[z]));refine⟨hd8,?_,S8⟩;have ef:[i].filter (λj=>decide (ms.getD j 0=1))=[]:=by
    rw[jg,XD (by rw[GC];exact h0)];rfl
   rw[zB,qR,ef,zu]
  rintro ys H8 ⟨rfl,S8⟩ hd8;refine⟨YE _,d5,_,rfl,.inl ⟨SqL.of hd8,λl hl'=>?_⟩⟩;have S9:=S8.trans (Same.new (o:=.tup (natV ((List.range c).filter λj=>decide (ms.getD j 0=1)))) hl');have X9:=XT.trans (Ext.same S9);refine⟨.ref l,some ((List.range c).filter λj=>decide (ms.getD j 0=1)),_,rfl,(B7.same S9).mono U,ST.trans (SameX.of S9),r3.ext X9,pa3.ext X9,pb.ext X9,⟨l,rfl,SqT.of Z5⟩,λes z=>?_⟩
  cases z;refine⟨λz=>?_,?_,λe he=>?_⟩
  ·have:j.toNat∈(List.range c).filter λj=>decide (ms.getD j 0=1):=qM.mpr ⟨qr.mpr hjc,XC hj1⟩;rw[z] at this
   cases this
  ·exact List.Pairwise.filter _ (z3 (n:=c))
  exact qr.mp (qM.mp he).1
 rintro _ H4 ⟨ve,ev,v6,rfl,B4,S4,r4,pa4,pb4,he,hev⟩;refine⟨_,rfl,_,rfl,_,rfl,_,rfl,by show 4<=sizeLine;decide,λa fa'=>?_⟩;have Sn:=Same.new (o:=.tup [.ref r,va,vb,ve]) fa';have En:=Ext.same Sn;exact k a _ ⟨rs,oa,ob,ev⟩ ((B4.same Sn).mono U) (S4.trans (SameX.of Sn)) (OffAt.ext (H:=upd H4 a (.tup [.ref r,va,vb,ve])) ⟨a,r,va,vb,ve,rfl,SqT.of Z5,r4.ext En,pa4.ext En,pb4.ext En,by
  cases ev with
  | none=>exact he
  | some es =>
   obtain⟨c0,e0,q0⟩:=he;exact⟨c0,e0,En.sq q0⟩⟩ (Ext.same (Same.refl _))) ⟨l1,f1,fa,fb,hev⟩
end
theorem Yl (y w:PySem.Str):∀ {ws:List PySem.Str},ws≠[]->Str.join y (ws++[w])=Str.join y ws++y++w
 | [],h=>absurd rfl h
 | [a],_=>rfl
 | a::b::ws,_=>by
  have:=Yl y w (ws:=b::ws) J1;rw[zj,zj,Xf,<-zj,this,Xf];simp only [jk]
theorem N3 (z:PySem.Str)(r:Rat){ws:List PySem.Str}(h:ws≠[]):Str.join ⟨#[32]⟩ (ws++onW z (some r))=Str.join ⟨#[32]⟩ ws++(⟨#[32]⟩++z++⟨#[32]⟩)++shR r:=by
 rw[show ws++onW z (some r)=(ws++[z])++[shR r] by simp[onW],Yl _ _ J1,Yl _ _ h];simp only [jk]
theorem Qb {a:Addr}{D:Ends}{σ:L2.St}(Pv:Nat->L2.St->Hp->Prop)(h0:Pv 0 σ H)(hl:∀ i σ H,i<=xs.length->Pv i σ H->SqT K H a xs)
  (hs:∀ i x σ H,xs[i]?=some x->Pv i σ H->g x σ H λσ2 H2=>tb { D with nx:=Pv (i+1),ct:=Pv (i+1),bk:=D.nx } σ2 H2) (hd:∀ σ H,Pv xs.length σ H->D.nx σ H) :
  ∃ W:Nat->Nat->L2.St->Hp->Prop,(∃ m,W 0 m σ H)/\∀ i m σ H,W i m σ H →
   ((Itt K a).stop i H/\D.nx σ H) \/ ((Itt K a).go i H/\∃ N:L2.St->Hp->Prop,(∀ σ' H',N σ' H'->∃ m',m'<m/\W (i+1) m' σ' H')/\∀ x H',(Itt K a).yld i H x H'->g x σ H' λσ2 H2=>tb { D with nx:=N,ct:=N,bk:=D.nx } σ2 H2):=by
 refine⟨λi m σ H=>m=xs.length - i/\i<=xs.length/\Pv i σ H,⟨xs.length,J1,JH _,h0⟩,?_⟩;rintro i m σ H ⟨rfl,hi,p⟩;have q:=hl i σ H hi p;by_cases hlt:i<xs.length
 ·refine .inr ⟨⟨xs,xs[i],q,by simp[hlt]⟩,Pv (i+1),λσ' H' p'=>⟨xs.length - (i+1),U,rfl,hlt,p'⟩,λx H' y=>?_⟩;obtain⟨rfl,fx⟩:=y;exact hs i x σ _ (fx xs q) p
 have e:i=xs.length:=U
 subst e;exact .inl ⟨⟨xs,q,YE _⟩,hd σ H p⟩
theorem K6 {ws vs:List PySem.Str}(h:∀ z∈ws,z.length<=63)(hl:ws.length<=40)(hv:∀ z∈vs,z∈ws)(hl2:vs.length<=ws.length):(Str.join ⟨#[32]⟩ vs).length<=2560:=by
 have lj:=Y5 (c:=32) (m:=63) (ws:=vs) λz hz=>h z (hv z hz);have:vs.length*(63+1)<=40*64:=JB _ U;omega
section
variable {P:TM}{w:World}{K:TL}{mg:Tn}{base:Heap}
theorem Fm (D:Def K mg "_law_line" gJ UG)(eC:Has P w K mg base 1 "_law_show" UC (spShowR K)):Has P w K mg base 2 "_law_line" UG (spShowOffer K):=by
 refine D.h9 (N:=["_law_names_here","_law_offer","_law_line_here","_law_part_here","_law_world"]) fsc λH Q hr h nd=>?_;obtain⟨a,c,ns,o,rfl,hN,ho,ok,ot,q⟩:=h;refine⟨_,(Z3 (Z7 (i:=2) nd rfl (Or.inl rfl) Zj)
  (Z3 (W7 GF rfl (V1 (Zd Zs (pv 1) Z4 (λ_ _=>rfl))) (Zq (i:=3) nd rfl (Or.inl rfl))
   (Z6 (Z7 (i:=2) nd rfl (Or.inl rfl) (Zc Zo (Zc Zo (pv 2) Zj) (Zf eC hr (Z0 (pv 3) Z2))))))
  (Z3 (Zx (Zr (Z8 Xm (Zd Zs (pv 1) Z4 (λ_ _=>rfl)) Zl (Ze _))
   (Z6 (Z7 (i:=2) nd rfl (Or.inl rfl) (Zc Zo (Zc Zo (pv 2) Zj) (Zf eC hr (Z0 (Zd Zs (pv 1) Z4 (λ_ _=>rfl)) Z2)))))
   Zh))
  (Z3 (Zx (Zr (Z8 Xm (Zd Zs (pv 1) Z4 (λ_ _=>rfl)) Zl (Ze _))
   (Z6 (Z7 (i:=2) nd rfl (Or.inl rfl) (Zc Zo (Zc Zo (pv 2) Zj) (Zf eC hr (Z0 (Zd Zs (pv 1) Z4 (λ_ _=>rfl)) Z2)))))
   Zh))
  (Z3 (Zx (Zr (Z8 Xm (Zd Zs (pv 1) Z4 (λ_ _=>rfl)) Zl (Ze _))
   (Z3 (Z7 (i:=2) nd rfl (Or.inl rfl) (Zc Zo (pv 2) Zj))
   (Z6 (W7 GF rfl (V1 (Zd Zs (pv 1) Z4 (λ_ _=>rfl))) (Zq (i:=4) nd rfl (Or.inl rfl))
    (Z6 (Z7 (i:=2) nd rfl (Or.inl rfl) (Zc Zo (Zc Zo (pv 2) Zj) (Zd Y1 (pv 0) (pv 4) (λ_ _=>rfl))))))))
   Zh))
  (Z6 (Za (pv 2)))))))),?_⟩
 obtain⟨_,r,va,vb,ve,e0,hc,hr',ha,hb,he⟩:=ho
 cases e0;obtain⟨xs,sx,rx⟩:=hr';have lx:=rx.len;have ow:=X0 ok ot;have ol:=Xd ok ot;have up:∀ {n:Int},n.natAbs<10 ^ 30->n.natAbs<10 ^ 70:=λh=>JW h J2;have ll:=λ(vs:List PySem.Str) hv hl2=>K6 (ws:=offW ns o.rs o.oa o.ob o.ev) (vs:=vs) (λz hz=>(ow z hz).2) ol hv hl2;refine⟨_,rfl,c,_,_,.ref r,rfl,rfl,hc,rfl,r,rfl,⟨_,sx⟩,?_⟩;refine Qb (xs:=xs) (λi σ' H'=>H'=H/\∃ v3,σ'=[some (.ref a),some (.ref c),some (.str (Str.join ⟨#[32]⟩ (sOffer::(o.rs.take i).map shR))),v3,none]) ⟨rfl,_,rfl⟩ ?_ ?_ ?_
 ·rintro i σ' H' _ ⟨rfl,_⟩;exact sx
 ·rintro i x σ' H' ex ⟨rfl,v3,rfl⟩;have hi:i<o.rs.length:=by have:=(XG.mp ex).1;omega
  have er:o.rs[i]?=some o.rs[i]:=by simp[hi]
  obtain⟨v,ev',b,rfl,sq⟩:=rx.at er;rw[ex] at ev'
  cases ev';have f0:=ot.fr _ (YO er);have l1:=ll (sOffer::(o.rs.take i).map shR) (λz hz=>by
   rcases YJ.mp hz with rfl | hz
   ·exact YL
   obtain⟨r1,h1,rfl⟩:=JE.mp hz;exact YK _ (YW _ (JE.mpr ⟨r1,qI h1,rfl⟩))) (by simp[offW];omega)
  have l2:=Wg (k:=30) J0 f0.b1 f0.b2;refine⟨_,rfl,_,_,rfl,rfl,?_,_,rfl,b,_,rfl,sq,up f0.b1,up f0.b2,_,_,rfl,rfl,?_,rfl,some (.ref b),?_⟩
  ·rw[YQ];show _+1<=_;omega
  ·rw[YV,YQ];show _+1+_<=_;omega
  rw[Y3 er,XJ,show sOffer::((o.rs.take i).map shR++[o.rs[i]].map shR)=(sOffer::(o.rs.take i).map shR)++[shR o.rs[i]] from rfl,Yl _ _ J1];rfl
 rintro σ' Hx ⟨hx,v3,rfl⟩;rw[hx,<-lx,XV];have on_len:∀ (z:PySem.Str) (o:Option Rat),(onW z o).length<=2:=λz o=>by cases o <;> simp[onW]
 have hw1:∀ z∈sOffer::o.rs.map shR,z∈offW ns o.rs o.oa o.ob o.ev:=λz hz=>by
  rcases YJ.mp hz with rfl | hz
  ·exact YL
  exact YK _ (YW _ hz)
 have l1:=ll (sOffer::o.rs.map shR) hw1 (by simp[offW]);refine⟨λσ' H'=>H'=H/\∃ v3,σ'=[some (.ref a),some (.ref c),some (.str (Str.join ⟨#[32]⟩ (sOffer::o.rs.map shR++onW sAsk o.oa))),v3,none],?_,?_⟩
 ·refine⟨_,rfl,c,_,_,va,rfl,rfl,hc,rfl,rfl,_,rfl,?_⟩
  cases hoa:o.oa with
  | none =>
   rw[hoa] at ha;have ha:va=.non:=ha;subst ha;refine Yp (λe=>absurd e J1) λ_=>⟨rfl,v3,?_⟩;simp[onW]
  | some r0 =>
   rw[hoa] at ha;obtain⟨b,rfl,sq⟩:=ha;have f0:=ot.fa r0 hoa;have l2:=Wg (k:=30) J0 f0.b1 f0.b2;refine Yp (λ_=>?_) λe=>absurd e J1;refine⟨_,rfl,_,_,rfl,rfl,?_,_,rfl,c,_,_,.ref b,rfl,rfl,hc,rfl,b,r0,rfl,sq,up f0.b1,up f0.b2,_,_,rfl,rfl,?_,rfl,v3,?_⟩
   ·rw[YQ];show _+5<=_;omega
   ·rw[YV,YQ];show _+5+_<=_;omega
   show [some (V.ref a),some (V.ref c),some (V.str (Str.join ⟨#[32]⟩ (sOffer::o.rs.map shR)++Str.ofString " ask "++shR r0)),v3,none]=_;rw[N3 sAsk r0 J1,show Str.ofString " ask "=(⟨#[32]⟩:PySem.Str)++sAsk++⟨#[32]⟩ from rfl]
 rintro σ' Hy ⟨hy,v3,rfl⟩;rw[hy];have hw2:∀ z∈sOffer::o.rs.map shR++onW sAsk o.oa,z∈offW ns o.rs o.oa o.ob o.ev:=λz hz=>by
  rcases YY.mp hz with hz | hz
  ·exact hw1 z hz
  exact YK _ (XN _ (YW _ (by rw[W8];exact YW _ hz)))
 have l2':=ll (sOffer::o.rs.map shR++onW sAsk o.oa) hw2 (by simp[offW,W8]);refine⟨λσ' H'=>H'=H/\∃ v3,σ'=[some (.ref a),some (.ref c),some (.str (Str.join ⟨#[32]⟩ (sOffer::o.rs.map shR++onW sAsk o.oa++onW sBid o.ob))),v3,none],?_,?_⟩
 ·refine⟨_,rfl,c,_,_,vb,rfl,rfl,hc,rfl,rfl,_,rfl,?_⟩
  cases hob:o.ob with
  | none =>
   rw[hob] at hb;have hb:vb=.non:=hb;subst hb;refine Yp (λe=>absurd e J1) λ_=>⟨rfl,v3,?_⟩;simp[onW]
  | some r0 =>
   rw[hob] at hb;obtain⟨b,rfl,sq⟩:=hb;have f0:=ot.fb r0 hob;have l2:=Wg (k:=30) J0 f0.b1 f0.b2;refine Yp (λ_=>?_) λe=>absurd e J1;refine⟨_,rfl,_,_,rfl,rfl,?_,_,rfl,c,_,_,.ref b,rfl,rfl,hc,rfl,b,r0,rfl,sq,up f0.b1,up f0.b2,_,_,rfl,rfl,?_,rfl,v3,?_⟩
   ·rw[YQ];show _+5<=_;omega
   ·rw[YV,YQ];show _+5+_<=_;omega
   show [some (V.ref a),some (V.ref c),some (V.str (Str.join ⟨#[32]⟩ (sOffer::o.rs.map shR++onW sAsk o.oa)++Str.ofString " bid "++shR r0)),v3,none]=_;rw[N3 sBid r0 J1,show Str.ofString " bid "=(⟨#[32]⟩:PySem.Str)++sBid++⟨#[32]⟩ from rfl]
 rintro σ' Hz ⟨hz,v3,rfl⟩;rw[hz];have hrow:o.row ns=Str.join ⟨#[32]⟩ (sOffer::o.rs.map shR++onW sAsk o.oa++onW sBid o.ob++evW ns o.ev):=by
  unfold Ofr.row offW;rw[W8];simp
 refine⟨λσ' H'=>H'=H/\∃ v3 v4,σ'=[some (.ref a),some (.ref c),some (.str (o.row ns)),v3,v4],?_,?_⟩
 ·refine⟨_,rfl,c,_,_,ve,rfl,rfl,hc,rfl,rfl,_,rfl,?_⟩
  cases hev:o.ev with
  | none =>
   rw[hev] at he hrow;have he:ve=.non:=he;subst he;refine Yp (λe=>absurd e J1) λ_=>⟨rfl,v3,none,?_⟩;rw[hrow];simp[evW]
  | some es =>
   rw[hev] at he hrow;obtain⟨b,rfl,sq⟩:=he;have oe:=ot.ev es hev;refine Yp (λ_=>?_) λe=>absurd e J1;have hw3:∀ i,∀ z∈sOffer::o.rs.map shR++onW sAsk o.oa++onW sBid o.ob++sIf::(es.take i).map (λi=>ns.getD i ""),z∈offW ns o.rs o.oa o.ob o.ev:=λi z hz=>by
    have:z∈sOffer::o.rs.map shR++onW sAsk o.oa++onW sBid o.ob++evW ns o.ev:=by
     rcases YY.mp hz with hz | hz
     ·exact YW _ hz
     refine XN _ ?_;rw[hev];rcases YJ.mp hz with rfl | hz
     ·exact YL
     obtain⟨k,hk,rfl⟩:=JE.mp hz;exact YK _ (JE.mpr ⟨k,qI hk,rfl⟩)
    unfold offW;rw[W8]
    simpa using this
   have l3:=λi=>ll (sOffer::o.rs.map shR++onW sAsk o.oa++onW sBid o.ob++sIf::(es.take i).map λi=>ns.getD i "") (hw3 i) (by
    unfold offW;rw[W8,hev];simp[evW];omega)
   generalize hW:sOffer::o.rs.map shR++onW sAsk o.oa++onW sBid o.ob=W at l3 hrow;have wne:W≠[]:=by rw[<-hW];simp
   have l30:(Str.join ⟨#[32]⟩ W).length<=2560:=by
    have h:=l3 0;rw[show W++sIf::(es.take 0).map (λi=>ns.getD i "")=W++[sIf] from rfl,Yl _ _ wne,YV,YV] at h;omega
   refine⟨_,rfl,_,_,rfl,rfl,by rw[YQ];show _+3<=_;omega,?_⟩;refine⟨_,rfl,c,_,_,.ref b,rfl,rfl,hc,rfl,b,rfl,⟨_,sq⟩,?_⟩;refine Qb (xs:=natV es) (λi σ' H'=>H'=H/\∃ v4,σ'=[some (.ref a),some (.ref c),some (.str (Str.join ⟨#[32]⟩ (W++sIf::(es.take i).map λi=>ns.getD i ""))),v3,v4]) ⟨rfl,none,?_⟩ ?_ ?_ ?_
   ·show [some (V.ref a),some (V.ref c),some (V.str (Str.join ⟨#[32]⟩ W++Str.ofString " if")),v3,none]=_;rw[show W++sIf::(es.take 0).map (λi=>ns.getD i "")=W++[sIf] from rfl,Yl _ _ wne,jk];rfl
   ·rintro i σ' Hu _ ⟨hu,_⟩;rw[hu];exact sq
   ·rintro i x σ' Hu ex ⟨hu,v4,rfl⟩;rw[hu];rw[YI,YI] at ex
    cases ek:es[i]? with
    | none=>rw[ek] at ex;cases ex
    | some k =>
     rw[ek] at ex
     cases ex;have hk:=oe.2.2 k (YO ek);have li:=l3 i;have nk:(ns.getD k "").length<=8:=(ok.ok _ (by simp[List.getD,hk])).l2;refine⟨_,rfl,_,_,rfl,rfl,?_,_,rfl,_,rfl,a,_,_,.str (ns.getD k ""),rfl,rfl,hN,Yi (by rw[YI,YZ hk];simp[List.getD,hk]),_,_,rfl,rfl,?_,rfl,some (.int (k:Int)),?_⟩
     ·rw[YQ];show _+1<=_;omega
     ·rw[YV,YQ];show _+1+_<=_;omega
     rw[Y3 ek,XJ,show W++sIf::((es.take i).map (λi=>ns.getD i "")++[k].map λi=>ns.getD i "")=(W++sIf::(es.take i).map λi=>ns.getD i "")++[ns.getD k ""] by simp,Yl _ _ J1];rfl
   rintro σ' Hu ⟨hu,v4,rfl⟩;rw[hu,show (natV es).length=es.length by simp,XV];refine⟨rfl,v3,v4,?_⟩;rw[hrow];rfl
 rintro σ' Hw ⟨hw,v3,v4,rfl⟩;rw[hw];exact⟨_,rfl,q H (Same.refl _)⟩
end
theorem T7 {a:Addr}{D:Ends}{σ:L2.St}(Pv:Nat->L2.St->Hp->Prop)(h0:Pv 0 σ H)(hl:∀ i σ H,i<=xs.length->Pv i σ H->SqL K H a xs)
  (hs:∀ i x σ H,xs[i]?=some x->Pv i σ H->g x σ H λσ2 H2=>tb { D with nx:=Pv (i+1),ct:=Pv (i+1),bk:=D.nx } σ2 H2) (hd:∀ σ H,Pv xs.length σ H->D.nx σ H) :
  ∃ W:Nat->Nat->L2.St->Hp->Prop,(∃ m,W 0 m σ H)/\∀ i m σ H,W i m σ H →
   ((Itl K a).stop i H/\D.nx σ H) \/ ((Itl K a).go i H/\∃ N:L2.St->Hp->Prop,(∀ σ' H',N σ' H'->∃ m',m'<m/\W (i+1) m' σ' H')/\∀ x H',(Itl K a).yld i H x H'->g x σ H' λσ2 H2=>tb { D with nx:=N,ct:=N,bk:=D.nx } σ2 H2):=by
 refine⟨λi m σ H=>m=xs.length - i/\i<=xs.length/\Pv i σ H,⟨xs.length,J1,JH _,h0⟩,?_⟩;rintro i m σ H ⟨rfl,hi,p⟩;have q:=hl i σ H hi p;by_cases hlt:i<xs.length
 ·refine .inr ⟨⟨xs,xs[i],q,by simp[hlt]⟩,Pv (i+1),λσ' H' p'=>⟨xs.length - (i+1),U,rfl,hlt,p'⟩,λx H' y=>?_⟩;obtain⟨rfl,fx⟩:=y;exact hs i x σ _ (fx xs q) p
 have e:i=xs.length:=U
 subst e;exact .inl ⟨⟨xs,q,YE _⟩,hd σ H p⟩
section
variable {P:TM}{w:World}{K:TL}{mg:Tn}{base:Heap}
inductive spLines (K:TL) (vs:TQ) (H:Hp) (Q:VK) (_z3:XK):Prop
 | mk (a b:Addr) (ns:List PySem.Str) (bs:TH) (os:List Ofr) (zz0:vs=[.ref a,.ref b]) (zz1:SqL K H a (ns.map V.str)) (zz2:SqL K H b (bs.map V.ref)) (zz3:Paired (λb o=>Ofr.At o K H b) bs os) (zz4:NamesOk ns) (zz5:∀ o∈os,Ofr.T o ns.length) (zz6:os.length<=12) (zz7:∀ l H',Same H H'->H l=none->H' l=some (.lst ((rowN ns::os.map λo=>o.row ns).map V.str))->Q (.ref l) H')
theorem Jj (D:Def K mg "_law_lines" gC UH)(eY:Has P w K mg base 2 "_law_line" UG (spShowOffer K)):Has P w K mg base 3 "_law_lines" UH (spLines K):=by
 refine D.h9 (N:=["_law_names_here","_law_offers","_law_line_here","_law_name"]) fsc λH Q hr h nd=>?_;obtain⟨a,b,ns,bs,os,rfl,hN,hB,pr,ok,hT,lo,q⟩:=h;have nd1:(["_law_offer","_law_names_here"]:List Str).Nodup:=J2
 refine⟨_,(Z3 (Z7 (i:=2) nd rfl (Or.inl rfl) Zj)
  (Z3 (W7 GF rfl (Xk (pv 0)) (Zq (i:=3) nd rfl (Or.inl rfl))
   (Z6 (Z7 (i:=2) nd rfl (Or.inl rfl) (Zc Zo (Zc Zo (pv 2) Zj) (pv 3)))))
  (Z6 (Za (Zc Tz (Yk (Z0 (pv 2) Z2)) (Ye (ox:=none) (N:=["_law_offer","_law_names_here"]) (k:=1) (fv:=[0]) rfl (Xk (pv 1))
  (λ_ _ _ _ _=>Zq (i:=0) nd1 rfl (Or.inl rfl)) (λ_ _ _ _ _=>Yc) (λ_ _ _ _ _=>(Zf eY hr (Z0 (pv 1) (Z0 (pv 0) Z2)))) Zt)))))),?_⟩
 have l2:=ok.l2;have lb:=JK pr;refine⟨_,rfl,a,rfl,⟨_,hN⟩,?_⟩;refine T7 (xs:=ns.map V.str) (λi σ' H'=>H'=H/\∃ v3,σ'=[some (.ref a),some (.ref b),some (.str (Str.join ⟨#[32]⟩ (Str.ofString "worlds"::ns.take i))),v3]) ⟨rfl,none,rfl⟩ ?_ ?_ ?_
 ·rintro i σ' Hu _ ⟨hu,_⟩;rw[hu];exact hN
 ·rintro i x σ' Hu ex ⟨hu,v3,rfl⟩;rw[hu];rw[YI] at ex
  cases ek:ns[i]? with
  | none=>rw[ek] at ex;cases ex
  | some z =>
   rw[ek] at ex
   cases ex;have nz:=(ok.ok z (YO ek)).l2;have lj:=Y5 (c:=32) (m:=8) (ws:=Str.ofString "worlds"::ns.take i) λz hz=>by
    rcases YJ.mp hz with rfl | hz
    ·decide
    exact (ok.ok z (qI hz)).l2
   rw[YS,XS] at lj;have lj2:(min i ns.length+1)*(8+1)<=13*9:=JB _ U;refine⟨_,rfl,_,_,rfl,rfl,?_,_,rfl,_,_,rfl,rfl,?_,rfl,some (.str z),?_⟩
   ·rw[YQ];show _+1<=_;omega
   ·rw[YV,YQ];show _+1+_<=_;omega
   rw[Y3 ek,show Str.ofString "worlds"::(ns.take i++[z])=(Str.ofString "worlds"::ns.take i)++[z] from rfl,Yl _ _ J1];rfl
 rintro σ' Hu ⟨hu,v3,rfl⟩;rw[hu,YC,XV];refine⟨_,rfl,by show 1<=sizeLine;decide,λp1 f1=>?_⟩;have S1:Same H (upd H p1 (.lst [.str (rowN ns)])):=Same.new f1;refine Tc (ys:=os.map λo=>V.str (o.row ns)) (λG g=>⟨_,rfl,g⟩) (Zz S1 hB) (by rw[YC];omega) (by rw[YC,YC];omega) (λi x y H5 G ex ey S5 g=>?_) λd H5 hd S5 e5=>?_
 ·rw[YI] at ex ey
  cases eo:os[i]? with
  | none=>rw[eo] at ey;cases ey
  | some o =>
   cases eb:bs[i]? with
   | none=>rw[eb] at ex;cases ex
   | some b0 =>
    rw[eb] at ex;rw[eo] at ey
    cases ex
    cases ey;have hA:=Paired.getB pr eb eo;exact⟨_,rfl,_,rfl,a,b0,ns,o,rfl,Zz (S1.trans S5) hN,OffAt.ext hA (Ext.same (S1.trans S5)),ok,hT o (YO eo),λH6 S6=>g H6 S6⟩
 refine⟨p1,d,_,_,rfl,rfl,S5 _ _ Z5,e5,by rw[YC,YQ];show 1+_<=_;omega,λl fl=>?_⟩;refine q l _ ((S1.trans S5).trans (Same.new fl)) (Vl (S1.trans S5) fl) ?_;rw[Z5];simp[Function.comp,rowN]
theorem Jd (D:Def K mg "_law_whole" fZ UI)(T:Blt mg):Has P w K mg base 1 "_law_whole" UI spWhole:=by
 refine D.h9 (N:=UI) fsc λH Q hr h nd=>?_;obtain⟨i,rfl,q⟩:=h;refine⟨_,(Z6 (Za (Tu (Z9 Yb rfl T.isinstance YU (Z0 (pv 0) (Z0 (Xq T.int zd) Z2))) (Tt (Lv (Z9 Yb rfl T.isinstance YU (Z0 (pv 0) (Z0 (Xq T.bool jr) Z2)))))))),?_⟩;refine⟨_,rfl,_,_,_,_,rfl,TyOf.int i,Yg,_,rfl,Wb ?_⟩;exact⟨_,rfl,_,_,_,_,rfl,TyOf.int i,Wp,_,rfl,q⟩
inductive spIs2 (K:TL) (vs:TQ) (H:Hp) (Q:VK) (_z3:XK):Prop
 | mk (a b:Addr) (r:Rat) (zz0:vs=[.ref a,.ref b]) (zz1:SqT K H a [.int r.1,.int r.2]) (zz2:SqT K H b [.int r.1,.int r.2]) (zz3:Q (.bl true) H)
theorem Dc (D:Def K mg "_law_is" sIs UJ)(T:Blt mg)(eF:Has P w K mg base 1 "_law_whole" UI spWhole):Has P w K mg base 2 "_law_is" UJ (spIs2 K):=by
 refine D.h9 (N:=UJ) fsc λH Q hr h nd=>?_;obtain⟨a,b,r,rfl,hA,hB,q⟩:=h;have hU:=zW (Dm hr);refine⟨_,(Z3 (Zr (PW.pt (Y4 (Y7 (Y6 (Z9 Yo rfl T.isinstance YU (Z0 (pv 0) (Z0 (Xq T.tuple XW) Z2))))) (Y4 (Z8 W5 (Z9 Zg rfl T.len JR (Z0 (pv 0) Z2)) Z4 (Ze _)) (Y4 (Y7 (Y6 (Zf eF hr (Z0 (Zd Xw (pv 0) Z4 (λ_ _=>rfl)) Z2)))) (Ym (Y7 (Y6 (Zf eF hr (Z0 (Zd Xs (pv 0) Z4 (λ_ _=>rfl)) Z2)))))))))
   (Z6 (Za Xv))
   Zh)
  (Z6 (Za (Vh (Fh (K:=K) hU) (pv 0) (pv 1) (Ze _))))),?_⟩
 refine⟨_,rfl,_,_,_,_,rfl,hA,Yg,_,rfl,Y2 ?_⟩;refine⟨_,rfl,a,_,rfl,.inr hA,rfl,_,rfl,Kb rfl ?_⟩;refine⟨_,rfl,_,_,_,rfl,rfl,hA,_,rfl,_,rfl,Y2 ?_⟩;refine⟨_,rfl,_,_,_,rfl,rfl,hA,_,rfl,_,rfl,Y2 ?_⟩;refine⟨_,rfl,_,rfl,a,b,[r.1,r.2],[r.1,r.2],rfl,rfl,hA,hB,?_⟩;rw[XC rfl];exact q
end
def Az (z:PySem.Str):Prop:=∀ c∈z.cps.toList,97<=c/\c<=122
theorem Q8:∀ {ws:List PySem.Str},(∀ w∈ws,Az w)->Az (Str.join Str.empty ws)
 | [],_=>λc hc=>by cases hc
 | [w],h=>h w YL
 | w::v::ws,h=>by
  intro c hc;rw[Xf,Zp,Zp] at hc;rcases YY.mp hc with hc | hc
  ·rcases YY.mp hc with hc | hc
   ·exact h w YL c hc
   cases hc
  exact Q8 (λx hx=>h x (YK _ hx)) c hc
theorem T5 {m:Nat}:∀ {ws:List PySem.Str},(∀ w∈ws,w.length<=m)->(Str.join Str.empty ws).length<=ws.length*m
 | [],_=>JH _
 | [w],h=>by
  have:=h w YL;show w.length<=_;simp;exact this
 | w::v::ws,h=>by
  have a:=h w YL;have b:=T5 (ws:=v::ws) λx hx=>h x (YK _ hx);rw[Xf,YV,YV,YS,jV];show w.length+0+_<=_;omega
theorem T8 {m:Nat}:∀ {ws:List PySem.Str} {k:Nat},(∀ w∈ws,w.length<=m)->ws.foldl (λacc w=>acc+w.length+Str.empty.length) k<=k+ws.length*(m+1)
 | [],k,_=>J1
 | w::ws,k,h=>by
  have a:=h w YL;have b:=T8 (ws:=ws) (k:=k+w.length+0) λx hx=>h x (YK _ hx);rw[List.foldl_cons,YS,jV];show ws.foldl _ (k+w.length+0)<=_;omega
theorem Jq {m:Nat}{ws:List PySem.Str}(h:∀ w∈ws,w.length<=m)(hl:ws.length*(m+1)<=1000000):JoinOk Str.empty ws=true:=by
 have:=T8 (k:=0) h;unfold JoinOk PySem.Builtin.Str.tooLong;rw[jX]
 ·simp;have e:sizeLine=16777216:=YQ;omega
 rfl
theorem Ku:∀ t:Fin 26,(Str.ofString "abcdefghijklmnopqrstuvwxyz").cps.toList[t.val]?=some (97+t.val):=by decide
section
variable {P:TM}{w:World}{K:TL}{mg:Tn}{base:Heap}
inductive spLetters (vs:TQ) (H:Hp) (Q:VK) (_z3:XK):Prop
 | mk (b:Addr) (n:Nat) (zz0:vs=[.ref b,.int 8]) (zz1:BagAt H b n) (zz2:n<=1000000) (zz3:∀ (z:PySem.Str) (H':Hp),BagAt H' b (n+9)->SameX b H H'->Az z->z.length<=7->Q (.str z) H')
theorem M7 (D:Def K mg "_law_letters" fT UK)(T:BltT mg)(eA:Z1 P w K mg base):Has P w K mg base 2 "_law_letters" UK spLetters:=by
 refine D.h9 (N:=["_law_bag_here","_law_most","_law_letters_here"]) fsc λH Q hr h nd=>?_;obtain⟨b,n,rfl,hB,hn,k⟩:=h;have nd1:(["_law_k","_law_bag_here","_law_letters_here"]:List Str).Nodup:=J2
 refine⟨_,(Z3 (Z7 (i:=2) nd rfl (Or.inr rfl) Zj)
  (Z6 (Za (Y9 XX qf qg (Wo (K:=K)) Zj (Z0 (Ye (ox:=none) (N:=["_law_k","_law_bag_here","_law_letters_here"]) (k:=1) (fv:=[0,2]) rfl (Yq rfl T.range (Z0 (Zf eA hr (Z0 (pv 0) (Z0 (pv 1) Z2))) Z2))
  (λ_ _ _ _ _=>Zq (i:=0) nd1 rfl (Or.inl rfl)) (λ_ _ _ _ _=>Yc) (λ_ _ _ _ _=>(Zd Ka (pv 2) (Zf eA hr (Z0 (pv 1) (Z0 Z4 Z2))) (λ_ _=>rfl))) Zt) Z2))))),?_⟩
 refine⟨rfl,_,rfl,_,rfl,b,_,n,rfl,hB,U,J0,J2,λm H1 m0 m1 B1 S1=>?_⟩;refine⟨m,rfl,U,U,λd hd=>?_⟩;have hdb:d≠b:=by
  obtain⟨ys,e⟩:=B1.lst;exact (Zb e hd).symm
 have mt:m.toNat<=7:=U
 generalize m.toNat=mm at mt;refine⟨mm,λi ys H2=>∃ ws:List PySem.Str,ys=ws.map V.str/\ws.length=i/\(∀ w∈ws,Az w/\w.length<=1)/\BagAt H2 b (n+1+i)/\SameX b H1 H2,Xt U,⟨[],rfl,rfl,(λ_ h=>nomatch h),B1.upd (GM hdb),SameX.of (Same.new hd)⟩,?_,?_⟩
 ·rintro i ys H2 hi ⟨ws,rfl,lw,hw,B2,S2⟩ hd2;refine⟨hi,?_⟩;rintro x H3 ⟨rfl,rfl⟩;refine Yx ?_;refine⟨_,rfl,_,rfl,b,_,_,rfl,B2,U,J0,J2,λj H4 j0 j1 B4 S4=>?_⟩;obtain⟨t,rfl⟩:=JG j0;have ht:t<26:=U
  have hd4:H4 d=some (.lst (ws.map V.str)):=S4 _ _ hd2 hdb;refine⟨_,_,97+t,rfl,rfl,J0,Yi (Ku ⟨t,ht⟩),hd4,ws++[⟨#[97+t]⟩],by rw[XJ];rfl,by rw[XF,lw];rfl,λz hz=>?_,(B4.upd (GM hdb)).mono U,λq o e ne=>?_⟩
  ·rcases YY.mp hz with hz | hz
   ·exact hw z hz
   rw[qc.mp hz];refine⟨λc hc=>?_,YE _⟩;have:c=97+t:=by simpa using hc
   omega
  have e2:=S4 q o (S2 q o e ne) ne;rw[Zi (Zb e hd)];exact e2
 rintro ys H2 ⟨ws,rfl,lw,hw,B2,S2⟩ hd2;have l1:=T5 (m:=1) (ws:=ws) λz hz=>(hw z hz).2;refine⟨YE _,_,d,ws,rfl,rfl,SqL.of hd2,Jq (m:=1) (λz hz=>(hw z hz).2) U,?_⟩;rw[Wq];exact k _ H2 (B2.mono U) (S1.trans S2) (Q8 λz hz=>(hw z hz).1) (by show (Str.join Str.empty ws).length<=7;omega)
end
def rowWords:List PySem.Str:=["offer","ask","bid","if","worlds","for","book","judge","price","join","thin","learn"].map Str.ofString
def wayWord (first k:Nat):PySem.Str:=rowWords.getD ((first+5*k) % 12) ""
def waySign (base:PySem.Str)(at' first k:Nat):PySem.Str:=⟨(base.cps.toList.take at'++(97+(first+k) % 26)::base.cps.toList.drop at').toArray⟩
theorem Rh:∀ z∈rowWords,(1<=z.length/\z.length<=8)/\(z.cps.toList.all λc=>decide (97<=c) && decide (c<=122))=true:=by decide
theorem Va:rowWords.Nodup:=by decide
theorem Qk (first k:Nat):NameOk (wayWord first k):=by
 have h:wayWord first k∈rowWords:=by
  have:(first+5*k) % 12<rowWords.length:=zh _ J0;unfold wayWord;rw[List.getD,YZ this];exact List.getElem_mem this
 obtain⟨⟨a,b⟩,c⟩:=Rh _ h;refine⟨a,b,λd hd=>?_⟩;have:=GU.mp c d hd
 simpa using this
theorem Sz {first i:Nat}(hi:i<12)(hj:j<12)(h:wayWord first i=wayWord first j):i=j:=by
 have li:(first+5*i) % 12<rowWords.length:=zh _ J0;have lj:(first+5*j) % 12<rowWords.length:=zh _ J0;unfold wayWord at h;rw[List.getD,List.getD,YZ li,YZ lj] at h;have e:(first+5*i) % 12=(first+5*j) % 12:=by
  rcases Nat.lt_trichotomy ((first+5*i) % 12) ((first+5*j) % 12) with z | z | z
  ·exact absurd h ((JN.mp Va) _ _ li lj z)
  ·exact z
  exact absurd h.symm ((JN.mp Va) _ _ lj li z)
 omega
theorem Ql {base:PySem.Str}{at' first k:Nat}(h:Az base)(hl:base.length<=7):NameOk (waySign base at' first k):=by
 have lb:base.cps.toList.length<=7:=by rw[<-Zk];exact hl
 have l:(waySign base at' first k).length=base.cps.toList.length+1:=by
  rw[Zk];show (base.cps.toList.take at'++(97+(first+k) % 26)::base.cps.toList.drop at').length=_;rw[XF,YS,XS,qv];omega
 refine⟨U,U,λc hc=>?_⟩;have hc:c∈base.cps.toList.take at'++(97+(first+k) % 26)::base.cps.toList.drop at':=hc;rcases YY.mp hc with hc | hc
 ·exact h c (qI hc)
 rcases YJ.mp hc with rfl | hc
 ·omega
 exact h c (List.mem_of_mem_drop hc)
theorem R0 {base:PySem.Str}{at' first i:Nat}(hi:i<12)(hj:j<12)(h:waySign base at' first i=waySign base at' first j):i=j:=by
 have h2:base.cps.toList.take at'++(97+(first+i) % 26)::base.cps.toList.drop at'=base.cps.toList.take at'++(97+(first+j) % 26)::base.cps.toList.drop at':=congrArg (λz:PySem.Str=>z.cps.toList) h;have h3:=List.append_cancel_left h2;have h4:97+(first+i) % 26=97+(first+j) % 26:=by injection h3
 omega
theorem Q2 {g:Nat->PySem.Str}(h:∀ k,NameOk (g k))(inj:∀ i j,i<12->j<12->g i=g j->i=j)(l1:2<=c)(l2:c<=12):NamesOk ((List.range c).map g):=by
 refine⟨?_,by simpa using l1,by simpa using l2,λz hz=>?_⟩
 ·rw[qd,qC];refine (z3 (n:=c)).imp_of_mem λ{a b} ha hb hab e=>?_;have:=inj a b (by have:=qr.mp ha;omega) (by have:=qr.mp hb;omega) e;omega
 obtain⟨k,_,rfl⟩:=JE.mp hz;exact h k
theorem Nu {c:Const}{k:Nat}:starEach (.Constant c k pos::es) env=(false,eval (.Constant c k pos) env)::starEach es env:=rfl
def isS:Expr->Option PySem.Str
 | .Constant (.str i) _ _=>some i
 | _=>none
theorem Jr {e:Expr}{i:PySem.Str}(h:isS e=some i):∃ k p,e=.Constant (.str i) k p:=by
 unfold isS at h;split at h
 ·cases h;exact⟨_,_,rfl⟩
 cases h
theorem N2 {X:Cx}:∀ (ns:List PySem.Str) (es:TJ),es.map isS=ns.map some->PA X es (λ_ H Q=>Q (ns.map V.str) H)
 | [],[],_=>Z2
 | [],_::_,h=>by cases h
 | _::_,[],h=>by cases h
 | n::ns,e::es,h=>by
  rw[zm,zm] at h;injection h with h1 h2
  obtain⟨k,p,rfl⟩:=Jr h1;exact Z0 (X:=X) (Zj (x:=n)) (N2 ns es h2) Nu
theorem Ja {X:Cx}{es:TJ}{pos:Pos}(ns:List PySem.Str)(h:es.map isS=ns.map some):PE X (.List es pos) (λ_ H Q=>(ns.map V.str).length<=sizeLine/\∀ p,H p=none->Q (.ref p) (upd H p (.lst (ns.map V.str)))) :=
 Yk (N2 ns es h)
theorem Gs {t:Option Expr}{n:Nat}:swapsWith (.List es pos) t n env=pure false:=rfl
section
variable {P:TM}{w:World}{K:TL}{mg:Tn}{base:Heap}
theorem Ua (z:PySem.Str)(a b:Nat):(cutS z a b).length<=z.length:=by
 rw[Zk,Zk];show ((z.cps.toList.drop a).take (b - a)).length<=_;rw[XS,qv];omega
inductive spNames (vs:TQ) (H:Hp) (Q:VK) (_z3:XK):Prop
 | mk (b:Addr) (c n:Nat) (zz0:vs=[.ref b,.int c]) (zz1:BagAt H b n) (zz2:n<=900000) (zz3:2<=c) (zz4:c<=12) (zz5:∀ (l:Addr) (H':Hp) (ns:List PySem.Str),BagAt H' b (n+12)->SameX b H H'->H' l=some (.lst (ns.map V.str))->H l=none->NamesOk ns->ns.length=c->Q (.ref l) H')
theorem Ji (D:Def K mg "_law_names" gB UE)(T:BltT mg)(eA:Z1 P w K mg base)(eP:Has P w K mg base 2 "_law_letters" UK spLetters):Has P w K mg base 3 "_law_names" UE spNames:=by
 refine D.h9 (N:=["_law_bag_here","_law_count","_law_words","_law_way","_law_base","_law_at","_law_first","_law_names_here","_law_k","_law_sign"]) fsc λH Q hr h nd=>?_;obtain⟨b,c,n,rfl,hB,hn,hc,hc2,k⟩:=h;refine⟨_,(@Z3 _ _ _ _ _ (@Z7 _ _ 2 _ _ _ _ nd rfl (Or.inl rfl) (@Ja _ _ _ rowWords rfl) Gs (by first | exact .inl rfl | exact .inr rfl))
  (Z3 (Z7 (i:=3) nd rfl (Or.inl rfl) (Zf eA hr (Z0 (pv 0) (Z0 Z4 Z2))))
  (Z3 (Z7 (i:=4) nd rfl (Or.inl rfl) (Zf eP hr (Z0 (pv 0) (Z0 Z4 Z2))))
  (Z3 (Z7 (i:=5) nd rfl (Or.inl rfl) (Zf eA hr (Z0 (pv 0) (Z0 Z4 Z2))))
  (Z3 (Z7 (i:=6) nd rfl (Or.inl rfl) (Zf eA hr (Z0 (pv 0) (Z0 Z4 Z2))))
  (Z3 (Z7 (i:=7) nd rfl (Or.inl rfl) (Yk Z2))
  (Z3 (W7 GF rfl (Yq rfl T.range (Z0 (pv 1) Z2)) (Zq (i:=8) nd rfl (Or.inl rfl))
   (Z6 (Zr (Z8 Xr (pv 3) Z4 (Ze _))
    (Z6 (Yt (Y9 XI JS JT Ys (pv 7) (Z0 (Zd Y1 (pv 2) (Zc Yv (Zc Yn (pv 6) (Zc Ya Z4 (pv 8))) Z4) (λ_ _=>rfl)) Z2))))
    (Z3 (Z7 (i:=9) nd rfl (Or.inl rfl) (Zd Ka Zj (Zc Yv (Zc Yn (pv 6) (pv 8)) Z4) (λ_ _=>rfl)))
    (Z6 (Yt (Y9 XI JS JT Ys (pv 7) (Z0 (Zc Zo (Zc Zo (Yf Qr (pv 4) Yd (Y0 (pv 5))) (pv 9)) (Yf Qr (pv 4) (Y0 (pv 5)) Yd)) Z2))))))))
  (Z6 (Za (pv 7)))))))))),?_⟩
 refine⟨by show 12<=sizeLine;decide,λp1 f1=>?_⟩;have p1b:p1≠b:=by
  obtain⟨ys,e⟩:=hB.lst;exact (Zb e f1).symm
 have S1:Same H (upd H p1 (.lst (rowWords.map V.str))):=Same.new f1;have e1:upd H p1 (.lst (rowWords.map V.str)) p1=some (.lst (rowWords.map V.str)):=Z5;have B1:=hB.same S1;generalize upd H p1 (.lst (rowWords.map V.str))=H1 at S1 e1 B1;refine⟨_,rfl,b,_,n,rfl,B1,U,J0,J2,λway H2 w0 w1 B2 S2=>?_⟩;refine⟨_,rfl,b,n+1,rfl,B2,U,λz H3 B3 S3 az lz=>?_⟩;refine⟨_,rfl,b,_,n+1+9,rfl,B3,U,J0,J2,λat' H4 a0 a1 B4 S4=>?_⟩;obtain⟨t,rfl⟩:=JG a0;refine⟨_,rfl,b,_,n+1+9+1,rfl,B4,U,J0,J2,λfi H5 i0 i1 B5 S5=>?_⟩;obtain⟨fst,rfl⟩:=JG i0;have X5:SameX b H H5:=((((SameX.of S1).trans S2).trans S3).trans S4).trans S5;have g1:H5 p1=some (.lst (rowWords.map V.str)):=S5 _ _ (S4 _ _ (S3 _ _ (S2 _ _ e1 p1b) p1b) p1b) p1b;refine⟨by show 0<=sizeLine;decide,λl fl=>?_⟩;have lb:l≠b:=by
  obtain⟨ys,e⟩:=B5.lst;exact (Zb e fl).symm
 have lp:p1≠l:=Zb g1 fl;have fl0:H l=none:=by
  cases e:H l with
  | none=>rfl
  | some o=>exact absurd (X5 _ _ e lb) (by rw[fl];simp)
 refine⟨_,rfl,(c:Int),rfl,U,U,?_⟩;have et:(c:Int).toNat=c:=U
 rw[et];refine T6 (lo:=0) (n:=c) (λi σ H'=>(∃ x8 x9,σ=[some (.ref b),some (.int c),some (.ref p1),some (.int way),some (.str z),some (.int (t:Int)),some (.int (fst:Int)),some (.ref l),x8,x9])/\BagAt H' b (n+12)/\SameX b H H'/\H' p1=some (.lst (rowWords.map V.str))/\H' l=some (.lst (((List.range i).map (if way=0 then wayWord fst else waySign z t fst)).map V.str))) ?_ ?_ ?_
 ·exact⟨⟨none,none,rfl⟩,B5.upd (GM lb),X5.trans (SameX.of (Same.new fl)),by rw[Zi lp];exact g1,Z5⟩
 ·rintro i σ H6 hi ⟨⟨x8,x9,rfl⟩,B6,X6,e6,l6⟩;have e0:(0+(i:Int))=((i:Nat):Int):=U
  rw[e0];refine Xc ?_;dsimp only;refine⟨_,rfl,rfl,_,rfl,Yp (λe=>?_) λe=>?_⟩
  ·have e:way=0:=by simpa using e
   refine⟨_,rfl,.inl ⟨rfl,_,SqL.of l6⟩,?_⟩;have em:((fst:Int)+5*(i:Int)) % 12=(((fst+5*i) % 12:Nat):Int):=U
   have hw:rowWords[(fst+5*i) % 12]?=some (wayWord fst i):=by
    have:(fst+5*i) % 12<rowWords.length:=zh _ J0;unfold wayWord;rw[List.getD,YZ this];rfl
   refine⟨_,rfl,_,rfl,_,rfl,_,_,rfl,rfl,Pb J0 J0,_,_,rfl,rfl,_,_,rfl,rfl,J0,?_⟩;show rIxL _ _ (V.int (((fst:Int)+5*(i:Int)) % 12)) _ _;rw[em];refine⟨p1,_,_,.str (wayWord fst i),rfl,rfl,SqL.of e6,Yi (by rw[YI,hw];rfl),l,_,_,rfl,rfl,l6,by rw[YC,YC,List.length_range,YQ];omega,?_⟩;refine⟨⟨_,_,rfl⟩,B6.upd (GM lb),?_,by rw[Zi lp];exact e6,?_⟩
   ·exact λq o e ne=>by rw[Zi (Zb e fl0)];exact X6 q o e ne
   rw[Z5,XQ e,zB,XJ,XJ];rfl
  have e:¬ way=0:=by simpa using e
  rw[XD e] at l6;have em:((fst:Int)+(i:Int)) % 26=(((fst+i) % 26:Nat):Int):=U
  refine⟨_,rfl,_,rfl,_,_,rfl,rfl,_,_,rfl,rfl,J0,?_⟩;show rIxS _ (V.int (((fst:Int)+(i:Int)) % 26)) _ _;rw[em];refine⟨_,_,97+(fst+i) % 26,rfl,rfl,J0,Yi (Ku ⟨(fst+i) % 26,zh _ J0⟩),?_⟩;refine Xc ?_;have lz':z.cps.toList.length<=7:=by rw[<-Zk];exact lz
  refine⟨_,rfl,.inl ⟨rfl,_,SqL.of l6⟩,?_⟩;refine⟨_,rfl,Yr ⟨_,rfl,_,rfl,_,none,some t,rfl,rfl,rfl,?_,U,_,rfl,_,_,rfl,rfl,?_,_,rfl,_,rfl,_,rfl,Yr ⟨_,some t,none,rfl,rfl,rfl,?_,U,_,_,rfl,rfl,?_,l,_,_,rfl,rfl,l6,by rw[YC,YC,List.length_range,YQ];omega,?_⟩⟩⟩
  ·show min 0 z.length<=min t z.length;omega
  ·rw[YQ];have:=Ua z 0 (min t z.length);show (cutS z 0 (min t z.length)).length+1<=_;omega
  ·show min t z.length<=min z.length z.length;omega
  ·rw[YQ,YV];have:=Ua z 0 (min t z.length);have:=Ua z (min t z.length) (min z.length z.length);show (cutS z 0 (min t z.length)).length+1+(cutS z (min t z.length) (min z.length z.length)).length<=_;omega
  have ew:cutS z 0 (min t z.length)++(⟨#[97+(fst+i) % 26]⟩:PySem.Str)++cutS z (min t z.length) (min z.length z.length)=waySign z t fst i:=by
   apply Yj;rw[Zp,Zp];show (z.cps.toList.drop 0).take (min t z.length - 0)++[97+(fst+i) % 26]++(z.cps.toList.drop (min t z.length)).take (min z.length z.length - min t z.length)=z.cps.toList.take t++(97+(fst+i) % 26)::z.cps.toList.drop t;rw[Zk,zL,Y07,JM (l:=z.cps.toList.drop _) (by rw[qv];omega)];rcases Nat.le_total t z.cps.toList.length with h | h
   ·rw[GE h];simp
   rw[Nat.min_eq_right h,JM (i:=t) h,List.drop_of_length_le (i:=t) h,XV,List.drop_length];simp
  refine⟨⟨_,_,rfl⟩,B6.upd (GM lb),?_,by rw[Zi lp];exact e6,?_⟩
  ·exact λq o e ne=>by rw[Zi (Zb e fl0)];exact X6 q o e ne
  rw[Z5,XD e,zB,XJ,XJ];exact congrArg (λq=>some (HO.lst (((List.range i).map (waySign z t fst)).map V.str++[V.str q]))) ew
 rintro σ H6 ⟨⟨x8,x9,rfl⟩,B6,X6,e6,l6⟩;refine⟨_,rfl,k l H6 _ B6 X6 l6 fl0 ?_ J1⟩;by_cases h:way=0
 ·rw[XQ h];exact Q2 (Qk fst) (λi j hi hj e=>Sz hi hj e) hc hc2
 rw[XD h];exact Q2 (λk=>Ql az lz) (λi j hi hj e=>R0 hi hj e) hc hc2
end
section
variable {X:Cx}{K:TL}
theorem Fg (hu:X.A.units+64<cLine)(hK:X.K=K:=by rfl):OpR X (compareOp .Eq) (rAlike K true):=by
 subst hK;intro pins s σ H x y v u Q I rx ry h;obtain⟨n,a,b,xs,ys,rfl,rfl,hn,h,p,q⟩:=h
 cases rx
 cases ry;have lp:=JK p;rcases h with ⟨h1,h2⟩ | ⟨h1,h2⟩
 ·obtain⟨i1,r1,p1,_⟩:=I.list h1;obtain⟨i2,r2,p2,_⟩:=I.list h2;have l1:=r1.length;have l2:=r2.length;refine SeqAt.RcAt.lists (A:=X.A) (e:=λ_=>true) p1.isList p2.isList (by simp;omega) U (λj h1 h2=>Xb I (by show X.A.units+1+n<cLine;omega) p r1 r2 j h1 h2) _ _ _ _ ?_;rw[Xi];exact⟨.bl true,H,I,rfl,q⟩
 obtain⟨i1,r1,p1,_⟩:=I.tuple h1;obtain⟨i2,r2,p2,_⟩:=I.tuple h2;have l1:=r1.length;have l2:=r2.length;refine zY (A:=X.A) (e:=λ_=>true) p1 p2 U (λj h1 h2=>Xb I (by show X.A.units+1+n<cLine;omega) p r1 r2 j h1 h2) _ _ _ _ ?_;have e:(i1.toArray.size == i2.toArray.size)=true:=by simp;omega
 rw[Xi,e];exact⟨.bl true,H,I,rfl,q⟩
end
section
variable {K:TL}
theorem Pm {p:V->Bool}{k:Nat}{fv:List Nat}{σ:L2.St}{H0:Hp}{Q:VK}
  (htl:∀ G:VK,G (.ref l) H->tl σ H0 G) (hl:SqT K H l xs) (hz:xs.length<=1000)
  (test:∀ (i:Nat) (x:V) (H1:Hp) (G:Bool->Hp->Prop),xs[i]?=some x->Same H H1->(∀ H2,Same H1 H2->G (p x) H2)->tt ((comp0 k fv σ).set 0 (some x)) H1 G)
  (h0:((comp0 k fv σ).length≠0))
  (fin:∀ (d:Addr) (H2:Hp),H d=none->Same H H2->H2 d=some (.lst (xs.filter p))->Q (.ref d) H2) :
  tComp (iTup K tl) (gName 0) tt (tVar 0) k fv σ H0 Q:=by
 refine htl _ ⟨l,rfl,⟨_,hl⟩,λd hd=>?_⟩;refine⟨xs.length,λi ys H2=>Same H H2/\ys=(xs.take i).filter p,XA hz J0,⟨Same.new hd,rfl⟩,?_,?_⟩
 ·rintro i ys H2 hi ⟨S2,rfl⟩ hd2;have hl2:=Zw S2 hl;have ex:xs[i]?=some xs[i]:=by simp[hi]
  generalize xs[i]=x at ex;refine⟨⟨_,x,hl2,ex⟩,?_⟩;rintro y H3 ⟨rfl,fx⟩;have e:=fx _ hl2;rw[ex] at e
  cases e;refine Q1 ?_;refine test i x H3 _ ex S2 λH4 S4=>?_;have hd4:=S4 _ _ hd2;have S24:=S2.trans S4;have fs:=Mp (p:=p) ex;by_cases e:p x=true
  ·rw[e];rw[XQ e] at fs;have hgd:((comp0 k fv σ).set 0 (some x))[0]?=some (some x):=by
    rw[qW U]
   exact Wb ⟨x,hgd,hd4,Zv S24 hd,fs.symm⟩
  have e':p x=false:=by simpa using e
  rw[e'];rw[XD e,zu] at fs;exact Y2 ⟨hd4,S24,fs.symm⟩
 rintro ys H2 ⟨S2,rfl⟩ hd2;rw[XV] at hd2;exact⟨⟨_,Zw S2 hl,YE _⟩,fin d H2 hd S2 hd2⟩
theorem Pn {p:V->Bool}{k:Nat}{fv:List Nat}{σ:L2.St}{Q:VK}
  (htl:∀ G:VK,(∀ l,H l=none->G (.ref l) (upd H l (.tup xs)))->tl σ H G) (hz:xs.length<=1000)
  (test:∀ (i:Nat) (x:V) (H1:Hp) (G:Bool->Hp->Prop),xs[i]?=some x->Same H H1->(∀ H2,Same H1 H2->G (p x) H2)->tt ((comp0 k fv σ).set 0 (some x)) H1 G)
  (h0:((comp0 k fv σ).length≠0))
  (fin:∀ (d:Addr) (H2:Hp),Same H H2->H2 d=some (.lst (xs.filter p))->Q (.ref d) H2) :
  tComp (iTup K tl) (gName 0) tt (tVar 0) k fv σ H Q :=
 htl _ λl hl=>Pm (K:=K) (tl:=λ_ _ G=>G (.ref l) (upd H l (.tup xs))) (H:=upd H l (.tup xs)) (H0:=H) (tt:=tt) (p:=p) (λ_ g=>g) (SqT.of Z5) hz (λi x H1 G e S g=>test i x H1 G e ((Same.new hl).trans S) g) h0 λd H2 _ S e=>fin d H2 ((Same.new hl).trans S) e
theorem Rg {H:Hp}:∀ {rs:TR} {xs ys:TQ},Rs K H rs xs->Rs K H rs ys->Paired (EqU K H 1) xs ys
 | _,_,_,.nil,.nil=>.nil
 | _,_,_,.cons ⟨a,ea,qa⟩ r,.cons ⟨b,eb,qb⟩ t=>.cons (.inr ⟨a,b,_,_,ea,eb,.inr ⟨qa,qb⟩,.cons ⟨rfl,rfl⟩ (.cons ⟨rfl,rfl⟩ .nil)⟩) (Rg r t)
theorem Rp {H:Hp}{o:Option Rat}{v v':V}(h:PrAt K H v o)(h':PrAt K H v' o):EqU K H 2 v v':=by
 cases o with
 | none =>
  have h:v=.non:=h;have h':v'=.non:=h';subst h h';exact EqU.flat rfl
 | some r =>
  obtain⟨c,rfl,q⟩:=h;obtain⟨c',rfl,q'⟩:=h';exact .inr ⟨c,c',_,_,rfl,rfl,.inr ⟨q,q'⟩,.cons (EqU.flat rfl) (.cons (EqU.flat rfl) .nil)⟩
theorem Kj {H:Hp}{o:Option (List Nat)}{v v':V}(h:EvT K H v o)(h':EvT K H v' o):EqU K H 2 v v':=by
 cases o with
 | none =>
  have h:v=.non:=h;have h':v'=.non:=h';subst h h';exact EqU.flat rfl
 | some r =>
  obtain⟨c,rfl,q⟩:=h;obtain⟨c',rfl,q'⟩:=h';exact .inr ⟨c,c',_,_,rfl,rfl,.inr ⟨q,q'⟩,Xx λx hx=>by
   obtain⟨n,_,rfl⟩:=JE.mp hx;rfl⟩
theorem Uz {o:Ofr}{a:Addr}(h:Ofr.At o K H a)(h':Ofr.At o K H b):∃ xs ys,SqT K H a xs/\SqT K H b ys/\Paired (EqU K H 2) xs ys:=by
 obtain⟨_,r,va,vb,ve,e0,hc,⟨xs,sx,rx⟩,ha,hb,he⟩:=h
 cases e0;obtain⟨_,r',va',vb',ve',e0,hc',⟨ys,sy,ry⟩,ha',hb',he'⟩:=h'
 cases e0;exact⟨_,_,hc,hc',.cons (.inr ⟨_,_,_,_,rfl,rfl,.inr ⟨sx,sy⟩,Rg rx ry⟩) (.cons (Rp ha ha') (.cons (Rp hb hb') (.cons (Kj he he') .nil)))⟩
def isSome (v:V):Bool:=!decide (v=.non)
theorem Pz {H:Hp}{o:Option Rat}{v:V}(h:PrAt K H v o):Rs K H o.toList ([v].filter isSome):=by
 cases o with
 | none =>
  have h:v=.non:=h;subst h;exact .nil
 | some r =>
  obtain⟨c,rfl,q⟩:=h;exact .cons ⟨c,rfl,q⟩ .nil
end
section
variable {P:TM}{w:World}{K:TL}{mg:Tn}{base:Heap}
inductive spLike (K:TL) (vs:TQ) (H:Hp) (Q:VK) (_z3:XK):Prop
 | mk (a b:Addr) (n:Nat) (o:Ofr) (zz0:vs=[.ref a,.ref b]) (zz1:Ofr.At o K H a) (zz2:Ofr.At o K H b) (zz3:Ofr.T o n) (zz4:n<=12) (zz5:∀ H',Same H H'->Q (.bl true) H')
theorem Fn (D:Def K mg "_law_offer_like" fP UJ)(T:BltT mg)(eZ:Has P w K mg base 2 "_law_is" UJ (spIs2 K))(eB:Has P w K mg base 1 "show_ratio" ["one"] (spShowR K))(eC:Has P w K mg base 1 "_law_show" UC (spShowR K))(eH:Has P w K mg base 4 "read_ratio" Ui spReadR)(eF:Has P w K mg base 1 "_law_whole" UI spWhole):Has P w K mg base 5 "_law_offer_like" UJ (spLike K):=by
 refine D.h9 (N:=["_law_found","_law_due","_law_parts","_law_part_here"]) fsc λH Q hr h nd=>?_;obtain⟨a,b,n,o,rfl,hA,hB,ot,hn,q⟩:=h;have hU64:=hr.units;have nd1:(["_law_part_here"]:TD).Nodup:=J2
 have nd2:(["_law_world"]:TD).Nodup:=J2
 refine⟨_,(Z3 (Zr (PW.pt (Y4 (Y7 (Y6 (Z9 Yo rfl T.isinstance YU (Z0 (pv 0) (Z0 (Xq T.tuple XW) Z2))))) (Y4 (Z8 W5 (Z9 Zg rfl T.len JR (Z0 (pv 0) Z2)) Z4 (Ze _)) (Y4 (Y7 (Y6 (Z9 Yo rfl T.isinstance YU (Z0 (Zd Zs (pv 0) Z4 (λ_ _=>rfl)) (Z0 (Xq T.tuple XW) Z2))))) (Ym (Z8 (Ty (K:=K) hU64) (pv 0) (pv 1) (Ze _)))))))
   (Z6 (Za Xv))
   Zh)
  (Z3 (Z7 (i:=2) nd rfl (Or.inl rfl) (Zc Tz (Zu Yz rfl T.list GD (Z0 (Zd Zs (pv 0) Z4 (λ_ _=>rfl)) Z2)) (Ye (ox:=none) (N:=["_law_part_here"]) (k:=1) (fv:=[]) rfl (V1 (Yf Gx (pv 0) (Y0 Z4) (Y0 Z4)))
  (λ_ _ _ _ _=>Zq (i:=0) nd1 rfl (Or.inl rfl)) (λ_ _ _ _ _=>To (Z8 Xm (pv 0) Zl (Ze _))) (λ_ _ _ _ _=>(pv 0)) Zt)))
  (Z3 (W7 GF rfl (Xk (pv 2)) (Zq (i:=3) nd rfl (Or.inl rfl))
   (Z3 (Zr (PW.pt (Y4 (Y7 (Y6 (Zf eZ hr (Z0 (pv 3) (Z0 (pv 3) Z2))))) (Ym (Z8 W5 (Zf eB hr (Z0 (pv 3) Z2)) (Zf eC hr (Z0 (pv 3) Z2)) (Ze _)))))
    (Z6 (Za Xv))
    Zh)
   (Z6 (Zr (Y7 (Y6 (Zf eZ hr (Z0 (Zf eH hr (Z0 (Zf eC hr (Z0 (pv 3) Z2)) Z2)) (Z0 (pv 3) Z2)))))
    (Z6 (Za Xv))
    Zh))))
  (Z3 (Zr (Z8 Xn (Zd Zs (pv 0) Z4 (λ_ _=>rfl)) Zl (Ze _))
   (Z6 (Za (Vh Xn (Zd Zs (pv 1) Z4 (λ_ _=>rfl)) Zl (Ze _))))
   Zh)
  (Z6 (Za (Tu (Z9 Yo rfl T.isinstance YU (Z0 (Zd Zs (pv 0) Z4 (λ_ _=>rfl)) (Z0 (Xq T.tuple XW) Z2))) (Tt (Z9 (V7 (K:=K) rfl) rfl T.all ze (Z0 (Ye (ox:=none) (N:=["_law_world"]) (k:=1) (fv:=[]) rfl (V1 (Zd Zs (pv 0) Z4 (λ_ _=>rfl)))
  (λ_ _ _ _ _=>Zq (i:=0) nd2 rfl (Or.inl rfl)) (λ_ _ _ _ _=>Yc) (λ_ _ _ _ _=>(Zf eF hr (Z0 (pv 0) Z2))) Zt) Z2)))))))))),?_⟩
 have hAB:=Uz hA hB;obtain⟨_,r,va,vb,ve,e0,hc,hr',ha,hb,he⟩:=hA
 cases e0;obtain⟨xs,sx,rx⟩:=hr';have lx:=rx.len;refine⟨_,rfl,_,_,_,_,rfl,hc,Yg,_,rfl,Y2 ?_⟩;refine⟨_,rfl,a,_,rfl,.inr hc,rfl,_,rfl,Kb rfl ?_⟩;refine⟨_,rfl,a,_,_,.ref r,rfl,rfl,hc,rfl,_,_,_,_,rfl,sx,Yg,_,rfl,Y2 ?_⟩;obtain⟨us,vs',q1,q2,al⟩:=hAB;refine⟨_,rfl,_,rfl,2,a,b,us,vs',rfl,rfl,J0,.inr ⟨q1,q2⟩,al,_,rfl,Y2 ?_⟩;refine⟨_,rfl,a,_,_,.ref r,rfl,rfl,hc,rfl,r,xs,rfl,.inr sx,λp1 f1=>?_⟩;have S1:Same H (upd H p1 (.lst xs)):=Same.new f1;have e1:upd H p1 (.lst xs) p1=some (.lst xs):=Z5;generalize upd H p1 (.lst xs)=H1 at S1 e1;refine Pn (xs:=[va,vb]) (p:=isSome) (λG g=>⟨_,rfl,_,rfl,_,rfl,a,_,rfl,Zw S1 hc,(by show ¬ (HT.sIx 4 0 (some 1)=0/\HT.sIx 4 4 (some 3)=4);decide),λp2 f2=>g p2 f2⟩) (by show 2<=1000;decide) ?_ (by show 1≠0;decide) ?_
 ·rintro i x H2 G ex S2 g;exact⟨_,rfl,rfl,_,rfl,g H2 (Same.refl _)⟩
 intro d H2 S2 e2;have ef:[va,vb].filter isSome=[va].filter isSome++[vb].filter isSome:=qR [va] [vb];have R:=Rs.app rx (Rs.app (Pz ha) (Pz hb));rw[<-ef] at R;have fit:∀ r∈o.rs++(o.oa.toList++o.ob.toList),Fit30 r:=λr hr=>by
  rcases YY.mp hr with h | h
  ·exact ot.fr r h
  rcases YY.mp h with h | h
  ·exact ot.fa r (by simpa using h)
  exact ot.fb r (by simpa using h)
 have up:∀ {n:Int},n.natAbs<10 ^ 30->n.natAbs<10 ^ 70:=λh=>JW h J2;have lps:=R.len;have lf:([va,vb].filter isSome).length<=2:=List.length_filter_le _ _;have l12:=ot.len;generalize o.rs++(o.oa.toList++o.ob.toList)=ps at R fit lps;refine⟨p1,d,_,_,rfl,rfl,S2 _ _ e1,e2,by rw[YQ];omega,λp3 f3=>?_⟩;have S3:=(S1.trans S2).trans (Same.new (o:=.lst (xs++[va,vb].filter isSome)) f3);have e3:upd H2 p3 (.lst (xs++[va,vb].filter isSome)) p3=some (.lst (xs++[va,vb].filter isSome)):=Z5;generalize upd H2 p3 (.lst (xs++[va,vb].filter isSome))=H3 at S3 e3;have lv:(xs++[va,vb].filter isSome).length<=14:=by rw[XF];omega
 generalize xs++[va,vb].filter isSome=vs at R e3 lv;refine⟨_,rfl,p3,rfl,⟨_,SqL.of e3⟩,?_⟩;refine T7 (xs:=vs) (λi σ' H'=>Same H3 H'/\∃ v3,σ'=[some (.ref a),some (.ref b),some (.ref p3),v3]) ⟨Same.refl _,none,rfl⟩ ?_ ?_ ?_
 ·rintro i σ' H4 _ ⟨S4,_⟩;exact SqL.of (S4 _ _ e3)
 ·rintro i x σ' H4 ex ⟨S4,v3,rfl⟩;obtain⟨r1,er,a1,rfl,sq⟩:=R.back ex;have f1:=fit r1 (YO er);have sq:=Zw (S3.trans S4) sq;refine Xc ?_;dsimp only;refine⟨_,rfl,_,rfl,a1,a1,r1,rfl,sq,sq,_,rfl,Y2 ?_⟩;refine⟨_,rfl,a1,r1,rfl,sq,up f1.b1,up f1.b2,_,rfl,a1,r1,rfl,sq,up f1.b1,up f1.b2,rfl,_,rfl,Yp (λe=>absurd e J1) λ_=>?_⟩;refine⟨_,rfl,a1,r1,rfl,sq,up f1.b1,up f1.b2,r1,rfl,f1,λa2 H5 S5 e5=>?_⟩;refine⟨_,rfl,a2,a1,r1,rfl,SqT.of e5,Zw S5 sq,_,rfl,Y2 ?_⟩;exact⟨S4.trans S5,_,rfl⟩
 rintro σ' H4 ⟨S4,v3,rfl⟩;have ST:=S3.trans S4;have hc4:=Zw ST hc;obtain⟨_,r2,va2,vb2,ve2,e0,hd,_,_,_,hd2⟩:=hB
 cases e0;have hd4:=Zw ST hd
 cases hev:o.ev with
 | none =>
  rw[hev] at he hd2;have he:ve=.non:=he;have hd2:ve2=.non:=hd2;subst he hd2;refine⟨_,rfl,a,_,_,.non,rfl,rfl,hc4,rfl,rfl,_,rfl,Yp (λ_=>?_) λe=>absurd e J1⟩;refine⟨_,rfl,b,_,_,.non,rfl,rfl,hd4,rfl,rfl,?_⟩;show Q (.bl (decide (V.non=V.non))) _;rw[XC rfl];exact q H4 ST
 | some es =>
  rw[hev] at he;obtain⟨ca,rfl,se⟩:=he;have se4:=Zw ST se;have le:=Wi (ot.ev es hev).2.1 (ot.ev es hev).2.2;refine⟨_,rfl,a,_,_,.ref ca,rfl,rfl,hc4,rfl,rfl,_,rfl,Yp (λe=>absurd e J1) λ_=>?_⟩;refine⟨_,rfl,a,_,_,.ref ca,rfl,rfl,hc4,rfl,_,_,_,_,rfl,se4,Yg,_,rfl,Wb (G7 (Sr ?_))⟩;refine V6 (ys:=(es.map λ_=>true).map V.bl) (λG g=>⟨_,rfl,a,_,_,.ref ca,rfl,rfl,hc4,rfl,g⟩) se4 (by unfold natV;rw[YC,YC];omega) (by unfold natV;simp) (λi x y H5 G ex ey S5 g=>?_) λd H5 hd S5 e5=>?_
  ·unfold natV at ex;rw[YI,YI] at ex;rw[YI,YI] at ey
   cases ek:es[i]? with
   | none=>rw[ek] at ex;cases ex
   | some m =>
    rw[ek] at ex ey
    cases ex
    cases ey;exact⟨_,rfl,_,rfl,g H5 (Same.refl _)⟩
  refine⟨d,_,rfl,SqL.of e5,?_⟩;have e:(es.map λ_=>true).all id=true:=J1
  rw[e];exact q H5 (ST.trans S5)
inductive spSameB (K:TL) (vs:TQ) (H:Hp) (Q:VK) (_z3:XK):Prop
 | mk (c n l a b:Addr) (m:Nat) (ns:List PySem.Str) (bs bs':TH) (os:List Ofr) (zz0:vs=[.ref c,.ref a,.ref b]) (zz1:H c=some (.tup [.ref n,.ref l])) (zz2:H n=some (.lst (ns.map V.str))) (zz3:H l=some (.lst (bs.map V.ref))) (zz4:SqL K H a (ns.map V.str)) (zz5:SqL K H b (bs'.map V.ref)) (zz6:Paired (λb o=>Ofr.At o K H b) bs os) (zz7:Paired (λb o=>Ofr.At o K H b) bs' os) (zz8:∀ o∈os,Ofr.T o m) (zz9:m<=12) (zz10:os.length<=12) (zz11:∀ H',Same H H'->Q (.bl true) H')
theorem Jg (D:Def K mg "_law_same" gF UL)(T:BltT mg)(eL:Has P w K mg base 5 "_law_offer_like" UJ (spLike K)):Has P w K mg base 6 "_law_same" UL (spSameB K):=by
 refine D.h9 (N:=["_law_found","_law_names_here","_law_offers","_law_k"]) fsc λH Q hr h nd=>?_;obtain⟨c,n,l,a,b,m,ns,bs,bs',os,rfl,hC,hN,hL,hA,hB,pr,pr',ot,hm,lo,q⟩:=h;have hU64:=hr.units;refine⟨_,(Z3 (Zr (PW.pt (Y4 (Y7 (Y6 (Z9 Yo rfl T.isinstance YU (Z0 (pv 0) (Z0 (Xq T.tuple XW) Z2))))) (Y4 (Z8 W5 (Z9 Zg rfl T.len JR (Z0 (pv 0) Z2)) Z4 (Ze _)) (Ym (Y7 (Y6 (Z9 Yb rfl T.isinstance YU (Z0 (Zd Xw (pv 0) Z4 (λ_ _=>rfl)) (Z0 (Xq T.list GD) Z2)))))))))
   (Z6 (Za Xv))
   Zh)
  (Z3 (Zr (PW.pt (Y4 (Z8 (Ty (K:=K) hU64) (Zd Xw (pv 0) Z4 (λ_ _=>rfl)) (pv 1) (Ze _)) (Y4 (Y7 (Y6 (Z9 Yb rfl T.isinstance YU (Z0 (Zd Xs (pv 0) Z4 (λ_ _=>rfl)) (Z0 (Xq T.list GD) Z2))))) (Ym (Z8 W5 (Z9 Zg rfl T.len JR (Z0 (Zd Xs (pv 0) Z4 (λ_ _=>rfl)) Z2)) (Z9 Zg rfl T.len JR (Z0 (pv 2) Z2)) (Ze _))))))
   (Z6 (Za Xv))
   Zh)
  (Z3 (W7 GF rfl (Yq rfl T.range (Z0 (Z9 Zg rfl T.len JR (Z0 (pv 2) Z2)) Z2)) (Zq (i:=3) nd rfl (Or.inl rfl))
   (Z6 (Zr (Y7 (Y6 (Zf eL hr (Z0 (Zd Y1 (Zd Xs (pv 0) Z4 (λ_ _=>rfl)) (pv 3) (λ_ _=>rfl)) (Z0 (Zd Y1 (pv 2) (pv 3) (λ_ _=>rfl)) Z2)))))
    (Z6 (Za Xv))
    Zh)))
  (Z6 (Za Xv))))),?_⟩
 have lb:=JK pr;have lb':=JK pr';have sC:=SqT.of (K:=K) hC;refine⟨_,rfl,_,_,_,_,rfl,sC,Yg,_,rfl,Y2 ?_⟩;refine⟨_,rfl,c,_,rfl,.inr sC,rfl,_,rfl,Kb rfl ?_⟩;refine⟨_,rfl,_,_,_,rfl,rfl,sC,_,_,_,_,rfl,TyOf.lst hN,Yg,_,rfl,Y2 ?_⟩;refine⟨_,rfl,_,_,_,rfl,rfl,sC,_,rfl,1,n,a,_,_,rfl,rfl,J0,.inl ⟨SqL.of hN,hA⟩,Xx (λx hx=>by
  obtain⟨z,_,rfl⟩:=JE.mp hx;rfl),_,rfl,Y2 ?_⟩
 refine⟨_,rfl,_,_,_,rfl,rfl,sC,_,_,_,_,rfl,TyOf.lst hL,Yg,_,rfl,Y2 ?_⟩;refine⟨_,rfl,_,_,_,rfl,rfl,sC,l,_,rfl,.inl (SqL.of hL),_,rfl,b,_,rfl,.inl hB,rfl,_,rfl,?_⟩;rw[YC,YC];refine Yp (λe=>absurd e (by simp;omega)) λ_=>?_;refine⟨_,rfl,b,_,rfl,.inl hB,((bs'.map V.ref).length:Int),rfl,by rw[YC];omega,by rw[YC];omega,?_⟩;have et:((bs'.map V.ref).length:Int).toNat=os.length:=by rw[YC];omega
 rw[et];refine T6 (lo:=0) (n:=os.length) (λi σ' H'=>Same H H'/\∃ v3,σ'=[some (.ref c),some (.ref a),some (.ref b),v3]) ⟨Same.refl _,none,rfl⟩ ?_ ?_
 ·rintro i σ' H1 hi ⟨S1,v3,rfl⟩;have e0:(0+(i:Int))=((i:Nat):Int):=U
  rw[e0];refine Xc ?_;dsimp only;have ea:bs[i]?=some (bs[i]'U):=J1
  have eb:bs'[i]?=some (bs'[i]'U):=J1
  have eo:os[i]?=some os[i]:=J1
  have oa:=Paired.getB pr ea eo;have ob:=Paired.getB pr' eb eo;refine⟨_,rfl,_,_,_,rfl,rfl,Zw S1 sC,_,rfl,l,_,_,_,rfl,rfl,Zz S1 (SqL.of hL),Yi (by rw[YI,ea];rfl),?_⟩;refine⟨_,rfl,_,rfl,b,_,_,_,rfl,rfl,Zz S1 hB,Yi (by rw[YI,eb];rfl),?_⟩;refine⟨_,_,m,os[i],rfl,OffAt.ext oa (Ext.same S1),OffAt.ext ob (Ext.same S1),ot _ (YO eo),hm,λH2 S2=>?_⟩;exact⟨_,rfl,Y2 ⟨S1.trans S2,_,rfl⟩⟩
 rintro σ' H1 ⟨S1,v3,rfl⟩;exact q H1 S1
inductive spTwo (K:TL) (op:Rat->Rat->Rat) (vs:TQ) (H:Hp) (Q:VK) (_z3:XK):Prop
 | mk (a b:Addr) (r s:Rat) (n:Nat) (zz0:vs=[.ref a,.ref b]) (zz1:SqT K H a [.int r.1,.int r.2]) (zz2:SqT K H b [.int s.1,.int s.2]) (zz3:Good n r) (zz4:Good n s) (zz5:n<=200000) (zz6:∀ c H',H c=none->Same H H'->H' c=some (.tup [.int (op r s).1,.int (op r s).2])->Q (.ref c) H')
theorem N5 {n:Nat}{x y:Int}(h:Bd n x)(k:Bd n y)(hn:n<=200000):(x*y).natAbs.log2<450000:=Bd.log (h.mul k) U
theorem Je (D:Def K mg "times" f6 TY)(eM:Has P w K mg base 2 "lowest" TZ spLowest):Has P w K mg base 3 "times" TY (spTwo K mulR'):=by
 refine D.h9 (N:=TY) fsc λH Q hr h nd=>?_;obtain⟨a,b,r,s,n,rfl,hA,hB,gr,gs,hn,k⟩:=h;refine⟨_,(Z6 (Za (Zf eM hr (Z0 (Zc Ya (Zd Xw (pv 0) Z4 (λ_ _=>rfl)) (Zd Xw (pv 1) Z4 (λ_ _=>rfl))) (Z0 (Zc Ya (Zd Xs (pv 0) Z4 (λ_ _=>rfl)) (Zd Xs (pv 1) Z4 (λ_ _=>rfl))) Z2))))),?_⟩;exact⟨_,rfl,_,_,_,rfl,rfl,hA,_,rfl,_,_,_,rfl,rfl,hB,_,_,rfl,rfl,gr.b1.mulOk gs.b1 U U,_,rfl,_,_,_,rfl,rfl,hA,_,rfl,_,_,_,rfl,rfl,hB,_,_,rfl,rfl,gr.b2.mulOk gs.b2 U U,_,_,rfl,K4 gr.pos gs.pos,N5 gr.b2 gs.b2 hn,k⟩
end
theorem Lk {ns:List PySem.Str}{os:List Ofr}(ok:NamesOk ns)(hT:∀ o∈os,Ofr.T o ns.length):∀ z∈rowN ns::os.map (λo=>o.row ns),z.length<=2560:=by
 intro z hz;rcases YJ.mp hz with rfl | hz
 ·have lj:=Y5 (c:=32) (m:=8) (ws:=Str.ofString "worlds"::ns) λz hz=>by
   rcases YJ.mp hz with rfl | hz
   ·decide
   exact (ok.ok z hz).l2
  rw[YS] at lj;have:=ok.l2;show (Str.join ⟨#[32]⟩ (Str.ofString "worlds"::ns)).length<=_;omega
 obtain⟨o,ho,rfl⟩:=JE.mp hz;have ow:=X0 ok (hT o ho);have ol:=Xd ok (hT o ho);have lj:=Y5 (c:=32) (m:=63) (ws:=offW ns o.rs o.oa o.ob o.ev) λz hz=>(ow z hz).2;have lj2:(offW ns o.rs o.oa o.ob o.ev).length*(63+1)<=40*64:=JB _ ol;show (Str.join ⟨#[32]⟩ (offW ns o.rs o.oa o.ob o.ev)).length<=_;omega
theorem Vm {n:Nat}(ws:List PySem.Str):Paired (EqU K H n) (ws.map V.str) (ws.map V.str):=Xx λx hx=>by
 obtain⟨z,_,rfl⟩:=JE.mp hx;rfl
theorem Qy {n:Nat}(ws:TH):Paired (EqU K H n) (ws.map V.ref) (ws.map V.ref):=Xx λx hx=>by
 obtain⟨z,_,rfl⟩:=JE.mp hx;rfl
theorem Vw {K:TL}{H:Hp}:∀ {os:List Ofr} {as bs:TH},Paired (λb o=>Ofr.At o K H b) as os->Paired (λb o=>Ofr.At o K H b) bs os->Paired (EqU K H 3) (as.map V.ref) (bs.map V.ref)
 | _,_,_,.nil,.nil=>.nil
 | _,_,_,.cons h r,.cons h' t=>by
  obtain⟨xs,ys,q,q',p⟩:=Uz h h';exact .cons (.inr ⟨_,_,xs,ys,rfl,rfl,.inr ⟨q,q'⟩,p⟩) (Vw r t)
section
variable {P:TM}{w:World}{K:TL}{mg:Tn}{base:Heap}
inductive spLaw (K:TL) (vs:TQ) (H:Hp) (Q:VK) (_z3:XK):Prop
 | mk (a:Addr) (ns:TN) (zz0:vs=[.ref a]) (zz1:SqL K H a (ns.map V.int)) (zz2:∀ H',Q (.bl true) H')
theorem Gc:FnScope ["_law_script","_law_bag_here","_law_count","_law_names_here","_law_offers","_law_text","_law_handed","_law_told","_law_found","_law_one","_law_other","_law_great","_law_again"] ["_law_script"] (defScope gL):=fsc
theorem Db (F:Fun K "law" "law" gL f fd)(T:BltT mg)(e9:Has P w K mg base 1 "_law_cell" TV (spCell K))(fB:Has P w K mg base 1 "_law_bag" TX spBag)(eA:Z1 P w K mg base)(eV:Has P w K mg base 3 "_law_names" UE spNames)(eN:Has P w K mg base 4 "_law_any_offer" UE (spAnyOffer K))(eW:Has P w K mg base 3 "_law_lines" UH (spLines K))(fF:Has P w K mg base 3 "shown" ["names","offers"] (spShown K))(fD:Has P w K mg base 9 "read" Ui (spRead K) true)(eX:Has P w K mg base 6 "_law_same" UL (spSameB K))(eE:Has P w K mg base 3 "_law_part" UD spPart)(eG:Has P w K mg base 2 "_law_ratio" TW spRatio)(fE:Has P w K mg base 3 "times" TY (spTwo K mulR'))(eB:Has P w K mg base 1 "show_ratio" ["one"] (spShowR K))(eC:Has P w K mg base 1 "_law_show" UC (spShowR K)) :
  FnOk P w K mg base CX0 10 f fd ["_law_script"] (spLaw K) true:=by
 refine F.ok Gc (λvs H Q E h=>?_) (λcdv A outer s H vs Q E hr h=>?_)
 ·obtain⟨a,ns,rfl,_⟩:=h;rfl
 obtain⟨a,ns,rfl,hS,k⟩:=h;have sc:=Gc;have hU64:=hr.units;have nd1:(["_law_k","_law_bag_here","_law_count"]:List Str).Nodup:=J2
 refine⟨_,(Z3 (Z7 (i:=1) sc.nd rfl (Or.inr rfl) (Zf fB hr (Z0 (Zf e9 hr (Z0 (pv 0) (Z0 Z4 Z2))) Z2)))
  (Z3 (Z7 (i:=2) sc.nd rfl (Or.inr rfl) (Zc Yn Z4 (Zf eA hr (Z0 (pv 1) (Z0 Z4 Z2)))))
  (Z3 (Zx (Z7 (i:=3) sc.nd rfl (Or.inl rfl) (Zf eV hr (Z0 (pv 1) (Z0 (pv 2) Z2)))))
  (Z3 (Zx (Tp (i:=4) (ox:=none) (N:=["_law_k","_law_bag_here","_law_count"]) (k:=1) (fv:=[1,2]) sc.nd rfl (Or.inl rfl) rfl (Yq rfl T.range (Z0 (Zf eA hr (Z0 (pv 1) (Z0 Z4 Z2))) Z2))
  (λ_ _ _ _ _=>Zq (i:=0) nd1 rfl (Or.inl rfl)) (λ_ _ _ _ _=>Yc) (λ_ _ _ _ _=>(Zf eN hr (Z0 (pv 1) (Z0 (pv 2) Z2)))) Zt))
  (Z3 (Z7 (i:=5) sc.nd rfl (Or.inl rfl) (Y9 XX qf qg (Wo (K:=K)) Zj (Z0 (Zf eW hr (Z0 (pv 3) (Z0 (pv 4) Z2))) Z2)))
  (Z3 (Z7 (i:=6) sc.nd rfl (Or.inl rfl) (Yk (Z0 (Zu Yz rfl T.list GD (Z0 (pv 3) Z2)) (Z0 (Zu Yz rfl T.list GD (Z0 (pv 4) Z2)) Z2))))
  (Z3 (Z7 (i:=7) sc.nd rfl (Or.inl rfl) (Zf fF hr (Z0 (Zd Y1 (pv 6) Z4 (λ_ _=>rfl)) (Z0 (Zd Y1 (pv 6) Z4 (λ_ _=>rfl)) Z2))))
  (Z3 (Zr (PW.pt (Y4 (Y7 (Y6 (Z9 Yb rfl T.isinstance YU (Z0 (pv 7) (Z0 (Xq T.str qe) Z2))))) (Y4 (Z8 W5 (pv 7) (pv 5) (Ze _)) (Ym (Z8 (Ty (K:=K) hU64) (pv 6) (Yk (Z0 (pv 3) (Z0 (pv 4) Z2))) (Ze _))))))
   (Z6 (Za Xv))
   Zh)
  (Z3 (Z7 (i:=8) sc.nd rfl (Or.inl rfl) (Xl fD (hr.mono J0) rfl (Z0 (pv 5) Z2)))
  (Z3 (Zr (Y7 (Y6 (Zf eX hr (Z0 (pv 8) (Z0 (pv 3) (Z0 (pv 4) Z2))))))
   (Z6 (Za Xv))
   Zh)
  (Z3 (Z7 (i:=9) sc.nd rfl (Or.inl rfl) (Zf eE hr (Z0 (pv 1) Z2)))
  (Z3 (Z7 (i:=10) sc.nd rfl (Or.inl rfl) (Zf eE hr (Z0 (pv 1) Z2)))
  (Z3 (Z7 (i:=11) sc.nd rfl (Or.inl rfl) (Zf eG hr (Z0 (Zc Ya (Zd Xw (pv 9) Z4 (λ_ _=>rfl)) (Zd Xw (pv 10) Z4 (λ_ _=>rfl))) (Z0 (Zc Ya (Zd Xs (pv 9) Z4 (λ_ _=>rfl)) (Zd Xs (pv 10) Z4 (λ_ _=>rfl))) Z2))))
  (Z3 (Zr (Z8 W5 (Zf eB hr (Z0 (Zf fE hr (Z0 (pv 9) (Z0 (pv 10) Z2))) Z2)) (Zf eC hr (Z0 (pv 11) Z2)) (Ze _))
   (Z6 (Za Xv))
   Zh)
  (Z3 (Yt (Y9 XI JS JT Ys (Zd Xw (pv 8) Z4 (λ_ _=>rfl)) (Z0 Zj Z2)))
  (Z3 (Yt (Y9 XI JS JT Ys (Zd Xs (pv 8) Z4 (λ_ _=>rfl)) (Z0 Zl Z2)))
  (Z3 (Z7 (i:=12) sc.nd rfl (Or.inl rfl) (Xl fD (hr.mono J0) rfl (Z0 (pv 5) Z2)))
  (Z6 (Za (Vh (Fg (K:=K) hU64) (pv 12) (Xu (Z0 (pv 3) (Z0 (pv 4) Z2))) (Ze _))))))))))))))))))))),?_⟩
 refine⟨_,rfl,a,_,ns,rfl,hS,J0,J0,λz=>?_⟩;refine⟨_,rfl,λb H1 fb S1 B1=>?_⟩;refine⟨_,rfl,b,_,1,rfl,B1,U,J0,J2,λm H2 m0 m1 B2 S2=>⟨_,_,rfl,rfl,?_⟩⟩;obtain⟨m,rfl⟩:=JG m0;have ec:(2:Int)+(m:Int)=((2+m:Nat):Int):=U
 have hc1:2<=2+m:=U
 have hc2:2+m<=12:=U
 refine Xc ?_;rw[ec];generalize 2+m=c at hc1 hc2;have nb:∀ {G:Hp} {n:Nat} {x:Addr},BagAt G b n->G x=none->x≠b:=λh e=>by
  obtain⟨ys,e'⟩:=h.lst;exact (Zb e' e).symm
 refine⟨λσ' H'=>∃ (l:Addr) (nms:List PySem.Str),σ'=[some (.ref a),some (.ref b),some (.int (c:Int)),some (.ref l),none,none,none,none,none,none,none,none,none]/\BagAt H' b 14/\H' l=some (.lst (nms.map V.str))/\l≠b/\NamesOk nms/\nms.length=c,?_,?_⟩
 ·exact⟨_,rfl,_,rfl,b,c,2,rfl,B2,J0,hc1,hc2,λl H3 nms B3 S3 e3 f3 ok3 l3=>⟨l,nms,rfl,B3,e3,nb B2 f3,ok3,l3⟩⟩
 rintro _ H3 ⟨l,nms,rfl,B3,e3,lb,ok,ln⟩;refine⟨λσ' H'=>∃ (t:Addr) (bs:TH) (os:List Ofr),σ'=[some (.ref a),some (.ref b),some (.int (c:Int)),some (.ref l),some (.ref t),none,none,none,none,none,none,none,none]/\BagAt H' b 1300/\H' l=some (.lst (nms.map V.str))/\H' t=some (.lst (bs.map V.ref))/\t≠b/\Paired (λb o=>Ofr.At o K H' b) bs os/\(∀ o∈os,Ofr.T o nms.length)/\os.length<=12,?_,?_⟩
 ·refine⟨_,rfl,b,_,14,rfl,B3,U,J0,J2,λm2 H4 m20 m21 B4 S4=>?_⟩;obtain⟨m2,rfl⟩:=JG m20;refine⟨(m2:Int),rfl,U,U,λd hd=>?_⟩;have hdb:=nb B4 hd;rw[show (m2:Int).toNat=m2 by omega];refine⟨m2,λi ys G=>∃ (bs:TH) (os:List Ofr),ys=bs.map V.ref/\os.length=i/\Paired (λb o=>Ofr.At o K G b) bs os/\(∀ o∈os,Ofr.T o nms.length)/\BagAt G b (15+100*i)/\SameX b H4 G,Xt U,?_,?_,?_⟩
  ·exact⟨[],[],rfl,rfl,.nil,(λ_ h=>nomatch h),B4.upd (GM hdb),SameX.of (Same.new hd)⟩
  ·rintro i ys G hi ⟨bs,os,rfl,lo,pr,ot,BG,SG⟩ hdG;refine⟨hi,?_⟩;rintro x G2 ⟨rfl,rfl⟩;refine Yx ?_;refine⟨_,rfl,_,rfl,b,c,15+100*i,rfl,BG,U,hc1,hc2,λo1 G3 o B3' S3' oa oT=>?_⟩;have hd3:G3 d=some (.lst (bs.map V.ref)):=S3' _ _ hdG hdb;have E1:=Ext.bag S3' BG;have E2:Ext G3 (upd G3 d (.lst (bs.map V.ref++[.ref o1]))):=Ext.upd hd3;refine⟨hd3,bs++[o1],os++[o],by rw[XJ];rfl,by rw[XF,lo];rfl,?_,λo' ho'=>?_,(B3'.upd (GM hdb)).mono U,λq v e ne=>?_⟩
   ·exact Paired.appP (Paired.mapP pr λb o h=>h.ext (E1.trans E2)) (.cons (OffAt.ext oa E2) .nil)
   ·rcases YY.mp ho' with h | h
    ·exact ot o' h
    rw[qc.mp h,ln];exact oT
   have e2:=S3' q v (SG q v e ne) ne;rw[Zi (Zb e hd)];exact e2
  rintro ys G ⟨bs,os,rfl,lo,pr,ot,BG,SG⟩ hdG;exact⟨YE _,d,bs,os,rfl,BG.mono U,SG _ _ (S4 _ _ e3 lb) lb,hdG,hdb,pr,ot,U⟩
 rintro _ H4 ⟨t,bs,os,rfl,B4,e4,t4,tb,pr4,ot,lo⟩;have q1:∀ {n:Int},n.natAbs<10 ^ 30->n.natAbs<10 ^ 70:=λh=>JW h J2;have wl:=Lk ok ot;refine⟨rfl,_,rfl,_,rfl,l,t,nms,bs,os,rfl,SqL.of e4,SqL.of t4,pr4,ok,ot,lo,λlt H5 S5 _ e5=>?_⟩;have jo:JoinOk ⟨#[10]⟩ (rowN nms::os.map λo=>o.row nms)=true:=Sg (c:=10) (m:=2560) wl (by
  have:(os.length+1)*(2560+1)<=13*2561:=JB _ U;rw[YS,YC];omega)
 refine⟨_,lt,_,rfl,rfl,SqL.of e5,jo,?_⟩;rw[Wq,show Str.join (Str.ofString "\n") (rowN nms::os.map λo=>o.row nms)=bookT nms os from rfl];have l5:=S5 _ _ e4;have t5:=S5 _ _ t4;have B5:=B4.same S5;have pr5:=Paired.mapP pr4 λb o h=>OffAt.ext h (Ext.same S5);refine⟨_,rfl,l,_,rfl,.inl (SqL.of l5),λh1 g1=>?_⟩;refine⟨_,rfl,t,_,rfl,.inl (SqL.of (Same.new g1 _ _ t5)),λh2 g2=>⟨by show 2<=sizeLine;decide,λh3 g3=>?_⟩⟩;have S6:Same H5 (upd (upd (upd H5 h1 (.lst (nms.map V.str))) h2 (.lst (bs.map V.ref))) h3 (.lst [.ref h1,.ref h2])):=(Same.new g1).trans ((Same.new g2).trans (Same.new g3));have a1:upd (upd (upd H5 h1 (.lst (nms.map V.str))) h2 (.lst (bs.map V.ref))) h3 (.lst [.ref h1,.ref h2]) h1=some (.lst (nms.map V.str)):=Same.new g3 _ _ (Same.new g2 _ _ Z5);have a2:upd (upd (upd H5 h1 (.lst (nms.map V.str))) h2 (.lst (bs.map V.ref))) h3 (.lst [.ref h1,.ref h2]) h2=some (.lst (bs.map V.ref)):=Same.new g3 _ _ Z5;have a3:upd (upd (upd H5 h1 (.lst (nms.map V.str))) h2 (.lst (bs.map V.ref))) h3 (.lst [.ref h1,.ref h2]) h3=some (.lst [.ref h1,.ref h2]):=Z5;generalize upd (upd (upd H5 h1 (.lst (nms.map V.str))) h2 (.lst (bs.map V.ref))) h3 (.lst [.ref h1,.ref h2])=H6 at S6 a1 a2 a3;refine⟨_,rfl,h3,_,_,.ref h1,rfl,rfl,SqL.of a3,rfl,_,rfl,h3,_,_,.ref h2,rfl,rfl,SqL.of a3,rfl,h1,h2,nms,bs,os,rfl,SqL.of a1,SqL.of a2,Paired.mapP pr5 λb o h=>OffAt.ext h (Ext.same S6),ok,ot,lo,λH7 S7=>?_⟩;refine⟨_,rfl,_,_,_,_,rfl,TyOf.str _,Yg,_,rfl,Y2 ?_⟩;refine⟨_,rfl,_,rfl,rfl,_,rfl,Yp (λe=>absurd e J1) λ_=>?_⟩;have S57:=S6.trans S7;have l7:=S57 _ _ l5;have t7:=S57 _ _ t5;refine⟨_,rfl,_,rfl,_,rfl,by show 2<=sizeLine;decide,λh4 g4=>?_⟩;have S8:Same H7 (upd H7 h4 (.lst [.ref l,.ref t])):=Same.new g4;have a4:upd H7 h4 (.lst [.ref l,.ref t]) h4=some (.lst [.ref l,.ref t]):=Z5;generalize upd H7 h4 (.lst [.ref l,.ref t])=H8 at S8 a4;have S68:=S7.trans S8;have l8:=S8 _ _ l7;have t8:=S8 _ _ t7;refine⟨2,h3,h4,_,_,rfl,rfl,J0,.inl ⟨SqL.of (S68 _ _ a3),SqL.of a4⟩,.cons (.inr ⟨h1,l,_,_,rfl,rfl,.inl ⟨SqL.of (S68 _ _ a1),SqL.of l8⟩,Vm _⟩) (.cons (.inr ⟨h2,t,_,_,rfl,rfl,.inl ⟨SqL.of (S68 _ _ a2),SqL.of t8⟩,Qy _⟩) .nil),_,rfl,Y2 ?_⟩;have S58:=S57.trans S8;have B8:=B5.same S58;have pr8:=Paired.mapP pr5 λb o h=>OffAt.ext h (Ext.same S58);refine⟨_,rfl,nms,os,rfl,ok,ot,lo,λcf H9 S9 bk=>?_⟩;obtain⟨n1,l1,bs1,hf,fn,fl,nl,hn,hl,ho⟩:=bk;have l9:=S9 _ _ l8;have t9:=S9 _ _ t8;have pr9:=Paired.mapP pr8 λb o h=>OffAt.ext h (Ext.same S9);refine⟨_,rfl,_,rfl,_,rfl,cf,n1,l1,l,t,nms.length,nms,bs1,bs,os,rfl,hf,hn,hl,SqL.of l9,SqL.of t9,ho,pr9,ot,U,lo,λHa Sa=>⟨_,rfl,Y2 ?_⟩⟩;have Ba:=(B8.same S9).same Sa;have n1b:=nb B8 fn;have l1b:=nb B8 fl;have lx1:l≠n1:=Zb l8 fn;have lx2:l≠l1:=Zb l8 fl;have tx1:t≠n1:=Zb t8 fn;have tx2:t≠l1:=Zb t8 fl;have la:=Sa _ _ l9;have ta:=Sa _ _ t9;have pra:=Paired.mapP pr9 λb o h=>OffAt.ext h (Ext.same Sa);have hna:=Sa _ _ hn;have hla:=Sa _ _ hl;have sfa:=Zw Sa (SqT.of (K:=K) hf);refine⟨_,rfl,b,1300,rfl,Ba,J0,λx1 Hb r1 Bb Sb xb fb1=>?_⟩;refine⟨_,rfl,b,1303,rfl,Bb,J0,λx2 Hc r2 Bc Sc xc fc1=>?_⟩;have Eb:=Ext.bag Sb Ba;have Ec:=Ext.bag Sc Bb;have sq1:SqT K Hc x1 [.int r1.1,.int r1.2]:=Ec.sq (SqT.of xb);have sq2:SqT K Hc x2 [.int r2.1,.int r2.2]:=SqT.of xc;have gd:∀ {r:Rat},Fit30 r->Good 100 r:=λf=>⟨JW f.b1 J2,JW f.b2 J2,f.pos,f.gcd⟩;have gd1:=gd fb1;have gd2:=gd fc1;have ne:r1.2*r2.2≠0:=K4 gd1.pos gd2.pos;refine⟨_,rfl,_,_,_,rfl,rfl,sq1,_,rfl,_,_,_,rfl,rfl,sq2,_,_,rfl,rfl,gd1.b1.mulOk gd2.b1 J0 J0,_,rfl,_,_,_,rfl,rfl,sq1,_,rfl,_,_,_,rfl,rfl,sq2,_,_,rfl,rfl,gd1.b2.mulOk gd2.b2 J0 J0,_,_,rfl,ne,N5 gd1.b2 gd2.b2 J0,λxg Hd fg Sd xd=>?_⟩;refine⟨_,rfl,_,rfl,x1,x2,r1,r2,100,rfl,Zw Sd sq1,Zw Sd sq2,gd1,gd2,J0,λxt He ft Se xe=>?_⟩;have bm:∀ {p q:Int},p.natAbs<10 ^ 30->q.natAbs<10 ^ 30->(p*q).natAbs<10 ^ 70:=λ{p q} h1 h2=>by
  rw[zP];have:p.natAbs*q.natAbs<=10 ^ 30*10 ^ 30:=Nat.mul_le_mul (qV h1) (qV h2);exact JC this J2
 have m1:(mulR' r1 r2).1.natAbs<10 ^ 70:=JC (Gj ne) (bm fb1.b1 fc1.b1);have m2:(mulR' r1 r2).2.natAbs<10 ^ 70:=JC (Gk ne) (bm fb1.b2 fc1.b2);refine⟨xt,mulR' r1 r2,rfl,SqT.of xe,m1,m2,_,rfl,xg,mulR' r1 r2,rfl,Zw Se (SqT.of xd),m1,m2,rfl,_,rfl,Yp (λe=>absurd e J1) λ_=>?_⟩;have keep:∀ {x:Addr} {v:HO},x≠b->Ha x=some v->He x=some v:=λhx e=>Se _ _ (Sd _ _ (Sc _ _ (Sb _ _ e hx) hx));have XE:Ext Ha He:=Eb.trans (Ec.trans ((Ext.same Sd).trans (Ext.same Se)));have le:=keep lb la;have te:=keep tb ta;have ne1:=keep n1b hna;have le1:=keep l1b hla;have sfe:=XE.sq sfa;have pre:=Paired.mapP pra λb o h=>OffAt.ext h XE;clear keep XE Eb Ec Sb Sc Sd Se;refine⟨_,rfl,_,_,_,rfl,rfl,sfe,.inl ⟨rfl,_,SqL.of ne1⟩,n1,_,_,rfl,rfl,ne1,by rw[YC,YQ];omega,?_⟩;have X1:Ext He (upd He n1 (.lst (nms.map V.str++[.str (Str.ofString "a")]))):=Ext.upd ne1;have le2:upd He n1 (.lst (nms.map V.str++[.str (Str.ofString "a")])) l1=some (.lst (bs1.map V.ref)):=by rw[Zi (GM nl)];exact le1
 have l2:upd He n1 (.lst (nms.map V.str++[.str (Str.ofString "a")])) l=some (.lst (nms.map V.str)):=by rw[Zi lx1];exact le
 have t2:upd He n1 (.lst (nms.map V.str++[.str (Str.ofString "a")])) t=some (.lst (bs.map V.ref)):=by rw[Zi tx1];exact te
 have sf2:=X1.sq sfe;have pr2:=Paired.mapP pre λb o h=>OffAt.ext h X1;generalize upd He n1 (.lst (nms.map V.str++[.str (Str.ofString "a")]))=Hf at X1 le2 l2 t2 sf2 pr2;have lb1:=JK ho;refine⟨_,rfl,_,_,_,rfl,rfl,sf2,.inl ⟨rfl,_,SqL.of le2⟩,l1,_,_,rfl,rfl,le2,by rw[YC,YQ];omega,?_⟩;have X2:Ext Hf (upd Hf l1 (.lst (bs1.map V.ref++[.non]))):=Ext.upd le2;have l3:upd Hf l1 (.lst (bs1.map V.ref++[.non])) l=some (.lst (nms.map V.str)):=by rw[Zi lx2];exact l2
 have t3:upd Hf l1 (.lst (bs1.map V.ref++[.non])) t=some (.lst (bs.map V.ref)):=by rw[Zi tx2];exact t2
 have pr3:=Paired.mapP pr2 λb o h=>OffAt.ext h X2;generalize upd Hf l1 (.lst (bs1.map V.ref++[.non]))=Hg at X2 l3 t3 pr3;refine⟨_,rfl,nms,os,rfl,ok,ot,lo,λcg Hh Sh bk=>?_⟩;obtain⟨n2,l2',bs2,hf2,fn2,fl2,nl2,hn2,hl2,ho2⟩:=bk;refine⟨_,rfl,_,rfl,_,rfl,by show 2<=sizeLine;decide,λcp fp=>?_⟩;have Si:Same Hh (upd Hh cp (.tup [.ref l,.ref t])):=Same.new fp;have ei:upd Hh cp (.tup [.ref l,.ref t]) cp=some (.tup [.ref l,.ref t]):=Z5;generalize upd Hh cp (.tup [.ref l,.ref t])=Hi at Si ei;have Ei:=Ext.same Si;have pri:=Paired.mapP pr3 λb o h=>OffAt.ext h (Ext.same (Sh.trans Si));have hoi:=Paired.mapP ho2 λb o h=>OffAt.ext h Ei;exact⟨4,cg,cp,_,_,rfl,rfl,J0,.inr ⟨SqT.of (Si _ _ hf2),SqT.of ei⟩,.cons (.inr ⟨n2,l,_,_,rfl,rfl,.inl ⟨SqL.of (Si _ _ hn2),SqL.of ((Sh.trans Si) _ _ l3)⟩,Vm _⟩) (.cons (.inr ⟨l2',t,_,_,rfl,rfl,.inl ⟨SqL.of (Si _ _ hl2),SqL.of ((Sh.trans Si) _ _ t3)⟩,Vw hoi pri⟩) .nil),k _⟩
end
theorem Wu {x:Str}{i:Int}{t:Tok}(X:K.In h)(G:h.Ns mainGlobals mg)(e:W.nsIn K mainGlobals x=some (some (.int i t))):∃ t,mg x=some (.int i t):=⟨t,W.mg_of X G e⟩
theorem Do {x i:Str}{t:Tok}(X:K.In h)(G:h.Ns mainGlobals mg)(e:W.nsIn K mainGlobals x=some (some (.str i t))):∃ t,mg x=some (.str i t):=⟨t,W.mg_of X G e⟩
theorem D9 {a c0 c1 c2 c3:Addr}{n n0 n1 n2 n3:Nat}{t1 t2 t3 t4:Tok}{dd d0 d1 d2 d3:TK}{sl s0 s1 s2 s3:Array (Option Value)}(X:K.In h)(G:h.Ns mainGlobals mg)
  (e:W.nsIn K mainGlobals "PRICE_WORDS"=some (some (.ref a))) (l:K.lookup a=some ⟨.type "tuple",dd,.seq #[.ref c0,.ref c1,.ref c2,.ref c3] n,sl⟩) (l0:K.lookup c0=some ⟨.type "tuple",d0,.seq #[] n0,s0⟩) (l1:K.lookup c1=some ⟨.type "tuple",d1,.seq #[.str "ask" t1] n1,s1⟩)
  (l2:K.lookup c2=some ⟨.type "tuple",d2,.seq #[.str "bid" t2] n2,s2⟩) (l3:K.lookup c3=some ⟨.type "tuple",d3,.seq #[.str "ask" t3,.str "bid" t4] n3,s3⟩):PwC K mg :=
 ⟨a,[c0,c1,c2,c3],W.mg_of X G e,λH=>.inr ⟨_,_,_,l,rfl,rfl,sz4,.cons rfl (.cons rfl (.cons rfl (.cons rfl .nil)))⟩,
  λH=>.cons (.inr ⟨_,_,_,l0,rfl,rfl,sz0,.nil⟩) (.cons (.inr ⟨_,_,_,l1,rfl,rfl,sz1,.cons ⟨_,rfl⟩ .nil⟩) (.cons (.inr ⟨_,_,_,l2,rfl,rfl,sz1,.cons ⟨_,rfl⟩ .nil⟩) (.cons (.inr ⟨_,_,_,l3,rfl,rfl,sz2,.cons ⟨_,rfl⟩ (.cons ⟨_,rfl⟩ .nil)⟩) .nil)))⟩
end Sb
namespace PySem.W.Fast
theorem q:True:=⟨⟩
def te4711017706624050839:=q
def tw4711017706624050839:=q
def tw17186976855375985347:=q
def tw2805864444489923602:=q
def tw1098053471243971983:=q
def tw7902473608584989800:=q
def tw8611779573705446946:=q
def tw18418429563110128616:=q
def tw2832287143859333699:=q
def tw5184851384713025553:=q
def tw15975490586934702877:=q
def tw8535652907513225523:=q
def tw14410104778511049912:=q
def tw17325235004538575739:=q
def tw668406078251449356:=q
def tw6864564987203553277:=q
def tw350838736622577409:=q
def tw3296914306394579298:=q
def tw12253149670188562723:=q
def tw16473446690098944196:=q
def tw3350513756262684340:=q
def tw3410268229494992927:=q
def tw3794392813090610760:=q
def tw10694161841072459063:=q
def tw16259413718762153645:=q
def tw7484811185898724712:=q
def tw477673193540748374:=q
def tw18212136113827626572:=q
def tw16917902453436275654:=q
def tw3608330013865897931:=q
def tw16576890499546484424:=q
def tw11349444979534988592:=q
def tw1192653106738863638:=q
def tw16820871165573912097:=q
def tw7412560868161141750:=q
def tw1835372581967568040:=q
def tw5148560189967162275:=q
def tw5503533720022711549:=q
def tw12302558408069212895:=q
def tw656377448246177197:=q
def tw4800889577205489324:=q
def tw5660795569785826973:=q
def tw1309306783202303082:=q
def tw5889630156574609836:=q
def tw9572626204824146559:=q
def tw3506586825334686816:=q
def tw12606977265221530841:=q
def tw3958415022421062170:=q
def tw5910835865867787397:=q
def tw17393834905796973468:=q
def tw15432767236833882016:=q
def tw12167118445042211615:=q
def tw12148413875421419355:=q
def tw14907367861587969312:=q
def tw18333723857421262467:=q
def tw9111790612617236453:=q
def tw12994074932338154518:=q
def tw7275646554700455101:=q
def tw5432213030612132118:=q
def tw15959324139484941206:=q
def tw1937996057457629261:=q
def tw12740151981497070250:=q
def tw17760994326801389525:=q
def tw3603913219231958428:=q
def tw9653107470206969049:=q
def tw3833340165274953749:=q
def tw18122820729026481378:=q
def tw17769229813246130460:=q
def tw1291587529847973596:=q
def tw6385714918412054299:=q
def tw3556294206210693558:=q
def tw13537063860918017536:=q
def tw11408629118031967330:=q
def tw17659311759236183819:=q
def tw3702844501006704379:=q
def tw4136108194603300628:=q
def tw14265763215660308719:=q
def tw9550111514587210280:=q
def tw16927594479862118074:=q
def tw14508641525470025939:=q
def tw13964441749898307713:=q
def tw383143791376064452:=q
def tw8054795736423551778:=q
def tw1599515356221772515:=q
def tw10464892292619161591:=q
def tw10937648057428037400:=q
def tw3718094494839242440:=q
def tw1166950302688982108:=q
def tw750238606944354215:=q
def tw3279163290654185340:=q
def tw12157116990115056687:=q
def tw17501568826038670404:=q
def tw18065207750235625499:=q
def tw1202615691154700442:=q
def tw14317113754537847403:=q
def tw8503954683559390154:=q
def tw12168503556232429449:=q
def tw10869704760522818204:=q
def tw5468223097904781086:=q
def tw15812920878754272178:=q
def tw1247242450214913286:=q
def tw11737232831560896523:=q
def tw7276524989065811436:=q
def tw7607286778533667151:=q
def tw12883441673457849723:=q
def tw91365386709947126:=q
def tw6846194317929143170:=q
def tw2743152794225415130:=q
def tw6642138150508952662:=q
def tw14962443379862311135:=q
def tw10430988296319329444:=q
def tw11158125600685470091:=q
def tw4592580919359421163:=q
def tw7911947122461236980:=q
def tw15141101579501837048:=q
def tw3233280397989685483:=q
def tw2629194406794337164:=q
def tw3447832584451888406:=q
def tw14636523988016364328:=q
def tw5611214238685345991:=q
def tw10555591970894356537:=q
def tw4498905560434298613:=q
def tw12915448433279387216:=q
def tw4169927555618582872:=q
def tw16386119684403069249:=q
def tw3318743945885282547:=q
def tw18263833914910537427:=q
def tw15190131798618369769:=q
def tw13671244124529242343:=q
def tw15363956672866929664:=q
def tw13214705577630585954:=q
def tw1522626026723713148:=q
def tw1348789477294431432:=q
def tw17191664320079923413:=q
def tw13587080297077617027:=q
def tw1842816641736048149:=q
def tw17203086812111622355:=q
def tw15741644687729163603:=q
def tw3399423965490554370:=q
def tw8808412336585917916:=q
def tw8218334925000162426:=q
def tw11454813612031964186:=q
def tw15092646321594408864:=q
def tw18012220483920800802:=q
def tw6206563545486981071:=q
def tw14526834658710166464:=q
def tw12570287967346958272:=q
def tw5877821784782104042:=q
def tw17254582667542547292:=q
def tw4643672754589496784:=q
def tw16016754001915169381:=q
def tw17563446070031480259:=q
def tw6412777019901796310:=q
def tw17695878328075832505:=q
def tw7360538046092174586:=q
def tw17934740662199876787:=q
def tw10207902810936084831:=q
def tw632158672237263079:=q
def tw10616314566932613299:=q
def tw13279204682390535383:=q
def tw14995813006904094341:=q
def tw3006727281478452298:=q
def tw15460759334096586434:=q
def tw14459813171497377817:=q
def tw5374829507880520202:=q
def tw11555636608107931005:=q
def tw14605323099822401411:=q
def tw11379276904759620759:=q
def tw3030187057215355849:=q
def tw238804944357355089:=q
def tw12838744642054395617:=q
def tw16121723204420682253:=q
def tw15683846155507844276:=q
def tw15658399679434097716:=q
def tw16654844526901143201:=q
def tw6046835772945013937:=q
def tw162550189250071022:=q
def tw2783010051452519726:=q
def tw11384251461535859217:=q
def tw15004132763804651058:=q
def tw88479014450752409:=q
def tw6892759628608379257:=q
def tw1084548055963379037:=q
def tw11522984333912935191:=q
def tw13181910961874776310:=q
def tw16100943877124014415:=q
def tw13135677937983618642:=q
def tw3490260640689431691:=q
def tw11900531554431075468:=q
def tw4887131669621326439:=q
def tw4410910361147961061:=q
def tw17236417815808453905:=q
def tw10236565640554690566:=q
def tw11230030129366047969:=q
def tw13178043154338086874:=q
def tw16126100692784133412:=q
def tw3373425713536199765:=q
def tw1378316803371621941:=q
def tw4645044464190780074:=q
def tw8621264364778701335:=q
def tw8656464701873011744:=q
def tw12606312574946213428:=q
def tw13907413441745144586:=q
def tw8584430993617210103:=q
def tw12173742874136458759:=q
def tw5310075250027830448:=q
def tw17874344074509453048:=q
def tw670979089479825660:=q
def tw9622057347347748435:=q
def tw16702017255342337469:=q
def tw5280249652693542914:=q
def tw3922928878965419561:=q
def tw13352814058587750933:=q
def tw4415233933552920021:=q
def tw1923580986859513634:=q
def tw18231011573978214221:=q
def tw4273798316443651114:=q
def tw5926530439909973867:=q
def tw2163432176485983137:=q
def tw2240464181258281100:=q
def tw1816860934922259604:=q
def tw6279353875260390785:=q
def tw12335555530509922599:=q
def tw12207639327157771612:=q
def tw3014563117034758439:=q
def tw14099435242860446639:=q
def tw10143938001898195746:=q
def tw15419990320816787073:=q
def tw2727370310743825732:=q
def tw8340868539231086105:=q
def tw4177339741414214365:=q
def tw11626669486623910992:=q
def tw16100238287862309337:=q
def tw430660230319623009:=q
def tw8270945052030965124:=q
def tw10633658741029931998:=q
def tw2513722932879275291:=q
def tw8624240259125537672:=q
def tw18412019453752920218:=q
def tw1282234466236583491:=q
def tw17789019010580685306:=q
def tw9681565816975170385:=q
def tw12923173264991597486:=q
def tw13661838633594954695:=q
def tw3648244350360479527:=q
def tw5987494475475500982:=q
def tw17981983441343227507:=q
def tw15878842508407593921:=q
def tw16347701569394804508:=q
def tw7433300316055587799:=q
def tw3860661070863149305:=q
def tw12384172065123417059:=q
def tw14220532940123129089:=q
def tw15097072456896962274:=q
def tw478482100650945919:=q
def tw8751505367003204898:=q
def tw13288993416007726711:=q
end PySem.W.Fast
abbrev Sb.pk:PySem.Program:=PySem.Challenge.rw_surebook_k48_texts.prog
abbrev Sb.DZ{K:PySem.W.Frag}{h:PySem.Heap}(X:K.In h):=Sb.Def (L2.KOf X)
open PySem PySem.W PyProof.Rows
set_option maxRecDepth 100000 in
set_option maxHeartbeats 0 in
theorem PySem.Challenge.cw_surebook_k48_texts_holds : PySem.Challenge.rw_surebook_k48_texts.Holds := by
 w_on; o_law; k_head; (case hw=>w_witness2)
 k_fill
 refine L2.L6 (l:=PySem.Challenge.rw_surebook_k48_texts) (n:=63) (k:=10) (x:="_law_script") (CX:=L2.CX0) (sp:=Sb.spLaw) (sr:=true) rfl (by decide) ?IQ rfl rfl ⟨λ_=>rfl,by decide,by decide⟩ (λw h Y=>PySem.W.kIn_of Y) ?F (λK H a ns hl hO hS=>⟨a,ns,rfl,hS,λ_=>rfl⟩) (λ_ _ _ _ z=>z)
 case IQ=>kernel_rfl
 case F =>
  intro w mg fa h KX G hmg;have T:Sb.Blt mg:=by
   refine'⟨YX KX G ?z0,YX KX G ?z1,YX KX G ?z2,YX KX G ?z3,YX KX G ?z4,YX KX G ?z5,YX KX G ?z6,YX KX G ?z7,YX KX G ?z8,YX KX G ?z9,YX KX G ?z10,YX KX G ?z11,YX KX G ?z12⟩
   case z0|z1|z2|z3|z4|z5|z6|z7|z8|z9|z10|z11|z12=>k_is
  have⟨i7,gW,jH,jK,jI,iC,g9,iE,jD,i8,iG,i6⟩:Sb.DZ KX mg "is_whole" Sb.fU ["value"]/\Sb.DZ KX mg "common_divisor" Sb.fH TY/\Sb.DZ KX mg "lowest" Sb.fX TZ/\Sb.DZ KX mg "ratio" Sb.fW TZ/\Sb.DZ KX mg "times" Sb.f6 TY/\Sb.DZ KX mg "show_ratio" Sb.fK ["one"]/\Sb.DZ KX mg "read_figures" Sb.fI Ui/\Sb.DZ KX mg "read_ratio" Sb.fM Ui/\Sb.DZ KX mg "is_name" Sb.fY Ui/\Sb.DZ KX mg "event_of" Sb.fV UB/\Sb.DZ KX mg "read_names" Sb.fO ["row"]/\Sb.DZ KX mg "read_row" Sb.fS UA:=by
   dsimp only [L2.KOf,Sb.DZ];exact⟨Sb.Zn KX G,Sb.Zn KX G,Sb.Zn KX G,Sb.Zn KX G,Sb.Zn KX G,Sb.Zn KX G,Sb.Zn KX G,Sb.Zn KX G,Sb.Zn KX G,Sb.Zn KX G,Sb.Zn KX G,Sb.Zn KX G⟩
  have⟨iA,iF,iQ,jO,iD,jJ,iW,iH,iI,jE,i9,iR⟩:Sb.DZ KX mg "read_prices" Sb.fJ UA/\Sb.DZ KX mg "read_offer" Sb.fN ["names","row"]/\Sb.DZ KX mg "read_rows" Sb.fQ ["rows"]/\Sb.DZ KX mg "read" Sb.gG Ui/\Sb.DZ KX mg "show_offer" Sb.fL ["names","offer"]/\Sb.DZ KX mg "shown" Sb.f8 ["names","offers"]/\Sb.DZ KX mg "_law_cell" Sb.gK TV/\Sb.DZ KX mg "_law_whole" Sb.fZ UI/\Sb.DZ KX mg "_law_ratio" Sb.gA TW/\Sb.DZ KX mg "_law_is" Sb.sIs UJ/\Sb.DZ KX mg "_law_bag" Sb.gM TX/\Sb.DZ KX mg "_law_take" Sb.gD ["_law_bag_here","_law_many"]:=by
   dsimp only [L2.KOf,Sb.DZ];exact⟨Sb.Zn KX G,Sb.Zn KX G,Sb.Zn KX G,Sb.Zn KX G,Sb.Zn KX G,Sb.Zn KX G,Sb.Zn KX G,Sb.Zn KX G,Sb.Zn KX G,Sb.Zn KX G,Sb.Zn KX G,Sb.Zn KX G⟩
  have⟨hV,iJ,iU,gX,iS,iV,iK,gQ,iT⟩:Sb.DZ KX mg "_law_letters" Sb.fT UK/\Sb.DZ KX mg "_law_names" Sb.gB UE/\Sb.DZ KX mg "_law_part" Sb.gH UD/\Sb.DZ KX mg "_law_any_offer" Sb.fR UE/\Sb.DZ KX mg "_law_show" Sb.gE UC/\Sb.DZ KX mg "_law_line" Sb.gJ UG/\Sb.DZ KX mg "_law_lines" Sb.gC UH/\Sb.DZ KX mg "_law_offer_like" Sb.fP UJ/\Sb.DZ KX mg "_law_same" Sb.gF UL:=by
   dsimp only [L2.KOf,Sb.DZ];exact⟨Sb.Zn KX G,Sb.Zn KX G,Sb.Zn KX G,Sb.Zn KX G,Sb.Zn KX G,Sb.Zn KX G,Sb.Zn KX G,Sb.Zn KX G,Sb.Zn KX G⟩
  have m_MOST_FIGURES:∃ t,mg "MOST_FIGURES"=some (.int 30 t):=by
   refine' Sb.Wu KX G ?z
   (case z=>k_is)
  have m_MOST_LETTERS:∃ t,mg "MOST_LETTERS"=some (.int 8 t):=by
   refine' Sb.Wu KX G ?z
   (case z=>k_is)
  have m_LEAST_WORLDS:∃ t,mg "LEAST_WORLDS"=some (.int 2 t):=by
   refine' Sb.Wu KX G ?z
   (case z=>k_is)
  have m_MOST_WORLDS:∃ t,mg "MOST_WORLDS"=some (.int 12 t):=by
   refine' Sb.Wu KX G ?z
   (case z=>k_is)
  have m_MOST_OFFERS:∃ t,mg "MOST_OFFERS"=some (.int 12 t):=by
   refine' Sb.Wu KX G ?z
   (case z=>k_is)
  have m_ROW:∃ t,mg "ROW"=some (.int 0 t):=by
   refine' Sb.Wu KX G ?z
   (case z=>k_is)
  have m_ASK:∃ t,mg "ASK"=some (.int 1 t):=by
   refine' Sb.Wu KX G ?z
   (case z=>k_is)
  have m_BID:∃ t,mg "BID"=some (.int 2 t):=by
   refine' Sb.Wu KX G ?z
   (case z=>k_is)
  have m_EVENT:∃ t,mg "EVENT"=some (.int 3 t):=by
   refine' Sb.Wu KX G ?z
   (case z=>k_is)
  have m_FIGURES:∃ t,mg "FIGURES"=some (.str "0123456789" t):=by
   refine' Sb.Do KX G ?z
   (case z=>k_is)
  have n_str:mg "str"=none:=by
   refine' YX KX G ?z
   (case z=>k_is)
  have n_all:mg "all"=none:=by
   refine' YX KX G ?z
   (case z=>k_is)
  have n_set:mg "set"=none:=by
   refine' YX KX G ?z
   (case z=>k_is)
  have n_dict:mg "dict"=none:=by
   refine' YX KX G ?z
   (case z=>k_is)
  have n_sorted:mg "sorted"=none:=by
   refine' YX KX G ?z
   (case z=>k_is)
  have TT:Sb.BltT mg:=⟨T,n_str,n_all,n_set,n_dict,n_sorted⟩;have hPW:Sb.PwC (L2.KOf KX) mg:=by
   dsimp only [L2.KOf,Sb.DZ];refine' Sb.D9 KX G ?pe ?pl ?p0 ?p1 ?p2 ?p3
   case pe|pl|p0|p1|p2|p3=>k_is
  refine' Sb.Fp (st:=Sb.gL) KX G hmg ?a ?l ?c ?k ?b ?ok
  case a|l|c|k=>k_is
  (case b=>exact λs v=>.of_eq rfl)
  case ok =>
   intro fd base F;have i5:=Sb.Fo (P:=Sb.pk) (w:=w) (base:=base) iW T;have gT:=Sb.Jh (P:=Sb.pk) (w:=w) (base:=base) iI T;have jC:=Sb.Df (P:=Sb.pk) (w:=w) (base:=base) i9;have gN:=Sb.Fj (P:=Sb.pk) (w:=w) (base:=base) iR;have gY:=Sb.De (P:=Sb.pk) (w:=w) (base:=base) gW T;have iY:=Sb.Lz jH gY;have jA:=Sb.M8 (P:=Sb.pk) (w:=w) (base:=base) i7 T;have jN:=Sb.Ly jK jA iY;have gO:=Sb.Rt (P:=Sb.pk) (w:=w) (base:=base) iC TT;have h7:=Sb.Uj (P:=Sb.pk) (w:=w) (base:=base) g9 TT m_FIGURES m_MOST_FIGURES;have gR:=Sb.Rv iE h7 jN gO;have jF:=Sb.K0 (P:=Sb.pk) (w:=w) (base:=base) jD TT m_MOST_LETTERS;have hZ:=Sb.M6 i6 TT gR;have jB:=Sb.M9 (P:=Sb.pk) (w:=w) (base:=base) i8 TT;have iN:=Sb.Rx iG TT jF m_LEAST_WORLDS m_MOST_WORLDS;have iB:=Sb.S0 iA TT hZ hPW;have iM:=Sb.Rw iF TT hZ iB jB;have iX:=Sb.P6 iQ TT iN iM m_MOST_OFFERS;have jP:=Sb.Fk jO iX;have iL:=Sb.Ru iD TT gO m_ROW m_ASK m_BID m_EVENT;have jM:=Sb.Jf jJ TT iL;have gP:=Sb.Jk (P:=Sb.pk) (w:=w) (base:=base) iS TT;have g6:=Sb.Fl iU gN gT;have gZ:=Sb.P7 gX TT g6 gN;have i4:=Sb.Fm iV gP;have iP:=Sb.Jj iK i4;have gS:=Sb.Jd (P:=Sb.pk) (w:=w) (base:=base) iH T;have jG:=Sb.Dc jE T gS;have h8:=Sb.M7 hV TT gN;have iO:=Sb.Ji iJ TT gN h8;have gU:=Sb.Fn gQ TT jG gO gP gR gS;have iZ:=Sb.Jg iT TT gU;have jL:=Sb.Je jI iY;exact Sb.Db F TT i5 jC gN iO gZ iP jM jP iZ g6 gT jL gO gP
