import PyProof.Rows.All
import Wide.All
import OpenK.AllK
import Wide.FinOn
import Lean
import PyProof.EqAt
import PyProof.EqKinds
import PyProof.TupleCall
import KE.KSortTup
import PyProof.TupleKey
import PyProof.SetKind
import PyProof.DictKinds
import PyProof.IsRules
import PyProof.SetRoads
import KE.KDictSum
import PySem.Challenge.RW_planestacks_k40_base_rows_told
set_option linter.all false
def ab:=@List.length_map
def ac:=@List.getD_eq_getElem?_getD
def ae:=@PySem.wpAny_bind
def af:=@if_neg
def ag:=@if_pos
def aj:=@decide_eq_false
def am:=@List.getElem?_eq_getElem
def ao:=@Nat.le_refl
def ap:=@PySem.wpAny_pure
def aq:=@decide_eq_true
def ar:=@List.length_pos_iff
def au:=@List.eq_nil_of_length_eq_zero
def aw:=@List.getElem?_map
def aA:=@List.length_append
def aB:=@List.getElem?_set_ne
def aC:=@List.mem_cons_of_mem
def aE:=@PySem.Heap.get?_push_of_some
def aF:=@List.mem_cons
def aG:=@List.getElem?_eq_some_iff
def aH:=@List.mem_singleton
def aI:=@List.getElem?_eq_none
def aJ:=@Nat.zero_le
def aL:=@Nat.le_trans
def aN:=@List.mem_cons_self
def aO:=@Int.mul_zero
def aQ:=@List.getElem?_append_right
def aR:=@Nat.lt_of_lt_of_le
def aT:=@List.size_toArray
def aW:=@Bool.false_ne_true
def aY:=@List.mem_range
def aZ:=@List.mem_map
def a7:=@PySem.Heap.get?_push_size
def a8:=@List.getElem?_append_left
def a9:=@List.getElem?_set_self
def ba:=@Nat.pow_le_pow_right
def bc:=@PySem.Heap.lt_size
def bj:=@List.map_append
def bo:=@congrArg
def bp:=@List.map_map
def bv:=@List.getElem?_range
def bw:=@Array.length_toList
def bz:=@Classical.byContradiction
def bA:=@Nat.lt_or_ge
def bB:=@List.length_cons
def bC:=@Option.some.inj
def bE:=@List.length_set
def bF:=@Nat.mul_le_mul_right
def bK:=@Int.emod_lt_of_pos
def bL:=@Array.getElem?_eq_getElem
def bO:=@Int.emod_nonneg
def bP:=@List.mem_append_right
def bQ:=@Int.toNat_natCast
def bS:=@Int.one_mul
def bV:=@List.mem_of_getElem?
def bW:=@List.length_replicate
def bY:=@List.map_cons
def bZ:=@Int.mul_fdiv_cancel_left
def cb:=@Nat.lt_of_le_of_lt
def cc:=@Nat.mul_le_mul_left
def cj:=@List.length_reverse
def cn:=@Int.add_zero
def cq:=@List.eq_nil_or_concat
def cw:=@PySem.wpAny_mono
def cA:=@List.map_congr_left
def cE:=@Int.mul_ne_zero
def cJ:=@List.concat_eq_append
def cK:=@PySem.W.mg_none_of
def cO:=@List.length_drop
def cQ:=@List.mem_append
def cX:=@List.length_take
def cY:=@List.length_range
def cZ:=@List.getElem_mem
def c6:=@List.getElem?_set_self'
def c7:=@Array.getElem?_toList
def c8:=@Int.ofNat_dvd_left
def de:=@PySem.wpAny_call_entry
def dh:=@Nat.ne_of_lt
def dk:=@List.mem_filter
def dq:=@List.append_nil
def dz:=@List.length_singleton
def dC:=@PySem.wpAny_newObj_type
def dD:=@List.getElem?_replicate
def dF:=@List.replicate_succ
def dG:=@Int.mul_assoc
def dJ:=@PySem.Heap.SameBut.update
def dL:=@Int.zero_mul
def dO:=@Int.mul_comm
def dQ:=@Int.natAbs_mul
def dU:=@PySem.wpAny_of_eq
def dW:=@Nat.lt_irrefl
def dX:=@List.append_assoc
def dZ:=@PySem.wpAny_callSpecial?_slot
def eB:=@Bool.false_eq_true
def eE:=@List.getElem_of_mem
def eI:=@Nat.sub_self
def eJ:=@Array.getD_eq_getD_getElem?
def eR:=@Int.natAbs_natCast
def eT:=@PySem.W.kia_one
def eU:=@List.range_succ
def eV:=@Int.mul_eq_zero
def fh:=@Nat.zero_add
def fj:=@List.lookup_cons
def fk:=@PySem.wpAny_standAt
def fv:=@of_decide_eq_true
def fy:=@Nat.mul_le_mul
def fB:=@Int.zero_add
def fC:=@Int.natCast_mul
def fE:=@PySem.wpAny_setState_of
def fH:=@PySem.Heap.get?_update_self
def fI:=@PySem.wpAny_holding
def fJ:=@List.take_length
def fM:=@PySem.Obj.data_mapFields
def fR:=@PySem.sizeLine_eq
def fS:=@Nat.mul_comm
def fT:=@Nat.lt_trichotomy
def fU:=@beq_eq_false_iff_ne
def fZ:=@Int.eq_of_mul_eq_mul_left
def ge:=@PySem.SeqAt.canLay_of_shaped
def gx:=@Nat.gcd_dvd_left
def gy:=@Ne.symm
def gB:=@PySem.builtinLookup_eq_fast
def gI:=@PySem.F.plainAttrs_list
def gJ:=@Nat.gcd_dvd_right
def gK:=@List.reverse_cons
def gL:=@List.flatten_cons
def gO:=@Nat.not_lt_zero
def gQ:=@List.length_nil
def gT:=@PySem.wpAny_setField
def ie:=@PyProof.Rows.callWith_type1
def ig:=@Nat.succ_mul
def ik:=@PySem.wpAny_truthy_bool
def il:=@Nat.dvd_trans
def iA:=@Nat.one_le_two_pow
def iB:=@Int.mul_nonneg
def iC:=@Int.emod_add_mul_ediv
def iL:=@List.nodup_cons
def iM:=@PySem.isSubtype_type
def iN:=@congrFun
def iO:=@Nat.pow_succ
def iP:=@Nat.pow_lt_pow_right
def iQ:=@List.pairwise_map
def iS:=@List.map_set
def iT:=@List.length_dropLast
def iU:=@List.getElem?_append
def iV:=@Int.natAbs_of_nonneg
def iZ:=@Int.zero_fdiv
def jf:=@PySem.mem_of_lookup
def jg:=@List.filterMap_cons
def jk:=@beq_self_eq_true
def jl:=@List.Nodup.length_le_of_subset
def jm:=@Bool.and_eq_true
def js:=@PySem.wpAny_comprehension_free
def jG:=@Nat.sub_zero
def jH:=@Nat.add_sub_cancel
def jN:=@PySem.wpAny_askSetting
def kw:=@List.length_filter_le
def kz:=@List.getElem?_toArray
def kA:=@PySem.wpAny_typeNameOfWhole_keyiter
def kB:=@PySem.wpAny_field
def kD:=@PySem.Heap.get?_update_other
def kU:=@PySem.wpAny_passesOwn
def kW:=@PySem.wpAny_loadPart'
def kX:=@PySem.typeLookup_type
def kY:=@if_false
def kZ:=@List.nodup_iff_pairwise_ne
def k9:=@Int.sign_eq_neg_one_of_neg
def lc:=@PySem.F.slot_dict_keyiterator_next
def lD:=@PySem.wpAny_attempt
def lN:=@PySem.Obj.isFreed_of_fields
def lO:=@Nat.add_comm
def lU:=@List.getD_cons_succ
def mx:=@PySem.F.slot_tuple_iterator_next
def mG:=@List.find?_cons
def mH:=@Int.pow_ne_zero
def nc:=@PySem.wpAny_isInstance
def nh:=@Nat.eq_zero_or_pos
def ni:=@Nat.pow_pos
def nj:=@Nat.add_mul
def np:=@Int.mul_pos
def nq:=@Int.dvd_of_emod_eq_zero
def og:=@Nat.le_of_eq
def oh:=@List.getElem?_set
def oj:=@List.foldl_append
def om:=@List.dropWhile_sublist
def oo:=@Int.sign_eq_one_of_pos
def oq:=@Int.pow_zero
def ot:=@Int.pow_succ
def ou:=@PySem.wpAny_ite_split
def oV:=@List.getElem?_reverse
def qf:=@decide_eq_decide
def qg:=@Nat.lt_succ_self
def qh:=@List.mem_reverse
def qi:=@List.mem_flatMap
def qA:=@Nat.mul_assoc
def qC:=@PySem.Value.isInt_shape
def qD:=@Nat.pow_add
def qE:=@Int.mul_le_mul_of_nonneg_left
def qF:=@Int.mul_ediv_cancel'
def rZ:=@List.foldl_cons
def se:=@List.dropLast_concat_getLast
def si:=@Int.natCast_pow
def sV:=@Int.sign_mul_natAbs
def td:=@Nat.ne_of_gt
def tj:=@Int.sub_zero
def ux:=@List.getElem?_take
def uy:=@Int.fdiv_eq_ediv_of_nonneg
def uz:=@Int.add_mul_emod_self_left
def vL:=@PySem.wpAny_specialOf
def vM:=@List.pairwise_iff_getElem
def vP:=@Nat.lt_succ_of_lt
def vQ:=@Int.mul_add
def vR:=@Int.lt_trichotomy
def vS:=@Int.emod_eq_of_lt
def wP:=@PySem.W.mg_of
def wQ:=@Nat.gcd_pos_of_pos_right
def xB:=@PySem.wpAny_pyIter_tuple
def xC:=@Nat.not_lt_of_le
def xD:=@Nat.le_add_right
def xE:=@List.length_tail
def xF:=@List.getLast_eq_getElem
def xG:=@List.getElem?_cons_succ
def xH:=@List.drop_length
def xI:=@PySem.Heap.size_push
def Av:=@if_true
def Aw:=@Nat.lt_trans
def Ax:=@Nat.le_of_lt
def Ay:=@Nat.le_mul_of_pos_left
def Az:=@Nat.dvd_refl
def AA:=@List.take_of_length_le
def AB:=@List.flatMap_singleton
def AC:=@Int.le_of_lt
def AD:=@Array.getElem?_eq_none
def AG:=@PySem.wpAny_pyIter_slot
def AH:=@PySem.Obj.cls_mapFields
def AI:=@Bool.eq_iff_iff
def Bk:=@PySem.F.type_list_pop
def Bl:=@PySem.F.slot_list_pop
def Bm:=@Nat.le_of_ble_eq_true
def Bo:=@List.dropLast_sublist
def DR:=@Nat.mul_add
def DS:=@List.nodup_nil
def DT:=@List.mem_of_mem_take
def DU:=@List.mem_append_left
def DV:=@List.getElem?_of_mem
def DW:=@List.Perm.refl
def DX:=@Int.mul_neg
def DY:=@Int.le_refl
def DZ:=@Bool.and_false
def D1:=@Array.mem_toList_iff
def Ge:=@PySem.wpAny_rule
def Gf:=@PySem.call_meets
def Gg:=@Option.some_ne_none
def Gh:=@Nat.pow_le_pow_left
def Gi:=@List.flatMap_append
def Gj:=@Int.toNat_of_nonneg
def Gk:=@PySem.Calls.callWith_builtin
def Gw:=@PySem.wpAny_execs_nil
def Gx:=@Nat.add_assoc
def H9:=@Nat.eq_or_lt_of_le
def Ia:=@List.mem_filterMap
def Ib:=@List.map_inj_right
def Ic:=@List.getElem?_drop
def Ie:=@Int.not_lt
def Ig:=@Int.mul_nonneg_of_nonpos_of_nonpos
def Ih:=@Int.lt_or_lt_of_ne
def K6:=@PySem.wpAny_seqItems
def K7:=@PySem.wpAny_fieldsOf
def K8:=@PySem.isSubtype_stop
def K9:=@PySem.W.kitx_dict
def La:=@Nat.gcd_comm
def Lb:=@Nat.add_zero
def Lc:=@Int.le_total
def N6:=@PySem.wpAny_setEntries_of
def N7:=@Nat.and_two_pow_sub_one_eq_mod
def N8:=@List.map_reverse
def N9:=@List.ext_getElem
def Oh:=@PySem.wpAny_handled
def Oi:=@PyProof.Rows.subscriptTail_builtinR
def Oj:=@Nat.one_mul
def Ol:=@Int.mul_one
def Qq:=@PySem.wpAny_Call_Name_kw
def Qr:=@PySem.tupleKind_room_in1
def Qs:=@List.of_mem_zip
def Qt:=@List.forIn_cons
def Qu:=@Int.natCast_sub
def Qv:=@Int.le_antisymm
def Ta:=@PySem.wpAny_pyIter_list
def Tc:=@PySem.wpAny_dictEntries
def Td:=@PySem.wpAny_assign_Name
def Te:=@PySem.seqIndex_neg
def Tf:=@PySem.codeAny_mono
def Tg:=@PySem.codeAny_loop
def Th:=@Nat.mod_lt
def Ti:=@List.perm_ext_iff_of_nodup
def Tj:=@Int.natAbs_neg
def Tk:=@Bool.false_and
def Tu:=@PySem.F.slot_list_reverse
def Tv:=@List.drop_eq_getElem_cons
def UP:=@PySem.wpAny_forIn_list
def UQ:=@PySem.entryFor_of_tree
def UR:=@Nat.le_of_dvd
def US:=@List.map_take
def UT:=@List.eq_of_mem_replicate
def UU:=@List.cons.inj
def UV:=@PySem.F.args_dict_keyiterator_next_1
def UW:=@Bool.not_true
def Va:=@PySem.wpAny_throw
def Vb:=@PySem.wpAny_noted
def Vc:=@PySem.wpAny_alloc
def Vd:=@PySem.seqIndex_of
def Ve:=@List.pairwise_singleton
def Vf:=@List.filter_cons_of_pos
def Vg:=@List.filter_cons_of_neg
def Vh:=@Int.emod_eq_zero_of_dvd
def Vi:=@PySem.F.entry_dict_keyiterator_next
def V7:=@PySem.wpAny_dictEpoch
def V8:=@PySem.W.cellsFrom_some
def V9:=@Option.map_eq_some_iff
def Wa:=@List.map_nil
def Wb:=@List.length_eq_one_iff
def Wc:=@Int.sub_self
def Wd:=@Int.ofNat_lt
def We:=@Int.lt_or_le
def Wf:=@PySem.F.args_tuple_iterator_next_1
def Wq:=@PyProof.Rows.assignInOrder_cons
def Wr:=@PySem.W.depthAll_ints
def Ws:=@PySem.F.slot_set_iter
def Wt:=@PySem.F.slot_dict_get
def Wu:=@List.take_append_drop
def Wv:=@List.dropLast_eq_take
def Ww:=@Int.mul_fdiv_add_fmod
def Wx:=@PySem.F.entry_tuple_iterator_next
def WN:=@PySem.entryFor_alias
def WO:=@Nat.pow_mul
def WP:=@List.reverse_reverse
def WQ:=@List.replicate_succ'
def WR:=@List.mem_of_mem_tail
def WS:=@List.map_id
def WT:=@List.dropLast_concat
def WU:=@PySem.Calls.Name_function_global
def WV:=@Array.toList_extract
def WY:=@List.map_eq_nil_iff
def WZ:=@List.findSome?_cons
local macro_rules|`(tactic|decide)=>`(tactic|decide +kernel)
abbrev D2(x:PySem.Str):Prop:=(x==("__debug__":PySem.Str))=false
abbrev Oa(sc:PySem.Scope)(x:PySem.Str):Prop:=sc.names.lookup x=some .globalImplicit
abbrev Tw(c:PySem.Pos)(es:List PySem.Expr)(E:PySem.Env):Prop:=((PySem.backTo c<|PySem.starEach es E).all (λx=>!x.1)&&(PySem.backToKw c<|PySem.keywordEach [] E).all (λx=>x.1.isSome)&&decide (es.length+([]:List PySem.Keyword).length+(if([]:List PySem.Keyword).isEmpty then 0 else 1)<30))=true
abbrev Ii(e:PySem.Expr)(es:List PySem.Expr)(E:PySem.Env):Prop:=PySem.starEach (e::es) E=(false,PySem.eval e E)::PySem.starEach es E
abbrev JT(c:PySem.Pos)(es:List PySem.Expr)(E:PySem.Env):Prop:=(PySem.backTo c<|PySem.starEach es E).any (·.1)=false
abbrev gS:=PySem.W.Frag
abbrev az:=List Int
abbrev Q7:=List Nat
abbrev fV:=List PySem.Str
abbrev vO:=List PySem.Expr
abbrev jt:=List PySem.Value
abbrev jn:=List<|PySem.Addr×PySem.Obj
abbrev uA:=PySem.Value->PySem.Shared->Prop
abbrev AE:=PySem.Str->Option PySem.Value
set_option Elab.async false
set_option maxRecDepth 100000
namespace L2
open PySem PySem.W PySem.Spec PyProof.Rows
variable {α:Type}
variable {K:gS}
abbrev D3:=Sum Int Str
def QV:D3->Value->Bool|.inl k,v=>Value.isInt k v|.inr x,v=>Value.isStrOf x v
def VH(w:World):D3->Int|.inl k=>hashInt k|.inr x=>hashStr w x
def gF:∀{k:D3}{v:Value},QV k v=true->(∃i t,k=Sum.inl i/\v=Value.int i t)\/(∃x t,k=Sum.inr x/\v=Value.str x t)|.inl i,v,h=>by obtain⟨t,e⟩:=qC h;exact .inl ⟨i,t,rfl,e⟩|.inr x,v,h=>by obtain⟨t,e⟩:=Value.isStrOf_shape h;exact .inr ⟨x,t,rfl,e⟩
def Sg(a b:Int):decide ((Sum.inl a:D3)=Sum.inl b)=(a==b):=by by_cases e:a=b;subst e;simp;have h:¬(Sum.inl a:D3)=Sum.inl b:=λq=>e<|Sum.inl.inj q;rw[aj h];exact(fU.mpr e).symm
def Sd(a b:Str):decide ((Sum.inr a:D3)=Sum.inr b)=decide (a=b):=by by_cases e:a=b;subst e;simp;have h:¬(Sum.inr a:D3)=Sum.inr b:=λq=>e<|Sum.inr.inj q;rw[aj h,aj e]
def Sf(a:Int)(b:Str):decide ((Sum.inl a:D3)=Sum.inr b)=false:=aj λq=>nomatch q
def Se(a:Str)(b:Int):decide ((Sum.inr a:D3)=Sum.inl b)=false:=aj λq=>nomatch q
def CQ(prog:Program)(w:World):PySem.KeyKind prog w D3 where
 is:=QV
 hash:=VH w
 inj:=λv a b ha hb=>by rcases gF ha with⟨i,t,rfl,rfl⟩ |⟨x,t,rfl,rfl⟩;rcases gF hb with⟨j,u,rfl,e⟩ |⟨y,u,rfl,e⟩;injection e with e1 _;rw[e1];exact nomatch e;rcases gF hb with⟨j,u,rfl,e⟩ |⟨y,u,rfl,e⟩;exact nomatch e;injection e with e1 _;rw[e1]
 byValue:=λk v h=>by rcases gF h with⟨i,t,rfl,rfl⟩ |⟨x,t,rfl,rfl⟩<;>rfl
 pyHash:=λhv h=>by rcases gF hv with⟨i,t,rfl,rfl⟩ |⟨x,t,rfl,rfl⟩;exact wpAny_pyHash_int h;exact wpAny_pyHash_str h
 eqBool:=λhu hv h=>by rcases gF hu with⟨i,t,rfl,rfl⟩ |⟨x,t,rfl,rfl⟩;rcases gF hv with⟨j,u,rfl,rfl⟩ |⟨y,u,rfl,rfl⟩;rw[Sg]at h;exact wpAny_eqBool_int h;rw[Sf]at h;exact SeqAt.EqAt.int_str i t y u _ _ _ _ h;rcases gF hv with⟨j,u,rfl,rfl⟩ |⟨y,u,rfl,rfl⟩;rw[Se]at h;exact SeqAt.EqAt.str_int x t j u _ _ _ _ h;rw[Sd]at h;exact wpAny_eqBool_str h
 «strs»:=λk x t v h=>by rcases gF h with⟨i,u,rfl,e⟩ |⟨y,u,rfl,e⟩;exact nomatch e;injection e with e1 _;subst e1;cases v<;>rfl
inductive V where
 |Xf |bl (b:Bool) |int (i:Int) |str (x:Str) |Z4 (b:Array UInt8) |flt (b:UInt64) |ref (a:Addr) |ty (n:String)
 deriving DecidableEq
abbrev ij:=List V
def RelV:V->Value->Prop
 |.Xf,u=>u=Value.none|.bl b,u=>u=Value.bool b
 |.int i,u=>∃t,u=Value.int i t|.str x,u=>∃t,u=Value.str x t
 |.Z4 b,u=>∃t,u=Value.bytes b t|.flt b,u=>∃t,u=Value.float b t
 |.ref a,u=>u=Value.ref a|.ty n,u=>u=Value.type n
abbrev Vals:ij->jt->Prop:=Paired RelV
def Vals.length(r:Vals xs us):xs.length=us.length:=Paired.length r
theorem Vals.get:∀{xs:ij}{us:jt}{i:Nat}{x:V},Vals xs us->xs[i]?=some x->∃u,us[i]?=some u/\RelV x u
 |_,_,_,_,.nil,e=>by simp at e|_,_,0,_,.cons r _,e=>by simp at e;subst e;exact⟨_,rfl,r⟩
 |_,_,i+1,x,.cons _ t,e=>by obtain⟨u,h1,h2⟩:=Vals.get t e;exact⟨u,by simpa using h1,h2⟩
theorem Vals.set(r:RelV x u):∀{xs:ij}{us:jt}(i:Nat),Vals xs us->Vals (xs.set i x) (us.set i u)
 |_,_,_,.nil=>.nil|_,_,0,.cons _ t=>.cons r t
 |_,_,i+1,.cons q t=>.cons q<|Vals.set r i t
theorem Vals.append:∀{xs ys:ij}{us ws:jt},Vals xs us->Vals ys ws->Vals (xs++ys) (us++ws)|_,_,_,_,.nil,s=>s|_,_,_,_,.cons r t,s=>.cons r<|Vals.append t s
theorem Vals.take:∀{xs:ij}{us:jt}(n:Nat),Vals xs us->Vals (xs.take n) (us.take n)
 |_,_,0,_=>.nil|_,_,_+1,.nil=>.nil
 |_,_,n+1,.cons r t=>.cons r<|Vals.take n t
theorem Vals.drop:∀{xs:ij}{us:jt}(n:Nat),Vals xs us->Vals (xs.drop n) (us.drop n)
 |_,_,0,r=>r|_,_,_+1,.nil=>.nil
 |_,_,n+1,.cons _ t=>Vals.drop n t
def S6:Option V->Option Value->Prop
 |some v,some u=>RelV v u|none,none=>True
 |_,_=>False
def KV{κ:Type}:List (κ×V)->List (κ×Value)->Prop:=Paired λ(p:κ×V)(q:κ×Value)=>p.1=q.1/\RelV p.2 q.2
def kV:D3->V|.inl i=>.int i|.inr x=>.str x
inductive HO where
 |lst (xs:ij)
 |tup (xs:ij)
 |dK (kvs:List (D3×V)) |dT (kvs:List (List D3×V))
 |set (S:Int->Bool) (n:Nat)
 |ins (C dx:Addr) (fs:List (Str×V))
 |own (x:Addr)
 |xd (fs:List (Str×V))
 |met (f x:Addr)
 |rng (lo hi:Int)
 |Ym (o:Obj) (u:HO)
 |tbl (ps:Array Value)
 |ext (φ:Heap->Prop)
abbrev Hp:=Addr->Option HO
def fN(H:Hp)(a:Addr)(o:HO):Hp:=λb=>if b=a then some o else H b
def bI:fN H a o a=some o:=by unfold fN;rw[ag rfl]
def bq{a b:Addr}(h:b≠a):fN H a o b=H b:=by unfold fN;rw[af h]
def Il{u:HO}:fN (fN H a o) a u=fN H a u:=by funext b;unfold fN;split<;>rfl
def eH{H:Hp}{a b:Addr}(h:H a=some o)(h':H b=none):a≠b:=by intro e;subst e;rw[h]at h';cases h'
section
variable (P:Program)(w:World)
def Xj(H:Hp)(h:Heap)(a:Addr):HO->Prop
 |.lst xs=>xs.length<=sizeLine/\∃(its:jt)(n:Nat),Vals xs its/\h.get? a=some {cls:=.type "list",data:=.seq its.toArray n}|.tup xs=>xs.length<=sizeLine/\∃its:jt,Vals xs its/\IsTup h a its.toArray
 |.dK kvs=>kvs.length<=sizeLine/\(a==sysModules)=false/\∃vs,KV kvs vs/\h.DictOf (CQ P w) a vs|.dT kvs=>kvs.length<=sizeLine/\(a==sysModules)=false/\∃xs:List (List D3×Addr×Value),Paired (λ(p:List D3×V)(q:List D3×Addr×Value)=>p.1=q.1/\H q.2.1=some (.tup<|p.1.map kV)/\RelV p.2 q.2.2) kvs xs/\∃o es ep,h.get? a=some o/\o.ExactDict/\o.data=.dict es ep/\es.toList=xs.map (entryOfKey<|tupleKind<|CQ P w)/\(xs.map (·.1)).Nodup
 |.set S n=>h.SetOf (intKind P w) a S n|.ins C dx fs=>H dx=some (.own a)/\fs.length<=1000/\dx≠a/\h.get? a=some (instObj C dx)/\∃mA,h.Ns1 dx mA/\(∀f,S6 (fs.lookup f)<|mA f)/\PySem.Within mA (fs.map (·.1))
 |.own _=>∃o,h.get? a=some o|.xd fs=>∃mA,h.Ns1 a mA/\∀f,S6 (fs.lookup f)<|mA f
 |.rng lo hi=>∃t u v,h.get? a=some {cls:=.type "range",data:=.fields #[.int lo t,.int hi u,.int 1 v]}|.Ym o u=>h.get? a=some o/\Xj H h a u
 |.tbl ps=>h.get? a=some {cls:=.none,data:=.fields ps}|.met f x=>h.get? a=some (methodObj (.ref f)<|.ref x)
 |.ext φ=>φ h/\(∃o,h.get? a=some o)/\∀h1 h2:Heap,φ h1->(∀o,h1.get? a=some o->h2.get? a=some o)->φ h2
def YH(H:Hp)(h:Heap):Prop:=∀a o,H a=some o->Xj P w H h a o
end
def Xj.lt(x:Xj P w H h a o):a<h.objs.size:=by
 cases o with
 |lst xs=>let⟨_,_,_,_,e⟩:=x;exact bc e|tup xs=>let⟨_,_,_,p⟩:=x;exact p.lt
 |dK kvs=>let⟨_,_,_,_,o,_,_,e,_⟩:=x;exact bc e|dT kvs=>let⟨_,_,_,_,o,_,_,e,_⟩:=x;exact bc e
 |set S n=>let⟨o,_,_,_,e,_⟩:=x;exact bc e|ins C dx fs=>let⟨_,_,_,e,_⟩:=x;exact bc e
 |own y=>let⟨_,e⟩:=x;exact bc e|xd fs=>let⟨_,⟨_,_,_,e,_⟩,_⟩:=x;exact bc e
 |rng lo hi=>let⟨_,_,_,e⟩:=x;exact bc e|Ym ob u=>let⟨e,_⟩:=x;exact bc e
 |tbl ps=>exact bc (x)|met f y=>exact bc<|x
 |ext φ=>let⟨_,⟨_,e⟩,_⟩:=x;exact bc e
theorem Paired.zD3{β:Type}{F G:α->β->Prop}:∀{l₁:List α}{l₂:List β},Paired F l₁ l₂->(∀a b,F a b->G a b)->Paired G l₁ l₂|_,_,.nil,_=>.nil|_,_,.cons r t,f=>.cons (f _ _ r)<|Paired.zD3 t f
def Xj.Zi{H':Hp}{h':Heap}(x:Xj P w H h a o)(k:∀b u,(b=a\/H b=some (.own a))->h.get? b=some u->h'.get? b=some u)(ho:∀b,H b=some (.own a)->H' b=some (.own a))(ht:∀b xs,H b=some (.tup xs)->H' b=some (.tup xs)):Xj P w H' h' a o:=by
 induction o with
 |lst xs=>let⟨z,its,n,r,e⟩:=x;exact⟨z,its,n,r,k _ _ (.inl rfl) e⟩|tup xs=>let⟨z,its,r,ob,e,c⟩:=x;exact⟨z,its,r,ob,k _ _ (.inl rfl) e,c⟩
 |dK kvs=>let⟨z,y,vs,r,ob,es,ep,e,c⟩:=x;exact⟨z,y,vs,r,ob,es,ep,k _ _ (.inl rfl) e,c⟩|dT kvs=>let⟨z,y,xs,r,ob,es,ep,e,c⟩:=x;exact⟨z,y,xs,Paired.zD3 r λp q z=>⟨z.1,ht _ _ z.2.1,z.2.2⟩,ob,es,ep,k _ _ (.inl rfl) e,c⟩
 |set S n=>let⟨ob,es,ep,t,e,c⟩:=x;exact⟨ob,es,ep,t,k _ _ (.inl rfl) e,c⟩|ins C dx fs=>let⟨d,z,ne,e,mA,⟨od,es,ep,e2,c⟩,r⟩:=x;exact⟨ho _ d,z,ne,k _ _ (.inl rfl) e,mA,⟨od,es,ep,k _ _ (.inr d) e2,c⟩,r⟩
 |own y=>let⟨ob,e⟩:=x;exact⟨ob,k _ _ (.inl rfl) e⟩|xd fs=>let⟨mA,⟨od,es,ep,e,c⟩,r⟩:=x;exact⟨mA,⟨od,es,ep,k _ _ (.inl rfl) e,c⟩,r⟩
 |rng lo hi=>let⟨t,u,v,e⟩:=x;exact⟨t,u,v,k _ _ (.inl rfl) e⟩|Ym ob u ih=>let⟨e,q⟩:=x;exact⟨k _ _ (.inl rfl) e,ih q⟩
 |tbl ps=>have e:=x;exact k a _ (.inl rfl) e|met f y=>have e:=x;exact k a _ (.inl rfl) e
 |ext φ=>let⟨p,⟨o,e⟩,st⟩:=x;exact⟨st _ _ p λo q=>k _ _ (.inl rfl) q,⟨o,k _ _ (.inl rfl) e⟩,st⟩
def YH.lt{a:Addr}(x:YH P w H h)(e:H a=some o):a<h.objs.size:=(x a o e).lt
def YH.fresh{a:Addr}(x:YH P w H h)(e:h.objs.size<=a):H a=none:=by cases q:H a with|none=>rfl|some u=>exact absurd (aR (x.lt q) e)<|dW _
def YH.kept{h':Heap}(x:YH P w H h)(k:∀b u,h.get? b=some u->h'.get? b=some u):YH P w H h':=λa o e=>(x a o e).Zi (λb u _ q=>k b u q) (λ_ q=>q) λ_ _ q=>q
def YH.laid{h':Heap}{a:Addr}(x:YH P w H h)(k:∀b u,h.get? b=some u->h'.get? b=some u)(hp:h.objs.size<=a)(new:Xj P w (fN H a o) h' a o):YH P w (fN H a o) h':=λb u e=>by have hn:=x.fresh hp;by_cases hb:b=a;subst hb;rw[bI]at e;cases e;exact new;rw[bq hb]at e;exact(x b u e).Zi (λc v _ q=>k c v q) (λc q=>by rwa[bq<|eH q hn]) λc xs q=>by rwa[bq<|eH q hn]
def Rd(H:Hp)(a:Addr)(u:HO):Prop:=H a=some u\/∃o,H a=some (.Ym o u)
def Rd.ok(r:Rd H a u)(x:YH P w H h):Xj P w H h a u:=by rcases r with r |⟨o,r⟩;exact x a u r;obtain⟨_,q⟩:=x a _ r;exact q
def U6:Option HO->Prop
 |some (.lst _)=>True|some (.dK _)=>True
 |some (.dT _)=>True|some (.set _ _)=>True
 |some (.ins _ _ _)=>True|some (.ext _)=>True
 |_=>False
def YH.write{h':Heap}{e:Addr}(ok:YH P w H h)(mu:U6 (H x))(he:e=x\/H e=some (.own x))(k:∀b u,b≠e->h.get? b=some u->h'.get? b=some u)(heo:∃u,h'.get? e=some u)(new:Xj P w (fN H x o') h' x o'):YH P w (fN H x o') h':=λb u q=>by
 have ZY:∀c y,H c=some (.own y)->c≠x:=λc y r z=>by subst z;rw[r]at mu;exact mu
 have zGT:∀c xs,H c=some (.tup xs)->c≠x:=λc xs r z=>by subst z;rw[r]at mu;exact mu
 by_cases hb:b=x;subst hb;rw[bI]at q;cases q;exact new;rw[bq hb]at q;by_cases hbe:b=e;have q':H b=some (.own x):=by rcases he with z |z;exact absurd (hbe.trans z) hb;rwa[hbe]
 rw[q]at q';cases q';obtain⟨v,hv⟩:=heo;exact⟨v,by rwa[hbe]⟩;refine(ok b u q).Zi (λc v hc r=>k c v ?_ r) (λc r=>by rwa[bq<|ZY c b r]) λc xs r=>by rwa[bq<|zGT c xs r]
 rcases hc with rfl |hc;exact hbe;rintro rfl;rcases he with z |z;exact ZY c b hc z;rw[hc]at z;cases z;exact hb rfl
structure Un(fs ex:List Addr)(H H':Hp)(h h':Heap):Prop where
 keep:∀b o,h.get? b=some o->H b=none->b∉fs->b∉ex->h'.get? b=some o
 slot:∀b o,h.get? b=some o->H b=none->b∈fs->b∉ex->∃sl,h'.get? b=some {o with slots:=sl}
 free:∀b o,h.get? b=some o->H b=none->b∉ex->H' b=none
 there:∀b o,h.get? b=some o->b∉ex->∃o',h'.get? b=some o'
 Y1:∀b xs,H b=some (.tup xs)->H' b=some (.tup xs)
 YU:∀b o u,H b=some (.Ym o u)->H' b=some (.Ym o u)
 Y2:∀b ps,H b=some (.tbl ps)->∃more,H' b=some (.tbl<|ps++more)
def Un.any{b:Addr}(u:Un fs ex H H1 h h1)(q:h.get? b=some ob)(n:H b=none)(hx:b∉ex):∃sl,h1.get? b=some {ob with slots:=sl}:=by by_cases hb:b∈fs;exact u.slot b ob q n hb hx;exact⟨ob.slots,u.keep b ob q n hb hx⟩
def Un.kept{h:Heap}{h':Heap}(k:∀b u,h.get? b=some u->h'.get? b=some u):Un fs ex H H h h':=⟨λb ob q _ _ _=>k b ob q,λb ob q _ _ _=>⟨ob.slots,k b ob q⟩,λ_ _ _ n _=>n,λb ob q _=>⟨ob,k b ob q⟩,λ_ _ q=>q,λ_ _ _ q=>q,λ_ ps q=>⟨#[],by rw[q];simp⟩⟩
def Un.refl:Un fs ex H H h h:=Un.kept λ_ _ q=>q
def Un.laid{H:Hp}{h:Heap}{h':Heap}{a:Addr}(k:∀b u,h.get? b=some u->h'.get? b=some u)(hp:h.objs.size<=a)(hn:H a=none):Un fs ex H (fN H a o) h h' where
 keep:=λb u q _ _ _=>k b u q
 slot:=λb u q _ _ _=>⟨u.slots,k b u q⟩
 free:=λb u q n _=>by rwa[bq<|dh<|aR (bc q) hp]
 there:=λb u q _=>⟨u,k b u q⟩
 Y1:=λb xs q=>by rwa[bq<|eH q hn]
 YU:=λb u xs q=>by rwa[bq<|eH q hn]
 Y2:=λb ps q=>⟨#[],by rw[bq<|eH q hn,q];simp⟩
def Un.write{H:Hp}{h:Heap}{h':Heap}{e:Addr}(mu:U6 (H x))(he:e=x\/H e=some (.own x))(k:∀b u,b≠e->h.get? b=some u->h'.get? b=some u)(heo:∃u,h'.get? e=some u):Un fs ex H (fN H x o) h h':=by
 have hx:∀b,H b=none->b≠x:=λb n z=>by subst z;rw[n]at mu;exact mu
 have hb:∀b,H b=none->b≠e:=λb n z=>by subst z;rcases he with r |r;exact hx b n r;rw[n]at r;cases r
 have hm:∀b u,H b=some u->¬U6 (some u)->b≠x:=λb u q nm z=>by subst z;rw[q]at mu;exact nm mu
 refine⟨λb u q n _ _=>k b u (hb b n) q,λb u q n _ _=>⟨u.slots,k b u (hb b n) q⟩,λb u q n _=>by rwa[bq<|hx b n],λb u q _=>?_,λb xs q=>by rwa[bq (hm b _ q λz=>z)],λb u xs q=>by rwa[bq (hm b _ q λz=>z)],λb ps q=>⟨#[],by rw[bq (hm b _ q λz=>z),q];simp⟩⟩;by_cases hbe:b=e;subst hbe;exact heo;exact⟨u,k b u hbe q⟩
def UY(h:Heap)(H:Hp):List Addr:=(List.range h.objs.size).filter λa=>(H a).isSome
def A1(h:Heap)(H:Hp):Heap:=hideAll h<|UY h H
def KD(h:Heap)(H:Hp):(A1 h H).objs.size=h.objs.size:=hideAll_size _ _
def M5{h:Heap}{H:Hp}{b:Addr}(e:h.get? b=some o)(n:H b=none):(A1 h H).get? b=some o:=hideAll_get _ e λhm=>by have q:=(dk.mp hm).2;rw[n]at q;simp at q
def Pa{b:Addr}(e:(A1 h H).get? b=some o):h.get? b=some o/\H b=none:=by have e':=of_hideAll (UY h H) e;refine⟨e',?_⟩;cases q:H b with|none=>rfl|some x=>have hm:b∈UY h H:=dk.mpr ⟨aY.mpr<|bc e',by simp[q]⟩;have z:(A1 h H).get? b=none:=hideAll_none (UY h H) hm;rw[z]at e;cases e
def Qh(g h:Heap)(L:Addr):jn:=(List.range h.objs.size).filterMap λa=>if a=L\/(g.get? a).isSome=true then none else(h.get? a).map λo=>(a,o)
def rest(g h:Heap)(L d:Addr):jn:=(Qh g h L).filter λp=>decide<|p.1≠d
structure Mod(K:gS)(mg:AE)(base:Heap):Prop where
 kin:K.In base
 glob:base.Ns mainGlobals mg
 blt:∃mb,base.Ns builtinsNs mb/\∀x:Str,x≠"__name__"->mb x=bootBuiltins x
 nolimit:base.NoLimit
 seer:base.NoSeer
structure Cx where
 prog:Program
 w:World
 K:gS
 mg:Str->Option Value
 base:Heap
 A:Around
 N:fV
 s₀:Shared
 H₀:Hp
 env:Env
 outer:List Env
 stack:List Env
 ex:List Addr
 fn:Str->Bool
 calm:Bool
 pn:jn
 xe:Value->Shared->Prop
abbrev gA(X:Cx)(m:Sem α)(Q:α->Shared->Prop)(E:Value->Shared->Prop)(s:Shared):Prop:=wpAny (model X.prog X.w) X.A m Q E s
def Gq(l:List Env):List Addr:=l.filterMap (·.frame)
abbrev Cx.fs(X:Cx):List Addr:=Gq X.outer
def Tq(sc:Scope)(x:Str):Prop:=sc.names.lookup x=some .local\/sc.names.lookup x=some .cell\/sc.names.lookup x=some .free
def S8(sc:Scope)(x:Str):Prop:=sc.names.lookup x=some .local\/sc.names.lookup x=some .cell
def VY(env:Env)(h:Heap)(m:AE)(x:Str)(u:Value):Prop:=(env.kindOf x=some .local/\m x=some u)\/((env.kindOf x=some .cell\/env.kindOf x=some .free)/\∃c,env.cells.lookup x=some c/\h.IsCell c (some u))
structure Cx.Ok(X:Cx):Prop where
 mod:Mod X.K X.mg X.base
 kind:X.env.scope.kind=.function
 glob:X.env.globals=mainGlobals
 blt:X.env.builtins=builtinsNs
 above:X.s₀.heap.objs.size<=X.env.locals
 inj:∀x y c,X.env.cells.lookup x=some c->X.env.cells.lookup y=some c->x=y
 has:∀x,(X.env.kindOf x=some .cell\/X.env.kindOf x=some .free)->∃c,X.env.cells.lookup x=some c
 cab:∀x c,X.fn x=true->X.env.cells.lookup x=some c->X.s₀.heap.objs.size<=c
 hd:X.calm=true->X.A.handled=none
 frames:X.A.frames=some X.stack
 stk:X.stack=X.outer\/(X.stack=X.env::X.outer/\X.env.frame=some X.env.locals)
 exf:∀b∈X.ex,b≠X.env.locals/\∀x c,X.env.cells.lookup x=some c->c≠b
 bs:∀b o,X.base.get? b=some o->X.s₀.heap.get? b=some o/\X.H₀ b=none
 bsz:X.base.objs.size<=X.s₀.heap.objs.size
 zAN:∀b o,X.base.get? b=some o->b∉X.ex
 zA3:∀b∈X.ex,b∉X.fs
 YT:X.s₀.heap.FunFrames X.base X.outer
 frf:∀b∈X.fs,X.H₀ b=none
structure Inv(X:Cx)(on:jn)(Y:List (Option V))(H:Hp)(s:Shared):Prop where
 ok:X.Ok
 os:s.os=X.s₀.os
 bare:AllBare s.gens
 base:Un X.fs X.ex X.H₀ H X.s₀.heap s.heap
 loc:∃m,s.heap.Ns X.env.locals m/\∀(i:Nat)(x:Str)(v:V),X.N[i]?=some x->Y[i]?=some (some v)->Tq X.env.scope x->∃u,RelV v u/\VY X.env s.heap m x u
 cell:∀x c,X.env.cells.lookup x=some c->∃v,s.heap.IsCell c v
 free:H X.env.locals=none
 Yc:∀x c,X.env.cells.lookup x=some c->H c=none
 pin:∀p∈X.pn++on,s.heap.get? p.1=some p.2/\H p.1=none/\p.1≠X.env.locals/\p.1∉X.fs/\∀v,p.2.data≠.cell v
 Xg:YH X.prog X.w H s.heap
 len:Y.length=X.N.length
section
variable {X:Cx}{Y:List (Option V)}
def Cx.Ok.zGV{b:Addr}(ok:X.Ok)(e:X.base.get? b=some o):b∉X.fs:=λhb=>by have:=(ok.YT.mem hb).1;rw[e]at this;cases this
def Inv.bs(I:Inv X on Y H s):∀b o,X.base.get? b=some o->s.heap.get? b=some o/\H b=none:=λb o e=>⟨I.base.keep b o (I.ok.bs b o e).1 (I.ok.bs b o e).2 (I.ok.zGV e)<|I.ok.zAN b o e,I.base.free b o (I.ok.bs b o e).1 (I.ok.bs b o e).2<|I.ok.zAN b o e⟩
def Inv.bk(I:Inv X on Y H s):∀b o,X.base.get? b=some o->s.heap.get? b=some o:=λb o e=>(I.bs b o e).1
def Inv.mod(I:Inv X on Y H s):Mod X.K X.mg X.base:=I.ok.mod
def Inv.Zf(I:Inv X on Y H s):X.K.In s.heap:=I.ok.mod.kin.keeps I.bk
def Inv.nolimit(I:Inv X on Y H s):s.heap.NoLimit:=I.ok.mod.nolimit.keeps I.bk
def Inv.lt(I:Inv X on Y H s):X.env.locals<s.heap.objs.size:=let⟨_,hn,_⟩:=I.loc;hn.lt
def Inv.sz(I:Inv X on Y H s):X.s₀.heap.objs.size<=s.heap.objs.size:=aL I.ok.above<|Ax I.lt
def Inv.zGU{a:Addr}(I:Inv X on Y H s)(h:s.heap.objs.size<=a):a∉X.fs:=λhb=>by obtain⟨_,o,ho,_⟩:=I.ok.YT.mem hb;exact absurd (aR (bc ho)<|aL I.sz h)<|dW _
def Inv.cne(I:Inv X on Y H s):∀x c,X.env.cells.lookup x=some c->c≠X.env.locals:=λx c e z=>by obtain⟨v,o,ho,hd⟩:=I.cell x c e;obtain⟨m,⟨o',es,ep,ho',hd',_⟩,_⟩:=I.loc;rw[z,ho']at ho;cases ho;rw[hd']at hd;cases hd
def Inv.YT(I:Inv X on Y H s):s.heap.FunFrames X.base X.outer:=by
 have all:∀l,(∀b∈Gq l,b∈X.fs)->X.s₀.heap.FunFrames X.base l->s.heap.FunFrames X.base l:=by intro l;induction l with|nil=>intro _ _;trivial|cons env r ih=>intro hs hl;obtain⟨hk,⟨L,o,hf,hn,ho,hd⟩,hr⟩:=hl;have hL:=hs L (by unfold Gq;rw[jg,hf];exact aN);obtain⟨sl,e⟩:=I.base.slot L o ho (I.ok.frf L hL) hL λz=>I.ok.zA3 L z hL;exact⟨hk,⟨L,_,hf,hn,e,hd⟩,ih (λb hb=>hs b<|by unfold Gq;rw[jg,hf];exact aC _ hb) hr⟩
 exact all X.outer (λ_ hb=>hb) I.ok.YT
def Inv.stack(I:Inv X on Y H s):s.heap.FunFrames X.base X.stack:=by rcases I.ok.stk with e |⟨e,hf⟩;rw[e];exact I.YT;rw[e];obtain⟨m,hn,_⟩:=I.loc;refine .cons (by rw[I.ok.kind];decide) hf hn ?_ I.YT;exact Heap.get?_none_of_le<|aL I.ok.bsz I.ok.above
def Inv.Zy(I:Inv X on Y H s):∀b∈Gq X.stack,b∈X.env.locals::X.fs:=λb hb=>by rcases I.ok.stk with e |⟨e,hf⟩;rw[e]at hb;exact aC _ hb;rw[e]at hb;unfold Gq at hb;rw[jg,hf]at hb;exact hb
def Inv.ZO(I:Inv X on Y H s):∀b∈Gq X.stack,H b=none:=λb hb=>by rcases aF.mp (I.Zy b hb)with e |hb;rw[e];exact I.free;let⟨_,o,ho,_⟩:=I.ok.YT.mem hb;exact I.base.free b o ho (I.ok.frf b hb) λz=>I.ok.zA3 b z hb
def Inv.step{t':Nat}{ch:List Addr}{H':Hp}{h':Heap}{g':Array GenState}{d':Drawn}(I:Inv X on Y H s)(hch:∀b∈ch,(b∈X.ex\/X.s₀.heap.objs.size<=b)/\b≠X.env.locals/\(∀x c,X.env.cells.lookup x=some c->c≠b)/\∀p∈X.pn++on,p.1≠b)(keep:∀b o,b≠X.env.locals->b∉X.fs->b∉ch->s.heap.get? b=some o->H b=none->h'.get? b=some o)(slot:∀b o,b≠X.env.locals->b∈X.fs->b∉ch->s.heap.get? b=some o->H b=none->∃sl,h'.get? b=some {o with slots:=sl})(free:∀b o,b∉ch->s.heap.get? b=some o->H b=none->H' b=none)(there:∀b o,b∉ch->s.heap.get? b=some o->∃o',h'.get? b=some o')(Y1:∀b xs,H b=some (.tup xs)->H' b=some (.tup xs))(YU:∀b o u,H b=some (.Ym o u)->H' b=some (.Ym o u))(Y2:∀b ps,H b=some (.tbl ps)->∃more,H' b=some (.tbl<|ps++more))(ns:∀m,s.heap.Ns X.env.locals m->h'.Ns X.env.locals m)(Xg:YH X.prog X.w H' h')(hg:AllBare g'):Inv X on Y H' {s with heap:=h',gens:=g',drawn:=d',toks:=t'}:=by
 have neL:∀b o,X.s₀.heap.get? b=some o->b≠X.env.locals:=λb o e=>dh<|aR (bc e) I.ok.above;have neC:∀b o,X.s₀.heap.get? b=some o->b∉X.ex->b∉ch:=λb o e hx hb=>by rcases(hch b hb).1 with z |z;exact hx z;exact absurd (aR (bc e) z)<|dW _
 have cellK:∀x c,X.env.cells.lookup x=some c->∀v,s.heap.IsCell c v->h'.IsCell c v:=λx c e v ⟨o,ho,hd⟩=>by have nch:c∉ch:=λz=>(hch c z).2.2.1 x c e rfl;by_cases hc:c∈X.fs;obtain⟨sl,q⟩:=slot c o (I.cne x c e) hc nch ho<|I.Yc x c e;exact⟨_,q,hd⟩;exact⟨o,keep c o (I.cne x c e) hc nch ho<|I.Yc x c e,hd⟩
 refine⟨I.ok,I.os,hg,⟨λb o e n hb hx=>?_,λb o e n hb hx=>?_,λb o e n hx=>?_,λb o e hx=>?_,λb xs e=>Y1 b xs<|I.base.Y1 b xs e,λb o xs e=>YU b o xs<|I.base.YU b o xs e,λb ps e=>?_⟩,?_,λx c e=>?_,?_,λx c e=>?_,λp hp=>?_,Xg,I.len⟩;exact keep b o (neL b o e) hb (neC b o e hx) (I.base.keep b o e n hb hx)<|I.base.free b o e n hx;obtain⟨sl,e1⟩:=I.base.slot b o e n hb hx;obtain⟨sl',e2⟩:=slot b _ (neL b o e) hb (neC b o e hx) e1<|I.base.free b o e n hx;exact⟨sl',e2⟩;obtain⟨o',e1⟩:=I.base.there b o e hx;exact free b o' (neC b o e hx) e1<|I.base.free b o e n hx;obtain⟨o',e1⟩:=I.base.there b o e hx;exact there b o' (neC b o e hx) e1;obtain⟨m1,e1⟩:=I.base.Y2 b ps e;obtain⟨m2,e2⟩:=Y2 b _ e1;exact⟨m1++m2,by rw[e2,Array.append_assoc]⟩;obtain⟨m,hn,hl⟩:=I.loc;refine⟨m,ns m hn,λi x v e1 e2 e3=>?_⟩;obtain⟨u,r,l⟩:=hl i x v e1 e2 e3;refine⟨u,r,?_⟩;rcases l with l |⟨k,c,e,z⟩;exact .inl l;exact .inr ⟨k,c,e,cellK x c e _ z⟩;obtain⟨v,z⟩:=I.cell x c e;exact⟨v,cellK x c e v z⟩;obtain⟨m,⟨o,_,_,ho,_⟩,_⟩:=I.loc;exact free _ o (λz=>(hch _ z).2.1 rfl) ho I.free;obtain⟨v,o,ho,hd⟩:=I.cell x c e;exact free c o (λz=>(hch c z).2.2.1 x c e rfl) ho<|I.Yc x c e;obtain⟨e,n,ne,nf,d⟩:=I.pin p hp;have nch:p.1∉ch:=λz=>(hch p.1 z).2.2.2 p hp rfl;exact⟨keep p.1 p.2 ne nf nch e n,free p.1 p.2 nch e n,ne,nf,d⟩
def Inv.un{t':Nat}(I:Inv X on Y H s)(u:Un X.fs [] H H' s.heap h')(Xg:YH X.prog X.w H' h'):Inv X on Y H' {s with heap:=h',toks:=t'}:=by obtain⟨m,⟨o,es,ep,ho,r⟩,_⟩:=id I.loc;obtain⟨sl,hL⟩:=u.any ho I.free (by simp);exact I.step (ch:=[]) (λ_ z=>nomatch z) (λb o _ hb _ e n=>u.keep b o e n hb<|by simp) (λb o _ hb _ e n=>u.slot b o e n hb<|by simp) (λb o _ e n=>u.free b o e n<|by simp) (λb o _ e=>u.there b o e<|by simp) u.Y1 u.YU u.Y2 (λm' hm=>by obtain⟨o',es',ep',ho',r'⟩:=hm;rw[ho]at ho';cases ho';exact⟨_,es',ep',hL,r'⟩) Xg I.bare
def Inv.call{t':Nat}{g':Array GenState}{d':Drawn}(I:Inv X on Y H s)(u:Un (Gq X.stack) ch H H' s.heap h')(Xg:YH X.prog X.w H' h')(hg:AllBare g')(hch:∀b∈ch,(b∈X.ex\/X.s₀.heap.objs.size<=b)/\b≠X.env.locals/\(∀x c,X.env.cells.lookup x=some c->c≠b)/\∀p∈X.pn++on,p.1≠b):Inv X on Y H' {s with heap:=h',gens:=g',drawn:=d',toks:=t'}:=by let⟨m,⟨o,es,ep,ho,r⟩,_⟩:=id I.loc;let⟨sl,hL⟩:=u.any ho I.free λz=>(hch _ z).2.1 rfl;exact I.step hch (λb o hL hb hc e n=>u.keep b o e n (λz=>(aF.mp<|I.Zy b z).elim hL hb) hc) (λb o _ _ hc e n=>u.any e n hc) (λb o hc e n=>u.free b o e n hc) (λb o hc e=>u.there b o e hc) u.Y1 u.YU u.Y2 (λm' hm=>by let⟨o',es',ep',ho',r'⟩:=hm;rw[ho]at ho';cases ho';exact⟨_,es',ep',hL,r'⟩) Xg hg
def Inv.turned{t':Nat}{it:Addr}{h':Heap}(I:Inv X on Y H s)(k:∀b o,b≠it->s.heap.get? b=some o->h'.get? b=some o)(hn:H it=none)(hL:it≠X.env.locals)(h1:it∈X.ex\/X.s₀.heap.objs.size<=it)(h2:∀x c,X.env.cells.lookup x=some c->c≠it)(h3:∀p∈X.pn++on,p.1≠it):Inv X on Y H {s with heap:=h',toks:=t'}:=by
 have nit:∀b u,H b=some u->b≠it:=λb u e z=>by rw[z,hn]at e;cases e
 refine I.step (ch:=[it]) (λb hb=>?_) (λb o _ _ hc e _=>k b o (λz=>hc<|by simp[z]) e) (λb o _ _ hc e _=>⟨o.slots,k b o (λz=>hc<|by simp[z]) e⟩) (λ_ _ _ _ n=>n) (λb o hc e=>⟨o,k b o (λz=>hc<|by simp[z]) e⟩) (λ_ _ e=>e) (λ_ _ _ e=>e) (λb ps e=>⟨#[],by rw[e];simp⟩) (λm hm=>?_) (λb u e=>?_) I.bare;have e:b=it:=by simpa using hb
 subst e;exact⟨h1,hL,h2,h3⟩;let⟨o,es,ep,ho,r⟩:=hm;exact⟨o,es,ep,k _ o (gy hL) ho,r⟩;refine(I.Xg b u e).Zi (λc v hc q=>k c v ?_ q) (λ_ q=>q) λ_ _ q=>q;rcases hc with z |z;rw[z];exact nit b u e;exact nit c _ z
def Inv.tok(I:Inv X on Y H s)(t:Nat):Inv X on Y H {s with toks:=t}:=I.un Un.refl I.Xg
def Inv.kept{t':Nat}{h':Heap}(I:Inv X on Y H s)(k:∀b u,s.heap.get? b=some u->h'.get? b=some u):Inv X on Y H {s with heap:=h',toks:=t'}:=I.un (Un.kept k)<|I.Xg.kept k
def Inv.laid{a:Addr}{t':Nat}{h':Heap}(I:Inv X on Y H s)(k:∀b u,s.heap.get? b=some u->h'.get? b=some u)(hp:s.heap.objs.size<=a)(new:Xj X.prog X.w (fN H a o) h' a o):Inv X on Y (fN H a o) {s with heap:=h',toks:=t'}:=I.un (Un.laid k hp<|I.Xg.fresh hp)<|I.Xg.laid k hp new
def Inv.write{e:Addr}{t':Nat}{h':Heap}(I:Inv X on Y H s)(mu:U6 (H x))(he:e=x\/H e=some (.own x))(k:∀b u,b≠e->s.heap.get? b=some u->h'.get? b=some u)(heo:∃u,h'.get? e=some u)(new:Xj X.prog X.w (fN H x o) h' x o):Inv X on Y (fN H x o) {s with heap:=h',toks:=t'}:=I.un (Un.write mu he k heo)<|I.Xg.write mu he k heo new
def Inv.ZP{Xn:jn}(I:Inv X on Y H s)(h:∀p∈Xn,s.heap.get? p.1=some p.2/\H p.1=none/\p.1≠X.env.locals/\p.1∉X.fs/\∀v,p.2.data≠.cell v):Inv X Xn Y H s:=⟨I.ok,I.os,I.bare,I.base,I.loc,I.cell,I.free,I.Yc,λp hp=>(cQ.mp hp).elim (λz=>I.pin p<|DU _ z)<|h p,I.Xg,I.len⟩
def EY{N:fV}{i j:Nat}(hN:N.Nodup)(a:N[i]?=some x)(b:N[j]?=some x):i=j:=by obtain⟨h1,e1⟩:=aG.mp a;obtain⟨h2,e2⟩:=aG.mp b;exact(List.getElem_inj hN).mp<|e1.trans e2.symm
def vX{i:Nat}{Q:Unit->Shared->Prop}(I:Inv X on Y H s)(hN:X.N.Nodup)(hi:X.N[i]?=some x)(hx:S8 X.env.scope x)(r:RelV v u)(h:∀s',Inv X on (Y.set i<|some v) H s'->(∃a,Heap.SameBut a s.heap s'.heap/\(a=X.env.locals\/X.env.cells.lookup x=some a))->Q () s')(hf:X.fn x=true\/X.env.scope.names.lookup x=some .local:=by first |exact .inl rfl |exact .inr rfl |assumption):wpAny M A (storeName X.env x u) Q E s:=by
 obtain⟨m,hn,hl⟩:=id I.loc;have zHR:(X.env.scope.kind==.class||(X.env.scope.kind==.module&&X.env.locals !=X.env.globals))=false:=by rw[I.ok.kind];rfl
 have hiσ:i<Y.length:=by rw[I.len];exact(aG.mp hi).1
 have cne:=I.cne;have tracked:∀{a:Addr}{h':Heap},(∃o,s.heap.get? a=some o/\H a=none)->Heap.SameBut a s.heap h'->YH X.prog X.w H h':=λ{a h'}ha hs b ob e=>by obtain⟨_,_,Ys⟩:=ha;refine(I.Xg b ob e).Zi (λc w' hc q=>(hs.2 c ?_).trans q) (λ_ q=>q) λ_ _ q=>q;rintro rfl;rcases hc with rfl |hc;rw[Ys]at e;cases e;rw[Ys]at hc;cases hc
 rcases hx with hk |hk;refine wpAny_storeName_local hk hn (λh' hn' hs=>?_) zHR;obtain⟨oL,_,_,hoL,_⟩:=id hn;refine h _ ⟨I.ok,I.os,I.bare,⟨λb o e n hb hx=>?_,λb o e n hb hx=>?_,I.base.free,λb o e hx=>?_,I.base.Y1,I.base.YU,I.base.Y2⟩,⟨_,hn',λj y v' e1 e2 e3=>?_⟩,λy c e=>?_,I.free,I.Yc,λp hp=>?_,tracked ⟨oL,hoL,I.free⟩ hs,by simpa using I.len⟩ ⟨_,hs,.inl rfl⟩;exact(hs.2 b<|dh<|aR (bc e) I.ok.above).trans<|I.base.keep b o e n hb hx;obtain⟨sl,e1⟩:=I.base.slot b o e n hb hx;exact⟨sl,(hs.2 b<|dh<|aR (bc e) I.ok.above).trans e1⟩;obtain⟨o',e1⟩:=I.base.there b o e hx;exact⟨o',(hs.2 b<|dh<|aR (bc e) I.ok.above).trans e1⟩;by_cases hj:j=i;subst hj;rw[hi]at e1;cases e1;rw[a9 hiσ]at e2;cases e2;exact⟨u,r,.inl ⟨hk,by simp⟩⟩;rw[aB<|gy hj]at e2;obtain⟨u',r',q⟩:=hl j y v' e1 e2 e3;refine⟨u',r',?_⟩;rcases q with⟨k,e⟩ |⟨k,c,e,z⟩;refine .inl ⟨k,?_⟩;have:y≠x:=λe=>hj<|EY hN e1<|e▸hi;simp[this,e];exact .inr ⟨k,c,e,z.sameBut hs<|cne y c e⟩;obtain⟨w',z⟩:=I.cell y c e;exact⟨w',z.sameBut hs<|cne y c e⟩;obtain⟨e,n,ne,nf,d⟩:=I.pin p hp;exact⟨(hs.2 p.1 ne).trans e,n,ne,nf,d⟩;have hfn:X.fn x=true:=by rcases hf with z |z;exact z;rw[z]at hk;cases hk
 obtain⟨c,hc⟩:=I.ok.has x<|.inl hk;obtain⟨w',z⟩:=I.cell x c hc;refine wpAny_storeName_cell I.ok.kind hk hc z λh' Zh hs=>?_;obtain⟨oc,hoc,zNY⟩:=id z;refine h {s with heap:=h'} ⟨I.ok,I.os,I.bare,⟨λb o e n hb hx=>?_,λb o e n hb hx=>?_,I.base.free,λb o e hx=>?_,I.base.Y1,I.base.YU,I.base.Y2⟩,⟨m,hn.sameBut hs<|gy<|cne x c hc,λj y v' e1 e2 e3=>?_⟩,λy c' e=>?_,I.free,I.Yc,λp hp=>?_,tracked ⟨oc,hoc,I.Yc x c hc⟩ hs,by simpa using I.len⟩ ⟨c,hs,.inr hc⟩;exact(hs.2 b<|dh<|aR (bc e)<|I.ok.cab x c hfn hc).trans<|I.base.keep b o e n hb hx;obtain⟨sl,e1⟩:=I.base.slot b o e n hb hx;exact⟨sl,(hs.2 b<|dh<|aR (bc e)<|I.ok.cab x c hfn hc).trans e1⟩;obtain⟨o',e1⟩:=I.base.there b o e hx;exact⟨o',(hs.2 b<|dh<|aR (bc e)<|I.ok.cab x c hfn hc).trans e1⟩;by_cases hj:j=i;subst hj;rw[hi]at e1;cases e1;rw[a9 hiσ]at e2;cases e2;exact⟨u,r,.inr ⟨.inl hk,c,hc,Zh⟩⟩;rw[aB<|gy hj]at e2;obtain⟨u',r',q⟩:=hl j y v' e1 e2 e3;refine⟨u',r',?_⟩;rcases q with q |⟨k,c',e,z'⟩;exact .inl q;refine .inr ⟨k,c',e,z'.sameBut hs ?_⟩;rintro rfl;exact hj<|EY hN e1<|I.ok.inj _ _ _ e hc▸hi;by_cases hcc:c'=c;subst hcc;exact⟨_,Zh⟩;obtain⟨w2,z2⟩:=I.cell y c' e;exact⟨w2,z2.sameBut hs hcc⟩;obtain⟨e,n,ne,nf,d⟩:=I.pin p hp;refine⟨(hs.2 p.1 ?_).trans e,n,ne,nf,d⟩;intro q;rw[q,hoc]at e;have q':oc=p.2:=bC e;exact d w'<|by rwa[<-q']
def qI{i:Nat}{Q:Unit->Shared->Prop}(I:Inv X on Y H s)(hN:X.N.Nodup)(hi:X.N[i]?=some x)(hx:S8 X.env.scope x)(r:RelV v u)(h:∀s',Inv X on (Y.set i<|some v) H s'->Q () s')(hf:X.fn x=true\/X.env.scope.names.lookup x=some .local:=by first |exact .inl rfl |exact .inr rfl |assumption):wpAny M A (storeName X.env x u) Q E s:=vX I hN hi hx r (λs' I' _=>h s' I') hf
def Inv.zE7{s':Shared}(I:Inv X on Y H s)(ho:s'.os=s.os)(u:Un (Gq X.stack) ch H H' s.heap s'.heap)(Xg:YH X.prog X.w H' s'.heap)(hg:AllBare s'.gens)(hch:∀b∈ch,(b∈X.ex\/X.s₀.heap.objs.size<=b)/\b≠X.env.locals/\(∀x c,X.env.cells.lookup x=some c->c≠b)/\∀p∈X.pn++on,p.1≠b):Inv X on Y H' s':=by obtain⟨h',g',d',t',o'⟩:=s';have e:=ho;subst e;exact I.call u Xg hg hch
end
abbrev XK:=Value->Option Addr->Hp->Prop
abbrev St:=List<|Option V
abbrev VK:=V->Hp->Prop
abbrev TE:=St->Hp->VK->Prop
abbrev TT:=St->Hp->(Bool->Hp->Prop)->Prop
abbrev TA:=St->Hp->(ij->Hp->Prop)->Prop
structure pY where
 nx:St->Hp->Prop
 rt:VK
 bk:St->Hp->Prop:=λ_ _=>False
 ct:St->Hp->Prop:=λ_ _=>False
abbrev TS:=pY->St->Hp->Prop
def EP(X:Cx)(on:jn)(Y:St)(Q:VK)(u:Value)(s':Shared):Prop:=∃v H',Inv X on Y H' s'/\RelV v u/\Q v H'
def TP(X:Cx)(on:jn)(Y:St)(Q:Bool->Hp->Prop)(b:Bool)(s':Shared):Prop:=∃H',Inv X on Y H' s'/\Q b H'
def AP(X:Cx)(on:jn)(Y:St)(Q:ij->Hp->Prop)(us:jt)(s':Shared):Prop:=∃vs H',Inv X on Y H' s'/\Vals vs us/\Q vs H'
def SP(X:Cx)(on:jn)(D:pY)(f:Flow)(s':Shared):Prop:=match f with
 |.next=>∃XV H',Inv X on XV H' s'/\D.nx XV H'|.brk=>∃XV H',Inv X on XV H' s'/\D.bk XV H'
 |.cont=>∃XV H',Inv X on XV H' s'/\D.ct XV H'|.ret u=>∃v XV H',Inv X on XV H' s'/\RelV v u/\D.rt v H'
def PE(X:Cx)(e:Expr)(t:TE):Prop:=∀(on:jn)(s:Shared)(Y:St)(H:Hp)(Q:VK),Inv X on Y H s->t Y H Q->gA X (eval e X.env) (EP X on Y Q) X.xe s
def PT(X:Cx)(e:Expr)(t:TT):Prop:=∀(on:jn)(s:Shared)(Y:St)(H:Hp)(Q:Bool->Hp->Prop),Inv X on Y H s->t Y H Q->gA X (isTrue e X.env<|eval e X.env) (TP X on Y Q) X.xe s
def PW(X:Cx)(e:Expr)(t:TT):Prop:=∀(whole:Sem Value)(on:jn)(s:Shared)(Y:St)(H:Hp)(Q:Bool->Hp->Prop),Inv X on Y H s->t Y H Q->gA X (isTrue e X.env whole) (TP X on Y Q) X.xe s
def PA(X:Cx)(es:vO)(t:TA):Prop:=∀(pos:Pos)(on:jn)(s:Shared)(Y:St)(H:Hp)(Q:ij->Hp->Prop),Inv X on Y H s->t Y H Q->gA X (spliced<|backTo pos<|starEach es X.env) (AP X on Y Q) X.xe s
def PS(X:Cx)(st:Stmt)(t:TS):Prop:=∀(on:jn)(s:Shared)(Y:St)(H:Hp)(D:pY),Inv X on Y H s->t D Y H->gA X (exec st X.env) (SP X on D) X.xe s
def ZJ(X:Cx)(st:List Stmt)(t:TS):Prop:=∀(on:jn)(s:Shared)(Y:St)(H:Hp)(D:pY),Inv X on Y H s->t D Y H->gA X (execs st X.env) (SP X on D) X.xe s
def fD{t:Sem α}{Q Q':α->Shared->Prop}(h:wpAny M A t Q E s)(hQ:∀a s,Q a s->Q' a s):wpAny M A t Q' E s:=cw h hQ λ_ _ x=>x
section
variable {X:Cx}
def WX(ha:PE X a ta)(hb:PE X b tb){R:V->V->Hp->Prop}(I:Inv X on Y H s)(h:ta Y H λx H1=>tb Y H1 λy H2=>R x y H2){Q:α->Shared->Prop}{f:Value->Value->Sem α}(hf:∀v u s2 x y H2,Inv X on Y H2 s2->RelV x v->RelV y u->R x y H2->gA X (f v u) Q X.xe s2):gA X (eval a X.env) (λv s₁=>gA X (eval b X.env) (λu s₂=>gA X (f v u) Q X.xe s₂) X.xe s₁) X.xe s:=by refine fD (ha on s Y H _ I h) λv s1 ⟨x,H1,I1,r1,q1⟩=>?_;refine fD (hb on s1 Y H1 _ I1 q1) λu s2 ⟨y,H2,I2,r2,q2⟩=>?_;exact hf v u s2 x y H2 I2 r1 r2 q2
def Ri(i:Nat):TE:=λY H Q=>∃v,Y[i]?=some (some v)/\Q v H
def tC(v:V):TE:=λ_ H Q=>Q v H
def MH{i:Nat}(hN:X.N[i]?=some x)(hv:Tq X.env.scope x)(hd:D2 x:=by decide)(hcd:(x==("__classdict__":Str))=false:=by decide):PE X (.Name x pos) (Ri i):=by intro on s Y H Q I h;obtain⟨v,e,h⟩:=h;obtain⟨m,hn,hl⟩:=I.loc;obtain⟨u,r,l⟩:=hl i x v hN e hv;have fin:EP X on Y Q u s:=⟨v,H,I,r,h⟩;rcases l with⟨hk,hm⟩ |⟨hk,c,hc,YC⟩;exact wpAny_Name (wpAny_loadName_local I.ok.kind hk hn hm fin) hd;rcases hk with hk |hk;exact wpAny_Name (wpAny_loadName_cell I.ok.kind hk hc YC fin) hd;exact wpAny_Name (wpAny_loadName_free I.ok.kind hk hc YC fin hcd) hd
def RM{i j pos}:PE X (.Constant (.int i) j pos) (tC<|.int i):=λ_ _ _ H _ I h=>wpAny_Constant_int ⟨.int i,H,I.tok _,⟨_,rfl⟩,h⟩
def RK{j pos}:PE X (.Constant .none j pos) (tC .Xf):=λ_ _ _ H _ I h=>Constant_none ⟨.Xf,H,I,rfl,h⟩
def Gl(X:Cx)(x:Str):Prop:=X.env.kindOf x=some .globalImplicit
def Jk{Q:uA}(I:Inv X on Y H s)(hg:Gl X x)(hm:X.mg x=some u)(h:Q u s)(hd:D2 x:=by decide):gA X (eval (.Name x pos) X.env) Q E s:=WU I.ok.kind hg (Calls.loadGlobal_global (by rw[I.ok.glob];exact I.mod.glob.keeps I.bk) hm h) hd
def t6{Q:uA}(I:Inv X on Y H s)(hg:Gl X x)(hm:X.mg x=none)(hv:bootBuiltins x=some u)(h:Q u s)(hn:x≠"__name__":=by decide)(hd:D2 x:=by decide):gA X (eval (.Name x pos) X.env) Q E s:=by obtain⟨mb,h1,h2⟩:=I.mod.blt;exact WU I.ok.kind hg (Calls.loadGlobal_builtin (by rw[I.ok.glob];exact I.mod.glob.keeps I.bk) hm (by rw[I.ok.blt];exact h1.keeps I.bk) ((h2 x hn).trans hv) h) hd
def O4(hg:Gl X x)(hm:X.mg x=some u)(r:RelV v u)(hd:D2 x:=by decide):PE X (.Name x pos) (tC v):=λ_ _ _ H _ I h=>Jk I hg hm ⟨v,H,I,r,h⟩ hd
def IP(hg:Gl X x)(hm:X.mg x=none)(hv:bootBuiltins x=some u)(r:RelV v u)(hn:x≠"__name__":=by decide)(hd:D2 x:=by decide):PE X (.Name x pos) (tC v):=λ_ _ _ H _ I h=>t6 I hg hm hv ⟨v,H,I,r,h⟩ hn hd
def PC(X:Cx)(op:CmpOp)(a b:Expr)(t:TE):Prop:=∀(on:jn)(s:Shared)(Y:St)(H:Hp)(Q:VK),Inv X on Y H s->t Y H Q->gA X (eval a X.env) (λv s₁=>gA X (eval b X.env) (λu s₂=>gA X (compareOp op v u) (EP X on Y Q) X.xe s₂) X.xe s₁) X.xe s
def gn(b:Expr){op:CmpOp}(h:op≠.In)(h2:op≠.NotIn:=by decide):behindInMarks op b=false:=by
 have e1:(op==CmpOp.In)=false:=by cases op<;>first |rfl |exact absurd rfl h
 have e2:(op==CmpOp.NotIn)=false:=by cases op<;>first |rfl |exact absurd rfl h2
 cases b<;>simp[behindInMarks,e1,e2]
def tB(t:TE):TT:=λY H Q=>t Y H λx H1=>∃c,x=.bl c/\Q c H1
def VE{op:CmpOp}(h:PC X op a b t)(h1:behindInMarks op b=false:=by first |exact gn _ (by decide) (by decide) |rfl):PT X (.Compare a [op] [b] pos) (tB t):=by intro on s Y H Q I hw;refine wpAny_isTrue_Compare1 (fD (h on s Y H _ I hw) λv s1 h1=>fD h1 λu s2 h2=>fD h2 λc s3 ⟨x,H1,I1,r1,q1⟩=>?_) h1;obtain⟨d,rfl,q⟩:=q1;cases r1;exact ik ⟨H1,I1,q⟩
def Rz(h:PE X e t)(he:∀whole,isTrue e X.env whole=(do let v <-whole;standAt e.pos;holding [v] (truthy v)):=by intro _;rfl):PT X e (tB t):=by intro on s Y H Q I hw;refine isTrue_plain (fD (h on s Y H _ I hw) λv s1 ⟨x,H1,I1,r1,q1⟩=>?_)<|he _;obtain⟨d,rfl,q⟩:=q1;cases r1;exact ik ⟨H1,I1,q⟩
variable {tA tB':TT}{rest:vO}
def Vw(t u:TT):TT:=λY H Q=>t Y H λc H1=>if c=true then u Y H1 Q else Q false H1
def WB(t u:TT):TT:=λY H Q=>t Y H λc H1=>if c=true then Q true H1 else u Y H1 Q
def Vp(t:TT):TT:=λY H Q=>t Y H λc H1=>Q (!c) H1
def OS(ha:PT X a tA):PW X (.BoolOp .And [a] pos) tA:=by intro wh on s Y H Q I h;refine isTrue_and (fD (ha on s Y H Q I h) λc s1 e=>?_);cases c with|true=>exact isTrue_and_nil e|false=>exact e
def Rx(ha:PT X a tA):PW X (.BoolOp .Or [a] pos) tA:=by intro wh on s Y H Q I h;refine isTrue_or (fD (ha on s Y H Q I h) λc s1 e=>?_);cases c with|false=>exact isTrue_or_nil e|true=>exact e
def Mj(ha:PT X a tA)(hb:PW X (.BoolOp .And (b::rest) pos) tB'):PW X (.BoolOp .And (a::b::rest) pos) (Vw tA tB'):=by intro wh on s Y H Q I h;refine isTrue_and (fD (ha on s Y H _ I h) λc s1 ⟨H1,I1,q1⟩=>?_);cases c with|true=>exact hb wh on s1 Y H1 Q I1 q1|false=>exact⟨H1,I1,q1⟩
def QL(ha:PT X a tA)(hb:PW X (.BoolOp .Or (b::rest) pos) tB'):PW X (.BoolOp .Or (a::b::rest) pos) (WB tA tB'):=by intro wh on s Y H Q I h;refine isTrue_or (fD (ha on s Y H _ I h) λc s1 ⟨H1,I1,q1⟩=>?_);cases c with|true=>exact⟨H1,I1,q1⟩|false=>exact hb wh on s1 Y H1 Q I1 q1
def RA(ha:PT X a tA):PT X (.UnaryOp .Not a pos) (Vp tA):=by intro on s Y H Q I h;exact isTrue_not<|ha on s Y H (λc H1=>Q (!c) H1) I h
def TL(ta tb:TE):TE:=λY H Q=>ta Y H λx H1=>∃c,x=.bl c/\if c=true then tb Y H1 Q else Q (.bl false) H1
def RJ{op}(h:PE X a t):PE X (.BoolOp op [a] pos) t:=λon s Y H Q I hw=>BoolOp_one<|h on s Y H Q I hw
def MK(ha:PE X a ta)(hb:PE X (.BoolOp .And (b::rest) pos) tb):PE X (.BoolOp .And (a::b::rest) pos) (TL ta tb):=by intro on s Y H Q I h;refine BoolOp_and (fD (ha on s Y H _ I h) λv s1 ⟨x,H1,I1,r1,q1⟩=>?_);obtain⟨c,rfl,q1⟩:=q1;cases r1;refine ik ?_;cases c with|true=>exact hb on s1 Y H1 Q I1 q1|false=>exact⟨.bl false,H1,I1,rfl,q1⟩
def WC(t:TT)(ta tb:TE):TE:=λY H Q=>t Y H λc H1=>if c=true then ta Y H1 Q else tb Y H1 Q
def EQ(hc:PT X c tA)(ha:PE X a ta)(hb:PE X b tb):PE X (.IfExp c a b pos) (WC tA ta tb):=by intro on s Y H Q I h;refine wpAny_IfExp (fD (hc on s Y H _ I h) λd s1 ⟨H1,I1,q1⟩=>?_);cases d with|true=>exact ha on s1 Y H1 Q I1 q1|false=>exact hb on s1 Y H1 Q I1 q1
end
def XU(K:gS)(H:Hp)(a:Addr)(xs:ij):Prop:=Rd H a (.lst xs)\/∃(o:Obj)(its:Array Value)(n:Nat),K.lookup a=some o/\o.cls=.type "list"/\o.dict=none/\o.data=.seq its n/\its.size<=sizeLine/\Vals xs its.toList
def X1(K:gS)(H:Hp)(a:Addr)(xs:ij):Prop:=Rd H a (.tup xs)\/∃(o:Obj)(its:Array Value)(n:Nat),K.lookup a=some o/\o.cls=.type "tuple"/\o.data=.seq its n/\its.size<=sizeLine/\Vals xs its.toList
def VT:Value->Option V
 |.none=>some .Xf|.bool b=>some<|.bl b
 |.int i _=>some (.int i)|.str x _=>some<|.str x
 |.bytes b _=>some (.Z4 b)|.float b _=>some<|.flt b
 |.ref a=>some (.ref a)|.type n=>some<|.ty n
 |_=>none
def RelV.abs(r:RelV x u):VT u=some x:=by
 cases x with
 |Xf=>cases r;rfl
 |bl _=>cases r;rfl
 |int _=>obtain⟨t,rfl⟩:=r;rfl
 |str _=>obtain⟨t,rfl⟩:=r;rfl
 |Z4 _=>obtain⟨t,rfl⟩:=r;rfl
 |flt _=>obtain⟨t,rfl⟩:=r;rfl
 |ref _=>cases r;rfl
 |ty _=>cases r;rfl
def RelV.inj(r:RelV x u)(q:RelV y u):x=y:=bC<|r.abs.symm.trans q.abs
theorem Vals.inj:∀{xs ys:ij}{us:jt},Vals xs us->Vals ys us->xs=ys|_,_,_,.nil,.nil=>rfl|_,_,_,.cons r t,.cons r' t'=>by rw[r.inj r',Vals.inj t t']
section
variable {X:Cx}
def XU.of{H:Hp}{a:Addr}(h:H a=some (.lst xs)):XU K H a xs:=.inl<|.inl h
def X1.of{H:Hp}{a:Addr}(h:H a=some (.tup xs)):X1 K H a xs:=.inl<|.inl h
def Inv.list(I:Inv X on Y H s)(h:XU X.K H a xs):∃its:jt,Vals xs its/\PlainL s.heap a its.toArray/\xs.length<=sizeLine:=by rcases h with h |⟨o,its,n,hk,hc,hd,hs,hz,r⟩;obtain⟨z,its,n,r,e⟩:=h.ok I.Xg;exact⟨its,r,⟨_,n,e,rfl,rfl,rfl⟩,z⟩;refine⟨its.toList,r,⟨o,n,I.Zf a o hk,hc,hd,by simpa using hs⟩,?_⟩;have e:=r.length;simp only[bw]at e;lia
def Inv.tuple(I:Inv X on Y H s)(h:X1 X.K H a xs):∃its:jt,Vals xs its/\IsTup s.heap a its.toArray/\xs.length<=sizeLine:=by rcases h with h |⟨o,its,n,hk,hc,hs,hz,r⟩;obtain⟨z,its,r,p⟩:=h.ok I.Xg;exact⟨its,r,p,z⟩;refine⟨its.toList,r,⟨o,I.Zf a o hk,hc,n,by simpa using hs⟩,?_⟩;have e:=r.length;simp only[bw]at e;lia
def Inv.zAR(I:Inv X on Y H s)(h:XU X.K H a xs)(h':XU X.K H a ys):xs=ys:=by
 obtain⟨its,r,⟨o,n,e,_,_,d⟩,_⟩:=I.list h;obtain⟨its',r',⟨o',n',e',_,_,d'⟩,_⟩:=I.list h';rw[e]at e';cases e';rw[d]at d';injection d' with d1 _;have:its=its':=by simpa using bo Array.toList d1
 subst this;exact r.inj r'
def Inv.Yx(I:Inv X on Y H s)(h:X1 X.K H a xs)(h':X1 X.K H a ys):xs=ys:=by
 obtain⟨its,r,⟨o,e,_,n,d⟩,_⟩:=I.tuple h;obtain⟨its',r',⟨o',e',_,n',d'⟩,_⟩:=I.tuple h';rw[e]at e';cases e';rw[d]at d';injection d' with d1 _;have:its=its':=by simpa using bo Array.toList d1
 subst this;exact r.inj r'
end
abbrev Cx.Y0(X:Cx)(E:uA):Cx:={X with xe:=E}
abbrev Cx.YX(X:Cx):Cx:=X.Y0 λ_ _=>False
def Cx.Ok.Y0{X:Cx}(ok:X.Ok)(E:uA):(X.Y0 E).Ok:=⟨ok.mod,ok.kind,ok.glob,ok.blt,ok.above,ok.inj,ok.has,ok.cab,ok.hd,ok.frames,ok.stk,ok.exf,ok.bs,ok.bsz,ok.zAN,ok.zA3,ok.YT,ok.frf⟩
def Cx.Ok.X8{X:Cx}(ok:(X.Y0 E).Ok):X.Ok:=⟨ok.mod,ok.kind,ok.glob,ok.blt,ok.above,ok.inj,ok.has,ok.cab,ok.hd,ok.frames,ok.stk,ok.exf,ok.bs,ok.bsz,ok.zAN,ok.zA3,ok.YT,ok.frf⟩
section
variable {X:Cx}
def Inv.Y0(I:Inv X on Y H s)(E:uA):Inv (X.Y0 E) on Y H s:=⟨I.ok.Y0 E,I.os,I.bare,I.base,I.loc,I.cell,I.free,I.Yc,I.pin,I.Xg,I.len⟩
def Inv.X8(I:Inv (X.Y0 E) on Y H s):Inv X on Y H s:=⟨I.ok.X8,I.os,I.bare,I.base,I.loc,I.cell,I.free,I.Yc,I.pin,I.Xg,I.len⟩
def SP.X8{D:pY}{f:Flow}(h:SP (X.Y0 E) on D f s'):SP X on D f s':=by
 cases f with
 |next=>let⟨XV,H',I,q⟩:=h;exact⟨XV,H',I.X8,q⟩|brk=>let⟨XV,H',I,q⟩:=h;exact⟨XV,H',I.X8,q⟩
 |cont=>let⟨XV,H',I,q⟩:=h;exact⟨XV,H',I.X8,q⟩|ret u=>let⟨v,XV,H',I,r,q⟩:=h;exact⟨v,XV,H',I.X8,r,q⟩
def ZJ.YX{st:List Stmt}(h:ZJ X.YX st t):ZJ X st t:=λon s Y H D I hw=>cw (h on s Y H D (I.Y0 _) hw) (λ_ _ q=>q.X8) λ_ _ z=>False.elim z
end
section
variable {X:Cx}{st:Stmt}{rest:List Stmt}
def Tz:TS:=λD Y H=>D.nx Y H
def Vm(t u:TS):TS:=λD Y H=>t {D with nx:=u D} Y H
def OU:ZJ X [] Tz:=λ_ _ Y H _ I h=>Gw ⟨Y,H,I,h⟩
def qT(h1:PS X st t)(h2:ZJ X rest u):ZJ X (st::rest) (Vm t u):=by
 intro on s Y H D I h;refine wpAny_execs_cons (fD (h1 on s Y H {D with nx:=u D} I h) λf s1 q=>?_);cases f with
 |next=>let⟨XV,H',I',q⟩:=q;exact h2 on s1 XV H' D I' q|ret v=>exact q
 |brk=>exact q|cont=>exact q
def u4(h1:PS X st t):ZJ X [st] t:=by
 intro on s Y H D I h;refine wpAny_execs_cons (fD (h1 on s Y H D I h) λf s1 q=>?_);cases f with
 |next=>exact Gw q|ret v=>exact q
 |brk=>exact q|cont=>exact q
def Inv.quiet(I:Inv X on Y H s):interactive X.env=false:=by simp[interactive,I.ok.kind]
def TC(te:TE):TS:=λD Y H=>te Y H λ_ H1=>D.nx Y H1
def u5{pos:Pos}(he:PE X e te)(hs:swapsWith e none pos.line X.env=pure false:=by rfl):PS X (.Expr e pos) (TC te):=by intro on s Y H D I h;exact wpAny_Expr_any (fD (he on s Y H _ I h) λv s1 ⟨x,H1,I1,r1,q1⟩=>⟨Y,H1,I1,q1⟩) I.quiet hs
def Vn(te:TE):TS:=λD Y H=>te Y H D.rt
def CC(he:PE X e te):PS X (.Return (some e) pos) (Vn te):=by intro on s Y H D I h;exact wpAny_Return_some (fD (he on s Y H _ I h) λv s1 ⟨x,H1,I1,r1,q1⟩=>⟨x,Y,H1,I1,r1,q1⟩)
def Vs(c:TT)(t u:TS):TS:=λD Y H=>c Y H λb H1=>if b=true then t D Y H1 else u D Y H1
def QM{tc:TT}(hc:PT X c tc)(ha:ZJ X a t)(hb:ZJ X b u):PS X (.If c a b pos) (Vs tc t u):=by intro on s Y H D I h;refine wpAny_If (fD (hc on s Y H _ I h) λd s1 ⟨H1,I1,q1⟩=>?_);cases d with|true=>exact ha on s1 Y H1 D I1 q1|false=>exact hb on s1 Y H1 D I1 q1
end
abbrev TG:=V->St->Hp->(St->Hp->Prop)->Prop
abbrev S5:=ij->St->Hp->(St->Hp->Prop)->Prop
def PG(X:Cx)(target:Expr)(t:TG):Prop:=∀(on:jn)(s:Shared)(Y:St)(H:Hp)(v:V)(u:Value)(Q:St->Hp->Prop),Inv X on Y H s->RelV v u->t v Y H Q->gA X (assign target X.env u) (λ_ s'=>∃XV H',Inv X on XV H' s'/\Q XV H') X.xe s
def UH(X:Cx)(ts:vO)(t:S5):Prop:=∀(on:jn)(s:Shared)(Y:St)(H:Hp)(vs:ij)(us:jt)(Q:St->Hp->Prop),Inv X on Y H s->Vals vs us->t vs Y H Q->gA X (assignInOrder ((assignEach ts X.env).map (·.2)) us) (λ_ s'=>∃XV H',Inv X on XV H' s'/\Q XV H') X.xe s
abbrev K2:=V->V->V->Hp->(Hp->Prop)->Prop
def Qm(X:Cx)(t:K2):Prop:=∀(on:jn)(s:Shared)(Y:St)(H:Hp)(o i v:V)(ov iv u:Value)(Q:Hp->Prop),Inv X on Y H s->RelV o ov->RelV i iv->RelV v u->t o i v H Q->gA X (setItem ov iv u) (λ_ s'=>∃H',Inv X on Y H' s'/\Q H') X.xe s
abbrev UG:=V->V->Hp->VK->Prop
def Wo(X:Cx)(op:Operator)(t:UG):Prop:=∀(on:jn)(s:Shared)(Y:St)(H:Hp)(x y:V)(v u:Value)(Q:VK),Inv X on Y H s->RelV x v->RelV y u->t x y H Q->gA X (inplaceOp op v u) (EP X on Y Q) X.xe s
section
variable {X:Cx}
def QW(i:Nat):TG:=λv Y H Q=>Q (Y.set i<|some v) H
def va{i:Nat}(hN:X.N.Nodup)(hi:X.N[i]?=some x)(hx:S8 X.env.scope x)(hf:X.fn x=true\/X.env.scope.names.lookup x=some .local:=by first |exact .inl rfl |exact .inr rfl |assumption):PG X (.Name x pos) (QW i):=by intro on s Y H v u Q I r h;exact Td<|qI I hN hi hx r (λs' I'=>⟨_,H,I',h⟩) hf
def VP:S5:=λvs Y H Q=>vs=[]/\Q Y H
def Ut(t:TG)(u:S5):S5:=λvs Y H Q=>∃v r,vs=v::r/\t v Y H λXV H'=>u r XV H' Q
def IN:UH X [] VP:=by intro on s Y H vs us Q I r h;obtain⟨e,h⟩:=h;subst e;cases r;exact assignInOrder_nil ⟨Y,H,I,h⟩
def yX{u:S5}(h1:PG X e t)(h2:UH X es u)(hs:(assignEach (e::es) X.env).map (·.2)=assign e X.env::(assignEach es X.env).map (·.2):=by rfl):UH X (e::es) (Ut t u):=by intro on s Y H vs us Q I r h;obtain⟨v,vr,e1,h⟩:=h;subst e1;cases r with|cons r rr=>rw[hs];refine Wq (fD (h1 on s Y H _ _ _ I r h) λ_ s1 ⟨σ1,H1,I1,q1⟩=>?_);exact h2 on s1 σ1 H1 _ _ Q I1 rr q1
def VN(K:gS)(n:Nat)(t:S5):TG:=λv Y H Q=>∃a xs,v=.ref a/\X1 K H a xs/\xs.length=n/\t xs Y H Q
def ME{n:Nat}{t:S5}(hc:X.calm=true)(h:UH X es t)(hn:(assignEach es X.env).length=n:=by rfl)(hst:(assignEach es X.env).findIdx? (·.1)=none:=by rfl):PG X (.Tuple es k pos) (VN X.K n t):=by intro on s Y H v u Q I r hw;obtain⟨a,xs,e1,hq,hl,hw⟩:=hw;subst e1;cases r;obtain⟨its,rv,ht,hz⟩:=I.tuple hq;refine assign_Tuple_tuple (I.ok.hd hc) ht (by simp[hn,<-hl,rv.length]) hst λh' hx=>?_;have I1:=I.kept (t':=s.toks) λb o e=>hx b o (dh<|bc e) e;exact h on _ Y H xs _ Q I1 rv hw
def VO(to ti:TE)(t:K2):TG:=λv Y H Q=>to Y H λo H1=>ti Y H1 λi H2=>t o i v H2 λH3=>Q Y H3
def G9{t:K2}(ho:PE X o to)(hi:PE X i ti)(hs:Qm X t)(ha:∀v,assign (.Subscript o i pos) X.env v=(do
   let ov <-holding [v] (eval o X.env)
   let iv <-holding [v,ov] (eval i X.env)
   standAt pos
   holding [v,ov,iv] (setItem ov iv v)
   release [v,ov,iv] []):=by intro _;rfl):PG X (.Subscript o i pos) (VO to ti t):=by
 intro on s Y H v u Q I r h
 rw[ha]
 refine ae<|fI (fD (ho on s Y H _ I h) λov s1 ⟨x,H1,I1,r1,q1⟩=>?_)
 refine ae<|fI (fD (hi on s1 Y H1 _ I1 q1) λiv s2 ⟨y,H2,I2,r2,q2⟩=>?_)
 refine ae<|fk<|ae<|fI (fD (hs on s2 Y H2 x y v ov iv u _ I2 r1 r2 r q2) λ_ s3 ⟨H3,I3,q3⟩=>?_)
 exact wpAny_release ⟨Y,H3,I3,q3⟩
def TK(te:TE)(g:TG):TS:=λD Y H=>te Y H λx H1=>g x Y H1 D.nx
def G7{pos:Pos}(he:PE X e te)(hg:PG X tg g)(hs:swapsWithSole [tg] e pos.line X.env=pure false:=by rfl)(hw:swappedStores [tg] e X.env=pure none:=by rfl)(h1:(assignEach [tg] X.env).map (·.2)=[assign tg X.env]:=by rfl):PS X (.Assign [tg] e pos) (TK te g):=by intro on s Y H D I h;refine wpAny_Assign_stores (fD (he on s Y H _ I h) λv s1 ⟨x,H1,I1,r1,q1⟩=>?_) hs hw;rw[h1];exact fD (hg on s1 Y H1 x v _ I1 r1 q1) λ_ s2 q=>q
def yV{i:Nat}{pos:Pos}(hN:X.N.Nodup)(hi:X.N[i]?=some x)(hx:S8 X.env.scope x)(he:PE X e te)(hs:swapsWith e (some<|.Name x pos') pos.line X.env=pure false:=by rfl)(hf:X.fn x=true\/X.env.scope.names.lookup x=some .local:=by first |exact .inl rfl |exact .inr rfl |assumption):PS X (.Assign [.Name x pos'] e pos) (TK te<|QW i):=by intro on s Y H D I h;refine wpAny_Assign_Name (fD (he on s Y H _ I h) λv s1 ⟨y,H1,I1,r1,q1⟩=>?_) hs;exact qI I1 hN hi hx r1 (λs2 I2=>⟨_,H1,I2,q1⟩) hf
def Vo(i j:Nat)(ta:TA):TS:=λD Y H=>ta Y H λvs H1=>∃v w,vs=[v,w]/\D.nx ((Y.set i<|some v).set j<|some w) H1
def G5{i j:Nat}{pos:Pos}{kt k2 Z6}(hc:X.calm=true)(hN:X.N.Nodup)(hi:X.N[i]?=some x)(hj:X.N[j]?=some y)(Z1:i≠j)(hx:X.env.scope.names.lookup x=some .local)(hy:X.env.scope.names.lookup y=some .local)(ha:PA X [a,b] ta)(hw:swappedStores [.Tuple [.Name x px,.Name y py] kt pt] (.Tuple [a,b] k2 Z6) X.env=pure (some [x,y]))(hs:swapsWithSole [.Tuple [.Name x px,.Name y py] kt pt] (.Tuple [a,b] k2 Z6) pos.line X.env=pure false:=by rfl):PS X (.Assign [.Tuple [.Name x px,.Name y py] kt pt] (.Tuple [a,b] k2 Z6) pos) (Vo i j ta):=by
 intro on s Y H D I h;rw[exec_Assign_arm];refine ae<|fk ?_;rw[hs];refine ae<|ap ?_;rw[af<|by decide];refine ae<|Tuple_ (fD (ha _ on s Y H _ I h) λus s1 ⟨vs,H1,I1,r1,q1⟩=>?_);obtain⟨v,w,e1,q1⟩:=q1;subst e1;obtain⟨u1,u2,rfl,rv,Yi⟩:∃u1 u2,us=[u1,u2]/\RelV v u1/\RelV w u2:=by cases r1 with|cons p q=>cases q with|cons p' q'=>cases q';exact⟨_,_,rfl,p,p'⟩
 refine dC ?_ (by show 2<=sizeLine;decide);have I2:Inv X on Y H1 {s1 with heap:=s1.heap.push {cls:=.type "tuple",data:=.seq [u1,u2].toArray}}:=I1.kept λb o e=>aE _ e;rw[hw];refine ae<|ap ?_;refine ae<|Ge<|ae (unpackItems_tuple (items:=#[u1,u2]) (I.ok.hd hc) (IsTup.new s1.heap _) λh' Yw=>?_);have I3:=I2.kept (t':=s1.toks) λb o e=>Yw b o (dh<|bc e) e;refine ae<|Wq<|wpAny_bindName<|qI I3 hN hj (.inl hy) Yi (λs2 I4=>?_)<|.inr hy;refine Wq<|wpAny_bindName<|qI I4 hN hi (.inl hx) rv (λs3 I5=>assignInOrder_nil<|ap ?_)<|.inr hx;rw[List.set_comm _ _<|gy Z1]at I5;exact⟨_,H1,I5,q1⟩
def Vv(i:Nat)(te:TE)(ti:UG):TS:=λD Y H=>∃x,Y[i]?=some (some x)/\te Y H λy H1=>ti x y H1 λz H2=>D.nx (Y.set i<|some z) H2
def RB{i:Nat}{ti:UG}(hN:X.N.Nodup)(hi:X.N[i]?=some x)(hx:S8 X.env.scope x)(he:PE X e te)(ho:Wo X op ti)(hf:X.fn x=true\/X.env.scope.names.lookup x=some .local:=by first |exact .inl rfl |exact .inr rfl |assumption):PS X (.AugAssign (.Name x pos') op e pos) (Vv i te ti):=by
 intro on s Y H D I h;obtain⟨v,e1,h⟩:=h;obtain⟨m,hn,hl⟩:=I.loc;have vis:Tq X.env.scope x:=by rcases hx with k |k;exact .inl k;exact .inr<|.inl k
 obtain⟨u,r,l⟩:=hl i x v hi e1 vis;refine wpAny_AugAssign_Name ?_;have go:gA X (eval e X.env) (λw s₂=>gA X (inplaceOp op u w) (λr s₃=>gA X (storeName X.env x r) (λ_=>SP X on D .next) X.xe s₃) X.xe s₂) X.xe s:=by refine fD (he on s Y H _ I h) λw s1 ⟨y,H1,I1,r1,q1⟩=>?_;refine fD (ho on s1 Y H1 v y u w _ I1 r r1 q1) λz s2 ⟨zv,H2,I2,r2,q2⟩=>?_;exact qI I2 hN hi hx r2 (λs3 I3=>⟨_,H2,I3,q2⟩) hf
 rcases l with⟨hk,hm⟩ |⟨hk,c,hc,YC⟩;exact wpAny_loadName_local I.ok.kind hk hn hm go;rcases hk with hk |hk;exact wpAny_loadName_cell I.ok.kind hk hc YC go;rcases hx with k |k;have:X.env.scope.names.lookup x=some .free:=hk;rw[k]at this;cases this;have:X.env.scope.names.lookup x=some .free:=hk;rw[k]at this;cases this
def TJ(to ti te:TE)(zBJ:V->V->Hp->VK->Prop)(tip:UG)(zBH:K2):TS:=λD Y H=>to Y H λo H1=>ti Y H1 λi H2=>zBJ o i H2 λx H3=>te Y H3 λy H4=>tip x y H4 λz H5=>zBH o i z H5 λH6=>D.nx Y H6
def UI(X:Cx)(t:V->V->Hp->VK->Prop):Prop:=∀(on:jn)(s:Shared)(Y:St)(H:Hp)(o i:V)(ov iv:Value)(Q:VK),Inv X on Y H s->RelV o ov->RelV i iv->t o i H Q->gA X (getItem ov iv) (EP X on Y Q) X.xe s
def OW{zBJ:V->V->Hp->VK->Prop}{tip:UG}{zBH:K2}(ho:PE X o to)(hi:PE X i ti)(hg:UI X zBJ)(he:PE X e te)(hp:Wo X op tip)(hs:Qm X zBH)(ha:∀ov iv new,augStore i ov iv new=(do holding [new,ov,iv] (setItem ov iv new);release [new,ov,iv] [];pure .next):=by intros;rfl):PS X (.AugAssign (.Subscript o i zGF) op e pos) (TJ to ti te zBJ tip zBH):=by intro on s Y H D I h;refine wpAny_AugAssign_SubscriptAny (fD (ho on s Y H _ I h) λov s1 ⟨x1,H1,I1,r1,q1⟩=>?_) ha;refine fD (hi on s1 Y H1 _ I1 q1) λiv s2 ⟨x2,H2,I2,r2,q2⟩=>?_;refine fD (hg on s2 Y H2 x1 x2 ov iv _ I2 r1 r2 q2) λold s3 ⟨x3,H3,I3,r3,q3⟩=>?_;refine fD (he on s3 Y H3 _ I3 q3) λv s4 ⟨x4,H4,I4,r4,q4⟩=>?_;refine fD (hp on s4 Y H4 x3 x4 old v _ I4 r3 r4 q4) λnew s5 ⟨x5,H5,I5,r5,q5⟩=>?_;exact fD (hs on s5 Y H5 x1 x2 x5 ov iv new _ I5 r1 r2 r5 q5) λ_ s6 ⟨H6,I6,q6⟩=>⟨Y,H6,I6,q6⟩
end
section
variable {X:Cx}
def Rh(c:TT)(tb:TS):TS:=λD Y H=>∃W:Nat->St->Hp->Prop,(∃m,W m Y H)/\∀m Y H,W m Y H->c Y H λb H1=>if b=true then∃N:St->Hp->Prop,(∀XV H',N XV H'->∃m',m'<m/\W m' XV H')/\tb {D with nx:=N,ct:=N,bk:=D.nx} Y H1 else D.nx Y H1
def Mp{tc:TT}(hp:PassesOwn (model X.prog X.w) X.A X.env X.xe)(hc:PT X c tc)(hb:ZJ X body tb):PS X (.While c body [] pos) (Rh tc tb):=by
 intro on s Y H D I h;obtain⟨W,⟨m0,w0⟩,turn⟩:=h;refine wpAny_While<|codeAny_whileLoop (λn s'=>∃XV H',Inv X on XV H' s'/\W n XV H') ?_ m0 ⟨Y,H,I,w0⟩;rintro n s1 ⟨σ1,H1,I1,w1⟩;refine kU hp (fD (hc on s1 σ1 H1 _ I1<|turn n σ1 H1 w1) λb s2 ⟨H2,I2,q2⟩=>?_);cases b with
 |true=>
  obtain⟨N,hN,q2⟩:=q2;rw[ag rfl];refine kU hp (fD (hb on s2 σ1 H2 _ I2 q2) λf s3 q3=>?_);cases f with
  |next=>let⟨σ3,H3,I3,n3⟩:=q3;obtain⟨m',hm,w3⟩:=hN σ3 H3 n3;exact⟨m',hm,σ3,H3,I3,w3⟩|cont=>let⟨σ3,H3,I3,n3⟩:=q3;obtain⟨m',hm,w3⟩:=hN σ3 H3 n3;exact⟨m',hm,σ3,H3,I3,w3⟩
  |brk=>exact q3|ret v=>exact q3
 |false=>rw[af aW];exact Gw ⟨σ1,H2,I2,q2⟩
end
structure It where
 go:Nat->Hp->Prop
 yld:Nat->Hp->V->Hp->Prop
 stop:Nat->Hp->Prop
def pX(X:Cx)(on:jn)(H:Hp)(b:Addr):Prop:=H b=none/\b≠X.env.locals/\b∉X.fs/\(b∈X.ex\/X.s₀.heap.objs.size<=b)/\(∀x c,X.env.cells.lookup x=some c->c≠b)/\∀p∈X.pn++on,p.1≠b
def Inv.Z2{X:Cx}{H':Hp}{b:Addr}(I:Inv X on Y H s)(hb:s.heap.objs.size<=b)(hn:H' b=none):pX X on H' b:=by refine⟨hn,td<|aR I.lt hb,I.zGU hb,.inr<|aL I.sz hb,λx c e z=>?_,λp hp z=>?_⟩;let⟨v,q⟩:=I.cell x c e;exact absurd (aR q.lt<|by rwa[z])<|dW _;exact absurd (aR (bc (I.pin p hp).1)<|by rwa[z])<|dW _
structure xA(P:Program)(w:World)(K:gS)(tg:Expr)(J:It)(fp:List Addr)(it:Addr)(tn:Nat->Heap->Prop):Prop where
 mem:it∈fp
 obj:∀i h,tn i h->∀b∈fp,∃o,h.get? b=some o/\∀v,o.data≠.cell v
 keep:∀i h h',tn i h->(∀b∈fp,∀o,h.get? b=some o->h'.get? b=some o)->tn i h'
 item:∀(X:Cx),X.prog=P->X.w=w->X.K=K->X.calm=true->∀(i:Nat)(on:jn)(s:Shared)(Y:St)(H:Hp)(E:uA),Inv X on Y H s->(∀b∈fp,pX X on H b)->tn i s.heap->J.go i H->
  wpAny (model P w) X.A (pyNext<|.ref it) (λr s1=>∃u,r=some u/\
   wpAny (model P w) X.A (letOwnedTupleGo tg (.ref it) u) (λ_ s2=>∃x H',Inv X on Y H' s2/\RelV x u/\J.yld i H x H'/\tn (i+1) s2.heap/\∀b∈fp,H' b=none) E s1) E s
 done:∀(X:Cx),X.prog=P->X.w=w->X.K=K->X.calm=true->∀(i:Nat)(on:jn)(s:Shared)(Y:St)(H:Hp)(E:uA),Inv X on Y H s->(∀b∈fp,pX X on H b)->tn i s.heap->J.stop i H->
  wpAny (model P w) X.A (pyNext<|.ref it) (λr s1=>r=none/\Inv X on Y H s1) E s
 self:∀(A:Around)(i:Nat)(s:Shared)(Q:uA)(E:uA),tn i s.heap->Q (.ref it) s->wpAny (model P w) A (pyIter<|.ref it) Q E s
abbrev TI:=St->Hp->(It->Hp->Prop)->Prop
def U5(X:Cx)(on:jn)(Y:St)(tg:Expr)(R:It->Hp->Prop)(itv:Value)(s2:Shared):Prop:=∃(it:Addr)(fp:List Addr)(tn:Nat->Heap->Prop)(J:It)(H':Hp),itv=.ref it/\Inv X on Y H' s2/\xA X.prog X.w X.K tg J fp it tn/\tn 0 s2.heap/\(∀b∈fp,pX X on H' b)/\R J H'
def PI(X:Cx)(tg iter:Expr)(wi:TI):Prop:=∀(on:jn)(s:Shared)(Y:St)(H:Hp)(R:It->Hp->Prop),Inv X on Y H s->wi Y H R->gA X (eval iter X.env) (λv s1=>gA X (pyIter v) (U5 X on Y tg R) X.xe s1) X.xe s
def Jp{s:Shared}{it:Addr}{Q:Unit->Shared->Prop}(ho:s.heap.get? it=some o)(hc:o.cls=.type n)(hd:o.data=.fields vs)(hn:["enumerate","zip","dict_itemiterator","dict_reverseitemiterator","odict_iterator","itertools.zip_longest","itertools.pairwise"].contains n=false)(hQ:Q () s):wpAny M A (letOwnedTupleGo tg (.ref it) u) Q E s:=by
 cases tg<;>first
  |exact ap hQ|(cases u<;>first|exact ap hQ|(refine ae<|wpAny_load ho ?_;rw[hc,hd];show wpAny M A (if(["enumerate","zip","dict_itemiterator","dict_reverseitemiterator","odict_iterator","itertools.zip_longest","itertools.pairwise"].contains n&&vs[0]?==some (rawInt _))=true then _ else _) Q E s;rw[af<|by intro h;rw[hn,Tk]at h;cases h];exact ap hQ))
def V3(K:gS)(a:Addr):It:=⟨λi H=>∃xs x,XU K H a xs/\xs[i]?=some x,λi H x H'=>H'=H/\∀xs,XU K H a xs->xs[i]?=some x,λi H=>∃xs,XU K H a xs/\xs.length<=i⟩
def V2(K:gS)(a:Addr):It:=⟨λi H=>∃xs x,X1 K H a xs/\xs[i]?=some x,λi H x H'=>H'=H/\∀xs,X1 K H a xs->xs[i]?=some x,λi H=>∃xs,X1 K H a xs/\xs.length<=i⟩
def UK(lo:Int)(n:Nat):It:=⟨λi _=>i<n,λi H x H'=>H'=H/\x=.int (lo+i),λi _=>n<=i⟩
def JV(a it:Addr):xA P w K tg (V3 K a) [it] it (λi h=>h.IsListIter it a i) where
 mem:=by simp
 obj:=λi h st b hb=>by
  have e:b=it:=by simpa using hb
  subst e;obtain⟨o,e,c,d⟩:=st;exact⟨o,e,λv z=>by rw[d]at z;cases z⟩
 keep:=λi h h' st k=>st.at λo e=>k it (by simp) o e
 item:=by intro X hP hw hK hc i on s Y H E I hf st hg;subst hP hw hK;obtain⟨xs,x,hq,hx⟩:=hg;obtain⟨its,rv,p,hz⟩:=I.list hq;obtain⟨u,hu,ru⟩:=rv.get hx;obtain⟨f0,f1,f2,f3,f4,f5⟩:=hf it (by simp);refine wpAny_pyNext_list_item st p.isList (by simpa using hu) λh' Y5 sb=>?_;have I1:=I.turned (t':=s.toks) (λb o hb e=>(sb.2 b hb).trans e) f0 f1 f3 f4 f5;obtain⟨o,e,c,d⟩:=id Y5;exact⟨u,rfl,Jp e c d rfl ⟨x,H,I1,ru,⟨rfl,λys hy=>by rwa[I.zAR hy hq]⟩,Y5,λb hb=>(hf b hb).1⟩⟩
 done:=by intro X hP hw hK hc i on s Y H E I hf st hg;subst hP hw hK;obtain⟨xs,hq,hx⟩:=hg;obtain⟨its,rv,p,hz⟩:=I.list hq;obtain⟨f0,f1,f2,f3,f4,f5⟩:=hf it (by simp);have hl:=rv.length;exact wpAny_pyNext_list_end (I.ok.hd hc) st p.isList (by simp;lia) λh' eb=>⟨rfl,I.turned (λb o hb e=>eb b o hb e) f0 f1 f3 f4 f5⟩
 self:=λ_ _ _ _ _ st h=>wpAny_pyIter_listiter st h
def GC(a it:Addr):xA P w K tg (V2 K a) [it] it (λi h=>h.IsTupleIter it a i) where
 mem:=by simp
 obj:=λi h st b hb=>by
  have e:b=it:=by simpa using hb
  subst e;obtain⟨o,e,c,d⟩:=st;exact⟨o,e,λv z=>by rw[d]at z;cases z⟩
 keep:=λi h h' st k=>st.at λo e=>k it (by simp) o e
 item:=by intro X hP hw hK hc i on s Y H E I hf st hg;subst hP hw hK;obtain⟨xs,x,hq,hx⟩:=hg;obtain⟨its,rv,p,hz⟩:=I.tuple hq;obtain⟨u,hu,ru⟩:=rv.get hx;obtain⟨f0,f1,f2,f3,f4,f5⟩:=hf it (by simp);refine wpAny_pyNext_tuple_item st (p) (by simpa using hu) λh' Y5 sb=>?_;have I1:=I.turned (t':=s.toks) (λb o hb e=>(sb.2 b hb).trans e) f0 f1 f3 f4 f5;obtain⟨o,e,c,d⟩:=id Y5;exact⟨u,rfl,Jp e c d rfl ⟨x,H,I1,ru,⟨rfl,λys hy=>by rwa[I.Yx hy hq]⟩,Y5,λb hb=>(hf b hb).1⟩⟩
 done:=by intro X hP hw hK hc i on s Y H E I hf st hg;subst hP hw hK;obtain⟨xs,hq,hx⟩:=hg;obtain⟨its,rv,p,hz⟩:=I.tuple hq;obtain⟨f0,f1,f2,f3,f4,f5⟩:=hf it (by simp);have hl:=rv.length;exact wpAny_pyNext_tuple_end (I.ok.hd hc) st (p) (by simp;lia) λh' eb=>⟨rfl,I.turned (λb o hb e=>eb b o hb e) f0 f1 f3 f4 f5⟩
 self:=λ_ _ _ _ _ st h=>wpAny_pyIter_tupleiter st h
def GD(it:Addr)(lo:Int)(n:Nat):xA P w K tg (UK lo n) [it] it (λi h=>IsRangeIter h it (lo+(i:Nat)*1) ((n:Int)-(i:Nat)) 1) where
 mem:=by simp
 obj:=λi h st b hb=>by
  have e:b=it:=by simpa using hb
  subst e;exact⟨_,st,λv z=>by have z':=z;cases z'⟩
 keep:=λi h h' st k=>k it (by simp) _ st
 item:=by
  intro X hP hw hK hc i on s Y H E I hf st hg;subst hP hw hK;let⟨f0,f1,f2,f3,f4,f5⟩:=hf it (by simp);refine wpAny_pyNext_range_item st (by have:i<n:=hg;lia) λh' Y5 sb=>?_;have I1:Inv X on Y H {s with heap:=h',toks:=s.toks+1}:=I.turned (λb o hb e=>(sb.2 b hb).trans e) f0 f1 f3 f4 f5;have e1:lo+i*1+1=lo+((i+1:Nat):Int)*1:=by lia
  have e2:n-i-1=n-((i+1:Nat):Int):=by lia
  rw[e1,e2]at Y5;refine⟨_,rfl,Jp Y5 rfl rfl rfl ⟨.int<|lo+i,H,I1,⟨s.toks,?_⟩,⟨rfl,rfl⟩,Y5,λb hb=>(hf b hb).1⟩⟩;rw[Ol]
 done:=by intro X hP hw hK hc i on s Y H E I hf st hg;subst hP hw hK;let⟨f0,f1,f2,f3,f4,f5⟩:=hf it (by simp);exact wpAny_pyNext_range_end (I.ok.hd hc) st (by have:n<=i:=hg;lia) λh' eb=>⟨rfl,I.turned (λb o hb e=>eb b o hb e) f0 f1 f3 f4 f5⟩
 self:=λ_ _ _ _ _ st h=>wpAny_pyIter_rangeiter st h
section
variable {X:Cx}
def Ur(K:gS)(tl:TE):TI:=λY H R=>tl Y H λx H1=>∃a,x=.ref a/\(∃xs,XU K H1 a xs)/\R (V3 K a) H1
def VJ(K:gS)(tl:TE):TI:=λY H R=>tl Y H λx H1=>∃a,x=.ref a/\(∃xs,X1 K H1 a xs)/\R (V2 K a) H1
def O2(hl:PE X l tl):PI X tg l (Ur X.K tl):=by
 intro on s Y H R I h;refine fD (hl on s Y H _ I h) λv s1 ⟨x,H1,I1,r1,q1⟩=>?_;obtain⟨a,e,⟨xs,hq⟩,q⟩:=q1;subst e;cases r1;obtain⟨its,rv,p,hz⟩:=I1.list hq;refine Ta p.isList ?_;refine⟨s1.heap.objs.size,[s1.heap.objs.size],_,_,H1,rfl,I1.kept λb o e=>aE _ e,JV a _,⟨_,a7 _ rfl,rfl,rfl⟩,λb hb=>?_,q⟩;have e:b=s1.heap.objs.size:=by simpa using hb
 subst e;exact I1.Z2 (ao _)<|I1.Xg.fresh<|ao _
def MC(hl:PE X l tl):PI X tg l (VJ X.K tl):=by
 intro on s Y H R I h;refine fD (hl on s Y H _ I h) λv s1 ⟨x,H1,I1,r1,q1⟩=>?_;obtain⟨a,e,⟨xs,hq⟩,q⟩:=q1;subst e;cases r1;obtain⟨its,rv,p,hz⟩:=I1.tuple hq;refine xB (p) ?_;refine⟨s1.heap.objs.size,[s1.heap.objs.size],_,_,H1,rfl,I1.kept λb o e=>aE _ e,GC a _,⟨_,a7 _ rfl,rfl,rfl⟩,λb hb=>?_,q⟩;have e:b=s1.heap.objs.size:=by simpa using hb
 subst e;exact I1.Z2 (ao _)<|I1.Xg.fresh<|ao _
def EB{lo hi:Int}{tk:Nat}{R:It->Hp->Prop}(I:Inv X on Y H s)(h1: -(2 ^ 62)<=lo)(h2:lo<2 ^ 62)(h3: -(2 ^ 62)<=hi)(h4:hi<2 ^ 62)(q:R (UK lo (hi-lo).toNat) H):gA X (pyIter<|.ref s.heap.objs.size) (U5 X on Y tg R) E {s with heap:=s.heap.push {cls:=.type "range",data:=.fields #[.int lo t,.int hi u,.int 1 v]},toks:=tk}:=by
 refine wpAny_pyIter_range (IsRange.new ..) (small_one h1 h2 h3 h4) ?_;have I1:Inv X on Y H {s with heap:=s.heap.push {cls:=.type "range",data:=.fields #[.int lo t,.int hi u,.int 1 v]},toks:=tk}:=I.kept λb o e=>aE _ e;refine⟨(s.heap.push {cls:=.type "range",data:=.fields #[.int lo t,.int hi u,.int 1 v]}).objs.size,[(s.heap.push {cls:=.type "range",data:=.fields #[.int lo t,.int hi u,.int 1 v]}).objs.size],_,_,H,rfl,I1.kept λb o e=>aE _ e,GD _ lo (hi-lo).toNat,?_,λb hb=>?_,q⟩;have e1:lo+((0:Nat):Int)*1=lo:=by simp
 have e2:(((hi-lo).toNat:Nat):Int)-((0:Nat):Int)=Builtin.Range.rangeSize lo hi 1:=by rw[rangeSize_one];split<;>lia
 rw[e1,e2];exact a7 _ rfl;have e:b=(s.heap.push {cls:=.type "range",data:=.fields #[.int lo t,.int hi u,.int 1 v]}).objs.size:=by simpa using hb
 subst e;exact I1.Z2 (ao _)<|I1.Xg.fresh<|ao _
def Uq(ta:TA):TI:=λY H R=>ta Y H λvs H1=>∃j:Int,vs=[.int j]/\-(2 ^ 62)<=j/\j<2 ^ 62/\R (UK 0 j.toNat) H1
def Up(ta:TA):TI:=λY H R=>ta Y H λvs H1=>∃i j:Int,vs=[.int i,.int j]/\(-(2 ^ 62)<=i/\i<2 ^ 62/\-(2 ^ 62)<=j/\j<2 ^ 62)/\R (UK i (j-i).toNat) H1
def Kj(hg:Gl X "range")(hm:X.mg "range"=none)(ha:PA X [a] ta)(hs:starEach [a] X.env=[(false,eval a X.env)]:=by rfl):PI X tg (.Call (.Name "range" p) [a] [] pos) (Uq ta):=by intro on s Y H R I h;refine Call_<|t6 I hg hm boot_range<|ie (fD (ha pos on s Y H _ I h) λus s1 ⟨vs,H1,I1,r1,q1⟩=>?_) hs rfl;obtain⟨j,e,q1,q2,q⟩:=q1;subst e;cases r1 with|cons r rr=>cases rr;obtain⟨t,rfl⟩:=r;exact call_range_1<|EB I1 (by lia) (by lia) q1 q2<|by simpa using q
def BO(hg:Gl X "range")(hm:X.mg "range"=none)(ha:PA X [a,b] ta)(hs:starEach [a,b] X.env=[(false,eval a X.env),(false,eval b X.env)]:=by rfl)(hs2:starEach [b] X.env=[(false,eval b X.env)]:=by rfl):PI X tg (.Call (.Name "range" p) [a,b] [] pos) (Up ta):=by intro on s Y H R I h;refine Call_<|t6 I hg hm boot_range<|ie (fD (ha pos on s Y H _ I h) λus s1 ⟨vs,H1,I1,r1,q1⟩=>?_) (by rw[hs,hs2]) (by rw[hs2];rfl);obtain⟨i,j,e,⟨q1,q2,q3,q4⟩,q⟩:=q1;subst e;cases r1 with|cons r rr=>cases rr with|cons r' rr=>cases rr;obtain⟨t,rfl⟩:=r;obtain⟨t',rfl⟩:=r';exact call_range_2<|EB I1 q1 q2 q3 q4 q
def Vt(wi:TI)(g:TG)(tb:TS):TS:=λD Y H=>wi Y H λJ H1=>∃W:Nat->Nat->St->Hp->Prop,(∃m,W 0 m Y H1)/\∀i m Y H,W i m Y H->(J.stop i H/\D.nx Y H)\/(J.go i H/\∃N:St->Hp->Prop,(∀XV H',N XV H'->∃m',m'<m/\W (i+1) m' XV H')/\∀x H',J.yld i H x H'->g x Y H' λσ2 H2=>tb {D with nx:=N,ct:=N,bk:=D.nx} σ2 H2)
def CJ(fp:List Addr)(h:Heap):jn:=fp.filterMap λb=>(h.get? b).map λo=>(b,o)
def kL{fp:List Addr}{h:Heap}{b:Addr}(hb:b∈fp)(e:h.get? b=some o):(b,o)∈CJ fp h:=Ia.mpr ⟨b,hb,by rw[e];rfl⟩
def Kl{p:Addr×Obj}(hp:p∈CJ fp h):p.1∈fp/\h.get? p.1=some p.2:=by
 obtain⟨b,hb,e⟩:=Ia.mp hp;cases q:h.get? b with
 |none=>rw[q]at e;cases e
 |some o=>rw[q]at e;have e':(b,o)=p:=bC e;subst e';exact⟨hb,q⟩
def Inv.pinned{fp:List Addr}(I:Inv X on Y H s)(hf:∀b∈fp,pX X on H b)(ho:∀b∈fp,∃o,s.heap.get? b=some o/\∀v,o.data≠.cell v):Inv X (on++CJ fp s.heap) Y H s:=I.ZP λp hp=>(cQ.mp hp).elim (λz=>I.pin p<|bP _ z) λz=>by obtain⟨hb,e⟩:=Kl z;obtain⟨f0,f1,f2,_⟩:=hf p.1 hb;obtain⟨o,e',d⟩:=ho p.1 hb;rw[e]at e';cases e';exact⟨e,f0,f1,f2,d⟩
def Inv.X9{on pl:jn}(I:Inv X (on++pl) Y H s):Inv X on Y H s:=I.ZP λp hp=>I.pin p<|bP _<|DU _ hp
def Mr(hp:PassesOwn (model X.prog X.w) X.A X.env X.xe)(hc:X.calm=true)(hi:PI X tg iter wi)(hg:PG X tg g)(hb:ZJ X body tb)(hs:∀x,foldedSetIterable iter X.env x=pure x:=by intro _;rfl):PS X (.For tg iter body [] pos) (Vt wi g tb):=by
 intro on s Y H D I h;refine wpAny_For (fD (hi on s Y H _ I h) λv s1 h1=>fD h1 λitv s2 h2=>?_) hs;obtain⟨it,fp,tn,J,H2,e,I2,T,st2,f2,W,⟨m0,w0⟩,turn⟩:=h2;subst e;have stat:∀{H':Hp},(∀b∈fp,H' b=none)->∀b∈fp,pX X on H' b:=λhn b hb=>⟨hn b hb,(f2 b hb).2⟩;refine codeAny_forLoop_any (λn s'=>∃i XV H',Inv X on XV H' s'/\tn i s'.heap/\(∀b∈fp,H' b=none)/\W i n XV H') ?_ m0 ⟨0,Y,H2,I2,st2,λb hb=>(f2 b hb).1,w0⟩;rintro n s3 ⟨i,σ3,H3,I3,st3,fr3,w3⟩;rcases turn i n σ3 H3 w3 with⟨stop,qn⟩ |⟨go,N,hN,step⟩;refine kU hp (fD (T.done X rfl rfl rfl hc i on s3 σ3 H3 X.xe I3 (stat fr3) st3 stop) λr s4 ⟨hr,I4⟩=>?_);subst hr;exact Gw ⟨σ3,H3,I4,qn⟩;refine kU hp (fD (T.item X rfl rfl rfl hc i on s3 σ3 H3 X.xe I3 (stat fr3) st3 go) λr s4 ⟨u,hr,h4⟩=>?_);subst hr;refine kU hp (fD h4 λ_ s5 ⟨x,H5,I5,r5,y5,st5,fr5⟩=>?_);have I5':=I5.pinned (stat fr5)<|T.obj _ _ st5;refine kU hp (fD (hg _ s5 σ3 H5 x u _ I5' r5<|step x H5 y5) λ_ s6 ⟨σ6,H6,I6,q6⟩=>?_);refine kU hp (fD (hb _ s6 σ6 H6 _ I6 q6) λf s7 q7=>?_);have again:∀{σ7:St}{H7:Hp},Inv X (on++CJ fp s5.heap) σ7 H7 s7->N σ7 H7->∃m,m<n/\∃i XV H',Inv X on XV H' s7/\tn i s7.heap/\(∀b∈fp,H' b=none)/\W i m XV H':=λ{σ7 H7}I7 n7=>by obtain⟨m',hm,w7⟩:=hN σ7 H7 n7;refine⟨m',hm,i+1,σ7,H7,I7.X9,T.keep _ _ _ st5 λb hb o e=>(I7.pin (b,o)<|bP _<|bP _<|kL hb e).1,λb hb=>?_,w7⟩;obtain⟨o,e,d⟩:=T.obj _ _ st5 b hb;exact(I7.pin (b,o)<|bP _<|bP _<|kL hb e).2.1
 cases f with
 |next=>let⟨σ7,H7,I7,n7⟩:=q7;exact again I7 n7|cont=>let⟨σ7,H7,I7,n7⟩:=q7;exact again I7 n7
 |brk=>let⟨σ7,H7,I7,q7⟩:=q7;exact⟨σ7,H7,I7.X9,q7⟩|ret v=>let⟨x7,σ7,H7,I7,r7,q7⟩:=q7;exact⟨x7,σ7,H7,I7.X9,r7,q7⟩
end
abbrev R2:=V->V->Hp->VK->Prop
def oS(X:Cx)(f:Value->Value->Sem Value)(r:R2):Prop:=∀(on:jn)(s:Shared)(Y:St)(H:Hp)(x y:V)(v u:Value)(Q:VK),Inv X on Y H s->RelV x v->RelV y u->r x y H Q->gA X (f v u) (EP X on Y Q) X.xe s
def VV(X:Cx)(f:Value->Sem Value)(r:V->Hp->VK->Prop):Prop:=∀(on:jn)(s:Shared)(Y:St)(H:Hp)(x:V)(v:Value)(Q:VK),Inv X on Y H s->RelV x v->r x H Q->gA X (f v) (EP X on Y Q) X.xe s
def kG(X:Cx)(f:Value)(r:ij->Hp->VK->Prop):Prop:=∀(on:jn)(s:Shared)(Y:St)(H:Hp)(xs:ij)(us:jt)(Q:VK),Inv X on Y H s->Vals xs us->r xs H Q->gA X (call f us) (EP X on Y Q) X.xe s
def VW(X:Cx)(r:V->Hp->(Bool->Hp->Prop)->Prop):Prop:=∀(on:jn)(s:Shared)(Y:St)(H:Hp)(x:V)(v:Value)(Q:Bool->Hp->Prop),Inv X on Y H s->RelV x v->r x H Q->gA X (truthy v) (TP X on Y Q) X.xe s
def UZ(r:R2)(ta tb:TE):TE:=λY H Q=>ta Y H λx H1=>tb Y H1 λy H2=>r x y H2 Q
def Wz(r:V->Hp->VK->Prop)(ta:TE):TE:=λY H Q=>ta Y H λx H1=>r x H1 Q
def rI(C:Int->Int->Prop)(g:Int->Int->V):R2:=λx y H Q=>∃i j,x=.int i/\y=.int j/\C i j/\Q (g i j) H
def Mf(g:Int->Int->V):R2:=λx y H Q=>∃i j,x=.int i/\y=.int j/\Q (g i j) H
def rU(g:Int->V):V->Hp->VK->Prop:=λx H Q=>∃i,x=.int i/\Q (g i) H
section
variable {X:Cx}
def SW(ha:PE X a ta)(hb:PE X b tb){R:V->V->Hp->Prop}(I:Inv X on Y H s)(h:ta Y H λx H1=>tb Y H1 λy H2=>R x y H2){f:Value->Value->Sem Value}(hf:∀v u s2 x y H2,Inv X on Y H2 s2->RelV x v->RelV y u->R x y H2->gA X (f v u) Q X.xe s2):gA X (eval a X.env) (λv s₁=>gA X (eval b X.env) (λu s₂=>gA X (f v u) Q X.xe s₂) X.xe s₁) X.xe s:=by refine fD (ha on s Y H _ I h) λv s1 ⟨x,H1,I1,r1,q1⟩=>?_;refine fD (hb on s1 Y H1 _ I1 q1) λu s2 ⟨y,H2,I2,r2,q2⟩=>?_;exact hf v u s2 x y H2 I2 r1 r2 q2
def EO{r:R2}(ho:oS X (binaryOp op) r)(ha:PE X a ta)(hb:PE X b tb):PE X (.BinOp a op b pos) (UZ r ta tb):=by intro on s Y H Q I h;exact wpAny_BinOp (SW ha hb I h λv u s2 x y H2 I2 rx ry q=>ho on s2 Y H2 x y v u Q I2 rx ry q)
def T8{op:UnaryOp}{r:V->Hp->VK->Prop}(ho:VV X (unaryOp op) r)(ha:PE X a ta):PE X (.UnaryOp op a pos) (Wz r ta):=by intro on s Y H Q I h;exact UnaryOp_ (fD (ha on s Y H _ I h) λv s1 ⟨x,H1,I1,r1,q1⟩=>ho on s1 Y H1 x v Q I1 r1 q1)
def O8{f:Value->Value->Sem Value}{C:Int->Int->Prop}{g:Int->Int->Int}(rule:∀(i j:Int)(t u:Tok)(s:Shared)(Q:uA)(E:uA),C i j->Q (.int (g i j) s.toks) {s with toks:=s.toks+1}->gA X (f (.int i t)<|.int j u) Q E s):oS X f (rI C λi j=>.int<|g i j):=by intro on s Y H x y v u Q I rx ry h;obtain⟨i,j,rfl,rfl,hc,q⟩:=h;obtain⟨t,rfl⟩:=rx;obtain⟨t',rfl⟩:=ry;exact rule i j t t' s _ _ hc ⟨.int<|g i j,H,I.tok _,⟨_,rfl⟩,q⟩
def R0{f:Value->Value->Sem Value}{g:Int->Int->Int}(rule:∀(i j:Int)(t u:Tok)(s:Shared)(Q:uA)(E:uA),Q (.int (g i j) s.toks) {s with toks:=s.toks+1}->gA X (f (.int i t)<|.int j u) Q E s):oS X f (Mf λi j=>.int<|g i j):=by intro on s Y H x y v u Q I rx ry h;obtain⟨i,j,rfl,rfl,q⟩:=h;obtain⟨t,rfl⟩:=rx;obtain⟨t',rfl⟩:=ry;exact rule i j t t' s _ _ ⟨.int<|g i j,H,I.tok _,⟨_,rfl⟩,q⟩
def O9{f:Value->Value->Sem Value}{g:Int->Int->Bool}(rule:∀(i j:Int)(t u:Tok)(s:Shared)(Q:uA)(E:uA),Q (.bool<|g i j) s->gA X (f (.int i t)<|.int j u) Q E s):oS X f (Mf λi j=>.bl<|g i j):=by intro on s Y H x y v u Q I rx ry h;obtain⟨i,j,rfl,rfl,q⟩:=h;obtain⟨t,rfl⟩:=rx;obtain⟨t',rfl⟩:=ry;exact rule i j t t' s _ _ ⟨.bl<|g i j,H,I,rfl,q⟩
def N5(i j:Int):Prop:=0<=j/\j<=1000000/\i.natAbs<2 ^ 64
def GB(k:Nat):(0:Int)<=2 ^ k:=by rw[two_pow_cast];exact Int.natCast_nonneg _
def RZ:oS X (binaryOp .Add) (Mf λi j=>.int<|i+j):=R0 λ_ _ _ _ _ _ _ q=>add_int q
def RP:oS X (binaryOp .Sub) (Mf λi j=>.int<|i-j):=R0 λ_ _ _ _ _ _ _ q=>sub_int q
def RV:oS X (binaryOp .Mod) (rI (λ_ j=>0<j) λi j=>.int<|i%j):=O8 λi j _ _ _ _ _ hc q=>by exact mod_int' (by lia)<|by rwa[Int.fmod_eq_emod_of_nonneg i<|by lia]
def RU:oS X (binaryOp .Pow) (rI N5 λi j=>.int<|i ^ j.toNat):=O8 λ_ _ _ _ _ _ _ hc q=>pow_int_small hc.1 hc.2.1 hc.2.2 q
def RS:oS X (binaryOp .LShift) (rI N5 λi j=>.int<|i*2 ^ j.toNat):=O8 λ_ _ _ _ _ _ _ hc q=>lshift_int_small hc.1 hc.2.1 hc.2.2 q
def RQ:oS X (binaryOp .RShift) (rI (λ_ j=>0<=j) λi j=>.int<|i / 2 ^ j.toNat):=O8 λi j _ _ _ _ _ hc q=>rshift_int hc<|by rwa[uy i<|GB _]
def RY:oS X (binaryOp .BitAnd) (Mf λi j=>.int<|Builtin.bitAnd i j):=R0 λ_ _ _ _ _ _ _ q=>and_int q
def Wy{f:Value->Sem Value}{g:Int->Int}(rule:∀(i:Int)(t:Tok)(s:Shared)(Q:uA)(E:uA),Q (.int (g i) s.toks) {s with toks:=s.toks+1}->gA X (f<|.int i t) Q E s):VV X f (rU λi=>.int<|g i):=by intro on s Y H x v Q I rx h;obtain⟨i,rfl,q⟩:=h;obtain⟨t,rfl⟩:=rx;exact rule i t s _ _ ⟨.int<|g i,H,I.tok _,⟨_,rfl⟩,q⟩
def Ra:VV X (unaryOp .USub) (rU λi=>.int (-i)):=Wy λ_ _ _ _ _ q=>neg_int q
end
def TR:V->V->Bool
 |.Xf,.Xf=>true |.Xf,.int _=>true |.int _,.Xf=>true |.Xf,.bl _=>true |.bl _,.Xf=>true |.Xf,.str _=>true |.str _,.Xf=>true
 |.int _,.int _=>true |.bl _,.bl _=>true |.str _,.str _=>true |.Z4 _,.Z4 _=>true
 |.int _,.str _=>true |.str _,.int _=>true |.bl _,.str _=>true |.str _,.bl _=>true
 |_,_=>false
def WG:R2:=λx y H Q=>TR x y=true/\Q (.bl<|decide<|x=y) H
def WF:R2:=λx y H Q=>TR x y=true/\Q (.bl (!decide (x=y))) H
def Dk{i:Int}:decide (V.int i=V.int j)=(i==j):=by rw[AI];simp
def Nz{i:Bool}:decide (V.bl i=V.bl j)=(i==j):=by rw[AI];simp
def JH{i:Str}:decide (V.str i=V.str j)=(i==j):=by rw[AI];simp
def JI{i j:Array UInt8}:decide (V.Z4 i=V.Z4 j)=(i.toList==j.toList):=by rw[AI];cases i;cases j;simp
section
variable {X:Cx}
def eM{Q:VK}{k':Bool}(I:Inv X on Y H s)(q:Q (.bl k) H)(e:k=k':=by simp):EP X on Y Q (.bool k') s:=by subst e;exact⟨.bl k,H,I,rfl,q⟩
def Uc:oS X (compareOp .Eq) WG:=by
 intro on s Y H x y v u Q I rx ry h;obtain⟨hs,q⟩:=h;cases x with
 |Xf=>
  cases rx;cases y with
  |Xf=>cases ry;exact PySem.EqNone.eq_none_none<|eM I q
  |bl j=>cases ry;exact PySem.EqNone.eq_none_bool<|eM I q
  |int j=>obtain⟨t',rfl⟩:=ry;exact PySem.EqNone.eq_none_int<|eM I q
  |str j=>obtain⟨t',rfl⟩:=ry;exact PySem.EqNone.eq_none_str<|eM I q
  |_=>exact absurd (hs) aW
 |bl i=>
  cases rx;cases y with
  |Xf=>cases ry;exact PySem.EqNone.eq_bool_none<|eM I q
  |bl j=>cases ry;exact eq_bool<|eM I q Nz
  |str j=>obtain⟨t',rfl⟩:=ry;exact PySem.EqMixed.eq_bool_str<|eM I q
  |_=>exact absurd (hs) aW
 |int i=>
  obtain⟨t,rfl⟩:=rx;cases y with
  |Xf=>cases ry;exact PySem.EqNone.eq_int_none<|eM I q
  |int j=>obtain⟨t',rfl⟩:=ry;exact eq_int<|eM I q Dk
  |str j=>obtain⟨t',rfl⟩:=ry;exact PySem.EqMixed.eq_int_str<|eM I q
  |_=>exact absurd (hs) aW
 |str i=>
  obtain⟨t,rfl⟩:=rx;cases y with
  |Xf=>cases ry;exact PySem.EqNone.eq_str_none<|eM I q
  |bl j=>cases ry;exact PySem.EqMixed.eq_str_bool<|eM I q
  |int j=>obtain⟨t',rfl⟩:=ry;exact PySem.EqMixed.eq_str_int<|eM I q
  |str j=>obtain⟨t',rfl⟩:=ry;exact eq_str<|eM I q JH
  |_=>exact absurd (hs) aW
 |Z4 i=>
  obtain⟨t,rfl⟩:=rx;cases y with
  |Z4 j=>obtain⟨t',rfl⟩:=ry;exact eq_bytes<|eM I q JI
  |_=>exact absurd (hs) aW
 |_=>cases y<;>exact absurd (hs) aW
def T9:oS X (compareOp .NotEq) WF:=by
 intro on s Y H x y v u Q I rx ry h;obtain⟨hs,q⟩:=h;cases x with
 |Xf=>
  cases rx;cases y with
  |Xf=>cases ry;exact PySem.EqNone.ne_none_none<|eM I q
  |bl j=>cases ry;exact PySem.EqNone.ne_none_bool<|eM I q
  |int j=>obtain⟨t',rfl⟩:=ry;exact PySem.EqNone.ne_none_int<|eM I q
  |str j=>obtain⟨t',rfl⟩:=ry;exact PySem.EqNone.ne_none_str<|eM I q
  |_=>exact absurd (hs) aW
 |bl i=>
  cases rx;cases y with
  |Xf=>cases ry;exact PySem.EqNone.ne_bool_none<|eM I q
  |bl j=>cases ry;exact ne_bool<|eM I q<|bo not Nz
  |str j=>obtain⟨t',rfl⟩:=ry;exact PySem.EqMixed.ne_bool_str<|eM I q
  |_=>exact absurd (hs) aW
 |int i=>
  obtain⟨t,rfl⟩:=rx;cases y with
  |Xf=>cases ry;exact PySem.EqNone.ne_int_none<|eM I q
  |int j=>obtain⟨t',rfl⟩:=ry;exact ne_int<|eM I q<|bo not Dk
  |str j=>obtain⟨t',rfl⟩:=ry;exact PySem.EqMixed.ne_int_str<|eM I q
  |_=>exact absurd (hs) aW
 |str i=>
  obtain⟨t,rfl⟩:=rx;cases y with
  |Xf=>cases ry;exact PySem.EqNone.ne_str_none<|eM I q
  |bl j=>cases ry;exact PySem.EqMixed.ne_str_bool<|eM I q
  |int j=>obtain⟨t',rfl⟩:=ry;exact PySem.EqMixed.ne_str_int<|eM I q
  |str j=>obtain⟨t',rfl⟩:=ry;exact ne_str<|eM I q<|bo not JH
  |_=>exact absurd (hs) aW
 |Z4 i=>
  obtain⟨t,rfl⟩:=rx;cases y with
  |Z4 j=>obtain⟨t',rfl⟩:=ry;exact ne_bytes<|eM I q<|bo not JI
  |_=>exact absurd (hs) aW
 |_=>cases y<;>exact absurd (hs) aW
def IR:oS X (compareOp .Lt) (Mf λi j=>.bl<|decide<|i<j):=O9 λ_ _ _ _ _ _ _ q=>lt_int q
def Ua:oS X (compareOp .LtE) (Mf λi j=>.bl<|decide<|i<=j):=O9 λ_ _ _ _ _ _ _ q=>le_int q
def QQ:oS X (compareOp .Gt) (Mf λi j=>.bl<|decide<|j<i):=O9 λ_ _ _ _ _ _ _ q=>gt_int q
def Ub:oS X (compareOp .GtE) (Mf λi j=>.bl<|decide<|j<=i):=O9 λ_ _ _ _ _ _ _ q=>ge_int q
def RW:oS X (compareOp .Is) (λx y H Q=>y=.Xf/\Q (.bl<|decide<|x=.Xf) H):=by
 intro on s Y H x y v u Q I rx ry h;obtain⟨rfl,q⟩:=h;cases ry;refine is_none_gen<|eM I q ?_;cases x<;>first
  |(cases rx;rfl)|(obtain⟨t,rfl⟩:=rx;rfl)
def IQ:oS X (compareOp .IsNot) (λx y H Q=>y=.Xf/\Q (.bl (!decide (x=.Xf))) H):=by
 intro on s Y H x y v u Q I rx ry h;obtain⟨rfl,q⟩:=h;cases ry;refine isnot_none_gen<|eM I q ?_;cases x<;>first
  |(cases rx;rfl)|(obtain⟨t,rfl⟩:=rx;rfl)
def Um:HO->Bool
 |.lst _=>true|.ins _ _ _=>true
 |_=>false
def BQ{a:Addr}(I:Inv X on Y H s)(h:H a=some o)(p:Um o=true):∃ob,s.heap.get? a=some ob/\ob.cls≠.type "tuple":=by
 cases o with
 |lst xs=>obtain⟨_,its,n,_,e⟩:xs.length<=sizeLine/\∃its n,Vals xs its/\s.heap.get? a=some {cls:=.type "list",data:=.seq its.toArray n}:=I.Xg a _ h;exact⟨_,e,(by show Value.type "list"≠.type "tuple";decide)⟩
 |ins C dx fs=>have x:=I.Xg a _ h;obtain⟨_,_,_,e,_⟩:=x;exact⟨_,e,(by exactλz=>by cases z)⟩|_=>exact absurd (p) aW
def VF(b:Expr){op:CmpOp}(h:op≠.In:=by decide)(h2:op≠.NotIn:=by decide):behindInMarks op b=false:=by
 have e1:(op==CmpOp.In)=false:=by cases op<;>first |rfl |exact absurd rfl h
 have e2:(op==CmpOp.NotIn)=false:=by cases op<;>first |rfl |exact absurd rfl h2
 cases b<;>simp[behindInMarks,e1,e2]
def CK{op:CmpOp}{r:R2}(ho:oS X (compareOp op) r)(ha:PE X a ta)(hb:PE X b tb)(hm:behindInMarks op b=false):PE X (.Compare a [op] [b] pos) (UZ r ta tb):=by intro on s Y H Q I h;exact wpAny_Compare1 (SW ha hb I h λv u s2 x y H2 I2 rx ry q=>ho on s2 Y H2 x y v u Q I2 rx ry q) hm
def QD(t:TE):TT:=λY H Q=>t Y H λx H'=>∃k,x=.bl k/\Q k H'
def xO{op:CmpOp}{r:R2}(ho:oS X (compareOp op) r)(ha:PE X a ta)(hb:PE X b tb)(hm:behindInMarks op b=false):PT X (.Compare a [op] [b] pos) (QD<|UZ r ta tb):=by intro on s Y H Q I h;refine wpAny_isTrue_Compare1 (fD (ha on s Y H _ I h) λv s1 ⟨x,H1,I1,r1,q1⟩=>fD (hb on s1 Y H1 _ I1 q1) λu s2 ⟨y,H2,I2,r2,q2⟩=>fD (ho on s2 Y H2 x y v u _ I2 r1 r2 q2) λc s3 ⟨z,H3,I3,r3,k,e,q3⟩=>?_) hm;subst e;cases r3;exact ik ⟨H3,I3,q3⟩
def Rj(r r':R2)(ta tb tc:TE):TE:=λY H Q=>ta Y H λx H1=>tb Y H1 λy H2=>r x y H2 λz H3=>∃k,z=.bl k/\(if k=true then tc Y H3 λw' H4=>r' y w' H4 Q else Q (.bl false) H3)
def Mo{op op':CmpOp}{r r':R2}(ho:oS X (compareOp op) r)(ho':oS X (compareOp op') r')(ha:PE X a ta)(hb:PE X b tb)(hc:PE X c tc)(hm:lastMarks [op,op'] [b,c]=false:=by with_unfolding_all rfl):PT X (.Compare a [op,op'] [b,c] pos) (QD<|Rj r r' ta tb tc):=by
 intro on s Y H Q I h;refine isTrue_chain (fD (ha on s Y H _ I h) λv s1 ⟨x,H1,I1,r1,q1⟩=>test_link (fD (hb on s1 Y H1 _ I1 q1) λu s2 ⟨y,H2,I2,r2,q2⟩=>fD (ho on s2 Y H2 x y v u _ I2 r1 r2 q2) λd s3 ⟨z,H3,I3,r3,k,e,q3⟩=>?_)) hm;subst e;cases r3;refine ik ?_;cases k with
 |false=>let⟨k',e',q'⟩:=q3;cases e';exact ite_ff ⟨H3,I3,q'⟩
 |true=>refine ite_tt<|test_last (fD (hc on s3 Y H3 _ I3 q3) λw' s4 ⟨z',H4,I4,r4,q4⟩=>fD (ho' on s4 Y H4 y z' u w' _ I4 r2 r4 q4) λd' s5 ⟨z2,H5,I5,r5,k2,e2,q5⟩=>?_);subst e2;cases r5;exact ik ⟨H5,I5,q5⟩
def UE(K:gS)(x:V)(H:Hp)(k:Bool):Prop:=match x with
 |.Xf=>k=false|.bl b=>k=b
 |.int i=>k=(i !=0)|.str y=>y.length<=sizeLine/\k=((y.length:Int) !=0)
 |.Z4 y=>y.size<=sizeLine/\k=((y.size:Int) !=0)|.ref p=>(∃xs,XU K H p xs/\k= !xs.isEmpty)\/(∃xs,X1 K H p xs/\k= !xs.isEmpty)\/∃kvs,H p=some (.dK kvs)/\k= !kvs.isEmpty
 |_=>False
def Hr{κ:Type}{kvs:List (κ×V)}{vs:List (κ×Value)}(r:KV kvs vs):(!vs.isEmpty)= !kvs.isEmpty:=by cases r<;>rfl
def zm(r:Vals xs its):(!its.toArray.isEmpty)= !xs.isEmpty:=by cases r<;>simp
def tZ:(sizeLine:Nat)<2 ^ 63:=by rw[fR];decide
def Rb:VW X (λx H Q=>∃k,UE X.K x H k/\Q k H):=by
 intro on s Y H x v Q I rx h;obtain⟨k,e,q⟩:=h;have hs:sizeLine=16777216:=fR;cases x with
 |Xf=>cases rx;have e':=e;subst e';exact truthy_none ⟨H,I,q⟩
 |bl b=>cases rx;have e':=e;subst e';exact ik ⟨H,I,q⟩
 |int i=>obtain⟨t,rfl⟩:=rx;have e':=e;subst e';exact PySem.P.truthy_int ⟨H,I,q⟩
 |str y=>obtain⟨t,rfl⟩:=rx;obtain⟨hy,e'⟩:y.length<=sizeLine/\k=((y.length:Int) !=0):=e;subst e';exact PySem.P.truthy_str (by lia) ⟨H,I.tok _,q⟩
 |Z4 y=>obtain⟨t,rfl⟩:=rx;obtain⟨hy,e'⟩:y.size<=sizeLine/\k=((y.size:Int) !=0):=e;subst e';exact truthy_bytes (by lia) ⟨H,I.tok _,q⟩
 |ref p=>cases rx;have e':=e;rcases e' with⟨xs,hx,e'⟩ |⟨xs,hx,e'⟩ |⟨kvs,hx,e'⟩;subst e';obtain⟨its,r,pl,hz⟩:=I.list hx;have hlen:=r.length;exact wpAny_truthy_list pl.isList (by simp;lia) ⟨H,I.tok _,by rwa[zm r]⟩;subst e';obtain⟨its,r,pl,hz⟩:=I.tuple hx;have hlen:=r.length;exact truthy_tuple pl (by simp;lia) ⟨H,I.tok _,by rwa[zm r]⟩;subst e';obtain⟨hz,hS,vs,r,m⟩:kvs.length<=sizeLine/\(p==sysModules)=false/\∃vs,KV kvs vs/\s.heap.DictOf (CQ X.prog X.w) p vs:=I.Xg p _ hx;have hlen:kvs.length=vs.length:=Paired.length r;exact wpAny_truthy_dict hS m (by lia) ⟨H,I.tok _,by rwa[Hr r]⟩
 |_=>exact(e).elim
def Mn(ha:PE X a ta)(he:∀whole,isTrue a X.env whole=(do let v <-whole;standAt a.pos;holding [v] (truthy v))):PT X a (λY H Q=>ta Y H λx H'=>∃k,UE X.K x H' k/\Q k H'):=by intro on s Y H Q I h;exact isTrue_plain (fD (ha on s Y H _ I h) λv s1 ⟨x,H1,I1,r1,q1⟩=>Rb on s1 Y H1 x v Q I1 r1 q1)<|he _
def oz(r:Vals [x] us):∃u,us=[u]/\RelV x u:=by cases r with|cons r1 r2=>cases r2;exact⟨_,rfl,r1⟩
def D6(r:Vals [x,y] us):∃u w',us=[u,w']/\RelV x u/\RelV y w':=by cases r with|cons r1 r2=>cases r2 with|cons r3 r4=>cases r4;exact⟨_,_,rfl,r1,r3⟩
def NK:kG X (.builtin "abs") (λxs H Q=>∃i,xs=[.int i]/\Q (.int (if i<0 then-i else i)) H):=by intro on s Y H xs us Q I r h;obtain⟨i,rfl,q⟩:=h;obtain⟨u,rfl,t,rfl⟩:=oz r;exact call_abs_int λu tk=>⟨.int (if i<0 then-i else i),H,I.tok _,⟨_,rfl⟩,q⟩
def KQ(hc:X.calm=true):kG X (.builtin "max") (λxs H Q=>∃i j,xs=[.int i,.int j]/\Q (.int (if j>i then j else i)) H):=by intro on s Y H xs us Q I r h;obtain⟨i,j,rfl,q⟩:=h;obtain⟨u,w',rfl,⟨t,rfl⟩,⟨t',rfl⟩⟩:=D6 r;refine max_two_ints (I.ok.hd hc) λh' tk k=>⟨_,H,I.kept k,?_,q⟩;by_cases hj:j>i;rw[ag hj,ag hj];exact⟨_,rfl⟩;rw[af hj,af hj];exact⟨_,rfl⟩
def KR:kG X (.type "int") (λxs H Q=>(∃i,xs=[.int i]/\Q (.int i) H)\/∃k,xs=[.bl k]/\Q (.int (if k then 1 else 0)) H):=by intro on s Y H xs us Q I r h;rcases h with⟨i,rfl,q⟩ |⟨k,rfl,q⟩;obtain⟨u,rfl,t,rfl⟩:=oz r;exact call_int_int ⟨.int i,H,I,⟨_,rfl⟩,q⟩;obtain⟨u,rfl,r1⟩:=oz r;cases r1;exact call_int_bool ⟨.int (if k then 1 else 0),H,I.tok _,⟨_,rfl⟩,q⟩
end
structure zDB(h:Heap)(x dx C:Addr)(mA:AE):Prop where
 obj:h.get? x=some (instObj C dx)
 ns:h.Ns1 dx mA
 ne:dx≠x
def Ks{h:Heap}(n:h.Ns1 dx mA):∃od,h.get? dx=some od/\∀name,lookIn name od=some (mA name):=by
 obtain⟨o,es,ep,ho,hd,hk,_,hm⟩:=n;refine⟨o,ho,λname=>?_⟩;have e:=hm name;unfold nsFind findBy at e;rw[<-Array.find?_toList]at e;unfold lookIn;rw[hd];dsimp only;split;rename_i y q;rw[q]at e;exact bo some e;rename_i q;rw[q]at e;have a:es.toList.any (·.refKey)=false:=by rw[List.any_eq_false];intro y hy;obtain⟨z,t,zHK⟩:=hk y<|D1.mp hy;simp[DictEntry.refKey,zHK]
 have a':¬es.toList.any (·.refKey)=true:=by rw[a];exact aW
 rw[af a'];exact bo some e
def zDB.look{C:Addr}(I:zDB h x dx C mA):∃od,PySem.W.InstAt h x (instObj C dx) C (some od)/\∀name,lookIn name od=some (mA name):=
 let⟨od,ho,hl⟩:=Ks I.ns
 ⟨od,⟨I.obj,rfl,rfl,ho⟩,hl⟩
section
variable {C:Addr}{fs fs':List (Str×V)}
def pH{a:Addr}(Xg:YH P w H h)(e:H a=some (.ins C dx fs)):∃mA,zDB h a dx C mA/\(∀f,S6 (fs.lookup f)<|mA f)/\PySem.Within mA (fs.map (·.1))/\fs.length<=1000/\H dx=some (.own a):=by obtain⟨d,z,ne,ob,mA,n,r,q⟩:=(Xg a _ e);exact⟨mA,⟨ob,n,ne⟩,r,q,z,d⟩
end
structure Cls(K:gS)(C:Addr):Prop where
 pg:plainGet K C Str.empty=true
 hd:hasDictIn K C=true
 po:plainOver K C=true
 sa:findIn K (.ref C) "__setattr__"=some (some<|.builtin "object.__setattr__")
def Cls.get{C:Addr}(c:Cls K C)(f:Str):plainGet K C f=true:=c.pg
section
variable {X:Cx}
inductive wD(K:gS)(H:Hp):V->Value->Prop where
 |Xf:wD K H .Xf (.type "NoneType")
 |bl (x:Bool):wD K H (.bl x) (.type "bool")
 |int (i:Int):wD K H (.int i) (.type "int")
 |str (x:Str):wD K H (.str x) (.type "str")
 |flt (x:UInt64):wD K H (.flt x) (.type "float")
 |lst {a:Addr} {xs:ij} (e:H a=some (.lst xs)):wD K H (.ref a) (.type "list")
 |Ym {a:Addr} {o:Obj} {xs:ij} (e:H a=some (.Ym o<|.lst xs)):wD K H (.ref a) (.type "list")
 |tup {a:Addr} {xs:ij} (e:H a=some (.tup xs)):wD K H (.ref a) (.type "tuple")
 |dK {a:Addr} {kvs:List (D3×V)} (e:H a=some (.dK kvs)):wD K H (.ref a) (.type "dict")
 |dT {a:Addr} {kvs:List (List D3×V)} (e:H a=some (.dT kvs)):wD K H (.ref a) (.type "dict")
 |ins {a C dx:Addr} {fs:List (Str×V)} (e:H a=some (.ins C dx fs)) (cl:Cls K C) (ha:findIn K (.ref C) "__class__"=some (some<|.builtin "object.__class__"))
   (hn:specialIn K (.builtin "object.__class__") "__get__"=some (some<|.builtin "getset_descriptor.__get__")) (htk:takesIn K (.builtin "object.__class__")=some true)
   (hm:mroIn K C (.type "object")=some true):wD K H (.ref a) (.ref C)
def KA{Q:uA}{c:Value}(I:Inv X on Y H s)(rx:RelV x u)(ty:wD X.K H x t)(e:kitOne X.K t c=some b)(h:∀tk,Q (.bool b) {s with toks:=tk}):wpAny (model X.prog X.w) A (call (.builtin "isinstance") [u,c]) Q E s:=by
 cases ty with
 |Xf=>cases(rx);exact eT kitx_none I.Zf True.intro e (λz=>nomatch z) h
 |bl y=>cases(rx);exact eT kitx_bool I.Zf True.intro e (λz=>nomatch z) h
 |int i=>let⟨t,q⟩:=(rx);cases q;exact eT kitx_int I.Zf True.intro e (λz=>nomatch z) h
 |str y=>let⟨t,q⟩:=(rx);cases q;exact eT kitx_str I.Zf True.intro e (λz=>nomatch z) h
 |flt y=>let⟨t,q⟩:=(rx);cases q;exact eT kitx_float I.Zf True.intro e (λz=>nomatch z) h
 |@lst a xs ea=>cases(rx);obtain⟨_,_,n,_,h1⟩:=(I.Xg a _ ea);exact eT kitx_list I.Zf ⟨_,h1,rfl⟩ e (λz=>nomatch z) h
 |@Ym a ob xs ea=>cases(rx);obtain⟨_,_,_,n,_,h1⟩:=(I.Xg a _ ea);exact eT kitx_list I.Zf ⟨_,h1,rfl⟩ e (λz=>nomatch z) h
 |@tup a xs ea=>cases(rx);obtain⟨_,_,_,p⟩:=(I.Xg a _ ea);obtain⟨o,h1,h2,_⟩:=p;exact eT kitx_tuple I.Zf ⟨o,h1,h2⟩ e (λz=>nomatch z) h
 |@dK a kvs ea=>cases(rx);obtain⟨_,_,vs,_,p⟩:=(I.Xg a _ ea);obtain⟨o,es,ep,h1,h2,_⟩:=p;exact eT K9 I.Zf ⟨o,h1,h2.1⟩ e (λz=>nomatch z) h
 |@dT a kvs ea=>cases(rx);obtain⟨_,_,xs,_,o,es,ep,h1,h2,_⟩:=(I.Xg a _ ea);exact eT K9 I.Zf ⟨o,h1,h2.1⟩ e (λz=>nomatch z) h
 |@ins a C dx fs ea cl ha hn htk hm=>cases(rx);obtain⟨mA,O,_⟩:=pH I.Xg ea;obtain⟨od,J,_⟩:=O.look;exact eT (kitx_own (cl.get _) cl.hd ha hn htk hm) I.Zf J e (λz=>nomatch z) h
end
structure XN(k:Nat)(A:Around):Prop where
 hd:A.handled=none
 dp:A.depth+k+105<recursionLimit
 un:A.units+16*k+200<cLine
def XN.mono{j:Nat}(r:XN k A)(h:j<=k):XN j A:=⟨r.hd,by have:=r.dp;lia,by have:=r.un;lia⟩
def XN.deeper{k:Nat}(r:XN (k+1) A)(env:Env):XN k (A.deeper env):=⟨r.hd,by have:=r.dp;show A.depth+1+k+105<_;lia,by have:=r.un;show A.units+3+16*k+200<_;lia⟩
def XN.ZT(r:XN k A):A.depth+100<recursionLimit:=by have:=r.dp;lia
def XN.depth(r:XN k A):A.depth<recursionLimit:=by have:=r.dp;lia
def XN.units(r:XN k A):A.units+64<cLine:=by have:=r.un;lia
def Vq:TA:=λ_ H Q=>Q [] H
def TF(ta:TE)(tr:TA):TA:=λY H Q=>ta Y H λx H1=>tr Y H1 λxs H2=>Q (x::xs) H2
section
variable {X:Cx}
def gh:PA X [] Vq:=λ_ _ _ _ H Q I h=>Calls.spliced_nil ⟨[],H,I,.nil,h⟩
def dH(ha:PE X e te)(hr:PA X es t)(hs:Ii e es X.env:=by rfl):PA X (e::es) (TF te t):=by intro pos on s Y H Q I h;rw[hs];refine Calls.spliced_cons (fD (ha on s Y H _ I h) λu s1 ⟨x,H1,I1,r1,q1⟩=>?_);exact fD (hr pos on s1 Y H1 _ I1 q1) λus s2 ⟨xs,H2,I2,r2,q2⟩=>⟨x::xs,H2,I2,.cons r1 r2,q2⟩
def Vl(t:TA):TE:=λY H Q=>t Y H λxs H1=>xs.length<=sizeLine/\∀p,H1 p=none->Q (.ref p) (fN H1 p<|.tup xs)
def Vr(t:TA):TE:=λY H Q=>t Y H λxs H1=>xs.length<=sizeLine/\∀p,H1 p=none->Q (.ref p) (fN H1 p<|.lst xs)
def RI{x1}(h:PA X es t):PE X (.Tuple es x1 pos) (Vl t):=by intro on s Y H Q I hq;refine wpAny_Tuple_spliced (fD (h pos on s Y H _ I hq) λus s1 ⟨xs,H1,I1,r,z,q⟩=>⟨by rwa[<-r.length],?_⟩);have hf:=I1.Xg.fresh<|ao _;refine⟨.ref s1.heap.objs.size,fN H1 s1.heap.objs.size<|.tup xs,I1.laid (λb u e=>aE _ e) (ao _) ?_,rfl,q _ hf⟩;exact⟨z,us,r,⟨_,a7 _ rfl,rfl,_,rfl⟩⟩
def RL(h:PA X es t):PE X (.List es pos) (Vr t):=by intro on s Y H Q I hq;refine wpAny_List_spliced (fD (h pos on s Y H _ I hq) λus s1 ⟨xs,H1,I1,r,z,q⟩=>⟨by rwa[<-r.length],?_⟩);have hf:=I1.Xg.fresh<|ao _;refine⟨.ref s1.heap.objs.size,fN H1 s1.heap.objs.size<|.lst xs,I1.laid (λb u e=>aE _ e) (ao _) ?_,rfl,q _ hf⟩;exact⟨z,us,0,r,a7 _ rfl⟩
end
abbrev Sp:=ij->Hp->VK->XK->Prop
abbrev Tt:=List Env->Hp->Shared->XK->Value->Shared->Prop
structure Qp(P:Program)(w:World)(K:gS)(mg:AE)(base:Heap)(A:Around)(outer:List Env)(s:Shared)(H:Hp):Prop where
 frames:A.frames=some outer
 mod:Mod K mg base
 bs:∀b o,base.get? b=some o->s.heap.get? b=some o/\H b=none
 bsz:base.objs.size<=s.heap.objs.size
 YT:s.heap.FunFrames base outer
 frf:∀b∈Gq outer,H b=none
 Xg:YH P w H s.heap
 bare:AllBare s.gens
def CE(outer:List Env)(P:Program)(w:World)(H:Hp)(s:Shared)(Q:VK)(u:Value)(s':Shared):Prop:=∃v H',s'.os=s.os/\AllBare s'.gens/\Un (Gq outer) [] H H' s.heap s'.heap/\YH P w H' s'.heap/\RelV v u/\Q v H'
def CR(CX:Tt)(outer:List Env)(P:Program)(w:World)(H:Hp)(s:Shared)(Q:VK)(E:XK)(r:Result)(s':Shared):Prop:=match r with
 |.ok (.ret u)=>CE outer P w H s Q u s'|.ok _=>False
 |.error e=>CX outer H s E e s'
structure mw(P:Program)(w:World)(K:gS)(mg:AE)(base:Heap)(CX:Tt)(k:Nat)(f:Addr)(fd:FuncData)(ps:fV)(sp:Sp):Prop where
 len:∀vs H Q E,sp vs H Q E->vs.length=ps.length
 run:∀(A:Around)(outer:List Env)(s:Shared)(H:Hp)(args:Args)(us:jt)(vs:ij)(Q:VK)(E:XK),XN k A->Qp P w K mg base A outer s H->BindsTo s fd args (ps.zip us)->Vals vs us->sp vs H Q E->
  codeAny (model P w) A (.call (.ref f) args) (CR CX outer P w H s Q E) s
section
variable {X:Cx}
def Inv.zH0(I:Inv X on Y H s):Qp X.prog X.w X.K X.mg X.base X.A X.stack s H:=⟨I.ok.frames,I.ok.mod,I.bs,aL I.ok.bsz I.sz,I.stack,I.ZO,I.Xg,I.bare⟩
def Inv.after(I:Inv X on Y H s)(h:CE X.stack X.prog X.w H s Q u s'):EP X on Y Q u s':=by obtain⟨v,H',os,bare,un,Xg,r,q⟩:=h;obtain⟨hh,g,d,t,os'⟩:=s';obtain rfl:os'=s.os:=os;exact⟨v,H',I.call un Xg bare λb z=>absurd z<|by simp,r,q⟩
end
def TH(sp:Sp)(dvs:ij)(E:XK)(t:TA):TE:=λY H Q=>t Y H λvs H1=>sp (vs++dvs) H1 Q E
def Binds(K:gS)(fd:FuncData)(ps:fV)(ds:jt):Prop:=∀(s:Shared)(us:jt),K.In s.heap->(us++ds).length=ps.length->BindsTo s fd ⟨us,[]⟩ (ps.zip<|us++ds)
def Binds.all{ps:fV}(h:∀us:jt,us.length=ps.length->bindArgs fd ⟨us,[]⟩=pure (ps.zip us)):Binds K fd ps []:=λs us _ hl=>by rw[dq]at hl ⊢;exact .of_eq<|h us hl
def rC(CX:Tt)(X:Cx)(E:XK):Prop:=∀(on:jn)(Y:St)(H:Hp)(s:Shared)(e:Value)(s':Shared),Inv X on Y H s->CX X.stack H s E e s'->X.xe e s'
section
variable {X:Cx}{C:Addr}{ps:fV}{ds:jt}{E:XK}
def Ru(F:mw X.prog X.w X.K X.mg X.base CX k f fd ps sp)(hr:XN k X.A)(hb:Binds X.K fd ps ds)(hd:Vals dvs ds)(hx:rC CX X E)(I:Inv X on Y H s)(r:Vals vs us)(h:sp (vs++dvs) H Q E):gA X (call (.ref f) us) (EP X on Y Q) X.xe s:=by
 have r2:=r.append hd;have hl:(us++ds).length=ps.length:=by rw[<-r2.length];exact F.len _ _ _ _ h
 refine wpAny_call (Tf (F.run X.A X.stack s H ⟨us,[]⟩ (us++ds) (vs++dvs) Q E hr I.zH0 (hb s us I.Zf hl) r2 h) λr s' hq=>?_);cases r with
 |error e=>exact hx on Y H s e s' I hq
 |ok fl=>
  cases fl with
  |ret u=>exact I.after hq|next=>exact False.elim hq
  |brk=>exact False.elim hq|cont=>exact False.elim hq
def vc(F:mw X.prog X.w X.K X.mg X.base CX k f fd ps sp)(hr:XN k X.A)(hg:Gl X x)(hm:X.mg x=some (.ref f))(hk:keepIn X.K (.ref f)=true)(hb:Binds X.K fd ps ds)(hd:Vals dvs ds)(hx:rC CX X E)(ha:PA X (e::es) t)(Zk:D2 x:=by decide)(he:Ii e es X.env:=by rfl)(Zv:JT pos es X.env:=by rfl):PE X (.Call (.Name x p) (e::es) [] pos) (TH sp dvs E t):=by intro on s Y H Q I h;refine Qq<|Jk I hg hm ?_ Zk;refine callWith_K I.ok.mod.kin hk (fD (ha pos on s Y H _ I h) λus s1 ⟨vs,H1,I1,r,q⟩=>⟨I1.Zf,?_⟩) he Zv;exact Ru F hr hb hd hx I1 r q
end
structure bx(N P:fV)(sc:Scope):Prop where
 kind:sc.kind=.function
 co:sc.isCoroutine=false
 gen:sc.isGenerator=false
 nd:N.Nodup
 pre:N.take P.length=P
 par:∀x∈P,sc.names.lookup x=some .local\/sc.names.lookup x=some .cell
 zCQ:∀y∈sc.names,y.2≠.free
theorem B9{kindOf:Str->Option NameKind}:∀{binds:List (Str×Value)}{m:AE},(∀v,(x,v)∉binds)->bindL kindOf binds m x=m x
 |[],_,_=>rfl
 |(n,v)::r,m,h=>by
  unfold bindL;rw[B9 λw hw=>h w<|aC _ hw];split;have:x≠n:=by rintro rfl;exact h v aN
  simp[this];rfl
theorem Cb{kindOf:Str->Option NameKind}:∀{binds:List (Str×Value)}{m:AE},(∀v,(x,v)∉binds)->bindC kindOf binds m x=m x
 |[],_,_=>rfl
 |(n,v)::r,m,h=>by
  unfold bindC;rw[Cb λw hw=>h w<|aC _ hw];split;rfl;have:x≠n:=by rintro rfl;exact h v aN
  simp[this]
theorem Ca{kindOf:Str->Option NameKind}:∀{P:fV}{vs:jt}{i:Nat}{m:AE},P.Nodup->P[i]?=some x->vs[i]?=some v->kindOf x=some .local->bindL kindOf (P.zip vs) m x=some v
 |[],_,_,_,_,h,_,_=>by simp at h|_::_,[],_,_,_,_,h,_=>by simp at h
 |p::P,w::vs,0,m,nd,h1,h2,hk=>by simp at h1 h2;subst h1;subst h2;show bindL kindOf ((p,w)::P.zip vs) m p=_;unfold bindL;rw[B9 λv hv=>(iL.mp nd).1 (Qs hv).1,ag hk];simp|p::P,w::vs,i+1,m,nd,h1,h2,hk=>by unfold bindL;exact Ca (iL.mp nd).2 h1 h2 hk
theorem Cd{kindOf:Str->Option NameKind}:∀{P:fV}{vs:jt}{i:Nat}{m:AE},P.Nodup->P[i]?=some x->vs[i]?=some v->kindOf x≠some .local->bindC kindOf (P.zip vs) m x=some v
 |[],_,_,_,_,h,_,_=>by simp at h|_::_,[],_,_,_,_,h,_=>by simp at h
 |p::P,w::vs,0,m,nd,h1,h2,hk=>by simp at h1 h2;subst h1;subst h2;show bindC kindOf ((p,w)::P.zip vs) m p=_;unfold bindC;rw[Cb λv hv=>(iL.mp nd).1 (Qs hv).1,af hk];simp|p::P,w::vs,i+1,m,nd,h1,h2,hk=>by unfold bindC;exact Cd (iL.mp nd).2 h1 h2 hk
def start(N:fV)(vs:ij):St:=vs.map some++List.replicate (N.length-vs.length) none
def A6(CX:Tt)(P:Program)(w:World)(K:gS)(mg:AE)(base:Heap)(N:fV)(qual:Str)(scope:Scope)(f:Addr)(cd:Value)(A:Around)(outer:List Env)(s:Shared)(H:Hp)(E:XK):Cx where
 prog:=P
 w:=w
 K:=K
 mg:=mg
 base:=base
 A:=A.deeper<|envOfC qual scope s.heap.objs.size f cd
 N:=N
 s₀:=s
 H₀:=H
 env:=envOfC qual scope s.heap.objs.size f cd
 outer:=outer
 stack:=envOfC qual scope s.heap.objs.size f cd::outer
 ex:=[]
 calm:=true
 fn:=λ_=>true
 pn:=[]
 xe:=λe s'=>wpAny (model P w) (A.deeper<|envOfC qual scope s.heap.objs.size f cd) (leaving (envOfC qual scope s.heap.objs.size f cd) e) (λ_ ZX=>CX outer H s E e ZX) (λe' ZX=>CX outer H s E e' ZX) s'
def FJ{sc:Scope}{x:Str}(h:sc.names.lookup x=some .cell):∃c,(cellsFrom n sc.names []).lookup x=some c:=by have q:=V8 sc.names n []<|.inl h;exact Option.isSome_iff_exists.mp q
def KC{ps:fV}{A:Around}{vs:ij}{outer:List Env}{E:XK}(S:bx N ps scope)(hd:A.handled=none)(e0:Qp P w K mg base A outer s H)(hl:vs.length=ps.length)(r:Vals vs us)(x:InCallC s s.heap.objs.size (bindL (envOfC qual scope s.heap.objs.size f cd).kindOf (ps.zip us) λ_=>none) (cellsFrom (s.heap.objs.size+1) scope.names []) (bindC (envOfC qual scope s.heap.objs.size f cd).kindOf (ps.zip us) λ_=>none) s1):Inv (A6 CX P w K mg base N qual scope f cd A outer s H E) [] (start N vs) H s1:=by
 have Zv:ps.length<=N.length:=by have:=bo List.length S.pre;rw[cX]at this;lia
 obtain⟨h1,tk,rfl,hk⟩:=x.done;have noA:∀b:Addr,b∉(A6 CX P w K mg base N qual scope f cd A outer s H E).ex:=λb z=>absurd (show b∈[]from z)<|by simp
 refine⟨⟨e0.mod,S.kind,rfl,rfl,ao _,λy z c h1 h2=>?_,λy hy=>?_,λy c _ h=>?_,λ_=>hd,Around.frames_deeper e0.frames,.inr ⟨rfl,rfl⟩,λb z=>absurd z<|noA b,e0.bs,e0.bsz,λb _ _=>noA b,λb z=>absurd z<|noA b,e0.YT,e0.frf⟩,
  rfl,e0.bare,Un.kept hk,⟨_,x.toInCall.ns,λi y v h1 h2 h3=>?_⟩,λy c h=>⟨_,x.cell y c h⟩,e0.Xg.fresh (ao _),λy c h=>?_,λp hp=>absurd (show p∈([]:jn)from hp) (by simp),e0.Xg.kept hk,?_⟩
 exact name_of_addr x.apart (jf h1)<|jf h2;have hy:=hy;rcases hy with hy |hy;exact FJ hy;exact absurd rfl<|S.zCQ _<|jf hy;exact Ax<|x.above y c<|jf h;have hi:i<vs.length:=by unfold start at h2;by_cases hi:i<vs.length;exact hi;rw[aQ<|by simpa using hi]at h2;rw[dD]at h2;split at h2<;>cases h2
 have ha:vs[i]?=some v:=by
  unfold start at h2;rw[a8<|by simpa using hi,aw]at h2;cases e:vs[i]? with
  |none=>rw[e]at h2;cases h2
  |some a=>rw[e]at h2;cases h2;rfl
 obtain⟨u,hu,rv⟩:=r.get ha;have hp:ps[i]?=some y:=by rwa[<-S.pre,List.getElem?_take_of_lt<|by lia]
 have ndP:ps.Nodup:=by rw[<-S.pre];exact S.nd.sublist<|List.take_sublist _ _
 refine⟨u,rv,?_⟩;rcases S.par y (bV hp)with k |k;exact .inl ⟨k,Ca ndP hp hu k⟩;obtain⟨c,e⟩:=FJ (n:=s.heap.objs.size+1) k;refine .inr ⟨.inl k,c,e,?_⟩;have q:=x.cell y c e;rw[Cd ndP hp hu<|by show scope.names.lookup y≠_;rw[k];decide]at q;exact q;exact e0.Xg.fresh<|Ax<|x.above y c<|jf h;unfold start;show _=N.length;rw[aA,ab,bW];lia
def Uu{f:Addr}{name qual:Str}{body:List Stmt}{scope:Scope}{dV kV doc pm XR ct:Value}{an:Option Addr}{ps:fV}{sp:Sp}{params:Arguments}(lk:K.lookup f=some ⟨oc,od,.func<|fnOf name qual params body scope dV kV doc pm an XR ct,osl⟩)(hcd:codeIn K XR qual=true)(S:bx N ps scope)(len:∀vs H Q E,sp vs H Q E->vs.length=ps.length)(zA1:∀(A:Around)(outer:List Env)(s:Shared)(H:Hp)(vs:ij)(Q:VK)(E:XK),XN k (A.deeper<|envOfC qual scope s.heap.objs.size f XR)->sp vs H Q E->∃t,ZJ (A6 CX P w K mg base N qual scope f XR A outer s H E) body t/\t {nx:=λ_ H'=>Q .Xf H',rt:=Q} (start N vs) H):mw P w K mg base CX (k+1) f (fnOf name qual params body scope dV kV doc pm an XR ct) ps sp:=by
 refine⟨len,λA outer s H args us vs Q E hr e0 hb r hsp=>?_⟩;have hl:=len _ _ _ _ hsp;have KX:=e0.mod.kin.keeps λb o e=>(e0.bs b o e).1;have lim:=e0.mod.nolimit.keeps λb o e=>(e0.bs b o e).1;have zEK:∀y∈ps.zip us,scope.names.lookup y.1=some .local\/(scope.names.lookup y.1=some .cell/\((cellsFrom (s.heap.objs.size+1) scope.names []).lookup y.1).isSome=true):=λ⟨n,v⟩ hy=>by rcases S.par n (Qs hy).1 with q |q;exact .inl q;exact .inr ⟨q,V8 _ _ _<|.inl q⟩
 refine codeAny_call_function hr.depth (KX _ _ lk) rfl S.co S.gen rfl (codeRec_of KX hcd)<|hb _ _ _ _ ?_;refine wpAny_newFunctionEnv_cells S.kind zEK λenv he s1 x=>?_;subst he;refine⟨lim.keeps x.toInCall.keep,codeAny_func ?_⟩;obtain⟨t,ht,hq⟩:=zA1 A outer s H vs Q E (hr.deeper _) hsp;have I:Inv (A6 CX P w K mg base N qual scope f XR A outer s H E) [] (start N vs) H s1:=KC S hr.hd e0 hl r x;refine cw (ht [] s1 (start N vs) H _ I hq) (λfl s' hs=>?_) λe s' hs=>hs;have fin:∀{XV:St}{H':Hp}{v:V}{u:Value},Inv (A6 CX P w K mg base N qual scope f XR A outer s H E) [] XV H' s'->RelV v u->Q v H'->CE outer P w H s Q u s':=λ{XV H' v u}J rv q=>⟨v,H',J.os,J.bare,J.base,J.Xg,rv,q⟩;cases fl with
 |ret u=>let⟨v,XV,H',J,rv,q⟩:=hs;exact fin J rv q|next=>let⟨XV,H',J,q⟩:=hs;exact fin (v:=V.Xf) J rfl q
 |brk=>let⟨_,_,_,q⟩:=hs;exact False.elim q|cont=>let⟨_,_,_,q⟩:=hs;exact False.elim q
section
variable {X:Cx}{id:String}{r:ij->Hp->VK->Prop}
def Wl(r:ij->Hp->VK->Prop)(t:TA):TE:=λY H Q=>t Y H λvs H1=>r vs H1 Q
def iY(hc:kG X (.builtin id) r)(hg:Gl X x)(hm:X.mg x=none)(hv:bootBuiltins x=some (.builtin id))(ha:PA X (e::es) t)(hn:x≠"__name__":=by decide)(Zk:D2 x:=by decide)(he:Ii e es X.env:=by rfl)(Zv:JT pos es X.env:=by rfl):PE X (.Call (.Name x p) (e::es) [] pos) (Wl r t):=by intro on s Y H Q I h;refine Qq<|t6 I hg hm hv ?_ hn Zk;exact PyProof.Rows.callWith_builtin1 (fD (ha pos on s Y H _ I h) λus s1 ⟨vs,H1,I1,r1,q1⟩=>hc on s1 Y H1 vs us Q I1 r1 q1) he Zv
def v9(hc:kG X (.type T) r)(hg:Gl X x)(hm:X.mg x=none)(hv:bootBuiltins x=some (.type T))(ha:PA X (e::es) t)(hn:x≠"__name__":=by decide)(Zk:D2 x:=by decide)(he:Ii e es X.env:=by rfl)(Zv:JT pos es X.env:=by rfl):PE X (.Call (.Name x p) (e::es) [] pos) (Wl r t):=by intro on s Y H Q I h;refine Qq<|t6 I hg hm hv ?_ hn Zk;exact ie (fD (ha pos on s Y H _ I h) λus s1 ⟨vs,H1,I1,r1,q1⟩=>hc on s1 Y H1 vs us Q I1 r1 q1) he Zv
end
end L2
namespace HT
open PySem PySem.W PyProof.Rows
variable {α:Type}
variable {K:gS}
section
open PySem.SeqAt
open PySem.AutoSeq1 (wpAny_loadPart')
open PySem.MeetsSeq PySem.MeetsSeq2 PySem.MeetsSeq3
end
def Ya(n d:Nat):Option Int->Nat|none=>d|some v=>if v<0 then(v+(n:Int)).toNat else min v.toNat n
def zAH(n d:Nat):Ya n d none=d:=rfl
def zBL(n d k:Nat):Ya n d (some (k:Int))=min k n:=by show(if k<0 then(k+(n:Int)).toNat else min (k:Int).toNat n)=min k n;rw[af<|by lia,bQ]
end HT
namespace L2
open PySem PySem.W PySem.Spec PyProof.Rows
variable {α:Type}
variable {K:gS}
abbrev TO:=St->Hp->(Option Int->Hp->Prop)->Prop
def PO(X:Cx)(e:Option Expr)(t:TO):Prop:=∀(on:jn)(s:Shared)(Y:St)(H:Hp)(Q:Option Int->Hp->Prop),Inv X on Y H s->t Y H Q->gA X (evalPart e X.env) (λu s'=>∃o H',Inv X on Y H' s'/\IsPart u o/\Q o H') X.xe s
def Ox:TO:=λ_ H Q=>Q none H
def Tx(t:TE):TO:=λY H Q=>t Y H λx H1=>∃i,x=.int i/\Q (some i) H1
def zp{ns:az}:∀{us:jt},Vals (ns.map V.int) us->IntsAre us ns:=by
 induction ns with
 |nil=>intro us r;rw[Wa]at r;cases r;exact .nil
 |cons n ns ih=>intro us r;rw[bY]at r;cases r with|cons r1 r2=>let⟨t,e⟩:=r1;subst e;exact .cons n t<|ih r2
section
variable {X:Cx}{lo hi:Option Expr}{tl th:TO}
def O1:PO X none Ox:=by intro on s Y H Q I h;rw[evalPart_none];exact ap ⟨none,H,I,.none,h⟩
def O0(h:PE X e te):PO X (some e) (Tx te):=by intro on s Y H Q I hw;rw[evalPart_some];refine fD (h on s Y H _ I hw) λu s1 ⟨x,H1,I1,r1,q1⟩=>?_;obtain⟨i,rfl,q⟩:=q1;obtain⟨t,rfl⟩:=r1;exact⟨some i,H1,I1,.int i t,q⟩
def Wn(X:Cx)(r:V->Option Int->Option Int->Hp->VK->Prop):Prop:=∀(on:jn)(s:Shared)(Y:St)(H:Hp)(x:V)(v vl vu:Value)(lo hi:Option Int)(sl:Addr)(Q:VK),Inv X on Y H s->RelV x v->s.heap.IsSliceOf sl vl vu .none->IsPart vl lo->IsPart vu hi->r x lo hi H Q->∃T id,typeLookup (.type T) "__getitem__"=pure (some<|.builtin id)/\s.TypeIs v T/\gA X (getItem v<|.ref sl) (EP X on Y Q) X.xe s
def WA(r:V->Option Int->Option Int->Hp->VK->Prop)(te:TE)(tl th:TO):TE:=λY H Q=>te Y H λx H1=>tl Y H1 λl H2=>th Y H2 λu H3=>r x l u H3 Q
def MI{r:V->Option Int->Option Int->Hp->VK->Prop}(hr:Wn X r)(he:PE X e te)(hl:PO X lo tl)(hu:PO X hi th):PE X (.Subscript e (.Slice lo hi none p2) pos) (WA r te tl th):=by intro on s Y H Q I h;refine Subscript_ (fD (he on s Y H _ I h) λv s1 ⟨x,H1,I1,r1,q1⟩=>?_);refine wpAny_Slice (fD (hl on s1 Y H1 _ I1 q1) λvl s2 ⟨l,H2,I2,pl,q2⟩=>fD (hu on s2 Y H2 _ I2 q2) λvu s3 ⟨u,H3,I3,pu,q3⟩=>?_);rw[evalPart_none];refine ap ?_;have I4:Inv X on Y H3 {s3 with heap:=s3.heap.push {cls:=.type "slice",data:=.fields #[vl,vu,.none]}}:=I3.kept λb ob q=>aE _ q;obtain⟨T,id,hT,ht,hg⟩:=hr on {s3 with heap:=s3.heap.push {cls:=.type "slice",data:=.fields #[vl,vu,.none]}} Y H3 x v vl vu l u s3.heap.objs.size Q I4 r1 (Heap.IsSliceOf.new ..) pl pu q3;exact tail_any ht hT hg<|by with_unfolding_all rfl
def NF(xs:ij)(lo hi:Option Int):ij:=(xs.drop<|HT.Ya xs.length 0 lo).take<|HT.Ya xs.length xs.length hi-HT.Ya xs.length 0 lo
theorem FE(xs:ij)(lo hi:Option Int):(NF xs lo hi).length<=xs.length:=by unfold NF;rw[cX,cO];lia
end
def Ho(n:Nat)(i:Int):Option Nat:=if 0<=i then(if i<n then some i.toNat else none)else if-(n:Int)<=i then some (i+n).toNat else none
def s9(xs:List α)(i:Int):Option α:=(Ho xs.length i).bind λj=>xs[j]?
theorem Jm{i:Int}(h:Ho n i=some j):seqIndex? i n=some j/\j<n/\-(n:Int)<=i/\i<n:=by unfold Ho at h;by_cases h0:0<=i;rw[ag h0]at h;by_cases h1:i<n;rw[ag h1]at h;have e:=bC h;exact⟨by rw[Vd h0 h1,e],by lia,by lia,h1⟩;rw[af h1]at h;cases h;rw[af h0]at h;by_cases h1: -n<=i;rw[ag h1]at h;have e:=bC h;exact⟨by rw[Te (by lia) h1,e],by lia,h1,by lia⟩;rw[af h1]at h;cases h
def DL{i:Int}{xs:List α}{v:α}(h:s9 xs i=some v):∃j,seqIndex? i xs.length=some j/\xs[j]?=some v/\j<xs.length/\-(xs.length:Int)<=i/\i<xs.length:=by
 unfold s9 at h;cases e:Ho xs.length i with
 |none=>rw[e]at h;cases h
 |some j=>rw[e]at h;obtain⟨h1,h2,h3,h4⟩:=Jm e;exact⟨j,h1,h,h2,h3,h4⟩
def DK{j:Nat}{xs:List α}{v:α}(h:xs[j]?=some v):s9 xs (j:Int)=some v:=by
 have hj:j<xs.length:=(aG.mp h).1;have e:Ho xs.length j=some j:=by unfold Ho;rw[ag<|by lia,ag<|by lia];simp
 unfold s9;rwa[e]
def FX(xs:List α)(v:α):s9 (xs++[v]) (-1)=some v:=by
 have hl:(xs++[v]).length=xs.length+1:=by simp
 have e:Ho (xs++[v]).length (-1)=some xs.length:=by unfold Ho;rw[hl,af<|by decide,ag<|by lia];congr 1;lia
 unfold s9;rw[e];simp
def ya(b:Expr):Prop:=∀o i,subscripted b false o i=operate [o,i] (getItem o i)
def VZ(X:Cx)(r:R2):Prop:=∀(value slice:Expr)(on:jn)(s:Shared)(Y:St)(H:Hp)(x y:V)(v u:Value)(Q:VK),Inv X on Y H s->RelV x v->RelV y u->r x y H Q->subscripted slice false v u=operate [v,u] (getItem v u)->gA X (subscriptTail value slice v u) (EP X on Y Q) X.xe s
def U7(X:Cx)(id:String)(r:V->ij->Hp->VK->Prop):Prop:=∀(on:jn)(s:Shared)(Y:St)(H:Hp)(x:V)(xs:ij)(v:Value)(us:jt)(Q:VK),Inv X on Y H s->RelV x v->Vals xs us->r x xs H Q->gA X (call (.builtin id)<|v::us) (EP X on Y Q) X.xe s
section
variable {X:Cx}
def MJ{r:R2}(hr:VZ X r)(ha:PE X a ta)(hb:PE X b tb)(hs:ya b):PE X (.Subscript a b pos) (UZ r ta tb):=by intro on s Y H Q I h;exact Subscript_ (SW ha hb I h λv u s2 x y H2 I2 rx ry q=>hr a b on s2 Y H2 x y v u Q I2 rx ry q<|hs _ _)
def TZ(K:gS):R2:=λx y H Q=>∃p xs i v,x=.ref p/\y=.int i/\XU K H p xs/\s9 xs i=some v/\Q v H
def VC(K:gS):R2:=λx y H Q=>∃p xs i v,x=.ref p/\y=.int i/\X1 K H p xs/\s9 xs i=some v/\Q v H
def Jl:VZ X (TZ X.K):=by
 intro value slice on s Y H x y v u Q I rx ry h hs;obtain⟨p,xs,i,z,rfl,rfl,hq,he,q⟩:=h;cases rx;obtain⟨t,rfl⟩:=ry;obtain⟨its,r,pl,hz⟩:=I.list hq;obtain⟨j,h1,h2,h3,h4,h5⟩:=DL he;obtain⟨w,ew,Yi⟩:=r.get h2;have hl:=r.length;have hn:=tZ;have fin:EP X on Y Q w s:=⟨z,H,I,Yi,q⟩;by_cases h0:0<=i;have hj:i.toNat=j:=by rw[Vd h0 h5]at h1;exact bC h1
 exact item_listR pl.isList h0 (by lia) (by rw[hj];simpa using ew) fin hs;have hj:(i+its.toArray.size).toNat=j:=by rw[Te (by lia) h4]at h1;rw[aT,<-hl];exact bC h1
 exact Oi pl.isList.typeIs slot_list_getitem.lookup (wpAny_getItem_list_neg pl.isList (by lia) (by rw[aT]<;>lia) (by lia) (by rw[hj];simpa using ew) ⟨rfl,fin⟩) hs
def Sh:VZ X (VC X.K):=by intro value slice on s Y H x y v u Q I rx ry h hs;obtain⟨p,xs,i,z,rfl,rfl,hq,he,q⟩:=h;cases rx;obtain⟨t,rfl⟩:=ry;let⟨its,r,pl,hz⟩:=I.tuple hq;let⟨j,h1,h2,h3,h4,h5⟩:=DL he;let⟨w,ew,Yi⟩:=r.get h2;have hl:=r.length;have hn:=tZ;have fin:EP X on Y Q w s:=⟨z,H,I,Yi,q⟩;exact Oi pl.typeIs slot_tuple_getitem.lookup (getItem_tuple pl (by lia) (by lia) (by rwa[aT,<-hl]) (by simpa using ew) ⟨rfl,fin⟩) hs
def Hf(its:jt)(n j:Nat)(u:Value):Obj.mapSeq (·.setIfInBounds j u) {cls:=.type "list",data:=.seq its.toArray n}={cls:=.type "list",data:=.seq (its.set j u).toArray n}:=by simp[Obj.mapSeq]
def Inv.lst{p:Addr}(I:Inv X on Y H s)(h:H p=some (.lst xs)):∃(its:jt)(n:Nat),Vals xs its/\s.heap.get? p=some {cls:=.type "list",data:=.seq its.toArray n}/\xs.length<=sizeLine:=by obtain⟨z,its,n,r,e⟩:=I.Xg p _ h;exact⟨its,n,r,e,z⟩
def Inv.zCR{p:Addr}{its its':jt}{f:Obj->Obj}(I:Inv X on Y H s)(h:H p=some (.lst xs))(ho:s.heap.get? p=some {cls:=.type "list",data:=.seq its.toArray n})(hf:f {cls:=.type "list",data:=.seq its.toArray n}={cls:=.type "list",data:=.seq its'.toArray n'})(r:Vals ys its')(hz:ys.length<=sizeLine)(t:Nat):Inv X on Y (fN H p<|.lst ys) {s with heap:=s.heap.update p f,toks:=t}:=by
 have e:(s.heap.update p f).get? p=some {cls:=.type "list",data:=.seq its'.toArray n'}:=by rw[fH f ho<|by rw[hf]<;>rfl,hf]
 refine I.write (by rw[h];trivial) (.inl rfl) (λb u hb q=>(kD _ _<|gy hb).trans q) ⟨_,e⟩ ?_;exact⟨hz,its',n',r,e⟩
def TX:V->V->V->Hp->(Hp->Prop)->Prop:=λo i v H Q=>∃p xs k j,o=.ref p/\i=.int k/\H p=some (.lst xs)/\Ho xs.length k=some j/\Q (fN H p<|.lst<|xs.set j v)
def yr:Qm X TX:=by
 intro on s Y H o i v ov iv u Q I ro ri rv h;obtain⟨p,xs,k,j,rfl,rfl,hp,hj,q⟩:=h;cases ro;obtain⟨t,rfl⟩:=ri;obtain⟨its,n,r,ho,hz⟩:=I.lst hp;obtain⟨h1,h2,h3,h4⟩:=Jm hj;have hl:=r.length;have hn:=tZ;have I':=I.zCR hp ho (Hf its n j u) (r.set rv j) (by rwa[bE]) s.toks;by_cases h0:0<=k;have hk:k.toNat=j:=by rw[Vd h0 h4]at h1;exact bC h1
 exact ki_setAt ho h0 (by lia) (by rwa[aT,<-hl]) (by rw[hk];exact⟨_,I',q⟩);have hk:(k+its.toArray.size).toNat=j:=by rw[Te (by lia) h3]at h1;rw[aT,<-hl];exact bC h1
 exact ki_setBack ho (by lia) (by rwa[aT,<-hl]) (by lia)<|by rw[hk];exact⟨_,I',q⟩
theorem Cr(lo hi:Option Int)(n:Nat):(sliceBounds lo hi none n).1=((HT.Ya n 0 lo:Nat):Int)/\(sliceBounds lo hi none n).2.1=((HT.Ya n n hi:Nat):Int)/\(sliceBounds lo hi none n).2.2=1:=by
 refine⟨?_,?_,rfl⟩;cases lo with|none=>simp[sliceBounds,HT.Ya]|some i=>simp only[sliceBounds,HT.Ya,Option.getD_none,show 1>0 by decide,Av];by_cases h:i<0;simp only[h,Av]<;>lia;simp only[h,kY]<;>lia
 cases hi with|none=>simp[sliceBounds,HT.Ya]|some i=>simp only[sliceBounds,HT.Ya,Option.getD_none,show 1>0 by decide,Av];by_cases h:i<0;simp only[h,Av]<;>lia;simp only[h,kY]<;>lia
def AM(its:jt)(lo hi:Option Int):slicePick its.toArray lo hi none=((its.drop<|HT.Ya its.length 0 lo).take<|HT.Ya its.length its.length hi-HT.Ya its.length 0 lo).toArray:=by obtain⟨h1,h2,h3⟩:=Cr lo hi its.toArray.size;unfold slicePick;rw[h1,h2,h3];simp only[sliceRange_one,pick_run,aT]<;>rfl
def Vx(K:gS):V->Option Int->Option Int->Hp->VK->Prop:=λx lo hi H Q=>∃a xs,x=.ref a/\XU K H a xs/\∀p,H p=none->Q (.ref p) (fN H p<|.lst<|NF xs lo hi)
def OF:Wn X (Vx X.K):=by intro on s Y H x v vl vu lo hi sl Q I rx hs pl pu h;obtain⟨a,xs,rfl,hx,q⟩:=h;cases rx;let⟨its,r,ht,hz⟩:=I.list hx;have hlen:=r.length;refine⟨"list",_,slot_list_getitem.lookup,ht.isList.typeIs,?_⟩;refine wpAny_getItem_list_slice ht.isList hs pl pu .none (by simp) ?_ (by rw[aT]<;>lia);rw[AM,<-hlen];refine⟨.ref s.heap.objs.size,_,I.laid (λb ob q=>aE _ q) (ao _) ?_,rfl,q _<|I.Xg.fresh<|ao _⟩;exact⟨aL (FE xs lo hi) hz,_,0,(r.drop<|HT.Ya xs.length 0 lo).take<|HT.Ya xs.length xs.length hi-HT.Ya xs.length 0 lo,a7 _ rfl⟩
def vD:kG X (.builtin "len") (λxs H Q=>∃p ys,xs=[.ref p]/\(XU X.K H p ys\/X1 X.K H p ys)/\Q (.int ys.length) H):=by intro on s Y H xs us Q I r h;obtain⟨p,ys,rfl,hq,q⟩:=h;obtain⟨u,rfl,rx⟩:=oz r;cases rx;have hn:=tZ;rcases hq with hq |hq;let⟨its,r',pl,hz⟩:=I.list hq;have hlen:=r'.length;exact Calls.call_len_list pl.isList (by simp<;>lia) ⟨.int ys.length,H,I.tok _,⟨s.toks+1,by rw[aT,hlen]⟩,q⟩;let⟨its,r',pl,hz⟩:=I.tuple hq;have hlen:=r'.length;exact len_tuple pl (by simp<;>lia) ⟨.int ys.length,H,I.tok _,⟨s.toks+1,by rw[aT,hlen]⟩,q⟩
def Ds:kG X (.type "list") (λxs H Q=>∃p ys,xs=[.ref p]/\(XU X.K H p ys\/X1 X.K H p ys)/\∀l,H l=none->Q (.ref l) (fN H l<|.lst ys)):=by intro on s Y H xs us Q I r h;obtain⟨p,ys,rfl,hq,q⟩:=h;obtain⟨u,rfl,rx⟩:=oz r;cases rx;have fin:∀its,Vals ys its->ys.length<=sizeLine->∀(h':Heap)c',(∀b o',s.heap.get? b=some o'->h'.get? b=some o')->h'.get? s.heap.objs.size=some {cls:=.type "list",dict:=none,data:=.seq its.toArray c',slots:=#[]}->EP X on Y Q (.ref s.heap.objs.size) {s with heap:=h'}:=λits r' hz h' c' kp e=>⟨.ref s.heap.objs.size,_,I.laid kp (ao _) (show Xj X.prog X.w _ h' _ (.lst ys)from⟨hz,its,c',r',e⟩),rfl,q _<|I.Xg.fresh<|ao _⟩;rcases hq with hq |hq;obtain⟨its,r',pl,hz⟩:=I.list hq;have hlen:=r'.length;obtain⟨o,ho,hc,n,hd⟩:=pl.isList;exact call_list_seq p (.inl rfl) ho hc hd (λh' c' kp e=>fin its r' hz h' c' kp e) (by simp<;>lia);obtain⟨its,r',pl,hz⟩:=I.tuple hq;have hlen:=r'.length;obtain⟨o,ho,hc,n,hd⟩:=pl;exact call_list_seq p (.inr rfl) ho hc hd (λh' c' kp e=>fin its r' hz h' c' kp e)<|by simp<;>lia
def Ba:kG X (.type "tuple") (λxs H Q=>∃p ys,xs=[.ref p]/\((XU X.K H p ys/\∀l,H l=none->Q (.ref l) (fN H l<|.tup ys))\/(X1 X.K H p ys/\Q (.ref p) H))):=by intro on s Y H xs us Q I r h;obtain⟨p,ys,rfl,h⟩:=h;obtain⟨u,rfl,rx⟩:=oz r;cases rx;rcases h with⟨hq,q⟩ |⟨hq,q⟩;let⟨its,r',pl,hz⟩:=I.list hq;have hlen:=r'.length;refine call_tuple_list pl.isList (λh' kp=>?_) (by simp<;>lia);have I1:=I.kept (t':=s.toks) kp;have I2:=I1.laid (t':=s.toks) (λb o e=>aE _ e) (ao _) (show Xj X.prog X.w _ _ _ (.tup ys)from⟨hz,its,r',IsTup.new _ _⟩);exact⟨.ref h'.objs.size,_,I2,rfl,q _<|I1.Xg.fresh<|ao _⟩;let⟨its,r',pl,hz⟩:=I.tuple hq;exact call_tuple_same pl ⟨.ref p,H,I,rfl,q⟩
def Vj(K:gS)(T:String)(x:V)(H:Hp):Prop:=match x with
 |.str _=>T="str"|.int _=>T="int"
 |.ref p=>(T="list"/\∃xs,XU K H p xs)\/(T="tuple"/\∃o,K.lookup p=some o/\o.cls=.type "tuple"/\o.dict=none)\/(T="dict"/\((∃kvs,H p=some (.dK kvs))\/∃kvs,H p=some (.dT kvs)))\/(T="set"/\∃S n,H p=some (.set S n))|_=>False
def Lv(I:Inv X on Y H s)(r:RelV x v)(ty:Vj X.K T x H):s.TypeIs v T/\∀a,v=.ref a->∃ob,s.heap.get? a=some ob/\ob.dict=none:=by
 cases x with
 |str z=>obtain⟨t,rfl⟩:=r;cases(ty);exact⟨typeIs_str s z t,λ_ e=>nomatch e⟩
 |int i=>obtain⟨t,rfl⟩:=r;cases(ty);exact⟨typeIs_int s i t,λ_ e=>nomatch e⟩
 |ref p=>
  cases r;rcases ty with⟨rfl,xs,hq⟩ |⟨rfl,o,hk,hc,hd⟩ |⟨rfl,hk⟩ |⟨rfl,S,n,hk⟩;obtain⟨its,_,pl,_⟩:=I.list hq;refine⟨pl.isList.typeIs,λa e=>?_⟩;cases e;obtain⟨o,n,e,c,hd,_⟩:=pl;exact⟨o,e,hd⟩;refine⟨⟨o,I.Zf p o hk,hc⟩,λa e=>?_⟩;cases e;exact⟨o,I.Zf _ o hk,hd⟩;have z:∃o,s.heap.get? p=some o/\o.ExactDict:=by rcases hk with⟨kvs,hk⟩ |⟨kvs,hk⟩;obtain⟨_,_,_,_,o,_,_,e,ex,_⟩:=I.Xg p _ hk;exact⟨o,e,ex⟩;obtain⟨_,_,_,_,o,_,_,e,ex,_⟩:=I.Xg p _ hk;exact⟨o,e,ex⟩
  obtain⟨o,e,ex⟩:=z;refine⟨⟨o,e,ex.1⟩,λa e2=>?_⟩;cases e2;exact⟨o,e,ex.2.1⟩;obtain⟨o,_,_,_,e,ex,_⟩:=I.Xg p _ hk;refine⟨⟨o,e,ex.1⟩,λa e2=>?_⟩;cases e2;exact⟨o,e,ex.2.1⟩
 |_=>exact False.elim ty
def Vu(K:gS)(T:String)(r:V->ij->Hp->VK->Prop)(to:TE):TE:=λY H Q=>to Y H λx H1=>Vj K T x H1/\r x [] H1 Q
def WD(K:gS)(T:String)(r:V->ij->Hp->VK->Prop)(to:TE)(t:TA):TE:=λY H Q=>to Y H λx H1=>Vj K T x H1/\t Y H1 λxs H2=>r x xs H2 Q
variable {id:String}{r:V->ij->Hp->VK->Prop}
def yY{apos:Pos}{Xd:Pos}(pa:PlainAttrs T)(slot:Slot T name id)(hty:typeOf (.builtin id)=pure (.type "method_descriptor"))(hm:U7 X id r)(ho:PE X o to)(YS:attributeBase o name X.env (eval o X.env)=eval o X.env:=by rfl)(Xx:(apos.endLine==Xd.line)=true:=by rfl):PE X (.Call (.Attribute o name apos) [] [] Xd) (Vu X.K T r to):=by intro on s Y H Q I h;refine wpAny_Call_method0_late YS Xx (fD (ho on s Y H _ I h) λv s1 ⟨x,H1,I1,r1,ty,q1⟩=>?_);obtain⟨h1,h2⟩:=Lv I1 r1 ty;exact⟨T,id,pa,slot,hty,h1,h2,Gk rfl<|PySem.evalArgs_none<|hm on s1 Y H1 x [] v [] Q I1 r1 .nil q1⟩
def QP{apos:Pos}(pa:PlainAttrs T)(slot:Slot T name id)(hty:typeOf (.builtin id)=pure (.type "method_descriptor"))(hm:U7 X id r)(ho:PE X o to)(ha:PA X (e::es) t)(YS:attributeBase o name X.env (eval o X.env)=eval o X.env:=by rfl)(ZG:((backTo Xd<|starEach (e::es) X.env).all (λx=>!x.1)&&(backToKw Xd<|keywordEach [] X.env).all (λx=>x.1.isSome)&&decide ((e::es).length+([]:List Keyword).length+(if([]:List Keyword).isEmpty then 0 else 1)<30))=true:=by rfl)(Xx:(apos.endLine==Xd.line)=true:=by rfl)(hs:Ii e es X.env:=by rfl)(ZF:JT Xd es X.env:=by rfl):PE X (.Call (.Attribute o name apos) (e::es) [] Xd) (WD X.K T r to t):=by intro on s Y H Q I h;refine wpAny_Call_method_late YS ZG Xx rfl (fD (ho on s Y H _ I h) λv s1 ⟨x,H1,I1,r1,ty,q1⟩=>?_);obtain⟨h1,h2⟩:=Lv I1 r1 ty;refine⟨T,id,pa,slot,hty,h1,h2,?_⟩;have hA:=ha Xd on s1 Y H1 _ I1 q1;rw[hs]at hA ⊢;refine Gk (by show(false||(backTo Xd<|starEach es X.env).any (·.1))=false;rw[ZF]<;>rfl)<|Calls.evalArgs_plain ?_;exact fD hA λus s2 ⟨vs,H2,I2,r2,q2⟩=>hm on s2 Y H2 x vs v us Q I2 r1 r2 q2
end
def U8(X:Cx)(id:String)(r:V->ij->Hp->VK->Prop):Prop:=∀(on:jn)(s:Shared)(Y:St)(H:Hp)(x:V)(xs:ij)(v:Value)(us:jt)(Q:VK),Inv X on Y H s->RelV x v->Vals xs us->r x xs H Q->gA X (call (.builtin id)<|v::us) (EP X on Y Q) X.xe s
def Vals.one:∀{x:V}{us:jt},Vals [x] us->∃u,us=[u]/\RelV x u|_,_,.cons r .nil=>⟨_,rfl,r⟩
def Vals.zero:∀{us:jt},Vals [] us->us=[]|_,.nil=>rfl
def Vals.dropLast(h:Vals xs us):Vals xs.dropLast us.dropLast:=by induction h with|nil=>exact .nil|cons r t ih=>cases t with|nil=>exact .nil|cons q t'=>exact .cons r ih
def Vals.reverse(h:Vals xs us):Vals xs.reverse us.reverse:=by induction h with|nil=>exact .nil|cons r t ih=>rw[gK,gK];exact Vals.append ih<|.cons r .nil
theorem Vals.rep(h:Vals xs us):∀k:Nat,Vals (List.replicate k xs).flatten (List.replicate k us).flatten|0=>.nil|k+1=>by rw[dF,dF,gL,gL];exact Vals.append h<|Vals.rep h k
def Hu(l:List α):l.eraseIdx (l.length-1)=l.dropLast:=by
 induction l with
 |nil=>rfl
 |cons a r ih=>
  cases r with
  |nil=>rfl
  |cons b r=>
   have e:(a::b::r).length-1=((b::r).length-1)+1:=by have h1:(a::b::r).length=r.length+2:=rfl;have h2:(b::r).length=r.length+1:=rfl;lia
   rw[e,List.eraseIdx_cons_succ,ih];all_goals rfl
theorem BY(its:jt):∀(k:Nat)(acc:jt),List.foldl (λx1 x2=>x1++x2) acc.toArray (List.replicate k its.toArray)=(acc++(List.replicate k its).flatten).toArray
 |0,acc=>by simp
 |k+1,acc=>by
  have e:acc.toArray++its.toArray=(acc++its).toArray:=by simp
  have e2:(acc++its)++(List.replicate k its).flatten=acc++(List.replicate (k+1) its).flatten:=by rw[dF,gL,dX]
  rw[<-e2,<-BY its k (acc++its),<-e,dF,rZ]
section
variable {X:Cx}
def Inv.zAQ{its its':jt}{t':Nat}{l:Addr}{f:Array Value->Array Value}(I:Inv X on Y H s)(hH:H l=some (.lst xs))(e:s.heap.get? l=some {cls:=.type "list",data:=.seq its.toArray n})(hf:f its.toArray=its'.toArray)(hv:Vals ys its')(hz:ys.length<=sizeLine):Inv X on Y (fN H l<|.lst ys) {s with heap:=s.heap.update l<|Obj.mapSeq f,toks:=t'}:=by have q:=PySem.IsL.update e f;rw[hf]at q;refine I.write (by rw[hH];exact trivial) (.inl rfl) (λb' u hb hu=>(kD s.heap (Obj.mapSeq f)<|gy hb).trans hu) ⟨_,q⟩ ?_;exact⟨hz,its',_,hv,q⟩
def Inv.zBM{t':Nat}(I:Inv X on Y H s)(hv:Vals ys its)(hz:ys.length<=sizeLine):Inv X on Y (fN H s.heap.objs.size<|.lst ys) {s with heap:=s.heap.push {cls:=.type "list",data:=.seq its.toArray},toks:=t'}:=I.laid (λ_ _ q=>aE _ q) (ao _) ⟨hz,its,0,hv,a7 _ rfl⟩
def Inv.fresh(I:Inv X on Y H s):H s.heap.objs.size=none:=I.Xg.fresh<|ao _
def Inv.Za{l:Addr}(I:Inv X on Y H s)(hH:H l=some (.lst xs)):xs.length<=sizeLine/\∃(its:jt)(n:Nat),Vals xs its/\xs.length=its.length/\s.heap.get? l=some {cls:=.type "list",data:=.seq its.toArray n}:=by let⟨z,its,n,r,e⟩:=I.Xg l _ hH;exact⟨z,its,n,r,r.length,e⟩
def EX{n:Nat}(h:n<=sizeLine):Builtin.List.listTooLong n=false:=by exact aj<|by lia
end
section
variable {X:Cx}
def OQ:V->ij->Hp->VK->Prop:=λx vs H Q=>∃l xs y,x=.ref l/\vs=[y]/\H l=some (.lst xs)/\xs.length<sizeLine/\Q .Xf (fN H l<|.lst<|xs++[y])
def wd:U8 X "list.append" OQ:=by intro on s Y H x vs v us Q I rx rv h;obtain⟨l,xs,y,rfl,rfl,hH,hz,q⟩:=h;cases rx;obtain⟨u,rfl,ru⟩:=rv.one;obtain⟨z,its,n,r,hl,e⟩:=I.Za hH;refine Gf F.slot_list_append ⟨_,e,rfl⟩ F.entry_list_append (F.args_list_append_2 _ _) (PySem.list_append l its.toArray n u<|by rw[aT];lia) ⟨e,?_⟩;refine⟨.Xf,_,I.zAQ hH e (by simp) (r.append<|.cons ru .nil) ?_,rfl,q⟩;rw[aA,dz];lia
def OP:V->ij->Hp->VK->Prop:=λx vs H Q=>∃l b xs zs,x=.ref l/\vs=[.ref b]/\H l=some (.lst xs)/\H b=some (.lst zs)/\xs.length+zs.length<=sizeLine/\Q .Xf (fN H l<|.lst<|xs++zs)
def Km:U8 X "list.extend" OP:=by
 intro on s Y H x vs v us Q I rx rv h;obtain⟨l,b,xs,zs,rfl,rfl,hH,hB,hz,q⟩:=h;cases rx;obtain⟨u,rfl,ru⟩:=rv.one;cases ru;let⟨z,its,n,r,hl,e⟩:=I.Za hH;let⟨z2,ZZ,n2,r2,hl2,e2⟩:=I.Za hB;have hsz:its.toArray.size+ZZ.toArray.size<=sizeLine:=by rw[aT,aT];lia
 have zAW:¬(!its.toArray.isEmpty&&Builtin.List.listTooLong (its.toArray.size+ZZ.toArray.size))=true:=by rw[EX hsz,DZ];exact aW
 refine Gf F.slot_list_extend ⟨_,e,rfl⟩ F.entry_list_extend (F.args_list_extend_2 _ _) (AutoSeq1.list_extend_list_list_0 l its.toArray n b ZZ.toArray n2 zAW (by rw[aT];lia)<|by lia) ⟨e,e2,?_⟩;refine⟨.Xf,_,I.zAQ hH e (by simp) (r.append r2) ?_,rfl,q⟩;rw[aA];lia
def VA:V->ij->Hp->VK->Prop:=λx vs H Q=>∃l xs y,x=.ref l/\vs=[]/\H l=some (.lst xs)/\xs[xs.length-1]?=some y/\Q y (fN H l<|.lst xs.dropLast)
def He:U8 X "list.pop" VA:=by
 intro on s Y H x vs v us Q I rx rv h;obtain⟨l,xs,y,rfl,rfl,hH,hy,q⟩:=h;cases rx;have hus:=rv.zero;subst hus;obtain⟨z,its,n,r,hl,e⟩:=I.Za hH;obtain⟨u,hu,ru⟩:=r.get hy;have hy':its.toArray[its.toArray.size-1]?=some u:=by show its.toArray[its.length-1]?=some u;rw[<-c7,<-hl];exact hu
 refine Gf F.slot_list_pop ⟨_,e,rfl⟩ F.entry_list_pop (F.args_list_pop_1 _) (MeetsSeq.list_pop_last l its.toArray n u hy'<|by rw[aT];lia) ⟨e,?_⟩;refine⟨y,_,I.zAQ hH e ?_ r.dropLast ?_,ru,q⟩;rw[aT,List.eraseIdxIfInBounds_toArray,Hu];rw[iT];lia
def Me:V->ij->Hp->VK->Prop:=λx vs H Q=>∃l xs,x=.ref l/\vs=[]/\H l=some (.lst xs)/\Q .Xf (fN H l<|.lst xs.reverse)
def y4:U8 X "list.reverse" Me:=by intro on s Y H x vs v us Q I rx rv h;obtain⟨l,xs,rfl,rfl,hH,q⟩:=h;cases rx;have hus:=rv.zero;subst hus;let⟨z,its,n,r,hl,e⟩:=I.Za hH;refine Gf F.slot_list_reverse ⟨_,e,rfl⟩ F.entry_list_reverse (F.args_list_reverse_1 _) (AutoSeq1.list_reverse_list_0 l its.toArray n<|by rw[aT];lia) ⟨e,?_⟩;refine⟨.Xf,_,I.zAQ hH e (by simp) r.reverse ?_,rfl,q⟩;rw[cj];lia
def VD:R2:=λx y H Q=>∃l b xs zs,x=.ref l/\y=.ref b/\H l=some (.lst xs)/\H b=some (.lst zs)/\xs.length+zs.length<=sizeLine/\∀p,H p=none->Q (.ref p) (fN H p<|.lst<|xs++zs)
def RX:oS X (binaryOp .Add) VD:=by
 intro on s Y H x y v u Q I rx ry h;obtain⟨l,b,xs,zs,rfl,rfl,hH,hB,hz,q⟩:=h;cases rx;cases ry;let⟨z,its,n,r,hl,e⟩:=I.Za hH;let⟨z2,ZZ,n2,r2,hl2,e2⟩:=I.Za hB;refine PySem.P.add_list e e2 ?_ (by rw[aT,aT];lia);have ea:its.toArray++ZZ.toArray=(its++ZZ).toArray:=by simp
 rw[ea];exact⟨.ref _,_,I.zBM (r.append r2)<|by rw[aA];lia,rfl,q _ I.fresh⟩
def Vz:R2:=λx y H Q=>∃l k xs,x=.ref l/\y=.int k/\H l=some (.lst xs)/\-(2 ^ 63)<=k/\k<2 ^ 63/\xs.length*k.toNat<=sizeLine/\∀p,H p=none->Q (.ref p) (fN H p<|.lst (List.replicate k.toNat xs).flatten)
def Pq(xs:List α)(k:Nat):(List.replicate k xs).flatten.length=k*xs.length:=by induction k with|zero=>simp|succ k ih=>rw[dF,gL,aA,ih,ig,lO]
def RT:oS X (binaryOp .Mult) Vz:=by
 intro on s Y H x y v u Q I rx ry h;obtain⟨l,k,xs,rfl,rfl,hH,h1,h2,hz,q⟩:=h;cases rx;obtain⟨t,rfl⟩:=ry;let⟨z,its,n,r,hl,e⟩:=I.Za hH;have hlen:its.toArray.size*k.toNat<=sizeLine:=by rwa[aT,<-hl]
 have zHS:¬its.toArray.size*k.toNat>(2 ^ 63-1) / 8:=by
  have:sizeLine<=(2 ^ 63-1) / 8:=by decide
  lia
 have zHM:¬(!Builtin.List.listFitsIndex k)=true:=by rw[fitsIndex_both h1 h2];exact aW
 have zAW:¬Builtin.List.listTooLong (its.toArray.size*k.toNat)=true:=by rw[EX hlen];exact aW
 have zHD:List.foldl (λx1 x2=>x1++x2) #[] (List.replicate (if its.toArray.isEmpty=true then 0 else k.toNat) its.toArray)=(List.replicate k.toNat its).flatten.toArray:=by
  have f0:∀m:Nat,List.foldl (λx1 x2=>x1++x2) #[] (List.replicate m its.toArray)=(List.replicate m its).flatten.toArray:=λm=>by have:=BY its m [];rw[List.nil_append]at this;exact this
  rw[f0];cases its with|nil=>simp|cons a r'=>rw[af<|by simp]
 refine wpAny_binaryOp_repeat_ref rfl ⟨_,e,rfl⟩ (λs'=>typeIs_int s' k t) noFill_list_mul F.fills_int_mul F.slot_int_rmul repeat_list F.slot_int_index.lookup<|Gf F.slot_int_rmul (typeIs_int s k t) F.entry_int_rmul (F.args_int_rmul_2 _ _) (int___rmul___int_list k t l its.toArray n) ⟨e,rfl,⟨_,e,rfl⟩,Gf F.slot_list_mul ⟨_,e,rfl⟩ F.entry_list_mul (F.args_list_mul_2 _ _) (AutoListH.list___mul___list_int_3 l its.toArray n k t zHM zHS zAW) ⟨e,?_⟩⟩;rw[zHD];exact⟨.ref _,_,I.zBM (r.rep k.toNat)<|by rwa[Pq,fS],rfl,q _ I.fresh⟩
end
end L2
namespace Att
open PySem PySem.W PySem.Calls PyProof.Rows
variable {α:Type}
variable {K:gS}
def xr{P:Params}:∀(ns:az)(vs:jt),WellAll P h vs (ns.map WData.int)->IntsAre vs ns:=by
 intro ns;induction ns with
 |nil=>intro vs w;rw[Wa]at w;cases w;exact .nil
 |cons n ns ih=>intro vs w;rw[bY]at w;cases w with|cons a b=>cases a;exact .cons _ _<|ih _ b
def Kb{l:OpenLaw}(hn:l.most=some n){P:Params}{args:List WData}(zBR:l.row.toRowW.claim.pre args=true)(hwl:WellAll P h vals args):∃a vs ns,vals=[Value.ref a]/\args=[WData.list<|ns.map WData.int]/\h.get? a=some {cls:=.type "list",data:=.seq vs.toArray}/\IntsAre vs ns/\ns.length<=n:=by
 have hsh:=(pre_splitW zBR).1;have hc:=(pre_splitW zBR).2;obtain⟨d,r,rfl,h1,h2⟩:=hasAllW_cons hsh;obtain rfl:=hasAllW_nil h2;obtain⟨xs,rfl,h3⟩:=hasW_list h1;obtain⟨ns,rfl⟩:=items_int h3;have hlen:ns.length<=n:=by
  have h4:(WTm.not<|.lt (.lit<|.int n)<|.len<|.arg 0).holds [] {args:=[.list<|ns.map .int]}=true:=by have h4:=(holds_andW hc).1;rw[hn]at h4;exact h4
  have h5:=condW_of h4<|w_not<|w_lt w_lit<|w_len_list<|w_arg rfl;rw[ab]at h5;refine Nat.le_of_not_lt λq=>?_;first
   |(rw[aq q']at h5;decide)|(simp at h5;lia)
 cases hwl with|cons w1 w2=>cases w2;cases w1 with|list ho Yt=>exact⟨_,_,ns,rfl,rfl,ho,xr ns _ Yt,hlen⟩
def Kg(l:OpenLaw)(args:List WData):l.row.toRowW.claim.post args (.bool true) args=true:=postW_of (by first |rfl |decide |simp[WShape.has,WShape.arms,WShape.armsAll]) (w_eq_bool (w_res rfl) w_lit) rfl
def Zo{l:OpenLaw}{XP:(Str->Option Value)->Heap->Prop}{YP:World->Heap->Prop}{d:DefRec}(hn:l.most=some n)(hdf:d.params.defaults=[])(call:∀(w:World)(s₀ s₁:Shared)(mg mb:AE)(fa:Addr)(o:Obj)(pm cd doc:Value)(a:Addr)(vs:jt)(ns:az),Ground q loose [] XP w s₀ mg mb s₁.heap->YP w s₁.heap->s₁.heap.get? fa=some o->o.data=.func (docDef d.name d.params d.body d.scope pm cd doc)->s₁.heap.CodeRec cd d.name->mg d.name=some (.ref fa)->s₁.heap.get? a=some {cls:=.type "list",data:=.seq vs.toArray}->IntsAre vs ns->ns.length<=n->s₁.gens=#[]->codeAny (model l.prog w) callerA (.call (.ref fa) ⟨[.ref a],[]⟩) (λr s'=>r=.ok (.ret<|.bool true)/\OldK s₁.heap s'.heap/\s'.os=s₁.os/\AllBare s'.gens) s₁):WalkO q loose XP YP l.row.toRowW d [] (λf vs=>PySem.call f vs):=by intro w s₀ s₁ mg mb G Y fa o pm cd doc dV kV ho hd hcd hD hmg hg args vals as zBR zN8 hrd hwl hlo;obtain rfl:dV=.none:=Dflts.none hD hdf;obtain rfl:kV=.none:=Dflts.noKw hD;obtain⟨a,vs,ns,rfl,rfl,zCU,hints,hlen⟩:=Kb hn zBR hwl;refine enter_call (Tf (call w s₀ s₁ mg mb fa o pm cd doc a vs ns G Y ho (fd_plain hd) hcd hmg zCU hints hlen hg) λr s' hq=>?_);obtain⟨rfl,h2,h3,h4⟩:=hq;exact⟨.inl ⟨.bool true,.bool true,[],rfl,λ_=>rfl,.bool true,Kg l _,λ_=>⟨List.Pairwise.nil,λ_ hm=>(nomatch hm)⟩⟩,h2,h3,h4⟩
section
variable {K:Frag}
def VG(h:Heap)(L d:Addr):jn:=(List.range h.objs.size).filterMap λa=>if a=L\/a=d then none else(h.get? a).map λo=>(a,o)
end
end Att
namespace L2
open PySem PySem.W PySem.Spec PyProof.Rows
variable {α:Type}
variable {K:gS}
theorem Bq:∀{vs:jt}{ns:az},IntsAre vs ns->Vals (ns.map V.int) vs|_,_,.nil=>.nil|_,_,.cons n t h=>.cons ⟨t,rfl⟩<|Bq h
def S7(H:Hp):Prop:=∀b,H b=none\/∃o xs,H b=some (.Ym o<|.lst xs)
def MY{a:Addr}{x:Str}{s₁:Shared}{vs:jt}(KX:K.In s₁.heap)(hns:s₁.heap.Ns mainGlobals mg)(hb:s₁.heap.Ns builtinsNs mb)(hbb:∀x:Str,x≠"__name__"->mb x=bootBuiltins x)(zHG:s₁.heap.NoLimit)(ZQ:s₁.heap.NoSeer)(hg:s₁.gens=#[])(ha:s₁.heap.get? a=some {cls:=.type "list",data:=.seq vs.toArray})(hi:IntsAre vs ns)(hl:ns.length<=sizeLine)(hr:XN k callerA)(F:∀base:Heap,K.In base->base.Ns mainGlobals mg->mw P w K mg base CX k fa fd [x] sp)(zES:∀(s:Shared)(u:Value),BindsTo s fd ⟨[u],[]⟩ [(x,u)])(hsp:∀H:Hp,S7 H->XU K H a (ns.map V.int)->sp [.ref a] H (λv _=>v=.bl true) λ_ _ _=>False)(hCX:∀H e s',CX [] H s₁ (λ_ _ _=>False) e s'->False):
  codeAny (model P w) callerA (.call (.ref fa) ⟨[.ref a],[]⟩) (λr s'=>r=.ok (.ret<|.bool true)/\OldK s₁.heap s'.heap/\s'.os=s₁.os/\AllBare s'.gens) s₁:=by
 have rv:=Bq hi
 have zGY:=hi.length
 have core:∀H:Hp,S7 H->XU K H a (ns.map V.int)->YH P w H s₁.heap->(∀b,H b≠none->b=a)->(H a≠none->K.lookup a=none)->
   codeAny (model P w) callerA (.call (.ref fa) ⟨[.ref a],[]⟩) (λr s'=>r=.ok (.ret<|.bool true)/\OldK s₁.heap s'.heap/\s'.os=s₁.os/\AllBare s'.gens) s₁:=by
  intro H hO hS Xg hA hK
  have Zb:∀{b:Addr}{o:Obj},s₁.heap.get? b=some o->H b=none->(A1 s₁.heap H).get? b=some o:=λe n=>M5 e n
  have noA:∀{b:Addr}{o:Obj}{es:Array DictEntry}{ep:Nat},s₁.heap.get? b=some o->o.data=.dict es ep->H b=none:=λ{b o es ep}e d=>by
   cases q:H b with
   |none=>rfl
   |some u=>
    have e':=hA b<|by rw[q];simp
    subst e'
    rw[ha]at e;cases e
    have d':=d
    cases d'
  have nsK:∀{b:Addr}{m:AE},s₁.heap.Ns b m->(A1 s₁.heap H).Ns b m:=λ{b m} ⟨o,es,ep,e,d,r⟩=>⟨o,es,ep,Zb e<|noA e d,d,r⟩
  have hKb:K.In (A1 s₁.heap H):=λb o e=>Zb (KX b o e) (by
   cases q:H b with
   |none=>rfl
   |some u=>
    have e':=hA b<|by rw[q];simp
    subst e'
    rw[hK (by rw[q];simp)]at e;cases e)
  have zEV:(A1 s₁.heap H).NoSeer:={
   statics:=let⟨mc,a1,b1⟩:=ZQ.statics;⟨mc,nsK a1,b1⟩
   mods:=let⟨mc,a1,b1⟩:=ZQ.mods;⟨mc,nsK a1,b1⟩
   imp:=let⟨mc,a1,b1⟩:=ZQ.imp;⟨mc,nsK a1,b1⟩
   main:=let⟨Ze,bm,ob,a1,b1,c1,d1,e1⟩:=ZQ.main;⟨Ze,bm,ob,nsK a1,b1,Zb c1 (by
    cases q:H bm with
    |none=>rfl
    |some u=>
     have e':=hA bm<|by rw[q];simp
     subst e'
     rw[ha]at c1;cases c1
     injection d1 with d2
     exact absurd d2 (by decide)),d1,e1⟩}
  have hM:Mod K mg (A1 s₁.heap H):=⟨hKb,nsK hns,⟨mb,nsK hb,hbb⟩,let⟨mc,h1,h2⟩:=zHG;⟨mc,nsK h1,h2⟩,zEV⟩
  have e0:Qp P w K mg (A1 s₁.heap H) callerA [] s₁ H:=⟨rfl,hM,λb o e=>Pa e,og<|KD _ _,trivial,λb hb=>absurd (show b∈[]from hb)<|by simp,Xg,.of_eq hg⟩
  refine Tf ((F _ hKb<|nsK hns).run callerA [] s₁ H ⟨[.ref a],[]⟩ [.ref a] [.ref a] _ _ hr e0 (zES s₁<|.ref a) (.cons rfl .nil)<|hsp H hO hS) λr s' h=>?_
  cases r with
  |error e=>exact(hCX H e s' h).elim
  |ok fl=>
   cases fl with
   |next=>exact False.elim h
   |brk=>exact False.elim h
   |cont=>exact False.elim h
   |ret u=>
    obtain⟨v,H',os,bare,un,zHA,r',q⟩:=h
    have q':=q
    subst q'
    obtain rfl:u=Value.bool true:=r'
    refine⟨rfl,OldK.of_keep λb o e=>?_,os,bare⟩
    cases q:H b with
    |none=>exact un.keep b o e q (by intro z;exact absurd (show b∈[]from z)<|by simp)<|by simp
    |some u=>
     rcases hO b with z |⟨ob,xs,z⟩
     rw[q]at z;cases z
     have z2:=un.YU b ob _ z
     let⟨e1,_⟩:=Xg b _ z
     let⟨e2,_⟩:=zHA b _ z2
     rw[e]at e1;cases e1
     exact e2
 cases hk:K.lookup a with
 |some o=>
  have e:=KX a o hk
  rw[ha]at e
  cases e
  refine core (λ_=>none) (λ_=>.inl rfl) (.inr ⟨_,vs.toArray,_,hk,rfl,rfl,rfl,by rwa[aT,zGY],by simpa using rv⟩) (λb u z=>by have z':=z;cases z') (λb z=>absurd rfl z) λz=>absurd rfl z
 |none=>
  refine core (λb=>if b=a then some (.Ym {cls:=.type "list",data:=.seq vs.toArray}<|.lst<|ns.map V.int)else none) (λb=>?_) (.inl<|.inr ⟨{cls:=.type "list",data:=.seq vs.toArray},ag rfl⟩) (λb u z=>?_) (λb z=>?_) λ_=>hk
  by_cases hb:b=a
  exact .inr ⟨_,_,ag hb⟩
  exact .inl<|af hb
  by_cases hb:b=a
  have z':=(ag hb).symm.trans z
  cases z'
  subst hb
  exact⟨ha,by rwa[ab],vs,_,rv,ha⟩
  have z':=(af hb).symm.trans z
  cases z'
  by_cases hb:b=a
  exact hb
  exact absurd (af hb) z
def zBE{q:Program}{l:PySem.W.OpenLaw}{XP:(Str->Option Value)->Heap->Prop}{YP:World->Heap->Prop}{d:DefRec}{K:Params->gS}{CX:World->Tt}{sp:World->Sp}(hq:importsNone q=true)(hn:l.most=some n)(hn2:n<=sizeLine)(hdf:d.params.defaults=[])(hr:XN k callerA)(hY:∀(w:World)(h:Heap),YP w h->(K w.params).In h)(F:∀(w:World)(mg:AE)(fa:Addr)(h:Heap),(K w.params).In h->h.Ns mainGlobals mg->mg d.name=some (.ref fa)->∃fd:FuncData,(∀(s:Shared)(u:Value),BindsTo s fd ⟨[u],[]⟩ [(x,u)])/\∀base:Heap,(K w.params).In base->base.Ns mainGlobals mg->mw l.prog w (K w.params) mg base (CX w) k fa fd [x] (sp w))(hsp:∀(w:World)(H:Hp)(a:Addr)(ns:az),ns.length<=n->S7 H->XU (K w.params) H a (ns.map V.int)->sp w [.ref a] H (λv _=>v=.bl true) λ_ _ _=>False)(hCX:∀(w:World)(H:Hp)(s:Shared)(e:Value)(s':Shared),CX w [] H s (λ_ _ _=>False) e s'->False):PySem.W.WalkO q loose XP YP l.row.toRowW d [] (λf vs=>PySem.call f vs):=by refine Att.Zo hn hdf λw s₀ s₁ mg mb fa o pm cd doc a vs ns G Y ho hd hcd hmg zCU hints hlen hg=>?_;have KX:=hY w _ Y;obtain⟨fd,hb,hF⟩:=F w mg fa _ KX G.T.g hmg;exact MY KX G.T.g G.T.b G.T.builtins G.T.nolimit (G.T.seer hq) hg zCU hints (aL hlen hn2) hr hF hb (λH hO hS=>hsp w H a ns hlen hO hS) λH e s'=>hCX w H s₁ e s'
def lC(s:Stmt):Arguments:=match s with|.FunctionDef _ a _ _ _ _ _ _ _ _=>a|_=>{posonlyargs:=[],args:=[],vararg:=none,kwonlyargs:=[],kw_defaults:=[],kwarg:=none,defaults:=[]}
def ft(s:Stmt):List Stmt:=match s with|.FunctionDef _ _ b _ _ _ _ _ _ _=>b|_=>[]
def aK(s:Stmt):Scope:=match s with|.FunctionDef _ _ _ _ _ _ sc _ _ _=>sc|_=>{kind:=.function,names:=[],isGenerator:=false,isCoroutine:=false}
abbrev uw:Tt:=λ_ _ _ _ _ _=>False
abbrev E0:XK:=λ_ _ _=>False
def ER{X:Cx}:rC uw X E0:=λ_ _ _ _ _ _ _ h=>h.elim
structure Fun(K:gS)(x qual:Str)(st:Stmt)(f:Addr)(fd:FuncData):Prop where
 ex:∃(oc:Value)(od:Option Addr)(kV doc pm:Value)(an:Option Addr)(XR ct:Value)(osl:Array (Option Value)),
  fd=fnOf x qual (lC st) (ft st) (aK st) .none kV doc pm an XR ct/\K.lookup f=some ⟨oc,od,.func fd,osl⟩/\codeIn K XR qual=true
 kp:keepIn K (.ref f)=true
def Fun.ok{st:Stmt}{ps:fV}{sp:Sp}(F:Fun K x qual st f fd)(S:bx N ps (aK st))(len:∀vs H Q E,sp vs H Q E->vs.length=ps.length)(zA1:∀(XR:Value)(A:Around)(outer:List Env)(s:Shared)(H:Hp)(vs:ij)(Q:VK)(E:XK),XN k (A.deeper<|envOfC qual (aK st) s.heap.objs.size f XR)->sp vs H Q E->∃t,ZJ (A6 uw P w K mg base N qual (aK st) f XR A outer s H E).YX (ft st) t/\t {nx:=λ_ H'=>Q .Xf H',rt:=Q} (start N vs) H):mw P w K mg base uw (k+1) f fd ps sp:=by obtain⟨oc,od,kV,doc,pm,an,XR,ct,osl,rfl,lk,hcd⟩:=F.ex;refine Uu lk hcd S len λA outer s H vs Q E hr hsp=>?_;obtain⟨t,h,q⟩:=zA1 XR A outer s H vs Q E hr hsp;exact⟨t,h.YX,q⟩
def Fun.binds{st:Stmt}{ps:fV}(F:Fun K x qual st f fd)(h:∀(kV doc pm:Value)(an:Option Addr)(XR ct:Value)(us:jt),us.length=ps.length->bindArgs (fnOf x qual (lC st) (ft st) (aK st) .none kV doc pm an XR ct) ⟨us,[]⟩=pure (ps.zip us)):Binds K fd ps []:=by obtain⟨oc,od,kV,doc,pm,an,XR,ct,osl,rfl,lk,hcd⟩:=F.ex;exact .all<|h kV doc pm an XR ct
def Ss{x qual:Str}{st:Stmt}{f:Addr}{an:Option Addr}{kV doc pm XR ct:Value}(l:K.lookup f=some ⟨oc,od,.func<|fnOf x qual (lC st) (ft st) (aK st) .none kV doc pm an XR ct,osl⟩)(c:codeIn K XR qual=true)(k:keepIn K (.ref f)=true):Fun K x qual st f (fnOf x qual (lC st) (ft st) (aK st) .none kV doc pm an XR ct):=⟨⟨oc,od,kV,doc,pm,an,XR,ct,osl,rfl,l,c⟩,k⟩
section
variable {X:Cx}
def pv(i:Nat)(hN:X.N[i]?=some x:=by rfl)(hv:Tq X.env.scope x:=by first |exact Or.inl rfl |exact Or.inr (Or.inl rfl) |exact Or.inr<|Or.inr rfl)(hd:D2 x:=by decide)(hcd:(x==("__classdict__":Str))=false:=by decide):PE X (.Name x pos) (Ri i):=MH hN hv hd hcd
end
def W8(H H':Hp):Prop:=∀b o,H b=some o->H' b=some o
def W8.refl(H:Hp):W8 H H:=λ_ _ h=>h
def W8.trans(a:W8 H H1)(b:W8 H1 H2):W8 H H2:=λc o h=>b c o<|a c o h
def W8.free{l:Addr}(e:W8 H H')(h:H' l=Option.none):H l=Option.none:=by cases q:H l with|none=>rfl|some o=>rw[e l o q]at h;cases h
def W8.seq(e:W8 H H')(h:XU K H a xs):XU K H' a xs:=by rcases h with(h |⟨o,h⟩) |h;exact .inl<|.inl<|e _ _ h;exact .inl<|.inr ⟨o,e _ _ h⟩;exact .inr h
end L2
namespace L2.EV
open PySem PySem.W PySem.Spec PyProof.Rows
variable {α:Type}
variable {K:gS}
inductive D where
 |Xf |bl (b:Bool) |int (i:Int) |str (x:Str) |tup (xs:List D) |lst (xs:List D) |Yh (ns:az) |exc (C:Addr) |exh (C ea:Addr) |Xm (kvs:List (az×Int)) |adr (p:Addr) |stt (q:Addr)
abbrev ck:=List D
def QY(a C:Addr):Heap->Prop:=λh=>∃ob vs,h.get? a=some ob/\ob.cls=.ref C/\ob.data=.fields vs/\vs[2]?=some .none
def UA(o:Obj)(xs:List (az×Addr×Int)):Prop:=o.ExactDict/\∃(es:Array DictEntry)(ep:Nat)(ys:List (az×Addr×Value)),o.data=.dict es ep/\(∀(P:Program)(w:World),es.toList=ys.map (entryOfKey<|tupleKind<|intKind P w))/\Paired (λ(x:az×Addr×Int)(y:az×Addr×Value)=>y.1=x.1/\y.2.1=x.2.1/\RelV (.int x.2.2) y.2.2) xs ys/\(ys.map (·.1)).Nodup
def ib(a:Addr)(xs:List (az×Addr×Int)):Heap->Prop:=λh=>xs.length<=sizeLine/\(a==sysModules)=false/\∃o,h.get? a=some o/\UA o xs
def XS(F:Hp)(kvs:List (az×Int))(xs:List (az×Addr×Int)):Prop:=kvs=xs.map (λx=>(x.1,x.2.2))/\∀x∈xs,F x.2.1=some (.tup<|x.1.map V.int)
def XS.mono{kvs:List (az×Int)}{xs:List (az×Addr×Int)}(h:W8 F F')(r:XS F kvs xs):XS F' kvs xs:=⟨r.1,λx hx=>h _ _<|r.2 x hx⟩
mutual
inductive Rep(K:gS)(F:Hp):V->D->Prop where
 |Xf:Rep K F .Xf .Xf
 |bl (b:Bool):Rep K F (.bl b) (.bl b)
 |int (i:Int):Rep K F (.int i) (.int i)
 |str (x:Str):Rep K F (.str x) (.str x)
 |tup {a:Addr} {vs:ij} {ds:ck}:F a=some (.tup vs)->W3 K F vs ds->Rep K F (.ref a) (.tup ds)
 |lst {a:Addr} {vs:ij} {ds:ck}:F a=some (.lst vs)->W3 K F vs ds->Rep K F (.ref a) (.lst ds)
 |Yh {a:Addr} {ns:az}:XU K F a (ns.map V.int)->Rep K F (.ref a) (.Yh ns)
 |exc {a C:Addr} {ob:Obj}:F a=some (.Ym ob<|.ext<|QY a C)->Rep K F (.ref a) (.exc C)
 |exh {a C:Addr} {ob:Obj}:F a=some (.Ym ob<|.ext<|QY a C)->Rep K F (.ref a) (.exh C a)
 |Xm {a:Addr} {ob:Obj} {kvs:List (az×Int)} {xs:List (az×Addr×Int)}:F a=some (.Ym ob<|.ext<|ib a xs)->XS F kvs xs->Rep K F (.ref a) (.Xm kvs)
 |adr (a:Addr):Rep K F (.ref a) (.adr a)
 |stt {a q:Addr}:F a=some (.dK [(Sum.inr "xs",.ref q)])->Rep K F (.ref a) (.stt q)
inductive W3(K:gS)(F:Hp):ij->ck->Prop where
 |nil:W3 K F [] []
 |cons {v:V} {d:D} {vs:ij} {ds:ck}:Rep K F v d->W3 K F vs ds->W3 K F (v::vs) (d::ds)
end
mutual
theorem Rep.mono(h:W8 F F'):∀{v:V}{d:D},Rep K F v d->Rep K F' v d
 |_,_,.Xf=>.Xf|_,_,.bl b=>.bl b
 |_,_,.int i=>.int i|_,_,.str x=>.str x
 |_,_,.tup e r=>.tup (h _ _ e) (W3.mono h r)|_,_,.lst e r=>.lst (h _ _ e)<|W3.mono h r
 |_,_,.Yh e=>.Yh (h.seq e)|_,_,.exc e=>.exc<|h _ _ e
 |_,_,.exh e=>.exh (h _ _ e)|_,_,.Xm e r=>.Xm (h _ _ e)<|r.mono h
 |_,_,.adr a=>.adr a|_,_,.stt e=>.stt<|h _ _ e
theorem W3.mono(h:W8 F F'):∀{vs:ij}{ds:ck},W3 K F vs ds->W3 K F' vs ds|_,_,.nil=>.nil|_,_,.cons r t=>.cons (Rep.mono h r)<|W3.mono h t
end
theorem W3.length:∀{vs:ij}{ds:ck},W3 K F vs ds->vs.length=ds.length|_,_,.nil=>rfl|_,_,.cons _ t=>bo Nat.succ<|W3.length t
theorem W3.get:∀{vs:ij}{ds:ck}{i:Nat}{d:D},W3 K F vs ds->ds[i]?=some d->∃v,vs[i]?=some v/\Rep K F v d
 |_,_,_,_,.nil,e=>by simp at e|_,_,0,_,.cons r _,e=>by simp at e;subst e;exact⟨_,rfl,r⟩
 |_,_,i+1,d,.cons _ t,e=>by obtain⟨v,h1,h2⟩:=W3.get t e;exact⟨v,by simpa using h1,h2⟩
theorem W3.append:∀{vs us:ij}{ds es:ck},W3 K F vs ds->W3 K F us es->W3 K F (vs++us) (ds++es)|_,_,_,_,.nil,s=>s|_,_,_,_,.cons r t,s=>.cons r<|W3.append t s
theorem W3.take:∀{vs:ij}{ds:ck}(n:Nat),W3 K F vs ds->W3 K F (vs.take n) (ds.take n)
 |_,_,0,_=>.nil|_,_,_+1,.nil=>.nil
 |_,_,n+1,.cons r t=>.cons r<|W3.take n t
theorem W3.drop:∀{vs:ij}{ds:ck}(n:Nat),W3 K F vs ds->W3 K F (vs.drop n) (ds.drop n)
 |_,_,0,r=>r|_,_,_+1,.nil=>.nil
 |_,_,n+1,.cons _ t=>W3.drop n t
theorem W3.set(r:Rep K F v d):∀{vs:ij}{ds:ck}(i:Nat),W3 K F vs ds->W3 K F (vs.set i v) (ds.set i d)
 |_,_,_,.nil=>.nil|_,_,0,.cons _ t=>.cons r t
 |_,_,i+1,.cons q t=>.cons q<|W3.set r i t
def W3.dropLast{ds:ck}(h:W3 K F vs ds):W3 K F vs.dropLast ds.dropLast:=by rw[Wv,Wv,h.length];exact h.take _
theorem W3.reverse:∀{vs:ij}{ds:ck},W3 K F vs ds->W3 K F vs.reverse ds.reverse|_,_,.nil=>.nil|_,_,.cons r t=>by rw[gK,gK];exact W3.append (W3.reverse t)<|.cons r .nil
theorem W3.rep{ds:ck}(h:W3 K F vs ds):∀k:Nat,W3 K F (List.replicate k vs).flatten (List.replicate k ds).flatten|0=>.nil|k+1=>by rw[dF,dF,gL,gL];exact W3.append h<|W3.rep h k
theorem W3.ints:∀ns:az,W3 K F (ns.map V.int) (ns.map D.int)|[]=>.nil|n::ns=>.cons (.int n)<|W3.ints ns
theorem W3.XZ:∀{ns:az}{vs:ij},W3 K F vs (ns.map D.int)->vs=ns.map V.int
 |[],_,h=>by cases h;rfl
 |n::ns,_,h=>by cases h with|cons r t=>cases r;rw[bY,W3.XZ t]
structure B0 where
 F:Hp
 H:Hp
structure Ext(B:B0)(F H:Hp):Prop where
 sub:W8 F H
 sh:W8 B.H H
 sf:W8 B.F F
 nw:∀a,F a≠none->B.F a≠none\/B.H a=none
inductive Sl where
 |un |val (d:D) |own (xs:ck) |X6 (kvs:List (az×Int))
abbrev Lg(N:List Str)(ds:List D):List Sl:=ds.map Sl.val++List.replicate (N.length-ds.length) Sl.un
abbrev WW(x:D)(N:List Str)(ds:List D):List Sl:=.val x::ds.map Sl.val++List.replicate (N.length-(ds.length+1)) Sl.un
structure DOk(B:B0)(F H:Hp)(Y:St)(U:List Sl):Prop where
 Y3:∀(i:Nat)kvs,U[i]?=some (.X6 kvs)->∃a es,Y[i]?=some (some<|.ref a)/\H a=some (.ext<|ib a es)/\F a=none/\B.H a=none/\XS F kvs es
 Y6:∀(i j:Nat)xs ys a,U[i]?=some (.X6 xs)->U[j]?=some (.X6 ys)->Y[i]?=some (some<|.ref a)->Y[j]?=some (some<|.ref a)->i=j
def DOk.to{H':Hp}{XV:St}{U ρ':List Sl}(k:DOk B F H Y U)(hF:W8 F F')(hH:∀a φ,H a=some (.ext φ)->F a=none->B.H a=none->H' a=some (.ext φ)/\F' a=none)(hρ:∀(i:Nat)kvs,ρ'[i]?=some (.X6 kvs)->U[i]?=some (.X6 kvs)/\XV[i]?=Y[i]?):DOk B F' H' XV ρ':=by refine⟨λi kvs e=>?_,λi j xs ys a e1 e2 e3 e4=>?_⟩;obtain⟨q,z⟩:=hρ i kvs e;obtain⟨a,es,h1,h2,h3,h4,h5⟩:=k.Y3 i kvs q;obtain⟨g1,g2⟩:=hH a _ h2 h3 h4;exact⟨a,es,z.trans h1,g1,g2,h4,h5.mono hF⟩;obtain⟨q1,z1⟩:=hρ i xs e1;obtain⟨q2,z2⟩:=hρ j ys e2;exact k.Y6 i j xs ys a q1 q2 (z1▸e3)<|z2▸e4
def Ct{Y:St}{U:List Sl}{v:Option V}{s:Sl}(hs:∀kvs,s≠.X6 kvs)(j:Nat)(kvs:List (az×Int))(h:(U.set i s)[j]?=some (.X6 kvs)):U[j]?=some (.X6 kvs)/\(Y.set i v)[j]?=Y[j]?:=by
 by_cases e:i=j;subst e;rw[c6]at h;cases z:U[i]? with
 |none=>rw[z]at h;cases h
 |some w=>rw[z]at h;exact absurd (bC h)<|hs kvs
 rw[aB e]at h ⊢;exact⟨h,rfl⟩
def uK{Y:St}{U:List Sl}{s:Sl}(hs:∀kvs,s≠.X6 kvs)(j:Nat)(kvs:List (az×Int))(h:(U.set i s)[j]?=some (.X6 kvs)):U[j]?=some (.X6 kvs)/\Y[j]?=Y[j]?:=⟨(Ct (Y:=[]) (v:=none) hs j kvs h).1,rfl⟩
structure Ok(K:gS)(B:B0)(F H:Hp)(Y:St)(U:List Sl):Prop extends Ext B F H where
 len:Y.length=U.length
 vals:∀(i:Nat)d,U[i]?=some (.val d)->∃v,Y[i]?=some (some v)/\Rep K F v d
 XJ:∀(i:Nat)xs,U[i]?=some (.own xs)->∃a vs,Y[i]?=some (some<|.ref a)/\H a=some (.lst vs)/\F a=none/\B.H a=none/\W3 K F vs xs
 dist:∀(i j:Nat)xs ys a,U[i]?=some (.own xs)->U[j]?=some (.own ys)->Y[i]?=some (some<|.ref a)->Y[j]?=some (some<|.ref a)->i=j
 Xm:DOk B F H Y U
def bG{H:Hp}{p:Addr}(h:H p=none):W8 H (fN H p o):=λb u q=>by rwa[bq<|eH q h]
def D7(h:W8 F H):W8 (fN F p o) (fN H p o):=λb u q=>by by_cases hb:b=p;subst hb;rw[bI]at q ⊢;exact q;rw[bq hb]at q ⊢;exact h b u q
section
variable {U:List Sl}
def Ext.refl(h:W8 F H):Ext ⟨F,H⟩ F H:=⟨h,.refl _,.refl _,λa q=>.inl q⟩
def Ext.trans(x:Ext B F H)(y:Ext ⟨F,H⟩ F' H'):Ext B F' H':=⟨y.sub,x.sh.trans y.sh,x.sf.trans y.sf,λa q=>by rcases y.nw a q with z |z;exact x.nw a z;exact .inr<|x.sh.free z⟩
def Ext.kf{a:Addr}(y:Ext B F' H')(h1:B.F a=none)(h2:B.H a=some o):F' a=none:=by
 cases q:F' a with
 |none=>rfl
 |some u=>
  rcases y.nw a (by rw[q];exactλz=>nomatch z)with z |z
  exact absurd h1 z;exact nomatch h2.symm.trans z
def Ext.grow{p:Addr}(x:Ext B F H)(hp:H p=none):Ext B (fN F p o) (fN H p o):=⟨D7 x.sub,x.sh.trans<|bG hp,x.sf.trans<|bG<|x.sub.free hp,λa q=>by by_cases h:a=p;subst h;exact .inr<|x.sh.free hp;rw[bq h]at q;exact x.nw a q⟩
def Ok.ext(k:Ok K B F H Y U)(y:Ext ⟨F,H⟩ F' H'):Ok K B F' H' Y U:=by refine⟨k.toExt.trans y,k.len,λi d e=>?_,λi xs e=>?_,k.dist,k.Xm.to y.sf (λa φ e1 e2 e3=>⟨y.sh _ _ e1,?_⟩) λ_ _ e=>⟨e,rfl⟩⟩;rotate_left 2;exact y.kf e2 e1;obtain⟨v,h1,h2⟩:=k.vals i d e;exact⟨v,h1,h2.mono y.sf⟩;obtain⟨a,vs,h1,h2,h3,h4,h5⟩:=k.XJ i xs e;refine⟨a,vs,h1,y.sh _ _ h2,?_,h4,h5.mono y.sf⟩;exact y.kf h3 h2
def Ok.zEX{p:Addr}(k:Ok K B F H Y U)(hp:H p=none):Ok K B F (fN H p o) Y U:=k.ext ⟨k.sub.trans<|bG hp,bG hp,.refl _,λa q=>.inl q⟩
def Xh(Y:St)(U:List Sl)(p:Addr):Prop:=∀(i:Nat)xs,U[i]?=some (.own xs)->Y[i]?≠some (some<|.ref p)
def Ok.noOwn{p:Addr}(k:Ok K B F H Y U)(hp:H p=none):Xh Y U p:=λi xs e q=>by obtain⟨a,vs,h1,h2,_⟩:=k.XJ i xs e;rw[h1]at q;cases q;rw[hp]at h2;cases h2
def Ok.freeze{p:Addr}(k:Ok K B F H Y U)(hp:H p=some (.lst vs))(hf:F p=none)(hb:B.H p=none)(hn:Xh Y U p):Ok K B (fN F p<|.lst vs) H Y U:=by
 have sf:W8 F (fN F p<|.lst vs):=bG hf;refine⟨⟨λb u q=>?_,k.sh,k.sf.trans sf,λa q=>?_⟩,k.len,λi d e=>?_,λi xs e=>?_,k.dist,k.Xm.to sf (λa φ e1 e2 _=>⟨e1,by rwa[bq λz=>by subst z;rw[hp]at e1;cases e1]⟩) λ_ _ e=>⟨e,rfl⟩⟩;by_cases h:b=p;subst h;rw[bI]at q;cases q;exact hp;rw[bq h]at q;exact k.sub b u q;by_cases h:a=p;subst h;exact .inr hb;rw[bq h]at q;exact k.nw a q;let⟨v,h1,h2⟩:=k.vals i d e;exact⟨v,h1,h2.mono sf⟩;let⟨a,ws,h1,h2,h3,h4,h5⟩:=k.XJ i xs e;have ne:a≠p:=λz=>by subst z;exact hn i xs e h1
 exact⟨a,ws,h1,h2,by rwa[bq ne],h4,h5.mono sf⟩
def Ok.Xq(k:Ok K B F H Y U)(i:Nat)(r:Rep K F v d):Ok K B F H (Y.set i<|some v) (U.set i<|.val d):=by
 refine⟨k.toExt,by rw[bE,bE,k.len],λj e q=>?_,λj xs q=>?_,λj l xs ys a q1 q2 q3 q4=>?_,k.Xm.to (.refl _) (λ_ _ e1 e2 _=>⟨e1,e2⟩) (Ct λ_ z=>nomatch z)⟩;by_cases h:i=j;subst h;rw[c6]at q;cases z:U[i]? with
 |none=>rw[z]at q;cases q
 |some w=>
  rw[z]at q;cases q;have hi:i<Y.length:=by rw[k.len];exact(aG.mp z).1
  exact⟨v,by rw[a9 hi],r⟩
 rw[aB h]at q ⊢;exact k.vals j e q;by_cases h:i=j;subst h;rw[c6]at q;cases z:U[i]? with
 |none=>rw[z]at q;cases q
 |some w=>rw[z]at q;cases q
 rw[aB h]at q ⊢;exact k.XJ j xs q;have n1:i≠j:=by
  rintro rfl;rw[c6]at q1;cases z:U[i]? with
  |none=>rw[z]at q1;cases q1
  |some w=>rw[z]at q1;cases q1
 have n2:i≠l:=by
  rintro rfl;rw[c6]at q2;cases z:U[i]? with
  |none=>rw[z]at q2;cases q2
  |some w=>rw[z]at q2;cases q2
 rw[aB n1]at q1 q3;rw[aB n2]at q2 q4;exact k.dist j l xs ys a q1 q2 q3 q4
def Ok.Yy{ds:ck}{p:Addr}(k:Ok K B F H Y U)(i:Nat)(hp:H p=some (.lst vs))(hf:F p=none)(hb:B.H p=none)(hn:Xh Y U p)(r:W3 K F vs ds):Ok K B F H (Y.set i<|some<|.ref p) (U.set i<|.own ds):=by
 refine⟨k.toExt,by rw[bE,bE,k.len],λj e q=>?_,λj xs q=>?_,λj l xs ys a q1 q2 q3 q4=>?_,k.Xm.to (.refl _) (λ_ _ e1 e2 _=>⟨e1,e2⟩) (Ct λ_ z=>nomatch z)⟩;by_cases h:i=j;subst h;rw[c6]at q;cases z:U[i]? with
 |none=>rw[z]at q;cases q
 |some w=>rw[z]at q;cases q
 rw[aB h]at q ⊢;exact k.vals j e q;by_cases h:i=j;subst h;rw[c6]at q;cases z:U[i]? with
 |none=>rw[z]at q;cases q
 |some w=>
  rw[z]at q;cases q;have hi:i<Y.length:=by rw[k.len];exact(aG.mp z).1
  exact⟨p,vs,by rw[a9 hi],hp,hf,hb,r⟩
 rw[aB h]at q ⊢;exact k.XJ j xs q;by_cases n1:i=j;by_cases n2:i=l;exact n1.symm.trans n2;subst n1;rw[aB n2]at q2 q4;have hi:i<Y.length:=by have:=(aG.mp q3).1;rw[bE]at this;exact this
 rw[a9 hi]at q3;cases q3;exact absurd q4<|hn l ys q2;by_cases n2:i=l;subst n2;rw[aB n1]at q1 q3;have hi:i<Y.length:=by have:=(aG.mp q4).1;rw[bE]at this;exact this
 rw[a9 hi]at q4;cases q4;exact absurd q3<|hn j xs q1;rw[aB n1]at q1 q3;rw[aB n2]at q2 q4;exact k.dist j l xs ys a q1 q2 q3 q4
def Ok.Ye{vs:ij}{ds:ck}{i:Nat}(k:Ok K B F H Y U)(hi:U[i]?=some (.own xs))(hs:Y[i]?=some (some<|.ref p))(r:W3 K F ws ds):Ok K B F (fN H p<|.lst ws) Y (U.set i<|.own ds):=by
 obtain⟨a,us,h1,h2,h3,h4,h5⟩:=k.XJ i xs hi;rw[h1]at hs;cases hs;have XQ:=(aG.mp hi).1;refine⟨⟨λb u q=>?_,λb u q=>?_,k.sf,k.nw⟩,by rw[bE,k.len],λj e q=>?_,λj ys q=>?_,λj l ys zs b q1 q2 q3 q4=>?_,k.Xm.to (.refl _) (λb φ e1 e2 _=>⟨by rwa[bq λz=>by subst z;rw[h2]at e1;cases e1],e2⟩) (uK λ_ z=>nomatch z)⟩;have ne:b≠p:=λz=>by subst z;rw[h3]at q;cases q
 rw[bq ne];exact k.sub b u q;have ne:b≠p:=λz=>by subst z;rw[h4]at q;cases q
 rw[bq ne];exact k.sh b u q;by_cases h:i=j;subst h;rw[a9 XQ]at q;cases q;rw[aB h]at q;exact k.vals j e q;by_cases h:i=j;subst h;rw[a9 XQ]at q;cases q;exact⟨p,ws,h1,bI,h3,h4,r⟩;rw[aB h]at q;obtain⟨b,YM,g1,g2,g3,g4,g5⟩:=k.XJ j ys q;have ne:b≠p:=λz=>by subst z;exact h<|k.dist i j xs ys b hi q h1 g1
 exact⟨b,YM,g1,by rwa[bq ne],g3,g4,g5⟩;have own:∀(m:Nat)ys,(U.set i<|.own ds)[m]?=some (.own ys)->∃zs,U[m]?=some (.own zs):=λm ys q=>by by_cases h:i=m;subst h;exact⟨xs,hi⟩;rw[aB h]at q;exact⟨ys,q⟩
 obtain⟨y1,z1⟩:=own j ys q1;obtain⟨y2,z2⟩:=own l zs q2;exact k.dist j l _ _ b z1 z2 q3 q4
def Ok.Zl{i:Nat}(k:Ok K B F H Y U)(hi:U[i]?=some (.own xs)):∃F',W8 F F'/\Ok K B F' H Y (U.set i<|.val<|.lst xs):=by
 obtain⟨a,us,h1,h2,h3,h4,h5⟩:=k.XJ i xs hi;have XQ:=(aG.mp hi).1;have sf:W8 F (fN F a<|.lst us):=bG h3;have ZY:∀j ys,(U.set i<|.val<|.lst xs)[j]?=some (.own ys)->i≠j/\U[j]?=some (.own ys):=λj ys q=>by by_cases h:i=j;subst h;rw[a9 XQ]at q;cases q;rw[aB h]at q;exact⟨h,q⟩
 refine⟨fN F a<|.lst us,sf,⟨λb u q=>?_,k.sh,k.sf.trans sf,λb q=>?_⟩,by rw[bE,k.len],λj e q=>?_,λj ys q=>?_,λj l ys zs b q1 q2 q3 q4=>?_,k.Xm.to sf (λb φ e1 e2 _=>⟨e1,by rwa[bq λz=>by subst z;rw[h2]at e1;cases e1]⟩) (uK λ_ z=>nomatch z)⟩;by_cases h:b=a;subst h;rw[bI]at q;cases q;exact h2;rw[bq h]at q;exact k.sub b u q;by_cases h:b=a;subst h;exact .inr h4;rw[bq h]at q;exact k.nw b q;by_cases h:i=j;subst h;rw[a9 XQ]at q;cases q;exact⟨_,h1,.lst bI<|h5.mono sf⟩;rw[aB h]at q;obtain⟨v,g1,g2⟩:=k.vals j e q;exact⟨v,g1,g2.mono sf⟩;obtain⟨h,q⟩:=ZY j ys q;obtain⟨b,YM,g1,g2,g3,g4,g5⟩:=k.XJ j ys q;have ne:b≠a:=λz=>by subst z;exact h<|k.dist i j xs ys b hi q h1 g1
 exact⟨b,YM,g1,g2,by rwa[bq ne],g4,g5.mono sf⟩;exact k.dist j l _ _ b (ZY j ys q1).2 (ZY l zs q2).2 q3 q4
def Ok.drop(k:Ok K B F H Y U)(i:Nat):Ok K B F H Y (U.set i .un):=by
 have keep:∀(j:Nat)s,(U.set i .un)[j]?=some s->s≠.un->U[j]?=some s:=λj s q hn=>by
  by_cases h:i=j;subst h;rw[c6]at q;cases z:U[i]? with
  |none=>rw[z]at q;cases q
  |some w=>rw[z]at q;cases q;exact absurd rfl hn
  rw[aB h]at q;exact q
 refine⟨k.toExt,by rw[bE,k.len],λj d q=>k.vals j d (keep j _ q λz=>nomatch z),λj xs q=>k.XJ j xs (keep j _ q λz=>nomatch z),λj l xs ys a q1 q2=>k.dist j l xs ys a (keep j _ q1 λz=>nomatch z) (keep l _ q2 λz=>nomatch z),k.Xm.to (.refl _) (λ_ _ e1 e2 _=>⟨e1,e2⟩) (uK λ_ z=>nomatch z)⟩
end
set_option autoImplicit true
structure wE(X:Cx)(e:Expr)(Y:St)(H:Hp)(Q:VK):Prop where
 go:∀(on:jn)(s:Shared),Inv X on Y H s->gA X (eval e X.env) (EP X on Y Q) X.xe s
instance zLH {X:Cx} {e:Expr} {Y:St} {H:Hp} {Q:VK}:CoeFun (wE X e Y H Q) (λ_=>∀(on:jn)(s:Shared),Inv X on Y H s->gA X (eval e X.env) (EP X on Y Q) X.xe s):=⟨wE.go⟩
structure wT(X:Cx)(e:Expr)(Y:St)(H:Hp)(Q:(Bool->Hp->Prop)):Prop where
 go:∀(on:jn)(s:Shared),Inv X on Y H s->gA X (isTrue e X.env<|eval e X.env) (TP X on Y Q) X.xe s
instance zLC {X:Cx} {e:Expr} {Y:St} {H:Hp} {Q:Bool->Hp->Prop}:CoeFun (wT X e Y H Q) (λ_=>∀(on:jn)(s:Shared),Inv X on Y H s->gA X (isTrue e X.env<|eval e X.env) (TP X on Y Q) X.xe s):=⟨wT.go⟩
structure wW(X:Cx)(e:Expr)(Y:St)(H:Hp)(Q:(Bool->Hp->Prop)):Prop where
 go:∀(whole:Sem Value)(on:jn)(s:Shared),Inv X on Y H s->gA X (isTrue e X.env whole) (TP X on Y Q) X.xe s
instance zLB {X:Cx} {e:Expr} {Y:St} {H:Hp} {Q:Bool->Hp->Prop}:CoeFun (wW X e Y H Q) (λ_=>∀(whole:Sem Value)(on:jn)(s:Shared),Inv X on Y H s->gA X (isTrue e X.env whole) (TP X on Y Q) X.xe s):=⟨wW.go⟩
structure wA(X:Cx)(es:vO)(Y:St)(H:Hp)(Q:(ij->Hp->Prop)):Prop where
 go:∀(pos:Pos)(on:jn)(s:Shared),Inv X on Y H s->gA X (spliced<|backTo pos<|starEach es X.env) (AP X on Y Q) X.xe s
instance zLI {X:Cx} {es:vO} {Y:St} {H:Hp} {Q:ij->Hp->Prop}:CoeFun (wA X es Y H Q) (λ_=>∀(pos:Pos)(on:jn)(s:Shared),Inv X on Y H s->gA X (spliced<|backTo pos<|starEach es X.env) (AP X on Y Q) X.xe s):=⟨wA.go⟩
structure wS(X:Cx)(st:Stmt)(D:pY)(Y:St)(H:Hp):Prop where
 go:∀(on:jn)(s:Shared),Inv X on Y H s->gA X (exec st X.env) (SP X on D) X.xe s
instance zLD {X:Cx} {st:Stmt} {D:pY} {Y:St} {H:Hp}:CoeFun (wS X st D Y H) (λ_=>∀(on:jn)(s:Shared),Inv X on Y H s->gA X (exec st X.env) (SP X on D) X.xe s):=⟨wS.go⟩
structure wSs(X:Cx)(st:List Stmt)(D:pY)(Y:St)(H:Hp):Prop where
 go:∀(on:jn)(s:Shared),Inv X on Y H s->gA X (execs st X.env) (SP X on D) X.xe s
instance zH6 {X:Cx} {st:List Stmt} {D:pY} {Y:St} {H:Hp}:CoeFun (wSs X st D Y H) (λ_=>∀(on:jn)(s:Shared),Inv X on Y H s->gA X (execs st X.env) (SP X on D) X.xe s):=⟨wSs.go⟩
structure wO(X:Cx)(e:Option Expr)(Y:St)(H:Hp)(Q:(Option Int->Hp->Prop)):Prop where
 go:∀(on:jn)(s:Shared),Inv X on Y H s->gA X (evalPart e X.env) (λu s'=>∃o H',Inv X on Y H' s'/\IsPart u o/\Q o H') X.xe s
instance zLE {X:Cx} {e:Option Expr} {Y:St} {H:Hp} {Q:Option Int->Hp->Prop}:CoeFun (wO X e Y H Q) (λ_=>∀(on:jn)(s:Shared),Inv X on Y H s->gA X (evalPart e X.env) (λu s'=>∃o H',Inv X on Y H' s'/\IsPart u o/\Q o H') X.xe s):=⟨wO.go⟩
structure wG(X:Cx)(e:Expr)(v:V)(Y:St)(H:Hp)(Q:(St->Hp->Prop)):Prop where
 go:∀(on:jn)(s:Shared)(u:Value),Inv X on Y H s->RelV v u->gA X (assign e X.env u) (λ_ s'=>∃XV H',Inv X on XV H' s'/\Q XV H') X.xe s
instance zLG {X:Cx} {e:Expr} {v:V} {Y:St} {H:Hp} {Q:St->Hp->Prop}:CoeFun (wG X e v Y H Q) (λ_=>∀(on:jn)(s:Shared)(u:Value),Inv X on Y H s->RelV v u->gA X (assign e X.env u) (λ_ s'=>∃XV H',Inv X on XV H' s'/\Q XV H') X.xe s):=⟨wG.go⟩
section
variable {X:Cx}{st:Stmt}{oe:Option Expr}
def cF:PE X e (wE X e):=λon s _ _ _ I h=>h on s I
def xh:PT X e (wT X e):=λon s _ _ _ I h=>h on s I
def OR:PW X e (wW X e):=λwh on s _ _ _ I h=>h wh on s I
def xi:PA X es (wA X es):=λpos on s _ _ _ I h=>h pos on s I
def G4:PS X st (wS X st):=λon s _ _ _ I h=>h on s I
def lX:ZJ X Y8 (wSs X Y8):=λon s _ _ _ I h=>h on s I
def T3:PO X oe (wO X oe):=λon s _ _ _ I h=>h on s I
def MD:PG X e (wG X e):=λon s _ _ _ u _ I r h=>h on s u I r
end
abbrev dP:=List Sl
def W0(X:Cx)(U:dP)(e:Expr)(d:D):Prop:=∀(B:B0)(F H:Hp)(Y:St)(Q:VK),Ok X.K B F H Y U->(∀v F' H',Ext ⟨F,H⟩ F' H'->Rep X.K F' v d->Q v H')->wE X e Y H Q
def Xe(X:Cx)(U:dP)(e:Expr)(xs:ck):Prop:=∀(B:B0)(F H:Hp)(Y:St)(Q:VK),Ok X.K B F H Y U->(∀p vs F' H',Ext ⟨F,H⟩ F' H'->H p=none->H' p=some (.lst vs)->F' p=none->W3 X.K F' vs xs->Q (.ref p) H')->wE X e Y H Q
def SqB(K:gS)(k:Bool)(H:Hp)(a:Addr)(vs:ij):Prop:=if k=true then XU K H a vs else X1 K H a vs
def Yj(X:Cx)(U:dP)(e:Expr)(k:Bool)(xs:ck):Prop:=∀(B:B0)(F H:Hp)(Y:St)(Q:VK),Ok X.K B F H Y U->(∀a vs F' H',Ext ⟨F,H⟩ F' H'->SqB X.K k H' a vs->W3 X.K F' vs xs->Q (.ref a) H')->wE X e Y H Q
def W5(X:Cx)(U:dP)(e:Expr)(b:Bool):Prop:=∀(B:B0)(F H:Hp)(Y:St)(Q:Bool->Hp->Prop),Ok X.K B F H Y U->(∀F' H',Ext ⟨F,H⟩ F' H'->Q b H')->wT X e Y H Q
def XT(X:Cx)(U:dP)(e:Expr)(b:Bool):Prop:=∀(B:B0)(F H:Hp)(Y:St)(Q:Bool->Hp->Prop),Ok X.K B F H Y U->(∀F' H',Ext ⟨F,H⟩ F' H'->Q b H')->wW X e Y H Q
def Pl(e:Expr):Prop:=∀(es:vO)(env:Env),starEach (e::es) env=(false,eval e env)::starEach es env
def PlA:vO->Prop|[]=>True|e::es=>Pl e/\PlA es
theorem PlA.any{env:Env}:∀{es:vO},PlA es->(backTo pos<|starEach es env).any (·.1)=false|[],_=>rfl|e::es,h=>by rw[h.1 es env];show(false||(backTo pos<|starEach es env).any (·.1))=false;rw[PlA.any h.2];rfl
def K5(X:Cx)(U:dP)(es:vO)(ds:ck):Prop:=PlA es/\∀(B:B0)(F H:Hp)(Y:St)(Q:ij->Hp->Prop),Ok X.K B F H Y U->(∀vs F' H',Ext ⟨F,H⟩ F' H'->W3 X.K F' vs ds->Q vs H')->wA X es Y H Q
def U9(X:Cx)(U:dP)(e:Option Expr)(o:Option Int):Prop:=∀(B:B0)(F H:Hp)(Y:St)(Q:Option Int->Hp->Prop),Ok X.K B F H Y U->(∀F' H',Ext ⟨F,H⟩ F' H'->Q o H')->wO X e Y H Q
inductive Out where
 |nx (U:dP) |rt (d:D)
def ZI(K:gS)(B:B0)(F₀:Hp)(E:pY):Out->Prop|.nx U=>∀F H Y,Ok K B F H Y U->W8 F₀ F->E.nx Y H|.rt d=>∀v F H,Ext B F H->Rep K F v d->E.rt v H
def ZI.later(h:ZI K B F₀ E o)(s:W8 F₀ F₁):ZI K B F₁ E o:=by
 cases o with
 |nx U=>exactλF H Y k s'=>h F H Y k<|s.trans s'
 |rt d=>exact h
def XX(X:Cx)(U:dP)(st:Stmt)(o:Out):Prop:=∀(B:B0)(F H:Hp)(Y:St)(E:pY),Ok X.K B F H Y U->ZI X.K B F E o->wS X st E Y H
def W4(X:Cx)(U:dP)(Y8:List Stmt)(o:Out):Prop:=∀(B:B0)(F H:Hp)(Y:St)(E:pY),Ok X.K B F H Y U->ZI X.K B F E o->wSs X Y8 E Y H
abbrev Go(X:Cx)(N:List Str)(st:Stmt)(C:List D->D->Prop):Prop:=∀ds d,C ds d->W4 X (Lg N ds) (ft st) (.rt d)
def Yr(X:Cx)(U:dP)(tg:Expr)(d:D)(ρ':dP):Prop:=∀(B:B0)(F H:Hp)(Y:St)(v:V)(Q:St->Hp->Prop),Ok X.K B F H Y U->Rep X.K F v d->(∀F' H' XV,Ok X.K B F' H' XV ρ'->W8 F F'->Q XV H')->wG X tg v Y H Q
def XO(X:Cx)(U:dP)(tg:Expr)(d:D)(ρ':dP):Prop:=∀(B:B0)(F H:Hp)(Y:St)(v:V)(Q:St->Hp->Prop),Ok X.K B F H Y U->Rep X.K F v d->(∀XV,Ok X.K B F H XV ρ'->(∀p,Xh Y U p->Xh XV ρ' p)->Q XV H)->wG X tg v Y H Q
def Ext.t{H:Hp}(x:Ext ⟨F,H⟩ F' H')(y:Ext ⟨F',H'⟩ F2 H2):Ext ⟨F,H⟩ F2 H2:=x.trans y
section
variable {X:Cx}
def W0.of(h:PE X e t)(r:∀(B:B0)(F H:Hp)(Y:St)(Q:VK),Ok X.K B F H Y U->(∀v F' H',Ext ⟨F,H⟩ F' H'->Rep X.K F' v d->Q v H')->t Y H Q):W0 X U e d:=λB F H Y Q k q=>.mk λon s I=>h on s Y H Q I<|r B F H Y Q k q
def Xe.of(h:PE X e t)(r:∀(B:B0)(F H:Hp)(Y:St)(Q:VK),Ok X.K B F H Y U->(∀p vs F' H',Ext ⟨F,H⟩ F' H'->H p=none->H' p=some (.lst vs)->F' p=none->W3 X.K F' vs xs->Q (.ref p) H')->t Y H Q):Xe X U e xs:=λB F H Y Q k q=>.mk λon s I=>h on s Y H Q I<|r B F H Y Q k q
def Yj.of(h:PE X e t)(r:∀(B:B0)(F H:Hp)(Y:St)(Q:VK),Ok X.K B F H Y U->(∀a vs F' H',Ext ⟨F,H⟩ F' H'->SqB X.K k H' a vs->W3 X.K F' vs xs->Q (.ref a) H')->t Y H Q):Yj X U e k xs:=λB F H Y Q k q=>.mk λon s I=>h on s Y H Q I<|r B F H Y Q k q
def W5.of{t:TT}(h:PT X e t)(r:∀(B:B0)(F H:Hp)(Y:St)(Q:Bool->Hp->Prop),Ok X.K B F H Y U->(∀F' H',Ext ⟨F,H⟩ F' H'->Q b H')->t Y H Q):W5 X U e b:=λB F H Y Q k q=>.mk λon s I=>h on s Y H Q I<|r B F H Y Q k q
def XT.of{t:TT}(h:PW X e t)(r:∀(B:B0)(F H:Hp)(Y:St)(Q:Bool->Hp->Prop),Ok X.K B F H Y U->(∀F' H',Ext ⟨F,H⟩ F' H'->Q b H')->t Y H Q):XT X U e b:=λB F H Y Q k q=>.mk λwh on s I=>h wh on s Y H Q I<|r B F H Y Q k q
def XX.of{st:Stmt}(h:PS X st t)(r:∀(B:B0)(F H:Hp)(Y:St)(E:pY),Ok X.K B F H Y U->ZI X.K B F E o->t E Y H):XX X U st o:=λB F H Y E k q=>.mk λon s I=>h on s Y H E I<|r B F H Y E k q
def W4.of(h:ZJ X Y8 t)(r:∀(B:B0)(F H:Hp)(Y:St)(E:pY),Ok X.K B F H Y U->ZI X.K B F E o->t E Y H):W4 X U Y8 o:=λB F H Y E k q=>.mk λon s I=>h on s Y H E I<|r B F H Y E k q
def Yr.of(h:PG X e t)(r:∀(B:B0)(F H:Hp)(Y:St)(v:V)(Q:St->Hp->Prop),Ok X.K B F H Y U->Rep X.K F v d->(∀F' H' XV,Ok X.K B F' H' XV ρ'->W8 F F'->Q XV H')->t v Y H Q):Yr X U e d ρ':=λB F H Y v Q k rv q=>.mk λon s u I ru=>h on s Y H v u Q I ru<|r B F H Y v Q k rv q
def XO.of(h:PG X e t)(r:∀(B:B0)(F H:Hp)(Y:St)(v:V)(Q:St->Hp->Prop),Ok X.K B F H Y U->Rep X.K F v d->(∀XV,Ok X.K B F H XV ρ'->(∀p,Xh Y U p->Xh XV ρ' p)->Q XV H)->t v Y H Q):XO X U e d ρ':=λB F H Y v Q k rv q=>.mk λon s u I ru=>h on s Y H v u Q I ru<|r B F H Y v Q k rv q
def Xh.Xq(h:Xh Y U p)(i:Nat)(v:Option V)(d:D):Xh (Y.set i v) (U.set i<|.val d) p:=λj xs e q=>by
 by_cases hj:i=j;subst hj;rw[c6]at e;cases z:U[i]? with
 |none=>rw[z]at e;cases e
 |some w=>rw[z]at e;cases e
 rw[aB hj]at e q;exact h j xs e q
def Ext.freeze{H:Hp}{p:Addr}(x:Ext ⟨F,H⟩ F' H')(h0:H p=none)(hp:H' p=some (.lst vs))(hf:F' p=none):Ext ⟨F,H⟩ (fN F' p<|.lst vs) H':=⟨λb u q=>by
  by_cases h:b=p;subst h;rw[bI]at q;cases q;exact hp;rw[bq h]at q;exact x.sub b u q,x.sh,x.sf.trans<|bG hf,λa q=>by
  by_cases h:a=p;subst h;exact .inr h0;rw[bq h]at q;exact x.nw a q⟩
def Xe.Xk(h:Xe X U e xs):W0 X U e (.lst xs):=λB F H Y Q k q=>h B F H Y Q k λp vs F' H' x h0 hp hf r=>q _ _ _ (x.freeze h0 hp hf)<|.lst bI<|r.mono<|bG hf
def SqB.mono(s:W8 H H')(h:SqB K k H a vs):SqB K k H' a vs:=by cases k with|true=>exact s.seq h|false=>rcases h with(h |⟨o,h⟩) |h;exact .inl<|.inl<|s _ _ h;exact .inl<|.inr ⟨o,s _ _ h⟩;exact .inr h
def W0.ql(h:W0 X U e (.lst xs)):Yj X U e true xs:=λB F H Y Q k q=>h B F H Y Q k λv F' H' x r=>by cases r with|lst hf rl=>exact q _ _ _ _ x (XU.of<|x.sub _ _ hf) rl
def W0.qt(h:W0 X U e (.tup xs)):Yj X U e false xs:=λB F H Y Q k q=>h B F H Y Q k λv F' H' x r=>by cases r with|tup hf rl=>exact q _ _ _ _ x (X1.of<|x.sub _ _ hf) rl
def W0.qs(h:W0 X U e (.Yh ns)):Yj X U e true (ns.map D.int):=λB F H Y Q k q=>h B F H Y Q k λv F' H' x r=>by cases r with|Yh hs=>exact q _ _ _ _ x (x.sub.seq hs)<|W3.ints ns
def Xe.toQ(h:Xe X U e xs):Yj X U e true xs:=h.Xk.ql
structure At(X:Cx)(N:fV)(sc:Scope):Prop where
 eN:X.N=N
 eS:X.env.scope=sc
 calm:X.calm=true
 nd:X.N.Nodup
 YX:X.xe=λ_ _=>False
 un:X.A.units+64<cLine
 dp:X.A.depth+100<recursionLimit
 tree:X.prog.given.tree=none
 fr:∃env l,X.stack=env::l/\env.scope.isGenerator=false/\env.scope.isCoroutine=false/\env.builtins=builtinsNs/\env.globals=mainGlobals
structure At0(X:Cx)(N:fV)(sc:Scope):Prop where
 eN:X.N=N
 eS:X.env.scope=sc
 nd:X.N.Nodup
 YX:X.xe=λ_ _=>False
 un:X.A.units+64<cLine
 dp:X.A.depth+100<recursionLimit
 tree:X.prog.given.tree=none
 fr:∃env l,X.stack=env::l/\env.scope.isGenerator=false/\env.scope.isCoroutine=false/\env.builtins=builtinsNs/\env.globals=mainGlobals
def At.z{X:Cx}(t:At X N sc):At0 X N sc:=⟨t.eN,t.eS,t.nd,t.YX,t.un,t.dp,t.tree,t.fr⟩
def At0.at{X:Cx}(t:At0 X N sc)(h:X.calm=true):At X N sc:=⟨t.eN,t.eS,h,t.nd,t.YX,t.un,t.dp,t.tree,t.fr⟩
def WL(A:Around)(H:Hp):Prop:=∃(ea:Addr)(oe:Obj)(u:HO)(vs:Array Value),A.handled=some (.ref ea)/\H ea=some (.Ym oe u)/\oe.data=.fields vs/\vs[2]?=some .none
class Zr (X:Cx):Prop where
 fn:∀x,X.fn x=true
def At.pass(a:At X N sc):PassesOwn (model X.prog X.w) X.A X.env X.xe:=by rw[a.YX];exact PassesOwn.never
def kC(sc:Scope)(x:Str):Bool:=match sc.names.lookup x with
 |some .local=>true|some .cell=>true
 |some .free=>true|_=>false
def qB(sc:Scope)(x:Str):Bool:=match sc.names.lookup x with
 |some .local=>true|some .cell=>true
 |_=>false
def Q8{x:Str}(h:kC sc x=true):Tq sc x:=by
 unfold kC at h;cases e:sc.names.lookup x with
 |none=>rw[e]at h;cases h
 |some k=>rw[e]at h;cases k<;>first |exact .inl e |exact .inr (.inl e) |exact .inr (.inr e) |cases h
def R7{x:Str}(h:qB sc x=true):S8 sc x:=by
 unfold qB at h;cases e:sc.names.lookup x with
 |none=>rw[e]at h;cases h
 |some k=>rw[e]at h;cases k<;>first |exact .inl e |exact .inr e |cases h
def gv(x:Str):Bool:=!(x==("__debug__":Str))&& !(x==("__classdict__":Str))
def G3{i:Nat}(t:At X N sc)(hN:N[i]?=some x)(hv:kC sc x=true)(hx:gv x=true):PE X (.Name x pos) (Ri i):=by unfold gv at hx;rw[jm,Bool.not_eq_true',Bool.not_eq_true']at hx;exact MH (by rwa[t.eN]) (by rw[t.eS];exact Q8 hv) hx.1 hx.2
def aa{U:dP}(t:At X N sc)(i:Nat)(hr:U[i]?=some (.val d):=by rfl)(hN:N[i]?=some x:=by rfl)(hv:kC sc x=true:=by rfl)(hx:gv x=true:=by rfl):W0 X U (.Name x pos) d:=.of (G3 t hN hv hx) λB F H Y Q k q=>by obtain⟨v,h1,h2⟩:=k.vals i d hr;exact⟨v,h1,q v F H (.refl k.sub) h2⟩
def dw{U:dP}(t:At X N sc)(i:Nat)(hr:U[i]?=some (.own xs))(hN:N[i]?=some x:=by rfl)(hv:kC sc x=true:=by rfl)(hx:gv x=true:=by rfl):Yj X U (.Name x pos) true xs:=.of (G3 t hN hv hx) λB F H Y Q k q=>by obtain⟨p,vs,h1,h2,h3,h4,h5⟩:=k.XJ i xs hr;exact⟨_,h1,q p vs F H (.refl k.sub) (XU.of h2) h5⟩
def ak:W0 X U (.Constant (.int i) j pos) (.int i):=.of RM λB F H Y Q k q=>q _ F H (.refl k.sub)<|.int i
def pL:W0 X U (.Constant .none j pos) .Xf:=.of RK λB F H Y Q k q=>q _ F H (.refl k.sub) .Xf
def two(ha:W0 X U a da)(hb:W0 X U b db){R:V->V->Hp->Prop}(k:Ok X.K B F H Y U)(h:∀x y F' H',Ext ⟨F,H⟩ F' H'->Rep X.K F' x da->Rep X.K F' y db->R x y H'):wE X a Y H λx H1=>wE X b Y H1 λy H2=>R x y H2:=ha B F H Y _ k λx F1 H1 x1 r1=>hb B F1 H1 Y _ (k.ext x1) λy F2 H2 x2 r2=>h x y F2 H2 (x1.t x2) (r1.mono x2.sf) r2
def nN{i j m:Int}{C:Int->Int->Prop}{g:Int->Int->Int}(ho:oS X (binaryOp op) (rI C λi j=>.int<|g i j))(ha:W0 X U a (.int i))(hb:W0 X U b (.int j))(hc:C i j)(hm:g i j=m):W0 X U (.BinOp a op b pos) (.int m):=.of (EO ho cF cF) λB F H Y Q k q=>two ha hb k λx y F' H' x' rx ry=>by cases rx;cases ry;subst hm;exact⟨i,j,rfl,rfl,hc,q _ F' H' x'<|.int _⟩
def zx{i j m:Int}{g:Int->Int->Int}(ho:oS X (binaryOp op) (Mf λi j=>.int<|g i j))(ha:W0 X U a (.int i))(hb:W0 X U b (.int j))(hm:g i j=m):W0 X U (.BinOp a op b pos) (.int m):=.of (EO ho cF cF) λB F H Y Q k q=>two ha hb k λx y F' H' x' rx ry=>by cases rx;cases ry;subst hm;exact⟨i,j,rfl,rfl,q _ F' H' x'<|.int _⟩
def dj(ha:W0 X U a (.int i))(hb:W0 X U b (.int j)):W0 X U (.BinOp a .Add b pos) (.int<|i+j):=zx RZ ha hb rfl
def cu(ha:W0 X U a (.int i))(hb:W0 X U b (.int j)):W0 X U (.BinOp a .Sub b pos) (.int<|i-j):=zx RP ha hb rfl
def O7:oS X (binaryOp .Mult) (rI IntMulOk λi j=>.int<|i*j):=O8 λ_ _ _ _ _ _ _ hc q=>mul_int q hc
def At.zAL(t:At X N sc)(I:Inv X on Y H s):PylongRoom (model X.prog X.w) X.A s:=by obtain⟨env,l,h1,h2,h3,h4,h5⟩:=t.fr;exact PylongRoom.of I.nolimit t.dp<|SeerAt.of (I.ok.mod.seer.keeps I.bk) t.tree (by rw[I.ok.frames,h1]) h2 h3 h4 h5
def IS(t:At X N sc):oS X (binaryOp .FloorDiv) (rI (λ_ j=>j≠0) λi j=>.int<|i.fdiv j):=by intro on s Y H x y v u Q I rx ry h;obtain⟨i,j,rfl,rfl,hc,q⟩:=h;obtain⟨t1,rfl⟩:=rx;obtain⟨t2,rfl⟩:=ry;exact floordiv_int hc ⟨.int<|i.fdiv j,H,I.tok _,⟨_,rfl⟩,q⟩<|.inr<|t.zAL I
def eh(ha:W0 X U a (.int i))(hb:W0 X U b (.int j))(hc:IntMulOk i j):W0 X U (.BinOp a .Mult b pos) (.int<|i*j):=nN O7 ha hb hc rfl
def zw(t:At X N sc)(ha:W0 X U a (.int i))(hb:W0 X U b (.int j))(h0:j≠0):W0 X U (.BinOp a .FloorDiv b pos) (.int<|i.fdiv j):=nN (IS t) ha hb h0 rfl
def vw(t:At X N sc)(ha:W0 X U a (.int i))(hb:W0 X U b (.int j))(h0:0<j:=by decide):W0 X U (.BinOp a .FloorDiv b pos) (.int<|i / j):=nN (IS t) ha hb (by lia)<|uy i<|by lia
def bU(ha:W0 X U a (.int i))(hb:W0 X U b (.int j))(h0:0<j:=by decide):W0 X U (.BinOp a .Mod b pos) (.int<|i%j):=nN RV ha hb h0 rfl
def Nb(ha:W0 X U a (.int i))(hb:W0 X U b (.int j))(h0:N5 i j):W0 X U (.BinOp a .Pow b pos) (.int<|i ^ j.toNat):=nN RU ha hb h0 rfl
def gu(ha:W0 X U a (.int i)):W0 X U (.UnaryOp .USub a pos) (.int (-i)):=.of (T8 Ra cF) λB F H Y Q k q=>ha B F H Y _ k λx F' H' x' rx=>by cases rx;exact⟨i,rfl,q _ F' H' x'<|.int _⟩
def Jv{i j:Int}{op:CmpOp}{g:Int->Int->Bool}(ho:oS X (compareOp op) (Mf λi j=>.bl<|g i j))(ha:W0 X U a (.int i))(hb:W0 X U b (.int j))(hm:behindInMarks op b=false):W0 X U (.Compare a [op] [b] pos) (.bl<|g i j):=.of (CK ho cF cF hm) λB F H Y Q k q=>two ha hb k λx y F' H' x' rx ry=>by cases rx;cases ry;exact⟨i,j,rfl,rfl,q _ F' H' x'<|.bl _⟩
def Uw(ha:W0 X U a (.int i))(hb:W0 X U b (.int j)):W0 X U (.Compare a [.Lt] [b] pos) (.bl<|decide<|i<j):=Jv IR ha hb<|gn _<|by decide
def QZ(ha:W0 X U a (.int i))(hb:W0 X U b (.int j)):W0 X U (.Compare a [.Gt] [b] pos) (.bl<|decide<|j<i):=Jv QQ ha hb<|gn _<|by decide
end
mutual
def mB:D->PyData
 |.Xf=>.none|.bl b=>.bool b
 |.int i=>.int i|.str x=>.str x
 |.tup xs=>.tuple (Xb xs)|.lst xs=>.list<|Xb xs
 |.Yh ns=>.list (ns.map PyData.int)|.exc _=>.dict []
 |.exh _ _=>.dict []|.Xm _=>.dict []
 |.adr _=>.dict []|.stt _=>.dict []
def Xb:ck->List PyData|[]=>[]|d::ds=>mB d::Xb ds
end
def D9(xs:ck):Xb xs=xs.map mB:=by induction xs with|nil=>rfl|cons d ds ih=>rw[Xb,ih,bY]
def kH(ns:az):Xb (ns.map D.int)=ns.map PyData.int:=by rw[D9,bp];rfl
section
variable {X:Cx}
theorem BK{s:Shared}:∀{ns:az}{us:jt},Vals (ns.map V.int) us->∃as,ReadsAll s.heap us (ns.map PyData.int) as
 |[],_,r=>by cases r;exact⟨_,.nil⟩
 |n::ns,_,r=>by rw[bY]at r;cases r with|cons r1 r2=>obtain⟨as,h⟩:=BK r2;obtain⟨t,rfl⟩:=r1;exact⟨_,.cons (Reads.int n t) h⟩
mutual
theorem Rep.reads(I:Inv X on Y H s)(sub:W8 F H):∀{v:V}{d:D}{u:Value},Rep X.K F v d->RelV v u->(mB d).canLay0=true->∃as,Reads s.heap u (mB d) as
 |_,_,u,.Xf,r,hs=>by cases(r);exact⟨_,Reads.none⟩
 |_,_,u,.bl b,r,hs=>by cases(r);exact⟨_,Reads.bool b⟩
 |_,_,u,.int i,r,hs=>by obtain⟨t,e⟩:=(r);cases e;exact⟨_,Reads.int i t⟩
 |_,_,u,.str x,r,hs=>by obtain⟨t,e⟩:=(r);cases e;exact⟨_,Reads.str x t⟩
 |_,_,u,.tup h rl,r,hs=>by cases(r);obtain⟨its,rv,p,_⟩:=I.tuple<|X1.of<|sub _ _ h;obtain⟨o,e,c,n,dt⟩:=p;obtain⟨as,ra⟩:=W3.reads I sub rl rv (by simpa[mB,PyData.canLay0]using hs);exact⟨_,Reads.tuple e c dt ra⟩
 |_,_,u,.lst h rl,r,hs=>by cases(r);obtain⟨its,rv,p,_⟩:=I.list<|XU.of<|sub _ _ h;obtain⟨o,e,c,n,dt⟩:=p.isList;obtain⟨as,ra⟩:=W3.reads I sub rl rv (by simpa[mB,PyData.canLay0]using hs);exact⟨_,Reads.list e c dt ra⟩
 |_,_,u,.exc h,r,hs=>by simp[mB,PyData.canLay0]at hs|_,_,u,.exh h,r,hs=>by simp[mB,PyData.canLay0]at hs
 |_,_,u,.Xm h _,r,hs=>by simp[mB,PyData.canLay0]at hs|_,_,u,.adr _,r,hs=>by simp[mB,PyData.canLay0]at hs
 |_,_,u,.stt _,r,hs=>by simp[mB,PyData.canLay0]at hs|_,_,u,.Yh h,r,hs=>by cases(r);obtain⟨its,rv,p,_⟩:=I.list<|sub.seq h;obtain⟨o,e,c,n,dt⟩:=p.isList;obtain⟨as,ra⟩:=BK (s:=s) rv;exact⟨_,Reads.list e c dt ra⟩
theorem W3.reads(I:Inv X on Y H s)(sub:W8 F H):∀{vs:ij}{ds:ck}{us:jt},W3 X.K F vs ds->Vals vs us->PyData.canLayAll0 (Xb ds)=true->∃as,ReadsAll s.heap us (Xb ds) as
 |_,_,_,.nil,r,hs=>by cases r;exact⟨_,.nil⟩
 |_,_,_,.cons r1 r2,r,hs=>by cases r with|cons q1 q2=>rw[Xb,PyData.canLayAll0,jm]at hs;have hs2:=hs;obtain⟨as,h1⟩:=Rep.reads I sub r1 q1 hs2.1;obtain⟨bs,h2⟩:=W3.reads I sub r2 q2 hs2.2;exact⟨_,.cons h1 h2⟩
end
def SqB.reads(I:Inv X on Y H s)(sub:W8 F H)(h:SqB X.K k H a vs)(r:W3 X.K F vs xs)(hs:(if k=true then PyData.list (Xb xs)else .tuple<|Xb xs).canLay0=true):∃as,Reads s.heap (.ref a) (if k=true then PyData.list (Xb xs)else .tuple<|Xb xs) as:=by cases k with|true=>let⟨its,rv,p,_⟩:=I.list<|h;let⟨o,e,c,n,dt⟩:=p.isList;let⟨as,ra⟩:=W3.reads I sub r rv (by simpa[PyData.canLay0]using hs);exact⟨_,Reads.list e c dt ra⟩|false=>let⟨its,rv,p,_⟩:=I.tuple<|h;let⟨o,e,c,n,dt⟩:=p;let⟨as,ra⟩:=W3.reads I sub r rv (by simpa[PyData.canLay0]using hs);exact⟨_,Reads.tuple e c dt ra⟩
end
def RdP(X:Cx)(H:Hp)(v:V)(p:PyData):Prop:=p.canLay0=true->∀(H':Hp),W8 H H'->∀(on:jn)(Y:St)(s:Shared)(u:Value),Inv X on Y H' s->RelV v u->∃as,Reads s.heap u p as
def Og(X:Cx)(U:dP)(e:Expr)(p:PyData):Prop:=∀(B:B0)(F H:Hp)(Y:St)(Q:VK),Ok X.K B F H Y U->(∀v F' H',Ext ⟨F,H⟩ F' H'->RdP X H' v p->Q v H')->wE X e Y H Q
section
variable {X:Cx}
def W0.p(h:W0 X U e d):Og X U e (mB d):=λB F H Y Q k q=>h B F H Y Q k λv F' H' x r=>q v F' H' x λhs H2 s2 on Y s u I ru=>r.reads I (x.sub.trans s2) ru hs
def Yj.p(h:Yj X U e k xs):Og X U e (if k=true then PyData.list (Xb xs)else .tuple<|Xb xs):=λB F H Y Q k' q=>h B F H Y Q k' λa vs F' H' x hs r=>q _ F' H' x λhc H2 s2 on Y s u I ru=>by cases(ru);exact SqB.reads I (x.sub.trans s2) (hs.mono s2) r hc
def QI{p q:PyData}(t:At X N sc)(sp:SeqAt.shaped p=true)(sq:SeqAt.shaped q=true):oS X (compareOp .Eq) (λx y H Q=>RdP X H x p/\RdP X H y q/\Q (.bl<|p.eqv q) H):=by intro on s Y H x y v u Q I rx ry h;obtain⟨h1,h2,h3⟩:=h;obtain⟨as,r1⟩:=h1 (ge sp) H (.refl _) on Y s v I rx;obtain⟨bs,r2⟩:=h2 (ge sq) H (.refl _) on Y s u I ry;exact eq_dataH r1 r2 sp sq t.un ⟨.bl _,H,I,rfl,h3⟩
def TW{p q:PyData}(t:At X N sc)(sp:SeqAt.shaped p=true)(sq:SeqAt.shaped q=true):oS X (compareOp .NotEq) (λx y H Q=>RdP X H x p/\RdP X H y q/\Q (.bl (!p.eqv q)) H):=by intro on s Y H x y v u Q I rx ry h;obtain⟨h1,h2,h3⟩:=h;obtain⟨as,r1⟩:=h1 (ge sp) H (.refl _) on Y s v I rx;obtain⟨bs,r2⟩:=h2 (ge sq) H (.refl _) on Y s u I ry;exact ne_dataH r1 r2 sp sq t.un ⟨.bl _,H,I,rfl,h3⟩
def RdP.mono(h:RdP X H v p)(s:W8 H H'):RdP X H' v p:=λhc H2 s2=>h hc H2<|s.trans s2
def On(ha:Og X U a p)(hb:Og X U b q){R:V->V->Hp->Prop}(k:Ok X.K B F H Y U)(h:∀x y F' H',Ext ⟨F,H⟩ F' H'->RdP X H' x p->RdP X H' y q->R x y H'):wE X a Y H λx H1=>wE X b Y H1 λy H2=>R x y H2:=ha B F H Y _ k λx F1 H1 x1 r1=>hb B F1 H1 Y _ (k.ext x1) λy F2 H2 x2 r2=>h x y F2 H2 (x1.t x2) (r1.mono x2.sh) r2
def SA{r:Bool}(t:At X N sc)(ha:Og X U a p)(hb:Og X U b q)(sp:SeqAt.shaped p=true)(sq:SeqAt.shaped q=true)(hr:p.eqv q=r):W0 X U (.Compare a [.Eq] [b] pos) (.bl r):=.of (CK (QI t sp sq) cF cF<|gn _<|by decide) λB F H Y Q k q=>On ha hb k λx y F' H' x' rx ry=>⟨rx,ry,by rw[hr];exact q _ F' H' x'<|.bl r⟩
def W3.at{i:Int}(r:W3 K F vs xs)(h:s9 xs i=some d):∃v,s9 vs i=some v/\Rep K F v d:=by
 unfold s9 at h ⊢;rw[r.length];cases e:Ho xs.length i with
 |none=>rw[e]at h;cases h
 |some j=>rw[e]at h;obtain⟨v,h1,h2⟩:=r.get h;exact⟨v,h1,h2⟩
def qe(ha:Yj X U a k xs)(hb:W0 X U b db){R:V->V->Hp->Prop}(k':Ok X.K B F H Y U)(h:∀l vs y F' H',Ext ⟨F,H⟩ F' H'->SqB X.K k H' l vs->W3 X.K F' vs xs->Rep X.K F' y db->R (.ref l) y H'):wE X a Y H λx H1=>wE X b Y H1 λy H2=>R x y H2:=ha B F H Y _ k' λl vs F1 H1 x1 s1 r1=>hb B F1 H1 Y _ (k'.ext x1) λy F2 H2 x2 r2=>h l vs y F2 H2 (x1.t x2) (s1.mono x2.sh) (r1.mono x2.sf) r2
def bM(ha:Yj X U a k xs)(hb:W0 X U b (.int i))(h:s9 xs i=some d:=by rfl)(hs:ya b:=by intro _ _;rfl):W0 X U (.Subscript a b pos) d:=by
 cases k with
 |true=>exact .of (MJ Jl cF cF hs) λB F H Y Q k' q=>qe ha hb k' λl vs y F' H' x' sl rl ry=>by cases ry;obtain⟨v,h1,h2⟩:=rl.at h;exact⟨l,vs,i,v,rfl,rfl,sl,h1,q v F' H' x' h2⟩
 |false=>exact .of (MJ Sh cF cF hs) λB F H Y Q k' q=>qe ha hb k' λl vs y F' H' x' sl rl ry=>by cases ry;obtain⟨v,h1,h2⟩:=rl.at h;exact⟨l,vs,i,v,rfl,rfl,sl,h1,q v F' H' x' h2⟩
def ia:U9 X U none none:=λB F H Y Q k q=>.mk λon s I=>O1 on s Y H Q I<|q F H<|.refl k.sub
def j5(h:W0 X U e (.int i)):U9 X U (some e) (some i):=λB F H Y Q k q=>.mk λon s I=>O0 cF on s Y H Q I (h B F H Y _ k λv F' H' x r=>by cases r;exact⟨i,rfl,q F' H' x⟩)
def HB(xs:ck)(lo hi:Option Int):ck:=(xs.drop<|HT.Ya xs.length 0 lo).take<|HT.Ya xs.length xs.length hi-HT.Ya xs.length 0 lo
def W3.cut(r:W3 K F vs xs)(lo hi:Option Int):W3 K F (NF vs lo hi) (HB xs lo hi):=by unfold NF HB;rw[r.length];exact(r.drop _).take _
def j7{lo hi:Option Expr}{l h:Option Int}(ha:Yj X U a true xs)(hl:U9 X U lo l)(hh:U9 X U hi h):Xe X U (.Subscript a (.Slice lo hi none p2) pos) (HB xs l h):=.of (MI OF cF T3 T3) λB F H Y Q k q=>ha B F H Y _ k λp vs F1 H1 x1 s1 r1=>hl B F1 H1 Y _ (k.ext x1) λF2 H2 x2=>hh B F2 H2 Y _ (k.ext<|x1.t x2) λF3 H3 x3=>by have x:=x1.t<|x2.t x3;refine⟨p,vs,rfl,(s1.mono x2.sh).mono x3.sh,λl' hl'=>?_⟩;exact q l' _ F3 _ ⟨x.sub.trans<|bG hl',x.sh.trans<|bG hl',x.sf,x.nw⟩ (x.sh.free hl') bI (x.sub.free hl')<|((r1.mono x2.sf).mono x3.sf).cut l h
def av:K5 X U [] []:=⟨trivial,λB F H Y Q k q=>.mk λpos on s I=>gh pos on s Y H Q I<|q [] F H (.refl k.sub) .nil⟩
def ai{ds:ck}(h1:W0 X U e d)(h2:K5 X U es ds)(hs:Pl e:=by intro _ _;rfl):K5 X U (e::es) (d::ds):=⟨⟨hs,h2.1⟩,λB F H Y Q k q=>.mk λpos on s I=>dH cF xi (hs _ _) pos on s Y H Q I (h1 B F H Y _ k λv F1 H1 x1 r1=>h2.2 B F1 H1 Y _ (k.ext x1) λvs F2 H2 x2 r2=>q _ F2 H2 (x1.t x2)<|.cons (r1.mono x2.sf) r2)⟩
def bH{ds:ck}(h:K5 X U es ds)(hl:ds.length<=sizeLine:=by exact Bm rfl):W0 X U (.Tuple es x1 pos) (.tup ds):=.of (RI xi) λB F H Y Q k q=>h.2 B F H Y _ k λvs F' H' x r=>⟨by rwa[r.length],λp hp=>q _ _ _ (x.grow hp)<|.tup bI<|r.mono<|bG<|x.sub.free hp⟩
def fg{ds:ck}(h:K5 X U es ds)(hl:ds.length<=sizeLine:=by exact Bm rfl):Xe X U (.List es pos) ds:=.of (RL xi) λB F H Y Q k q=>h.2 B F H Y _ k λvs F' H' x r=>⟨by rwa[r.length],λp hp=>q p vs F' _ ⟨x.sub.trans<|bG hp,x.sh.trans<|bG hp,x.sf,x.nw⟩ (x.sh.free hp) bI (x.sub.free hp) r⟩
def Dd(ha:W0 X U a (.lst xs))(hb:W0 X U b (.lst ys))(hz:xs.length+ys.length<=sizeLine):Xe X U (.BinOp a .Add b pos) (xs++ys):=.of (EO RX cF cF) λB F H Y Q k q=>two ha hb k λx y F' H' x' rx ry=>by cases rx with|lst h1 r1=>cases ry with|lst h2 r2=>refine⟨_,_,_,_,rfl,rfl,x'.sub _ _ h1,x'.sub _ _ h2,by rwa[r1.length,r2.length],λp hp=>?_⟩;exact q p _ F' _ ⟨x'.sub.trans<|bG hp,x'.sh.trans<|bG hp,x'.sf,x'.nw⟩ (x'.sh.free hp) bI (x'.sub.free hp)<|r1.append r2
def Dc(ha:W0 X U a (.lst xs))(hb:W0 X U b (.int n))(h1: -(2 ^ 63)<=n)(h2:n<2 ^ 63)(hz:xs.length*n.toNat<=sizeLine):Xe X U (.BinOp a .Mult b pos) (List.replicate n.toNat xs).flatten:=.of (EO RT cF cF) λB F H Y Q k q=>two ha hb k λx y F' H' x' rx ry=>by cases rx with|lst g1 r1=>cases ry;refine⟨_,n,_,rfl,rfl,x'.sub _ _ g1,h1,h2,by rwa[r1.length],λp hp=>?_⟩;exact q p _ F' _ ⟨x'.sub.trans<|bG hp,x'.sh.trans<|bG hp,x'.sf,x'.nw⟩ (x'.sh.free hp) bI (x'.sub.free hp)<|r1.rep _
def j4(ha:W5 X U a r):XT X U (.BoolOp .And [a] pos) r:=.of (OS xh) λB F H Y Q k q=>ha B F H Y Q k q
def pJ(ha:W5 X U a r):XT X U (.BoolOp .Or [a] pos) r:=.of (Rx xh) λB F H Y Q k q=>ha B F H Y Q k q
def j3{rest:vO}(ha:W5 X U a true)(hb:XT X U (.BoolOp .And (b::rest) pos) r):XT X U (.BoolOp .And (a::b::rest) pos) r:=.of (Mj xh OR) λB F H Y Q k q=>ha B F H Y _ k λF1 H1 x1=>by rw[ag rfl];exact hb B F1 H1 Y _ (k.ext x1) λF2 H2 x2=>q F2 H2<|x1.t x2
def pK{rest:vO}(ha:W5 X U a false):XT X U (.BoolOp .And (a::b::rest) pos) false:=.of (Mj xh OR) λB F H Y Q k q=>ha B F H Y _ k λF1 H1 x1=>by rw[af aW];exact q F1 H1 x1
def mQ{rest:vO}(ha:W5 X U a false)(hb:XT X U (.BoolOp .Or (b::rest) pos) r):XT X U (.BoolOp .Or (a::b::rest) pos) r:=.of (QL xh OR) λB F H Y Q k q=>ha B F H Y _ k λF1 H1 x1=>by rw[af aW];exact hb B F1 H1 Y _ (k.ext x1) λF2 H2 x2=>q F2 H2<|x1.t x2
def t7{rest:vO}(ha:W5 X U a true):XT X U (.BoolOp .Or (a::b::rest) pos) true:=.of (QL xh OR) λB F H Y Q k q=>ha B F H Y _ k λF1 H1 x1=>by rw[ag rfl];exact q F1 H1 x1
def XT.toT(h:XT X U e r):W5 X U e r:=λB F H Y Q k q=>.mk λon s I=>h B F H Y Q k q _ on s I
def C9(ha:W5 X U a r):W5 X U (.UnaryOp .Not a pos) (!r):=.of (RA xh) λB F H Y Q k q=>ha B F H Y _ k q
def Sz{op:BoolOp}(h:W0 X U a d):W0 X U (.BoolOp op [a] pos) d:=.of (RJ cF) λB F H Y Q k q=>h B F H Y Q k q
def PR{rest:vO}(ha:W0 X U a (.bl true))(hb:W0 X U (.BoolOp .And (b::rest) pos) d):W0 X U (.BoolOp .And (a::b::rest) pos) d:=.of (MK cF cF) λB F H Y Q k q=>ha B F H Y _ k λv F1 H1 x1 r=>by cases r;exact⟨true,rfl,by rw[ag rfl];exact hb B F1 H1 Y _ (k.ext x1) λv F2 H2 x2 r2=>q v F2 H2 (x1.t x2) r2⟩
def PU{rest:vO}(ha:W0 X U a (.bl false)):W0 X U (.BoolOp .And (a::b::rest) pos) (.bl false):=.of (MK cF cF) λB F H Y Q k q=>ha B F H Y _ k λv F1 H1 x1 r=>by cases r;exact⟨false,rfl,by rw[af aW];exact q _ F1 H1 x1<|.bl false⟩
def ua(hc:W5 X U c true)(ha:W0 X U a d):W0 X U (.IfExp c a b pos) d:=.of (EQ xh cF cF) λB F H Y Q k q=>hc B F H Y _ k λF1 H1 x1=>by rw[ag rfl];exact ha B F1 H1 Y _ (k.ext x1) λv F2 H2 x2 r2=>q v F2 H2 (x1.t x2) r2
def rh(hc:W5 X U c false)(hb:W0 X U b d):W0 X U (.IfExp c a b pos) d:=.of (EQ xh cF cF) λB F H Y Q k q=>hc B F H Y _ k λF1 H1 x1=>by rw[af aW];exact hb B F1 H1 Y _ (k.ext x1) λv F2 H2 x2 r2=>q v F2 H2 (x1.t x2) r2
def Ht(ha:W0 X U e (.int i))(he:∀whole,isTrue e X.env whole=(do let v <-whole;standAt e.pos;holding [v] (truthy v)):=by intro _;rfl):W5 X U e (i !=0):=.of (Mn cF he) λB F H Y Q k q=>ha B F H Y _ k λv F1 H1 x1 r=>by cases r;exact⟨_,rfl,q F1 H1 x1⟩
def B1(ha:W0 X U e (.bl r))(he:∀whole,isTrue e X.env whole=(do let v <-whole;standAt e.pos;holding [v] (truthy v)):=by intro _;rfl):W5 X U e r:=.of (Rz cF he) λB F H Y Q k q=>ha B F H Y _ k λv F1 H1 x1 rv=>by cases rv;exact⟨r,rfl,q F1 H1 x1⟩
end
section
variable {X:Cx}
def rq{op:CmpOp}{r:R2}(ho:oS X (compareOp op) r)(ha:W0 X U a da)(hb:W0 X U b db)(hm:behindInMarks op b=false)(hr:∀(F H:Hp)x y(Q:VK),Rep X.K F x da->Rep X.K F y db->Q (.bl k) H->r x y H Q):W5 X U (.Compare a [op] [b] pos) k:=.of (xO ho cF cF hm) λB F H Y Q k' q=>two ha hb k' λx y F' H' x' rx ry=>hr F' H' x y _ rx ry ⟨k,rfl,q F' H' x'⟩
def rj(ha:W0 X U a (.int i))(hb:W0 X U b (.int j)):W5 X U (.Compare a [.Lt] [b] pos) (decide<|i<j):=rq IR ha hb (gn _<|by decide) λF H x y Q rx ry q=>by cases rx;cases ry;exact⟨i,j,rfl,rfl,q⟩
def Ux(ha:W0 X U a (.int i))(hb:W0 X U b (.int j)):W5 X U (.Compare a [.LtE] [b] pos) (decide<|i<=j):=rq Ua ha hb (gn _<|by decide) λF H x y Q rx ry q=>by cases rx;cases ry;exact⟨i,j,rfl,rfl,q⟩
def lY(ha:W0 X U a (.int i))(hb:W0 X U b (.int j)):W5 X U (.Compare a [.Gt] [b] pos) (decide<|j<i):=rq QQ ha hb (gn _<|by decide) λF H x y Q rx ry q=>by cases rx;cases ry;exact⟨i,j,rfl,rfl,q⟩
def xg(ha:W0 X U a (.int i))(hb:W0 X U b (.int j)):W5 X U (.Compare a [.GtE] [b] pos) (decide<|j<=i):=rq Ub ha hb (gn _<|by decide) λF H x y Q rx ry q=>by cases rx;cases ry;exact⟨i,j,rfl,rfl,q⟩
def Fy{i:Int}:decide (V.int i=V.int j)=decide (i=j):=by rw[Dk,Bool.beq_eq_decide_eq]
def eO(ha:W0 X U a (.int i))(hb:W0 X U b (.int j)):W5 X U (.Compare a [.Eq] [b] pos) (decide<|i=j):=rq Uc ha hb (gn _<|by decide) λF H x y Q rx ry q=>by cases rx;cases ry;exact⟨rfl,by rwa[Fy]⟩
def nR(ha:W0 X U a (.int i))(hb:W0 X U b (.int j)):W5 X U (.Compare a [.NotEq] [b] pos) (!decide (i=j)):=rq T9 ha hb (gn _<|by decide) λF H x y Q rx ry q=>by cases rx;cases ry;exact⟨rfl,by rwa[Fy]⟩
def jA{r:Bool}(t:At X N sc)(ha:Og X U a p)(hb:Og X U b q)(sp:SeqAt.shaped p=true)(sq:SeqAt.shaped q=true)(hr:p.eqv q=r):W5 X U (.Compare a [.Eq] [b] pos) r:=.of (xO (QI t sp sq) cF cF<|gn _<|by decide) λB F H Y Q k q=>On ha hb k λx y F' H' x' rx ry=>⟨rx,ry,r,by rw[hr],q F' H' x'⟩
def kM{r:Bool}(t:At X N sc)(ha:Og X U a p)(hb:Og X U b q)(sp:SeqAt.shaped p=true)(sq:SeqAt.shaped q=true)(hr:(!p.eqv q)=r):W5 X U (.Compare a [.NotEq] [b] pos) r:=.of (xO (TW t sp sq) cF cF<|gn _<|by decide) λB F H Y Q k q=>On ha hb k λx y F' H' x' rx ry=>⟨rx,ry,r,by rw[hr],q F' H' x'⟩
structure tN(X:Cx)(sc:Scope)(x:Str)(u:Value):Prop where
 g:Oa sc x
 m:X.mg x=none
 v:bootBuiltins x=some u
 n:x≠"__name__"
 d:D2 x
def hJ(t:At X N sc)(h:Oa sc x):Gl X x:=by show X.env.scope.names.lookup x=_;rwa[t.eS]
variable {ds:ck}
def Fq{id:String}(t:At X N sc){r:ij->Hp->VK->Prop}(bl:tN X sc x (.builtin id))(hc:kG X (.builtin id) r)(ha:K5 X U (e::es) ds)(hr:∀(F H:Hp)vs(Q:VK),W8 F H->W3 X.K F vs ds->(∀v F' H',Ext ⟨F,H⟩ F' H'->Rep X.K F' v d->Q v H')->r vs H Q):W0 X U (.Call (.Name x p) (e::es) [] pos) d:=.of (iY hc (hJ t bl.g) bl.m bl.v xi bl.n bl.d (ha.1.1 _ _)<|PlA.any ha.1.2) λB F H Y Q k q=>ha.2 B F H Y _ k λvs F' H' x' rv=>hr F' H' vs Q x'.sub rv λv F2 H2 x2 r2=>q v F2 H2 (x'.t x2) r2
def KG(t:At X N sc){r:ij->Hp->VK->Prop}(bl:tN X sc x (.type T))(hc:kG X (.type T) r)(ha:K5 X U (e::es) ds)(hr:∀(F H:Hp)vs(Q:VK),W8 F H->W3 X.K F vs ds->(∀v F' H',Ext ⟨F,H⟩ F' H'->Rep X.K F' v d->Q v H')->r vs H Q):W0 X U (.Call (.Name x p) (e::es) [] pos) d:=.of (v9 hc (hJ t bl.g) bl.m bl.v xi bl.n bl.d (ha.1.1 _ _)<|PlA.any ha.1.2) λB F H Y Q k q=>ha.2 B F H Y _ k λvs F' H' x' rv=>hr F' H' vs Q x'.sub rv λv F2 H2 x2 r2=>q v F2 H2 (x'.t x2) r2
def W3.one(h:W3 K F vs [d]):∃v,vs=[v]/\Rep K F v d:=by cases h with|cons r t=>cases t;exact⟨_,rfl,r⟩
def W3.two(h:W3 K F vs [d,e]):∃v u,vs=[v,u]/\Rep K F v d/\Rep K F u e:=by cases h with|cons r t=>obtain⟨u,rfl,q⟩:=t.one;exact⟨_,_,rfl,r,q⟩
def bX(t:At X N sc)(bl:tN X sc x (.builtin "len"))(ha:Yj X U e k xs)(Yq:Pl e:=by intro _ _;rfl):W0 X U (.Call (.Name x p) [e] [] pos) (.int xs.length):=.of (iY vD (hJ t bl.g) bl.m bl.v (dH cF gh<|Yq _ _) bl.n bl.d (Yq _ _) rfl) λB F H Y Q k' q=>ha B F H Y _ k' λl vs F' H' x' sl rl=>by
  refine⟨l,vs,rfl,?_,?_⟩;cases k with|true=>exact .inl sl|false=>exact .inr sl
  rw[rl.length];exact q _ F' H' x'<|.int _
def ub(t:At X N sc)(bl:tN X sc x (.builtin "abs"))(ha:W0 X U e (.int i))(Yq:Pl e:=by intro _ _;rfl):W0 X U (.Call (.Name x p) [e] [] pos) (.int i.natAbs):=Fq t bl NK (ai ha av Yq) λF H vs Q sub r q=>by
  obtain⟨v,rfl,rv⟩:=r.one;cases rv;have e:(if i<0 then-i else i)=i.natAbs:=by split<;>lia
  exact⟨i,rfl,by rw[e];exact q _ F H (.refl sub)<|.int _⟩
def PL(t:At X N sc)(bl:tN X sc x (.builtin "max"))(ha:W0 X U a (.int i))(hb:W0 X U b (.int j))(hpa:Pl a:=by intro _ _;rfl)(hpb:Pl b:=by intro _ _;rfl):W0 X U (.Call (.Name x p) [a,b] [] pos) (.int<|max i j):=Fq t bl (KQ t.calm) (ai ha (ai hb av hpb) hpa) λF H vs Q sub r q=>by
  obtain⟨v,u,rfl,rv,ru⟩:=r.two;cases rv;cases ru;have e:(if j>i then j else i)=max i j:=by split<;>lia
  exact⟨i,j,rfl,by rw[e];exact q _ F H (.refl sub)<|.int _⟩
def PP(t:At X N sc)(bl:tN X sc x (.type "int"))(ha:W0 X U e (.bl k))(Yq:Pl e:=by intro _ _;rfl):W0 X U (.Call (.Name x p) [e] [] pos) (.int (if k then 1 else 0)):=KG t bl KR (ai ha av Yq) λF H vs Q sub r q=>by obtain⟨v,rfl,rv⟩:=r.one;cases rv;exact .inr ⟨k,rfl,q _ F H (.refl sub)<|.int _⟩
def lz(t:At X N sc)(bl:tN X sc x (.type "list"))(ha:Yj X U e k xs)(Yq:Pl e:=by intro _ _;rfl):Xe X U (.Call (.Name x p) [e] [] pos) xs:=.of (v9 Ds (hJ t bl.g) bl.m bl.v (dH cF gh<|Yq _ _) bl.n bl.d (Yq _ _) rfl) λB F H Y Q k' q=>ha B F H Y _ k' λl vs F' H' x' sl rl=>by
  refine⟨l,vs,rfl,?_,λp hp=>?_⟩;cases k with|true=>exact .inl sl|false=>exact .inr sl
  exact q p vs F' _ ⟨x'.sub.trans<|bG hp,x'.sh.trans<|bG hp,x'.sf,x'.nw⟩ (x'.sh.free hp) bI (x'.sub.free hp) rl
def gG(t:At X N sc)(bl:tN X sc x (.type "tuple"))(ha:Yj X U e true xs)(Yq:Pl e:=by intro _ _;rfl):W0 X U (.Call (.Name x p) [e] [] pos) (.tup xs):=.of (v9 Ba (hJ t bl.g) bl.m bl.v (dH cF gh<|Yq _ _) bl.n bl.d (Yq _ _) rfl) λB F H Y Q k' q=>ha B F H Y _ k' λl vs F' H' x' sl rl=>by refine⟨l,vs,rfl,.inl ⟨sl,λp hp=>?_⟩⟩;exact q _ _ _ (x'.grow hp)<|.tup bI<|rl.mono<|bG<|x'.sub.free hp
def UX:D->Value|.Xf=>.type "NoneType" |.bl _=>.type "bool" |.int _=>.type "int" |.str _=>.type "str" |.tup _=>.type "tuple" |.lst _=>.type "list" |.Yh _=>.type "list" |.exc C=>.ref C |.exh C _=>.ref C |.Xm _=>.type "dict" |.adr _=>.type "dict" |.stt _=>.type "dict"
def Vk(sub:W8 F H)(r:Rep X.K F v d)(hd:∀ns,d≠.Yh ns)(hx:∀C ea,d≠.exc C/\d≠.exh C ea/\d≠.adr C:=by intro _ _;exact And.intro (λh=>by cases h)<|And.intro (λh=>by cases h) λh=>by cases h)(hq:∀kvs,d≠.Xm kvs:=by intro _ h;cases h):wD X.K H v (UX d):=by
 cases r with
 |Xf=>exact .Xf|bl b=>exact .bl b
 |int i=>exact .int i|str x=>exact .str x
 |tup h _=>exact .tup (sub _ _ h)|lst h _=>exact .lst<|sub _ _ h
 |Yh h=>exact absurd rfl (hd _)|exc h=>exact absurd rfl (hx _ 0).1
 |exh h=>exact absurd rfl (hx _ _).2.1|adr a=>exact absurd rfl (hx a 0).2.2
 |stt h=>exact .dK (sub _ _ h)|Xm h _=>exact absurd rfl<|hq _
def Sm{d:D}(hx:∀C ea,d≠.exc C/\d≠.exh C ea/\d≠.adr C)(hd:∀ns,d≠.Yh ns)(hq:∀kvs,d≠.Xm kvs)(hk:kitOne X.K (UX d) (.type T)=some k):kG X (.builtin "isinstance") (λxs H Q=>∃x F,xs=[x,.ty T]/\W8 F H/\Rep X.K F x d/\Q (.bl k) H):=by intro on s Y H xs us Q I r h;obtain⟨v,F,rfl,sub,rv,q⟩:=h;obtain⟨u,w,rfl,ru,Yi⟩:=D6 r;cases(Yi);exact KA I ru (Vk sub rv hd hx hq) hk λtk=>⟨.bl k,H,I.tok tk,rfl,q⟩
def t8(t:At X N sc)(bl:tN X sc x (.builtin "isinstance"))(bt:tN X sc y (.type T))(ha:W0 X U a d)(hk:kitOne X.K (UX d) (.type T)=some k)(hd:∀ns,d≠.Yh ns:=by intro _ h;cases h)(hpa:Pl a:=by intro _ _;rfl)(hx:∀C ea,d≠.exc C/\d≠.exh C ea/\d≠.adr C:=by intro _ _;exact And.intro (λh=>by cases h)<|And.intro (λh=>by cases h) λh=>by cases h)(hq:∀kvs,d≠.Xm kvs:=by intro _ h;cases h):W0 X U (.Call (.Name x p) [a,.Name y py] [] pos) (.bl k):=.of (iY (Sm hx hd hq hk) (hJ t bl.g) bl.m bl.v (dH cF (dH (IP (v:=.ty T) (hJ t bt.g) bt.m bt.v rfl bt.n bt.d) gh)<|hpa _ _) bl.n bl.d (hpa _ _) rfl) λB F H Y Q k' q=>ha B F H Y _ k' λv F' H' x' r=>⟨v,F',rfl,x'.sub,r,q _ F' H' x'<|.bl k⟩
theorem W3.bls:∀{bs:List Bool}{vs:ij},W3 K F vs (bs.map D.bl)->vs=bs.map V.bl
 |[],_,h=>by cases h;rfl
 |b::bs,_,h=>by cases h with|cons r t=>cases r;rw[bY,W3.bls t]
theorem FM:∀{bs:List Bool}{us:jt},Vals (bs.map V.bl) us->LSm.BoolsAre us bs
 |[],_,r=>by cases r;exact .nil
 |b::bs,_,r=>by rw[bY]at r;cases r with|cons r1 r2=>cases(r1);exact .cons b<|FM r2
def KT(hc:X.calm=true):kG X (.builtin "all") (λxs H Q=>∃(l:Addr)(bs:List Bool),xs=[.ref l]/\XU X.K H l (bs.map V.bl)/\Q (.bl<|bs.all id) H):=by
 intro on s Y H xs us Q I r h;obtain⟨l,bs,rfl,sl,q⟩:=h;obtain⟨u,rfl,ru⟩:=oz r;cases(ru);obtain⟨vs,rv,pl,hz⟩:=I.list sl;have hb:=FM rv;have hl:=pl.isList;have XQ:l<s.heap.objs.size:=by obtain⟨_,e,_⟩:=hl;exact bc e
 refine call_all_walk<|Ta hl ?_;refine⟨s.heap.objs.size,[s.heap.objs.size,l],[s.heap.objs.size],vs.toArray.size,_,_,λi=>(bs[i]?).getD true,rfl,Walks.list (A:=X.A.in1) (I.ok.hd hc) _ l (dh XQ) vs.toArray,⟨⟨_,a7 _ rfl,rfl,rfl⟩,hl.push _⟩,λi v s' Q' E' hP hQ=>?_,λh' tk hk=>?_⟩;obtain⟨b,e,rfl⟩:=hb.get i v (by simpa using hP);simp only[e,Option.getD_some]at hQ;exact ik hQ;have e:((List.range vs.toArray.size).all λi=>(bs[i]?).getD true)=bs.all id:=by rw[aT,hb.length];exact LSm.range_all bs
 rw[e];exact⟨.bl _,H,I.kept<|LSm.kept_iter hk,rfl,q⟩
def SC(t:At X N sc){bs:List Bool}(bl:tN X sc x (.builtin "all"))(ha:Yj X U e true (bs.map D.bl))(Yq:Pl e:=by intro _ _;rfl):W0 X U (.Call (.Name x p) [e] [] pos) (.bl<|bs.all id):=.of (iY (KT t.calm) (hJ t bl.g) bl.m bl.v (dH cF gh<|Yq _ _) bl.n bl.d (Yq _ _) rfl) λB F H Y Q k' q=>ha B F H Y _ k' λl vs F' H' x' sl rl=>by have e:=rl.bls;subst e;exact⟨l,bs,rfl,sl,q _ F' H' x'<|.bl _⟩
def Rm(K:gS)(C:ck->D->Prop):Sp:=λvs H Q _=>∃F ds d,W8 F H/\W3 K F vs ds/\C ds d/\∀v F' H',Ext ⟨F,H⟩ F' H'->Rep K F' v d->Q v H'
def Callee(X:Cx)(x:Str)(C:ck->D->Prop):Prop:=∃(f:Addr)(fd:FuncData)(ps:fV)(k:Nat),mw X.prog X.w X.K X.mg X.base uw k f fd ps (Rm X.K C)/\XN k X.A/\X.mg x=some (.ref f)/\keepIn X.K (.ref f)=true/\Binds X.K fd ps []
def aX(t:At X N sc){C:ck->D->Prop}(h:Callee X x C)(ha:K5 X U (e::es) ds)(hC:C ds d)(hg:Oa sc x:=by rfl)(Zk:D2 x:=by rfl):W0 X U (.Call (.Name x p) (e::es) [] pos) d:=by obtain⟨f,fd,ps,k,F,hr,hm,hk,hb⟩:=h;have pz:rC uw X E0:=ER;refine .of (vc F hr (hJ t hg) hm hk hb .nil pz xi Zk (ha.1.1 _ _)<|PlA.any ha.1.2) λB F' H Y Q k' q=>ha.2 B F' H Y _ k' λvs F1 H1 x1 r1=>?_;refine⟨F1,ds,d,x1.sub,by rwa[dq],hC,λv F2 H2 x2 r2=>q v F2 H2 (x1.t x2) r2⟩
def dE(sc:Scope):Env:={scope:=sc,locals:=0,globals:=0,cells:=[],qual:="",func:=none,code:=.none,frame:=none,builtins:=0}
def sw{env zA4:Env}(h:env.scope=zA4.scope):swappedStores ts v env=swappedStores ts v zA4:=by unfold swappedStores Env.blockKind Env.kindOf;rw[h]
def Co{tg:Option Expr}{env zA4:Env}(h:env.scope=zA4.scope):swapsWith v tg n env=swapsWith v tg n zA4:=by unfold swapsWith Env.blockKind Env.kindOf;rw[h]
variable {st:Stmt}{rest:List Stmt}
def dM:W4 X U [] (.nx U):=.of OU λB F H Y E k q=>q F H Y k<|.refl _
def ay(h1:XX X U st (.nx ρ'))(h2:W4 X ρ' rest o):W4 X U (st::rest) o:=.of (qT G4 lX) λB F H Y E k q=>h1 B F H Y _ k λF1 H1 σ1 k1 s1=>h2 B F1 H1 σ1 E k1<|q.later s1
def ff(h1:XX X U st (.rt d)):W4 X U (st::rest) (.rt d):=.of (qT G4 lX) λB F H Y E k q=>h1 B F H Y _ k q
def aM(h1:XX X U st o):W4 X U [st] o:=.of (u4 G4) λB F H Y E k q=>h1 B F H Y E k q
def eL{U:dP}(i:Nat)(hi:U[i]?=some (.own xs))(h:W4 X (U.set i<|.val<|.lst xs) rest o):W4 X U rest o:=λB F H Y E k q=>by obtain⟨F',sf,k'⟩:=k.Zl hi;exact h B F' H Y E k'<|q.later sf
def cp(h:W0 X U e d):XX X U (.Return (some e) pos) (.rt d):=.of (CC cF) λB F H Y E k q=>h B F H Y _ k λv F' H' x r=>q v F' H' (k.toExt.trans x) r
def fF(hc:W5 X U c true)(h:W4 X U ss o):XX X U (.If c ss us pos) o:=.of (QM xh lX lX) λB F H Y E k q=>hc B F H Y _ k λF1 H1 x1=>by rw[ag rfl];exact h B F1 H1 Y E (k.ext x1)<|q.later x1.sf
def fx(hc:W5 X U c false)(h:W4 X U us o):XX X U (.If c ss us pos) o:=.of (QM xh lX lX) λB F H Y E k q=>hc B F H Y _ k λF1 H1 x1=>by rw[af aW];exact h B F1 H1 Y E (k.ext x1)<|q.later x1.sf
def M6{x:Str}[Zr X]:X.fn x=true\/X.env.scope.names.lookup x=some .local:=.inl<|Zr.fn x
def At.loc{x:Str}(t:At X N sc)(hx:qB sc x=true):S8 X.env.scope x:=by rw[t.eS];exact R7 hx
def At.ix{i:Nat}(t:At X N sc)(h:N[i]?=some x):X.N[i]?=some x:=by rwa[t.eN]
def df{pos:Pos}[Zr X](t:At X N sc)(i:Nat)(h:W0 X U e d)(hi:N[i]?=some x:=by rfl)(hx:qB sc x=true:=by rfl)(hs:swapsWith e (some<|.Name x pos') pos.line X.env=pure false:=by rfl):XX X U (.Assign [.Name x pos'] e pos) (.nx<|U.set i<|.val d):=.of (yV t.nd (t.ix hi) (t.loc hx) cF hs M6) λB F H Y E k q=>h B F H Y _ k λv F' H' x' r=>q F' H' _ ((k.ext x').Xq i r) x'.sf
def iy{pos:Pos}[Zr X](t:At X N sc)(i:Nat)(h:Xe X U e xs)(hi:N[i]?=some x:=by rfl)(hx:qB sc x=true:=by rfl)(hs:swapsWith e (some<|.Name x pos') pos.line X.env=pure false:=by rfl):XX X U (.Assign [.Name x pos'] e pos) (.nx<|U.set i<|.own xs):=.of (yV t.nd (t.ix hi) (t.loc hx) cF hs M6) λB F H Y E k q=>h B F H Y _ k λp vs F' H' x' h0 hp hf r=>q F' H' _ ((k.ext x').Yy i hp hf (k.sh.free h0) (k.noOwn h0) r) x'.sf
def GX{U:dP}[Zr X](t:At X N sc)(i:Nat){g:Int->Int->Int}{C:Int->Int->Prop}(ho:oS X (inplaceOp op) (rI C λi j=>.int<|g i j))(hr:U[i]?=some (.val<|.int n))(h:W0 X U e (.int m))(hc:C n m)(hi:N[i]?=some x:=by rfl)(hx:qB sc x=true:=by rfl):XX X U (.AugAssign (.Name x pos') op e pos) (.nx<|U.set i<|.val<|.int<|g n m):=.of (RB t.nd (t.ix hi) (t.loc hx) cF (ho) M6) λB F H Y E k q=>by obtain⟨v,h1,h2⟩:=k.vals i _ hr;cases h2;exact⟨_,h1,h B F H Y _ k λv F' H' x' r=>by cases r;exact⟨n,m,rfl,rfl,hc,q F' H' _ ((k.ext x').Xq i<|.int _) x'.sf⟩⟩
def Fh:oS X (inplaceOp .Add) (rI (λ_ _=>True) λi j=>.int<|i+j):=O8 λ_ _ _ _ _ _ _ _ q=>iadd_int q
def zn:oS X (inplaceOp .Sub) (rI (λ_ _=>True) λi j=>.int<|i-j):=O8 λ_ _ _ _ _ _ _ _ q=>isub_int q
def M2:oS X (inplaceOp .Mult) (rI IntMulOk λi j=>.int<|i*j):=O8 λ_ _ _ _ _ _ _ hc q=>imul_int q hc
def L4{U:dP}[Zr X](t:At X N sc)(i:Nat)(hr:U[i]?=some (.val<|.int n))(h:W0 X U e (.int m))(hi:N[i]?=some x:=by rfl)(hx:qB sc x=true:=by rfl):XX X U (.AugAssign (.Name x pos') .Add e pos) (.nx<|U.set i<|.val<|.int<|n+m):=GX t i Fh hr h trivial hi hx
def Ev{U:dP}[Zr X](t:At X N sc)(i:Nat)(hr:U[i]?=some (.val<|.int n))(h:W0 X U e (.int m))(hi:N[i]?=some x:=by rfl)(hx:qB sc x=true:=by rfl):XX X U (.AugAssign (.Name x pos') .Sub e pos) (.nx<|U.set i<|.val<|.int<|n-m):=GX t i zn hr h trivial hi hx
def L3{U:dP}[Zr X](t:At X N sc)(i:Nat)(hr:U[i]?=some (.val<|.int n))(h:W0 X U e (.int m))(hc:IntMulOk n m)(hi:N[i]?=some x:=by rfl)(hx:qB sc x=true:=by rfl):XX X U (.AugAssign (.Name x pos') .Mult e pos) (.nx<|U.set i<|.val<|.int<|n*m):=GX t i M2 hr h hc hi hx
def qR{pos:Pos}(t:At X N sc)(i j:Nat)(h1:W0 X U a u)(h2:W0 X U b v)(Z1:i≠j)(hi:N[i]?=some x:=by rfl)(hj:N[j]?=some y:=by rfl)(hx:sc.names.lookup x=some .local:=by rfl)(hy:sc.names.lookup y=some .local:=by rfl)(hw:swappedStores [.Tuple [.Name x px,.Name y py] kt pt] (.Tuple [a,b] k2 Z6) (dE sc)=pure (some [x,y]):=by rfl)(hs:swapsWithSole [.Tuple [.Name x px,.Name y py] kt pt] (.Tuple [a,b] k2 Z6) pos.line X.env=pure false:=by rfl)(hs1:Ii a [b] X.env:=by rfl)(hs2:Ii b [] X.env:=by rfl):XX X U (.Assign [.Tuple [.Name x px,.Name y py] kt pt] (.Tuple [a,b] k2 Z6) pos) (.nx<|(U.set i<|.val u).set j<|.val v):=.of (G5 t.calm t.nd (t.ix hi) (t.ix hj) Z1 (by rwa[t.eS]) (by rwa[t.eS]) (dH cF (dH cF gh hs2) hs1) ((sw<|t.eS).trans hw) hs) λB F H Y E k q=>h1 B F H Y _ k λv1 F1 H1 x1 r1=>h2 B F1 H1 Y _ (k.ext x1) λv2 F2 H2 x2 r2=>⟨v1,v2,rfl,q F2 H2 _ (((k.ext<|x1.t x2).Xq i<|r1.mono x2.sf).Xq j r2) (x1.t x2).sf⟩
def c9[Zr X](t:At X N sc)(i:Nat)(hi:N[i]?=some x:=by rfl)(hx:qB sc x=true:=by rfl):Yr X U (.Name x pos) d (U.set i<|.val d):=.of (va t.nd (t.ix hi) (t.loc hx) M6) λB F H Y v Q k r q=>q F H _ (k.Xq i r)<|.refl _
def mv[Zr X](t:At X N sc)(i j:Nat)(hi:N[i]?=some x:=by rfl)(hj:N[j]?=some y:=by rfl)(hx:qB sc x=true:=by rfl)(hy:qB sc y=true:=by rfl):Yr X U (.Tuple [.Name x px,.Name y py] kt pos) (.tup [u,v]) ((U.set i<|.val u).set j<|.val v):=.of (ME t.calm<|yX (va t.nd (t.ix hi) (t.loc hx) M6)<|yX (va t.nd (t.ix hj) (t.loc hy) M6) IN) λB F H Y w Q k r q=>by cases r with|tup h rl=>obtain⟨v1,v2,rfl,r1,r2⟩:=rl.two;exact⟨_,_,rfl,X1.of<|k.sub _ _ h,rfl,_,_,rfl,_,_,rfl,rfl,q F H _ ((k.Xq i r1).Xq j r2)<|.refl _⟩
def aU(t:At X N sc)(i:Nat)(hi:N[i]?=some x:=by rfl)(hx:sc.names.lookup x=some .local:=by rfl):XO X U (.Name x pos) d (U.set i<|.val d):=.of (va t.nd (t.ix hi) (by rw[t.eS];exact .inl hx)<|by rw[t.eS];exact .inr hx) λB F H Y v Q k r q=>q _ (k.Xq i r) λp h=>h.Xq i _ d
def nG{pos:Pos}(t:At X N sc)(h:W0 X U e d)(hg:Yr X U tg d ρ')(hs:swapsWithSole [tg] e pos.line X.env=pure false:=by rfl)(hw:swappedStores [tg] e (dE sc)=pure none:=by rfl)(h1:(assignEach [tg] X.env).map (·.2)=[assign tg X.env]:=by rfl):XX X U (.Assign [tg] e pos) (.nx ρ'):=.of (G7 cF MD hs ((sw<|t.eS).trans hw) h1) λB F H Y E k q=>h B F H Y _ k λv F1 H1 x1 r1=>hg B F1 H1 Y v _ (k.ext x1) r1 λF2 H2 σ2 k2 s2=>q F2 H2 σ2 k2<|x1.sf.trans s2
def nP{i:Nat}{Q:VK}{U:dP}(t:At X N sc)(hr:U[i]?=some (.own xs))(hN:N[i]?=some x)(hv:kC sc x=true)(hx:gv x=true)(k:Ok X.K B F H Y U)(h:∀p vs,Y[i]?=some (some<|.ref p)->H p=some (.lst vs)->W3 X.K F vs xs->Q (.ref p) H):wE X (.Name x pos) Y H Q:=.mk λon s I=>by obtain⟨p,vs,h1,h2,h3,h4,h5⟩:=k.XJ i xs hr;exact G3 t hN hv hx on s Y H Q I ⟨_,h1,h p vs h1 h2 h5⟩
def jp{apos Xd:Pos}{U:dP}{pos:Pos}(t:At X N sc)(i:Nat)(hr:U[i]?=some (.own xs))(h:W0 X U e d)(hz:xs.length<sizeLine)(hN:N[i]?=some y:=by rfl)(hv:kC sc y=true:=by rfl)(hx:gv y=true:=by rfl)(hs:Ii e [] X.env:=by rfl)(Xx:(apos.endLine==Xd.line)=true:=by rfl)(Zv:JT Xd [] X.env:=by rfl)(ZG:Tw Xd [e] X.env:=by rfl)(ZE:swapsWith (.Call (.Attribute (.Name y p) "append" apos) [e] [] Xd) none pos.line X.env=pure false:=by rfl):XX X U (.Expr (.Call (.Attribute (.Name y p) "append" apos) [e] [] Xd) pos) (.nx<|U.set i<|.own<|xs++[d]):=.of (u5 (QP gI PySem.F.slot_list_append PySem.F.type_list_append wd cF (dH cF gh hs) rfl ZG Xx hs Zv) ZE) λB F H Y E k q=>nP t hr hN hv hx k λl vs h1 h2 h3=>⟨.inl ⟨rfl,_,XU.of h2⟩,h B F H Y _ k λv F' H' x' r=>by have k':=k.ext x';refine⟨l,vs,v,rfl,rfl,x'.sh _ _ h2,by rwa[h3.length],?_⟩;exact q F' _ _ (k'.Ye (vs:=vs) hr h1<|(h3.mono x'.sf).append<|.cons r .nil) x'.sf⟩
def L0{apos Xd:Pos}{U:dP}{pos:Pos}(t:At X N sc)(i:Nat)(hr:U[i]?=some (.own xs))(hz:xs≠[])(hN:N[i]?=some y:=by rfl)(hv:kC sc y=true:=by rfl)(hx:gv y=true:=by rfl)(Xx:(apos.endLine==Xd.line)=true:=by rfl)(ZE:swapsWith (.Call (.Attribute (.Name y p) "pop" apos) [] [] Xd) none pos.line X.env=pure false:=by rfl):XX X U (.Expr (.Call (.Attribute (.Name y p) "pop" apos) [] [] Xd) pos) (.nx<|U.set i<|.own xs.dropLast):=.of (u5 (yY gI Bl Bk He cF rfl Xx) ZE) λB F H Y E k q=>nP t hr hN hv hx k λl vs h1 h2 h3=>⟨.inl ⟨rfl,_,XU.of h2⟩,by have XB:vs≠[]:=λz=>hz<|au (by rw[<-h3.length,z];rfl);obtain⟨w,hw⟩:∃w,vs[vs.length-1]?=some w:=⟨vs[vs.length-1]'(by have:=ar.mpr XB;lia),am _⟩;exact⟨l,vs,w,rfl,rfl,h2,hw,q F _ _ (k.Ye (vs:=vs) hr h1 h3.dropLast)<|.refl _⟩⟩
def sQ{U:dP}(t:At X N sc)(i:Nat)(hr:U[i]?=some (.own xs))(h:W0 X U b (.int n))(hj:Ho xs.length n=some j)(hN:N[i]?=some y:=by rfl)(hv:kC sc y=true:=by rfl)(hx:gv y=true:=by rfl)(ha:∀v,assign (.Subscript (.Name y p) b pos) X.env v=(do
   let ov <-holding [v] (eval (.Name y p) X.env)
   let iv <-holding [v,ov] (eval b X.env)
   standAt pos
   holding [v,ov,iv] (setItem ov iv v)
   release [v,ov,iv] []):=by intro _;rfl):Yr X U (.Subscript (.Name y p) b pos) d (U.set i (.own (xs.set j d))):=
 .of (G9 cF cF yr ha) λB F H Y v Q k r q=>
  nP t hr hN hv hx k λl vs h1 h2 h3=>h B F H Y _ k λw F' H' x' Yi=>by
   cases Yi
   refine⟨l,vs,n,j,rfl,rfl,x'.sh _ _ h2,by rwa[h3.length],?_⟩
   exact q F' _ _ ((k.ext x').Ye (vs:=vs) hr h1<|(h3.mono x'.sf).set (r.mono x'.sf) j) x'.sf
def KF:UI X (TZ X.K):=by
 intro on s Y H o i ov iv Q I ro ri h;obtain⟨p,xs,n,z,rfl,rfl,hq,he,q⟩:=h;cases ro;obtain⟨t,rfl⟩:=ri;let⟨its,r,pl,hz⟩:=I.list hq;let⟨j,h1,h2,h3,h4,h5⟩:=DL he;let⟨w,ew,Yi⟩:=r.get h2;have hl:=r.length;have hn:=tZ;have fin:EP X on Y Q w s:=⟨z,H,I,Yi,q⟩;by_cases h0:0<=n;have hj:n.toNat=j:=by rw[Vd h0 h5]at h1;exact bC h1
 exact wpAny_getItem_list pl.isList h0 (by lia) (by rw[hj];simpa using ew) fin;have hj:(n+its.toArray.size).toNat=j:=by rw[Te (by lia) h4]at h1;rw[aT,<-hl];exact bC h1
 exact wpAny_getItem_list_neg pl.isList (by lia) (by rw[aT]<;>lia) (by lia) (by rw[hj];simpa using ew) fin
def v4{j:Nat}{U:dP}(t:At X N sc)(i:Nat){g:Int->Int->Int}{C:Int->Int->Prop}(ho:oS X (inplaceOp op) (rI C λi j=>.int<|g i j))(hr:U[i]?=some (.own xs))(hb:W0 X U b (.int n))(hj:Ho xs.length n=some j)(hu:xs[j]?=some (.int u))(he:W0 X U e (.int m))(hc:C u m)(hN:N[i]?=some y:=by rfl)(hv:kC sc y=true:=by rfl)(hx:gv y=true:=by rfl)(ha:∀ov iv new,augStore b ov iv new=(do holding [new,ov,iv] (setItem ov iv new);release [new,ov,iv] [];pure .next):=by intros;rfl):XX X U (.AugAssign (.Subscript (.Name y p) b zGF) op e pos) (.nx<|U.set i<|.own<|xs.set j<|.int<|g u m):=.of (OW cF cF KF cF (ho) yr ha) λB F H Y E k q=>nP t hr hN hv hx k λl vs h1 h2 h3=>hb B F H Y _ k λw F1 H1 x1 Yi=>by
   cases Yi;have h21:=x1.sh _ _ h2;have ZS:s9 xs n=some (.int u):=by unfold s9;rwa[hj]
   obtain⟨w,hw1,hw2⟩:=(h3.mono x1.sf).at ZS;cases hw2;refine⟨l,vs,n,_,rfl,rfl,XU.of h21,hw1,he B F1 H1 Y _ (k.ext x1) λw F2 H2 x2 rw2=>?_⟩;cases rw2;refine⟨u,m,rfl,rfl,hc,l,vs,n,j,rfl,rfl,x2.sh _ _ h21,by rwa[h3.length],?_⟩;exact q F2 _ _ ((k.ext<|x1.t x2).Ye (vs:=vs) hr h1<|((h3.mono x1.sf).mono x2.sf).set (.int _) j) (x1.t x2).sf
end
structure wI(X:Cx)(tg e:Expr)(Y:St)(H:Hp)(R:It->Hp->Prop):Prop where
 go:∀(on:jn)(s:Shared),Inv X on Y H s->gA X (eval e X.env) (λv s1=>gA X (pyIter v) (U5 X on Y tg R) X.xe s1) X.xe s
instance zLF {X:Cx} {tg e:Expr} {Y:St} {H:Hp} {R:It->Hp->Prop}:CoeFun (wI X tg e Y H R) (λ_=>∀(on:jn)(s:Shared),Inv X on Y H s->gA X (eval e X.env) (λv s1=>gA X (pyIter v) (U5 X on Y tg R) X.xe s1) X.xe s):=⟨wI.go⟩
def T6{X:Cx}:PI X tg e (wI X tg e):=λon s _ _ _ I h=>h on s I
def pW(K:gS)(J:It)(F:Hp)(ds:ck):Prop:=∀(i:Nat)(F2 H2:Hp),W8 F F2->W8 F2 H2->(∀d,ds[i]?=some d->J.go i H2/\∀x H',J.yld i H2 x H'->∃F',Ext ⟨F2,H2⟩ F' H'/\Rep K F' x d)/\(ds.length<=i->J.stop i H2)
def X5(X:Cx)(U:dP)(tg e:Expr)(ds:ck):Prop:=∀(B:B0)(F H:Hp)(Y:St)(R:It->Hp->Prop),Ok X.K B F H Y U->(∀J F' H',Ext ⟨F,H⟩ F' H'->pW X.K J F' ds->R J H')->wI X tg e Y H R
section
variable {X:Cx}{ds:ck}
def X5.of(h:PI X tg e t)(r:∀(B:B0)(F H:Hp)(Y:St)(R:It->Hp->Prop),Ok X.K B F H Y U->(∀J F' H',Ext ⟨F,H⟩ F' H'->pW X.K J F' ds->R J H')->t Y H R):X5 X U tg e ds:=λB F H Y R k q=>.mk λon s I=>h on s Y H R I<|r B F H Y R k q
def Pu(hs:∀H,W8 F H->XU K H l vs)(r:W3 K F vs ds):pW K (V3 K l) F ds:=λi F2 H2 s1 s2=>⟨λd hd=>by obtain⟨v,hv,rv⟩:=r.get hd;have sq:=hs H2<|s1.trans s2;refine⟨⟨vs,v,sq,hv⟩,λx H' y=>?_⟩;obtain⟨rfl,y⟩:=y;have e:=y vs sq;rw[hv]at e;cases e;exact⟨F2,.refl s2,rv.mono s1⟩,λh=>⟨vs,hs H2<|s1.trans s2,by rwa[r.length]⟩⟩
def MZ(hs:∀H,W8 F H->X1 K H l vs)(r:W3 K F vs ds):pW K (V2 K l) F ds:=λi F2 H2 s1 s2=>⟨λd hd=>by let⟨v,hv,rv⟩:=r.get hd;have sq:=hs H2<|s1.trans s2;refine⟨⟨vs,v,sq,hv⟩,λx H' y=>?_⟩;obtain⟨rfl,y⟩:=y;have e:=y vs sq;rw[hv]at e;cases e;exact⟨F2,.refl s2,rv.mono s1⟩,λh=>⟨vs,hs H2<|s1.trans s2,by rwa[r.length]⟩⟩
def gN(h:W0 X U e (.lst ds)):X5 X U tg e ds:=.of (O2 cF) λB F H Y R k q=>h B F H Y _ k λv F' H' x r=>by cases r with|lst hf rl=>exact⟨_,rfl,⟨_,XU.of<|x.sub _ _ hf⟩,q _ F' H' x<|Pu (λH2 s2=>XU.of<|s2 _ _ hf) rl⟩
def j8(h:W0 X U e (.tup ds)):X5 X U tg e ds:=.of (MC cF) λB F H Y R k q=>h B F H Y _ k λv F' H' x r=>by cases r with|tup hf rl=>exact⟨_,rfl,⟨_,X1.of<|x.sub _ _ hf⟩,q _ F' H' x<|MZ (λH2 s2=>X1.of<|s2 _ _ hf) rl⟩
def cH(lo:Int)(n:Nat):ck:=(List.range n).map λ(i:Nat)=>D.int<|lo+(i:Int)
def Hq{lo:Int}:pW K (UK lo n) F (cH lo n):=λi F2 H2 s1 s2=>⟨λd hd=>by
  unfold cH at hd;rw[aw]at hd;have hi:i<n:=by by_cases h:i<n;exact h;rw[aI<|by simpa using h]at hd;cases hd
  rw[bv hi]at hd;cases hd;refine⟨hi,λx H' y=>?_⟩;obtain⟨rfl,rfl⟩:=y;exact⟨F2,.refl s2,.int _⟩,λh=>by
   have h':n<=i:=by simpa[cH]using h
   exact h'⟩
def eD(t:At X N sc)(bl:tN X sc "range" (.type "range"))(h:W0 X U a (.int j))(h1: -(2 ^ 62)<=j)(h2:j<2 ^ 62)(hs:Pl a:=by intro _ _;rfl):X5 X U tg (.Call (.Name "range" p) [a] [] pos) (cH 0 j.toNat):=.of (Kj (hJ t bl.g) bl.m (dH cF gh<|hs _ _)<|hs _ _) λB F H Y R k q=>h B F H Y _ k λv F' H' x r=>by cases r;exact⟨j,rfl,h1,h2,q _ F' H' x Hq⟩
def oQ(t:At X N sc)(bl:tN X sc "range" (.type "range"))(ha:W0 X U a (.int i))(hb:W0 X U b (.int j))(hc: -(2 ^ 62)<=i/\i<2 ^ 62/\-(2 ^ 62)<=j/\j<2 ^ 62)(hsa:Pl a:=by intro _ _;rfl)(hsb:Pl b:=by intro _ _;rfl):X5 X U tg (.Call (.Name "range" p) [a,b] [] pos) (cH i (j-i).toNat):=.of (BO (hJ t bl.g) bl.m (dH cF (dH cF gh<|hsb _ _)<|hsa _ _) (by rw[hsa,hsb];rfl)<|hsb _ _) λB F H Y R k q=>ha B F H Y _ k λv F1 H1 x1 r1=>hb B F1 H1 Y _ (k.ext x1) λw F2 H2 x2 r2=>by cases r1;cases r2;exact⟨i,j,rfl,hc,q _ F2 H2 (x1.t x2) Hq⟩
inductive Xc(X:Cx)(tg:Expr)(body:List Stmt):ck->dP->Out->Prop where
 |nil {U:dP}:Xc X tg body [] U (.nx U)
 |cons {d:D} {ds:ck} {U W1 ρ2:dP} {o:Out}:Yr X U tg d W1->W4 X W1 body (.nx ρ2)->Xc X tg body ds ρ2 o->Xc X tg body (d::ds) U o
 |ret {d r:D} {ds:ck} {U W1:dP}:Yr X U tg d W1->W4 X W1 body (.rt r)->Xc X tg body (d::ds) U (.rt r)
def kN{i:Nat}{xs ys:List α}{x:α}(h:xs.drop i=x::ys):xs[i]?=some x/\xs.drop (i+1)=ys/\i<xs.length:=by
 have hi:i<xs.length:=by by_cases q:i<xs.length;exact q;rw[List.drop_eq_nil_of_le<|by lia]at h;cases h
 have e:=Tv hi;rw[h]at e;injection e with e1 e2;exact⟨by rw[am hi,e1],e2.symm,hi⟩
def gY(t:At X N sc)(hi:X5 X U tg e ds)(h:Xc X tg body ds U o)(hs:∀x,foldedSetIterable e X.env x=pure x:=by intro _;rfl):XX X U (.For tg e body [] pos) o:=.of (Mr t.pass t.calm T6 MD lX hs) λB F H Y E k q=>hi B F H Y _ k λJ F1 H1 x1 J1=>by
  refine⟨λi m Y H=>∃ρ' F',Ok X.K B F' H Y ρ'/\W8 F1 F'/\Xc X tg body (ds.drop i) ρ' o/\m=ds.length-i,⟨ds.length,U,F1,k.ext x1,.refl _,by simpa using h,by simp⟩,?_⟩;rintro i m Y H ⟨ρ',F',k',sf,run,rfl⟩;have J2:=J1 i F' H sf k'.sub;generalize e1:ds.drop i=rest at run;cases run with
  |nil=>
   have hl:ds.length<=i:=by have:=bo List.length e1;rw[cO,gQ]at this;lia
   exact .inl ⟨J2.2 hl,(q.later<|x1.sf.trans sf) F' H Y k'<|.refl _⟩
  |@cons d0 ds0 ρ0 W1 ρ2 o0 g b r=>obtain⟨hd,hr,XQ⟩:=kN e1;obtain⟨go,yl⟩:=J2.1 _ hd;refine .inr ⟨go,λXV H'=>∃ZL,Ok X.K B ZL H' XV ρ2/\W8 F1 ZL,λXV H' ⟨ZL,k'',ZX⟩=>⟨ds.length-(i+1),by lia,_,ZL,k'',ZX,by rwa[hr],rfl⟩,λx H' y=>?_⟩;obtain⟨F2,x2,rx⟩:=yl x H' y;refine g B F2 H' Y x _ (k'.ext x2) rx λF3 H3 σ3 k3 s3=>b B F3 H3 σ3 _ k3 λF4 H4 σ4 k4 s4=>⟨F4,k4,sf.trans<|x2.sf.trans<|s3.trans s4⟩
  |ret g b=>obtain⟨hd,hr,XQ⟩:=kN e1;obtain⟨go,yl⟩:=J2.1 _ hd;refine .inr ⟨go,λ_ _=>False,λXV H' z=>z.elim,λx H' y=>?_⟩;obtain⟨F2,x2,rx⟩:=yl x H' y;exact g B F2 H' Y x _ (k'.ext x2) rx λF3 H3 σ3 k3 s3=>b B F3 H3 σ3 _ k3 q
theorem Xc.of(body:List Stmt)(R:Nat->dP):∀(ds:ck)(i:Nat),(∀(j:Nat)d,ds[j]?=some d->∃W1,Yr X (R<|i+j) tg d W1/\W4 X W1 body (.nx<|R<|i+j+1))->Xc X tg body ds (R i) (.nx<|R<|i+ds.length)
 |[],i,_=>.nil
 |d::ds,i,h=>by
  obtain⟨W1,h1,h2⟩:=h 0 d rfl;refine .cons h1 h2 ?_;have r:=Xc.of body R ds (i+1) λj e he=>by have:=h (j+1) e he;rwa[show i+1+j=i+(j+1)by lia]
  rwa[show i+(d::ds).length=i+1+ds.length by simp;lia]
inductive XD(X:Cx)(c:Expr)(body:List Stmt):Nat->dP->Out->Prop where
 |stop {U:dP}:W5 X U c false->XD X c body 0 U (.nx U)
 |step {n:Nat} {U W1:dP} {o:Out}:W5 X U c true->W4 X U body (.nx W1)->XD X c body n W1 o->XD X c body (n+1) U o
 |ret {U:dP} {r:D}:W5 X U c true->W4 X U body (.rt r)->XD X c body 0 U (.rt r)
def iu(t:At X N sc)(h:∃n,XD X c body n U o):XX X U (.While c body [] pos) o:=.of (Mp t.pass xh lX) λB F H Y E k q=>by
  obtain⟨n,h⟩:=h;refine⟨λm Y H=>∃ρ' F',Ok X.K B F' H Y ρ'/\W8 F F'/\XD X c body m ρ' o,⟨n,U,F,k,.refl _,h⟩,?_⟩;rintro m Y H ⟨ρ',F',k',sf,run⟩;cases run with
  |stop hc=>refine hc B F' H Y _ k' λF1 H1 x1=>?_;rw[af aW];exact q F1 H1 Y (k'.ext x1)<|sf.trans x1.sf
  |@step n0 ρ0 W1 o0 hc hb r=>refine hc B F' H Y _ k' λF1 H1 x1=>?_;rw[ag rfl];exact⟨λXV H'=>∃ZL,Ok X.K B ZL H' XV W1/\W8 F ZL,λXV H' ⟨ZL,k'',ZX⟩=>⟨_,qg _,_,ZL,k'',ZX,r⟩,hb B F1 H1 Y _ (k'.ext x1) λF2 H2 σ2 k2 s2=>⟨F2,k2,sf.trans<|x1.sf.trans s2⟩⟩
  |ret hc hb=>refine hc B F' H Y _ k' λF1 H1 x1=>?_;rw[ag rfl];exact⟨λ_ _=>False,λXV H' z=>z.elim,hb B F1 H1 Y _ (k'.ext x1) q⟩
structure DefX(P:Program)(w:World)(K:gS)(mg:AE)(base:Heap)(k:Nat)(N:fV)(sc:Scope)(X:Cx):Prop where
 at':At X N sc
 prog:X.prog=P
 w':X.w=w
 k':X.K=K
 Ze:X.mg=mg
 Zn:X.base=base
 room:XN k X.A
 XM:Zr X
 stk:X.stack=X.env::X.outer/\X.env.frame=some X.env.locals
abbrev fA(P:Program)(w:World)(K:PySem.W.Frag)(mg:Str->Option Value)(base:Heap)(k:Nat)(N:List Str)(st:Stmt)(X:Cx):Prop:=DefX P w K mg base k N (aK st) X
def vg(sub:W8 F H)(r:W3 K F vs ds)(n:Nat):Ok K ⟨F,H⟩ F H (vs.map some++List.replicate n none) (ds.map Sl.val++List.replicate n Sl.un):=by
 have hl:=r.length;have own:∀(i:Nat)xs,(ds.map Sl.val++List.replicate n Sl.un)[i]?≠some (.own xs):=λi xs h=>by
  by_cases hi:i<ds.length;rw[a8<|by simpa using hi,aw]at h;cases e:ds[i]? with
  |none=>rw[e]at h;cases h
  |some d=>rw[e]at h;cases h
  rw[aQ<|by simpa using hi,dD]at h;split at h<;>cases h
 have zDW:∀(i:Nat)xs,(ds.map Sl.val++List.replicate n Sl.un)[i]?≠some (.X6 xs):=λi xs h=>by
  by_cases hi:i<ds.length;rw[a8<|by simpa using hi,aw]at h;cases e:ds[i]? with
  |none=>rw[e]at h;cases h
  |some d=>rw[e]at h;cases h
  rw[aQ<|by simpa using hi,dD]at h;split at h<;>cases h
 refine⟨.refl sub,by simp[hl],λi d h=>?_,λi xs h=>absurd h<|own i xs,λi j xs ys a h=>absurd h<|own i xs,⟨λi kvs h=>absurd h<|zDW i kvs,λi j xs ys a h=>absurd h<|zDW i xs⟩⟩;by_cases hi:i<ds.length;rw[a8<|by simpa using hi,aw]at h;cases e:ds[i]? with
 |none=>rw[e]at h;cases h
 |some d'=>rw[e]at h;cases h;let⟨v,hv,rv⟩:=r.get e;exact⟨v,by rw[a8<|by rw[ab];lia,aw,hv];rfl,rv⟩
 rw[aQ<|by simpa using hi,dD]at h;split at h<;>cases h
def Uv{P:Program}(YO:P.given.tree=none){w:World}{K:gS}{mg:AE}{base:Heap}{x qual:Str}{st:Stmt}{f:Addr}{fd:FuncData}{N ps:fV}{k:Nat}{C:ck->D->Prop}(F:Fun K x qual st f fd)(S:bx N ps (aK st))(len:∀ds d,C ds d->ds.length=ps.length)(body:∀X,DefX P w K mg base k N (aK st) X->Go X N st C):mw P w K mg base uw (k+1) f fd ps (Rm K C):=by
 refine F.ok S (λvs H Q E h=>?_) λXR A outer s H vs Q E hr h=>?_;obtain⟨F',ds,d,sub,r,hC,q⟩:=h;rw[r.length];exact len ds d hC;obtain⟨F',ds,d,sub,r,hC,q⟩:=h;refine⟨_,lX,?_⟩;have hx:DefX P w K mg base k N (aK st) (A6 uw P w K mg base N qual (aK st) f XR A outer s H E).YX:=⟨⟨rfl,rfl,rfl,S.nd,rfl,hr.units,hr.ZT,YO,⟨_,_,rfl,S.gen,S.co,rfl,rfl⟩⟩,rfl,rfl,rfl,rfl,rfl,hr,⟨λ_=>rfl⟩,rfl,rfl⟩;have hk:Ok K ⟨F',H⟩ F' H (start N vs) (Lg N ds):=by unfold start;rw[r.length];exact vg sub r _
 exact(body _ hx ds d hC) ⟨F',H⟩ F' H _ _ hk λv F2 H2 x2 r2=>q v F2 H2 x2 r2
def DefX.callee{ps:fV}{x:Str}{C:ck->D->Prop}(h:DefX P w K mg base k N sc X)(F:mw P w K mg base uw j f fd ps (Rm K C))(hj:j<=k)(hm:mg x=some (.ref f))(hk:keepIn K (.ref f)=true)(hb:Binds K fd ps []):Callee X x C:=by obtain⟨h0,rfl,rfl,rfl,rfl,rfl,hr,_⟩:=h;exact⟨f,fd,ps,j,F,hr.mono hj,hm,hk,hb⟩
end
def pC(scope sc:Scope):Scope:={scope with names:=scope.names.map λ(n,k)=>if(k==.free&&sc.kind==.function&&sc.names.lookup n==some .cell)then(n,.cell)else(n,k)}
def CA{sc:Scope}{env:Env}(h:env.scope=sc):relabel scope env=pC scope sc:=by subst h;rfl
theorem Dr(env:Env):∀(names:List (Str×NameKind))(cs:List (Str×Addr)),(∀n,(n,NameKind.free)∈names->∃c,env.cells.lookup n=some c)->(∀n c,cs.lookup n=some c->env.cells.lookup n=some c)->∃cl:List (Str×Addr),(forIn (m:=Sem) names cs λ(x:Str×NameKind)r=>if x.2==.free then do let c <-cellOf env x.1;pure (ForInStep.yield<|(x.1,c)::r)else pure<|ForInStep.yield r)=pure cl/\(∀n c,cl.lookup n=some c->env.cells.lookup n=some c)/\(∀n,(n,NameKind.free)∈names->∃c,cl.lookup n=some c)/\(∀n c,cs.lookup n=some c->∃c',cl.lookup n=some c')
 |[],cs,_,h=>⟨cs,rfl,h,(λn hn=>nomatch hn),λn c e=>⟨c,e⟩⟩
 |(n,k)::r,cs,hf,h=>by
  rw[Qt];by_cases hk:k=.free;subst hk;obtain⟨c,hc⟩:=hf n aN;have YC:cellOf env n=pure c:=by unfold cellOf;rw[hc]
  have h':∀m c',((n,c)::cs).lookup m=some c'->env.cells.lookup m=some c':=λm c' e=>by
   rw[fj]at e;cases hm:m==n with
   |true=>rw[hm]at e;cases e;rwa[eq_of_beq hm]
   |false=>rw[hm]at e;exact h m c' e
  obtain⟨cl,e1,e2,e3,e4⟩:=Dr env r ((n,c)::cs) (λm hm=>hf m<|aC _ hm) h';refine⟨cl,?_,e2,λm hm=>?_,λm c' e=>?_⟩;rwa[YC];rcases aF.mp hm with z |z;cases z;exact e4 n c (by rw[fj,jk]);exact e3 m z;by_cases hm:m=n;subst hm;exact e4 m c (by rw[fj,jk]);exact e4 m c' (by rwa[fj,fU.mpr hm]);obtain⟨cl,e1,e2,e3,e4⟩:=Dr env r cs (λm hm=>hf m<|aC _ hm) h;refine⟨cl,?_,e2,λm hm=>?_,e4⟩;rw[fU.mpr hk,af aW];exact e1;rcases aF.mp hm with z |z;cases z;exact absurd rfl hk;exact e3 m z
def HH{scope:Scope}{env:Env}(hf:∀n,(n,NameKind.free)∈scope.names->∃c,env.cells.lookup n=some c):∃cl:List (Str×Addr),closureFor scope env=pure cl/\(∀n c,cl.lookup n=some c->env.cells.lookup n=some c)/\(∀n,(n,NameKind.free)∈scope.names->∃c,cl.lookup n=some c):=by obtain⟨cl,e1,e2,e3,_⟩:=Dr env scope.names [] hf λn c e=>nomatch e;refine⟨cl,?_,e2,e3⟩;show(forIn scope.names ([]:List (Str×Addr)) (λ(x:Str×NameKind)r=>if x.2==.free then do let c <-cellOf env x.1;pure (ForInStep.yield<|(x.1,c)::r)else pure<|ForInStep.yield r)>>=λs=>pure s)=pure cl;rw[e1];rfl
structure kT(N:fV)(sc:Scope)(N':fV)(scope:Scope):Prop where
 kind:scope.kind=.function
 cells:∀y∈scope.names,y.2=.cell->scope.names.lookup y.1=some .cell
 names:∀y∈scope.names,y.2=.local->scope.names.lookup y.1=some .local
 free:∀y∈scope.names,y.2=.free->sc.names.lookup y.1=some .cell
 zEY:sc.kind=.function
 nd:N'.Nodup
 old:∀(i:Nat)x,i<N.length->N'[i]?=some x->kC (pC scope sc) x=true->N[i]?=some x/\scope.names.lookup x=some .free
 len:N.length<=N'.length
def tX(scope:Scope)(x:Str):Bool:=match scope.names.lookup x with|some .cell=>true|_=>false
structure FC(names:List (Str×NameKind))(cells:List (Str×Addr))(n:Nat)(cl:List (Str×Addr))(h:Heap):Prop where
 look:∀m c,cl.lookup m=some c->(cells.lookup m=some c/\¬(m,NameKind.cell)∈names)\/(n<=c/\(m,NameKind.cell)∈names/\h.IsCell c none)
 has:∀m,((m,NameKind.cell)∈names\/∃c,cells.lookup m=some c)->∃c,cl.lookup m=some c
 inj:∀x y c,n<=c->cl.lookup x=some c->cl.lookup y=some c->x=y
theorem re:∀(names:List (Str×NameKind))(cells:List (Str×Addr))(s:Shared)(Q:List (Str×Addr)->Shared->Prop),(∀m c,cells.lookup m=some c->c<s.heap.objs.size)->
  (∀cl h,(∀b o,s.heap.get? b=some o->h.get? b=some o)->FC names cells s.heap.objs.size cl h->Q cl {s with heap:=h})->
  wpAny M A (forIn names cells λx __s=>match x with
   |(name,kind)=>if(kind==NameKind.cell)=true then do
     let a <-alloc {cls:=Value.type "cell",data:=Data.cell none}
     pure (ForInStep.yield<|(name,a)::__s)
    else pure (ForInStep.yield __s)) Q E s
 |[],cells,s,Q,hb,q=>by
  refine ap<|q cells s.heap (λ_ _ e=>e) ⟨λm c e=>.inl ⟨e,λz=>nomatch z⟩,λm hm=>hm.elim (λz=>nomatch z) id,λx y c hc e _=>absurd (hb x c e)<|xC hc⟩
 |(name,kind)::rest,cells,s,Q,hb,q=>by
  rw[Qt]
  by_cases hk:kind=.cell
  subst hk
  refine ae<|ae (Vc<|ap ?_)
  have hsz:(s.heap.push {cls:=Value.type "cell",data:=Data.cell none}).objs.size=s.heap.objs.size+1:=by rw[xI]
  refine re rest _ _ _ (λm c e=>?_) λcl h kp f=>q cl h (λb o e=>kp b o<|aE _ e) ⟨λm c e=>?_,λm hm=>f.has m ?_,λx y c hc ex ey=>?_⟩
  rw[hsz]
  rw[fj]at e
  split at e
  cases e;exact qg _
  exact vP<|hb m c e
  have f':=f.look m c e
  rcases f' with⟨e1,e2⟩ |⟨e1,e2,e3⟩
  rw[fj]at e1
  split at e1
  rename_i hm
  cases e1
  have hm':m=name:=by simpa using hm
  subst hm'
  exact .inr ⟨ao _,by simp,⟨_,kp _ _<|a7 _ rfl,rfl⟩⟩
  rename_i hm
  have hm':m≠name:=by simpa using hm
  exact .inl ⟨e1,λz=>by
   rcases aF.mp z with z |z
   exact hm'<|bo Prod.fst z
   exact e2 z⟩
  have e1':s.heap.objs.size+1<=c:=by rwa[<-hsz]
  exact .inr ⟨by lia,by simp[e2],e3⟩
  rcases hm with hm |⟨c,hc⟩
  rcases aF.mp hm with z |z
  right
  have:m=name:=bo Prod.fst z
  subst this
  exact⟨s.heap.objs.size,by rw[fj];simp⟩
  exact .inl z
  right
  rw[fj]
  split
  exact⟨_,rfl⟩
  exact⟨c,hc⟩
  by_cases Zh:s.heap.objs.size+1<=c
  exact f.inj x y c (by rwa[hsz]) ex ey
  have one:∀z,cl.lookup z=some c->z=name:=λz ez=>by
   rcases f.look z c ez with⟨e1,_⟩ |⟨e1,_⟩
   rw[fj]at e1
   split at e1
   rename_i hm;simpa using hm
   exact absurd (hb z c e1)<|xC hc
   exact absurd (aL (og hsz.symm) e1) Zh
  rw[one x ex,one y ey]
  have Z0:(kind==NameKind.cell)=false:=by simpa using hk
  have mem:∀m,(m,NameKind.cell)∈(name,kind)::rest↔(m,NameKind.cell)∈rest:=λm=>by
   constructor
   intro z
   rcases aF.mp z with z |z
   exact absurd (bo Prod.snd z).symm hk
   exact z
   intro z;simp[z]
  refine ae ?_
  show wpAny M A (if(kind==NameKind.cell)=true then _ else _) _ _ s
  rw[Z0,af aW]
  refine ap (re rest cells s Q hb λcl h kp f=>q cl h kp ⟨λm c e=>?_,λm hm=>f.has m ?_,f.inj⟩)
  rw[mem];exact f.look m c e
  rw[mem]at hm;exact hm
def E1{s:Shared}{scope:Scope}{env:Env}{cl:List (Str×Addr)}{Q:Env->Shared->Prop}(hb:∀m c,cl.lookup m=some c->c<s.heap.objs.size)(h:∀cl' h',(∀b o,s.heap.get? b=some o->h'.get? b=some o)->(∃m,h'.Ns s.heap.objs.size m)->FC scope.names cl s.heap.objs.size cl' h'->Q {scope:=scope,locals:=s.heap.objs.size,globals:=env.globals,cells:=cl',qual:=env.qual,func:=none,code:=env.code,frame:=env.frame,builtins:=env.builtins} {s with heap:=h'}):wpAny M A (newFunctionEnv scope env.globals cl [] env.qual none .none<|some env) Q E s:=by
 refine ae<|Vc ?_;have hsz:(s.heap.push {cls:=Value.type "dict",data:=Data.dict #[]}).objs.size=s.heap.objs.size+1:=by rw[xI]
 refine ae (re scope.names cl _ _ (λm c e=>?_) λcl' h' kp f=>?_);show c<(s.heap.push {cls:=Value.type "dict",data:=Data.dict #[]}).objs.size;rw[hsz];exact vP<|hb m c e;refine ae<|ap<|ap ?_;obtain⟨o,es,ep,g1,g2,g3,g4⟩:=Heap.Ns.new s.heap<|.type "dict";refine h cl' h' (λb o e=>kp b o<|aE _ e) ⟨_,o,es,ep,kp _ _ g1,g2,g3,g4⟩ ⟨λm c e=>?_,f.has,λx y c hc ex ey=>?_⟩;rcases f.look m c e with z |⟨z1,z2,z3⟩;exact .inl z;have z1':s.heap.objs.size+1<=c:=aL (og hsz.symm) z1;exact .inr ⟨Nat.le_of_succ_le z1',z2,z3⟩;by_cases Zh:s.heap.objs.size+1<=c;exact f.inj x y c (aL (og hsz) Zh) ex ey;rcases f.look x c ex with⟨z,_⟩ |⟨z,_⟩;exact absurd (hb x c z)<|xC hc;have z':s.heap.objs.size+1<=c:=aL (og hsz.symm) z;exact absurd z' Zh
structure X3(X X':Cx)(N':fV)(Z5:Scope)(ow:Str->Bool):Prop where
 at0:At0 X' N' Z5
 cal:X'.calm=X.calm
 prog:X'.prog=X.prog
 w':X'.w=X.w
 k':X'.K=X.K
 Ze:X'.mg=X.mg
 Zn:X'.base=X.base
 a':X'.A=X.A
 fn':∀x,ow x=true->X'.fn x=true
structure XY(X X':Cx)(N':fV)(Z5:Scope)(ow:Str->Bool):Prop where
 at':At X' N' Z5
 prog:X'.prog=X.prog
 w':X'.w=X.w
 k':X'.K=X.K
 Ze:X'.mg=X.mg
 Zn:X'.base=X.base
 a':X'.A=X.A
 fn':∀x,ow x=true->X'.fn x=true
section
variable {X:Cx}{ow:Str->Bool}
def X3.calm(h:X3 X X' N' Z5 ow)(hc:X.calm=true):XY X X' N' Z5 ow:=⟨h.at0.at<|h.cal.trans hc,h.prog,h.w',h.k',h.Ze,h.Zn,h.a',h.fn'⟩
def XY.callee{C:ck->D->Prop}(h:XY X X' N' Z5 ow)(c:Callee X x C):Callee X' x C:=by obtain⟨f,fd,ps,k,F,hr,hm,hk,hb⟩:=c;refine⟨f,fd,ps,k,?_,?_,?_,?_,?_⟩;rwa[h.prog,h.w',h.k',h.Ze,h.Zn];rwa[h.a'];rwa[h.Ze];rwa[h.k'];rwa[h.k']
def XY.blt(h:XY X X' N' Z5 ow)(b:tN X sc x u)(hg:Z5.names.lookup x=some .globalImplicit:=by rfl):tN X' Z5 x u:=⟨hg,by rw[h.Ze];exact b.m,b.v,b.n,b.d⟩
end
inductive W9(X:Cx)(tg elt:Expr)(ifs:vO):ck->dP->ck->Prop where
 |nil {U:dP}:W9 X tg elt ifs [] U []
 |take {d r:D} {ds rs:ck} {U W1:dP}:XO X U tg d W1->(ifs=[]\/∃c,ifs=[c]/\W5 X W1 c true)->W0 X W1 elt r->W9 X tg elt ifs ds W1 rs->W9 X tg elt ifs (d::ds) U (r::rs)
 |skip {d:D} {ds rs:ck} {U W1:dP} {c:Expr}:XO X U tg d W1->ifs=[c]->W5 X W1 c false->W9 X tg elt ifs ds W1 rs->W9 X tg elt ifs (d::ds) U rs
section
variable {R:Result->Shared->Prop}
def Dp{env:Env}(I:Nat->Shared->Prop)(turn:∀n s,I n s->wpAny (model prog w) A (pyNext it) (λr s₁=>match r with
   |none=>R (.ok .next) s₁
   |some v=>wpAny (model prog w) A (letOwnedTupleGo target it v) (λ_ s₀=>wpAny (model prog w) A (assign target env v) (λ_ s₂=>
     wpAny (model prog w) A (forIn ifs true λc r=>if r=true then do let ok <-isTrue c env (eval c env);pure (ForInStep.yield ok)else pure<|ForInStep.yield r) (λok s₃=>
      if ok=true then wpAny (model prog w) A (eval elt env) (λx s₄=>
       wpAny (model prog w) A (call (.builtin "list.append") [acc,x]) (λ_ s₅=>∃m,m<n/\I m s₅) (λ_ _=>False) s₄) (λ_ _=>False) s₃
      else∃m,m<n/\I m s₃) (λ_ _=>False) s₂) (λ_ _=>False) s₀) (λ_ _=>False) s₁) (λ_ _=>False) s)
  n (h:I n s):
  codeAny (model prog w) A (.compLoop (.ListComp elt [⟨target,iter,ifs,0⟩] scope pos) 0 it acc env) R s:=by
 refine Tg rfl I (λn s hI=>?_) n h
 refine Vb ?_
 rw[compTurn_list]
 refine ae<|fk<|ae (cw (turn n s hI) (λr s₁ h₁=>?_) λ_ _ h'=>h'.elim)
 cases r with
 |none=>exact ap h₁
 |some v=>
  refine ae (cw h₁ (λ_ s₀ h₀=>ae (cw h₀ (λ_ s₂ h₂=>ae (cw h₂ (λok s₃ h₃=>?_) λ_ _ h'=>h'.elim)) λ_ _ h'=>h'.elim)) λ_ _ h'=>h'.elim)
  cases ok with
  |false=>exact ap ⟨rfl,h₃⟩
  |true=>
   exact ae<|ae (cw h₃ (λx s₄ h₄=>ae (cw h₄ (λ_ s₅ h₅=>ap<|ap ⟨rfl,h₅⟩) λ_ _ h'=>h'.elim)) λ_ _ h'=>h'.elim)
end
def Ok.ZU{p:Addr}(k:Ok K B F H Y U)(hf:F p=none)(hb:B.H p=none)(hn:Xh Y U p)(hl:∃vs,H p=some (.lst vs)):Ok K B F (fN H p o) Y U:=by
 refine⟨⟨λb u q=>?_,λb u q=>?_,k.sf,k.nw⟩,k.len,k.vals,λi xs e=>?_,k.dist,k.Xm.to (.refl _) (λb φ e1 e2 _=>⟨by rwa[bq λz=>by subst z;obtain⟨vs,hl⟩:=hl;rw[hl]at e1;cases e1],e2⟩) λ_ _ e=>⟨e,rfl⟩⟩;have ne:b≠p:=λz=>by subst z;rw[hf]at q;cases q
 rw[bq ne];exact k.sub b u q;have ne:b≠p:=λz=>by subst z;rw[hb]at q;cases q
 rw[bq ne];exact k.sh b u q;obtain⟨a,vs,h1,h2,h3,h4,h5⟩:=k.XJ i xs e;have ne:a≠p:=λz=>by subst z;exact hn i xs e h1
 exact⟨a,vs,h1,by rwa[bq ne],h3,h4,h5⟩
def Ok.more(k:Ok K B F H Y U)(n:Nat):Ok K B F H (Y++List.replicate n none) (U++List.replicate n .un):=by
 have get:∀(i:Nat)s,(U++List.replicate n Sl.un)[i]?=some s->s≠.un->U[i]?=some s/\(Y++List.replicate n none)[i]?=Y[i]?:=λi s h hn=>by by_cases hi:i<U.length;rw[a8 hi]at h;exact⟨h,a8<|by rwa[k.len]⟩;rw[aQ<|by lia,dD]at h;split at h;cases h;exact absurd rfl hn;cases h
 refine⟨k.toExt,by simp[k.len],λi d h=>?_,λi xs h=>?_,λi j xs ys a h1 h2 h3 h4=>?_,k.Xm.to (.refl _) (λ_ _ e1 e2 _=>⟨e1,e2⟩) λi kvs h=>get i _ h λz=>nomatch z⟩;obtain⟨e1,e2⟩:=get i _ h λz=>nomatch z;rw[e2];exact k.vals i d e1;obtain⟨e1,e2⟩:=get i _ h λz=>nomatch z;rw[e2];exact k.XJ i xs e1;obtain⟨e1,e2⟩:=get i _ h1 λz=>nomatch z;obtain⟨g1,g2⟩:=get j _ h2 λz=>nomatch z;rw[e2]at h3;rw[g2]at h4;exact k.dist i j xs ys a e1 g1 h3 h4
def mP{x:Str}{names:List (Str×NameKind)}{k:NameKind}(h:names.lookup x=some k):(x,k)∈names:=jf h
def yR{scope sc:Scope}{x:Str}(hf:sc.kind=.function)(fr:∀y∈scope.names,y.2=.free->sc.names.lookup y.1=some .cell){k:NameKind}(h:(pC scope sc).names.lookup x=some k):∃k',scope.names.lookup x=some k'/\(k'=.free->k=.cell)/\(k'≠.free->k=k'):=by
 have go:∀names:List (Str×NameKind),(∀y∈names,y.2=.free->sc.names.lookup y.1=some .cell)->(names.map λ(n,k)=>if(k==NameKind.free&&sc.kind==.function&&sc.names.lookup n==some .cell)then(n,NameKind.cell)else(n,k)).lookup x=some k->∃k',names.lookup x=some k'/\(k'=.free->k=.cell)/\(k'≠.free->k=k'):=by
  intro names;induction names with
  |nil=>intro _ h;cases h
  |cons y r ih=>
   intro fr h;obtain⟨n,kk⟩:=y;have hr:=ih λy hy=>fr y<|aC _ hy;by_cases hkk:kk=.free;subst hkk;have e:(if(NameKind.free==NameKind.free&&sc.kind==.function&&sc.names.lookup n==some .cell)=true then(n,NameKind.cell)else(n,NameKind.free))=(n,NameKind.cell):=by have Zh:sc.names.lookup n=some .cell:=fr (n,.free) aN rfl;rw[Zh,hf];rfl
   rw[bY]at h;simp only[e]at h;rw[fj]at h ⊢;cases hx:x==n with
   |true=>rw[hx]at h;cases h;exact⟨.free,rfl,λ_=>rfl,λz=>absurd rfl z⟩
   |false=>rw[hx]at h;exact hr h
   have e:(if(kk==NameKind.free&&sc.kind==.function&&sc.names.lookup n==some .cell)=true then(n,NameKind.cell)else(n,kk))=(n,kk):=by rw[fU.mpr hkk];rfl
   rw[bY]at h;simp only[e]at h;rw[fj]at h ⊢;cases hx:x==n with
   |true=>rw[hx]at h;cases h;exact⟨_,rfl,λz=>absurd z hkk,λ_=>rfl⟩
   |false=>rw[hx]at h;exact hr h
 exact go scope.names fr h
def U2(X:Cx)(N':fV)(scope:Scope)(cl:List (Str×Addr))(C:Addr)(s3:Shared)(H3:Hp)(fp:List Addr):Cx:={X with N:=N',s₀:=s3,H₀:=H3,env:=compEnvC scope cl C X.env,outer:=X.stack,stack:=X.stack,ex:=fp,fn:=tX scope,pn:=[],xe:=λ_ _=>False}
section
variable {X:Cx}{tn:Nat->Heap->Prop}{J:It}{ds rs:ck}
def SO{cl Z3:List (Str×Addr)}(t:At0 X N sc)(S:kT N sc N' scope)(I3:Inv X on Y H3 s3)(Zg:∀n c,Z3.lookup n=some c->X.env.cells.lookup n=some c)(ZR:∀n,(n,NameKind.free)∈scope.names->∃c,Z3.lookup n=some c)(CN:FC scope.names Z3 s3.heap.objs.size cl h₁)(fo:∀b∈fp,pX X on H3 b)(fl:∀b∈fp,b<s3.heap.objs.size):(U2 X N' scope cl s3.heap.objs.size s3 H3 fp).Ok:=by
 refine⟨I3.ok.mod,?_,I3.ok.glob,I3.ok.blt,ao _,λx y c h1 h2=>?_,λx hx=>?_,(λx c hf h=>?_),I3.ok.hd,I3.ok.frames,.inl rfl,λb hb=>⟨?_,λx c h=>?_⟩,I3.bs,aL I3.ok.bsz I3.sz,λb o h hb=>?_,λb hb h=>?_,I3.stack,I3.ZO⟩;exact S.kind;by_cases hc:s3.heap.objs.size<=c;exact CN.inj x y c hc h1 h2;have old:∀z,cl.lookup z=some c->X.env.cells.lookup z=some c:=λz ez=>by rcases CN.look z c ez with⟨e,_⟩ |⟨e,_⟩;exact Zg z c e;exact absurd e hc
 exact I3.ok.inj x y c (old x h1)<|old y h2;have Yw:(relabel scope X.env).names.lookup x=some .cell\/(relabel scope X.env).names.lookup x=some .free:=hx;rw[CA t.eS]at Yw;have hk:∃k,(k=NameKind.cell\/k=.free)/\(pC scope sc).names.lookup x=some k:=by rcases Yw with h |h;exact⟨_,.inl rfl,h⟩;exact⟨_,.inr rfl,h⟩
 obtain⟨k,hk,h⟩:=hk;obtain⟨k',h1,h2,h3⟩:=yR S.zEY S.free h;by_cases hf:k'=.free;subst hf;exact CN.has x<|.inr<|ZR x<|mP h1;have e:=h3 hf;rcases hk with hk |hk;have e':=e.symm.trans hk;subst e';exact CN.has x<|.inl<|mP h1;exact absurd (e.symm.trans hk) hf;have hm:(x,NameKind.cell)∈scope.names:=by
  have hf':tX scope x=true:=hf;unfold tX at hf';cases e:scope.names.lookup x with
  |none=>rw[e]at hf';cases hf'
  |some kk=>rw[e]at hf';cases kk<;>first |exact mP e |cases hf'
 rcases CN.look x c h with⟨_,e⟩ |⟨e,_⟩;exact absurd hm e;exact e;exact dh<|fl b hb;rcases CN.look x c h with⟨e,_⟩ |⟨e,_⟩;exact(fo b hb).2.2.2.2.1 x c<|Zg x c e;exactλz=>absurd (fl b hb) (by rw[<-z];exact xC e);rcases(fo b hb).2.2.2.1 with z |z;exact I3.ok.zAN b o h z;have h1:=bc h;exact absurd (aR h1<|aL I3.ok.bsz z)<|dW _;have h':b∈Gq X.stack:=h;rcases aF.mp (I3.Zy b h')with z |z;exact(fo b hb).2.1 z;exact(fo b hb).2.2.1 z
def P7{tk:Nat}{cl Z3:List (Str×Addr)}(t:At0 X N sc)(S:kT N sc N' scope)(I3:Inv X on Y H3 s3)(Zg:∀n c,Z3.lookup n=some c->X.env.cells.lookup n=some c)(ZR:∀n,(n,NameKind.free)∈scope.names->∃c,Z3.lookup n=some c)(CN:FC scope.names Z3 s3.heap.objs.size cl h₁)(fo:∀b∈fp,pX X on H3 b)(fl:∀b∈fp,b<s3.heap.objs.size)(hns:∃m,h₁.Ns s3.heap.objs.size m)(kp:∀b o,s3.heap.get? b=some o->h₁.get? b=some o):Inv (U2 X N' scope cl s3.heap.objs.size s3 H3 fp) [] (Y++List.replicate (N'.length-N.length) none) H3 {s3 with heap:=h₁,toks:=tk}:=by
 obtain⟨m,hm⟩:=hns;have hlen:Y.length=N.length:=by rw[I3.len,t.eN]
 refine⟨SO t S I3 Zg ZR CN fo fl,rfl,I3.bare,Un.kept kp,⟨m,hm,λi x v h1 h2 h3=>?_⟩,λx c h=>?_,I3.Xg.fresh<|ao _,λx c h=>(CN.look x c h).elim (λz=>I3.Yc x c<|Zg x c z.1) λz=>I3.Xg.fresh z.1,(λp hp=>nomatch hp),I3.Xg.kept kp,?_⟩;have hi:i<Y.length:=by by_cases hi:i<Y.length;exact hi;rw[aQ<|by lia,dD]at h2;split at h2<;>cases h2
 rw[a8 hi]at h2;have h3':Tq (pC scope sc) x:=by rw[<-CA t.eS];exact h3
 have hv:kC (pC scope sc) x=true:=by unfold kC;rcases h3' with z |z |z<;>rw[z]
 obtain⟨e1,e2⟩:=S.old i x (by lia) h1 hv;have YC:=S.free _ (mP e2) rfl;obtain⟨m0,hn0,hl0⟩:=I3.loc;obtain⟨u,ru,lk⟩:=hl0 i x v (by rwa[t.eN]) h2 (by rw[t.eS];exact .inr<|.inl YC);refine⟨u,ru,?_⟩;have hkx:X.env.kindOf x=some .cell:=by show X.env.scope.names.lookup x=_;rwa[t.eS]
 rcases lk with⟨k,_⟩ |⟨_,c,hc,hcc⟩;rw[hkx]at k;cases k;obtain⟨c',Zh⟩:=CN.has x<|.inr<|ZR x<|mP e2;have ho:Z3.lookup x=some c':=by rcases CN.look x c' Zh with⟨z,_⟩ |⟨_,z,_⟩;exact z;have z':=S.cells _ z rfl;rw[e2]at z';cases z'
 have e:=bC<|(Zg x c' ho).symm.trans hc;subst e;refine .inr ⟨?_,c',Zh,?_⟩;show(relabel scope X.env).names.lookup x=_\/(relabel scope X.env).names.lookup x=_;rw[CA t.eS];rcases h3' with z |z |z;obtain⟨k',g1,g2,g3⟩:=yR S.zEY S.free z;by_cases Z0:k'=.free;have:=g2 Z0;cases this;have e:=g3 Z0;subst e;rw[e2]at g1;cases g1;exact .inl z;exact .inr z;obtain⟨oc,ho,hd⟩:=hcc;exact⟨oc,kp _ _ ho,hd⟩;rcases CN.look x c h with⟨z,_⟩ |⟨_,_,z⟩;obtain⟨v,oc,ho,hd⟩:=I3.cell x c<|Zg x c z;exact⟨v,oc,kp _ _ ho,hd⟩;exact⟨_,z⟩;show(Y++List.replicate (N'.length-N.length) none).length=N'.length;have:=S.len;rw[aA,bW,hlen];lia
end
def UO(X:Cx)(on:jn)(Y:St)(F2 H2:Hp)(rs:ck)(D' C:Addr)(s':Shared):Prop:=∃(F' H':Hp)(vs:ij)(m:AE),Inv X on Y H' s'/\s'.heap.Ns C m/\H' C=none/\C≠X.env.locals/\X.s₀.heap.objs.size<=C/\(∀x c,X.env.cells.lookup x=some c->c≠C)/\(∀p∈X.pn++on,p.1≠C)/\Ext ⟨F2,H2⟩ F' H'/\H2 D'=none/\H' D'=some (.lst vs)/\F' D'=none/\W3 X.K F' vs rs/\D'≠C
section
variable {X:Cx}{tn:Nat->Heap->Prop}{J:It}{ds rs:ck}{cl Z3:List (Str×Addr)}
def z8(t:At0 X N sc)(md:X.calm=true)(S:kT N sc N' scope)(I2:Inv X on Y H2 s2)(I3:Inv X on Y (fN H2 s2.heap.objs.size o0) {s2 with heap:=s2.heap.push o})(T:xA X.prog X.w X.K tg J fp it tn)(t0:tn 0 s2.heap)(fo2:∀b∈fp,pX X on H2 b)(k2:Ok X.K B F2 H2 Y U)(JO:pW X.K J F2 ds)(Zg:∀n c,Z3.lookup n=some c->X.env.cells.lookup n=some c)(ZR:∀n,(n,NameKind.free)∈scope.names->∃c,Z3.lookup n=some c){RR:Addr->Result->Shared->Prop}{BD:Env->(Shared->Prop)->Shared->Prop}(Iv:Cx->Nat->dP->St->Hp->Hp->Prop)(hst:∀{env s R},codeAny (model X.prog X.w) X.A (.compLoop ce 0 (.ref it) (.ref s2.heap.objs.size) env) R s->gA X (pyIter<|.ref it) (λit' s'=>codeAny (model X.prog X.w) X.A (.compLoop ce 0 it' (.ref s2.heap.objs.size) env) R s') (notedBy (model X.prog X.w) X.A env λx s'=>R (.error x) s') s->codeAny (model X.prog X.w) X.A (.compStart ce 0 (.ref it) (.ref s2.heap.objs.size) env) R s)(zEJ:∀cl C R(P:Nat->Shared->Prop),(∀n s,P n s->gA X (pyNext<|.ref it) (λr s₁=>match r with
   |none=>R (.ok .next) s₁
   |some v=>gA X (letOwnedTupleGo tg (.ref it) v) (λ_ s₀=>gA X (assign tg (compEnvC scope cl C X.env) v) (λ_=>BD (compEnvC scope cl C X.env) λs₅=>∃m,m<n/\P m s₅) (λ_ _=>False) s₀) (λ_ _=>False) s₁) (λ_ _=>False) s)->∀n s,P n s->codeAny (model X.prog X.w) X.A (.compLoop ce 0 (.ref it) (.ref s2.heap.objs.size) (compEnvC scope cl C X.env)) R s)(init:∀X',X3 X X' N' (pC scope sc) (tX scope)->H2 s2.heap.objs.size=none->Iv X' 0 (U++List.replicate (N'.length-N.length) .un) (Y++List.replicate (N'.length-N.length) none) F2 (fN H2 s2.heap.objs.size o0))(fin:∀X' ρ' XV F' H' s' m C,Iv X' ds.length ρ' XV F' H'->Inv X on Y H' s'->s'.heap.Ns C m->H' C=none->C≠X.env.locals->X.s₀.heap.objs.size<=C->(∀x c,X.env.cells.lookup x=some c->c≠C)->(∀p∈X.pn++on,p.1≠C)->Ext ⟨F2,H2⟩ F' H'->H2 s2.heap.objs.size=none->s2.heap.objs.size≠C->RR C (.ok .next) s')(step:∀X',X3 X X' N' (pC scope sc) (tX scope)->H2 s2.heap.objs.size=none->∀(i:Nat)(d:D)(ρ':dP)(XV:St)(F' H':Hp),ds[i]?=some d->Iv X' i ρ' XV F' H'->
   ∃W1,XO X' ρ' tg d W1/\∀(Xn:jn)(s5:Shared)(σ5:St)(F5 H5:Hp),Inv X' Xn σ5 H5 s5->Ok X.K B F5 H5 σ5 W1->Ext ⟨F',H'⟩ F5 H5->Ext ⟨F2,H2⟩ F5 H5->(∀D,Xh XV ρ' D->Xh σ5 W1 D)->
    ∀Kp:Shared->Prop,(∀s6 ρ6 σ6 F6 H6,Inv X' Xn σ6 H6 s6->Ok X.K B F6 H6 σ6 ρ6->Ext ⟨F2,H2⟩ F6 H6->Iv X' (i+1) ρ6 σ6 F6 H6->Kp s6)->BD X'.env Kp s5):
  gA X (newFunctionEnv scope X.env.globals Z3 [] X.env.qual none .none<|some X.env) (λYV s₄=>codeAny (model X.prog X.w) X.A (.compStart ce 0 (.ref it) (.ref s2.heap.objs.size) {YV with scope:=relabel scope X.env}) (RR YV.locals) s₄) E {s2 with heap:=s2.heap.push o}:=by
 have Yl:H2 s2.heap.objs.size=none:=I2.Xg.fresh<|ao _
 have hsz:(s2.heap.push o).objs.size=s2.heap.objs.size+1:=by rw[xI]
 have tfp:∀b∈fp,b<s2.heap.objs.size:=λb hb=>by
  obtain⟨o,e,_⟩:=T.obj 0 _ t0 b hb
  exact bc e
 have fo3:∀b∈fp,pX X on (fN H2 s2.heap.objs.size o0) b:=λb hb=>⟨by rw[bq<|dh<|tfp b hb];exact(fo2 b hb).1,(fo2 b hb).2⟩
 have fl3:∀b∈fp,b<(s2.heap.push o).objs.size:=λb hb=>by rw[hsz];exact vP<|tfp b hb
 have tn3:tn 0 (s2.heap.push o):=T.keep 0 _ _ t0 λb hb o e=>aE _ e
 refine E1 (λm c e=>by
  obtain⟨v,q⟩:=I2.cell m c<|Zg m c e
  show c<(s2.heap.push o).objs.size
  rw[hsz];exact vP q.lt) λcl h₁ kp4 zHC CN=>?_
 obtain⟨C,hC⟩:∃C,(s2.heap.push o).objs.size=C:=⟨_,rfl⟩
 have Z8:s2.heap.objs.size≠C:=by rw[<-hC,hsz];exact dh<|qg _
 have I4:Inv (U2 X N' scope cl C {s2 with heap:=s2.heap.push o} (fN H2 s2.heap.objs.size o0) fp) [] (Y++List.replicate (N'.length-N.length) none) (fN H2 s2.heap.objs.size o0) {s2 with heap:=h₁}:=by
  have q:=P7 (N':=N') (tk:=s2.toks) (fp:=fp) t S I3 Zg ZR CN fo3 fl3 zHC kp4
  rw[<-hC]
  exact q
 show codeAny _ _ (.compStart ce 0 (.ref it) (.ref s2.heap.objs.size)<|compEnvC scope cl (s2.heap.push o).objs.size X.env) (RR (s2.heap.push o).objs.size) {s2 with heap:=h₁}
 rw[hC]
 generalize hX':U2 X N' scope cl C {s2 with heap:=s2.heap.push o} (fN H2 s2.heap.objs.size o0) fp=X' at I4
 have cx:X3 X X' N' (pC scope sc) (tX scope):=by
  subst hX'
  exact⟨⟨rfl,CA t.eS,S.nd,rfl,t.un,t.dp,t.tree,t.fr⟩,rfl,rfl,rfl,rfl,rfl,rfl,rfl,λx hx=>hx⟩
 have e2:X'.H₀=fN H2 s2.heap.objs.size o0:=by subst hX';rfl
 have eP:X'.prog=X.prog:=cx.prog
 have eW:X'.w=X.w:=cx.w'
 have eA:X'.A=X.A:=cx.a'
 have eK:X'.K=X.K:=cx.k'
 have zC4:X'.env=compEnvC scope cl C X.env:=by subst hX';rfl
 have eX:X'.xe=λ_ _=>False:=cx.at0.YX
 have eEx:X'.ex=fp:=by subst hX';rfl
 have ePn:X'.pn=[]:=by subst hX';rfl
 have k4:=(k2.zEX (o:=o0) Yl).more<|N'.length-N.length
 have fp4:∀{H':Hp},(∀b∈fp,H' b=none)->∀b∈fp,pX X' [] H' b:=λ{H'}hn b hb=>by
  refine⟨hn b hb,?_,?_,.inl<|by rw[eEx];exact hb,λx c h=>?_,λp hp=>?_⟩
  ·exact(I4.ok.exf b<|by rw[eEx];exact hb).1
  ·exact I4.ok.zA3 b<|by rw[eEx];exact hb
  ·exact(I4.ok.exf b<|by rw[eEx];exact hb).2 x c h
  ·rw[ePn]at hp;exact nomatch hp
 have tn4:tn 0 h₁:=T.keep 0 _ _ tn3 λb hb o e=>kp4 b o e
 have st:=step X' cx Yl
 rw[zC4]at st
 have L:=zEJ cl C (RR C) (λn s'=>∃(i:Nat)(ρ':dP)(XV:St)(F' H':Hp),Inv X' [] XV H' s'/\tn i s'.heap/\(∀b∈fp,H' b=none)/\Ok X.K B F' H' XV ρ'/\Ext ⟨F2,H2⟩ F' H'/\Iv X' i ρ' XV F' H'/\i<=ds.length/\n=ds.length-i) ?_ ds.length _
  ⟨0,_,_,F2,_,I4,tn4,λb hb=>(fo3 b hb).1,k4,⟨k2.sub.trans<|bG Yl,bG Yl,.refl _,λa h=>.inl h⟩,init X' cx Yl,aJ _,rfl⟩
 ·exact hst L<|T.self _ 0 _ _ _ tn4 L
 rintro n s' ⟨i,ρ',XV,F',H',I',tni,fpi,k',x',hv,hi,rfl⟩
 have JO':=JO i F' H' x'.sf k'.sub
 have TI:=T.item X' eP eW eK (cx.cal.trans md) i [] s' XV H' (λ_ _=>False) I' (fp4 fpi) tni
 have TD:=T.done X' eP eW eK (cx.cal.trans md) i [] s' XV H' (λ_ _=>False) I' (fp4 fpi) tni
 rw[eA]at TI TD
 rcases bA i ds.length with XQ |hge
 ·obtain⟨W1,g,hk⟩:=st i _ ρ' XV F' H' (am XQ) hv
  obtain⟨go,yl⟩:=JO'.1 _<|am XQ
  refine fD (TI go) λr s4 ⟨u,hr,h4⟩=>?_
  subst hr
  refine fD h4 λ_ s5 ⟨x,H5,I5,r5,y5,st5,fr5⟩=>?_
  obtain⟨F5,x5,rx⟩:=yl x H5 y5
  have I5':=I5.pinned (fp4 fr5)<|T.obj _ _ st5
  have gg:=g B F5 H5 XV x (λσ6 H6=>H6=H5/\Ok X.K B F5 H5 σ6 W1/\∀D,Xh XV ρ' D->Xh σ6 W1 D) (by rw[eK];exact k'.ext x5) (by rw[eK];exact rx) (λσ6 k6 n6=>⟨rfl,by rw[eK]at k6;exact k6,n6⟩) _ s5 u I5' r5
  unfold gA at gg;rw[eP,eW,eA,zC4,eX]at gg
  refine fD gg λ_ s6 ⟨σ6,H6,I6,e6,k6,n6⟩=>?_
  subst e6
  refine hk _ s6 σ6 F5 H6 I6 k6 x5 (x'.t x5) n6 _ λs7 ρ7 σ7 F7 H7 I7 k7 x7 hv7=>⟨ds.length-(i+1),by lia,i+1,ρ7,σ7,F7,H7,I7.X9,T.keep _ _ _ st5 λb hb o e=>(I7.pin (b,o)<|bP _<|bP _<|kL hb e).1,λb hb=>?_,k7,x7,hv7,XQ,rfl⟩
  obtain⟨o,e,d⟩:=T.obj _ _ st5 b hb
  exact(I7.pin (b,o)<|bP _<|bP _<|kL hb e).2.1
 ·refine fD (TD<|JO'.2 hge) λr s4 ⟨hr,I4'⟩=>?_
  subst hr
  have ei:i=ds.length:=by lia
  subst ei
  have base:=I4'.base
  have hos:=I4'.os
  have zEM:=I4'.Xg
  have Ys:=I4'.free
  obtain⟨m,hm,_⟩:=I4'.loc
  rw[zC4]at Ys hm
  rw[eEx]at base
  have e1:X'.fs=Gq X.stack:=by subst hX';rfl
  have e3:X'.s₀={s2 with heap:=s2.heap.push o}:=by subst hX';rfl
  rw[e1,e2,e3]at base
  rw[e3]at hos
  rw[eP,eW]at zEM
  have IX:Inv X on Y H' s4:=I3.zE7 (ch:=fp) hos base zEM I4'.bare λb hb=>⟨(fo3 b hb).2.2.2.1,(fo3 b hb).2.1,(fo3 b hb).2.2.2.2.1,(fo3 b hb).2.2.2.2.2⟩
  refine fin X' ρ' XV F' H' s4 m C hv IX hm Ys ?_ ?_ (λx c h z=>?_) (λp hp z=>?_) x' Yl Z8
  ·have:=I3.lt;rw[hC]at this;exactλz=>absurd (z▸this)<|dW _
  ·have:=I3.sz;rw[hC]at this;exact this
  ·obtain⟨v,q⟩:=I3.cell x c h
   have:=q.lt;rw[hC,z]at this;exact absurd this<|dW _
  ·have:=bc (I3.pin p hp).1
   rw[hC,z]at this;exact absurd this<|dW _
end
section
variable {X:Cx}{tn:Nat->Heap->Prop}{J:It}{ds rs:ck}{cl Z3:List (Str×Addr)}{SS:St->dP->Hp->Hp->ck->Prop}
def V6(M:Model)(A:Around)(f:String)(elt:Expr)(ifs:vO)(env:Env)(DD:Addr)(Kp:Shared->Prop):Shared->Prop:=wpAny M A (forIn ifs true λc r=>if r=true then do let ok <-isTrue c env (eval c env);pure (ForInStep.yield ok)else pure<|ForInStep.yield r) (λok s₃=>if ok=true then wpAny M A (eval elt env) (λx s₄=>wpAny M A (call (.builtin f) [.ref DD,x]) (λ_=>Kp) (λ_ _=>False) s₄) (λ_ _=>False) s₃ else Kp s₃) λ_ _=>False
def UJ(SS:St->dP->Hp->Hp->ck->Prop)(tg elt:Expr)(ifs:vO)(ds rs:ck)(X':Cx)(i:Nat)(ρ':dP)(XV:St)(F' H':Hp):Prop:=∃r0 r1,SS XV ρ' F' H' r0/\W9 X' tg elt ifs (ds.drop i) ρ' r1/\r0++r1=rs/\r0.length<=i
def Jn(h:UJ SS tg elt ifs ds rs X' ds.length ρ' XV F' H'):SS XV ρ' F' H' rs:=by obtain⟨r0,r1,s,c,rfl,_⟩:=h;rw[xH]at c;cases c;rwa[dq]
def Jt{H:Hp}{a:Addr}(x:Ext ⟨F,H⟩ F' H')(f:F' a=none)(h:H a=none):Ext ⟨F,H⟩ F' (fN H' a o):=⟨λb w q=>by rw[bq λz=>by subst z;rw[f]at q;cases q];exact x.sub b w q,λb w q=>by rw[bq λz=>by subst z;have q':H b=some w:=q;rw[h]at q';cases q'];exact x.sh b w q,x.sf,x.nw⟩
def Ei{H2:Hp}(cx:X3 X X' N' (pC scope sc) (tX scope))(ext:∀{Y U F H XV ρ' F' H' r0},SS Y U F H r0->Ext ⟨F,H⟩ F' H'->(∀D,Xh Y U D->Xh XV ρ' D)->SS XV ρ' F' H' r0)(app:∀Xn s6 σ5 W1 F6 H6 r0 r r1 v u,r0++(r::r1)=rs->r0.length<ds.length->Inv X' Xn σ5 H6 s6->Ok X.K B F6 H6 σ5 W1->Ext ⟨F2,H2⟩ F6 H6->SS σ5 W1 F6 H6 r0->Rep X.K F6 v r->Vals [v] [u]->∀Kp:Shared->Prop,(∀s7 H7,Inv X' Xn σ5 H7 s7->Ok X.K B F6 H7 σ5 W1->Ext ⟨F2,H2⟩ F6 H7->SS σ5 W1 F6 H7 (r0++[r])->Kp s7)->gA X (call (.builtin f) [.ref DD,u]) (λ_=>Kp) (λ_ _=>False) s6)(i:Nat)(d:D)(ρ':dP)(XV:St)(F' H':Hp)(hd:ds[i]?=some d)(hv:UJ SS tg elt ifs ds rs X' i ρ' XV F' H'):∃W1,XO X' ρ' tg d W1/\∀(Xn:jn)(s5:Shared)(σ5:St)(F5 H5:Hp),Inv X' Xn σ5 H5 s5->Ok X.K B F5 H5 σ5 W1->Ext ⟨F',H'⟩ F5 H5->Ext ⟨F2,H2⟩ F5 H5->(∀D,Xh XV ρ' D->Xh σ5 W1 D)->∀Kp:Shared->Prop,(∀s6 ρ6 σ6 F6 H6,Inv X' Xn σ6 H6 s6->Ok X.K B F6 H6 σ6 ρ6->Ext ⟨F2,H2⟩ F6 H6->UJ SS tg elt ifs ds rs X' (i+1) ρ6 σ6 F6 H6->Kp s6)->V6 (model X.prog X.w) X.A f elt ifs X'.env DD Kp s5:=by
 have eP:X'.prog=X.prog:=cx.prog;have eW:X'.w=X.w:=cx.w';have eA:X'.A=X.A:=cx.a';have eK:X'.K=X.K:=cx.k';have eX:X'.xe=λ_ _=>False:=cx.at0.YX;obtain⟨r0,r1,ss,cr,er,hr0⟩:=hv;generalize e1:ds.drop i=rest at cr;have XQ:=(aG.mp hd).1;cases cr with
 |nil=>have:=bo List.length e1;rw[cO,gQ]at this;lia
 |@take d1 r ds0 rs0 ρ0 W1 g ci ev cr'=>
  obtain⟨hd',hdr,_⟩:=kN e1;cases hd.symm.trans hd';refine⟨W1,g,λXn s5 σ5 F5 H5 I5 k5 x5 y5 n5 Kp hk=>?_⟩;have zE1:∀s5 F5 H5,Inv X' Xn σ5 H5 s5->Ok X.K B F5 H5 σ5 W1->Ext ⟨F2,H2⟩ F5 H5->SS σ5 W1 F5 H5 r0->gA X (eval elt X'.env) (λx s₄=>gA X (call (.builtin f) [.ref DD,x]) (λ_=>Kp) (λ_ _=>False) s₄) (λ_ _=>False) s5:=λs5 F5 H5 I5 k5 y5 s50=>by have ee:=ev B F5 H5 σ5 (λv H6=>∃F6,Ext ⟨F5,H5⟩ F6 H6/\Rep X.K F6 v r) (by rw[eK];exact k5) (λv F6 H6 x6 r6=>⟨F6,x6,by rw[eK]at r6;exact r6⟩) Xn s5 I5;unfold gA at ee;rw[eP,eW,eA,eX]at ee;refine fD ee λu s6 ⟨v,H6,I6,ru,F6,x6,r6⟩=>?_;exact app Xn s6 σ5 W1 F6 H6 r0 r rs0 v u er (by lia) I6 (k5.ext x6) (y5.t x6) (ext s50 x6 λ_ z=>z) r6 (.cons ru .nil) Kp λs7 H7 I7 k7 x7 s7'=>hk s7 W1 σ5 F6 H7 I7 k7 x7 ⟨r0++[r],rs0,s7',by rw[hdr];exact cr',by rw[dX];exact er,by rw[aA,dz];lia⟩
  have s50:=ext ss x5 n5;rcases ci with rfl |⟨c,rfl,et⟩;·refine wpAny_tests_nil ?_;rw[ag rfl];exact zE1 _ _ _ I5 k5 y5 s50
  ·have tt:=et B F5 H5 σ5 (λb H6=>b=true/\∃F6,Ext ⟨F5,H5⟩ F6 H6) (by rw[eK];exact k5) (λF6 H6 x6=>⟨rfl,F6,x6⟩) Xn s5 I5;unfold gA at tt;rw[eP,eW,eA,eX]at tt;refine wpAny_tests_one (fD tt λb s6 ⟨H6,I6,eb,F6,x6⟩=>?_);subst eb;rw[ag rfl];exact zE1 _ _ _ I6 (k5.ext x6) (y5.t x6) (ext s50 x6 λ_ z=>z)
 |@skip d1 ds0 rs0 ρ0 W1 c g hc et cr'=>obtain⟨hd',hdr,_⟩:=kN e1;cases hd.symm.trans hd';subst hc;refine⟨W1,g,λXn s5 σ5 F5 H5 I5 k5 x5 y5 n5 Kp hk=>?_⟩;have tt:=et B F5 H5 σ5 (λb H6=>b=false/\∃F6,Ext ⟨F5,H5⟩ F6 H6) (by rw[eK];exact k5) (λF6 H6 x6=>⟨rfl,F6,x6⟩) Xn s5 I5;unfold gA at tt;rw[eP,eW,eA,eX]at tt;refine wpAny_tests_one (fD tt λb s6 ⟨H6,I6,eb,F6,x6⟩=>?_);subst eb;rw[af aW];exact hk s6 W1 σ5 F6 H6 I6 (k5.ext x6) (y5.t x6) ⟨r0,_,ext (ext ss x5 n5) x6 λ_ z=>z,by rw[hdr];exact cr',er,by lia⟩
def FG{cl:List (Str×Addr)}(t:At0 X N sc)(md:X.calm=true)(S:kT N sc N' scope)(I2:Inv X on Y H2 s2)(T:xA X.prog X.w X.K tg J fp it tn)(t0:tn 0 s2.heap)(fo2:∀b∈fp,pX X on H2 b)(k2:Ok X.K B F2 H2 Y U)(JO:pW X.K J F2 ds)(hz:ds.length<sizeLine)(Zg:∀n c,cl.lookup n=some c->X.env.cells.lookup n=some c)(ZR:∀n,(n,NameKind.free)∈scope.names->∃c,cl.lookup n=some c)(run:∀X',X3 X X' N' (pC scope sc) (tX scope)->W9 X' tg elt ifs ds (U++List.replicate (N'.length-N.length) .un) rs){RR:Value->Addr->Result->Shared->Prop}(hRR:∀D' C s',UO X on Y F2 H2 rs D' C s'->RR (.ref D') C (.ok .next) s'):gA X (newList []) (λacc s₃=>gA X (newFunctionEnv scope X.env.globals cl [] X.env.qual none .none<|some X.env) (λYV s₄=>codeAny (model X.prog X.w) X.A (.compStart (.ListComp elt [⟨tg,iter,ifs,0⟩] scope pos) 0 (.ref it) acc {YV with scope:=relabel scope X.env}) (RR acc YV.locals) s₄) E s₃) E s2:=by refine dC<|z8 (RR:=RR<|.ref s2.heap.objs.size) (BD:=λenv=>V6 (model X.prog X.w) X.A "list.append" elt ifs env s2.heap.objs.size) t md S I2 (I2.zBM (t':=s2.toks) (ys:=[]) .nil<|aJ _) T t0 fo2 k2 JO Zg ZR (UJ (λXV ρ' F' H' r0=>∃vs,H' s2.heap.objs.size=some (.lst vs)/\F' s2.heap.objs.size=none/\Xh XV ρ' s2.heap.objs.size/\W3 X.K F' vs r0) tg elt ifs ds rs) (λa b=>codeAny_compStart_list a b) (λcl C R P h n s p=>Dp P h n p) (λX' cx Yl=>⟨[],rs,⟨[],bI,k2.sub.free Yl,(k2.more _).noOwn Yl,.nil⟩,run X' cx,rfl,aJ _⟩) (λX' ρ' XV F' H' s' m C hv IX hm hf a b c d x' Yl Z8=>by obtain⟨vs,h1,h2,_,h3⟩:=Jn hv;exact hRR _ C s' ⟨F',H',vs,m,IX,hm,hf,a,b,c,d,x',Yl,h1,h2,h3,Z8⟩) λX' cx Yl=>Ei cx (λ⟨vs,h1,h2,n,r⟩ x hn=>⟨vs,x.sh _ _ h1,x.kf h2 h1,hn _ n,r.mono x.sf⟩) λXn s6 σ5 W1 F6 H6 r0 r r1 v u er hl I6 k6 x6 ⟨vs,h6,f6,n5,rv5⟩ r6 ru Kp hk=>by have app:=wd (X:=X') Xn s6 σ5 H6 (.ref s2.heap.objs.size) [v] (.ref s2.heap.objs.size) [u] (λz H7=>H7=fN H6 s2.heap.objs.size (.lst<|vs++[v])) I6 rfl ru ⟨_,vs,v,rfl,rfl,h6,by have:=rv5.length;lia,rfl⟩;have eP:=cx.prog;have eW:=cx.w';have eA:=cx.a';have eX:=cx.at0.YX;unfold gA at app;rw[eP,eW,eA,eX]at app;refine fD app λ_ s7 ⟨z,H7,I7,_,e7⟩=>?_;subst e7;exact hk s7 _ I7 (k6.ZU f6 (k2.sh.free Yl) n5 ⟨_,h6⟩) (Jt x6 f6 Yl) ⟨_,bI,f6,n5,rv5.append<|.cons r6 .nil⟩
end
section
variable {X:Cx}{ds rs:ck}
def vC(t:At0 X N sc)(S:kT N sc N' scope)(I:Inv X on Y H s):∃cl:List (Str×Addr),closureFor scope X.env=pure cl/\(∀n c,cl.lookup n=some c->X.env.cells.lookup n=some c)/\(∀n,(n,NameKind.free)∈scope.names->∃c,cl.lookup n=some c):=HH λn hn=>I.ok.has n<|.inl<|by show X.env.scope.names.lookup n=_;rw[t.eS];exact S.free _ hn rfl
def dR(t:At X N sc)(N':fV)(S:kT N sc N' scope)(hi:X5 X U tg iter ds)(hz:ds.length<sizeLine)(run:∀X',XY X X' N' (pC scope sc) (tX scope)->W9 X' tg elt ifs ds (U++List.replicate (N'.length-N.length) .un) rs)(hs:∀x,foldedSetIterable iter X.env x=pure x:=by intro _;rfl):Xe X U (.ListComp elt [⟨tg,iter,ifs,0⟩] scope pos) rs:=λB F H Y Q k q=>.mk λon s I=>by obtain⟨cl,e1,e2,e3⟩:=vC t.z S I;rw[eval_ListComp];refine js (use:=none) rfl hs e1 S.kind S.names (fD (hi B F H Y (λJ H1=>∃F1,Ext ⟨F,H⟩ F1 H1/\pW X.K J F1 ds) k (λJ F' H' x j=>⟨F',x,j⟩) on s I) λv s1 h=>fD h λitv s2 h2=>?_);obtain⟨it,fp,tn,J,H',e,I2,T,t0,fo,F1,x1,JO⟩:=h2;subst e;refine FG (RR:=λacc C=>compPost (model X.prog X.w) X.A X.xe none (EP X on Y Q) acc C) t.z t.calm S I2 T t0 fo (k.ext x1) JO hz e2 e3 (λX' c0=>run X'<|c0.calm t.calm) ?_;rintro D' C s' ⟨F',Zq,vs,m,IX,hm,h0,hL,hs0,hcl,hpn,x',Z7,hd,hf,rv,Z8⟩;refine⟨m,hm,λh'' sb=>?_⟩;have IX':Inv X on Y Zq {s' with heap:=h''}:=IX.turned (t':=s'.toks) (it:=C) (λb o hb e=>sb.extBut b o hb e) h0 hL (.inr hs0) hcl hpn;exact⟨.ref D',Zq,IX',rfl,q D' vs F' Zq (x1.t x') (x1.sh.free Z7) hd hf rv⟩
def jJ{zAG:Pos}[Zr X](t:At X N sc)(i:Nat)(N':fV)(S:kT N sc N' scope)(hi:X5 X U tg iter ds)(hz:ds.length<sizeLine)(run:∀X',XY X X' N' (pC scope sc) (tX scope)->W9 X' tg elt ifs ds (U++List.replicate (N'.length-N.length) .un) rs)(ZE:swapsWith (.ListComp elt [⟨tg,iter,ifs,0⟩] scope pos) (some<|.Name y py) zAG.line (dE sc)=pure true:=by rfl)(hN:N[i]?=some y:=by rfl)(hy:qB sc y=true:=by rfl)(hs:∀x,foldedSetIterable iter X.env x=pure x:=by intro _;rfl):XX X U (.Assign [.Name y py] (.ListComp elt [⟨tg,iter,ifs,0⟩] scope pos) zAG) (.nx<|U.set i<|.own rs):=λB F H Y E k q=>.mk λon s I=>by
 obtain⟨cl,e1,e2,e3⟩:=vC t.z S I;rw[exec_Assign_Name_used _ _ _ _<|(Co<|t.eS).trans ZE];refine ae<|fk<|ae ?_;refine ae (cw (js (use:=some<|assign (.Name y py) X.env) (Q:=λ_ s'=>SP X on E .next s') rfl hs e1 S.kind S.names (fD (hi B F H Y (λJ H1=>∃F1,Ext ⟨F,H⟩ F1 H1/\pW X.K J F1 ds) k (λJ F' H' x j=>⟨F',x,j⟩) on s I) λv s1 h=>fD h λitv s2 h2=>?_)) (λ_ s' hq=>ap<|ap hq) λ_ _ e=>e);obtain⟨it,fp,tn,J,H',e,I2,T,t0,fo,F1,x1,JO⟩:=h2;subst e;refine FG (RR:=λacc C=>compPost (model X.prog X.w) X.A X.xe (some<|assign (.Name y py) X.env) (λ_ s'=>SP X on E .next s') acc C) t.z t.calm S I2 T t0 fo (k.ext x1) JO hz e2 e3 (λX' c0=>run X'<|c0.calm t.calm) ?_;rintro D' C s' ⟨F',Zq,vs,m,IX,hm,h0,hL,hs0,hcl,hpn,x',Z7,hd,hf,rv,Z8⟩;refine Td<|vX (v:=.ref D') IX t.nd (t.ix hN) (t.loc hy) rfl (λZX I'' zAU=>?_) M6;obtain⟨a,sb,ha⟩:=zAU;have hCa:C≠a:=by rcases ha with z |z;rwa[z];exact gy<|hcl y a z
 refine⟨m,hm.sameBut sb hCa,λh'' sb'=>?_⟩;have I3:=I''.turned (t':=ZX.toks) (it:=C) (λb o hb e=>sb'.extBut b o hb e) h0 hL (.inr hs0) hcl hpn;have hH:=x1.sh.free Z7;exact⟨_,Zq,I3,q F' Zq _ ((k.ext<|x1.t x').Yy i hd hf (k.sh.free hH) (k.noOwn hH) rv) (x1.t x').sf⟩
theorem W9.all{X:Cx}(R:D->dP)(f:D->D):∀(ds:ck)(U:dP),(∀d∈ds,XO X U tg d<|R d)->(∀d∈ds,∀e∈ds,XO X (R d) tg e<|R e)->(∀d∈ds,W0 X (R d) elt<|f d)->W9 X tg elt [] ds U (ds.map f)|[],_,_,_,_=>.nil|d::ds,U,h1,h2,h3=>.take (h1 d aN) (.inl rfl) (h3 d aN) (W9.all R f ds (R d) (λe he=>h2 d aN e<|aC _ he) (λa ha e he=>h2 a (aC _ ha) e<|aC _ he) λe he=>h3 e<|aC _ he)
end
def UB(N:fV)(sc:Scope)(N':fV)(scope:Scope):Bool:=
 decide (scope.kind=.function)&&scope.names.all (λy=>decide<|y.2=.cell->scope.names.lookup y.1=some .cell)&&scope.names.all (λy=>decide<|y.2=.local->scope.names.lookup y.1=some .local)&&scope.names.all (λy=>decide<|y.2=.free->sc.names.lookup y.1=some .cell)&&decide (sc.kind=.function)&&decide N'.Nodup&&(List.range N.length).all (λi=>match N'[i]? with
   |some x=>!(kC (pC scope sc) x)||(decide (N[i]?=some x)&&decide (scope.names.lookup x=some .free))
   |none=>true)&&decide (N.length<=N'.length)
def oU{scope:Scope}(h:UB N sc N' scope=true):kT N sc N' scope:=by unfold UB at h;simp only[jm,decide_eq_true_eq,List.all_eq_true]at h;obtain⟨⟨⟨⟨⟨⟨⟨h1,h2⟩,h3⟩,h4⟩,h5⟩,h6⟩,h7⟩,h8⟩:=h;refine⟨h1,h2,h3,h4,h5,h6,λi x hi hx hv=>?_,h8⟩;have q:=h7 i<|aY.mpr hi;rw[hx]at q;simp only[hv,UW,Bool.false_or,jm,decide_eq_true_eq]at q;exact q
def DB{X:Cx}{x:Str}(hm:X.mg x=none)(g:Oa sc x:=by rfl)(v:bootBuiltins x=some u:=by rfl)(n:x≠"__name__":=by decide)(d:D2 x:=by rfl):tN X sc x u:=⟨g,hm,v,n,d⟩
abbrev aD(f:az):D:=.tup<|f.map D.int
abbrev bu(f:az):D:=.lst<|f.map D.int
def x9{xs:az}{i:Int}{n:Nat}(h0:0<=i)(hn:i.toNat=n)(h:n<xs.length):s9 (xs.map D.int) i=some (.int xs[n]):=by
 have e:i=((n:Nat):Int):=by lia
 subst e;exact DK<|by rw[aw,am h];rfl
def nQ{n:Nat}{i:Int}{j:Nat}(h0:0<=i)(hn:i.toNat=j)(h:j<n):Ho n i=some j:=by unfold Ho;rw[ag h0,ag<|by lia,hn]
def Fu(xs ys:az):PyData.eqvAll (xs.map PyData.int) (ys.map PyData.int)=decide (xs=ys):=by
 induction xs generalizing ys with
 |nil=>cases ys<;>simp[PyData.eqvAll]
 |cons x xs ih=>cases ys with|nil=>simp[PyData.eqvAll]|cons y ys=>simp only[bY,PyData.eqvAll,PyData.eqv,ih];by_cases h1:x=y<;>by_cases h2:xs=ys<;>simp[h1,h2]
def gH(xs ys:az):(mB<|aD xs).eqv (mB<|aD ys)=decide (xs=ys):=by show(PyData.tuple<|Xb<|xs.map D.int).eqv (.tuple<|Xb<|ys.map D.int)=_;rw[kH,kH];simp only[PyData.eqv];exact Fu xs ys
def sL(xs ys:az):(PyData.list<|Xb<|xs.map D.int).eqv (.list<|Xb<|ys.map D.int)=decide (xs=ys):=by rw[kH,kH];simp only[PyData.eqv];exact Fu xs ys
def FK(xs:az):PyData.canLayAll0 (xs.map PyData.int)=true:=canLayAll0_ints xs
def bJ(xs:az):SeqAt.shaped (mB<|aD xs)=true:=by
 show SeqAt.shaped (.tuple<|Xb<|xs.map D.int)=true;rw[kH];have h1:=Wr xs;have h2:PyData.depth (.tuple<|xs.map PyData.int)<=64:=by simp only[PyData.depth];lia
 show(PyData.canLay0 (.tuple<|xs.map PyData.int)&&decide (PyData.depth (.tuple<|xs.map PyData.int)<=64))=true;rw[jm];exact⟨by simp only[PyData.canLay0];exact FK xs,aq h2⟩
def fq(xs:az):SeqAt.shaped (PyData.list<|Xb<|xs.map D.int)=true:=by rw[kH];exact shaped_ints xs
inductive YG:dP->dP->Prop where
 |nil:YG [] []
 |keep {s:Sl} {a b:dP}:YG a b->YG (s::a) (s::b)
 |forget {s:Sl} {a b:dP}:YG a b->YG (s::a) (.un::b)
theorem YG.len:∀{a b:dP},YG a b->a.length=b.length
 |_,_,.nil=>rfl|_,_,.keep h=>bo Nat.succ h.len
 |_,_,.forget h=>bo Nat.succ h.len
theorem YG.get:∀{a b:dP},YG a b->∀(i:Nat)(s:Sl),b[i]?=some s->s≠.un->a[i]?=some s
 |_,_,.nil,_,_,h,_=>by simp at h|_,_,.keep h,0,s,e,_=>by simpa using e
 |_,_,.keep h,i+1,s,e,hn=>by simpa using h.get i s (by simpa using e) hn|_,_,.forget h,0,s,e,hn=>by simp at e;exact absurd e.symm hn
 |_,_,.forget h,i+1,s,e,hn=>by simpa using h.get i s (by simpa using e) hn
def Ok.weak(k:Ok K B F H Y a)(w:YG a b):Ok K B F H Y b:=⟨k.toExt,k.len.trans w.len,λi d h=>k.vals i d (w.get i _ h λz=>nomatch z),λi xs h=>k.XJ i xs (w.get i _ h λz=>nomatch z),λi j xs ys p h1 h2=>k.dist i j xs ys p (w.get i _ h1 λz=>nomatch z) (w.get j _ h2 λz=>nomatch z),k.Xm.to (.refl _) (λ_ _ e1 e2 _=>⟨e1,e2⟩) λi kvs h=>⟨w.get i _ h (λz=>nomatch z),rfl⟩⟩
section
variable {X:Cx}
def W4.weak(h:W4 X U Y8 (.nx W1))(w:YG W1 ρ2):W4 X U Y8 (.nx ρ2):=λB F H Y E k q=>h B F H Y E k λF' H' XV k' s'=>q F' H' XV (k'.weak w) s'
end
section
variable {X:Cx}
def W5.eq{b':Bool}(h:W5 X U e b)(q:b=b'):W5 X U e b':=q▸h
def W0.eq{d':D}(h:W0 X U e d)(q:d=d'):W0 X U e d':=q▸h
def Xe.eq{d':ck}(h:Xe X U e d)(q:d=d'):Xe X U e d':=q▸h
def Yj.eq{d':ck}(h:Yj X U e k d)(q:d=d'):Yj X U e k d':=q▸h
def X5.eq{d':ck}(h:X5 X U tg e d)(q:d=d'):X5 X U tg e d':=q▸h
def W4.eq{o':Out}(h:W4 X U Y8 o)(q:o=o'):W4 X U Y8 o':=q▸h
def XX.eq{st:Stmt}{o':Out}(h:XX X U st o)(q:o=o'):XX X U st o':=q▸h
end
def Xc.zBG{X:Cx}{ds:ck}(R:Nat->dP)(h:∀(j:Nat)d,ds[j]?=some d->∃W1,Yr X (R j) tg d W1/\W4 X W1 body (.nx<|R<|j+1)):Xc X tg body ds (R 0) (.nx<|R ds.length):=by
 have q:=Xc.of (X:=X) (tg:=tg) body R ds 0 λj d e=>by obtain⟨W1,h1,h2⟩:=h j d e;exact⟨W1,by simpa using h1,by simpa using h2⟩
 simpa using q
def Xc.Xl{X:Cx}{ds:ck}{U ρ':dP}(R:Nat->dP)(h:∀(j:Nat)d,ds[j]?=some d->∃W1,Yr X (R j) tg d W1/\W4 X W1 body (.nx<|R<|j+1))(e0:R 0=U)(e1:R ds.length=ρ'):Xc X tg body ds U (.nx ρ'):=by subst e0;subst e1;exact Xc.zBG R h
theorem zu{X:Cx}(R:Nat->Nat->dP)(h1:∀a b:Nat,W5 X (R a b) c<|decide<|0<b)(h2:∀a b:Nat,0<b->W4 X (R a b) body (.nx<|R b<|a%b)):∀(n a b:Nat),b<=n->∃m,XD X c body m (R a b) (.nx<|R (Nat.gcd a b) 0)
 |n,a,0,_=>⟨0,by rw[Nat.gcd_zero_right];exact .stop<|by have:=h1 a 0;simpa using this⟩|0,a,b+1,h=>by lia
 |n+1,a,b+1,h=>by
  obtain⟨m,q⟩:=zu R h1 h2 n (b+1) (a%(b+1)) (by have:=Th a (show 0<b+1 by lia);lia);refine⟨m+1,.step (by have:=h1 a<|b+1;simpa using this) (h2 a (b+1)<|Nat.succ_pos b) ?_⟩;have e:Nat.gcd a (b+1)=Nat.gcd (b+1) (a%(b+1)):=by rw[La a<|b+1,Nat.gcd_rec (b+1) a,La]
  rwa[e]
def oJ{j:Int}(h1: -(2 ^ 64)<j)(h2:j<2 ^ 64):IntMulOk i j:=.of_right<|intBits_le_64 h1 h2
def gD{i j:Int}(h1: -(2 ^ 64)<i)(h2:i<2 ^ 64):IntMulOk i j:=.of_left<|intBits_le_64 h1 h2
def lQ(xs:az)(lo hi:Option Int):az:=(xs.drop<|HT.Ya xs.length 0 lo).take<|HT.Ya xs.length xs.length hi-HT.Ya xs.length 0 lo
def jr(xs:az)(lo hi:Option Int):HB (xs.map D.int) lo hi=(lQ xs lo hi).map D.int:=by unfold HB lQ;rw[ab,US,List.map_drop]
def EA(k:Nat)(n:Int):(List.replicate k [D.int n]).flatten=(List.replicate k n).map D.int:=by induction k with|zero=>rfl|succ k ih=>rw[dF,gL,ih,dF,bY];rfl
theorem W9.gen{X:Cx}(g f:α->D)(R:α->dP):∀(xs:List α)(U:dP),(∀x∈xs,XO X U tg (g x)<|R x)->(∀x∈xs,∀y∈xs,XO X (R x) tg (g y)<|R y)->(∀x∈xs,W0 X (R x) elt<|f x)->W9 X tg elt [] (xs.map g) U (xs.map f)|[],_,_,_,_=>.nil|x::xs,U,h1,h2,h3=>.take (h1 x aN) (.inl rfl) (h3 x aN) (W9.gen g f R xs (R x) (λe he=>h2 x aN e<|aC _ he) (λa ha e he=>h2 a (aC _ ha) e<|aC _ he) λe he=>h3 e<|aC _ he)
def W9.ints{X:Cx}{xs:az}(f:Int->Int)(R:Int->dP)(h1:∀x∈xs,XO X U tg (.int x)<|R x)(h2:∀x∈xs,∀y∈xs,XO X (R x) tg (.int y)<|R y)(h3:∀x∈xs,W0 X (R x) elt<|.int<|f x):W9 X tg elt [] (xs.map D.int) U ((xs.map f).map D.int):=by rw[bp];exact W9.gen D.int (λx=>.int<|f x) R xs U h1 h2 h3
def gq:(sizeLine:Nat)=16777216:=fR
open AutoSeq1 (wpAny_loadPart')
def xk{Q:uA}{s:Shared}(hit:s.heap.IsTupleIter it t i)(ht:s.heap.IsTuple t items)(hx:items[i]?=some x)(hQ:∀h',h'.IsTupleIter it t (i+1)->Heap.SameBut it s.heap h'->Q x {s with heap:=h'}):wpAny (model prog w) A (Builtin.SmallTypes.nextOf<|.ref it) Q E s:=by obtain⟨o,ho,hc,hd⟩:=id hit;obtain⟨ol,hol,_,nl,hdl⟩:=ht;refine ae<|dZ hit.typeIs mx<|de mx hit.typeIs Wx ?_<|Wf _;show wpAny _ _ (field (.ref it) 0>>=_) _ _ s;refine ae<|kB ho hd (x:=.ref t) rfl ?_;rw[af (show¬((Value.ref t==Value.none)=true)from aW)];refine ae<|kB ho hd rfl ?_;refine ae<|K6 hol hdl ?_;simp only[bQ,hx];refine ae<|gT ho hd (by simp)<|ap ⟨x,rfl,ap<|hQ _ ?_<|dJ ..⟩;exact⟨_,fH _ ho<|lN<|fM hd _,(AH ..).trans hc,by rw[fM hd];simp[rawInt]⟩
def qW{A:Around}{E:uA}{s:Shared}(hh:A.handled=none)(hit:s.heap.IsTupleIter it t i)(ht:s.heap.IsTuple t items)(hx:items[i]?=none)(hE:∀h' e,Heap.ExtBut it s.heap h'->(∃o,h'.get? e=some o/\o.cls=.type "StopIteration")->E (.ref e) {s with heap:=h'}):wpAny (model prog w) A (Builtin.SmallTypes.nextOf<|.ref it) Q E s:=by
 let⟨o,ho,hc,hd⟩:=id hit;let⟨ol,hol,_,nl,hdl⟩:=ht;refine ae<|dZ hit.typeIs mx<|de mx hit.typeIs Wx ?_<|Wf _;show wpAny _ _ (field (.ref it) 0>>=_) _ _ s;refine ae<|kB ho hd (x:=.ref t) rfl ?_;rw[af (show¬((Value.ref t==Value.none)=true)from aW)];refine ae<|kB ho hd rfl ?_;refine ae<|K6 hol hdl ?_;simp only[bQ,hx];refine ae<|Ge<|ae<|gT ho hd (by simp) ?_;refine ae ?_;simp only[newExc,newTuple];refine ae<|dC ?_ (by size_fits);refine ae<|dU (by first |rfl |(simp;rfl)) ?_;refine dC ?_ (by size_fits);simp only[raiseNew];refine ae<|Oh ?_;first |rw[show A.in1.handled=none from hh] |rw[hh]
 refine ae<|ap<|Va ?_;exact hE _ _ (((dJ ..).extBut.push _).push _) ⟨_,a7 _ rfl,rfl⟩
def KL{A:Around}(hh:A.handled=none)(it t:Addr)(XB:t≠it)(items:Array Value):Draws prog w A it [it,t] items.size (λi v=>items[i]?=some v) (λi h=>h.IsTupleIter it t i/\h.IsTuple t items) where
 live:=λ_ _ st=>let⟨o,ho,_⟩:=st.1;⟨o,ho⟩
 frame:=λ_ _ _ st hk=>⟨st.1.at λo e=>hk it (by simp) o e,let⟨o,e,r⟩:=st.2;⟨o,hk t (by simp) o e,r⟩⟩
 item:=λi s Q E hi st hQ=>by refine xk st.1 st.2 (x:=items[i]) (by simp[hi]) λh' zHL hs'=>?_;exact hQ _ h' s.toks (by simp[hi]) ⟨zHL,let⟨o,e,r⟩:=st.2;⟨o,hs'.extBut t o XB e,r⟩⟩ hs'
 done:=λs Q E st hE=>qW hh st.1 st.2 (by simp) hE
def E4(l:Addr)(items:Array Value)(n:Nat)(X6:Option Addr)(sl:Array (Option Value)):Meets (Builtin.«enumerate.__new__» ⟨[.type "enumerate",.ref l],[]⟩) (λ_ R s=>s.heap.get? l=some {cls:=.type "tuple",dict:=X6,data:=.seq items n,slots:=sl}/\R (.ok<|.ret<|.ref (s.heap.push {cls:=.type "tuple_iterator",data:=.fields #[.ref l,.int 0 0]}).objs.size) {s with heap:=(s.heap.push {cls:=.type "tuple_iterator",data:=.fields #[.ref l,.int 0 0]}).push {cls:=.type "enumerate",data:=.fields #[.none,.bool false,.ref s.heap.objs.size,rawInt 0,.none,.none]}}):=.of_wp λprog w A R s h=>by
  obtain⟨hp,g,d,tk,os⟩:=s;obtain⟨hl,h⟩:=h;have zNN:=sub_enumerate;have hL:Heap.IsTuple (Shared.heap ⟨hp,g,d,tk,os⟩) l items:=⟨_,hl,rfl,n,rfl⟩
  wp_walk using kW hl
  refine wpAny_stack_any λst=>ap ?_;split;rename_i c _ _ _ _ _;cases(c==Value.type "enumerate")
  wp_walk using kW hl,xB hL
  exact⟨_,rfl,h⟩
  wp_walk using kW hl,xB hL
  exact⟨_,rfl,h⟩
  wp_walk using kW hl,xB hL
  exact⟨_,rfl,h⟩
def HL{Q:uA}{s:Shared}(hL:s.heap.IsTuple l items)(h:∀h',IsEnum h' (s.heap.objs.size+1) s.heap.objs.size 0 .none->h'.IsTupleIter s.heap.objs.size l 0->h'.objs.size=s.heap.objs.size+2->(∀b o,s.heap.get? b=some o->h'.get? b=some o)->Q (.ref<|s.heap.objs.size+1) {s with heap:=h'}):wpAny (model prog w) A (call (.type "enumerate") [.ref l]) Q E s:=by
 obtain⟨⟨c,X6,dt,sl⟩,hl,hc,n,hd⟩:=hL;replace hc:c=.type "tuple":=hc;replace hd:dt=.seq items n:=hd;subst hc hd;refine callType_new F.called_enumerate rfl (F.typeCall_enumerate_1 _) (F.newCall_enumerate_1 _) (λobj=>F.args_object_init_2 obj _) F.entry_enumerate_new (E4 l items n X6 sl) ⟨hl,?_⟩;have hz:(s.heap.push {cls:=.type "tuple_iterator",data:=.fields #[.ref l,.int 0 0]}).objs.size=s.heap.objs.size+1:=xI ..;rw[hz];have he:IsEnum ((s.heap.push {cls:=.type "tuple_iterator",data:=.fields #[.ref l,.int 0 0]}).push {cls:=.type "enumerate",data:=.fields #[.none,.bool false,.ref s.heap.objs.size,rawInt 0,.none,.none]}) (s.heap.objs.size+1) s.heap.objs.size 0 .none:=by have:=a7 (s.heap.push {cls:=.type "tuple_iterator",data:=.fields #[.ref l,.int 0 0]}) (o:={cls:=.type "enumerate",data:=.fields #[.none,.bool false,.ref s.heap.objs.size,rawInt 0,.none,.none]}) rfl;rw[hz]at this;exact this
 refine⟨⟨_,he,rfl⟩,h _ he ⟨_,aE _<|a7 _ rfl,rfl,rfl⟩ (by rw[xI,hz]) λb o x=>aE _<|aE _ x⟩
def V4(K:gS)(a:Addr):It:=⟨λi H=>∃xs x,X1 K H a xs/\xs[i]?=some x,λi H x H'=>∃p,H p=none/\x=.ref p/\∀xs,X1 K H a xs->∃v,xs[i]?=some v/\H'=fN H p (.tup [.int i,v]),λi H=>∃xs,X1 K H a xs/\xs.length<=i⟩
section
variable {X:Cx}
def Inv.zDQ{h':Heap}{t':Nat}{e it:Addr}(I:Inv X on Y H s)(k:∀b o,b≠e->b≠it->s.heap.get? b=some o->h'.get? b=some o)(fe:pX X on H e)(fi:pX X on H it):Inv X on Y H {s with heap:=h',toks:=t'}:=by obtain⟨e0,e1,e2,e3,e4,e5⟩:=fe;obtain⟨i0,i1,i2,i3,i4,i5⟩:=fi;refine I.step (ch:=[e,it]) (λb hb=>?_) (λb o _ _ hc q _=>k b o (λz=>hc<|by simp[z]) (λz=>hc<|by simp[z]) q) (λb o _ _ hc q _=>⟨o.slots,k b o (λz=>hc<|by simp[z]) (λz=>hc<|by simp[z]) q⟩) (λ_ _ _ _ n=>n) (λb o hc q=>⟨o,k b o (λz=>hc<|by simp[z]) (λz=>hc<|by simp[z]) q⟩) (λ_ _ q=>q) (λ_ _ _ q=>q) (λb ps q=>⟨#[],by rw[q];simp⟩) (λm hm=>?_) (λb u q=>?_) I.bare;rcases aF.mp hb with rfl |hb;exact⟨e3,e1,e4,e5⟩;rw[aH.mp hb];exact⟨i3,i1,i4,i5⟩;obtain⟨o,es,ep,ho,r⟩:=hm;exact⟨o,es,ep,k _ o (gy e1) (gy i1) ho,r⟩;have ne:∀c v,H c=some v->c≠e/\c≠it:=λc v q=>⟨(λz=>by rw[z,e0]at q;cases q),(λz=>by rw[z,i0]at q;cases q)⟩;refine(I.Xg b u q).Zi (λc v hc r=>?_) (λ_ r=>r) λ_ _ r=>r;rcases hc with z |z;subst z;exact k c v (ne c _ q).1 (ne c _ q).2 r;exact k c v (ne c _ z).1 (ne c _ z).2 r
end
section
variable {X:Cx}
def Inv.zDR{p:Addr}(I:Inv X on Y H s)(hp:H p=none)(h1:X.s₀.heap.objs.size<=p)(h2:p≠X.env.locals)(h3:∀x c,X.env.cells.lookup x=some c->c≠p)(h4:∀q∈X.pn++on,q.1≠p)(new:Xj X.prog X.w (fN H p o) s.heap p o):Inv X on Y (fN H p o) s:=by have old:∀b ob,X.s₀.heap.get? b=some ob->b≠p:=λb ob e=>dh<|aR (bc e) h1;refine⟨I.ok,I.os,I.bare,⟨I.base.keep,I.base.slot,λb ob e n hx=>by rw[bq<|old b ob e];exact I.base.free b ob e n hx,I.base.there,λb xs e=>?_,λb ob u e=>?_,λb ps e=>?_⟩,I.loc,I.cell,by rw[bq<|gy h2];exact I.free,λx c e=>by rw[bq<|h3 x c e];exact I.Yc x c e,λq hq=>?_,λb u e=>?_,I.len⟩;have q:=I.base.Y1 b xs e;rwa[bq<|eH q hp];have q:=I.base.YU b ob u e;rwa[bq<|eH q hp];obtain⟨more,q⟩:=I.base.Y2 b ps e;exact⟨more,by rwa[bq<|eH q hp]⟩;obtain⟨a,b,c⟩:=I.pin q hq;exact⟨a,by rwa[bq<|h4 q hq],c⟩;by_cases hb:b=p;subst hb;rw[bI]at e;cases e;exact new;rw[bq hb]at e;exact(I.Xg b u e).Zi (λ_ _ _ q=>q) (λc q=>by rwa[bq<|eH q hp]) λc xs q=>by rwa[bq<|eH q hp]
end
def JW(a e it:Addr)(XB:e≠it):xA P w K (.Tuple es x1 pos) (V4 K a) [e,it] e (λi h=>(∃old,IsEnum h e it i old)/\h.IsTupleIter it a i) where
 mem:=by simp
 obj:=λi h st b hb=>by obtain⟨⟨old,he⟩,o,ho,c,d⟩:=st;rcases aF.mp hb with rfl |hb;exact⟨_,he,λv z=>by cases z⟩;rw[aH.mp hb];exact⟨o,ho,λv z=>by rw[d]at z;cases z⟩
 keep:=λi h h' st k=>by obtain⟨⟨old,he⟩,hi⟩:=st;exact⟨⟨old,k e (by simp) _ he⟩,hi.at λo q=>k it (by simp) o q⟩
 item:=by
  intro X hP hw hK hc i on s Y H E I hf st hg;subst hP hw hK;obtain⟨⟨old,he⟩,hit⟩:=st;obtain⟨xs,x,hq,hx⟩:=hg;obtain⟨its,rv,p,hz⟩:=I.tuple hq;obtain⟨u,hu,ru⟩:=rv.get hx;have fe:=hf e (by simp);have fi:=hf it (by simp);have XQ:=(aG.mp hu).1;obtain⟨oa,hoa,hca,na,hda⟩:=id p;have hae:e≠a:=λz=>by subst z;rw[he]at hoa;cases hoa;injection hca with z2;exact absurd z2<|by decide
  have hai:a≠it:=λz=>by subst z;obtain⟨oi,hoi,hci,_⟩:=hit;rw[hoa]at hoi;cases hoi;rw[hca]at hci;injection hci with z2;exact absurd z2<|by decide
  refine wpAny_pyNext_enum_itemD (KL (prog:=X.prog) (w:=X.w) (A:=X.A.in1) (I.ok.hd hc) it a hai its.toArray) he ⟨hit,p⟩ XQ XB (by simp[hae,XB]) λy h' tk hy ho hst hT hsz hk=>?_;have ey:y=u:=by
   have:its[i]?=some y:=by simpa using hy
   rw[hu]at this;exact(bC this).symm
  subst ey;refine⟨_,rfl,wpAny_letOwnedTupleGo_enum ho λh2 he2 sb=>?_⟩;have hTe:=td<|bc he;have hTi:s.heap.objs.size≠it:=by obtain⟨oi,hoi,_⟩:=id hit;exact td<|bc hoi
  have sb':Heap.SameBut e h' h2:=sb;have kk:∀b o,b≠e->b≠it->s.heap.get? b=some o->h2.get? b=some o:=λb o h1 h2' q=>sb'.extBut b o h1<|hk b o h1 h2' q;have I1:Inv X on Y H {s with heap:=h2,toks:=tk+1}:=Inv.zDQ I kk fe fi;have hp0:=I.Xg.fresh<|ao _;have I2:Inv X on Y (fN H s.heap.objs.size<|.tup [.int i,x]) {s with heap:=h2,toks:=tk+1}:=by refine Inv.zDR I1 hp0 I.sz (td I.lt) (λz c h=>?_) (λq hq2 z=>?_) ⟨Bm rfl,[.int i tk,y],.cons ⟨tk,rfl⟩<|.cons ru .nil,⟨_,sb'.extBut _ _ hTe hT,rfl,0,rfl⟩⟩;obtain⟨v,hv⟩:=I.cell z c h;exact dh hv.lt;have:=bc (I.pin q hq2).1;rw[z]at this;exact absurd this<|dW _
  refine⟨.ref s.heap.objs.size,_,I2,rfl,⟨s.heap.objs.size,hp0,rfl,λys hys=>⟨x,by rwa[I.Yx hys hq],rfl⟩⟩,⟨⟨_,by simpa using he2⟩,hst.1.at λo q=>sb'.extBut it o (gy XB) q⟩,λb hb=>?_⟩;have bT:b≠s.heap.objs.size:=by rcases aF.mp hb with rfl |hb;exact gy hTe;rw[aH.mp hb];exact gy hTi
  rw[bq bT];exact(hf b hb).1
 done:=by intro X hP hw hK hc i on s Y H E I hf st hg;subst hP hw hK;obtain⟨⟨old,he⟩,hit⟩:=st;obtain⟨xs,hq,hx⟩:=hg;obtain⟨its,rv,p,hz⟩:=I.tuple hq;obtain⟨f0,f1,f2,f3,f4,f5⟩:=hf it (by simp);have hl:=rv.length;have hT:s.TypeIs (.ref e) "enumerate":=⟨_,he,rfl⟩;refine ae<|lD<|dZ hT F.slot_enumerate_next<|de F.slot_enumerate_next hT F.entry_enumerate_next ?_<|F.args_enumerate_next_1 _;show wpAny _ _ (field (.ref e) 2>>=_) _ _ _;refine ae<|kB he rfl rfl ?_;refine ae (qW (I.ok.hd hc) hit p (by simp;lia) λh' x he' Yw=>?_);obtain⟨o,ho,Zh⟩:=Yw;refine ae<|nc ⟨o,ho,Zh⟩ K8 ?_;exact ap ⟨rfl,I.turned (λb o hb e=>he' b o hb e) f0 f1 f3 f4 f5⟩
 self:=λ_ _ s Q E st h=>by obtain⟨⟨old,he⟩,hit⟩:=st;exact wpAny_pyIter_enum he h
section
variable {X:Cx}{ds:ck}
def Us(K:gS)(ta:TA):TI:=λY H R=>ta Y H λvs H1=>∃a,vs=[.ref a]/\(∃xs,X1 K H1 a xs)/\R (V4 K a) H1
def O3(hg:Gl X "enumerate")(hm:X.mg "enumerate"=none)(hl:PA X [a] ta)(hs:Pl a):PI X (.Tuple es x1 tp) (.Call (.Name "enumerate" p) [a] [] pos) (Us X.K ta):=by refineλon s Y H R I h=>Call_<|t6 I hg hm (show bootBuiltins "enumerate"=some (.type "enumerate")by decide)<|ie (fD (hl pos on s Y H _ I h) λus s1 ⟨vs,H1,I1,r1,q1⟩=>?_) (hs _ _) rfl;obtain⟨l,rfl,⟨xs,hq⟩,q⟩:=q1;obtain⟨u,rfl,ru⟩:=oz r1;cases(ru);obtain⟨its,rv,pt,hz⟩:=I1.tuple hq;refine HL pt λh' he hi hsz kp=>?_;refine wpAny_pyIter_enum he ?_;have fr:∀b,s1.heap.objs.size<=b->pX X on H1 b:=λb hb=>I1.Z2 hb<|I1.Xg.fresh hb;refine⟨s1.heap.objs.size+1,[s1.heap.objs.size+1,s1.heap.objs.size],_,_,H1,rfl,I1.kept (t':=s1.toks) kp,JW l _ _<|td<|qg _,⟨⟨_,he⟩,hi⟩,λb hb=>?_,q⟩;rcases aF.mp hb with rfl |hb;exact fr _ (by lia);rw[aH.mp hb];exact fr _<|ao _
def B2(ds:ck):ck:=(List.range ds.length).map λ(i:Nat)=>.tup [.int (i:Int),ds.getD i .Xf]
def sO{i:Nat}(h:(B2 ds)[i]?=some d):∃e,ds[i]?=some e/\d=.tup [.int (i:Int),e]:=by unfold B2 at h;rw[aw]at h;by_cases hi:i<ds.length;rw[bv hi]at h;cases h;exact⟨ds[i],am hi,by show D.tup [D.int (i:Int),ds.getD i .Xf]=_;rw[ac,am hi];rfl⟩;rw[aI<|by simpa using hi]at h;cases h
def sM:(B2 ds).length=ds.length:=by simp[B2]
def Sj{F:Hp}{l:Addr}(hf:F l=some (.tup vs))(r:W3 K F vs ds):pW K (V4 K l) F (B2 ds):=λi F2 H2 s1 s2=>⟨λd hd=>by obtain⟨e,he,rfl⟩:=sO hd;obtain⟨v,hv,rv⟩:=r.get he;have sq:X1 K H2 l vs:=X1.of<|s2 _ _<|s1 _ _ hf;refine⟨⟨vs,v,sq,hv⟩,λx H' y=>?_⟩;obtain⟨p,hp,rfl,y⟩:=y;obtain⟨v',hv',rfl⟩:=y vs sq;rw[hv]at hv';cases hv';exact⟨_,(Ext.refl s2).grow hp,.tup bI<|.cons (.int _)<|.cons ((rv.mono s1).mono<|bG<|s2.free hp) .nil⟩,λh=>⟨vs,X1.of<|s2 _ _<|s1 _ _ hf,by rw[r.length];rw[sM]at h;exact h⟩⟩
def De(t:At X N sc)(bl:tN X sc "enumerate" (.type "enumerate"))(h:W0 X U a (.tup ds))(hs:Pl a:=by intro _ _;rfl):X5 X U (.Tuple es x1 tp) (.Call (.Name "enumerate" p) [a] [] pos) (B2 ds):=.of (O3 (hJ t bl.g) bl.m (dH cF gh<|hs _ _) hs) λB F H Y R k q=>h B F H Y _ k λv F' H' x r=>by cases r with|tup hf rl=>exact⟨_,rfl,⟨_,X1.of<|x.sub _ _ hf⟩,q _ F' H' x<|Sj hf rl⟩
end
abbrev vB:jt:=[.type "ValueError",.type "Exception",.type "BaseException",.type "object"]
def WJ(h base:Heap)(e C:Addr)(fl:Value):Prop:=∃(oe:Obj)(vs:Array Value)(T:Addr)(oT:Obj)(ts:Array Value),h.get? e=some oe/\oe.cls=.ref C/\oe.data=.fields vs/\vs[1]?=some (.ref T)/\vs[2]?=some .none/\base.get? T=none/\T≠e/\h.get? T=some oT/\oT.data=.fields ts/\ts[3]?=some fl
def V5(base:Heap)(l:List Env)(e C:Addr)(fl:Value)(h:Heap):Prop:=base.StaysIn h/\base.get? e=none/\h.FunFrames base l/\WJ h base e C fl
structure WM(P:Program)(w:World)(l:List Env)(H:Hp)(s:Shared)(H':Hp)(C:Addr)(e:Value)(s':Shared):Prop where
 ex:∃(ea:Addr)(B:Heap),e=.ref ea/\V5 B l ea C .none s'.heap/\YH P w H' B/\
  (∀b o,s.heap.get? b=some o->H b=none->b∉Gq l->B.get? b=some o)/\(∀b o,s.heap.get? b=some o->b∉Gq l->∃o',B.get? b=some o')
 os:s'.os=s.os
 bare:AllBare s'.gens
 slot:∀b o,s.heap.get? b=some o->H b=none->b∈Gq l->∃sl,s'.heap.get? b=some {o with slots:=sl}
 free:∀b o,s.heap.get? b=some o->H b=none->H' b=none
 Y1:∀b xs,H b=some (.tup xs)->H' b=some (.tup xs)
 YU:∀b o u,H b=some (.Ym o u)->H' b=some (.Ym o u)
 Y2:∀b ps,H b=some (.tbl ps)->∃more,H' b=some (.tbl<|ps++more)
inductive HZ(X:Cx)(m:Bool)(H:Hp)(s:Shared)(H':Hp)(C:Addr)(e:Value)(s':Shared):Prop where
 |fly:WM X.prog X.w X.stack H s H' C e s'->HZ X m H s H' C e s'
 |made {ea:Addr} {vs:jt}:m=true->H'=H->e=.ref ea->Heap.MadeExcOf s.heap s'.heap ea (.ref C) vs->s'.os=s.os->s'.gens=s.gens->HZ X m H s H' C e s'
def XP(X:Cx)(m:Bool)(on:jn)(B:B0)(F:Hp)(ρ':dP)(C:Addr)(e:Value)(s':Shared):Prop:=∃(σ1:St)(H1:Hp)(s1:Shared)(F' H':Hp),Inv X on σ1 H1 s1/\Ok X.K B F' H' σ1 ρ'/\W8 F F'/\HZ X m H1 s1 H' C e s'
structure Wj(X:Cx)(es:vO)(vs:ij)(Y:St)(H:Hp)(Q:St->Hp->Prop):Prop where
 go:∀(on:jn)(s:Shared)(us:jt),Inv X on Y H s->Vals vs us->gA X (assignInOrder ((assignEach es X.env).map (·.2)) us) (λ_ s'=>∃XV H',Inv X on XV H' s'/\Q XV H') X.xe s
def QO{X:Cx}:UH X es (Wj X es):=λon s _ _ _ us _ I r h=>h.go on s us I r
def Qn(X:Cx)(U:dP)(es:vO)(ds:ck)(ρ':dP):Prop:=((∀env,(assignEach es env).length=ds.length)/\∀env,(assignEach es env).findIdx? (·.1)=none)/\∀(B:B0)(F H:Hp)(Y:St)(vs:ij)(Q:St->Hp->Prop),Ok X.K B F H Y U->W3 X.K F vs ds->(∀F' H' XV,Ok X.K B F' H' XV ρ'->W8 F F'->Q XV H')->Wj X es vs Y H Q
def WK(e:Expr):Prop:=∀(es:vO)(env:Env),assignEach (e::es) env=(false,assign e env)::assignEach es env
section
variable {X:Cx}{ds:ck}
def sP:Qn X U [] [] U:=⟨⟨λ_=>rfl,λ_=>rfl⟩,λB F H Y vs Q k r q=>.mk λon s us I ru=>by cases r;exact IN on s Y H [] us Q I ru ⟨rfl,q F H Y k<|.refl _⟩⟩
def fX(h1:Yr X U e d W1)(h2:Qn X W1 es ds ρ')(hs:WK e:=by intro _ _;rfl):Qn X U (e::es) (d::ds) ρ':=⟨⟨λenv=>by rw[hs es env,bB,bB,h2.1.1 env],λenv=>by
  rw[hs es env,List.findIdx?_cons]
  simp[h2.1.2 env]⟩,λB F H Y vs Q k r q=>.mk λon s us I ru=>by
 cases r with
 |cons r1 r2=>
  refine yX MD QO (by rw[hs es X.env];rfl) on s Y H _ us Q I ru ⟨_,_,rfl,?_⟩
  exact h1 B F H Y _ _ k r1 λF1 H1 σ1 k1 s1=>h2.2 B F1 H1 σ1 _ _ k1 (r2.mono s1) λF2 H2 σ2 k2 s2=>q F2 H2 σ2 k2 (s1.trans s2)⟩
def wt(t:At X N sc)(h:Qn X U es ds ρ'):Yr X U (.Tuple es k pos) (.tup ds) ρ':=.of (ME (n:=ds.length) t.calm QO (h.1.1 _)<|h.1.2 _) λB F H Y v Q k r q=>by cases r with|tup hf rl=>exact⟨_,_,rfl,X1.of<|k.sub _ _ hf,rl.length,h.2 B F H Y _ Q k rl q⟩
end
section
variable {X:Cx}{C:Addr}
def kF:D->Bool|.Xf=>true|_=>false
def Cy(r:Rep K F v d):decide (v=.Xf)=kF d:=by cases r<;>rfl
def C8(ha:W0 X U a d):W0 X U (.Compare a [.IsNot] [.Constant .none j p'] pos) (.bl (!kF d)):=.of (CK IQ cF cF<|gn _<|by decide) λB F H Y Q k q=>two ha pL k λx y F' H' x' rx ry=>by cases ry;exact⟨rfl,by rw[Cy rx];exact q _ F' H' x'<|.bl _⟩
def Da(ha:W0 X U a d):W5 X U (.Compare a [.Is] [.Constant .none j p'] pos) (kF d):=rq RW ha pL (gn _<|by decide) λF H x y Q rx ry q=>by cases ry;exact⟨rfl,by rwa[Cy rx]⟩
def Jx(ha:W0 X U a d):W5 X U (.Compare a [.IsNot] [.Constant .none j p'] pos) (!kF d):=rq IQ ha pL (gn _<|by decide) λF H x y Q rx ry q=>by cases ry;exact⟨rfl,by rwa[Cy rx]⟩
end
open AutoSeq1 (wpAny_loadPart')
def Xr:Slot "reversed" "__next__" "reversed.__next__":=.of (by rw[kX,gB];kernel_rfl) rfl rfl rfl (by first |exact .inl rfl |exact .inr rfl)<|by rw[iM];kernel_rfl
def tq:Slot "reversed" "__iter__" "reversed.__iter__":=.of (by rw[kX,gB];kernel_rfl) rfl rfl rfl (by first |exact .inl rfl |exact .inr rfl)<|by rw[iM];kernel_rfl
def AK:Slot "reversed" "__init__" "object.__init__":=.of (by rw[kX,gB];kernel_rfl) rfl rfl rfl (by first |exact .inl rfl |exact .inr rfl)<|by rw[iM];kernel_rfl
def rz:entryFor table "reversed.__next__"=some Builtin.«reversed.__next__»:=UQ<|by kernel_rfl
def z4:entryFor table "reversed.__iter__"=some Builtin.«dict_keyiterator.__iter__»:=WN (by kernel_rfl) (by first |rfl |decide |(unfold String.splitOn;simp+decide [String.splitOnAux])) rfl<|by kernel_rfl
def tM(a:Value):argsOk "reversed.__next__" ⟨[a],[]⟩:=by kernel_rfl
def Bi(a:Value):argsOk "reversed.__iter__" ⟨[a],[]⟩:=by kernel_rfl
def IW:mroOf (.type "reversed")=pure [.type "reversed",.type "object"]:=by rw[mroOf_type];kernel_rfl
def Pb:typeLookup (.type "reversed") "__new__"=pure (some<|.builtin "reversed.__new__"):=by rw[kX,gB];kernel_rfl
def HI:TypeCalled "reversed" "reversed.__new__" "object.__init__":=⟨by decide,by decide,⟨_,_,IW⟩,madeBy_type IW Pb<|by decide,by decide,by rw[iM];kernel_rfl,AK⟩
def Cj(a:Value):checkTypeCall "reversed" ⟨[a],[]⟩=pure ():=by kernel_rfl
def E2(a:Value):checkBuiltinCall "reversed.__new__" ⟨[.type "reversed",a],[]⟩=pure ():=by kernel_rfl
def A4:entryFor table "reversed.__new__"=some Builtin.«reversed.__new__»:=UQ<|by kernel_rfl
def Oz:isSubtype (.type "reversed") (.type "reversed")=pure true:=by rw[iM];kernel_rfl
def JX:typeLookup (.type "tuple") "__reversed__"=pure none:=by rw[kX,gB];kernel_rfl
def GE:isSubtype (.type "tuple") (.type "dict")=pure false:=by rw[iM];kernel_rfl
def Ha(a:Value):Builtin.SmallTypes.newClass "reversed" ⟨[.type "reversed",a],[]⟩=pure (.type "reversed",[a]):=by unfold Builtin.SmallTypes.newClass;simp only[isType,Oz,pure_bind,UW,eB,kY]
def H0(h:Heap)(e a:Addr)(j:Int):Prop:=∃o,h.get? e=some o/\o.cls=.type "reversed"/\o.data=.fields #[.ref a,rawInt j]
def Kr(l:Addr)(items:Array Value)(hz:(items.size:Int)<2 ^ 63):Meets (Builtin.«reversed.__new__» ⟨[.type "reversed",.ref l],[]⟩) (λ_ R s=>IsTup s.heap l items/\∀t',R (.ok<|.ret<|.ref s.heap.objs.size) {s with heap:=s.heap.push {cls:=.type "reversed",data:=.fields #[.ref l,rawInt<|(items.size:Int)-1]},toks:=t'}):=.of_wp λprog w A R s h=>by
  obtain⟨hp,g,d,tk,os⟩:=s;obtain⟨hl,h⟩:=h;have hT:(⟨hp,g,d,tk,os⟩:Shared).TypeIs (.ref l) "tuple":=hl.typeIs;unfold Builtin.«reversed.__new__»;refine ae<|dU (Ha _) ?_;try dsimp only
  refine ae<|dU (by first |rfl |kernel_rfl) ?_;refine ae<|dU (by first |rfl |kernel_rfl) ?_;try dsimp only
  refine ae<|vL hT JX ?_;try dsimp only
  refine ae<|ae (nc hT GE ?_);simp only[eB,kY];refine ae<|vL hT slot_tuple_getitem.lookup ?_;try dsimp only
  rw[ag<|by decide];refine ap ?_;simp only[UW,eB,kY];refine ae<|len_tuple hl hz ?_;refine ae<|dU (by rfl) ?_;try dsimp only
  refine ae ?_;show wpAny _ _ (newObj (.type "reversed")<|.fields #[.ref l,rawInt<|items.size-1]) _ _ _;exact dC<|ap ⟨_,rfl,h _⟩
def NJ{items:Array Value}{Q:uA}{s:Shared}(hz:(items.size:Int)<2 ^ 63)(hl:IsTup s.heap l items)(h:∀t',Q (.ref s.heap.objs.size) {s with heap:=s.heap.push {cls:=.type "reversed",data:=.fields #[.ref l,rawInt<|(items.size:Int)-1]},toks:=t'}):wpAny (model prog w) A (call (.type "reversed") [.ref l]) Q E s:=by refine callType_new HI rfl (Cj _) (E2 _) (λobj=>F.args_object_init_2 obj _) A4 (Kr l items hz) ⟨hl,λt'=>?_⟩;exact⟨⟨_,a7 _ rfl,rfl⟩,h t'⟩
def AQ{j:Nat}{items:Array Value}{s:Shared}{Q:Option Value->Shared->Prop}(hz:(items.size:Int)<2 ^ 63)(hit:H0 s.heap e a (j:Int))(hl:IsTup s.heap a items)(hx:items[j]?=some x)(hQ:∀h' t',H0 h' e a ((j:Int)-1)->Heap.SameBut e s.heap h'->Q (some x) {s with heap:=h',toks:=t'}):wpAny (model prog w) A (pyNext<|.ref e) Q E s:=by
 obtain⟨o,ho,hc,hd⟩:=id hit;have hT:s.TypeIs (.ref e) "reversed":=⟨o,ho,hc⟩;have hjs:j<items.size:=(Array.getElem?_eq_some_iff.mp hx).1;unfold pyNext;refine ae<|lD<|dZ hT Xr<|de Xr hT rz ?_<|tM _;unfold Builtin.«reversed.__next__»;refine ae<|dU rfl ?_;try dsimp only
 refine ae<|kB ho hd rfl ?_;refine ae<|kB ho hd rfl ?_;show wpAny _ _ (if(j:Int)<0 then _ else _) _ _ s;rw[af<|by lia];refine ae<|vL hl.typeIs slot_tuple_getitem.lookup ?_;simp only[Option.isNone_some,eB,kY];refine ae<|wpAny_mkInt ?_;refine ae<|lD<|getItem_tuple hl (by lia) (by lia) (by unfold seqIndex?;simp;lia) hx ?_;refine ae<|kB ho hd rfl ?_;show wpAny _ _ (setField (.ref e) 1 (rawInt<|j-1)>>=_) _ _ _;refine ae<|gT ho hd (by simp)<|ap ⟨x,rfl,ap<|hQ _ _ ?_<|dJ ..⟩;exact⟨_,fH _ ho<|lN<|fM hd _,(AH ..).trans hc,by rw[fM hd];simp[rawInt]⟩
def CO{j:Int}{A:Around}{s:Shared}{Q:Option Value->Shared->Prop}(hh:A.handled=none)(hj:j<0)(hit:H0 s.heap e a j)(hQ:∀h',Heap.ExtBut e s.heap h'->Q none {s with heap:=h'}):wpAny (model prog w) A (pyNext<|.ref e) Q E s:=by
 obtain⟨o,ho,hc,hd⟩:=id hit;have hT:s.TypeIs (.ref e) "reversed":=⟨o,ho,hc⟩;unfold pyNext;refine ae<|lD<|dZ hT Xr<|de Xr hT rz ?_<|tM _;unfold Builtin.«reversed.__next__»;refine ae<|dU rfl ?_;try dsimp only
 refine ae<|kB ho hd rfl ?_;refine ae<|kB ho hd rfl ?_;show wpAny _ _ (if j<0 then _ else _) _ _ s;rw[ag hj];refine ae<|Ge ?_;refine ae ?_;show wpAny _ _ (do setField (.ref e) 1 (rawInt (-1));setField (.ref e) 0 .none) _ _ s;refine ae<|gT ho hd (by simp) ?_;have hd1:=fM hd (·.setIfInBounds 1 (rawInt (-1)));refine gT (fH (Obj.mapFields (·.setIfInBounds 1 (rawInt (-1)))) ho<|lN hd1) hd1 (by simp) ?_;refine ae ?_;show wpAny _ _ (newExc (.type "StopIteration") []>>=_) _ _ _;refine ae ?_;simp only[newExc,newTuple];refine ae<|dC ?_ (by size_fits);refine ae<|dU (by first |rfl |(simp only[firstArgMember];rfl)) ?_;refine dC ?_ (by size_fits);simp only[raiseNew];refine ae<|Oh ?_;first |rw[show A.in1.handled=none from hh] |rw[hh]
 refine ae<|ap<|Va ?_;refine ae<|nc ⟨_,a7 _ rfl,rfl⟩ K8 ?_;exact ap<|hQ _<|(((dJ ..).trans<|dJ ..).extBut.push _).push _
def Fg{Q:uA}{s:Shared}(hit:H0 s.heap e a j)(h:Q (.ref e) s):wpAny (model prog w) A (pyIter<|.ref e) Q E s:=by let⟨o,ho,hc,hd⟩:=hit;have hT:s.TypeIs (.ref e) "reversed":=⟨o,ho,hc⟩;exact AG hT tq<|de tq hT z4 (ap ⟨_,rfl,"reversed",_,hT,Xr.lookup,h⟩)<|Bi _
def V1(K:gS)(a:Addr)(n:Nat):It:=⟨λi H=>∃xs x,X1 K H a xs/\xs.length=n/\xs.reverse[i]?=some x,λi H x H'=>H'=H/\∀xs,X1 K H a xs->xs.reverse[i]?=some x,λi H=>∃xs,X1 K H a xs/\xs.length=n/\n<=i⟩
def Rv{i:Nat}{xs:List α}{x:α}(h:xs.reverse[i]?=some x):i<xs.length/\xs[xs.length-1-i]?=some x:=by
 have hi:i<xs.length:=by have:=(aG.mp h).1;simpa using this
 rw[oV hi]at h;exact⟨hi,h⟩
def Lw(a e:Addr)(n:Nat):xA P w K tg (V1 K a n) [e] e (λi h=>H0 h e a<|(n:Int)-1-(i:Int)) where
 mem:=by simp
 obj:=λi h st b hb=>by obtain⟨o,ho,hc,hd⟩:=st;rw[aH.mp hb];exact⟨o,ho,λv z=>by rw[hd]at z;cases z⟩
 keep:=λi h h' st k=>by obtain⟨o,ho,r⟩:=st;exact⟨o,k e (by simp) o ho,r⟩
 item:=by
  intro X hP hw hK hc i on s Y H E I hf st hg;subst hP hw hK;obtain⟨xs,x,hq,hlen,hx⟩:=hg;obtain⟨its,rv,p,hz⟩:=I.tuple hq;obtain⟨hi,Yw⟩:=Rv hx;obtain⟨u,hu,ru⟩:=rv.get Yw;obtain⟨f0,f1,f2,f3,f4,f5⟩:=hf e (by simp);have hl:=rv.length;have h63:=tZ;have ej:n-1-i=((xs.length-1-i:Nat):Int):=by lia
  rw[ej]at st;refine AQ (by rw[aT];lia) st p (by simpa using hu) λh' tk Y5 sb=>?_;have I1:Inv X on Y H {s with heap:=h',toks:=tk}:=I.turned (λb o hb q=>(sb.2 b hb).trans q) f0 f1 f3 f4 f5;obtain⟨o,e1,c,d⟩:=id Y5;have st2:H0 h' e a (n-1-((i+1:Nat):Int)):=by
   have:((xs.length-1-i:Nat):Int)-1=n-1-((i+1:Nat):Int):=by lia
   rw[<-this];exact Y5
  exact⟨u,rfl,Jp e1 c d rfl ⟨x,H,I1,ru,⟨rfl,λys hy=>by rw[I.Yx hy hq];exact hx⟩,st2,λb hb=>(hf b hb).1⟩⟩
 done:=by intro X hP hw hK hc i on s Y H E I hf st hg;subst hP hw hK;obtain⟨xs,hq,hlen,hx⟩:=hg;obtain⟨f0,f1,f2,f3,f4,f5⟩:=hf e (by simp);exact CO (I.ok.hd hc) (by lia) st λh' eb=>⟨rfl,I.turned (λb o hb q=>eb b o hb q) f0 f1 f3 f4 f5⟩
 self:=λ_ _ s Q E st h=>Fg st h
section
variable {X:Cx}{ds:ck}
def VL(K:gS)(ta:TA):TI:=λY H R=>ta Y H λvs H1=>∃a xs,vs=[.ref a]/\X1 K H1 a xs/\R (V1 K a xs.length) H1
def RG(hg:Gl X "reversed")(hm:X.mg "reversed"=none)(hl:PA X [a] ta)(hs:Pl a):PI X tg (.Call (.Name "reversed" p) [a] [] pos) (VL X.K ta):=by
 refineλon s Y H R I h=>Call_<|t6 I hg hm (show bootBuiltins "reversed"=some (.type "reversed")by decide)<|ie (fD (hl pos on s Y H _ I h) λus s1 ⟨vs,H1,I1,r1,q1⟩=>?_) (hs _ _) rfl;obtain⟨l,xs,rfl,hq,q⟩:=q1;obtain⟨u,rfl,ru⟩:=oz r1;cases(show u=Value.ref l from ru);obtain⟨its,rv,pt,hz⟩:=I1.tuple hq;have hlen:=rv.length;have h63:=tZ;refine NJ (by rw[aT];lia) pt λt'=>?_;have kp:∀b o,s1.heap.get? b=some o->(s1.heap.push {cls:=.type "reversed",data:=.fields #[.ref l,rawInt<|its.toArray.size-1]}).get? b=some o:=λb o q=>aE _ q;have I2:Inv X on Y H1 {s1 with heap:=s1.heap.push {cls:=.type "reversed",data:=.fields #[.ref l,rawInt<|its.toArray.size-1]},toks:=t'}:=I1.kept kp;have st:H0 (s1.heap.push {cls:=.type "reversed",data:=.fields #[.ref l,rawInt<|its.toArray.size-1]}) s1.heap.objs.size l (its.toArray.size-1):=⟨_,a7 _ rfl,rfl,rfl⟩;refine Fg st<|⟨s1.heap.objs.size,[s1.heap.objs.size],_,_,H1,rfl,I2,Lw l _ xs.length,?_,λb hb=>?_,q⟩;have:its.toArray.size-1=xs.length-1-((0:Nat):Int):=by rw[aT];lia
 rw[<-this];exact st;rw[aH.mp hb];exact I1.Z2 (ao _)<|I1.Xg.fresh<|ao _
def Si{F:Hp}{l:Addr}(hf:F l=some (.tup vs))(r:W3 K F vs ds):pW K (V1 K l vs.length) F ds.reverse:=λi F2 H2 s1 s2=>⟨λd hd=>by obtain⟨v,hv,rv⟩:=r.reverse.get hd;have sq:X1 K H2 l vs:=X1.of<|s2 _ _<|s1 _ _ hf;refine⟨⟨vs,v,sq,rfl,hv⟩,λx H' y=>?_⟩;obtain⟨rfl,y⟩:=y;have e:=y vs sq;rw[hv]at e;cases e;exact⟨F2,.refl s2,rv.mono s1⟩,λh=>⟨vs,X1.of<|s2 _ _<|s1 _ _ hf,rfl,by rw[r.length];rw[cj]at h;exact h⟩⟩
def Nm(t:At X N sc)(bl:tN X sc "reversed" (.type "reversed"))(h:W0 X U a (.tup ds))(hs:Pl a:=by intro _ _;rfl):X5 X U tg (.Call (.Name "reversed" p) [a] [] pos) ds.reverse:=.of (RG (hJ t bl.g) bl.m (dH cF gh<|hs _ _) hs) λB F H Y R k q=>h B F H Y _ k λv F' H' x r=>by cases r with|tup hf rl=>exact⟨_,_,rfl,X1.of<|x.sub _ _ hf,q _ F' H' x<|Si hf rl⟩
end
section
variable {X:Cx}{ds:ck}{C:Addr}{st:Stmt}{rest:List Stmt}
def O5:oS X (binaryOp .Sub) (λx y H Q=>∃k j:Bool,x=.bl k/\y=.bl j/\Q (.int<|b2i k-b2i j) H):=by intro on s Y H x y v u Q I rx ry h;obtain⟨k,j,rfl,rfl,q⟩:=h;cases rx;cases ry;exact sub_bool ⟨.int<|b2i k-b2i j,H,I.tok _,⟨_,rfl⟩,q⟩
def PF(ha:W0 X U a (.bl k))(hb:W0 X U b (.bl j)):W0 X U (.BinOp a .Sub b pos) (.int<|b2i k-b2i j):=.of (EO O5 cF cF) λB F H Y Q k' q=>two ha hb k' λx y F' H' x' rx ry=>by cases rx;cases ry;exact⟨k,j,rfl,rfl,q _ F' H' x'<|.int _⟩
def LY{xs:ck}{apos Xd:Pos}{U:dP}{pos:Pos}[Zr X](t:At X N sc)(i j:Nat)(hr:U[i]?=some (.own<|xs++[d]))(Z1:i≠j)(hN:N[i]?=some y:=by rfl)(hv:kC sc y=true:=by rfl)(hx:gv y=true:=by rfl)(hj:N[j]?=some x:=by rfl)(hl:qB sc x=true:=by rfl)(Xx:(apos.endLine==Xd.line)=true:=by rfl)(hs:swapsWith (.Call (.Attribute (.Name y p) "pop" apos) [] [] Xd) (some<|.Name x pos') pos.line X.env=pure false:=by rfl):XX X U (.Assign [.Name x pos'] (.Call (.Attribute (.Name y p) "pop" apos) [] [] Xd) pos) (.nx<|(U.set i<|.own xs).set j<|.val d):=.of (yV (i:=j) t.nd (t.ix hj) (t.loc hl) (yY gI Bl Bk He cF rfl Xx) hs M6) λB F H Y E k q=>nP t hr hN hv hx k λl vs h1 h2 h3=>⟨.inl ⟨rfl,_,XU.of h2⟩,by
   obtain⟨w,hw,Yi⟩:=h3.get (i:=xs.length) (d:=d) (by simp);have hll:vs.length-1=xs.length:=by rw[h3.length];simp
   refine⟨l,vs,w,rfl,rfl,h2,by rw[hll];exact hw,?_⟩;exact q F _ _ ((k.Ye (vs:=vs) (ds:=xs) hr h1 (by have:=h3.dropLast;rwa[WT]at this)).Xq j Yi) (.refl _)⟩
end
end L2.EV
namespace HT
open PySem PySem.W PyProof.Rows PySem.Spec
variable {α:Type}
variable {K:gS}{ds:ck}
def zAM(xs:Array Value):((List.range xs.size).filterMap λ(m:Nat)=>xs[((xs.size:Int)-1+(m:Int)*(-1)).toNat]?).toArray=xs.toList.reverse.toArray:=by
 have zE5:∀(f g:Nat->Option Value)(l:Q7),(∀m∈l,f m=g m)->l.filterMap f=l.filterMap g:=by intro f g l;induction l with|nil=>intro _;rfl|cons m l ih=>intro h;have h1:=ih λm hm=>h m<|aC _ hm;rw[jg,jg,h m<|aN ..,h1]
 have h2:∀(n:Nat)(r:jt),r.length=n->(List.range r.length).filterMap (λm=>r[m]?)=r:=by
  intro n;induction n with
  |zero=>intro r hr;rw[au hr];rfl
  |succ n ih=>
   intro r hr;rcases cq r with e |⟨ys,y,e⟩;subst e;simp at hr;rw[cJ]at e;subst e;have hl:ys.length=n:=by simpa using hr
   rw[aA,dz,eU,List.filterMap_append];rw[zE5 (λm=>(ys++[y])[m]?) (λm=>ys[m]?) (List.range ys.length) λm hm=>a8<|aY.mp hm,ih ys hl];congr 1;simp
 have key:∀l:jt,(List.range l.length).filterMap (λ(m:Nat)=>l[((l.length:Int)-1+(m:Int)*(-1)).toNat]?)=l.reverse:=by
  intro l;have h1:=zE5 (λ(m:Nat)=>l[((l.length:Int)-1+(m:Int)*(-1)).toNat]?) (λm=>l.reverse[m]?) (List.range l.length) λm hm=>by show l[((l.length:Int)-1+(m:Int)*(-1)).toNat]?=l.reverse[m]?;rw[oV<|aY.mp hm];congr 1;lia
  rw[h1];have:=h2 _ l.reverse rfl;rwa[cj]at this
 have:=key xs.toList;rw[bw]at this;have e:(λ(m:Nat)=>xs.toList[((xs.size:Int)-1+(m:Int)*(-1)).toNat]?)=λ(m:Nat)=>xs[((xs.size:Int)-1+(m:Int)*(-1)).toNat]?:=by funext m;exact c7
 rw[e]at this;rw[this]
end HT
namespace L2.EV
open PySem PySem.W PySem.Spec PyProof.Rows
variable {α:Type}
variable {K:gS}{ds:ck}
def U0(K:gS)(C:ck->ck->Prop):Sp:=λvs H Q _=>∃F ds xs,W8 F H/\W3 K F vs ds/\C ds xs/\∀p us F' H',Ext ⟨F,H⟩ F' H'->H p=none->H' p=some (.lst us)->F' p=none->W3 K F' us xs->Q (.ref p) H'
def YK(X:Cx)(x:Str)(C:ck->ck->Prop):Prop:=∃(f:Addr)(fd:FuncData)(ps:fV)(k:Nat),mw X.prog X.w X.K X.mg X.base uw k f fd ps (U0 X.K C)/\XN k X.A/\X.mg x=some (.ref f)/\keepIn X.K (.ref f)=true/\Binds X.K fd ps []
def Aq(X:Cx)(U:dP)(Y8:List Stmt)(xs:ck):Prop:=∀(B:B0)(F H:Hp)(Y:St)(E:pY),Ok X.K B F H Y U->(∀p us F' H',Ext B F' H'->B.H p=none->H' p=some (.lst us)->F' p=none->W3 X.K F' us xs->E.rt (.ref p) H')->wSs X Y8 E Y H
section
variable {X:Cx}{ds:ck}{st:Stmt}{rest:List Stmt}
def JA(t:At X N sc){C:ck->ck->Prop}(h:YK X x C)(ha:K5 X U (e::es) ds)(hC:C ds xs)(hg:Oa sc x:=by rfl)(Zk:D2 x:=by rfl):Xe X U (.Call (.Name x p) (e::es) [] pos) xs:=by obtain⟨f,fd,ps,k,F,hr,hm,hk,hb⟩:=h;have pz:rC uw X E0:=ER;refine .of (vc F hr (hJ t hg) hm hk hb .nil pz xi Zk (ha.1.1 _ _)<|PlA.any ha.1.2) λB F' H Y Q k' q=>ha.2 B F' H Y _ k' λvs F1 H1 x1 r1=>?_;exact⟨F1,ds,xs,x1.sub,by rw[dq];exact r1,hC,λp us F2 H2 x2 h0 hp hf r2=>q p us F2 H2 (x1.t x2) (x1.sh.free h0) hp hf r2⟩
def vx(h1:XX X U st (.nx ρ'))(h2:Aq X ρ' rest xs):Aq X U (st::rest) xs:=λB F H Y E k q=>(.mk λon s I=>qT G4 lX on s Y H E I (h1 B F H Y _ k λF1 H1 σ1 k1 s1=>h2 B F1 H1 σ1 E k1 q))
def Su{P:Program}(YO:P.given.tree=none){w:World}{K:gS}{mg:AE}{base:Heap}{x qual:Str}{st:Stmt}{f:Addr}{fd:FuncData}{N ps:fV}{k:Nat}{C:ck->ck->Prop}(F:Fun K x qual st f fd)(S:bx N ps (aK st))(len:∀ds xs,C ds xs->ds.length=ps.length)(body:∀X,DefX P w K mg base k N (aK st) X->∀ds xs,C ds xs->Aq X (Lg N ds) (ft st) xs):mw P w K mg base uw (k+1) f fd ps (U0 K C):=by
 refine F.ok S (λvs H Q E h=>?_) λXR A outer s H vs Q E hr h=>?_;obtain⟨F',ds,d,sub,r,hC,q⟩:=h;rw[r.length];exact len ds d hC;obtain⟨F',ds,d,sub,r,hC,q⟩:=h;refine⟨_,lX,?_⟩;have hx:DefX P w K mg base k N (aK st) (A6 uw P w K mg base N qual (aK st) f XR A outer s H E).YX:=⟨⟨rfl,rfl,rfl,S.nd,rfl,hr.units,hr.ZT,YO,⟨_,_,rfl,S.gen,S.co,rfl,rfl⟩⟩,rfl,rfl,rfl,rfl,rfl,hr,⟨λ_=>rfl⟩,rfl,rfl⟩;have hk:Ok K ⟨F',H⟩ F' H (start N vs) (Lg N ds):=by unfold start;rw[r.length];exact vg sub r _
 exact(body _ hx ds d hC) ⟨F',H⟩ F' H _ _ hk λp us F2 H2 x2 h0 hp hf r2=>q p us F2 H2 x2 h0 hp hf r2
def DefX.zBW{ps:fV}{x:Str}{C:ck->ck->Prop}(h:DefX P w K mg base k N sc X)(F:mw P w K mg base uw j f fd ps (U0 K C))(hj:j<=k)(hm:mg x=some (.ref f))(hk:keepIn K (.ref f)=true)(hb:Binds K fd ps []):YK X x C:=by obtain⟨h0,rfl,rfl,rfl,rfl,rfl,hr,_⟩:=h;exact⟨f,fd,ps,j,F,hr.mono hj,hm,hk,hb⟩
end
def Uz(F:Hp)(p:Addr):Hp:=λa=>if a=p then none else F a
def Hx{p a:Addr}(h:a≠p):Uz F p a=F a:=by unfold Uz;rw[af h]
def Ny:Uz F p p=none:=by unfold Uz;rw[ag rfl]
def Ext.zBN{H:Hp}{p:Addr}(x1:Ext ⟨F,H⟩ F1 H1)(hf:F1 p=none)(x2:Ext ⟨fN F1 p<|.lst us,H1⟩ F2 H2):Ext ⟨F,H⟩ (Uz F2 p) H2 where
 sub:=λa o q=>by by_cases h:a=p;subst h;rw[Ny]at q;cases q;rw[Hx h]at q;exact x2.sub a o q
 sh:=x1.sh.trans x2.sh
 sf:=λa o q=>by
  have q1:F1 a=some o:=x1.sf a o q;have h:a≠p:=λz=>by subst z;rw[hf]at q1;cases q1
  rw[Hx h];exact x2.sf a o<|by show fN F1 p (.lst us) a=some o;rw[bq h];exact q1
 nw:=λa q=>by
  have h:a≠p:=λz=>by subst z;exact q Ny
  rw[Hx h]at q;rcases x2.nw a q with z |z;have z':fN F1 p (.lst us) a≠none:=z;rw[bq h]at z';exact x1.nw a z';exact .inr<|x1.sh.free z
end L2.EV
namespace L2
open PySem PySem.W PySem.Spec PyProof.Rows
variable {α:Type}
variable {K:gS}{ds:ck}
end L2
namespace L2.EV
open PySem PySem.W PySem.Spec PyProof.Rows
variable {α:Type}
variable {K:gS}{ds:ck}
section
variable {e:DictEntry}
def Hw{s:Shared}{Q:Option Value->Shared->Prop}(hit:s.heap.IsKeyIter it d i n ep)(hd:s.heap.get? d=some o)(ho:o.data=.dict es ep)(hn:es.size=n)(he:es[i]?=some e)(hQ:∀h',h'.IsKeyIter it d (i+1) n ep->Heap.SameBut it s.heap h'->Q (some e.key) {s with heap:=h'}):wpAny (model prog w) A (pyNext<|.ref it) Q E s:=by have hT:s.TypeIs (.ref it) "dict_keyiterator":=hit.typeIs;obtain⟨⟨cl,di,da,sl⟩,h1,h2,h3⟩:=id hit;replace h2:cl=_:=h2;replace h3:da=_:=h3;subst h2 h3;unfold pyNext;refine ae<|lD<|dZ hT lc<|de lc hT Vi ?_<|UV _;show wpAny _ _ (Builtin.Dict_items.slot0 "__next__" {pos:=[Value.ref it]}>>=_) _ _ s;refine ae<|dU (by rfl) ?_;show wpAny _ _ (((typeNameOfWhole (.ref it)>>=_)>>=_)>>=_) _ _ s;refine ae<|ae<|ae<|kA hT ?_;refine ap<|ae (K7 h1 rfl ?_);show wpAny _ _ (Builtin.Dict_items.addrOf (.ref d)>>=_) _ _ s;refine ae<|dU (by rfl) ?_;refine ae<|Tc hd ho ?_;dsimp only;rw[af<|by rw[hn];simp];refine ae<|dU (by rfl) ?_;refine ae<|V7 hd ho ?_;rw[af<|by simp];refine ap ?_;dsimp only;rw[af<|by lia,bQ,he];dsimp only;show wpAny _ _ ((typeNameOfWhole (.ref it)>>=_)>>=_) _ _ s;refine ae<|ae<|kA hT ?_;refine ap<|ae (wpAny_isOneOf_keyiter hT ?_);refine ae<|gT h1 rfl (show 1<4 by decide) ?_;show wpAny _ _ _ _ _ {s with heap:=s.heap.update it (Obj.mapFields λx_1=>x_1.setIfInBounds 1<|rawInt<|i+1)};have e2:=fH (Obj.mapFields λx_1=>x_1.setIfInBounds 1<|rawInt<|i+1) h1 (by rfl);have hT':Shared.TypeIs {s with heap:=s.heap.update it (Obj.mapFields λx_1=>x_1.setIfInBounds 1<|rawInt<|i+1)} (.ref it) "dict_keyiterator":=⟨_,e2,rfl⟩;refine ae<|fI ?_;show wpAny _ _ (Builtin.Dict_items.isOneOf (.ref it) ["dict_keyiterator","dict_reversekeyiterator"]>>=_) _ _ _;refine ae<|wpAny_isOneOf_keyiter hT' ?_;rw[ag<|by decide];refine ap<|ap ⟨_,rfl,?_⟩;refine ap<|hQ _ ⟨_,e2,rfl,rfl⟩ ⟨Heap.size_update _ _ _,λb hb=>kD _ _<|gy hb⟩
def KM{A:Around}{s:Shared}{Q:Option Value->Shared->Prop}(hh:A.handled=none)(hit:s.heap.IsKeyIter it d i n ep)(hd:s.heap.get? d=some o)(ho:o.data=.dict es ep)(hn:es.size=n)(he:es[i]?=none)(hQ:∀h',Heap.ExtBut it s.heap h'->Q none {s with heap:=h'}):wpAny (model prog w) A (pyNext<|.ref it) Q E s:=by have hT:s.TypeIs (.ref it) "dict_keyiterator":=hit.typeIs;let⟨⟨cl,di,da,sl⟩,h1,h2,h3⟩:=id hit;replace h2:cl=_:=h2;replace h3:da=_:=h3;subst h2 h3;unfold pyNext;refine ae<|lD<|dZ hT lc<|de lc hT Vi ?_<|UV _;show wpAny _ _ (Builtin.Dict_items.slot0 "__next__" {pos:=[Value.ref it]}>>=_) _ _ s;refine ae<|dU (by rfl) ?_;show wpAny _ _ (((typeNameOfWhole (.ref it)>>=_)>>=_)>>=_) _ _ s;refine ae<|ae<|ae<|kA hT ?_;refine ap<|ae (K7 h1 rfl ?_);show wpAny _ _ (Builtin.Dict_items.addrOf (.ref d)>>=_) _ _ s;refine ae<|dU (by rfl) ?_;refine ae<|Tc hd ho ?_;dsimp only;rw[af<|by rw[hn];simp];refine ae<|dU (by rfl) ?_;refine ae<|V7 hd ho ?_;rw[af<|by simp];refine ap ?_;dsimp only;rw[af<|by lia,bQ,he];dsimp only;show wpAny _ _ ((typeNameOfWhole (.ref it)>>=_)>>=_) _ _ s;refine ae<|ae<|kA hT ?_;refine ap<|ae (gT h1 rfl (show 0<4 by decide) ?_);show wpAny _ _ _ _ _ {s with heap:=s.heap.update it (Obj.mapFields λx_1=>x_1.setIfInBounds 0 Value.none)};refine ae ?_;simp only[newExc,newTuple];refine ae<|dC ?_ (by size_fits);refine ae<|dU (by first |rfl |(simp only[firstArgMember];rfl)) ?_;refine dC ?_ (by size_fits);simp only[raiseNew];refine ae<|Oh ?_;rw[show A.in1.handled=none from hh];dsimp only;refine Va<|ae (nc ⟨_,a7 _ rfl,rfl⟩ K8 ?_);refine ap (hQ _ λb o hb q=>?_);exact aE _<|aE _<|by rw[kD _ _<|gy hb];exact q
def Uy{Q:uA}{s:Shared}{d:Addr}(hs:(d==sysModules)=false)(hd:s.heap.get? d=some o)(hx:o.ExactDict)(ho:o.data=.dict es ep)(hQ:Q (.ref s.heap.objs.size) {s with heap:=s.heap.push {cls:=.type "dict_keyiterator",data:=.fields #[.ref d,rawInt 0,rawInt es.size,rawInt ep]}}):wpAny (model prog w) A (pyIter<|.ref d) Q E s:=by have hT:s.TypeIs (.ref d) "dict":=⟨o,hd,hx.1⟩;refine AG hT F.slot_dict_iter<|de F.slot_dict_iter hT F.entry_dict_iter ?_<|F.args_dict_iter_1 _;unfold Builtin.«dict.__iter__»;show wpAny _ _ ((Builtin.Dict.notOrdered "__iter__" {pos:=[Value.ref d]}>>=_)>>=_) _ _ s;refine ae<|ae ?_;unfold Builtin.Dict.notOrdered;rw[ag<|by decide];refine ae<|wpAny_typeOf hT ?_;rw[af<|by decide];refine ap<|ae (dU (by rfl) ?_);refine ap<|ae (dU (by rfl) ?_);unfold Builtin.Dict.showsAll;rw[af<|by rw[hs];decide];refine ae<|ap ?_;refine ae<|Tc hd ho ?_;refine ae<|V7 hd ho ?_;refine ae ?_;unfold newFields;refine dC ?_ (by size_fits);refine ap ⟨_,rfl,"dict_keyiterator",_,⟨_,a7 _ rfl,rfl⟩,by rfl,hQ⟩
end
abbrev jj:=List<|az×Int
abbrev Cf:=List<|az×Addr×Int
def jz(kvs:jj)(k:az):Option Int:=(kvs.find? λp=>decide<|p.1=k).map (·.2)
def mN(kvs:jj)(k:az)(n:Int):jj:=if(jz kvs k).isSome=true then kvs.map (λp=>if p.1=k then(p.1,n)else p)else kvs++[(k,n)]
def Gn(xs:Cf)(k:az)(b:Addr)(n:Int):Cf:=if(xs.find? λp=>decide<|p.1=k).isSome=true then xs.map (λp=>if p.1=k then(p.1,p.2.1,n)else p)else xs++[(k,b,n)]
abbrev kv(x:az×Addr×Int):az×Int:=(x.1,x.2.2)
def Ch(xs:Cf)(k:az):jz (xs.map kv) k=(xs.find? λp=>decide<|p.1=k).map (·.2.2):=by
 unfold jz;induction xs with
 |nil=>rfl
 |cons x xs ih=>
  rw[bY,mG,mG];by_cases h:x.1=k;simp[kv,h];have h':decide ((kv x).1=k)=false:=by simp[kv,h]
  have h2:decide (x.1=k)=false:=by simp[h]
  rw[h'];exact ih
def OT(xs:Cf)(k:az)(b:Addr)(n:Int):mN (xs.map kv) k n=(Gn xs k b n).map kv:=by unfold mN Gn;rw[Ch,Option.isSome_map];by_cases h:(xs.find? λp=>decide<|p.1=k).isSome=true;rw[ag h,ag h,bp,bp];refine cA λx _=>?_;show(if x.1=k then(x.1,n)else kv x)=kv (if x.1=k then(x.1,x.2.1,n)else x);by_cases e:x.1=k;rw[ag e,ag e];rw[af e,af e];rw[af h,af h,bj];rfl
abbrev Xs:Cf->List (az×Addr×Value)->Prop:=Paired λ(x:az×Addr×Int)(y:az×Addr×Value)=>y.1=x.1/\y.2.1=x.2.1/\RelV (.int x.2.2) y.2.2
def Xs.at{ys:List (az×Addr×Value)}(r:Xs xs ys)(k:az):((xs.find? λp=>decide<|p.1=k)=none->atKey ys k=none)/\∀x,(xs.find? λp=>decide<|p.1=k)=some x->∃v,atKey ys k=some (x.2.1,v)/\RelV (.int x.2.2) v:=by
 induction r with
 |nil=>exact⟨λ_=>rfl,λx h=>by cases h⟩
 |@cons p q ps qs h t ih=>
  obtain⟨h1,h2,h3⟩:=h;rw[mG];by_cases e:p.1=k;have e':decide (p.1=k)=true:=by simp[e]
  rw[e'];refine⟨λz=>(by cases z),λx z=>?_⟩;cases z;refine⟨q.2.2,?_,h3⟩;have e2:decide (q.1=k)=true:=by simp[h1,e]
  show(List.find? _<|q::qs).map _=_;rw[mG,e2];show some q.2=some (p.2.1,q.2.2);rw[<-h2];have e':decide (p.1=k)=false:=by simp[e]
  have e2:decide (q.1=k)=false:=by simp[h1,e]
  rw[e'];have e3:atKey (q::qs) k=atKey qs k:=by show(List.find? _<|q::qs).map _=_;rw[mG,e2];rfl
  rw[e3];exact ih
def Xs.isSome{ys:List (az×Addr×Value)}(r:Xs xs ys)(k:az):(atKey ys k).isSome=(xs.find? λp=>decide<|p.1=k).isSome:=by obtain⟨h1,h2⟩:=r.at k;cases q:(xs.find? λp=>decide<|p.1=k)with|none=>rw[h1 q];rfl|some x=>let⟨v,e,_⟩:=h2 x q;rw[e];rfl
theorem Xs.snoc{p:az×Addr×Int}{q:az×Addr×Value}(h:q.1=p.1/\q.2.1=p.2.1/\RelV (.int p.2.2) q.2.2):∀{xs:Cf}{ys:List (az×Addr×Value)},Xs xs ys->Xs (xs++[p]) (ys++[q])|_,_,.nil=>.cons h .nil|_,_,.cons a t=>.cons a<|Xs.snoc h t
def Xs.put{ys:List (az×Addr×Value)}(r:Xs xs ys)(k:az)(b:Addr)(ru:RelV (.int n) u):Xs (Gn xs k b n) (storedH ys k b u):=by
 unfold Gn storedH;rw[r.isSome k];by_cases h:(xs.find? λp=>decide<|p.1=k).isSome=true;rw[ag h,ag h];clear h;induction r with|nil=>exact .nil|@cons p q ps qs h t ih=>let⟨h1,h2,h3⟩:=h;rw[bY,bY];refine .cons ?_ ih;unfold putAt;by_cases e:p.1=k;rw[ag e,ag<|h1.trans e];exact⟨h1,h2,ru⟩;rw[af e,af λz=>e<|h1.symm.trans z];exact⟨h1,h2,h3⟩
 rw[af h,af h];exact Xs.snoc ⟨rfl,rfl,ru⟩ r
def Xs.len{ys:List (az×Addr×Value)}(r:Xs xs ys):xs.length=ys.length:=by induction r with|nil=>rfl|cons h t ih=>rw[bB,bB,ih]
def Ir(xs:Cf)(k:az)(b:Addr)(n:Int):(Gn xs k b n).length<=xs.length+1:=by unfold Gn;split;rw[ab];lia;rw[aA,dz];lia
def XS.put{k:az}{b:Addr}(r:XS F kvs xs)(hb:F b=some (.tup<|k.map V.int))(n:Int):XS F (mN kvs k n) (Gn xs k b n):=by refine⟨?_,λx hx=>?_⟩;rw[r.1];exact OT xs k b n;unfold Gn at hx;split at hx;obtain⟨y,hy,rfl⟩:=aZ.mp hx;by_cases e:y.1=k;rw[ag e];exact r.2 y hy;rw[af e];exact r.2 y hy;rcases cQ.mp hx with h |h;exact r.2 x h;rw[aH]at h;subst h;exact hb
def Yk(H:Hp)(a:Addr)(xs:Cf):Prop:=H a=some (.ext<|ib a xs)\/∃ob,H a=some (.Ym ob<|.ext<|ib a xs)
def Yk.mono(s:W8 H H')(h:Yk H a xs):Yk H' a xs:=h.elim (λz=>.inl<|s _ _ z) λ⟨ob,z⟩=>.inr ⟨ob,s _ _ z⟩
theorem items_int:∀{ks:az}{us:jt},Vals (ks.map V.int) us->ItemsAre (intKind P w) ks us
 |[],_,r=>by rw[Wa]at r;cases r;exact .nil
 |k::ks,_,r=>by rw[bY]at r;cases r with|cons h t=>obtain⟨tk,rfl⟩:=(show∃t,_=Value.int k t from h);exact .cons (by show Value.isInt k (.int k tk)=true;simp[Value.isInt])<|items_int t
section
variable {X:Cx}
def Ea{k:az}{b:Addr}(I:Inv X on Y H s)(e:H b=some (.tup<|k.map V.int)):(tupleKind<|intKind X.prog X.w).is s.heap k b:=by obtain⟨_,its,r,o,h1,h2,n,h3⟩:=(show Xj X.prog X.w H s.heap b (.tup<|k.map V.int)from I.Xg b _ e);exact⟨o,its.toArray,n,h1,h2,h3,by simpa using items_int r⟩
def Yk.is(I:Inv X on Y H s)(h:Yk H a xs):ib a xs s.heap:=by rcases h with e |⟨ob,e⟩;exact(show Xj X.prog X.w H s.heap a (.ext<|ib a xs)from I.Xg a _ e).1;exact(show Xj X.prog X.w H s.heap a (.Ym ob<|.ext<|ib a xs)from I.Xg a _ e).2.1
def xW(I:Inv X on Y H s)(h:ib a xs s.heap)(hk:∀x∈xs,H x.2.1=some (.tup<|x.1.map V.int)):xs.length<=sizeLine/\(a==sysModules)=false/\∃ys,Xs xs ys/\s.heap.DictOfH (tupleKind<|intKind X.prog X.w) a ys:=by
 obtain⟨z,hd,o,ho,hx,es,ep,ys,h1,h2,r,nd⟩:=h;refine⟨z,hd,ys,r,o,es,ep,ho,hx,h1,h2 _ _,λy hy=>?_,nd⟩;have all:∀{l:Cf}{m:List (az×Addr×Value)},Xs l m->(∀x∈l,H x.2.1=some (.tup<|x.1.map V.int))->∀y∈m,(tupleKind<|intKind X.prog X.w).is s.heap y.1 y.2.1:=by intro l m q;induction q with|nil=>intro _ y hy;exact nomatch hy|@cons p q ps qs hq t ih=>intro hl y hy;rcases aF.mp hy with e |hy;subst e;rw[hq.1,hq.2.1];exact Ea I<|hl p (by simp);exact ih (λx hx=>hl x<|by simp[hx]) y hy
 exact all r hk y hy
def Hz{h:Heap}{a:Addr}{xs:Cf}{ys:List (az×Addr×Value)}(z:xs.length<=sizeLine)(hd:(a==sysModules)=false)(r:Xs xs ys)(dd:h.DictOfH (tupleKind<|intKind P w) a ys):ib a xs h:=by obtain⟨o,es,ep,h1,h2,h3,h4,h5,h6⟩:=dd;exact⟨z,hd,o,h1,h2,es,ep,ys,h3,λ_ _=>h4,r,h6⟩
def Dl(z:ib a xs h):Xj P w H' h a (.ext<|ib a xs):=by refine⟨z,let⟨_,_,o,h1,_⟩:=z;⟨o,h1⟩,λh1 h2 y k=>?_⟩;obtain⟨q1,q2,o,h3,h4⟩:=y;exact⟨q1,q2,o,k o h3,h4⟩
def Inv.zHX{a:Addr}(I:Inv X on Y H s)(h:H a=some (.ext<|ib a xs)):∃ob,Inv X on Y (fN H a<|.Ym ob<|.ext<|ib a xs) s:=by have z:=Yk.is I<|.inl h;obtain⟨q1,q2,ob,h1,h2⟩:=id z;refine⟨ob,?_⟩;exact I.write (by rw[h];exact True.intro) (.inl rfl) (λb u _ q=>q) ⟨ob,h1⟩ ⟨h1,Dl z⟩
end
section
variable {U:List Sl}
def Q6(Y:St)(U:List Sl)(p:Addr):Prop:=∀(i:Nat)xs,U[i]?=some (.X6 xs)->Y[i]?≠some (some<|.ref p)
def Ok.zDY{p:Addr}(k:Ok K B F H Y U)(hp:H p=none):Q6 Y U p:=λi xs e q=>by obtain⟨a,vs,h1,h2,_⟩:=k.Xm.Y3 i xs e;rw[h1]at q;cases q;rw[hp]at h2;cases h2
def qL{s:Sl}(j:Nat)(t:Sl)(h:(U.set i s)[j]?=some t)(hn:t≠s):i≠j/\U[j]?=some t:=by
 by_cases e:i=j;subst e;rw[c6]at h;cases z:U[i]? with
 |none=>rw[z]at h;cases h
 |some w=>rw[z]at h;exact absurd (bC h).symm hn
 rw[aB e]at h;exact⟨e,h⟩
def Ok.zCL{p:Addr}(k:Ok K B F H Y U)(i:Nat)(hp:H p=some (.ext<|ib p es))(hf:F p=none)(hb:B.H p=none)(hn:Q6 Y U p)(r:XS F kvs es):Ok K B F H (Y.set i<|some<|.ref p) (U.set i<|.X6 kvs):=by
 refine⟨k.toExt,by rw[bE,bE,k.len],λj d q=>?_,λj xs q=>?_,λj l xs ys a q1 q2 q3 q4=>?_,λj ks q=>?_,λj l xs ys a q1 q2 q3 q4=>?_⟩;obtain⟨n,q'⟩:=qL j _ q λz=>nomatch z;rw[aB n];exact k.vals j d q';obtain⟨n,q'⟩:=qL j _ q λz=>nomatch z;rw[aB n];exact k.XJ j xs q';obtain⟨n1,q1⟩:=qL j _ q1 λz=>nomatch z;obtain⟨n2,q2⟩:=qL l _ q2 λz=>nomatch z;rw[aB n1]at q3;rw[aB n2]at q4;exact k.dist j l xs ys a q1 q2 q3 q4;by_cases h:i=j;subst h;rw[c6]at q;cases z:U[i]? with
 |none=>rw[z]at q;cases q
 |some w=>
  rw[z]at q;cases q;have hi:i<Y.length:=by rw[k.len];exact(aG.mp z).1
  exact⟨p,es,by rw[a9 hi],hp,hf,hb,r⟩
 rw[aB h]at q ⊢;exact k.Xm.Y3 j ks q;by_cases n1:i=j;by_cases n2:i=l;exact n1.symm.trans n2;subst n1;rw[aB n2]at q2 q4;have hi:i<Y.length:=by have:=(aG.mp q3).1;rw[bE]at this;exact this
 rw[a9 hi]at q3;cases q3;exact absurd q4<|hn l ys q2;by_cases n2:i=l;subst n2;rw[aB n1]at q1 q3;have hi:i<Y.length:=by have:=(aG.mp q4).1;rw[bE]at this;exact this
 rw[a9 hi]at q4;cases q4;exact absurd q3<|hn j xs q1;rw[aB n1]at q1 q3;rw[aB n2]at q2 q4;exact k.Xm.Y6 j l xs ys a q1 q2 q3 q4
def Ok.zC9{i:Nat}(k:Ok K B F H Y U)(hi:U[i]?=some (.X6 kvs))(hs:Y[i]?=some (some<|.ref p))(r:XS F zAS es'):Ok K B F (fN H p<|.ext<|ib p es') Y (U.set i<|.X6 zAS):=by
 obtain⟨a,us,h1,h2,h3,h4,h5⟩:=k.Xm.Y3 i kvs hi;rw[h1]at hs;cases hs;have XQ:i<U.length:=(aG.mp hi).1;refine⟨⟨λb u q=>?_,λb u q=>?_,k.sf,k.nw⟩,by rw[bE,k.len],λj d q=>?_,λj xs q=>?_,λj l xs ys a q1 q2=>?_,λj ks q=>?_,λj l xs ys a q1 q2 q3 q4=>?_⟩;have ne:b≠p:=λz=>by subst z;rw[h3]at q;cases q
 rw[bq ne];exact k.sub b u q;have ne:b≠p:=λz=>by subst z;rw[h4]at q;cases q
 rw[bq ne];exact k.sh b u q;exact k.vals j d (qL j _ q λz=>nomatch z).2;obtain⟨b,vs,g1,g2,g3⟩:=k.XJ j xs (qL j _ q λz=>nomatch z).2;have ne:b≠p:=λz=>by subst z;rw[h2]at g2;cases g2
 exact⟨b,vs,g1,by rw[bq ne];exact g2,g3⟩;exact k.dist j l xs ys a (qL j _ q1 λz=>nomatch z).2 (qL l _ q2 λz=>nomatch z).2;by_cases h:i=j;subst h;rw[a9 XQ]at q;cases q;exact⟨p,es',h1,bI,h3,h4,r⟩;rw[aB h]at q;obtain⟨b,YM,g1,g2,g3,g4,g5⟩:=k.Xm.Y3 j ks q;have ne:b≠p:=λz=>by subst z;exact h<|k.Xm.Y6 i j kvs ks b hi q h1 g1
 exact⟨b,YM,g1,by rw[bq ne];exact g2,g3,g4,g5⟩;have own:∀(m:Nat)ys,(U.set i<|.X6 zAS)[m]?=some (.X6 ys)->∃zs,U[m]?=some (.X6 zs):=λm ys q=>by by_cases h:i=m;subst h;exact⟨kvs,hi⟩;rw[aB h]at q;exact⟨ys,q⟩
 obtain⟨y1,z1⟩:=own j xs q1;obtain⟨y2,z2⟩:=own l ys q2;exact k.Xm.Y6 j l _ _ a z1 z2 q3 q4
end
def Qo(X:Cx)(U:dP)(e:Expr)(kvs:jj):Prop:=∀(B:B0)(F H:Hp)(Y:St)(Q:VK),Ok X.K B F H Y U->(∀a xs F' H',Ext ⟨F,H⟩ F' H'->Yk H' a xs->XS F' kvs xs->Q (.ref a) H')->wE X e Y H Q
def Xp(X:Cx)(U:dP)(e:Expr)(kvs:jj):Prop:=∀(B:B0)(F H:Hp)(Y:St)(Q:VK),Ok X.K B F H Y U->(∀p xs F' H',Ext ⟨F,H⟩ F' H'->H p=none->H' p=some (.ext<|ib p xs)->F' p=none->XS F' kvs xs->Q (.ref p) H')->wE X e Y H Q
section
variable {X:Cx}
def W0.dr(h:W0 X U e (.Xm kvs)):Qo X U e kvs:=λB F H Y Q k q=>h B F H Y Q k λv F' H' x' r=>by cases r with|Xm hf r=>exact q _ _ F' H' x' (.inr ⟨_,x'.sub _ _ hf⟩) r
def SB{U:dP}(t:At X N sc)(i:Nat)(hr:U[i]?=some (.X6 kvs))(hN:N[i]?=some x:=by rfl)(hv:kC sc x=true:=by rfl)(hx:gv x=true:=by rfl):Qo X U (.Name x pos) kvs:=λB F H Y Q k q=>.mk λon s I=>by obtain⟨a,es,h1,h2,h3,h4,h5⟩:=k.Xm.Y3 i kvs hr;exact G3 t hN hv hx on s Y H Q I ⟨_,h1,q a es F H (.refl k.sub) (.inl h2) h5⟩
def Ext.zBV{H:Hp}{q:Addr}(x:Ext ⟨F,H⟩ F' H')(h0:H q=none)(hf:F' q=none):Ext ⟨F,H⟩ (fN F' q<|.Ym ob<|.ext<|ib q xs) (fN H' q<|.Ym ob<|.ext<|ib q xs):=⟨D7 x.sub,λb u z=>by
  have ne:b≠q:=λw=>by subst w;have z':H b=some u:=z;rw[h0]at z';cases z'
  rw[bq ne];exact x.sh b u z,x.sf.trans<|bG hf,λb z=>by
  by_cases h:b=q;subst h;exact .inr h0;rw[bq h]at z;exact x.nw b z⟩
def Xp.Xk(h:Xp X U e kvs):W0 X U e (.Xm kvs):=λB F H Y Q k q=>.mk λon s I=>fD (h B F H Y (λv H'=>∃p xs F',v=.ref p/\Ext ⟨F,H⟩ F' H'/\H p=none/\H' p=some (.ext<|ib p xs)/\F' p=none/\XS F' kvs xs) k (λp xs F' H' x' h0 h1 h2 r=>⟨p,xs,F',rfl,x',h0,h1,h2,r⟩) on s I) λu s1 ⟨v,H',I1,rv,p,xs,F',ev,x',h0,h1,h2,r⟩=>by subst ev;obtain⟨ob,I2⟩:=Inv.zHX I1 h1;exact⟨_,_,I2,rv,q _ _ _ (x'.zBV h0 h2)<|.Xm bI<|r.mono<|bG h2⟩
def Np:Xp X U (.Dict [] [] pos) []:=λB F H Y Q k q=>.mk λon s I=>by have hn:=I.Xg.fresh<|ao s.heap.objs.size;have hb:sysModules<s.heap.objs.size:=Aw (by decide) (show mainGlobals<s.heap.objs.size from(I.mod.glob.keeps I.bk).lt);have z:ib s.heap.objs.size [] (s.heap.push {cls:=.type "dict",data:=.dict #[]}):=Hz (P:=X.prog) (w:=X.w) (aJ _) (fU.mpr<|gy<|dh hb) .nil<|Heap.DictOfH.new s.heap;refine wpAny_Dict_empty ⟨.ref s.heap.objs.size,_,I.laid (λ_ _ q=>aE _ q) (ao _)<|Dl z,rfl,?_⟩;exact q _ [] F _ ⟨k.sub.trans<|bG hn,bG hn,.refl _,λ_ z=>.inl z⟩ hn bI (k.sub.free hn) ⟨rfl,λ_ z=>nomatch z⟩
def LZ{pos:Pos}[Zr X](t:At X N sc)(i:Nat)(h:Xp X U e kvs)(hi:N[i]?=some x:=by rfl)(hx:qB sc x=true:=by rfl)(hs:swapsWith e (some<|.Name x pos') pos.line X.env=pure false:=by rfl):XX X U (.Assign [.Name x pos'] e pos) (.nx<|U.set i<|.X6 kvs):=.of (yV t.nd (t.ix hi) (t.loc hx) cF hs M6) λB F H Y E k q=>h B F H Y _ k λp vs F' H' x' h0 hp hf r=>q F' H' _ ((k.ext x').zCL i hp hf (k.sh.free h0) (by exact k.zDY h0) r) x'.sf
def Nd{k:az}(t:At X N sc)(ha:Qo X U a kvs)(hb:W0 X U b (.tup<|k.map D.int))(h:jz kvs k=some n)(hs:ya b:=by intro _ _;rfl):W0 X U (.Subscript a b pos) (.int n):=λB F H Y Q kk q=>.mk λon s I=>by
 refine Subscript_ (fD (ha B F H Y (λv H1=>∃p xs F1,v=.ref p/\Ext ⟨F,H⟩ F1 H1/\Yk H1 p xs/\XS F1 kvs xs) kk (λp xs F1 H1 x1 r1 r2=>⟨p,xs,F1,rfl,x1,r1,r2⟩) on s I) λu s1 ⟨v,H1,I1,rv,p,xs,F1,ev,x1,r1,r2⟩=>?_);subst ev;cases(show u=Value.ref p from rv);refine fD (hb B F1 H1 Y (λv H2=>∃F2,Ext ⟨F1,H1⟩ F2 H2/\Rep X.K F2 v (.tup<|k.map D.int)) (kk.ext x1) (λv F2 H2 x2 r3=>⟨F2,x2,r3⟩) on s1 I1) λiv s2 ⟨w,H2,I2,Yi,F2,x2,r3⟩=>?_;cases r3 with
 |@tup bt vs ds hf rl=>
  have ev:=W3.XZ rl;subst ev;cases(show iv=Value.ref bt from Yi);have hd:=Yk.is I2<|r1.mono x2.sh;obtain⟨z,hsm,ys,rel,dd⟩:=xW I2 hd λx hx=>x2.sub _ _<|(r2.mono x2.sf).2 x hx;have hv:jz (xs.map kv) k=some n:=by rw[<-h,r2.1]
  rw[Ch]at hv;obtain⟨x0,hx0,e0⟩:=V9.mp hv;obtain⟨w0,hw0,rw0⟩:=(rel.at k).2 x0 hx0;refine Oi (x:=w0) dd.typeIs PySem.F.slot_dict_getitem.lookup ?_<|hs _ _;refine wpAny_getItem_heap (Qr<|by have:=t.un;lia) (Ea I2<|x2.sub _ _ hf) dd hw0 ⟨rfl,.int n,H2,I2.tok _,?_,q _ F2 H2 (x1.t x2)<|.int n⟩;rw[<-e0];exact rw0
end
section
variable {X:Cx}
def NB{a b:Addr}{k:az}{h':Heap}{t':Nat}(I:Inv X on Y H s)(h:H a=some (.ext<|ib a xs))(hk:∀x∈xs,H x.2.1=some (.tup<|x.1.map V.int))(hb:H b=some (.tup<|k.map V.int))(hz:xs.length<sizeLine)(ru:RelV (.int n) u){ys:List (az×Addr×Value)}(rel:Xs xs ys)(hs:(a==sysModules)=false)(dd:h'.DictOfH (tupleKind<|intKind X.prog X.w) a (storedH ys k b u))(sb:Heap.SameBut a s.heap h'):Inv X on Y (fN H a<|.ext<|ib a<|Gn xs k b n) {s with heap:=h',toks:=t'}:=by have z:ib a (Gn xs k b n) h':=Hz (by have:=Ir xs k b n;lia) hs (rel.put k b ru) dd;exact I.write (by rw[h];exact True.intro) (.inl rfl) (λc q hc w=>(sb.2 c hc).trans w) (let⟨_,_,o,h1,_⟩:=z;⟨o,h1⟩)<|Dl z
def TY:K2:=λo i v H Q=>∃a xs k b n,o=.ref a/\i=.ref b/\v=.int n/\H a=some (.ext<|ib a xs)/\(∀x∈xs,H x.2.1=some (.tup<|x.1.map V.int))/\H b=some (.tup<|k.map V.int)/\xs.length<sizeLine/\Q (fN H a<|.ext<|ib a<|Gn xs k b n)
def Rq(hu:X.A.units+1<cLine):Qm X TY:=by intro on s Y H o i v ov iv u Q I ro ri rv h;obtain⟨a,xs,k,b,n,rfl,rfl,rfl,h1,h2,h3,h4,q⟩:=h;cases(show ov=Value.ref a from ro);cases(show iv=Value.ref b from ri);obtain⟨z,hs,ys,rel,dd⟩:=xW I (Yk.is I<|.inl h1) h2;refine wpAny_setItem_heap (hsz:=by rw[<-rel.len];exact z) (Qr hu) (Ea I h3) dd λh' dd' sb=>⟨_,NB I h1 h2 h3 h4 rv rel hs dd' sb,q⟩
def Bt(xs:Cf)(is:Cf):Cf:=is.foldl (λacc x=>Gn acc x.1 x.2.1 x.2.2) xs
def NA{a:Addr}(hu:X.A.units<cLine){Q:PUnit->Shared->Prop}:∀(is:Cf)(ws:List (Value×Value))(xs:Cf)(H:Hp)(s:Shared),Inv X on Y H s->H a=some (.ext<|ib a xs)->(∀x∈xs,H x.2.1=some (.tup<|x.1.map V.int))->(∀x∈is,H x.2.1=some (.tup<|x.1.map V.int))->
  Paired (λ(x:az×Addr×Int)(w:Value×Value)=>w.1=.ref x.2.1/\RelV (.int x.2.2) w.2) is ws->xs.length+is.length<sizeLine->(∀s',Inv X on Y (fN H a<|.ext<|ib a<|Bt xs is) s'->Q PUnit.unit s')->
  gA X (forIn ws PUnit.unit λx _=>do
   dictSet a x.fst x.snd
   pure (ForInStep.yield PUnit.unit)) Q E s:=by
 intro is
 induction is with
 |nil=>
  intro ws xs H s I h1 h2 h3 r hz q
  cases r
  have e:fN H a (.ext<|ib a xs)=H:=funext λb=>by
   by_cases hb:b=a
   subst hb;rw[bI,h1]
   rw[bq hb]
  have q':=q s
  rw[show Bt xs []=xs from rfl,e]at q'
  exact ap<|q' I
 |cons x is ih=>
  intro ws xs H s I h1 h2 h3 r hz q
  cases r with
  |@cons _ w _ ws hw t=>
  obtain⟨k,b,n⟩:=x
  obtain⟨w1,w2⟩:=w
  obtain⟨e1,rn⟩:=hw
  cases(show w1=Value.ref b from e1)
  rw[bB]at hz
  rw[Qt]
  obtain⟨z,hs,ys,rel,dd⟩:=xW I (Yk.is I<|.inl h1) h2
  have hb:H b=some (.tup<|k.map V.int):=h3 (k,b,n)<|by simp
  refine ae<|ae<|wpAny_dictSet_heap (by exact hu) (Ea I hb) dd (λh' dd' sb=>?_)<|by rw[<-rel.len];exact z
  refine ap ?_
  have tn:∀c ks,H c=some (.tup ks)->fN H a (.ext<|ib a<|Gn xs k b n) c=some (.tup ks):=λc ks hc=>by
   rw[bq λz=>by subst z;rw[h1]at hc;cases hc];exact hc
  refine ih ws (Gn xs k b n) _ _ (NB (t':=s.toks+(tupleKind<|intKind X.prog X.w).draws k) I h1 h2 hb (by lia) rn rel hs dd' sb) bI (λy hy=>?_) (λy hy=>tn _ _<|h3 y<|by simp[hy]) t (by have:=Ir xs k b n;lia) λs' I3=>q s' ?_
  unfold Gn at hy
  split at hy
  obtain⟨y',hy',rfl⟩:=aZ.mp hy
  by_cases e:y'.1=k
  rw[ag e];exact tn _ _<|h2 y' hy'
  rw[af e];exact tn _ _<|h2 y' hy'
  rcases cQ.mp hy with h |h
  exact tn _ _<|h2 y h
  rw[aH]at h;subst h;exact tn _ _ hb
  rw[Il]at I3;exact I3
end
section
variable {X:Cx}
def JB{U:dP}{k:az}(t:At X N sc)(i:Nat)(hr:U[i]?=some (.X6 kvs))(hb:W0 X U b (.tup<|k.map D.int))(hz:kvs.length<sizeLine)(hN:N[i]?=some y:=by rfl)(hv:kC sc y=true:=by rfl)(hx:gv y=true:=by rfl)(ha:∀v,assign (.Subscript (.Name y p) b pos) X.env v=(do
   let ov <-holding [v] (eval (.Name y p) X.env)
   let iv <-holding [v,ov] (eval b X.env)
   standAt pos
   holding [v,ov,iv] (setItem ov iv v)
   release [v,ov,iv] []):=by intro _;rfl):Yr X U (.Subscript (.Name y p) b pos) (.int n) (U.set i (.X6 (mN kvs k n))):=
 .of (G9 cF cF (Rq<|by have:=t.un;lia) ha) λB F H Y v Q kk r q=>by
  cases r
  refine .mk λon s I=>?_
  let⟨l,es,h1,h2,h3,h4,h5⟩:=kk.Xm.Y3 i kvs hr
  refine G3 t hN hv hx on s Y H _ I ⟨_,h1,?_⟩
  refine hb B F H Y _ kk λw F' H' x' Yi=>?_
  cases Yi with
  |@tup bt vs ds hf rl=>
   have ev:=W3.XZ rl
   subst ev
   have h5':=h5.mono x'.sf
   refine⟨l,es,k,bt,n,rfl,rfl,rfl,x'.sh _ _ h2,λx hx=>x'.sub _ _<|h5'.2 x hx,x'.sub _ _ hf,?_,?_⟩
   have e:=bo List.length h5.1
   rw[ab]at e;lia
   exact q F' _ _ ((kk.ext x').zC9 hr h1<|h5'.put hf n) x'.sf
def Ju{n0:Int}{apos:Pos}{k:az}(t:At X N sc)(ho:Qo X U a kvs)(ha:K5 X U [e,f] [.tup<|k.map D.int,.int n0])(YS:attributeBase a "get" X.env (eval a X.env)=eval a X.env:=by rfl)(ZG:((backTo Xd<|starEach [e,f] X.env).all (λx=>!x.1)&&(backToKw Xd<|keywordEach [] X.env).all (λx=>x.1.isSome)&&decide (([e,f]:vO).length+([]:List Keyword).length+(if([]:List Keyword).isEmpty then 0 else 1)<30))=true:=by rfl)(Xx:(apos.endLine==Xd.line)=true:=by rfl)(hs:Ii e [f] X.env:=by rfl)(ZF:(backTo Xd<|starEach [f] X.env).any (·.1)=false:=by rfl):W0 X U (.Call (.Attribute a "get" apos) [e,f] [] Xd) (.int<|(jz kvs k).getD n0):=λB F H Y Q kk q=>.mk λon s I=>by
 refine wpAny_Call_method_late YS ZG Xx rfl (fD (ho B F H Y (λv H1=>∃p xs F1,v=.ref p/\Ext ⟨F,H⟩ F1 H1/\Yk H1 p xs/\XS F1 kvs xs) kk (λp xs F1 H1 x1 r1 r2=>⟨p,xs,F1,rfl,x1,r1,r2⟩) on s I) λu s1 ⟨v,H1,I1,rv,p,xs,F1,ev,x1,r1,r2⟩=>?_);subst ev;cases(show u=Value.ref p from rv);obtain⟨_,_,ob,g1,g2,_⟩:=id<|Yk.is I1 r1;refine⟨"dict","dict.get",PySem.F.plainAttrs_dict,Wt,PySem.F.type_dict_get,⟨ob,g1,g2.1⟩,λc ec=>(by cases ec;exact⟨ob,g1,g2.2.1⟩),?_⟩;have hA:=ha.2 B F1 H1 Y (λvs H2=>∃F2,Ext ⟨F1,H1⟩ F2 H2/\W3 X.K F2 vs [.tup<|k.map D.int,.int n0]) (kk.ext x1) (λvs F2 H2 x2 r3=>⟨F2,x2,r3⟩) Xd on s1 I1;rw[hs]at hA ⊢;refine Gk (by show(false||(backTo Xd<|starEach [f] X.env).any (·.1))=false;rw[ZF]<;>rfl)<|Calls.evalArgs_plain ?_;refine fD hA λus s2 ⟨vs,H2,I2,rvs,F2,x2,r3⟩=>?_;cases r3 with|cons ra rb=>
 cases rb with|cons rn zGN=>
 cases zGN;cases rn;cases ra with|@tup bt ks ds hf rl=>
 have ev:=W3.XZ rl;subst ev;obtain⟨u1,u2,rfl,ru1,ru2⟩:=D6 rvs;cases(show u1=Value.ref bt from ru1);obtain⟨z,hsm,ys,rel,dd⟩:=xW I2 (Yk.is I2<|r1.mono x2.sh) λx hx=>x2.sub _ _<|(r2.mono x2.sf).2 x hx;refine call_meetsIn Wt dd.typeIs PySem.F.entry_dict_get (PySem.F.args_dict_get_3 _ _ _) (meetsH_dict_get_default (tupleKind<|intKind X.prog X.w) p bt hsm u2) ⟨Qr<|by have:=t.un;lia,k,ys,Ea I2<|x2.sub _ _ hf,dd,?_⟩;refine⟨.int<|(jz kvs k).getD n0,H2,I2.tok _,?_,q _ F2 H2 (x1.t x2)<|.int _⟩;rw[r2.1,Ch];obtain⟨hN,hS⟩:=rel.at k;cases qq:(xs.find? λp=>decide<|p.1=k)with|none=>rw[hN qq];exact ru2|some x0=>let⟨w0,hw0,rw0⟩:=hS x0 qq;rw[hw0];exact rw0
def Wp(l:Addr)(ob:Obj)(xs:Cf):It:=⟨λi H=>H l=some (.Ym ob<|.ext<|ib l xs)/\i<xs.length,λi H v H'=>H'=H/\∃x,xs[i]?=some x/\v=.ref x.2.1,λi H=>H l=some (.Ym ob<|.ext<|ib l xs)/\xs.length<=i⟩
def Q0{es:Array DictEntry}{ys:List (az×Addr×Value)}(h:∀(P:Program)(w:World),es.toList=ys.map (entryOfKey<|tupleKind<|intKind P w))(P:Program)(w:World)(r:Xs xs ys):es.size=xs.length/\∀(i:Nat)x,xs[i]?=some x->∃e,es[i]?=some e/\e.key=.ref x.2.1:=by
 have h':=h P w;have hl:es.size=ys.length:=by rw[<-bw,h',ab]
 refine⟨by rw[hl,r.len],λi x hx=>?_⟩;have g:∀{xs:Cf}{ys:List (az×Addr×Value)},Xs xs ys->∀(i:Nat)x,xs[i]?=some x->∃y,ys[i]?=some y/\y.2.1=x.2.1:=by intro xs ys r;induction r with|nil=>intro i x hx;simp at hx|@cons p q ps qs hq t ih=>intro i x hx;cases i with|zero=>simp at hx;subst hx;exact⟨q,by simp,hq.2.1⟩|succ i=>simpa using ih i x hx
 obtain⟨y,hy,ey⟩:=g r i x hx;refine⟨entryOfKey (tupleKind<|intKind P w) y,?_,?_⟩;rw[<-c7,h',aw,hy];rfl;show Value.ref y.2.1=_;rw[ey]
def Lx{P:Program}{w:World}(l it:Addr)(ob:Obj)(xs:Cf){ys:List (az×Addr×Value)}(h1:ob.data=.dict es ep)(h2:∀(P:Program)(w:World),es.toList=ys.map (entryOfKey<|tupleKind<|intKind P w))(r:Xs xs ys):xA P w K tg (Wp l ob xs) [it] it (λi h=>h.IsKeyIter it l i es.size ep) where
 mem:=by simp
 obj:=λi h st b hb=>by
  cases by simpa using hb
  obtain⟨o,e,c,d⟩:=st;exact⟨o,e,λv z=>by rw[d]at z;cases z⟩
 keep:=λi h h' st k=>st.at λo e=>k it (by simp) o e
 item:=by intro X hP hw hK hc i on s Y H E I hf st hg;subst hP hw hK;obtain⟨hq,hx⟩:=hg;obtain⟨f0,f1,f2,f3,f4,f5⟩:=hf it (by simp);have ho:=(show Xj X.prog X.w H s.heap l (.Ym ob<|.ext<|ib l xs)from I.Xg l _ hq).1;obtain⟨hl,hg⟩:=Q0 h2 X.prog X.w r;obtain⟨e,he,ek⟩:=hg i xs[i]<|am hx;refine Hw st ho h1 rfl he λh' Y5 sb=>?_;have I1:Inv X on Y H {s with heap:=h'}:=I.turned (λb o hb e=>(sb.2 b hb).trans e) f0 f1 f3 f4 f5;exact⟨e.key,rfl,letGo_keyiter Y5 ⟨.ref xs[i].2.1,H,I1,ek,⟨rfl,_,am hx,rfl⟩,Y5,λb hb=>(hf b hb).1⟩⟩
 done:=by intro X hP hw hK hc i on s Y H E I hf st hg;subst hP hw hK;obtain⟨hq,hx⟩:=hg;obtain⟨f0,f1,f2,f3,f4,f5⟩:=hf it (by simp);obtain⟨hl,hg⟩:=Q0 h2 X.prog X.w r;exact KM (I.ok.hd hc) st ((show Xj X.prog X.w H s.heap l (.Ym ob<|.ext<|ib l xs)from I.Xg l _ hq).1) h1 rfl (AD<|by lia) λh' eb=>⟨rfl,I.turned (λb o hb e=>eb b o hb e) f0 f1 f3 f4 f5⟩
 self:=λ_ _ _ _ _ st h=>wpAny_pyIter_keyiter st h
def VM(tl:TE):TI:=λY H R=>tl Y H λx H1=>∃l ob xs,x=.ref l/\H1 l=some (.Ym ob<|.ext<|ib l xs)/\R (Wp l ob xs) H1
def RH(hl:PE X l tl):PI X tg l (VM tl):=by
 refineλon s Y H R I h=>fD (hl on s Y H _ I h) λv s1 ⟨x,H1,I1,r1,q1⟩=>?_;obtain⟨a,ob,xs,e,hq,q⟩:=q1;subst e;cases(show v=Value.ref a from r1);obtain⟨ho,hz⟩:=(show Xj X.prog X.w H1 s1.heap a (.Ym ob<|.ext<|ib a xs)from I1.Xg a _ hq);obtain⟨_,hs,o,g1,g2,es,ep,ys,g3,g4,g5,_⟩:=hz.1;have eo:o=ob:=by rw[ho]at g1;exact(bC g1).symm
 subst eo;refine Uy hs ho g2 g3<|⟨s1.heap.objs.size,[s1.heap.objs.size],_,_,H1,rfl,I1.kept λb o e=>aE _ e,Lx a _ _ xs g3 g4 g5,⟨_,a7 _ rfl,rfl,rfl⟩,λb hb=>?_,q⟩;cases by simpa using hb
 exact I1.Z2 (ao _)<|I1.Xg.fresh<|ao _
abbrev VI(q:az×Int):D:=.tup<|q.1.map D.int
def No(h:W0 X U e (.Xm kvs)):X5 X U tg e (kvs.map VI):=.of (RH cF) λB F H Y R kk q=>h B F H Y _ kk λv F' H' x' r=>by cases r with|@Xm l ob ks xs hf r=>refine⟨l,ob,xs,rfl,x'.sub _ _ hf,q _ F' H' x' λi F2 H2 s1 s2=>⟨λd hd=>?_,λhl=>⟨s2 _ _<|s1 _ _ hf,by rw[r.1,ab,ab]at hl;exact hl⟩⟩⟩;rw[r.1,bp,aw]at hd;obtain⟨x,hx,e⟩:=V9.mp hd;subst e;refine⟨⟨s2 _ _<|s1 _ _ hf,(aG.mp hx).1⟩,λv H3 hy=>?_⟩;obtain⟨rfl,x',Yw,rfl⟩:=hy;rw[hx]at Yw;cases Yw;exact⟨F2,.refl s2,.tup (s1 _ _<|r.2 x<|bV hx)<|W3.ints x.1⟩
end
section
variable {X:Cx}{st:Stmt}{rest:List Stmt}{ds:ck}
inductive XF(X:Cx)(U:dP):List (Option Expr)->vO->jj->Prop where
 |nil:XF X U [] [] []
 |cons {a b:Expr} {as:List (Option Expr)} {bs:vO} {k:az} {n:Int} {r:jj}:W0 X U a (.tup<|k.map D.int)->W0 X U b (.int n)->XF X U as bs r->XF X U (some a::as) (b::bs) ((k,n)::r)
def XF.len{bs:vO}(h:XF X U as bs kvs):as.all (·.isSome)=true/\as.length=bs.length/\as.length=kvs.length:=by induction h with|nil=>exact⟨rfl,rfl,rfl⟩|cons h1 h2 h3 ih=>exact⟨by rw[List.all_cons,ih.1];rfl,bo Nat.succ ih.2.1,bo Nat.succ ih.2.2⟩
def CB(kvs more:jj):jj:=more.foldl (λacc q=>mN acc q.1 q.2) kvs
def XF.walk{bs:vO}(h:XF X U as bs kvs):∀{B:B0}{F H:Hp}{Y:St},Ok X.K B F H Y U->∀{on:jn}{s:Shared},Inv X on Y H s->gA X (evalPairs<|pairTrees as bs X.env pos) (λws s'=>∃F' H' xs,Inv X on Y H' s'/\Ext ⟨F,H⟩ F' H'/\XS F' kvs xs/\Paired (λ(x:az×Addr×Int)(w:Value×Value)=>w.1=.ref x.2.1/\RelV (.int x.2.2) w.2) xs ws) X.xe s:=by
 induction h with
 |nil=>intro B F H Y kk on s I;exact pairTrees_nil_walk ⟨F,H,[],I,.refl kk.sub,⟨rfl,λ_ z=>nomatch z⟩,.nil⟩
 |@cons a b as bs k n r h1 h2 h3 ih=>
  intro B F H Y kk on s I;refine pairTrees_cons_walk (fD (h1 B F H Y (λv H1=>∃F1,Ext ⟨F,H⟩ F1 H1/\Rep X.K F1 v (.tup<|k.map D.int)) kk (λv F1 H1 x1 r1=>⟨F1,x1,r1⟩) on s I) λu s1 ⟨v,H1,I1,rv,F1,x1,r1⟩=>?_);have k1:=kk.ext x1;refine fD (h2 B F1 H1 Y (λv H2=>∃F2,Ext ⟨F1,H1⟩ F2 H2/\Rep X.K F2 v (.int n)) k1 (λv F2 H2 x2 r2=>⟨F2,x2,r2⟩) on s1 I1) λu2 s2 ⟨v2,H2,I2,rv2,F2,x2,r2⟩=>?_;refine fD (ih (k1.ext x2) I2) λws s3 ⟨F3,H3,xs,I3,x3,r3,pr⟩=>?_;cases r2;cases r1 with|@tup bt vs ds hf rl=>
  have ev:=W3.XZ rl;subst ev;cases(show u=Value.ref bt from rv);refine⟨F3,H3,(k,bt,n)::xs,I3,(x1.t x2).t x3,⟨by rw[r3.1];rfl,λx hx=>?_⟩,.cons ⟨rfl,rv2⟩ pr⟩;rcases aF.mp hx with e |hx;subst e;exact x3.sf _ _<|x2.sf _ _ hf;exact r3.2 x hx
theorem Iu:∀(is:Cf)(kvs:jj)(xs:Cf),XS F kvs xs->(∀x∈is,F x.2.1=some (.tup<|x.1.map V.int))->XS F (CB kvs<|is.map kv) (Bt xs is)|[],kvs,xs,r,_=>r|(k,b,n)::is,kvs,xs,r,h=>by show XS F (CB (mN kvs k n)<|is.map kv) (Bt (Gn xs k b n) is);exact Iu is _ _ (r.put (h (k,b,n)<|by simp) n) λx hx=>h x<|by simp[hx]
def sR{bs:vO}(t:At X N sc)(h:XF X U as bs kvs)(h0:as≠[]:=by exactλz=>nomatch z)(h15:as.length<=15:=by decide):Xp X U (.Dict as bs pos) (CB [] kvs):=λB F H Y Q kk q=>.mk λon s I=>by
 obtain⟨l1,l2,l3⟩:=h.len;rw[arm_eval_Dict,zip_pairTrees as bs X.env pos l1 l2];have Zv:(pairTrees as bs X.env pos).length=as.length:=pairTrees_length as bs X.env pos l1 l2;rw[dictDisplay_pairs _ (λz=>h0<|au<|by rw[<-Zv,z];rfl)<|by lia];refine ae<|fk<|ae ?_;unfold subDict;refine ae<|Vc ?_;have hn:=I.Xg.fresh<|ao s.heap.objs.size;have hb:sysModules<s.heap.objs.size:=Aw (by decide) (show mainGlobals<s.heap.objs.size from(I.mod.glob.keeps I.bk).lt);have z:ib s.heap.objs.size [] (s.heap.push {cls:=.type "dict",data:=.dict #[]}):=Hz (P:=X.prog) (w:=X.w) (aJ _) (fU.mpr<|gy<|dh hb) .nil<|Heap.DictOfH.new s.heap;have x1:Ext ⟨F,H⟩ F (fN H s.heap.objs.size<|.ext<|ib s.heap.objs.size []):=⟨kk.sub.trans<|bG hn,bG hn,.refl _,λ_ z=>.inl z⟩;refine ae<|fI ?_;rw[ag<|by lia];refine ae (fD (h.walk (kk.ext x1)<|I.laid (t':=s.toks) (λ_ _ q=>aE _ q) (ao _)<|Dl z) λws s2 ⟨F2,H2,is,I2,x2,r2,pr⟩=>?_);refine fI<|ae ?_;have hf2:F2 s.heap.objs.size=none:=x2.kf (kk.sub.free hn) bI;have h2:H2 s.heap.objs.size=some (.ext<|ib s.heap.objs.size []):=x2.sh _ _ bI;have hlen:is.length=kvs.length:=by rw[r2.1,ab]
 refine NA (by have:=t.un;lia) is ws [] H2 s2 I2 h2 (λ_ z=>nomatch z) (λx hx=>x2.sub _ _<|r2.2 x hx) pr (by rw[gQ,fR];lia) λs3 I3=>?_;refine ap<|ap<|ap ⟨.ref s.heap.objs.size,_,I3,rfl,?_⟩;have x12:=x1.t x2;have R:XS F2 (CB [] kvs) (Bt [] is):=by have:=Iu is [] [] ⟨rfl,λ_ z=>nomatch z⟩ r2.2;rwa[<-r2.1]at this
 refine q _ (Bt [] is) F2 _ ⟨λc u w=>?_,λc u w=>?_,x12.sf,x12.nw⟩ hn bI hf2 R;have ne:c≠s.heap.objs.size:=λz=>by subst z;rw[hf2]at w;cases w
 rw[bq ne];exact x12.sub c u w;have ne:c≠s.heap.objs.size:=λz=>by subst z;have w':H s.heap.objs.size=some u:=w;rw[hn]at w';cases w'
 rw[bq ne];exact x12.sh c u w
def Xp.eq{zAS:jj}(h:Xp X U e kvs)(q:kvs=zAS):Xp X U e zAS:=q▸h
def OD(K:gS)(C:ck->jj->Prop):Sp:=λvs H Q _=>∃F ds kvs,W8 F H/\W3 K F vs ds/\C ds kvs/\∀p us F' H',Ext ⟨F,H⟩ F' H'->H p=none->H' p=some (.ext<|ib p us)->F' p=none->XS F' kvs us->Q (.ref p) H'
def XE(X:Cx)(x:Str)(C:ck->jj->Prop):Prop:=∃(f:Addr)(fd:FuncData)(ps:fV)(k:Nat),mw X.prog X.w X.K X.mg X.base uw k f fd ps (OD X.K C)/\XN k X.A/\X.mg x=some (.ref f)/\keepIn X.K (.ref f)=true/\Binds X.K fd ps []
def vH(X:Cx)(U:dP)(Y8:List Stmt)(kvs:jj):Prop:=∀(B:B0)(F H:Hp)(Y:St)(E:pY),Ok X.K B F H Y U->(∀p us F' H',Ext B F' H'->B.H p=none->H' p=some (.ext<|ib p us)->F' p=none->XS F' kvs us->E.rt (.ref p) H')->wSs X Y8 E Y H
def iK(t:At X N sc){C:ck->jj->Prop}(h:XE X x C)(ha:K5 X U (e::es) ds)(hC:C ds kvs)(hg:Oa sc x:=by rfl)(Zk:D2 x:=by rfl):Xp X U (.Call (.Name x p) (e::es) [] pos) kvs:=by obtain⟨f,fd,ps,k,F,hr,hm,hk,hb⟩:=h;have pz:rC uw X E0:=ER;refineλB F' H Y Q k' q=>.mk λon s I=>?_;refine vc F hr (hJ t hg) hm hk hb .nil pz xi Zk (ha.1.1 _ _) (PlA.any ha.1.2) on s Y H Q I (ha.2 B F' H Y _ k' λvs F1 H1 x1 r1=>?_);exact⟨F1,ds,kvs,x1.sub,by rw[dq];exact r1,hC,λp us F2 H2 x2 h0 hp hf r2=>q p us F2 H2 (x1.t x2) (x1.sh.free h0) hp hf r2⟩
def oP(h1:XX X U st (.nx ρ'))(h2:vH X ρ' rest kvs):vH X U (st::rest) kvs:=λB F H Y E k q=>(.mk λon s I=>qT G4 lX on s Y H E I (h1 B F H Y _ k λF1 H1 σ1 k1 s1=>h2 B F1 H1 σ1 E k1 q))
def Jy{U:dP}(t:At X N sc)(i:Nat)(hr:U[i]?=some (.X6 kvs))(hN:N[i]?=some x:=by rfl)(hv:kC sc x=true:=by rfl)(hx:gv x=true:=by rfl):vH X U [.Return (some<|.Name x pos') pos] kvs:=λB F H Y E k q=>by let⟨a,us,h1,h2,h3,h4,h5⟩:=k.Xm.Y3 i kvs hr;exact .mk λon s I=>u4 (CC<|G3 t hN hv hx) on s Y H E I ⟨_,h1,q a us F H k.toExt h4 h2 h3 h5⟩
def Ft(h:Xp X U e kvs):vH X U [.Return (some e) pos] kvs:=λB F H Y E k q=>.mk λon s I=>u4 (CC cF) on s Y H E I (h B F H Y _ k λp us F' H' x' h0 h1 h2 r=>q p us F' H' (k.toExt.trans x') (k.sh.free h0) h1 h2 r)
def Sw{P:Program}(YO:P.given.tree=none){w:World}{K:gS}{mg:AE}{base:Heap}{x qual:Str}{st:Stmt}{f:Addr}{fd:FuncData}{N ps:fV}{k:Nat}{C:ck->jj->Prop}(F:Fun K x qual st f fd)(S:bx N ps (aK st))(len:∀ds xs,C ds xs->ds.length=ps.length)(body:∀X,DefX P w K mg base k N (aK st) X->∀ds xs,C ds xs->vH X (Lg N ds) (ft st) xs):mw P w K mg base uw (k+1) f fd ps (OD K C):=by
 refine F.ok S (λvs H Q E h=>?_) λXR A outer s H vs Q E hr h=>?_;obtain⟨F',ds,d,sub,r,hC,q⟩:=h;rw[r.length];exact len ds d hC;obtain⟨F',ds,d,sub,r,hC,q⟩:=h;refine⟨_,lX,?_⟩;have hx:DefX P w K mg base k N (aK st) (A6 uw P w K mg base N qual (aK st) f XR A outer s H E).YX:=⟨⟨rfl,rfl,rfl,S.nd,rfl,hr.units,hr.ZT,YO,⟨_,_,rfl,S.gen,S.co,rfl,rfl⟩⟩,rfl,rfl,rfl,rfl,rfl,hr,⟨λ_=>rfl⟩,rfl,rfl⟩;have hk:Ok K ⟨F',H⟩ F' H (start N vs) (Lg N ds):=by unfold start;rw[r.length];exact vg sub r _
 exact(body _ hx ds d hC) ⟨F',H⟩ F' H _ _ hk λp us F2 H2 x2 h0 hp hf r2=>q p us F2 H2 x2 h0 hp hf r2
def DefX.YI{ps:fV}{x:Str}{C:ck->jj->Prop}(h:DefX P w K mg base k N sc X)(F:mw P w K mg base uw j f fd ps (OD K C))(hj:j<=k)(hm:mg x=some (.ref f))(hk:keepIn K (.ref f)=true)(hb:Binds K fd ps []):XE X x C:=by obtain⟨h0,rfl,rfl,rfl,rfl,rfl,hr,_⟩:=h;exact⟨f,fd,ps,j,F,hr.mono hj,hm,hk,hb⟩
end
section
variable {X:Cx}
def Fv{ow:Str->Bool}(cx:XY X X' N' Z5 ow)(i:Nat)(hi:N'[i]?=some x:=by rfl)(hx:qB Z5 x=true:=by rfl)(hw:ow x=true:=by rfl):XO X' U (.Name x pos) d (U.set i<|.val d):=.of (va cx.at'.nd (cx.at'.ix hi) (cx.at'.loc hx)<|.inl<|cx.fn' x hw) λB F H Y v Q k r q=>q _ (k.Xq i r) λp h=>h.Xq i _ d
end
def S9(K:gS)(a:Addr)(ns:az):Prop:=∃(o:Obj)(its:Array Value)(n:Nat),K.lookup a=some o/\o.cls=.type "tuple"/\o.data=.seq its n/\its.size<=sizeLine/\Vals (ns.map V.int) its.toList
section
variable {X:Cx}
def C7(ha:W0 X U a (.int i))(hb:W0 X U b (.int j))(h0:N5 i j):W0 X U (.BinOp a .LShift b pos) (.int<|i*2 ^ j.toNat):=nN RS ha hb h0 rfl
def Nn{x:Str}(t:At X N sc)(hm:X.mg x=some (.ref l))(hk:S9 X.K l ns)(hg:Oa sc x:=by rfl)(Zk:D2 x:=by rfl):X5 X U tg (.Name x pos) (ns.map D.int):=.of (MC<|O4 (v:=.ref l) (hJ t hg) hm rfl Zk) λB F H Y R k q=>⟨l,rfl,⟨_,.inr hk⟩,q _ F H (.refl k.sub)<|MZ (λH2 s2=>.inr hk)<|W3.ints ns⟩
def Dt(t:At X N sc):kG X (.builtin "divmod") (λxs H Q=>∃i j,xs=[.int i,.int j]/\j≠0/\∀p,H p=none->Q (.ref p) (fN H p<|.tup [.int<|i.fdiv j,.int<|i.fmod j])):=by intro on s Y H xs us Q I r h;obtain⟨i,j,rfl,h1,q⟩:=h;obtain⟨u,w',rfl,⟨t1,rfl⟩,⟨t2,rfl⟩⟩:=D6 r;refine divmod_int h1 ?_<|.inr<|t.zAL I;have hn:H s.heap.objs.size=none:=I.Xg.fresh<|ao _;refine⟨.ref s.heap.objs.size,_,?_,rfl,q _ hn⟩;refine I.laid (λb o e=>aE _ e) (ao _) ⟨by simp only[bB,gQ];rw[fR];decide,[.int (i.fdiv j) s.toks,.int (i.fmod j)<|s.toks+1],.cons ⟨_,rfl⟩<|.cons ⟨_,rfl⟩ .nil,?_⟩;exact⟨_,a7 s.heap rfl,rfl,0,rfl⟩
end
section
variable {X:Cx}
def Eu{xs:ck}{n:Int}{apos Xd:Pos}{U:dP}{pos:Pos}[Zr X](t:At X N sc)(i:Nat)(bl:tN X sc x (.builtin "divmod"))(hr:U[i]?=some (.own<|xs++[.int n]))(hb:W0 X (U.set i<|.own xs) b (.int m))(h0:m≠0)(hg:Yr X (U.set i<|.own xs) tg (.tup [.int<|n.fdiv m,.int<|n.fmod m]) ρ')(hN:N[i]?=some y:=by rfl)(hv:kC sc y=true:=by rfl)(hx:gv y=true:=by rfl)(Xx:(apos.endLine==Xd.line)=true:=by rfl)(hpb:Pl b:=by intro _ _;rfl)(hs:swapsWithSole [tg] (.Call (.Name x p1) [.Call (.Attribute (.Name y p) "pop" apos) [] [] Xd,b] [] zE4) pos.line X.env=pure false:=by rfl)(hw:swappedStores [tg] (.Call (.Name x p1) [.Call (.Attribute (.Name y p) "pop" apos) [] [] Xd,b] [] zE4) (dE sc)=pure none:=by rfl)(h1:(assignEach [tg] X.env).map (·.2)=[assign tg X.env]:=by rfl):XX X U (.Assign [tg] (.Call (.Name x p1) [.Call (.Attribute (.Name y p) "pop" apos) [] [] Xd,b] [] zE4) pos) (.nx ρ'):=.of (G7 (iY (Dt t) (hJ t bl.g) bl.m bl.v (dH (yY gI Bl Bk He cF rfl Xx) (dH cF gh<|hpb _ _) rfl) bl.n bl.d rfl<|by show List.any _ _=_;rw[hpb];rfl) MD hs ((sw (show X.env.scope=(dE sc).scope from t.eS)).trans hw) h1) λB F H Y E k q=>nP t hr hN hv hx k λl vs g1 g2 g3=>⟨.inl ⟨rfl,_,XU.of g2⟩,by
   obtain⟨w,hw',Yi⟩:=g3.get (i:=xs.length) (d:=.int n) (by simp);have hll:vs.length-1=xs.length:=by rw[g3.length];simp
   cases Yi;refine⟨l,vs,_,rfl,rfl,g2,by rw[hll];exact hw',?_⟩;have k2:=k.Ye (vs:=vs) (ds:=xs) hr g1 (by have:=g3.dropLast;rwa[WT]at this);refine hb B F _ Y _ k2 λv F1 H1 x1 r1=>?_;cases r1;refine⟨n,m,rfl,h0,λp hp=>?_⟩;have x2:=x1.grow (o:=.tup [.int (n.fdiv m),.int (n.fmod m)]) hp;exact hg B _ _ Y (.ref p) _ (k2.ext x2) (.tup bI (.cons (.int _) (.cons (.int _) .nil))) λF2 H2 σ2 k3 s2=>q F2 H2 σ2 k3 (x2.sf.trans s2)⟩
end
def AL(its:jt):slicePick its.toArray none none (some (-1))=its.reverse.toArray:=by
 unfold slicePick;have e1:sliceBounds none none (some (-1)) its.toArray.size=((its.toArray.size:Int)-1,-1,-1):=rfl;rw[e1];have e2:sliceRange ((its.toArray.size:Int)-1) (-1) (-1)=(List.range its.toArray.size).map λ(k:Nat)=>((its.toArray.size:Int)-1+(k:Int)*(-1)).toNat:=by
  have e3:(if(-1:Int)>0 then(if(its.toArray.size:Int)-1< -1 then(-1-((its.toArray.size:Int)-1)+ -1-1) / -1 else 0)else(if(its.toArray.size:Int)-1> -1 then((its.toArray.size:Int)-1- -1- -1-1) / (- -1)else 0)).toNat=its.toArray.size:=by rw[af<|by decide];by_cases h:(its.toArray.size:Int)-1> -1;rw[ag h];have:(- -1:Int)=1:=rfl;rw[this,Int.ediv_one];lia;rw[af h];lia
  show(List.range<|Int.toNat _).map _=_;rw[e3];exact cA λk _=>by congr 1;lia
 rw[e2,List.filterMap_map];have:=HT.zAM its.toArray;rw[<-this];rfl
theorem Jo:∀{us:jt}{ns:az},IntsAre us ns->∀(i:Nat)(v:Value),us[i]?=some v->∃(n:Int)(tk:Tok),ns[i]?=some n/\v=.int n tk
 |_,_,.nil,i,v,h=>by simp at h
 |_,_,.cons n t r,0,v,h=>by
  have:v=.int n t:=by simpa using h.symm
  exact⟨n,t,rfl,this⟩
 |_,_,.cons n t r,i+1,v,h=>Jo r i v<|by simpa using h
theorem W3.ZD:∀{ns:az}{vs:ij},W3 K F vs (ns.map D.int)->vs=ns.map V.int
 |[],_,h=>by cases h;rfl
 |b::bs,_,h=>by cases h with|cons r t=>cases r;rw[bY,W3.ZD t]
section
variable {X:Cx}
def P3(ha:Yj X U a true xs)(hc:W0 X U c (.int (-1))):Xe X U (.Subscript a (.Slice none none (some c) p2) pos) xs.reverse:=λB F H Y Q k q=>.mk λon s I=>by refine Subscript_ (fD (ha B F H Y (λv H1=>∃p vs F1,v=.ref p/\Ext ⟨F,H⟩ F1 H1/\SqB X.K true H1 p vs/\W3 X.K F1 vs xs) k (λp vs F1 H1 x1 s1 r1=>⟨p,vs,F1,rfl,x1,s1,r1⟩) on s I) λv s1 z=>?_);obtain⟨x,H1,I1,r1,p,vs,F1,hx,x1,sq,rp⟩:=z;subst hx;cases r1;refine wpAny_Slice ?_;rw[evalPart_none];refine ap<|ap ?_;rw[evalPart_some];refine fD (hc B F1 H1 Y (λv H2=>∃F2,Ext ⟨F1,H1⟩ F2 H2/\v=.int (-1)) (k.ext x1) (λv F2 H2 x2 r=>by cases r;exact⟨F2,x2,rfl⟩) on s1 I1) λu s2 z=>?_;obtain⟨y,H2,I2,r2,F2,x2,hy⟩:=z;subst hy;obtain⟨tk,rfl⟩:=r2;have I4:Inv X on Y H2 {s2 with heap:=s2.heap.push {cls:=.type "slice",data:=.fields #[.none,.none,.int (-1) tk]}}:=I2.kept (t':=s2.toks) λb ob q=>aE _ q;obtain⟨its,r,ht,hz⟩:=I4.list<|SqB.mono x2.sh sq;have hlen:=r.length;refine tail_any (ops:=[.ref p,.ref s2.heap.objs.size]) ht.isList.typeIs slot_list_getitem.lookup (wpAny_getItem_list_slice ht.isList (Heap.IsSliceOf.new ..) .none .none (.int (-1) tk) (by decide) ?_<|by rw[aT]<;>lia) rfl;rw[AL];have xx:=x1.t x2;have hp:=I4.Xg.fresh<|ao _;refine⟨.ref _,_,I4.laid (t':=s2.toks) (o:=.lst vs.reverse) (λb ob q=>aE _ q) (ao _) ?_,rfl,q _ vs.reverse F2 _ ⟨xx.sub.trans<|bG hp,xx.sh.trans<|bG hp,xx.sf,xx.nw⟩ (xx.sh.free hp) bI (xx.sub.free hp) (rp.mono x2.sf).reverse⟩;exact⟨by rwa[cj],_,0,r.reverse,a7 _ rfl⟩
def KS(hc:X.calm=true):kG X (.builtin "any") (λxs H Q=>∃(l:Addr)(ns:az),xs=[.ref l]/\XU X.K H l (ns.map V.int)/\Q (.bl (ns.any (· !=0))) H):=by
 intro on s Y H xs us Q I r h;obtain⟨l,ns,rfl,sl,q⟩:=h;obtain⟨u,rfl,ru⟩:=oz r;cases(ru);let⟨vs,rv,pl,hz⟩:=I.list sl;have hb:=zp rv;have hl:=pl.isList;have XQ:l<s.heap.objs.size:=by let⟨_,e,_⟩:=hl;exact bc e
 refine call_any_walk<|Ta hl ?_;refine⟨s.heap.objs.size,[s.heap.objs.size,l],[s.heap.objs.size],vs.toArray.size,_,_,λi=>((ns.map (· !=0))[i]?).getD false,rfl,Walks.list (A:=X.A.in1) (I.ok.hd hc) _ l (dh XQ) vs.toArray,⟨⟨_,a7 _ rfl,rfl,rfl⟩,hl.push _⟩,λi v s' Q' E' hP hQ=>?_,λh' tk hk=>?_⟩;obtain⟨b,tk,e,rfl⟩:=Jo hb i v (by simpa using hP);simp only[aw,e,Option.map_some,Option.getD_some]at hQ;first |exact truthy_int hQ |exact PyProof.Rows.truthy_int hQ |exact PySem.Spec.truthy_int hQ |exact PySem.truthy_int hQ
 have e:((List.range vs.toArray.size).any λi=>((ns.map (· !=0))[i]?).getD false)=ns.any (· !=0):=by have h1:=LSm.range_any (ns.map (· !=0));rw[ab]at h1;rw[aT,hb.length,h1,List.any_map];rfl
 rw[e];exact⟨.bl _,H,I.kept<|LSm.kept_iter hk,rfl,q⟩
def Jw{ns:az}(t:At X N sc)(bl:tN X sc x (.builtin "any"))(ha:Yj X U e true (ns.map D.int))(Yq:Pl e:=by intro _ _;rfl):W0 X U (.Call (.Name x p) [e] [] pos) (.bl (ns.any (· !=0))):=.of (iY (KS t.calm) (hJ t bl.g) bl.m bl.v (dH cF gh<|Yq _ _) bl.n bl.d (Yq _ _) rfl) λB F H Y Q k' q=>ha B F H Y _ k' λl vs F' H' x' sl rl=>by have e:=rl.ZD;subst e;exact⟨l,ns,rfl,sl,q _ F' H' x'<|.bl _⟩
end
section
variable {X:Cx}
def OM{pos:Pos}(t:At X N sc)(i j:Nat)(h1:Xe X U a us)(h2:W0 X U b v)(Z1:i≠j)(hi:N[i]?=some x:=by rfl)(hj:N[j]?=some y:=by rfl)(hx:sc.names.lookup x=some .local:=by rfl)(hy:sc.names.lookup y=some .local:=by rfl)(hw:swappedStores [.Tuple [.Name x px,.Name y py] kt pt] (.Tuple [a,b] k2 Z6) (dE sc)=pure (some [x,y]):=by rfl)(hs:swapsWithSole [.Tuple [.Name x px,.Name y py] kt pt] (.Tuple [a,b] k2 Z6) pos.line X.env=pure false:=by rfl)(hs1:Ii a [b] X.env:=by rfl)(hs2:Ii b [] X.env:=by rfl):XX X U (.Assign [.Tuple [.Name x px,.Name y py] kt pt] (.Tuple [a,b] k2 Z6) pos) (.nx<|(U.set i<|.own us).set j<|.val v):=.of (G5 (i:=i) (j:=j) t.calm t.nd (t.ix hi) (t.ix hj) Z1 (by rw[t.eS];exact hx) (by rw[t.eS];exact hy) (dH cF (dH cF gh hs2) hs1) ((sw (show X.env.scope=(dE sc).scope from t.eS)).trans hw) hs) λB F H Y E k q=>h1 B F H Y _ k λp vs F1 H1 x1 h0 hp hf r=>h2 B F1 H1 Y _ (k.ext x1) λv2 F2 H2 x2 r2=>by have hf2:F2 p=none:=x2.kf hf hp;exact⟨.ref p,v2,rfl,q F2 H2 _ (((k.ext<|x1.t x2).Yy i (x2.sh _ _ hp) hf2 (k.sh.free h0) (k.noOwn h0)<|r.mono x2.sf).Xq j r2) (x1.t x2).sf⟩
def OL{pos:Pos}(t:At X N sc)(i j:Nat)(h1:Xe X U a us)(h2:Xe X U b ws)(Z1:i≠j)(hi:N[i]?=some x:=by rfl)(hj:N[j]?=some y:=by rfl)(hx:sc.names.lookup x=some .local:=by rfl)(hy:sc.names.lookup y=some .local:=by rfl)(hw:swappedStores [.Tuple [.Name x px,.Name y py] kt pt] (.Tuple [a,b] k2 Z6) (dE sc)=pure (some [x,y]):=by rfl)(hs:swapsWithSole [.Tuple [.Name x px,.Name y py] kt pt] (.Tuple [a,b] k2 Z6) pos.line X.env=pure false:=by rfl)(hs1:Ii a [b] X.env:=by rfl)(hs2:Ii b [] X.env:=by rfl):XX X U (.Assign [.Tuple [.Name x px,.Name y py] kt pt] (.Tuple [a,b] k2 Z6) pos) (.nx<|(U.set i<|.own us).set j<|.own ws):=.of (G5 (i:=i) (j:=j) t.calm t.nd (t.ix hi) (t.ix hj) Z1 (by rw[t.eS];exact hx) (by rw[t.eS];exact hy) (dH cF (dH cF gh hs2) hs1) ((sw (show X.env.scope=(dE sc).scope from t.eS)).trans hw) hs) λB F H Y E k q=>h1 B F H Y _ k λp vs F1 H1 x1 h0 hp hf r=>h2 B F1 H1 Y _ (k.ext x1) λp2 vs2 F2 H2 x2 g0 gp gf r2=>by
   have hf2:F2 p=none:=x2.kf hf hp;have XB:p≠p2:=λe=>by subst e;rw[hp]at g0;cases g0
   have g00:H p2=none:=x1.sh.free g0;have no2:Xh (Y.set i<|some<|.ref p) (U.set i<|.own us) p2:=λm xs e z=>by by_cases him:i=m;subst him;rw[oh]at z;rw[ag rfl]at z;split at z;cases z;exact XB rfl;cases z;rw[aB him]at e z;exact k.noOwn g00 m xs e z
   exact⟨.ref p,.ref p2,rfl,q F2 H2 _ (((k.ext<|x1.t x2).Yy i (x2.sh _ _ hp) hf2 (k.sh.free h0) (k.noOwn h0)<|r.mono x2.sf).Yy j gp gf (k.sh.free g00) no2 r2) (x1.t x2).sf⟩
end
section
variable {X:Cx}
def Rw{p:PyData}(t:At X N sc){qs:List PyData}(sp:p.canLay0=true)(sd:p.depth<=62)(sq:PyData.canLayAll0 qs=true):oS X (compareOp .NotIn) (λx y H Q=>RdP X H x p/\RdP X H y (.list qs)/\Q (.bl (!qs.any λy=>PyData.eqv y p)) H):=by intro on s Y H x y v u Q I rx ry h;obtain⟨h1,h2,h3⟩:=h;obtain⟨as,r1⟩:=h1 sp H (.refl _) on Y s v I rx;obtain⟨bs,r2⟩:=h2 (by simpa[PyData.canLay0]using sq) H (.refl _) on Y s u I ry;refine SeqAt.notIn_list_reads r2 r1 sq sp ?_ ⟨.bl _,H,I,rfl,h3⟩;have hu:=t.un;have:min (PyData.depthAll qs) p.depth<=p.depth:=Nat.min_le_right _ _;lia
def Nf{r:Bool}(t:At X N sc)(ha:W0 X U a d)(i:Nat)(hr:U[i]?=some (.own xs))(sp:(mB d).canLay0=true)(sd:(mB d).depth<=62)(sq:PyData.canLayAll0 (Xb xs)=true)(he:(!(Xb xs).any λy=>PyData.eqv y<|mB d)=r)(hN:N[i]?=some x:=by rfl)(hv:kC sc x=true:=by rfl)(hx:gv x=true:=by rfl):W5 X U (.Compare a [.NotIn] [.Name x p] pos) r:=.of (xO (Rw t sp sd sq) cF cF rfl) λB F H Y Q k q=>On (W0.p ha) (Yj.p<|dw t i hr hN hv hx) k λx y F' H' x' rx ry=>⟨rx,ry,r,by rw[he],q F' H' x'⟩
end
end L2.EV
namespace HT
open PySem PySem.W PySem.Spec PyProof.Rows
variable {α:Type}
variable {K:gS}{ds:ck}
end HT
namespace L2
open PySem PySem.W PySem.Spec PyProof.Rows
variable {α:Type}
variable {K:gS}{ds:ck}
end L2
namespace L2.EV
open PySem PySem.W PySem.Spec PyProof.Rows
variable {α:Type}
variable {K:gS}{ds:ck}
def YY(B:B0)(p:Addr)(us:ij):B0:=⟨B.F,fN B.H p<|.lst us⟩
def YY.same{B:B0}{p:Addr}(h:B.H p=some (.lst us)):YY B p us=B:=by
 have:fN B.H p (.lst us)=B.H:=funext λb=>by by_cases z:b=p;subst z;rw[bI,h];rw[bq z]
 show(⟨B.F,fN B.H p<|.lst us⟩:B0)=B;rw[this]
def YY.up{ws:ij}:YY (YY B p us) p ws=YY B p ws:=by show(⟨B.F,fN (fN B.H p<|.lst us) p<|.lst ws⟩:B0)=⟨B.F,fN B.H p<|.lst ws⟩;rw[Il]
structure Yz(K:gS)(B:B0)(p:Addr)(F:Hp)(us:ij)(xs:ck):Prop where
 st:B.H p=some (.lst us)
 fr:B.F p=none
 rep:W3 K F us xs
def Yz.free(l:Yz K B p F us xs)(x:Ext B F H):F p=none:=x.kf l.fr l.st
def JS(K:gS)(B:B0)(p:Addr)(F₀:Hp)(E:pY)(xs':ck):Out->Prop|.nx U=>∀F H Y us,Ok K (YY B p us) F H Y U->W3 K F us xs'->W8 F₀ F->E.nx Y H|.rt d=>∀v F H us,Ext (YY B p us) F H->W3 K F us xs'->Rep K F v d->E.rt v H
def ZW(X:Cx)(p:Addr)(U:dP)(Y8:List Stmt)(o:Out)(xs xs':ck):Prop:=∀(B:B0)(F H:Hp)(Y:St)(E:pY)(us:ij),Yz X.K B p F us xs->Ok X.K B F H Y U->JS X.K B p F E xs' o->wSs X Y8 E Y H
def N4(X:Cx)(p:Addr)(U:dP)(st:Stmt)(o:Out)(xs xs':ck):Prop:=∀(B:B0)(F H:Hp)(Y:St)(E:pY)(us:ij),Yz X.K B p F us xs->Ok X.K B F H Y U->JS X.K B p F E xs' o->wS X st E Y H
section
variable {X:Cx}{st:Stmt}{rest:List Stmt}{ps:Pos}
def OZ(q:JS X.K B p F E xs' o)(s:W8 F F1):JS X.K (YY B p us) p F1 E xs' o:=by
 cases o with
 |nx ρ'=>exactλF' H' XV ws k r s'=>q F' H' XV ws (by rw[YY.up]at k;exact k) r<|s.trans s'
 |rt d=>exactλv F' H' ws x r rv=>q v F' H' ws (by rw[YY.up]at x;exact x) r rv
def MQ(h1:N4 X p U st (.nx W1) xs xs1)(h2:ZW X p W1 rest o xs1 xs'):ZW X p U (st::rest) o xs xs':=λB F H Y E us l k q=>(.mk λon s I=>qT G4 lX on s Y H E I (h1 B F H Y _ us l k λF1 H1 σ1 ws k1 r1 s1=>h2 (YY B p ws) F1 H1 σ1 E ws ⟨bI,l.fr,r1⟩ k1<|OZ q s1))
def QT(h1:N4 X p U st o xs xs'):ZW X p U [st] o xs xs':=λB F H Y E us l k q=>(.mk λon s I=>u4 G4 on s Y H E I<|h1 B F H Y E us l k q)
def Ok.zE6(k:Ok K B F H Y U)(l:Yz K B p F us xs):Ok K (YY B p ws) F (fN H p<|.lst ws) Y U:=by
 have hf:=l.free k.toExt;have ho:∀a,B.H a=none->a≠p:=λa h z=>by subst z;rw[l.st]at h;cases h
 refine⟨⟨λc u q=>?_,λc u q=>?_,k.sf,λa q=>?_⟩,k.len,k.vals,λi ys h=>?_,k.dist,⟨λi kvs h=>?_,k.Xm.Y6⟩⟩;have ne:c≠p:=λz=>by subst z;rw[hf]at q;cases q
 rw[bq ne];exact k.sub c u q;by_cases z:c=p;subst z;have q':fN B.H c (.lst ws) c=some u:=q;rw[bI]at q' ⊢;exact q';have q':fN B.H p (.lst ws) c=some u:=q;rw[bq z]at q' ⊢;exact k.sh c u q';have ne:a≠p:=λz=>by subst z;exact q hf
 rcases k.nw a q with z |z;exact .inl z;refine .inr ?_;show fN B.H p (.lst ws) a=none;rwa[bq ne];let⟨a,vs,h1,h2,h3,h4,h5⟩:=k.XJ i ys h;have ne:=ho a h4;exact⟨a,vs,h1,by rwa[bq ne],h3,by show fN B.H p (.lst ws) a=none;rwa[bq ne],h5⟩;let⟨a,es,h1,h2,h3,h4,h5⟩:=k.Xm.Y3 i kvs h;have ne:=ho a h4;exact⟨a,es,h1,by rwa[bq ne],h3,by show fN B.H p (.lst ws) a=none;rwa[bq ne],h5⟩
def HY{i:Nat}{Q:VK}{U:dP}(t:At X N sc)(hr:U[i]?=some (.val<|.adr p))(hN:N[i]?=some x)(hv:kC sc x=true)(hx:gv x=true)(k:Ok X.K B F H Y U)(h:Q (.ref p) H):wE X (.Name x py) Y H Q:=.mk λon s I=>by obtain⟨v,h1,h2⟩:=k.vals i _ hr;cases h2;exact G3 t hN hv hx on s Y H Q I ⟨_,h1,h⟩
def R6{U:dP}{xs:ck}{pos:Pos}(t:At X N sc)(i:Nat)(hr:U[i]?=some (.val<|.adr p))(hb:W0 X U b (.int n))(he:W0 X U e d)(hj:Ho xs.length n=some j)(hN:N[i]?=some x:=by rfl)(hv:kC sc x=true:=by rfl)(hx:gv x=true:=by rfl)(hs:swapsWithSole [.Subscript (.Name x py) b ps] e pos.line X.env=pure false:=by rfl)(hw:swappedStores [.Subscript (.Name x py) b ps] e (dE sc)=pure none:=by rfl)(h1:(assignEach [.Subscript (.Name x py) b ps] X.env).map (·.2)=[assign (.Subscript (.Name x py) b ps) X.env]:=by rfl)(ha:∀v,assign (.Subscript (.Name x py) b ps) X.env v=(do
   let ov <-holding [v] (eval (.Name x py) X.env)
   let iv <-holding [v,ov] (eval b X.env)
   standAt ps
   holding [v,ov,iv] (setItem ov iv v)
   release [v,ov,iv] []):=by intro _;rfl):N4 X p U (.Assign [.Subscript (.Name x py) b ps] e pos) (.nx U) xs (xs.set j d):=λB F H Y E us l k q=>
 (.mk λon s I=>G7 cF (G9 cF cF yr ha) hs ((sw<|t.eS).trans hw) h1 on s Y H E I (he B F H Y _ k λv F1 H1 x1 r1=>by
  have k1:=k.ext x1
  have l1:Yz X.K B p F1 us xs:=⟨l.st,l.fr,l.rep.mono x1.sf⟩
  refine HY t hr hN hv hx k1 (hb B F1 H1 Y _ k1 λw F2 H2 x2 r2=>?_)
  cases r2
  have k2:=k1.ext x2
  have l2:Yz X.K B p F2 us xs:=⟨l.st,l.fr,l1.rep.mono x2.sf⟩
  refine⟨p,us,n,j,rfl,rfl,k2.sh _ _ l.st,by rwa[l2.rep.length],?_⟩
  exact q F2 _ Y (us.set j v) (k2.zE6 l2) (l2.rep.set (r1.mono x2.sf) j) (x1.sf.trans x2.sf)))
end
def K4(X:Cx)(p:Addr)(U:dP)(e:Expr)(d:D)(xs:ck):Prop:=∀(B:B0)(F H:Hp)(Y:St)(Q:VK)(us:ij),Yz X.K B p F us xs->Ok X.K B F H Y U->(∀v F' H',Ext ⟨F,H⟩ F' H'->Rep X.K F' v d->Q v H')->wE X e Y H Q
def UM(X:Cx)(p:Addr)(U:dP)(tg e:Expr)(ds:ck)(xs:ck):Prop:=∀(B:B0)(F H:Hp)(Y:St)(R:It->Hp->Prop)(us:ij),Yz X.K B p F us xs->Ok X.K B F H Y U->(∀J F' H',Ext ⟨F,H⟩ F' H'->pW X.K J F' ds->R J H')->wI X tg e Y H R
def Yz.ext{H:Hp}(l:Yz K B p F us xs)(x:Ext ⟨F,H⟩ F' H'):Yz K B p F' us xs:=⟨l.st,l.fr,l.rep.mono x.sf⟩
section
variable {X:Cx}{rest:List Stmt}{ds:ck}{ps:Pos}
def W0.l{p:Addr}{U:dP}{xs:ck}{e:Expr}{d:D}(h:W0 X U e d):K4 X p U e d xs:=λB F H Y Q us l k q=>h B F H Y Q k q
def Q1{U:dP}(t:At X N sc)(i:Nat)(hr:U[i]?=some (.val<|.adr p))(hb:W0 X U b (.int n))(h:s9 xs n=some d)(hs:ya b:=by intro _ _;rfl)(hN:N[i]?=some x:=by rfl)(hv:kC sc x=true:=by rfl)(hx:gv x=true:=by rfl):K4 X p U (.Subscript (.Name x py) b pos) d xs:=λB F H Y Q us l k q=>(.mk λon s I=>MJ Jl cF cF hs on s Y H Q I<|HY t hr hN hv hx k (hb B F H Y _ k λw F' H' x' Yi=>by cases Yi;let⟨v,h1,h2⟩:=(l.ext x').rep.at h;exact⟨p,us,n,v,rfl,rfl,XU.of<|(k.ext x').sh _ _ l.st,h1,q v F' H' x' h2⟩))
def SE{U:dP}{xs:ck}(t:At X N sc)(i:Nat)(hr:U[i]?=some (.val<|.adr p))(bl:tN X sc y (.builtin "len"))(hN:N[i]?=some x:=by rfl)(hv:kC sc x=true:=by rfl)(hx:gv x=true:=by rfl)(Yq:Pl (.Name x py):=by intro _ _;rfl):K4 X p U (.Call (.Name y ps) [.Name x py] [] pos) (.int xs.length) xs:=λB F H Y Q us l k q=>(.mk λon s I=>iY vD (hJ t bl.g) bl.m bl.v (dH cF gh<|Yq _ _) bl.n bl.d (Yq _ _) rfl on s Y H Q I<|HY t hr hN hv hx k<|by refine⟨p,us,rfl,.inl<|XU.of<|k.sh _ _ l.st,?_⟩;rw[l.rep.length];exact q _ F H (.refl k.sub)<|.int _)
def Hv(t:At X N sc)(bl:tN X sc "range" (.type "range"))(ha:K4 X p U a (.int i) xs)(hb:K4 X p U b (.int j) xs)(hc: -(2 ^ 62)<=i/\i<2 ^ 62/\-(2 ^ 62)<=j/\j<2 ^ 62)(hsa:Pl a:=by intro _ _;rfl)(hsb:Pl b:=by intro _ _;rfl):UM X p U tg (.Call (.Name "range" pp) [a,b] [] pos) (cH i (j-i).toNat) xs:=λB F H Y R us l k q=>(.mk λon s I=>BO (hJ t bl.g) bl.m (dH cF (dH cF gh<|hsb _ _)<|hsa _ _) (by rw[hsa,hsb];rfl) (hsb _ _) on s Y H R I (ha B F H Y _ us l k λv F1 H1 x1 r1=>hb B F1 H1 Y _ us (l.ext x1) (k.ext x1) λw F2 H2 x2 r2=>by cases r1;cases r2;exact⟨i,j,rfl,hc,q _ F2 H2 (x1.t x2) Hq⟩))
def QS{pos:Pos}[Zr X](t:At X N sc)(i:Nat)(h:K4 X p U e d xs)(hi:N[i]?=some x:=by rfl)(hx:qB sc x=true:=by rfl)(hs:swapsWith e (some<|.Name x pos') pos.line X.env=pure false:=by rfl):N4 X p U (.Assign [.Name x pos'] e pos) (.nx<|U.set i<|.val d) xs xs:=λB F H Y E us l k q=>(.mk λon s I=>yV (i:=i) t.nd (t.ix hi) (t.loc hx) cF hs M6 on s Y H E I (h B F H Y _ us l k λv F' H' x' r=>q F' H' _ us (by rw[YY.same l.st];exact(k.ext x').Xq i r) (l.ext x').rep x'.sf))
inductive X4(X:Cx)(p:Addr)(tg:Expr)(body:List Stmt):ck->dP->ck->dP->ck->Prop where
 |nil {U:dP} {xs:ck}:X4 X p tg body [] U xs U xs
 |cons {d:D} {ds:ck} {U W1 ρ2 ρ3:dP} {xs xs1 xs2:ck}:Yr X U tg d W1->ZW X p W1 body (.nx ρ2) xs xs1->X4 X p tg body ds ρ2 xs1 ρ3 xs2->X4 X p tg body (d::ds) U xs ρ3 xs2
def Ug(t:At X N sc)(hi:UM X p U tg e ds xs)(h:X4 X p tg body ds U xs ρ' xs')(hs:∀x,foldedSetIterable e X.env x=pure x:=by intro _;rfl):N4 X p U (.For tg e body [] pos) (.nx ρ') xs xs':=λB F H Y E us l k q=>(.mk λon s I=>Mr t.pass t.calm T6 MD lX hs on s Y H E I (hi B F H Y _ us l k λJ F1 H1 x1 J1=>by
  refine⟨λi m Y H=>∃W1 F' us1 xs1,Ok X.K (YY B p us1) F' H Y W1/\W3 X.K F' us1 xs1/\W8 F1 F'/\X4 X p tg body (ds.drop i) W1 xs1 ρ' xs'/\m=ds.length-i,⟨ds.length,U,F1,us,xs,by rw[YY.same l.st];exact k.ext x1,(l.ext x1).rep,.refl _,by simpa using h,by simp⟩,?_⟩;rintro i m Y H ⟨W1,F',us1,xs1,k',r',sf,run,rfl⟩;have J2:=J1 i F' H sf k'.sub;generalize e1:ds.drop i=rest at run;cases run with
  |nil=>
   have hl:ds.length<=i:=by have:=bo List.length e1;rw[cO,gQ]at this;lia
   exact .inl ⟨J2.2 hl,q F' H Y us1 k' r'<|x1.sf.trans sf⟩
  |@cons d0 ds0 _ ρa ρb _ _ xsa _ g bd r=>let⟨hd,hr,XQ⟩:=kN e1;obtain⟨go,yl⟩:=J2.1 _ hd;refine .inr ⟨go,λXV H'=>∃ZL us2,Ok X.K (YY B p us2) ZL H' XV ρb/\W3 X.K ZL us2 xsa/\W8 F1 ZL,λXV H' ⟨ZL,us2,k'',r'',ZX⟩=>⟨ds.length-(i+1),by lia,_,ZL,us2,_,k'',r'',ZX,by rw[hr];exact r,rfl⟩,λx H' y=>?_⟩;obtain⟨F2,x2,rx⟩:=yl x H' y;refine g (YY B p us1) F2 H' Y x _ (k'.ext x2) rx λF3 H3 σ3 k3 s3=>bd (YY B p us1) F3 H3 σ3 _ us1 ⟨bI,l.fr,(r'.mono x2.sf).mono s3⟩ k3 λF4 H4 σ4 us4 k4 r4 s4=>⟨F4,us4,?_,r4,sf.trans (x2.sf.trans (s3.trans s4))⟩;rw[YY.up]at k4;exact k4))
theorem X4.zBG(R:Nat->dP)(L:Nat->ck):∀(ds:ck)(i:Nat),(∀(j:Nat)d,ds[j]?=some d->∃W1,Yr X (R<|i+j) tg d W1/\ZW X p W1 body (.nx<|R<|i+j+1) (L<|i+j) (L<|i+j+1))->X4 X p tg body ds (R i) (L i) (R<|i+ds.length) (L<|i+ds.length)
 |[],i,_=>.nil
 |d::ds,i,h=>by
  obtain⟨W1,h1,h2⟩:=h 0 d rfl;have:=X4.zBG R L ds (i+1) λj d' e=>by have:=h (j+1) d' (by simpa using e);rw[show i+1+j=i+(j+1)by lia];exact this
  rw[show i+1+ds.length=i+(d::ds).length by rw[bB];lia]at this;exact .cons h1 h2 this
def U1(K:gS)(C:ck->ck->D->ck->Prop):Sp:=λvs H Q _=>∃p F ds d us xs xs',W8 F H/\H p=some (.lst us)/\F p=none/\W3 K F us xs/\W3 K F vs (.adr p::ds)/\C ds xs d xs'/\∀v F' H' YM,Ext (YY ⟨F,H⟩ p YM) F' H'->W3 K F' YM xs'->Rep K F' v d->Q v H'
def YL(X:Cx)(x:Str)(C:ck->ck->D->ck->Prop):Prop:=∃(f:Addr)(fd:FuncData)(ps:fV)(k:Nat),mw X.prog X.w X.K X.mg X.base uw k f fd ps (U1 X.K C)/\XN k X.A/\X.mg x=some (.ref f)/\keepIn X.K (.ref f)=true/\Binds X.K fd ps []
def Sv{P:Program}(YO:P.given.tree=none){w:World}{K:gS}{mg:AE}{base:Heap}{x qual:Str}{st:Stmt}{f:Addr}{fd:FuncData}{N ps:fV}{k:Nat}{C:ck->ck->D->ck->Prop}(F:Fun K x qual st f fd)(S:bx N ps (aK st))(len:∀ds xs d xs',C ds xs d xs'->ds.length+1=ps.length)(body:∀X,DefX P w K mg base k N (aK st) X->∀p ds xs d xs',C ds xs d xs'->ZW X p (.val (.adr p)::ds.map Sl.val++List.replicate (N.length-(ds.length+1)) Sl.un) (ft st) (.rt d) xs xs'\/(d=.Xf/\∃ρ',ZW X p (.val (.adr p)::ds.map Sl.val++List.replicate (N.length-(ds.length+1)) Sl.un) (ft st) (.nx ρ') xs xs')):mw P w K mg base uw (k+1) f fd ps (U1 K C):=by
 refine F.ok S (λvs H Q E h=>?_) λXR A outer s H vs Q E hr h=>?_;obtain⟨p,F',ds,d,us,xs,xs',sub,hp,hf,ru,r,hC,q⟩:=h;rw[r.length];exact len ds xs d xs' hC;obtain⟨p,F',ds,d,us,xs,xs',sub,hp,hf,ru,r,hC,q⟩:=h;refine⟨_,lX,?_⟩;have hx:DefX P w K mg base k N (aK st) (A6 uw P w K mg base N qual (aK st) f XR A outer s H E).YX:=⟨⟨rfl,rfl,rfl,S.nd,rfl,hr.units,hr.ZT,YO,⟨_,_,rfl,S.gen,S.co,rfl,rfl⟩⟩,rfl,rfl,rfl,rfl,rfl,hr,⟨λ_=>rfl⟩,rfl,rfl⟩;have hk:Ok K ⟨F',H⟩ F' H (start N vs) (.val (.adr p)::ds.map Sl.val++List.replicate (N.length-(ds.length+1)) Sl.un):=by unfold start;rw[r.length];exact vg sub r _
 have hl:Yz K ⟨F',H⟩ p F' us xs:=⟨hp,hf,ru⟩;rcases body _ hx p ds xs d xs' hC with hb |⟨rfl,ρ',hb⟩;exact hb ⟨F',H⟩ F' H _ _ us hl hk λv F2 H2 us2 x2 r2 rv=>q v F2 H2 us2 x2 r2 rv;exact hb ⟨F',H⟩ F' H _ _ us hl hk λF2 H2 σ2 us2 k2 r2 s2=>q .Xf F2 H2 us2 k2.toExt r2 .Xf
def DefX.zBX{ps:fV}{x:Str}{C:ck->ck->D->ck->Prop}(h:DefX P w K mg base k N sc X)(F:mw P w K mg base uw j f fd ps (U1 K C))(hj:j<=k)(hm:mg x=some (.ref f))(hk:keepIn K (.ref f)=true)(hb:Binds K fd ps []):YL X x C:=by obtain⟨h0,rfl,rfl,rfl,rfl,rfl,hr,_⟩:=h;exact⟨f,fd,ps,j,F,hr.mono hj,hm,hk,hb⟩
end
def Ok.back{i:Nat}(k:Ok K B F H Y U)(hi:U[i]?=some (.own xs))(hs:Y[i]?=some (some<|.ref a))(x:Ext (YY ⟨F,H⟩ a YM) F' H')(r:W3 K F' YM xs'):Ok K B F' H' Y (U.set i<|.own xs'):=by
 let⟨a',us,h1,h2,h3,h4,h5⟩:=k.XJ i xs hi;rw[h1]at hs;cases hs;have XQ:=(aG.mp hi).1;have hu:∀b u,b≠a->H b=some u->H' b=some u:=λb u ne q=>x.sh b u (by show fN H a (.lst YM) b=some u;rwa[bq ne]);have Ys:∀b,F b=none->(b=a\/H b≠none)->F' b=none:=λb hf hh=>by cases e:F' b with|none=>rfl|some o=>exfalso;rcases x.nw b (by rw[e];exact Gg o)with z |z;exact z hf;have z':fN H a (.lst YM) b=none:=z;by_cases y:b=a;subst y;rw[bI]at z';cases z';rw[bq y]at z';rcases hh with w |w;exact y w;exact w z'
 refine⟨⟨x.sub,λb u q=>?_,k.sf.trans x.sf,λc q=>?_⟩,by rw[bE,k.len],λj d q=>?_,λj ys q=>?_,λj l ys zs b q1 q2 q3 q4=>?_,?_⟩;exact hu b u (λz=>by subst z;rw[h4]at q;cases q)<|k.sh b u q;rcases x.nw c q with z |z;exact k.nw c z;refine .inr ?_;have z':fN H a (.lst YM) c=none:=z;by_cases y:c=a;subst y;rw[bI]at z';cases z';rw[bq y]at z';exact k.sh.free z';by_cases h:i=j;subst h;rw[a9 XQ]at q;cases q;rw[aB h]at q;let⟨v,g1,g2⟩:=k.vals j d q;exact⟨v,g1,g2.mono x.sf⟩;by_cases h:i=j;subst h;rw[a9 XQ]at q;cases q;exact⟨a,YM,h1,x.sh a _<|by show fN H a (.lst YM) a=_;rw[bI],Ys a h3<|.inl rfl,h4,r⟩;rw[aB h]at q;let⟨b,vs,g1,g2,g3,g4,g5⟩:=k.XJ j ys q;have ne:b≠a:=λz=>by subst z;exact h<|k.dist i j xs ys b hi q h1 g1
 exact⟨b,vs,g1,hu b _ ne g2,Ys b g3<|.inr<|by rw[g2];exact Gg _,g4,g5.mono x.sf⟩;have back:∀(m:Nat)ys,(U.set i<|.own xs')[m]?=some (.own ys)->∃ws,U[m]?=some (.own ws):=λm ys e=>by by_cases h:i=m;subst h;exact⟨xs,hi⟩;rw[aB h]at e;exact⟨ys,e⟩
 let⟨w1,e1⟩:=back j ys q1;let⟨w2,e2⟩:=back l zs q2;exact k.dist j l w1 w2 b e1 e2 q3 q4;exact k.Xm.to x.sf (λb φ e1 e2 e3=>by
  have ne:b≠a:=λz=>by subst z;rw[h2]at e1;cases e1
  exact⟨hu b _ ne e1,Ys b e2 (.inr (by rw[e1];exact Gg _))⟩) (uK λ_ z=>nomatch z)
section
variable {X:Cx}{ds:ck}
def ON{U:dP}{pos:Pos}(t:At X N sc){C:ck->ck->D->ck->Prop}(h:YL X x C)(i:Nat)(hr:U[i]?=some (.own xs))(ha:K5 X U es ds)(hC:C ds xs d xs')(hN:N[i]?=some y:=by rfl)(hv:kC sc y=true:=by rfl)(hx:gv y=true:=by rfl)(hg:Oa sc x:=by rfl)(Zk:D2 x:=by rfl)(hs:Pl (.Name y py):=by intro _ _;rfl)(ZE:swapsWith (.Call (.Name x p) (.Name y py::es) [] Xd) none pos.line X.env=pure false:=by rfl):XX X U (.Expr (.Call (.Name x p) (.Name y py::es) [] Xd) pos) (.nx<|U.set i<|.own xs'):=by
 obtain⟨f,fd,ps,k,F,hr',hm,hk,hb⟩:=h;have pz:rC uw X E0:=ER;refine .of (u5 (vc F hr' (hJ t hg) hm hk hb .nil pz xi Zk (hs _ _)<|PlA.any ha.1) ZE) λB F' H Y E k' q=>?_;refine .mk λpos' on s I=>?_;refine dH (cF (e:=.Name y py)) (xi (es:=es)) (hs _ _) pos' on s Y H _ I<|nP t hr hN hv hx k' λl us h1 h2 h3=>ha.2 B F' H Y _ k' λvs' F1 H1 x1 r1=>?_;have k1:=k'.ext x1;have hf1:F1 l=none:=by obtain⟨a,vs,o1,o2,o3,o4,o5⟩:=k1.XJ i xs hr;rw[h1]at o1;cases o1;exact o3
 refine⟨l,F1,ds,d,us,xs,xs',x1.sub,x1.sh _ _ h2,hf1,h3.mono x1.sf,?_,hC,λv F2 H2 us2 x2 r2 rv=>q F2 H2 Y (k1.back hr h1 x2 r2)<|x1.sf.trans x2.sf⟩;rw[dq];exact .cons (.adr l) r1
def X4.Xl{ρ':dP}{U:dP}{xs:ck}{xs':ck}(R:Nat->dP)(L:Nat->ck)(h:∀(j:Nat)d,ds[j]?=some d->∃W1,Yr X (R j) tg d W1/\ZW X q W1 body (.nx<|R<|j+1) (L j) (L<|j+1))(e0:R 0=U)(l0:L 0=xs)(e1:R ds.length=ρ')(l1:L ds.length=xs'):X4 X q tg body ds U xs ρ' xs':=by
 have:=X4.zBG (X:=X) (p:=q) (tg:=tg) (body:=body) R L ds 0 λj d e=>by rw[fh];exact h j d e
 rwa[fh,e0,l0,e1,l1]at this
def ZW.weak(h:ZW X q U Y8 (.nx W1) xs xs')(w:YG W1 ρ2):ZW X q U Y8 (.nx ρ2) xs xs':=λB F H Y E us l k pq=>h B F H Y E us l k λF' H' XV ws k' r s=>pq F' H' XV ws (k'.weak w) r s
def Fp{U:dP}(t:At X N sc){C:ck->D->Prop}(him:∀(F F':Hp)v,Rep X.K F v d->Rep X.K F' v d)(h:Callee X x C)(i:Nat)(hr:U[i]?=some (.own xs))(ha:K5 X U es ds)(hC:C (.lst xs::ds) d)(hN:N[i]?=some y:=by rfl)(hv:kC sc y=true:=by rfl)(hx:gv y=true:=by rfl)(hg:Oa sc x:=by rfl)(Zk:D2 x:=by rfl)(hs:Pl (.Name y py):=by intro _ _;rfl):W0 X U (.Call (.Name x p) (.Name y py::es) [] pos) d:=by
 obtain⟨f,fd,ps,k,F,hr',hm,hk,hb⟩:=h;have pz:rC uw X E0:=ER;refine .of (vc F hr' (hJ t hg) hm hk hb .nil pz xi Zk (hs _ _)<|PlA.any ha.1) λB F' H Y Q k' q=>?_;refine .mk λpos' on s I=>?_;refine dH (cF (e:=.Name y py)) (xi (es:=es)) (hs _ _) pos' on s Y H _ I ?_;obtain⟨a,vs,o1,o2,o3,o4,o5⟩:=k'.XJ i xs hr;refine nP t hr hN hv hx k' λl us h1 h2 h3=>ha.2 B F' H Y _ k' λvs' F1 H1 x1 r1=>?_;have hal:a=l:=by rw[o1]at h1;exact V.ref.inj<|bC<|bC h1
 subst hal;have hf1:=x1.kf o3 h2;have h2':H1 a=some (.lst us):=x1.sh _ _ h2;have zGH:W8 (fN F1 a<|.lst us) H1:=λc o q=>by by_cases hc:c=a;subst hc;rw[bI]at q;rwa[h2'];rw[bq hc]at q;exact x1.sub c o q
 have grow:W8 F1 (fN F1 a<|.lst us):=bG hf1;refine⟨fN F1 a<|.lst us,.lst xs::ds,d,zGH,?_,hC,λv F2 H2 x2 r2=>?_⟩;rw[dq];exact .cons (.lst bI<|(h3.mono x1.sf).mono grow)<|r1.mono grow;exact q _ _ _ (x1.zBN hf1 x2)<|him _ _ _ r2
def So(n:Int):∀(F F':Hp)v,Rep K F v (.int n)->Rep K F' v (.int n):=λF F' v r=>by cases r;exact .int n
def Sn:∀(F F':Hp)v,Rep K F v .Xf->Rep K F' v .Xf:=λF F' v r=>by cases r;exact .Xf
end
section
variable {rss:List ck}
def Ext.stays{p:Addr}{H:Hp}(x:Ext ⟨F,H⟩ F' H')(h:H p=some (.lst us))(f:F p=none):F' p=none:=x.kf f h
end
abbrev Tb:=List<|Addr×ck
abbrev Bj(elt t0 i0 t1 i1:Expr)(scope:Scope)(pos:Pos):Expr:=.ListComp elt [⟨t0,i0,[],0⟩,⟨t1,i1,[],0⟩] scope pos
def HD(elt t0 i0 t1 i1:Expr)(scope:Scope)(pos:Pos)(it acc:Value)(env:Env):compTurn (Bj elt t0 i0 t1 i1 scope pos) 1 it acc env=(standAt i1.pos>>=λ_=>pyNext it>>=λr=>match r with|none=>pure (.done .next)|some v=>letOwnedTupleGo t1 it v>>=λ_=>assign t1 env v>>=λ_=>(eval elt env>>=λx=>call (.builtin "list.append") [acc,x]>>=λ_=>pure ())>>=λ_=>again (.compLoop (Bj elt t0 i0 t1 i1 scope pos) 1 it acc env)):=by rfl
def HE(elt t0 i0 t1 i1:Expr)(scope:Scope)(pos:Pos)(it acc:Value)(env:Env):compTurn (Bj elt t0 i0 t1 i1 scope pos) 0 it acc env=(standAt i0.pos>>=λ_=>pyNext it>>=λr=>match r with|none=>pure (.done .next)|some v=>letOwnedTupleGo t0 it v>>=λ_=>assign t0 env v>>=λ_=>eval i1 env>>=λx=>standAt i1.pos>>=λ_=>foldedSetIterable i1 env x>>=λx=>holding [x] (pyIter x)>>=λi=>runOwn (.compStart (Bj elt t0 i0 t1 i1 scope pos) 1 i acc env) env>>=λ_=>again<|.compLoop (Bj elt t0 i0 t1 i1 scope pos) 0 it acc env):=by rfl
section
variable {R:Result->Shared->Prop}{env:Env}
def A8(I:Nat->Shared->Prop)(turn:∀n s,I n s->wpAny (model prog w) A (pyNext it) (λr s₁=>match r with
   |none=>R (.ok .next) s₁
   |some v=>wpAny (model prog w) A (letOwnedTupleGo t1 it v) (λ_ s₀=>wpAny (model prog w) A (assign t1 env v) (λ_ s₂=>
     wpAny (model prog w) A (eval elt env) (λx s₄=>
       wpAny (model prog w) A (call (.builtin "list.append") [acc,x]) (λ_ s₅=>∃m,m<n/\I m s₅) (λ_ _=>False) s₄) (λ_ _=>False) s₂) (λ_ _=>False) s₀) (λ_ _=>False) s₁) (λ_ _=>False) s)
  n (h:I n s):codeAny (model prog w) A (.compLoop (Bj elt t0 i0 t1 i1 scope pos) 1 it acc env) R s:=by
 refine Tg rfl I (λn s hI=>?_) n h
 show wpAny _ A ((compTurn (Bj elt t0 i0 t1 i1 scope pos) 1 it acc env).onRaise λx=>do noteFrame x env;theTreesLotGoes x) _ _ s
 refine Vb ?_
 rw[HD]
 refine ae<|fk<|ae (cw (turn n s hI) (λr s₁ h₁=>?_) λ_ _ h'=>h'.elim)
 cases r with
 |none=>exact ap h₁
 |some v=>
  refine ae (cw h₁ (λ_ s₀ h₀=>ae (cw h₀ (λ_ s₂ h₂=>ae<|ae (cw h₂ (λx s₄ h₄=>ae (cw h₄ (λ_ s₅ h₅=>ap<|ap ⟨rfl,h₅⟩) λ_ _ h'=>h'.elim)) λ_ _ h'=>h'.elim)) λ_ _ h'=>h'.elim)) λ_ _ h'=>h'.elim)
def A9(I:Nat->Shared->Prop)(hs:∀x,foldedSetIterable i1 env x=pure x)(turn:∀n s,I n s->wpAny (model prog w) A (pyNext it) (λr s₁=>match r with
   |none=>R (.ok .next) s₁
   |some v=>wpAny (model prog w) A (letOwnedTupleGo t0 it v) (λ_ s₀=>wpAny (model prog w) A (assign t0 env v) (λ_ s₂=>
     wpAny (model prog w) A (eval i1 env) (λx s₃=>wpAny (model prog w) A (pyIter x) (λi s₄=>
       codeAny (model prog w) A (.compStart (Bj elt t0 i0 t1 i1 scope pos) 1 i acc env) (λr s₅=>match r with |.ok _=>∃m,m<n/\I m s₅ |.error _=>False) s₄) (λ_ _=>False) s₃) (λ_ _=>False) s₂) (λ_ _=>False) s₀) (λ_ _=>False) s₁) (λ_ _=>False) s)
  n (h:I n s):codeAny (model prog w) A (.compLoop (Bj elt t0 i0 t1 i1 scope pos) 0 it acc env) R s:=by
 refine Tg rfl I (λn s hI=>?_) n h
 show wpAny _ A ((compTurn (Bj elt t0 i0 t1 i1 scope pos) 0 it acc env).onRaise λx=>do noteFrame x env;theTreesLotGoes x) _ _ s
 refine Vb ?_
 rw[HE]
 refine ae<|fk<|ae (cw (turn n s hI) (λr s₁ h₁=>?_) λ_ _ h'=>h'.elim)
 cases r with
 |none=>exact ap h₁
 |some v=>
  refine ae (cw h₁ (λ_ s₀ h₀=>ae (cw h₀ (λ_ s₂ h₂=>ae (cw h₂ (λx s₃ h₃=>ae<|fk<|ae<|dU (hs x)<|ae<|fI (cw h₃ (λi s₄ h₄=>ae<|wpAny_runOwn (Tf h₄ λr s₅ h₅=>?_)) λ_ _ h'=>h'.elim)) λ_ _ h'=>h'.elim)) λ_ _ h'=>h'.elim)) λ_ _ h'=>h'.elim)
  cases r with
  |ok f=>exact ap ⟨rfl,h₅⟩
  |error e=>exact h₅.elim
def sZ{E':uA}(h0:codeAny (model prog w) A (.compLoop (Bj elt t0 i0 t1 i1 scope pos) 1 it acc env) R s)(h:wpAny (model prog w) A (pyIter it) (λit' s'=>codeAny (model prog w) A (.compLoop (Bj elt t0 i0 t1 i1 scope pos) 1 it' acc env) R s') (notedBy (model prog w) A env λx s'=>R (.error x) s') s):codeAny (model prog w) A (.compStart (Bj elt t0 i0 t1 i1 scope pos) 1 it acc env) R s:=by
 refine codeAny_of_tree ?_;show wpAny _ _ ((compStart (Bj elt t0 i0 t1 i1 scope pos) 1 it acc env).onRaise λx=>do noteFrame x env;standAt theWindowsPlace) _ _ s;refine wpAny_notedAt ?_;unfold compStart;show wpAny _ _ (ask>>=_) _ _ s;refine ae<|jN<|wpAny_ite ?_;split;first
  |exact ae (ap<|ap<|And.intro rfl h0)|exact ap<|And.intro rfl h0
 first
  |exact ae<|Ge<|ae<|fk<|ae (cw h (λit' s' h'=>ap<|And.intro rfl h') λ_ _ x=>x)
  |(refine ae<|Ge ?_;exact ae<|fk<|ae (cw h (λit' s' h'=>ap<|And.intro rfl h') λ_ _ x=>x))
end
inductive XH(X:Cx)(tg elt:Expr):ck->dP->ck->dP->Prop where
 |nil {U:dP}:XH X tg elt [] U [] U
 |take {d r:D} {ds rs:ck} {U W1 ρ2:dP}:XO X U tg d W1->W0 X W1 elt r->XH X tg elt ds W1 rs ρ2->XH X tg elt (d::ds) U (r::rs) ρ2
inductive XG(X:Cx)(t0 t1 i1 elt:Expr):ck->dP->ck->Prop where
 |nil {U:dP}:XG X t0 t1 i1 elt [] U []
 |take {d:D} {ds ds1 ZA rs:ck} {U W1 ρ2:dP}:XO X U t0 d W1->X5 X W1 t1 i1 ds1->XH X t1 elt ds1 W1 ZA ρ2->XG X t0 t1 i1 elt ds ρ2 rs->XG X t0 t1 i1 elt (d::ds) U (ZA++rs)
def XH.len{X:Cx}{ds rs:ck}(h:XH X tg elt ds U rs ρ2):rs.length=ds.length:=by induction h with|nil=>rfl|take _ _ _ ih=>rw[bB,bB,ih]
section
variable {X:Cx}{tn:Nat->Heap->Prop}{J:It}{ds rs:ck}
def HC{H2:Hp}{DD:Addr}(md:X.calm=true)(YX:X.xe=λ_ _=>False)(T:xA X.prog X.w X.K t1 J fp it tn)(I5:Inv X P1 σ5 H5 s5)(tn0:tn 0 s5.heap)(fo:∀b∈fp,pX X P1 H5 b)(k5:Ok X.K B F5 H5 σ5 W1)(JO:pW X.K J F5 ds)(x5:Ext ⟨F2,H2⟩ F5 H5)(Yl:H2 DD=none)(bD:B.H DD=none)(h5:H5 DD=some (.lst vs5))(f5:F5 DD=none)(n5:Xh σ5 W1 DD)(rv5:W3 X.K F5 vs5 r00)(run:XH X t1 elt ds W1 rs ρ2)(hz:r00.length+ds.length<sizeLine){R:Result->Shared->Prop}(hR:∀σ6 F6 H6 vs6 s6,Inv X P1 σ6 H6 s6->Ok X.K B F6 H6 σ6 ρ2->Ext ⟨F2,H2⟩ F6 H6->W8 F5 F6->H6 DD=some (.lst vs6)->F6 DD=none->Xh σ6 ρ2 DD->W3 X.K F6 vs6 (r00++rs)->R (.ok .next) s6):codeAny (model X.prog X.w) X.A (.compStart (Bj elt t0 i0 t1 i1 scope pos) 1 (.ref it) (.ref DD) X.env) R s5:=by
 have fp4:∀{H':Hp},(∀b∈fp,H' b=none)->∀b∈fp,pX X P1 H' b:=λ{H'}hn b hb=>⟨hn b hb,(fo b hb).2⟩;have loop:codeAny (model X.prog X.w) X.A (.compLoop (Bj elt t0 i0 t1 i1 scope pos) 1 (.ref it) (.ref DD) X.env) R s5:=by
  refine A8 (λn s'=>∃(i:Nat)(XV:St)(F' H':Hp)(ρ':dP)(vs:ij)(r0 r1:ck),Inv X P1 XV H' s'/\tn i s'.heap/\(∀b∈fp,H' b=none)/\Ok X.K B F' H' XV ρ'/\Ext ⟨F2,H2⟩ F' H'/\W8 F5 F'/\H' DD=some (.lst vs)/\F' DD=none/\Xh XV ρ' DD/\W3 X.K F' vs (r00++r0)/\XH X t1 elt (ds.drop i) ρ' r1 ρ2/\r0++r1=rs/\r0.length<=i/\i<=ds.length/\n=ds.length+1-i) ?_ (ds.length+1) ⟨0,_,F5,_,_,vs5,[],rs,I5,tn0,λb hb=>(fo b hb).1,k5,x5,.refl _,h5,f5,n5,by rw[dq];exact rv5,by simpa using run,rfl,aJ _,aJ _,by simp⟩;rintro n s' ⟨i,XV,F',H',ρ',vs,r0,r1,I',tni,fpi,k',x',sf',hH,hF,no',rv,cr,er,hr0,hi,rfl⟩;have JO':=JO i F' H' sf' k'.sub;have TI:=T.item X rfl rfl rfl md i P1 s' XV H' (λ_ _=>False) I' (fp4 fpi) tni;generalize e1:ds.drop i=rest at cr;cases cr with
  |nil=>
   have hl:ds.length<=i:=by have:=bo List.length e1;rw[cO,gQ]at this;lia
   refine fD ((T.done X rfl rfl rfl md i P1 s' XV H' (λ_ _=>False) I' (fp4 fpi) tni)<|JO'.2 hl) λr s4 ⟨hr,I4'⟩=>?_;subst hr;rw[dq]at er;subst er;exact hR XV F' H' vs s4 I4' k' x' sf' hH hF no' rv
  |@take d r ds0 rs0 _ ρa _ g ev cr'=>
   obtain⟨hd,hdr,XQ⟩:=kN e1;obtain⟨go,yl⟩:=JO'.1 _ hd;refine fD (TI go) λr' s4 ⟨u,hr,h4⟩=>?_;subst hr;refine fD h4 λ_ s5' ⟨x,H5',I5',r5,y5,st5,fr5⟩=>?_;obtain⟨F5',x5',rx⟩:=yl x H5' y5;have gg:=g B F5' H5' XV x (λσ6 H6=>H6=H5'/\Ok X.K B F5' H5' σ6 ρa/\Xh σ6 ρa DD) (k'.ext x5') rx (λσ6 k6 n6=>⟨rfl,k6,n6 DD no'⟩) _ s5' u (I5'.pinned (fp4 fr5)<|T.obj _ _ st5) r5;rw[YX]at gg;refine fD gg λ_ s6 ⟨σ6,H6,I6,e6,k6,n6⟩=>?_;subst e6;have f5':F5' DD=none:=x5'.stays hH hF;have h5':=x5'.sh _ _ hH;have ee:=ev B F5' H6 σ6 (λv H7=>∃F7,Ext ⟨F5',H6⟩ F7 H7/\Rep X.K F7 v r) k6 (λv F7 H7 x7 r7=>⟨F7,x7,r7⟩) _ s6 I6;rw[YX]at ee;refine fD ee λu7 s7 ⟨v7,H7,I7,ru7,F7,x7,r7⟩=>?_;have h7:=x7.sh _ _ h5';have f7:F7 DD=none:=x7.stays h5' f5';have hlen:vs.length<sizeLine:=by have:=rv.length;rw[aA]at this;lia
   have app:=wd _ s7 σ6 H7 (.ref DD) [v7] (.ref DD) [u7] (λz H8=>H8=fN H7 DD (.lst<|vs++[v7])) I7 rfl (.cons ru7 .nil) ⟨DD,vs,v7,rfl,rfl,h7,hlen,rfl⟩;rw[YX]at app;refine fD app λ_ s8 ⟨z,H8,I8,_,e8⟩=>?_;subst e8;have xx:=x'.t<|x5'.t x7;refine⟨ds.length+1-(i+1),by lia,i+1,σ6,F7,_,ρa,vs++[v7],r0++[r],rs0,I8.X9,T.keep _ _ _ st5 λb hb o e=>(I8.pin (b,o)<|bP _<|bP _<|kL hb e).1,λb hb=>?_,(k6.ext x7).ZU f7 bD n6 ⟨_,h7⟩,⟨λb w q=>?_,λb w q=>?_,xx.sf,xx.nw⟩,sf'.trans<|x5'.sf.trans x7.sf,bI,f7,n6,?_,by rw[hdr];exact cr',by rw[dX];exact er,by rw[aA,dz];lia,XQ,rfl⟩;obtain⟨o,e,d'⟩:=T.obj _ _ st5 b hb;exact(I8.pin (b,o)<|bP _<|bP _<|kL hb e).2.1;have ne:b≠DD:=λz=>by subst z;rw[f7]at q;cases q
   rw[bq ne];exact x7.sub b w q;have ne:b≠DD:=λz=>by subst z;have q':H2 b=some w:=q;rw[Yl]at q';cases q'
   rw[bq ne];exact xx.sh b w q;rw[<-dX];exact((rv.mono x5'.sf).mono x7.sf).append<|.cons r7 .nil
 exact sZ (E':=λ_ _=>False) loop<|T.self _ 0 _ _ _ tn0 loop
end
section
variable {X:Cx}{tn:Nat->Heap->Prop}{J:It}{ds rs:ck}
def B6{cl:List (Str×Addr)}(t:At0 X N sc)(zA0:X.calm=true)(S:kT N sc N' scope)(I2:Inv X on Y H2 s2)(T:xA X.prog X.w X.K tg J fp it tn)(t0:tn 0 s2.heap)(fo2:∀b∈fp,pX X on H2 b)(k2:Ok X.K B F2 H2 Y U)(JO:pW X.K J F2 ds)(hz:rs.length<sizeLine)(hfs:∀cl C x,foldedSetIterable i1 (compEnvC scope cl C X.env) x=pure x)(Zg:∀n c,cl.lookup n=some c->X.env.cells.lookup n=some c)(ZR:∀n,(n,NameKind.free)∈scope.names->∃c,cl.lookup n=some c)(run:∀X',X3 X X' N' (pC scope sc) (tX scope)->XG X' tg t1 i1 elt ds (U++List.replicate (N'.length-N.length) .un) rs){RR:Value->Addr->Result->Shared->Prop}(hRR:∀D' C s',UO X on Y F2 H2 rs D' C s'->RR (.ref D') C (.ok .next) s'):gA X (newList []) (λacc s₃=>gA X (newFunctionEnv scope X.env.globals cl [] X.env.qual none .none<|some X.env) (λYV s₄=>codeAny (model X.prog X.w) X.A (.compStart (Bj elt tg iter t1 i1 scope pos) 0 (.ref it) acc {YV with scope:=relabel scope X.env}) (RR acc YV.locals) s₄) E s₃) E s2:=by
 refine dC (z8 (RR:=RR<|.ref s2.heap.objs.size) (BD:=λenv Kp=>gA X (eval i1 env) (λx s₃=>gA X (pyIter x) (λi' s₄=>codeAny (model X.prog X.w) X.A (.compStart (Bj elt tg iter t1 i1 scope pos) 1 i' (.ref s2.heap.objs.size) env) (λr s₅=>match r with |.ok _=>Kp s₅ |.error _=>False) s₄) (λ_ _=>False) s₃) λ_ _=>False) t zA0 S I2 (I2.zBM (t':=s2.toks) (ys:=[]) .nil<|aJ _) T t0 fo2 k2 JO Zg ZR (λX' i ρ' XV F' H'=>∃vs r0 r1,H' s2.heap.objs.size=some (.lst vs)/\F' s2.heap.objs.size=none/\Xh XV ρ' s2.heap.objs.size/\W3 X.K F' vs r0/\XG X' tg t1 i1 elt (ds.drop i) ρ' r1/\r0++r1=rs) (λa b=>codeAny_compStart_list a b) (λcl C R P h n s p=>A9 P (hfs cl C) h n p) (λX' cx Yl=>⟨[],[],rs,bI,k2.sub.free Yl,(k2.more _).noOwn Yl,.nil,run X' cx,rfl⟩) (λX' ρ' XV F' H' s' m C hv IX hm hf a b c d x' Yl Z8=>by obtain⟨vs,r0,r1,h1,h2,_,h3,k,rfl⟩:=hv;rw[xH]at k;cases k;rw[dq]at hRR;exact hRR _ C s' ⟨F',H',vs,m,IX,hm,hf,a,b,c,d,x',Yl,h1,h2,h3,Z8⟩) (λX' cx Yl i d ρ' XV F' H' hd ⟨vs,r0,r1,h1,h2,n1,rv,cr,er⟩=>by
   have eK:X'.K=X.K:=cx.k';have eX:X'.xe=λ_ _=>False:=cx.at0.YX;have eP:=cx.prog;have eW:=cx.w';have eA:=cx.a';generalize e1:ds.drop i=rest at cr;have XQ:=(aG.mp hd).1;cases cr with
   |nil=>have:=bo List.length e1;rw[cO,gQ]at this;lia
   |@take d1 ds0 ds1 ZA rs0 ρ0 W1 ρ2 g ei cf cr'=>
    obtain⟨hd',hdr,_⟩:=kN e1;cases hd.symm.trans hd';refine⟨W1,g,λXn s5 σ5 F5 H5 I5 k5 x5 y5 n5 Kp hk=>?_⟩;have e2:=ei B F5 H5 σ5 (λJ1 H6=>∃F6,Ext ⟨F5,H5⟩ F6 H6/\pW X.K J1 F6 ds1) (by rw[eK];exact k5) (λJ1 F6 H6 x6 j6=>⟨F6,x6,by rw[eK]at j6;exact j6⟩) Xn s5 I5;unfold gA at e2;rw[eP,eW,eA,eX]at e2;refine fD e2 λv s6 h6=>fD h6 λitv s7 h7=>?_;obtain⟨it1,fp1,tn1,J1,H6,ev,I7,T1,t1',fo1,F6,x6,JO1⟩:=h7;subst ev;have y6:=x5.t x6;have inner:=HC (X:=X') (t0:=tg) (i0:=iter) (i1:=i1) (scope:=scope) (pos:=pos) (F2:=F2) (H2:=H2) (B:=B) (r00:=r0) (rs:=ZA) (ρ2:=ρ2) (elt:=elt) (R:=λr s₅=>match r with |.ok _=>Kp s₅ |.error _=>False) (cx.cal.trans zA0) eX T1 I7 t1' fo1 (by rw[eK];exact k5.ext x6) (by rw[eK];exact JO1) (y5.t x6) Yl (k2.sh.free Yl) (y6.sh _ _ h1) (y6.kf h2 h1) (n5 _ n1) (by rw[eK];exact rv.mono y6.sf) cf (by
     have e3:=bo List.length er;rw[aA,aA,cf.len]at e3;lia) λσ8 F8 H8 vs8 s8 I8 k8 x8 sf8 h8 f8 n8 r8=>by
     rw[eK]at k8 r8;exact hk s8 ρ2 σ8 F8 H8 I8 k8 x8 ⟨vs8,r0++ZA,rs0,h8,f8,n8,r8,by rw[hdr];exact cr',by rw[dX];exact er⟩
    rw[eP,eW,eA]at inner;exact inner))
def Nl(t:At X N sc)(N':fV)(S:kT N sc N' scope)(hi:X5 X U tg iter ds)(hz:rs.length<sizeLine)(run:∀X',XY X X' N' (pC scope sc) (tX scope)->XG X' tg t1 i1 elt ds (U++List.replicate (N'.length-N.length) .un) rs)(hs:∀x,foldedSetIterable iter X.env x=pure x:=by intro _;rfl)(hfs:∀cl C x,foldedSetIterable i1 (compEnvC scope cl C X.env) x=pure x:=by intro _ _ _;rfl):Xe X U (Bj elt tg iter t1 i1 scope pos) rs:=λB F H Y Q k q=>.mk λon s I=>by let⟨cl,e1,e2,e3⟩:=vC t.z S I;rw[eval_ListComp];refine js rfl hs e1 S.kind S.names (fD (hi B F H Y (λJ H1=>∃F1,Ext ⟨F,H⟩ F1 H1/\pW X.K J F1 ds) k (λJ F' H' x j=>⟨F',x,j⟩) on s I) λv s1 h=>fD h λitv s2 h2=>?_);let⟨it,fp,tn,J,H',e,I2,T,t0,fo,F1,x1,JO⟩:=h2;subst e;refine B6 t.z t.calm S I2 T t0 fo (k.ext x1) JO hz hfs e2 e3 (λX' c0=>run X'<|c0.calm t.calm) ?_;rintro D' C s' ⟨F',Zq,vs,m,IX,hm,h0,hL,hs0,hcl,hpn,x',Z7,hd,hf,rv,Z8⟩;refine⟨m,hm,λh'' sb=>?_⟩;have IX':Inv X on Y Zq {s' with heap:=h''}:=IX.turned (λb o hb e=>sb.extBut b o hb e) h0 hL (.inr hs0) hcl hpn;exact⟨.ref D',Zq,IX',rfl,q D' vs F' Zq (x1.t x') (x1.sh.free Z7) hd hf rv⟩
end
theorem HP(x:Int)(k:Nat):Builtin.bitAnd x (2 ^ k-1)=x%2 ^ k:=by
 have e:((2:Int) ^ k-1)=((2 ^ k-1:Nat):Int):=by have:1<=2 ^ k:=iA;rw[Qu this,si];rfl
 have hp:(0:Int)<=2 ^ k-1:=by rw[e];exact Int.natCast_nonneg _
 have et:((2:Int) ^ k-1).toNat=2 ^ k-1:=by rw[e];exact bQ _
 have ek:((2 ^ k:Nat):Int)=(2:Int) ^ k:=by rw[si];rfl
 by_cases hx:0<=x;rw[bitAnd_pp hx hp,et,N7,Int.natCast_emod,ek,Gj hx];rw[bitAnd_np hx hp,et,Nat.and_comm,N7,Int.natCast_emod,ek];unfold Builtin.bitNot;rw[Gj<|by lia];have zEH:(0:Int)<2 ^ k:=by rw[<-ek];exact Int.natCast_pos.mpr<|Nat.two_pow_pos k
 generalize(2:Int) ^ k=m at*;have h1:=bO (-x-1)<|Int.ne_of_gt zEH;have h2:=bK (-x-1) zEH;have h3:=Int.mul_ediv_add_emod (-x-1) m;have h4:x=m-1-(-x-1)%m+m*(-((-x-1) / m)-1):=by
  have:m*(-((-x-1) / m)-1)=-(m*((-x-1) / m))-m:=by rw[Int.mul_sub,DX,Ol]
  lia
 have h5:x%m=(m-1-(-x-1)%m)%m:=by
  conv=>lhs;rw[h4]
  rw[uz]
 have h6:(m-1-(-x-1)%m)%m=m-1-(-x-1)%m:=vS (by lia) (by lia);rw[h5,h6]
section
variable {X:Cx}
def O6:oS X (binaryOp .LShift) (rI (λi j=>0<=j/\(Builtin.Int.intBits i:Int)+j<=2 ^ 27) λi j=>.int<|i*2 ^ j.toNat):=O8 λ_ _ _ _ _ _ _ hc q=>lshift_int hc.1 hc.2 q
def PH(ha:W0 X U a (.int i))(hb:W0 X U b (.int j))(h0:0<=j)(h1:(Builtin.Int.intBits i:Int)+j<=2 ^ 27):W0 X U (.BinOp a .LShift b pos) (.int<|i*2 ^ j.toNat):=nN O6 ha hb ⟨h0,h1⟩ rfl
def Hs(ha:W0 X U a (.int i))(hb:W0 X U b (.int j))(h0:0<=j):W0 X U (.BinOp a .RShift b pos) (.int<|i / 2 ^ j.toNat):=nN RQ ha hb h0 rfl
def PM{k:Nat}(ha:W0 X U a (.int i))(hb:W0 X U b (.int<|2 ^ k-1)):W0 X U (.BinOp a .BitAnd b pos) (.int<|i%2 ^ k):=zx RY ha hb<|HP i k
def KP(hc:X.calm=true):kG X (.builtin "sum") (λxs H Q=>∃(l:Addr)(ns:az),xs=[.ref l]/\XU X.K H l (ns.map V.int)/\Q (.int ns.sum) H):=by
 intro on s Y H xs us Q I r h;obtain⟨l,ns,rfl,sl,q⟩:=h;obtain⟨u,rfl,ru⟩:=oz r;cases(ru);obtain⟨vs,rv,pl,hz⟩:=I.list sl;have hb:=zp rv;have hl:=pl.isList;obtain⟨zs,ez⟩:=hb.allInts.items;have en:zs.toList.map (·.1)=ns:=by rw[<-nums_intItems,<-ez];exact hb.numsOf
 rw[ez]at hl;refine sum_intListG (I.ok.hd hc) hl λh' tk t' hk=>?_;rw[preSum_eq,AA<|by simp,en];exact⟨.int ns.sum,H,I.kept (t':=tk) hk,⟨t',rfl⟩,q⟩
def Sy{ns:az}(t:At X N sc)(bl:tN X sc x (.builtin "sum"))(ha:Yj X U e true (ns.map D.int))(Yq:Pl e:=by intro _ _;rfl):W0 X U (.Call (.Name x p) [e] [] pos) (.int ns.sum):=.of (iY (KP t.calm) (hJ t bl.g) bl.m bl.v (dH cF gh<|Yq _ _) bl.n bl.d (Yq _ _) rfl) λB F H Y Q k' q=>ha B F H Y _ k' λl vs F' H' x' sl rl=>by have e:=rl.ZD;subst e;exact⟨l,ns,rfl,sl,q _ F' H' x'<|.int _⟩
def Pd:U7 X "int.bit_length" (λx xs H Q=>∃i,x=.int i/\xs=[]/\Q (.int<|Builtin.Int.intBits i) H):=by intro on s Y H x xs v us Q I rx rv h;obtain⟨i,rfl,rfl,q⟩:=h;obtain⟨tk,rfl⟩:=(rx);have hus:=rv.zero;subst hus;exact call_int_bit_length ⟨.int _,H,I.tok _,⟨_,rfl⟩,q⟩
def PQ{apos:Pos}{Xd:Pos}(ha:W0 X U a (.int i))(YS:attributeBase a "bit_length" X.env (eval a X.env)=eval a X.env:=by rfl)(Xx:(apos.endLine==Xd.line)=true:=by rfl):W0 X U (.Call (.Attribute a "bit_length" apos) [] [] Xd) (.int<|Builtin.Int.intBits i):=.of (yY PySem.F.plainAttrs_int PySem.F.slot_int_bit_length PySem.F.type_int_bit_length Pd cF YS Xx) λB F H Y Q k q=>ha B F H Y _ k λv F' H' x' r=>by cases r;exact⟨rfl,i,rfl,rfl,q _ F' H' x'<|.int _⟩
end
mutual
inductive GP(K:gS):Value->PyData->Prop where
 |int (i:Int) (t:Tok):GP K (.int i t) (.int i)
 |str (x:Str) (t:Tok):GP K (.str x t) (.str x)
 |tup {a:Addr} {o:Obj} {its:Array Value} {n:Nat} {ps:List PyData}:K.lookup a=some o->o.cls=.type "tuple"->o.data=.seq its n->GPs K its.toList ps->GP K (.ref a) (.tuple ps)
inductive GPs(K:gS):jt->List PyData->Prop where
 |nil:GPs K [] []
 |cons {v:Value} {vs:jt} {p:PyData} {ps:List PyData}:GP K v p->GPs K vs ps->GPs K (v::vs) (p::ps)
end
mutual
theorem GP.reads(i:K.In h):∀{v:Value}{p:PyData},GP K v p->∃as,Reads h v p as
 |_,_,.int i t=>⟨_,.int i t⟩|_,_,.str x t=>⟨_,.str x t⟩
 |_,_,.tup e c d r=>by obtain⟨as,ra⟩:=GPs.reads i r;exact⟨_,.tuple (i _ _ e) c d ra⟩
theorem GPs.reads(i:K.In h):∀{vs:jt}{ps:List PyData},GPs K vs ps->∃as,ReadsAll h vs ps as|_,_,.nil=>⟨_,.nil⟩|_,_,.cons a b=>by obtain⟨as,ra⟩:=GP.reads i a;obtain⟨bs,rb⟩:=GPs.reads i b;exact⟨_,.cons ra rb⟩
end
section
variable {X:Cx}{ds:ck}
def Pk:D->Bool|.Xf=>true |.bl _=>true |.int _=>true |.str _=>true |.tup _=>true |.lst _=>true |.Xm _=>true |_=>false
def Pv(hk:kitOne X.K (.type "dict") (.type T)=some k):kG X (.builtin "isinstance") (λxs H Q=>∃x F kvs,xs=[x,.ty T]/\W8 F H/\Rep X.K F x (.Xm kvs)/\Q (.bl k) H):=by
 intro on s Y H xs us Q I r h;obtain⟨v,F,kvs,rfl,sub,rv,q⟩:=h;obtain⟨u,w,rfl,ru,Yi⟩:=D6 r;cases(Yi);cases rv with|@Xm a ob _ zs hf _=>
 cases(ru);obtain⟨_,_,o,h1,h2,_⟩:=Yk.is I (.inr ⟨ob,sub _ _ hf⟩:Yk H a zs);exact eT K9 I.Zf ⟨o,h1,h2.1⟩ hk (λz=>nomatch z) λtk=>⟨.bl k,H,I.tok tk,rfl,q⟩
def PN(t:At X N sc)(bl:tN X sc x (.builtin "isinstance"))(bt:tN X sc y (.type T))(ha:W0 X U a d)(hp:Pk d=true)(hk:kitOne X.K (UX d) (.type T)=some k)(hpa:Pl a:=by intro _ _;rfl):W0 X U (.Call (.Name x p) [a,.Name y py] [] pos) (.bl k):=by
 cases d with
 |Xm kvs=>exact .of (iY (Pv hk) (hJ t bl.g) bl.m bl.v (dH cF (dH (IP (v:=.ty T) (hJ t bt.g) bt.m bt.v rfl bt.n bt.d) gh)<|hpa _ _) bl.n bl.d (hpa _ _) rfl) λB F H Y Q k' q=>ha B F H Y _ k' λv F' H' x' r=>⟨v,F',kvs,rfl,x'.sub,r,q _ F' H' x'<|.bl k⟩
 |Xf=>exact t8 t bl bt ha hk (hpa:=hpa)|bl _=>exact t8 t bl bt ha hk (hpa:=hpa)
 |int _=>exact t8 t bl bt ha hk (hpa:=hpa)|str _=>exact t8 t bl bt ha hk (hpa:=hpa)
 |tup _=>exact t8 t bl bt ha hk (hpa:=hpa)|lst _=>exact t8 t bl bt ha hk (hpa:=hpa)
 |Yh _=>cases hp
 |exc _=>cases hp
 |exh _ _=>cases hp
 |adr _=>cases hp
 |stt _=>cases hp
def Ul:D->Bool|.tup _=>true |_=>false
def Nc(t:At X N sc)(bl:tN X sc x (.builtin "isinstance"))(bt:tN X sc y (.type "tuple"))(ha:W0 X U a d)(hp:Pk d=true)(hpa:Pl a:=by intro _ _;rfl):W0 X U (.Call (.Name x p) [a,.Name y py] [] pos) (.bl<|Ul d):=PN t bl bt ha hp (by cases d<;>first |rfl |cases hp) hpa
def L1{apos Xd:Pos}{U:dP}{pos:Pos}(t:At X N sc)(i:Nat)(hr:U[i]?=some (.own xs))(h:W0 X U e (.lst ys))(hz:xs.length+ys.length<=sizeLine)(hN:N[i]?=some y:=by rfl)(hv:kC sc y=true:=by rfl)(hx:gv y=true:=by rfl)(hs:Ii e [] X.env:=by rfl)(Xx:(apos.endLine==Xd.line)=true:=by rfl)(Zv:JT Xd [] X.env:=by rfl)(ZG:Tw Xd [e] X.env:=by rfl)(ZE:swapsWith (.Call (.Attribute (.Name y p) "extend" apos) [e] [] Xd) none pos.line X.env=pure false:=by rfl):XX X U (.Expr (.Call (.Attribute (.Name y p) "extend" apos) [e] [] Xd) pos) (.nx<|U.set i<|.own<|xs++ys):=.of (u5 (QP gI PySem.F.slot_list_extend PySem.F.type_list_extend Km cF (dH cF gh hs) rfl ZG Xx hs Zv) ZE) λB F H Y E k q=>nP t hr hN hv hx k λl vs h1 h2 h3=>⟨.inl ⟨rfl,_,XU.of h2⟩,h B F H Y _ k λv F' H' x' r=>by
   cases r with|@lst b ws _ hf rl=>
   have k':=k.ext x';refine⟨l,b,vs,ws,rfl,rfl,x'.sh _ _ h2,x'.sub _ _ hf,by rwa[h3.length,rl.length],?_⟩;exact q F' _ _ (k'.Ye (vs:=vs) hr h1 ((h3.mono x'.sf).append rl)) x'.sf⟩
end
section
variable {X:Cx}{rest:List Stmt}
def SD(ha:W5 X U a u)(hb:u=false->W5 X U b v)(hc:u=false->v=false->W5 X U c w):W5 X U (.BoolOp .Or [a,b,c] pos) (u||(v||w)):=by cases u with|true=>exact XT.toT (t7 ha)|false=>cases v with|true=>exact XT.toT (mQ ha<|t7<|hb rfl)|false=>exact XT.toT<|mQ ha<|mQ (hb rfl)<|pJ<|hc rfl rfl
end
theorem Xc.scan{X:Cx}{Y:Type}(R:Y->dP)(I:Nat->Y->Prop):∀(ds:ck)(k:Nat)(s:Y),I k s->(∀(j:Nat)s d,ds[j]?=some d->I (k+j) s->(∃W1,Yr X (R s) tg d W1/\W4 X W1 body (.rt d0))\/∃s' W1,Yr X (R s) tg d W1/\W4 X W1 body (.nx<|R s')/\I (k+j+1) s')->∃o,Xc X tg body ds (R s) o/\(o=.rt d0\/∃s',o=.nx (R s')/\I (k+ds.length) s')
 |[],k,s,h,_=>⟨_,.nil,.inr ⟨s,rfl,h⟩⟩
 |d::ds,k,s,h,st=>by
  rcases st 0 s d rfl h with⟨W1,g,b⟩ |⟨s',W1,g,b,h'⟩;exact⟨_,.ret g b,.inl rfl⟩;obtain⟨o,ro,ho⟩:=Xc.scan R I ds (k+1) s' h' λj s d e i=>by have:=st (j+1) s d e (by rwa[show k+(j+1)=k+1+j by lia]);rwa[show k+(j+1)+1=k+1+j+1 by lia]at this
  refine⟨o,.cons g b ro,ho.imp id λ⟨s2,e,i⟩=>⟨s2,e,?_⟩⟩;rwa[show k+(d::ds).length=k+1+ds.length by rw[bB];lia]
def Jz{X:Cx}{rest:List Stmt}{ds:ck}{Y:Type}(t:At X N sc)(R:Y->dP)(I:Nat->Y->Prop)(s0:Y)(hi:X5 X (R s0) tg it ds)(h0:I 0 s0)(st:∀(j:Nat)s d,ds[j]?=some d->I j s->(∃W1,Yr X (R s) tg d W1/\W4 X W1 body (.rt d0))\/∃s' W1,Yr X (R s) tg d W1/\W4 X W1 body (.nx<|R s')/\I (j+1) s')(fin:∀s,I ds.length s->W4 X (R s) rest (.rt d0))(hs:∀x,foldedSetIterable it X.env x=pure x:=by intro _;rfl):W4 X (R s0) (.For tg it body [] pos::rest) (.rt d0):=by
 obtain⟨o,ro,ho⟩:=Xc.scan (X:=X) (tg:=tg) (body:=body) (d0:=d0) R I ds 0 s0 h0 λj s d e i=>by rw[fh]at i ⊢;exact st j s d e i
 have run:=gY (pos:=pos) t hi ro hs;rcases ho with rfl |⟨s',rfl,i⟩;exact ff run;rw[fh]at i;exact ay run<|fin s' i
theorem XD.scan{X:Cx}{Y:Type}(R:Y->dP)(I F:Y->Prop)(μ:Y->Nat)(st:∀s,I s->(W5 X (R s) c false/\F s)\/(W5 X (R s) c true/\(W4 X (R s) body (.rt d0)\/∃s',W4 X (R s) body (.nx<|R s')/\I s'/\μ s'<μ s))):∀(n:Nat)(s:Y),μ s<=n->I s->∃m o,XD X c body m (R s) o/\(o=.rt d0\/∃s',o=.nx (R s')/\F s')|n,s,hn,hI=>by rcases st s hI with⟨h1,h2⟩ |⟨h1,h2 |⟨s',h2,h3,h4⟩⟩;exact⟨0,_,.stop h1,.inr ⟨s,rfl,h2⟩⟩;exact⟨0,_,.ret h1 h2,.inl rfl⟩;cases n with|zero=>lia|succ n=>let⟨m,o,hr,ho⟩:=XD.scan R I F μ st n s' (by lia) h3;exact⟨m+1,o,.step h1 h2 hr,ho⟩
def mF{X:Cx}{rest:List Stmt}{Y:Type}(t:At X N sc)(R:Y->dP)(I F:Y->Prop)(μ:Y->Nat)(s0:Y)(h0:I s0)(st:∀s,I s->(W5 X (R s) c false/\F s)\/(W5 X (R s) c true/\(W4 X (R s) body (.rt d0)\/∃s',W4 X (R s) body (.nx<|R s')/\I s'/\μ s'<μ s)))(fin:∀s,F s->W4 X (R s) rest (.rt d0)):W4 X (R s0) (.While c body [] pos::rest) (.rt d0):=by let⟨m,o,hr,ho⟩:=XD.scan R I F μ st (μ s0) s0 (ao _) h0;have run:=iu (pos:=pos) t ⟨m,hr⟩;rcases ho with rfl |⟨s',rfl,hf⟩;exact ff run;exact ay run<|fin s' hf
def mod_lt{x:Int}{xs:ck}(h:xs≠[]):(x%(xs.length:Int)).toNat<xs.length:=by have:0<xs.length:=ar.mpr h;have:=bK x (show 0<(xs.length:Int)by lia);have:=bO x (show(xs.length:Int)≠0 by lia);lia
structure Kd(K:gS)(x:Str)(st:Stmt)(f:Addr)(fd:FuncData):Prop where
 a:nsIn K mainGlobals x=some (some<|.ref f)
 F:Fun K x x st f fd
structure Bn(K:gS)(mg:AE)(x:Str)(f:Addr)(fd:FuncData)(ps:fV):Prop where
 m:mg x=some (.ref f)
 k:keepIn K (.ref f)=true
 b:Binds K fd ps []
section
variable {st:Stmt}{ps:fV}
def kd{an:Option Addr}{kV doc pm XR ct:Value}{x:Str}(a:nsIn K mainGlobals x=some (some<|.ref f))(l:K.lookup f=some ⟨oc,od,.func<|fnOf x x (lC st) (ft st) (aK st) .none kV doc pm an XR ct,osl⟩)(c:codeIn K XR x=true)(k:keepIn K (.ref f)=true):Kd K x st f (fnOf x x (lC st) (ft st) (aK st) .none kV doc pm an XR ct):=⟨a,Ss l c k⟩
def Kd.b1(d:Kd K x st f fd)(X:K.In h)(G:h.Ns mainGlobals mg)(S:bx N [p] (aK st))(hb:∀(kV doc pm:Value)(an:Option Addr)(XR ct a:Value),bindArgs (fnOf x x (lC st) (ft st) (aK st) .none kV doc pm an XR ct) ⟨[a],[]⟩=pure ([p].zip [a]):=by intros;rfl):Bn K mg x f fd [p]:=⟨wP X G d.a,d.F.kp,d.F.binds λkV doc pm an XR ct us hl=>match us,hl with |[a],_=>hb kV doc pm an XR ct a⟩
def Kd.b2(d:Kd K x st f fd)(X:K.In h)(G:h.Ns mainGlobals mg)(S:bx N [p,q] (aK st))(hb:∀(kV doc pm:Value)(an:Option Addr)(XR ct a b:Value),bindArgs (fnOf x x (lC st) (ft st) (aK st) .none kV doc pm an XR ct) ⟨[a,b],[]⟩=pure ([p,q].zip [a,b]):=by intros;rfl):Bn K mg x f fd [p,q]:=⟨wP X G d.a,d.F.kp,d.F.binds λkV doc pm an XR ct us hl=>match us,hl with |[a,b],_=>hb kV doc pm an XR ct a b⟩
def Kd.b3(d:Kd K x st f fd)(X:K.In h)(G:h.Ns mainGlobals mg)(S:bx N [p,q,r] (aK st))(hb:∀(kV doc pm:Value)(an:Option Addr)(XR ct a b c:Value),bindArgs (fnOf x x (lC st) (ft st) (aK st) .none kV doc pm an XR ct) ⟨[a,b,c],[]⟩=pure ([p,q,r].zip [a,b,c]):=by intros;rfl):Bn K mg x f fd [p,q,r]:=⟨wP X G d.a,d.F.kp,d.F.binds λkV doc pm an XR ct us hl=>match us,hl with |[a,b,c],_=>hb kV doc pm an XR ct a b c⟩
def DefX.ca{X:Cx}{C:ck->D->Prop}(h:DefX P w K mg base k N sc X)(F:mw P w K mg base uw j f fd ps (Rm K C))(b:Bn K mg x f fd ps)(hj:j<=k:=by decide):EV.Callee X x C:=h.callee F hj b.m b.k b.b
def DefX.caD{X:Cx}{C:ck->jj->Prop}(h:DefX P w K mg base k N sc X)(F:mw P w K mg base uw j f fd ps (OD K C))(b:Bn K mg x f fd ps)(hj:j<=k:=by decide):EV.XE X x C:=h.YI F hj b.m b.k b.b
def DefX.caM{X:Cx}{C:ck->ck->D->ck->Prop}(h:DefX P w K mg base k N sc X)(F:mw P w K mg base uw j f fd ps (U1 K C))(b:Bn K mg x f fd ps)(hj:j<=k:=by decide):EV.YL X x C:=h.zBX F hj b.m b.k b.b
def DefX.caN{X:Cx}{C:ck->ck->Prop}(h:DefX P w K mg base k N sc X)(F:mw P w K mg base uw j f fd ps (U0 K C))(b:Bn K mg x f fd ps)(hj:j<=k:=by decide):EV.YK X x C:=h.zBW F hj b.m b.k b.b
end
def DefX.bt{X:Cx}{x:Str}(h:DefX P w K mg base k N sc X)(m:mg x=none)(g:Oa sc x:=by rfl)(v:bootBuiltins x=some u:=by rfl)(n:x≠"__name__":=by decide)(d:D2 x:=by rfl):tN X sc x u:=⟨g,by rw[h.Ze];exact m,v,n,d⟩
def kE{N P:fV}{sc:Scope}(h:sc.kind=.function/\sc.isCoroutine=false/\sc.isGenerator=false/\N.Nodup/\N.take P.length=P/\(∀x∈P,sc.names.lookup x=some .local\/sc.names.lookup x=some .cell)/\∀y∈sc.names,y.2≠.free):bx N P sc:=⟨h.1,h.2.1,h.2.2.1,h.2.2.2.1,h.2.2.2.2.1,h.2.2.2.2.2.1,h.2.2.2.2.2.2⟩
end L2.EV
namespace My
open PySem PySem.W PyProof.Rows
variable {α:Type}
variable {K:gS}
section
variable {r:Nat->Int}
def XC(n:Nat)(r:Nat->Int):KasT α->(α->Prop)->Prop|.ret a,G=>G a|.ask i j k,G=>i<n/\j<n/\XC n r (k<|decide<|r i<r j) G
theorem XC.mono{G G':α->Prop}(h:∀a,G a->G' a):∀{t:KasT α},XC n r t G->XC n r t G'|.ret _,z=>h _ z|.ask _ _ _,z=>⟨z.1,z.2.1,XC.mono h z.2.2⟩
theorem XC.bind{β:Type}{f:α->KasT β}{G:β->Prop}:∀{t:KasT α},XC n r t (λa=>XC n r (f a) G)->XC n r (t.bind f) G|.ret _,z=>z|.ask _ _ _,z=>⟨z.1,z.2.1,XC.bind z.2.2⟩
theorem XC.wp{n:Nat}{cmp:Nat->Nat->(Bool->Shared->Prop)->Shared->Prop}{G:α->Shared->Prop}(hc:∀i j C,i<n->j<n->C (decide<|r i<r j) s->cmp i j C s):∀{t:KasT α}{H:α->Prop},XC n r t H->(∀a,H a->G a s)->t.kasWp cmp G s|.ret a,H,z,h=>h a z|.ask i j k,H,z,h=>hc i j _ z.1 z.2.1<|XC.wp hc z.2.2 h
def Pm(n:Nat)(p:Array Nat):Prop:=p.Perm<|List.toArray<|List.range n
def Pm.size{p:Array Nat}(h:Pm n p):p.size=n:=by rw[Array.Perm.size_eq h];simp
def Pm.lt{i:Nat}{p:Array Nat}(h:Pm n p)(hi:i<n):p.getD i 0<n:=by
 have hs:i<p.size:=by rwa[h.size]
 have hm:p.getD i 0∈p:=by rw[show p.getD i 0=p[i]by simp[hs]];exact Array.getElem_mem hs
 have:=(Array.Perm.mem_iff h).mp hm;simpa using this
def Kp(r:Nat->Int)(p:Array Nat)(i:Nat):Int:=r<|p.getD i 0
def Gc{i j:Nat}{p q:Array Nat}(h:p[i]?=q[j]?):Kp r p i=Kp r q j:=by unfold Kp;rw[eJ,eJ,h]
def DP{j:Nat}{p:Array Nat}(hj:j<=p.size)(k:Nat):Kp r (kas_rev p i j) k=if i<=k/\k<j then Kp r p (i+j-1-k)else Kp r p k:=by have e:=getElem?_mirror_all (i:=i) hj k;split;rename_i h;rw[ag h]at e;exact Gc e;rename_i h;rw[af h]at e;exact Gc e
def N3{src d:Nat}{p:Array Nat}(hs:src<p.size)(hd:d<=src)(k:Nat):Kp r (bubble p src d) k=if k=src-d then Kp r p src else if src-d<k/\k<=src then Kp r p (k-1)else Kp r p k:=by have e:=getElem?_bubble hs d hd k;split;rename_i h;rw[ag h]at e;exact Gc e;rename_i h1;rw[af h1]at e;split;rename_i h;rw[ag h]at e;exact Gc e;rename_i h;rw[af h]at e;exact Gc e
def Pm.rev{p:Array Nat}(h:Pm n p)(i j:Nat):Pm n (kas_rev p i j):=(mirror_perm _ _ _ _).trans h
def Pm.bub{p:Array Nat}(h:Pm n p)(i j:Nat):Pm n (bubble p i j):=(bubble_perm _ _ _).trans h
def Zt(r:Nat->Int)(p:Array Nat)(m:Nat):Prop:=∀i j,i<=j->j<m->Kp r p i<=Kp r p j
def ZM(r:Nat->Int)(p:Array Nat)(m:Nat):Prop:=∀i j,i<=j->j<m->Kp r p j<=Kp r p i
def Zt.one{p:Array Nat}:Zt r p 1:=λi j h1 h2=>by rw[show i=j by lia];exact DY _
def Zt.more{p:Array Nat}(h:Zt r p m)(hm:1<=m)(hk:Kp r p (m-1)<=Kp r p m):Zt r p (m+1):=λi j h1 h2=>by by_cases e:j<m;exact h i j h1 e;by_cases q:i=j;rw[q];exact DY _;have:=h i (m-1) (by lia) (by lia);rw[show j=m by lia];lia
def ZM.more{p:Array Nat}(h:ZM r p m)(hm:1<=m)(hk:Kp r p m<=Kp r p (m-1)):ZM r p (m+1):=λi j h1 h2=>by by_cases e:j<m;exact h i j h1 e;by_cases q:i=j;rw[q];exact DY _;have:=h i (m-1) (by lia) (by lia);rw[show j=m by lia];lia
def ZM.turn{p:Array Nat}(h:ZM r p m)(hm:m<=p.size):Zt r (kas_rev p 0 m) m:=λi j h1 h2=>by rw[DP hm,DP hm,ag<|by lia,ag<|by lia];exact h _ _ (by lia)<|by lia
def Eqs(r:Nat->Int)(p:Array Nat)(m q:Nat):Prop:=∀k,m-(q+1)<=k->k<m->Kp r p k=Kp r p (m-1)
def Eqs.rev{p:Array Nat}(h:Eqs r p m q)(hm:m<=p.size)(k:Nat):Kp r (kas_rev p (m-(q+1)) m) k=Kp r p k:=by rw[DP hm];split;rw[h _ (by lia)<|by lia,h k (by lia)<|by lia];rfl
def ZM.of{p p':Array Nat}(h:ZM r p m)(e:∀k,Kp r p' k=Kp r p k):ZM r p' m:=λi j h1 h2=>by rw[e,e];exact h i j h1 h2
theorem GG{p:Array Nat}(hp:Pm n p):∀(f m:Nat),1<=m->m+f<=n->Zt r p m->XC n r (kas_asc p f m) λk=>m<=k/\k<=m+f/\Zt r p k/\(k<m+f->Kp r p k<Kp r p (k-1))
 |0,m,_,_,h=>⟨ao _,ao _,h,λz=>absurd z<|dW _⟩|f+1,m,h1,h2,h=>by refine⟨hp.lt<|by lia,hp.lt<|by lia,?_⟩;by_cases c:r (p.getD m 0)<r (p.getD (m-1) 0);rw[aq c];simp;exact⟨ao _,by lia,h,λ_=>c⟩;rw[aj c];simp;exact(GG hp f (m+1) (by lia) (by lia)<|h.more h1<|Ie.mp c).mono λk z=>⟨by lia,by lia,z.2.2.1,λw=>z.2.2.2<|by lia⟩
theorem xK:∀(f:Nat)(p:Array Nat)(m q:Nat),Pm n p->1<=m->q+1<=m->m+f<=n->ZM r p m->Eqs r p m q->XC n r (kas_desc f p m q) λx=>Pm n x.1/\1<=x.2.1/\x.2.1<=m+f/\x.2.2+1<=x.2.1/\ZM r x.1 x.2.1/\Eqs r x.1 x.2.1 x.2.2
 |0,p,m,q,hp,h1,hq,h2,h,e=>⟨hp,h1,ao _,hq,h,e⟩
 |f+1,p,m,q,hp,h1,hq,h2,h,e=>by
  have sz:=hp.size;refine⟨hp.lt<|by lia,hp.lt<|by lia,?_⟩;by_cases c:r (p.getD m 0)<r (p.getD (m-1) 0);rw[aq c];simp;have one:∀p':Array Nat,Eqs r p' (m+1) 0:=λp' k z1 z2=>by rw[show k=m+1-1 by lia]
  by_cases hq0:q>0;rw[ag hq0];have er:=e.rev (by lia);exact(xK f _ (m+1) 0 (hp.rev _ _) (by lia) (by lia) (by lia) ((h.of er).more h1<|by rw[er,er];exact AC c)<|one _).mono λx z=>⟨z.1,z.2.1,by lia,z.2.2.2⟩;rw[af hq0];exact(xK f p (m+1) 0 hp (by lia) (by lia) (by lia) (h.more h1<|AC c)<|one _).mono λx z=>⟨z.1,z.2.1,by lia,z.2.2.2⟩;rw[aj c];simp only[eB,kY];refine⟨hp.lt<|by lia,hp.lt<|by lia,?_⟩;by_cases d:r (p.getD (m-1) 0)<r (p.getD m 0);rw[aq d];simp;exact⟨hp,h1,xD _ _,hq,h,e⟩;rw[aj d];simp;have eq:Kp r p m=Kp r p (m-1):=Qv (Ie.mp d)<|Ie.mp c;refine(xK f p (m+1) (q+1) hp (by lia) (by lia) (by lia) (h.more h1<|Int.le_of_eq eq) λk z1 z2=>?_).mono λx z=>⟨z.1,z.2.1,by lia,z.2.2.2⟩;show Kp r p k=Kp r p m;by_cases w:k=m;rw[w];rw[e k (by lia)<|by lia,eq]
def D8{m:Nat}{p:Array Nat}(hp:Pm n p)(h1:1<=m)(h2:m<=n)(h:ZM r p m):XC n r (kas_tail3 m n p) λx=>1<=x.1/\x.1<=n/\Pm n x.2/\Zt r x.2 x.1:=XC.bind ((GG (hp.rev _ _) (n-m) m h1 (by lia)<|h.turn<|by rwa[hp.size]).mono λk z=>⟨by lia,by lia,hp.rev _ _,z.2.2.1⟩)
def wR{m:Nat}{p:Array Nat}(hp:Pm n p)(h1:1<=m)(h2:m+1<=n)(h:ZM r p (m+1)):XC n r (kas_descPart m n p) λx=>1<=x.1/\x.1<=n/\Pm n x.2/\Zt r x.2 x.1:=by
 refine XC.bind<|(xK (n-(m+1)) p (m+1) 0 hp (by lia) (by lia) (by lia) h λk z1 z2=>by rw[show k=m+1-1 by lia]).mono ?_;rintro⟨p',m',q⟩ ⟨a1,a2,a3,a4,a5,a6⟩;have a3':m'<=n:=by have:m'<=m+1+(n-(m+1)):=a3;lia
 split;exact D8 (Pm.rev a1 _ _) a2 a3'<|a5.of<|a6.rev (by rwa[a1.size]);exact D8 a1 a2 a3' a5
def LA{n:Nat}{p:Array Nat}(hn:1<=n)(hp:Pm n p):XC n r (kas_count n p) λx=>1<=x.1/\x.1<=n/\Pm n x.2/\Zt r x.2 x.1:=by
 have sz:=hp.size;refine XC.bind<|(GG hp (n-1) 1 (ao _) (by lia) Zt.one).mono ?_;rintro m ⟨a1,a2,a3,a4⟩;by_cases e:m=n;rw[ag<|by simp[e]];exact⟨a1,by lia,hp,a3⟩;rw[af<|by simp[e]];have st:=a4 (by lia);by_cases m1:m>1;rw[ag m1];refine⟨hp.lt<|by lia,hp.lt<|by lia,?_⟩;by_cases c:r (p.getD 0 0)<r (p.getD (m-1) 0);rw[aq c];simp;exact⟨a1,by lia,hp,a3⟩;rw[aj c];simp;have al:∀k,k<m->Kp r p k=Kp r p 0:=λk hk=>by have z1:=a3 0 k (by lia) hk;have z2:=a3 k (m-1) (by lia) (by lia);have z3:Kp r p (m-1)<=Kp r p 0:=Ie.mp c;lia
 have rv:∀k,Kp r (kas_rev p 0 m) k=Kp r p k:=λk=>by rw[DP<|by lia];split;rw[al _<|by lia,al k<|by lia];rfl
 refine wR (hp.rev _ _) a1 (by lia)<|ZM.of (ZM.more (λi j z1 z2=>?_) a1<|AC st) rv;rw[al i<|by lia,al j z2];exact DY _;rw[af m1];refine wR hp a1 (by lia)<|ZM.more (λi j z1 z2=>?_) a1<|AC st;rw[show i=j by lia];exact DY _
theorem ye{k:Nat}{p:Array Nat}(hp:Pm n p)(hk:k<n)(hs:Zt r p k):∀(f l h:Nat),l<=h->h<=k->h-l<=f->(∀i,i<l->Kp r p i<=Kp r p k)->(∀i,h<=i->i<k->Kp r p k<Kp r p i)->XC n r (kas_place p k f l h) λx=>x<=k/\(∀i,i<x->Kp r p i<=Kp r p k)/\∀i,x<=i->i<k->Kp r p k<Kp r p i
 |0,l,h,h1,h2,h3,a,b=>⟨by lia,a,λi z=>b i<|by lia⟩|f+1,l,h,h1,h2,h3,a,b=>by show XC n r (if l≥h then KasT.ret l else _) _;by_cases e:l≥h;rw[ag e];exact⟨by lia,a,λi z=>b i<|by lia⟩;rw[af e];refine⟨hp.lt hk,hp.lt<|by lia,?_⟩;by_cases c:r (p.getD k 0)<r (p.getD ((l+h) / 2) 0);rw[aq c];simp;exact ye hp hk hs f l ((l+h) / 2) (by lia) (by lia) (by lia) a λi z1 z2=>Int.lt_of_lt_of_le (c)<|hs _ _ z1 z2;rw[aj c];simp;exact ye hp hk hs f ((l+h) / 2+1) h (by lia) h2 (by lia) (λi z=>Int.le_trans (hs i ((l+h) / 2) (by lia)<|by lia)<|Ie.mp c) b
theorem LC:∀(f:Nat)(p:Array Nat)(k:Nat),Pm n p->k+f=n->Zt r p k->XC n r (kas_bin f p k) λq=>Pm n q/\Zt r q n
 |0,p,k,hp,e,h=>by rw[<-e];rw[<-e]at hp;exact⟨hp,h⟩
 |f+1,p,k,hp,e,h=>by
  have sz:=hp.size;refine XC.bind<|(ye hp (by lia) h k 0 k (aJ _) (ao _) (by lia) (λi z=>absurd z<|gO _) λi z1 z2=>by lia).mono ?_;rintro l ⟨a1,a2,a3⟩;refine LC f _ (k+1) (hp.bub _ _) (by lia) λi j z1 z2=>?_;rw[N3 (by lia)<|by lia,N3 (by lia)<|by lia,show k-(k-l)=l by lia]
  repeat' split
  all_goals first
   |lia|(exact h _ _ (by lia)<|by lia)
   |(exact a2 _<|by lia)|(exact AC<|a3 _ (by lia)<|by lia)
   |(have:=a2 i (by lia);have:=a3 (j-1) (by lia) (by lia);lia)
def Oq{n:Nat}(hn:1<=n):XC n r (kas_sort n) λq=>Pm n q/\Zt r q n:=by refine XC.bind<|(LA hn<|Array.Perm.refl _).mono ?_;rintro⟨m,p⟩ ⟨a1,a2,a3,a4⟩;by_cases e:m<n;rw[ag e,show max m 1=m by lia];exact LC _ _ _ a3 (by lia) a4;rw[af e,];exact⟨a3,by rwa[show n=m by lia]⟩
end
def U4(xs:Array Nat):Prop:=∀a b,a<b->b<xs.size->xs.getD a 0<xs.getD b 0
theorem Ae{j:Nat}{xs:Array Nat}(hr:U4 xs):∀(f lo hi:Nat),lo<=hi->hi<=xs.size->hi-lo<=f->(∀k,k<lo->xs.getD k j<j)->(∀k,hi<=k->k<xs.size->j<=xs.getD k j)->SetTable.below.go xs j f lo hi<=xs.size/\(∀k,k<SetTable.below.go xs j f lo hi->xs.getD k j<j)/\∀k,SetTable.below.go xs j f lo hi<=k->k<xs.size->j<=xs.getD k j
 |0,lo,hi,h1,h2,h3,a,b=>by have:SetTable.below.go xs j 0 lo hi=lo:=rfl;rw[this];exact⟨by lia,a,λk z=>b k<|by lia⟩
 |f+1,lo,hi,h1,h2,h3,a,b=>by
  have e:SetTable.below.go xs j (f+1) lo hi=if lo<hi then(if xs.getD ((lo+hi) / 2) j<j then SetTable.below.go xs j f ((lo+hi) / 2+1) hi else SetTable.below.go xs j f lo<|(lo+hi) / 2)else lo:=rfl;have dd:∀k,k<xs.size->xs.getD k j=xs.getD k 0:=λk hk=>by simp[hk]
  rw[e];by_cases c:lo<hi;rw[ag c];have hm:(lo+hi) / 2<xs.size:=by lia
  by_cases d:xs.getD ((lo+hi) / 2) j<j;rw[ag d];refine Ae hr f _ hi (by lia) h2 (by lia) (λk z=>?_) b;by_cases q:k=(lo+hi) / 2;rwa[q];have:=hr k _ (by lia) hm;rw[dd k<|by lia];rw[dd _ hm]at d;lia;rw[af d];refine Ae hr f lo _ (by lia) (by lia) (by lia) a λk z1 z2=>?_;by_cases q:k=(lo+hi) / 2;rw[q];lia;have:=hr _ k (show(lo+hi) / 2<k by lia) z2;rw[dd k z2];rw[dd _ hm]at d;lia;rw[af c];exact⟨by lia,a,λk z=>b k<|by lia⟩
def jB{xs:Array Nat}(hr:U4 xs)(j:Nat):SetTable.below xs j<=xs.size/\(∀k,k<SetTable.below xs j->xs.getD k j<j)/\∀k,SetTable.below xs j<=k->k<xs.size->j<=xs.getD k j:=Ae hr xs.size 0 xs.size (aJ _) (ao _) (by lia) (λk z=>absurd z<|gO _) λk z1 z2=>by lia
def getD_some{i:Nat}{xs:Array α}{x d:α}(h:xs[i]?=some x):xs.getD i d=x/\i<xs.size:=by
 have hi:i<xs.size:=by rcases bA i xs.size with z |z;exact z;rw[AD z]at h;cases h
 exact⟨by rw[eJ,h];rfl,hi⟩
def Af{i:Nat}{xs:Array Nat}(hr:U4 xs)(h:xs[i]?=some j):SetTable.below xs j=i:=by obtain⟨a,b,c⟩:=jB hr j;obtain⟨e,hi⟩:=getD_some (d:=j) h;have e0:=(getD_some (d:=0) h).1;rcases fT (SetTable.below xs j) i with z |z |z;have:=hr _ _ z hi;have:=c _ (ao _) (by lia);rw[show xs.getD (SetTable.below xs j) j=xs.getD (SetTable.below xs j) 0 by simp[show SetTable.below xs j<xs.size by lia]]at this;lia;exact z;have:=b i z;lia
structure Tb(t:SetTable):Prop where
 dum:t.dummies=#[]
 ris:U4 t.place
 lim:∀k,k<t.place.size->t.place.getD k 0<=t.mask
def nu{t:SetTable}(h:Tb t)(j:Nat):(∃i:Nat,t.place[i]?=some j/\t.slot j=.live i)\/((∀i:Nat,t.place[i]?≠some j)/\t.slot j=.empty):=by by_cases e:∃i:Nat,t.place[i]?=some j;obtain⟨i,e⟩:=e;refine .inl ⟨i,e,?_⟩;unfold SetTable.slot;simp only[Af h.ris e,e,jk,Av];refine .inr ⟨λi z=>e ⟨i,z⟩,?_⟩;unfold SetTable.slot;have n1:(t.place[SetTable.below t.place j]?==some j)=false:=fU.mpr λz=>e ⟨_,z⟩;simp only[n1,eB,kY];rw[h.dum];rfl
def WE(mask:Nat)(h:Int):SetTable.Probe:={j:=SetTable.bits h%(mask+1),more:=SetTable.runEnd mask (SetTable.bits h%(mask+1))-SetTable.bits h%(mask+1),i:=SetTable.bits h%(mask+1),perturb:=SetTable.bits h,dummy:=none}
def Qi(mask:Nat)(p:SetTable.Probe):SetTable.Probe:=if p.more>0 then{p with j:=p.j+1,more:=p.more-1}else{p with j:=(SetTable.leap mask p.i p.perturb).1,more:=SetTable.runEnd mask (SetTable.leap mask p.i p.perturb).1-(SetTable.leap mask p.i p.perturb).1,i:=(SetTable.leap mask p.i p.perturb).1,perturb:=(SetTable.leap mask p.i p.perturb).2}
def sq(mask:Nat)(h:Int):Nat->SetTable.Probe|0=>WE mask h|m+1=>Qi mask<|sq mask h m
def AN(t:SetTable)(h:Int):t.probeStart h=sq t.mask h 0:=rfl
def HX(t:SetTable)(p:SetTable.Probe):t.advance p=Qi t.mask p:=by unfold SetTable.advance Qi;by_cases c:p.more>0;rw[ag c];rw[af c]
theorem LQ(mask:Nat)(h:Int):∀m,(sq mask h m).dummy=none|0=>rfl|m+1=>by show(Qi mask<|sq mask h m).dummy=none;unfold Qi;split<;>exact LQ mask h m
theorem EK{t:SetTable}(ht:Tb t){hashAt:Nat->Int}(he:t.slot (sq t.mask h e).j=.empty)(hl:∀m,m<e->t.slot (sq t.mask h m).j≠.empty):∀(f m:Nat),m<=e->e<m+f->(SetTable.probe.go t hashAt h f (sq t.mask h m)=some (.empty (sq t.mask h e).j none)/\∀k i,m<=k->k<e->t.slot (sq t.mask h k).j=.live i->hashAt i≠h)\/∃k i,m<=k/\k<e/\t.slot (sq t.mask h k).j=.live i/\hashAt i=h/\SetTable.probe.go t hashAt h f (sq t.mask h m)=some (.candidate (sq t.mask h k).j i<|sq t.mask h<|k+1)/\∀k' i',m<=k'->k'<k->t.slot (sq t.mask h k').j=.live i'->hashAt i'≠h
 |0,m,h1,h2=>by lia
 |f+1,m,h1,h2=>by
  have step:SetTable.probe.go t hashAt h (f+1) (sq t.mask h m)=(match t.slot (sq t.mask h m).j with
   |.empty=>some (.empty (sq t.mask h m).j (sq t.mask h m).dummy)|.dummy=>SetTable.probe.go t hashAt h f<|t.advance {sq t.mask h m with dummy:=some (sq t.mask h m).j}
   |.live i=>if hashAt i==h then some (.candidate (sq t.mask h m).j i (t.advance (sq t.mask h m)))else SetTable.probe.go t hashAt h f (t.advance (sq t.mask h m))):=rfl
  by_cases q:m=e;left;rw[step,q,he];exact⟨by rw[LQ],λk i z1 z2=>by lia⟩;rcases nu ht (sq t.mask h m).j with⟨i,hi,hs⟩ |⟨_,hs⟩;rw[step,hs];dsimp only;rw[HX];by_cases c:hashAt i=h;right;exact⟨m,i,ao _,by lia,hs,c,by rw[ag<|beq_iff_eq.mpr c];rfl,λk' i' z1 z2=>by lia⟩;rw[af<|by simp[c]];rcases EK ht he hl f (m+1) (by lia) (by lia)with⟨a,b⟩ |⟨k,i',a1,a2,a3,a4,a5,a6⟩;refine .inl ⟨a,λk i2 z1 z2 z3=>?_⟩;by_cases w:k=m;rw[w,hs]at z3;cases z3;exact c;exact b k i2 (by lia) z2 z3;refine .inr ⟨k,i',by lia,a2,a3,a4,a5,λk2 i2 z1 z2 z3=>?_⟩;by_cases w:k2=m;rw[w,hs]at z3;cases z3;exact c;exact a6 k2 i2 (by lia) z2 z3;exact absurd hs<|hl m<|by lia
def lp(mask:Nat)(h:Int):Nat->Nat×Nat|0=>(SetTable.bits h%(mask+1),SetTable.bits h)|L+1=>SetTable.leap mask (lp mask h L).1 (lp mask h L).2
def rl(mask i:Nat):Nat:=SetTable.runEnd mask i-i
def pF(mask:Nat)(h:Int):Nat->Nat|0=>0|L+1=>pF mask h L+rl mask (lp mask h L).1+1
def TV(mask i:Nat):rl mask i<=9:=by unfold rl SetTable.runEnd;split<;>lia
theorem Jd(mask:Nat)(h:Int):∀L,pF mask h L<=10*L|0=>ao _|L+1=>by have:=Jd mask h L;have:=TV mask (lp mask h L).1;show pF mask h L+rl mask (lp mask h L).1+1<=_;lia
def WH(i p c:Nat)(mask:Nat):SetTable.Probe:={j:=i+c,more:=rl mask i-c,i:=i,perturb:=p,dummy:=none}
theorem Ej(mask:Nat)(h:Int):∀L c,c<=rl mask (lp mask h L).1->sq mask h (pF mask h L+c)=WH (lp mask h L).1 (lp mask h L).2 c mask
 |0,0,_=>rfl|L+1,0,_=>by show Qi mask (sq mask h<|pF mask h L+rl mask (lp mask h L).1)=_;rw[Ej mask h L _<|ao _];unfold Qi;rw[af<|by show¬(rl mask _-rl mask _>0);lia];rfl
 |L,c+1,hc=>by show Qi mask (sq mask h<|pF mask h L+c)=_;rw[Ej mask h L c<|by lia];unfold Qi;rw[ag<|by show rl mask _-c>0;lia];congr 1
theorem Jb(mask:Nat)(h:Int):∀L,(lp mask h L).2<=SetTable.bits h / 32 ^ L|0=>by show SetTable.bits h<=_;simp|L+1=>by rw[iO,<-Nat.div_div_eq_div_mul];exact Nat.div_le_div_right<|Jb mask h L
def Qc(h:Int):SetTable.bits h<2 ^ 64:=by unfold SetTable.bits;have:=bK h (show 0<2 ^ 64 by decide);have:=bO h (show(2 ^ 64:Int)≠0 by decide);lia
def T7{L:Nat}(mask:Nat)(h:Int)(hL:13<=L):(lp mask h L).2=0:=by have a:=Jb mask h L;have b:=Qc h;have c:32 ^ 13<=32 ^ L:=ba (by decide) hL;have d:SetTable.bits h / 32 ^ L=0:=Nat.div_eq_of_lt<|aR b<|aL (by decide) c;lia
def To(mask:Nat):Nat->Nat->Nat|0,i=>i|k+1,i=>To mask k<|(i*5+1)%(mask+1)
theorem Hi(mask:Nat)(h:Int):∀k L,13<=L->(lp mask h<|L+k).1=To mask k (lp mask h L).1|0,_,_=>rfl|k+1,L,hL=>by rw[show L+(k+1)=(L+1)+k by lia,Hi mask h k (L+1)<|by lia];show To mask k (((lp mask h L).1*5+1+(lp mask h L).2 / 32)%(mask+1))=_;rw[T7 mask h hL];rfl
def Uk:∀i<8,∀j<8,∃k<8,To 7 k i=j:=by decide
def M1:∀i<32,∀j<32,∃k<32,To 31 k i=j:=by decide
def Jc(mask:Nat)(h:Int):∀L,(lp mask h L).1<mask+1|0=>Th _ (by lia)|L+1=>Th _<|by lia
def Pg{mask:Nat}{j:Nat}(hm:mask=7\/mask=31)(h:Int)(hj:j<=mask):∃m,m<10*(mask+14)/\(sq mask h m).j=j:=by
 obtain⟨k,hk,e⟩:∃k<mask+1,To mask k (lp mask h 13).1=j:=by rcases hm with rfl |rfl;exact Uk _ (Jc 7 h 13) _ (by lia);exact M1 _ (Jc 31 h 13) _<|by lia
 refine⟨pF mask h (13+k)+0,?_,?_⟩;have:=Jd mask h<|13+k;lia;rw[Ej mask h _ 0<|aJ _];rw[Hi mask h k 13<|ao _,e];rfl
def Fo{t:SetTable}(ht:Tb t)(hm:t.mask=7\/t.mask=31)(hs:t.place.size<=t.mask)(h:Int):∃e,e<10*(t.mask+14)/\t.slot (sq t.mask h e).j=.empty/\∀m,m<e->t.slot (sq t.mask h m).j≠.empty:=by
 have ex:∃e,e<10*(t.mask+14)/\t.slot (sq t.mask h e).j=.empty:=by
  refine bz λno=>?_;have all:∀j,j<=t.mask->∃i:Nat,t.place[i]?=some j:=λj hj=>by obtain⟨m,m1,m2⟩:=Pg hm h hj;rcases nu ht j with⟨i,a,_⟩ |⟨_,b⟩;exact⟨i,a⟩;exact absurd ⟨m,m1,by rwa[m2]⟩ no
  have sub:(List.range<|t.mask+1) ⊆ t.place.toList:=λj hj=>by obtain⟨i,a⟩:=all j (by have:=aY.mp hj;lia);exact D1.mpr<|Array.mem_of_getElem? a
  have:=jl List.nodup_range sub;simp at this;lia
 obtain⟨e,h1,h2⟩:=ex;have:∀e,e<10*(t.mask+14)->t.slot (sq t.mask h e).j=.empty->∃e,e<10*(t.mask+14)/\t.slot (sq t.mask h e).j=.empty/\∀m,m<e->t.slot (sq t.mask h m).j≠.empty:=λe=>by induction e using Nat.strongRecOn with|_ e ih=>intro h1 h2;by_cases q:∃m,m<e/\t.slot (sq t.mask h m).j=.empty;obtain⟨m,m1,m2⟩:=q;exact ih m m1 (by lia) m2;exact⟨e,h1,h2,λm z w=>q ⟨m,z,w⟩⟩
 exact this e h1 h2
def zq(xs:Array α)(p:Nat)(x:α):(SetTable.insertAt xs p x).toList=xs.toList.take p++x::xs.toList.drop p:=by unfold SetTable.insertAt;rw[Array.toList_append,Array.toList_push,WV,WV,dX];congr 1;simp[List.extract_eq_take_drop];rw[AA<|by simp]
def pH{p:Nat}{xs:Array α}(hp:p<=xs.size)(x:α)(k:Nat):(SetTable.insertAt xs p x)[k]?=if k<p then xs[k]? else if k=p then some x else xs[k-1]?:=by
 rw[<-c7,zq];have hl:(xs.toList.take p).length=p:=by rw[cX,bw];lia
 by_cases c:k<p;rw[ag c,a8<|by lia,ux,ag c,c7];rw[af c,aQ<|by lia,hl];by_cases d:k=p;rw[ag d,d,eI];rfl;rw[af d,show k-p=(k-1-p)+1 by lia,xG,Ic,show p+(k-1-p)=k-1 by lia,c7]
def vv{p:Nat}{xs:Array α}(hp:p<=xs.size)(x:α):(SetTable.insertAt xs p x).size=xs.size+1:=by rw[<-bw,zq,aA,bB,cX,cO,bw];lia
def Rc(t:SetTable)(h:Int)(j:Nat):Prop:=∃m,(sq t.mask h m).j=j/\∀m',m'<m->t.slot (sq t.mask h m').j≠.empty
structure U3(t:SetTable)(hs:az):Prop where
 tb:Tb t
 mk':t.mask=7\/t.mask=31
 sz:t.place.size=hs.length
 rc:∀(i:Nat)h j,hs[i]?=some h->t.place[i]?=some j->Rc t h j
def tV{t:SetTable}(ht:Tb t)(j:Nat):t.put j=({t with place:=SetTable.insertAt t.place (SetTable.below t.place j) j},SetTable.below t.place j):=by
 unfold SetTable.put;have:SetTable.has t.dummies j=false:=by rw[ht.dum];rfl
 simp only[this,eB,kY]
def Mm{j:Nat}{t:SetTable}(ht:Tb t)(hj:j<=t.mask)(he:t.slot j=.empty):Tb (t.put j).1:=by
 obtain⟨a,b,c⟩:=jB ht.ris j;have ne:∀i:Nat,t.place[i]?≠some j:=by
  rcases nu ht j with⟨i,_,z⟩ |⟨z,_⟩;·rw[he]at z;cases z
  ·exact z
 rw[tV ht];have g:∀k,(SetTable.insertAt t.place (SetTable.below t.place j) j).getD k 0=if k<SetTable.below t.place j then t.place.getD k 0 else if k=SetTable.below t.place j then j else t.place.getD (k-1) 0:=λk=>by
  rw[eJ,pH a]
  repeat' split
  all_goals first |rfl |(rw[eJ])
 have dd:∀k,k<t.place.size->t.place.getD k j=t.place.getD k 0:=λk hk=>by simp[hk]
 have lt:∀k,k<SetTable.below t.place j->t.place.getD k 0<j:=λk hk=>by rw[<-dd k (by lia)];exact b k hk
 have gt:∀k,SetTable.below t.place j<=k->k<t.place.size->j<t.place.getD k 0:=λk h1 h2=>by
  have z:=c k h1 h2;rw[dd k h2]at z;rcases Nat.lt_or_eq_of_le z with w |w;·exact w
  ·exact absurd (by rw[bL h2,w];simp[h2])<|ne k
 refine⟨ht.dum,λx y h1 h2=>?_,λk hk=>?_⟩
 ·have h2':y<t.place.size+1:=by rwa[<-vv a j]
  rw[g,g]
  repeat' split
  all_goals first
   |lia|(exact ht.ris _ _ (by lia)<|by lia)
   |(exact lt _<|by lia)|(exact gt _ (by lia)<|by lia)
   |(have:=lt x (by lia);have:=gt (y-1) (by lia) (by lia);lia)
 ·have Z0:k<t.place.size+1:=by rwa[<-vv a j]
  rw[g]
  repeat' split
  all_goals first |exact hj |exact ht.lim _<|by lia
def EG{j:Nat}{i:Nat}{t:SetTable}(ht:Tb t)(hj:j<=t.mask)(he:t.slot j=.empty)(h:t.slot i≠.empty):(t.put j).1.slot i≠.empty:=by obtain⟨a,_,_⟩:=jB ht.ris j;rcases nu ht i with⟨k,z,_⟩ |⟨_,z⟩;rcases nu (Mm ht hj he) i with⟨_,_,w⟩ |⟨w,_⟩;rw[w];exactλq=>nomatch q;exfalso;rw[tV ht]at w;by_cases c:k<SetTable.below t.place j;exact w k (by rwa[pH a,ag c]);exact w (k+1) (by rwa[pH a,af<|by lia,af<|by lia]);exact absurd z h
def Ry{t:SetTable}(ht:U3 t hs)(he:t.slot (sq t.mask h e).j=.empty)(hj:(sq t.mask h e).j<=t.mask)(hl:∀m,m<e->t.slot (sq t.mask h m).j≠.empty):U3 (t.put (sq t.mask h e).j).1 (hs.take (SetTable.below t.place (sq t.mask h e).j)++h::hs.drop (SetTable.below t.place (sq t.mask h e).j)):=by
 obtain⟨a,_,_⟩:=jB ht.tb.ris (sq t.mask h e).j;have mk:(t.put (sq t.mask h e).j).1.mask=t.mask:=by rw[tV ht.tb]
 have sz:=ht.sz;refine⟨Mm ht.tb hj he,by rw[mk];exact ht.mk',?_,λi h' j' h1 h2=>?_⟩;rw[tV ht.tb];rw[vv a,aA,bB,cX,cO];lia;have keep:∀j' h',Rc t h' j'->Rc (t.put (sq t.mask h e).j).1 h' j':=λj' h' ⟨m,m1,m2⟩=>⟨m,by rwa[mk],λm' z=>by rw[mk];exact EG ht.tb hj he<|m2 m' z⟩;have hlen:(hs.take<|SetTable.below t.place (sq t.mask h e).j).length=SetTable.below t.place (sq t.mask h e).j:=by rw[cX];lia
 rw[tV ht.tb]at h2;replace h2:(SetTable.insertAt t.place (SetTable.below t.place (sq t.mask h e).j) (sq t.mask h e).j)[i]?=some j':=h2;rw[pH a]at h2;by_cases c:i<SetTable.below t.place (sq t.mask h e).j;rw[ag c]at h2;rw[a8<|by lia,ux,ag c]at h1;exact keep _ _<|ht.rc i _ _ h1 h2;rw[af c]at h2;rw[aQ<|by lia,hlen]at h1;by_cases d:i=SetTable.below t.place (sq t.mask h e).j;rw[ag d]at h2;rw[d,eI]at h1;cases h1;cases h2;exact⟨e,by rw[mk],λm' z=>by rw[mk];exact EG ht.tb hj he<|hl m' z⟩;rw[af d]at h2;rw[show i-SetTable.below t.place (sq t.mask h e).j=(i-1-SetTable.below t.place (sq t.mask h e).j)+1 by lia,xG,Ic,show SetTable.below t.place (sq t.mask h e).j+(i-1-SetTable.below t.place (sq t.mask h e).j)=i-1 by lia]at h1;exact keep _ _<|ht.rc (i-1) _ _ h1 h2
def Own(o:Array (Option Nat))(j:Nat):Prop:=o.getD j (some 0)=none
theorem Jq{o:Array (Option Nat)}:∀(f L:Nat),(∃L',L<=L'/\L'<L+f/\Own o (lp mask h L').1)->(∀m,m<pF mask h L->¬Own o (sq mask h m).j)->∃e,SetTable.layClean.free mask o f (lp mask h L).1 (lp mask h L).2=some (sq mask h e).j/\Own o (sq mask h e).j/\∀m,m<e->¬Own o (sq mask h m).j
 |0,L,⟨L',h1,h2,_⟩,_=>by lia
 |f+1,L,hL,ahead=>by
  have stp:SetTable.layClean.free mask o (f+1) (lp mask h L).1 (lp mask h L).2=(match(List.range<|SetTable.runEnd mask (lp mask h L).1+1-(lp mask h L).1).find? λk=>(o.getD ((lp mask h L).1+k)<|some 0).isNone with|some k=>some ((lp mask h L).1+k)|none=>SetTable.layClean.free mask o f (lp mask h<|L+1).1 (lp mask h<|L+1).2):=rfl
  have le1:(lp mask h L).1<=SetTable.runEnd mask (lp mask h L).1:=by unfold SetTable.runEnd;split<;>lia
  have at_:∀c,c<=rl mask (lp mask h L).1->(sq mask h<|pF mask h L+c).j=(lp mask h L).1+c:=λc hc=>by rw[Ej mask h L c hc];rfl
  have rle:rl mask (lp mask h L).1=SetTable.runEnd mask (lp mask h L).1-(lp mask h L).1:=rfl;rw[stp];cases fd:(List.range<|SetTable.runEnd mask (lp mask h L).1+1-(lp mask h L).1).find? λk=>(o.getD ((lp mask h L).1+k)<|some 0).isNone with
  |some k=>have k0:=List.find?_some fd;have k1:=k0;have k2:k<SetTable.runEnd mask (lp mask h L).1+1-(lp mask h L).1:=aY.mp<|List.mem_of_find?_eq_some fd;refine⟨pF mask h L+k,by rw[at_ k<|by lia],by rw[at_ k<|by lia];exact Option.isNone_iff_eq_none.mp k1,λm hm=>?_⟩;by_cases q:m<pF mask h L;exact ahead m q;obtain⟨c,rfl⟩:∃c,m=pF mask h L+c:=⟨m-pF mask h L,by lia⟩;rw[at_ c<|by lia];intro z;rw[List.find?_range_eq_some]at fd;have:=fd.2.2 c (by lia);rw[show o.getD ((lp mask h L).1+c) (some 0)=none from z]at this;cases this
  |none=>
   have nn:∀c,c<=rl mask (lp mask h L).1->¬Own o ((lp mask h L).1+c):=λc hc z=>by have:=List.find?_eq_none.mp fd c<|aY.mpr (by lia);rw[show o.getD ((lp mask h L).1+c) (some 0)=none from z]at this;exact this rfl
   obtain⟨L',h1,h2,h3⟩:=hL;have ne:L'≠L:=λz=>nn 0 (aJ _) (by rw[<-z];exact h3);refine Jq f (L+1) ⟨L',by lia,by lia,h3⟩ λm hm=>?_;have hm':m<pF mask h L+rl mask (lp mask h L).1+1:=hm;by_cases q:m<pF mask h L;exact ahead m q;obtain⟨c,rfl⟩:∃c,m=pF mask h L+c:=⟨m-pF mask h L,by lia⟩;rw[at_ c<|by lia];exact nn c<|by lia
structure Lk(o:Array (Option Nat))(hs:az)(k:Nat):Prop where
 sz:o.size=32
 own:∀(j k':Nat),o[j]?=some (some k')->k'<k/\∃h m,hs[k']?=some h/\(sq 31 h m).j=j/\∀m',m'<m->¬Own o (sq 31 h m').j
 all:∀k',k'<k->∃j:Nat,o[j]?=some (some k')
 one:∀(j j' k':Nat),o[j]?=some (some k')->o[j']?=some (some k')->j=j'
def Own.get{o:Array (Option Nat)}(h:Own o j):o[j]?=some none:=by
 unfold Own at h;rw[eJ]at h;cases e:o[j]? with
 |none=>rw[e]at h;cases h
 |some v=>rw[e]at h;cases h;rfl
def Lk.free{o:Array (Option Nat)}(a:Lk o hs k)(hk:k<32)(h:Int):∃e,SetTable.layClean.free 31 o 46 (lp 31 h 0).1 (lp 31 h 0).2=some (sq 31 h e).j/\Own o (sq 31 h e).j/\∀m,m<e->¬Own o (sq 31 h m).j:=by
 obtain⟨j,hj,w⟩:∃j,j<32/\Own o j:=by
  refine bz λno=>?_;have all:∀j,j<32->∃k',o[j]?=some (some k'):=λj hj=>by
   have hs:j<o.size:=by rwa[a.sz]
   cases e:o[j]with|none=>exact absurd ⟨j,hj,by unfold Own;simp[hs,e]⟩ no|some k'=>exact⟨k',by rw[bL hs,e]⟩
  have inj:((List.range 32).map λj=>((o.getD j none).getD 0)).Nodup:=by rw[kZ,iQ];refine(List.nodup_range.imp_of_mem λ{x y}hx hy ne q=>ne ?_);obtain⟨kx,ex⟩:=all x<|aY.mp hx;obtain⟨ky,ey⟩:=all y<|aY.mp hy;rw[(getD_some ex).1,(getD_some ey).1]at q;have q':kx=ky:=q;subst q';exact a.one _ _ _ ex ey
  have sub:((List.range 32).map λj=>((o.getD j none).getD 0)) ⊆ List.range k:=λx hx=>by obtain⟨j,hj,rfl⟩:=aZ.mp hx;obtain⟨k',e⟩:=all j<|aY.mp hj;rw[(getD_some e).1];exact aY.mpr (a.own _ _ e).1
  have:=jl inj sub;simp at this;lia
 obtain⟨c,hc,e⟩:=M1 (lp 31 h 13).1 (Jc 31 h 13) j hj;exact Jq 46 0 ⟨13+c,by lia,by lia,by rwa[Hi 31 h c 13<|ao _,e]⟩ λm z=>absurd z<|gO _
def Lk.put{o:Array (Option Nat)}(a:Lk o hs k)(hh:hs[k]?=some h)(w:Own o (sq 31 h e).j)(ah:∀m,m<e->¬Own o (sq 31 h m).j):Lk (o.setIfInBounds (sq 31 h e).j<|some k) hs (k+1):=by
 have g:=w.get;have hb:=(getD_some (d:=none) g).2;have st:∀j:Nat,(o.setIfInBounds (sq 31 h e).j<|some k)[j]?=if j=(sq 31 h e).j then some (some k)else o[j]?:=λj=>by rw[Array.getElem?_setIfInBounds];by_cases q:(sq 31 h e).j=j;subst q;simp[hb];rw[af q,af λz=>q z.symm]
 have keep:∀j,¬Own o j->¬Own (o.setIfInBounds (sq 31 h e).j<|some k) j:=λj hn z=>by have z':=z.get;rw[st]at z';by_cases q:j=(sq 31 h e).j;rw[ag q]at z';cases z';rw[af q]at z';exact hn<|by unfold Own;rw[(getD_some z').1]
 refine⟨by rw[Array.size_setIfInBounds];exact a.sz,λj k' q=>?_,λk' Z0=>?_,λj j' k' q1 q2=>?_⟩;rw[st]at q;by_cases c:j=(sq 31 h e).j;rw[ag c]at q;cases q;exact⟨by lia,h,e,hh,c.symm,λm' z=>keep _<|ah m' z⟩;rw[af c]at q;obtain⟨x1,h',m,x2,x3,x4⟩:=a.own _ _ q;exact⟨by lia,h',m,x2,x3,λm' z=>keep _<|x4 m' z⟩;by_cases c:k'=k;exact⟨(sq 31 h e).j,by rw[st,ag rfl,c]⟩;obtain⟨j,q⟩:=a.all k' (by lia);refine⟨j,?_⟩;rw[st,af λz=>?_];exact q;rw[z,g]at q;cases q;rw[st]at q1 q2;by_cases c1:j=(sq 31 h e).j;rw[ag c1]at q1;cases q1;by_cases c2:j'=(sq 31 h e).j;rw[c1,c2];rw[af c2]at q2;exact absurd (a.own _ _ q2).1<|dW _;rw[af c1]at q1;by_cases c2:j'=(sq 31 h e).j;rw[ag c2]at q2;cases q2;exact absurd (a.own _ _ q1).1<|dW _;rw[af c2]at q2;exact a.one _ _ _ q1 q2
theorem LP(mask:Nat)(h:Int):∀m,∃L c,c<=rl mask (lp mask h L).1/\m=pF mask h L+c|0=>⟨0,0,aJ _,rfl⟩|m+1=>by obtain⟨L,c,h1,h2⟩:=LP mask h m;by_cases q:c<rl mask (lp mask h L).1;exact⟨L,c+1,q,by lia⟩;exact⟨L+1,0,aJ _,by show m+1=pF mask h L+rl mask (lp mask h L).1+1+0;lia⟩
def QG(mask:Nat)(h:Int)(m:Nat):(sq mask h m).j<=mask:=by obtain⟨L,c,h1,rfl⟩:=LP mask h m;rw[Ej mask h L c h1];show(lp mask h L).1+c<=mask;have:=Jc mask h L;have e:rl mask (lp mask h L).1=SetTable.runEnd mask (lp mask h L).1-(lp mask h L).1:=rfl;unfold SetTable.runEnd at e;split at e<;>lia
theorem Ff(hs:az)(hn:hs.length<=31):∀(rest pre:az)(o:Array (Option Nat)),pre++rest=hs->Lk o hs pre.length->
  ∃o',rest.foldl (λ(acc:Option (Array (Option Nat)×Nat))h=>do
   let(owner,k) <-acc
   let j <-SetTable.layClean.free 31 owner (SetTable.turns 31) (SetTable.bits h%(31+1)) (SetTable.bits h)
   pure (owner.setIfInBounds j (some k),k+1)) (some (o,pre.length))=some (o',hs.length)/\Lk o' hs hs.length
 |[],pre,o,e,a=>⟨o,by rw[<-e,dq];rfl,by rw[<-e,dq]at*;exact a⟩
 |h::rest,pre,o,e,a=>by
  have hl:pre.length<hs.length:=by rw[<-e,aA,bB];lia
  have hh:hs[pre.length]?=some h:=by rw[<-e,aQ<|ao _,eI];rfl
  obtain⟨q,f1,f2,f3⟩:=a.free (by lia) h
  have a':=a.put hh f2 f3
  have:=Ff hs hn rest (pre++[h]) _ (by rwa[dX])<|by rwa[aA]
  rw[rZ]
  rw[aA]at this
  obtain⟨o',g1,g2⟩:=this
  refine⟨o',?_,g2⟩
  rw[<-g1]
  congr 1
  show(do let j <-SetTable.layClean.free 31 o 46 (lp 31 h 0).1 (lp 31 h 0).2;pure (o.setIfInBounds j<|some pre.length,pre.length+1))=_
  rw[f1]
  rfl
def WI(hs:az):Lk (Array.replicate 32 none) hs 0:=by
 refine⟨by simp,λj k' q=>?_,λk' z=>absurd z<|gO _,λj j' k' q=>?_⟩
 all_goals
  exfalso
  rw[Array.getElem?_replicate]at q
  split at q
  cases q
  cases q
def Sc(hs:Array Int)(hn:hs.size<=31):∃o,SetTable.layClean 31 hs=some o/\Lk o hs.toList hs.size:=by obtain⟨o,e,a⟩:=Ff hs.toList (by rwa[bw]) hs.toList [] _ rfl<|WI _;refine⟨o,?_,by rwa[<-bw]⟩;unfold SetTable.layClean;rw[<-Array.foldl_toList];rw[show(some (Array.replicate 32 none,0):Option (Array (Option Nat)×Nat))=some (Array.replicate 32 none,([]:az).length)from rfl,e];rfl
def lv(o:Array (Option Nat)):List (Nat×Nat):=(List.range 32).filterMap λj=>(o.getD j none).map (j,·)
def tY{o:Array (Option Nat)}(a:Lk o hs n):(j,k)∈lv o↔o[j]?=some (some k):=by
 unfold lv;rw[Ia];constructor;rintro⟨j',h1,h2⟩;cases e:o.getD j' none with
 |none=>rw[e]at h2;cases h2
 |some k'=>
  rw[e]at h2;cases h2;rw[eJ]at e;cases e2:o[j]? with
  |none=>rw[e2]at e;cases e
  |some v=>rw[e2]at e;rw[show v=some k from e]
 intro h;have:=(getD_some (d:=none) h).2;exact⟨j,aY.mpr<|by rw[a.sz]at this;exact this,by rw[(getD_some h).1];rfl⟩
def MR(o:Array (Option Nat)):((lv o).map (·.1)).Pairwise (·<·):=by
 unfold lv;rw[iQ,List.pairwise_filterMap];refine List.pairwise_lt_range.imp λ{x y}hxy b hb b' hb'=>?_;cases e1:o.getD x none with
 |none=>rw[e1]at hb;cases hb
 |some k=>
  cases e2:o.getD y none with
  |none=>rw[e2]at hb';cases hb'
  |some k'=>rw[e1]at hb;rw[e2]at hb';cases hb;cases hb';exact hxy
def BR{o:Array (Option Nat)}(a:Lk o hs n):((lv o).map (·.2)).Nodup:=by rw[kZ,iQ];have:=(iQ.mp<|MR o);refine this.imp_of_mem λ{x y}hx hy XQ q=>?_;obtain⟨jx,kx⟩:=x;obtain⟨jy,ky⟩:=y;have q':kx=ky:=q;subst q';have:=a.one _ _ _ ((tY a).mp hx)<|(tY a).mp hy;subst this;exact dW _ XQ
def Pi{o:Array (Option Nat)}(a:Lk o hs n):(∀p∈lv o,p.2<n)/\(∀k,k<n->k∈(lv o).map (·.2))/\(lv o).length=n:=by
 have h1:∀p∈lv o,p.2<n:=λp hp=>(a.own p.1 p.2<|(tY a).mp hp).1;have h2:∀k,k<n->k∈(lv o).map (·.2):=λk hk=>by let⟨j,e⟩:=a.all k hk;exact aZ.mpr ⟨(j,k),(tY a).mpr e,rfl⟩
 refine⟨h1,h2,Nat.le_antisymm ?_ ?_⟩;have:=jl (BR a) (l₂:=List.range n) λk hk=>by obtain⟨p,hp,rfl⟩:=aZ.mp hk;exact aY.mpr<|h1 p hp
 simpa using this;have:=jl (List.nodup_range (n:=n)) (l₂:=(lv o).map (·.2)) λk hk=>h2 k<|aY.mp hk;simpa using this
def Pt(finger moves:Nat)(led plain:Bool)(hs:Array Int)(hn:hs.size<=31):∃ps:List (Nat×Nat),SetTable.laid 31 finger moves led plain hs=some ({mask:=31,place:=(ps.map (·.1)).toArray,dummies:=#[],finger,led,moves,plain},(ps.map (·.2)).toArray)/\(∀p∈ps,p.2<hs.size)/\(∀k,k<hs.size->k∈ps.map (·.2))/\ps.length=hs.size/\(ps.map (·.2)).Nodup/\U3 {mask:=31,place:=(ps.map (·.1)).toArray,dummies:=#[],finger,led,moves,plain} (ps.map λp=>hs.getD p.2 0):=by
 obtain⟨o,e,a⟩:=Sc hs hn;obtain⟨p1,p2,p3⟩:=Pi a;refine⟨lv o,?_,p1,p2,p3,BR a,?_⟩;unfold SetTable.laid;rw[e];rfl;have inc:=MR o;have tb:Tb {mask:=31,place:=((lv o).map (·.1)).toArray,dummies:=#[],finger,led,moves,plain}:=by
  refine⟨rfl,λx y h1 h2=>?_,λk hk=>?_⟩;have h2':y<((lv o).map (·.1)).length:=by simpa using h2
  have z:=vM.mp inc x y (by lia) h2' h1;rw[(getD_some<|by rw[kz,am<|by lia]).1,(getD_some<|by rw[kz,am h2']).1];exact z;have Z0:k<((lv o).map (·.1)).length:=by simpa using hk
  rw[(getD_some<|by rw[kz,am Z0]).1];obtain⟨p,hp,q⟩:=aZ.mp<|cZ Z0;rw[<-q];have:=(getD_some (d:=none)<|(tY a (j:=p.1) (k:=p.2)).mp hp).2;rw[a.sz]at this;show p.1<=31;lia
 refine⟨tb,.inr rfl,by simp,λi h j h1 h2=>?_⟩;rw[aw]at h1;replace h2:((lv o).map (·.1)).toArray[i]?=some j:=h2;rw[kz,aw]at h2;cases e2:(lv o)[i]? with
 |none=>rw[e2]at h2;cases h2
 |some p=>
  rw[e2]at h1 h2;cases h1;cases h2;have hp:=bV e2;obtain⟨_,h',m,x1,x2,x3⟩:=a.own _ _<|(tY a).mp hp;have hh:hs.getD p.2 0=h':=by rw[c7]at x1;exact(getD_some x1).1
  show Rc _ (hs.getD p.2 0) p.1;rw[hh];refine⟨m,x2,λm' hm z=>x3 m' hm ?_⟩;rcases nu tb (sq 31 h' m').j with⟨_,_,w⟩ |⟨w,_⟩;rw[w]at z;cases z;have lt:=QG 31 h' m';have hb:(sq 31 h' m').j<o.size:=by rw[a.sz];lia
  cases e3:o[(sq 31 h' m').j]with|none=>unfold Own;simp[hb,e3]|some k'=>exfalso;have mem:=(tY a).mpr (by rw[bL hb,e3]);obtain⟨i',Yb⟩:=DV mem;exact w i' (by show((lv o).map (·.1)).toArray[i']?=_;rw[kz,aw,Yb];rfl)
def Of(prog:Program)(w:World)(h:Heap)(r:az)(v:Value):Prop:=∃a,v=.ref a/\IsTupleKey (intKind prog w) h r a
def hR(prog:Program)(w:World)(r:az):Int:=tupleKeyHash (intKind prog w) r
def xj{v:Value}(n:Nat)(h:carriedByValue v=true):ofAClassStatement n v=pure false:=by cases v with|ref a=>simp[carriedByValue]at h|_=>first |rfl |(unfold ofAClassStatement;rfl)
def y0{s:Shared}{Q:Bool->Shared->Prop}(hk:IsTupleKey (intKind prog w) s.heap r a)(h:Q false s):wpAny (model prog w) A (ofAClassStatement 8<|.ref a) Q E s:=by have hT:=hk.typeIs;obtain⟨o,items,n,ho,hc,hd,hi⟩:=hk;unfold ofAClassStatement;refine ae<|wpAny_typeOf hT ?_;simp only[jk,Av];refine ae<|ap ?_;simp;refine ae<|K6 ho hd ?_;refine ae ?_;rw[<-Array.forIn_toList];refine UP _ (λrest x s'=>x.1=none/\s'=s/\∀v∈rest,carriedByValue v=true) _ ?_ ?_ _ _ ⟨rfl,rfl,hi.byValue⟩;rintro v rest x s' ⟨hr,rfl,Yt⟩;rw[xj _<|Yt v aN];refine ae<|ap ?_;simp;exact ap ⟨rfl,rfl,λu hu'=>Yt u<|aC _ hu'⟩;rintro⟨r1,r2⟩ s' ⟨hr,rfl,_⟩;simp only at hr;subst hr;exact ap h
def OJ{s:Shared}{Q:Bool->Shared->Prop}(hk:IsTupleKey (intKind prog w) s.heap r a)(ys:jt)(hy:∀y∈ys,∃r',Of prog w s.heap r' y)(h:Q false s):wpAny (model prog w) A (searchCouldBeSeen (.ref a) ys) Q E s:=by refine ae ?_;refine UP _ (λrest x s'=>x.1=none/\s'=s/\∀y∈rest,∃r',Of prog w s.heap r' y) _ ?_ ?_ _ _ ⟨rfl,rfl,hy⟩;rintro y rest x s' ⟨hr,rfl,Yt⟩;obtain⟨r',b,rfl,hb⟩:=Yt y aN;have nx:∀u∈rest,∃r',Of prog w s'.heap r' u:=λu hu'=>Yt u<|aC _ hu';by_cases e:(a==b||(carriedByValue (.ref a)&&carriedByValue (.ref b)))=true;rw[ag e];exact ap ⟨rfl,rfl,nx⟩;rw[af e];refine ae<|wpAny_eqIsQuiet_tuple hk ?_;simp;refine ae<|wpAny_eqIsQuiet_tuple hb ?_;simp;refine ae<|y0 hk ?_;simp;refine ae<|y0 hb ?_;simp;exact ap ⟨rfl,rfl,nx⟩;rintro⟨r1,r2⟩ s' ⟨hr,rfl,_⟩;simp only at hr;subst hr;exact ap h
structure Y4(T:az->Value->Prop)(prog:Program)(w:World)(es:Array (Int×Value))(t:SetTable)(rs:List az):Prop where
 ok:U3 t (es.toList.map (·.1))
 sz:es.size=rs.length
 at':∀(i:Nat)e,es[i]?=some e->∃r,rs[i]?=some r/\e.1=hR prog w r/\T r e.2
 nd:rs.Nodup
def xT{T:az->Value->Prop}{es:Array (Int×Value)}{t:SetTable}{rs:List az}(S:Y4 T prog w es t rs)(hf:t.place.size<=t.mask):t.fits es.size=true:=by have a:=S.ok.sz;rw[ab,bw]at a;simp[SetTable.fits,SetTable.fill,S.ok.tb.dum,a];lia
def vW{i:Nat}{es:Array (Int×Value)}{e:Int×Value}(h:es[i]?=some e):(es[i]?.map (·.1)).getD 0=e.1:=by rw[h];rfl
theorem v0{D:Addr}{r:az}{A:Around}{s:Shared}{T:az->Value->Prop}{es:Array (Int×Value)}{t:SetTable}{rs:List az}{Q:SetFound->Shared->Prop}(hu:A.units<cLine)(ho:s.heap.get? D=some o)(hd:o.data=.set es ep t)(S:Y4 T prog w es t rs)(hT:∀r v,T r v->Of prog w s.heap r v)(hs:t.place.size<=t.mask)(hx:IsTupleKey (intKind prog w) s.heap r a)(he:t.slot (sq t.mask (hR prog w r) e).j=.empty)(hl:∀m,m<e->t.slot (sq t.mask (hR prog w r) m).j≠.empty)(he2:e<10*(t.mask+14))(hB:r∈rs->Q (.there none) s)(hA:(∀k i,k<e->t.slot (sq t.mask (hR prog w r) k).j=.live i->rs[i]?≠some r)->Q (.free (sq t.mask (hR prog w r) e).j false) s):∀(gap m fuel:Nat)(st:Option SetTable.Probe),st.getD (t.probeStart<|hR prog w r)=sq t.mask (hR prog w r) m->m<=e->e-m<gap->gap<=fuel->(∀k i,k<m->t.slot (sq t.mask (hR prog w r) k).j=.live i->rs[i]?≠some r)->wpAny (model prog w) A (setSearchFrom D (.ref a) (hR prog w r) true fuel st) Q E s
 |0,m,fuel,st,_,_,h,_,_=>absurd h (gO _)|gap+1,m,0,st,_,_,_,h,_=>by lia
 |gap+1,m,fuel+1,st,h1,h2,h3,h4,h5=>by
  have hf:=xT S hs;refine ae<|fE ho hd hf ?_;dsimp only;have gw:t.gaveWay=false:=by unfold SetTable.gaveWay;rcases S.ok.mk' with z |z<;>rw[z]<;>decide
  rw[gw];simp only[eB,kY];rw[h1];have pr:=EK S.ok.tb (hashAt:=λi=>(es[i]?.map (·.1)).getD 0) he hl (10*SetTable.turns t.mask) m h2 (by unfold SetTable.turns;lia);rcases pr with⟨p1,p2⟩ |⟨k,i,k1,k2,k3,k4,k5,k6⟩;split;rename_i met heq;have q:=heq.symm.trans p1;cases q;refine ap (hA λk i z1 z2 z3=>?_);by_cases c:k<m;exact h5 k i c z2 z3;have ii:∃v,es[i]?=some v:=by
   have:i<es.size:=by rw[S.sz];rcases bA i rs.length with w' |w';exact w';rw[aI w']at z3;cases z3
   exact⟨_,bL this⟩
  obtain⟨v,hv⟩:=ii;obtain⟨r',q1,q2,_⟩:=S.at' i v hv;have q3:r'=r:=by rw[z3]at q1;exact(bC q1).symm
  exact p2 k i (by lia) z1 z2 (by rw[vW hv,q2,q3]);rename_i heq;exact(heq _ p1).elim;split;rename_i met heq;have q:=heq.symm.trans k5;cases q;dsimp only;obtain⟨i0,pl,sl⟩:∃i0:Nat,t.place[i0]?=some (sq t.mask (hR prog w r) k).j/\t.slot (sq t.mask (hR prog w r) k).j=.live i0:=by rcases nu S.ok.tb (sq t.mask (hR prog w r) k).j with z |⟨_,z⟩;exact z;rw[k3]at z;cases z
  have ei:i0=i:=by rw[k3]at sl;cases sl;rfl
  subst ei;have hi:i0<es.size:=by have z:=(getD_some (d:=0) pl).2;have z2:=S.ok.sz;rw[ab,bw]at z2;lia
  have hv:=bL hi;generalize es[i0]=v at hv;obtain⟨hy,y⟩:=v;obtain⟨r',q1,q2,hb0⟩:=S.at' i0 _ hv;obtain⟨b,eb,hb⟩:=hT _ _ hb0;have eb':y=.ref b:=eb;subst eb';have zDV:∀y'∈((es.filter λx=>x.1==hR prog w r).toList.map (·.2)),∃r',Of prog w s.heap r' y':=λy' hy'=>by obtain⟨e',m1,m2⟩:=aZ.mp hy';have m3:=Array.mem_of_mem_filter<|D1.mp m1;obtain⟨i',Yb,m4⟩:=Array.mem_iff_getElem.mp m3;obtain⟨r2,_,_,w3⟩:=S.at' i' e' (by rw[bL Yb,m4]);exact⟨r2,by rw[<-m2];exact hT _ _ w3⟩
  by_cases ld:(!t.led)=true;rw[ag ld];refine ae<|OJ hx _ zDV ?_;simp only[eB,kY,hv];refine ae<|fI<|wpAny_eqBool_tuple hu hb hx ?_;refine ae<|fE ho hd hf ?_;by_cases c:r'=r;rw[aq c];exact ap<|hB (by rw[<-c];exact bV q1);rw[aj c];have sm:t.sameMemory t.moves t.mask=some true:=by unfold SetTable.sameMemory;rw[ag<|jk _]
  simp only[DZ,eB,kY,sm,Av,sl,hv];refine ae<|wpAny_isSame_ref_self ?_;simp;refine ae<|ap ?_;refine v0 hu ho hd S hT hs hx he hl he2 hB hA gap (k+1) fuel _ rfl (by lia) (by lia) (by lia) λk' i' z1 z2 z3=>?_;by_cases c2:k'<m;exact h5 k' i' c2 z2 z3;by_cases c3:k'=k;rw[c3,sl]at z2;cases z2;rw[q1]at z3;exact c<|bC z3;have Yb:i'<es.size:=by rw[S.sz];rcases bA i' rs.length with w' |w';exact w';rw[aI w']at z3;cases z3
  have hv':=bL Yb;obtain⟨r2,w1,w2,_⟩:=S.at' i' _ hv';have w3:r2=r:=by rw[z3]at w1;exact(bC w1).symm
  exact k6 k' i' (by lia) (by lia) z2 (by rw[vW hv',w2,w3]);rw[af ld];simp only[hv];refine ae<|fI<|wpAny_eqBool_tuple hu hb hx ?_;refine ae<|fE ho hd hf ?_;by_cases c:r'=r;rw[aq c];exact ap<|hB (by rw[<-c];exact bV q1);rw[aj c];have sm:t.sameMemory t.moves t.mask=some true:=by unfold SetTable.sameMemory;rw[ag<|jk _]
  simp only[DZ,eB,kY,sm,Av,sl,hv];refine ae<|wpAny_isSame_ref_self ?_;simp;refine ae<|ap ?_;refine v0 hu ho hd S hT hs hx he hl he2 hB hA gap (k+1) fuel _ rfl (by lia) (by lia) (by lia) λk' i' z1 z2 z3=>?_;by_cases c2:k'<m;exact h5 k' i' c2 z2 z3;by_cases c3:k'=k;rw[c3,sl]at z2;cases z2;rw[q1]at z3;exact c<|bC z3;have Yb:i'<es.size:=by rw[S.sz];rcases bA i' rs.length with w' |w';exact w';rw[aI w']at z3;cases z3
  have hv':=bL Yb;obtain⟨r2,w1,w2,_⟩:=S.at' i' _ hv';have w3:r2=r:=by rw[z3]at w1;exact(bC w1).symm
  exact k6 k' i' (by lia) (by lia) z2 (by rw[vW hv',w2,w3]);rename_i heq;exact(heq _ k5).elim
def GV{D:Addr}{r:az}{A:Around}{s:Shared}{T:az->Value->Prop}{es:Array (Int×Value)}{t:SetTable}{rs:List az}{Q:SetFound->Shared->Prop}(hu:A.units<cLine)(ho:s.heap.get? D=some o)(hd:o.data=.set es ep t)(S:Y4 T prog w es t rs)(hT:∀r v,T r v->Of prog w s.heap r v)(hs:t.place.size<=t.mask)(hx:IsTupleKey (intKind prog w) s.heap r a)(hB:r∈rs->Q (.there none) s)(hA:r∉rs->∀e,t.slot (sq t.mask (hR prog w r) e).j=.empty->(∀m,m<e->t.slot (sq t.mask (hR prog w r) m).j≠.empty)->Q (.free (sq t.mask (hR prog w r) e).j false) s):wpAny (model prog w) A (setSearch D (.ref a) (hR prog w r) true) Q E s:=by
 obtain⟨e,e1,e2,e3⟩:=Fo S.ok.tb S.ok.mk' hs<|hR prog w r;unfold setSearch;have mk:t.mask<=31:=by rcases S.ok.mk' with z |z<;>lia
 refine v0 hu ho hd S hT hs hx e2 e3 e1 hB (λno=>?_) (e+1) 0 100000 none (AN _ _) (aJ _) (by lia) (by lia) λk i z=>absurd z<|gO _;refine hA (λmem=>?_) e e2 e3;obtain⟨i,hi⟩:=DV mem;have Yb:i<es.size:=by rw[S.sz];rcases bA i rs.length with w' |w';exact w';rw[aI w']at hi;cases hi
 have hv:=bL Yb;obtain⟨r',q1,q2,_⟩:=S.at' i _ hv;rw[hi]at q1;cases q1;have hp:i<t.place.size:=by have z:=S.ok.sz;rw[ab,bw]at z;lia
 have pv:=bL hp;obtain⟨m,m1,m2⟩:=S.ok.rc i (hR prog w r) _ (by rw[aw,c7,hv,<-q2];rfl) pv;have live:t.slot (sq t.mask (hR prog w r) m).j=.live i:=by rw[m1];rcases nu S.ok.tb (t.place[i])with⟨i',z1,z2⟩ |⟨z,_⟩;rw[z2,<-Af S.ok.tb.ris z1,Af S.ok.tb.ris pv];exact absurd pv<|z i
 have lt:m<e:=by rcases fT m e with z |z |z;exact z;rw[z,e2]at live;cases live;exact absurd e2<|m2 e z
 exact no m i lt live hi
def PB{v:Value}(n:Nat)(h:(intKind prog w).is i v=true):hashByValue n v=pure true:=by obtain⟨t,rfl⟩:=qC h;cases n<;>rfl
def ItemsAre.zBY(h:ItemsAre (intKind prog w) ks vs):∀v∈vs,∃i,(intKind prog w).is i v=true:=by
 induction h with
 |nil=>exactλv hv=>nomatch hv
 |cons h1 _ ih=>intro v hv;rcases aF.mp hv with rfl |hv;exact⟨_,h1⟩;exact ih v hv
def Pz{s:Shared}{Q:Bool->Shared->Prop}(hk:IsTupleKey (intKind prog w) s.heap r a)(h:Q true s):wpAny (model prog w) A (hashByValue 8<|.ref a) Q E s:=by have hT:=hk.typeIs;obtain⟨o,items,n,ho,hc,hd,hi⟩:=hk;refine ae<|vL hT F.slot_tuple_hash.lookup ?_;refine ae<|K6 ho hd ?_;refine ae ?_;rw[<-Array.forIn_toList];refine UP _ (λrest x s'=>x.1=none/\s'=s/\∀v∈rest,∃i,(intKind prog w).is i v=true) _ ?_ ?_ _ _ ⟨rfl,rfl,ItemsAre.zBY hi⟩;rintro v rest x s' ⟨hr,rfl,Yt⟩;obtain⟨i,hv⟩:=Yt v aN;rw[PB _ hv];refine ae<|ap ?_;simp;exact ap ⟨rfl,rfl,λu hu'=>Yt u<|aC _ hu'⟩;rintro⟨r1,r2⟩ s' ⟨hr,rfl,_⟩;simp only at hr;subst hr;exact ap h
def Y4.put{T:az->Value->Prop}{es:Array (Int×Value)}{t:SetTable}{rs:List az}(S:Y4 T prog w es t rs)(hv:T r v)(nr:r∉rs)(he:t.slot (sq t.mask (hR prog w r) e).j=.empty)(hl:∀m,m<e->t.slot (sq t.mask (hR prog w r) m).j≠.empty):Y4 T prog w (SetTable.insertAt es (t.put (sq t.mask (hR prog w r) e).j).2 (hR prog w r,v)) (t.put (sq t.mask (hR prog w r) e).j).1 (rs.take (t.put (sq t.mask (hR prog w r) e).j).2++r::rs.drop (t.put (sq t.mask (hR prog w r) e).j).2):=by
 have hj:=QG t.mask (hR prog w r) e;have ok:=Ry S.ok he hj hl;obtain⟨bl,_,_⟩:=jB S.ok.tb.ris (sq t.mask (hR prog w r) e).j;have p2:(t.put (sq t.mask (hR prog w r) e).j).2=SetTable.below t.place (sq t.mask (hR prog w r) e).j:=by rw[tV S.ok.tb]
 have sz:=S.sz;have bl':SetTable.below t.place (sq t.mask (hR prog w r) e).j<=es.size:=by have z:=S.ok.sz;rw[ab,bw]at z;lia
 rw[p2];generalize SetTable.below t.place (sq t.mask (hR prog w r) e).j=p at*;refine⟨?_,?_,λi x hx=>?_,?_⟩;have q:((SetTable.insertAt es p (hR prog w r,v)).toList.map (·.1))=(es.toList.map (·.1)).take p++hR prog w r::(es.toList.map (·.1)).drop p:=by rw[zq,bj,bY,US,List.map_drop]
 rwa[q];rw[vv bl',aA,bB,cX,cO];lia;have hlen:(rs.take p).length=p:=by rw[cX];lia
 rw[pH bl']at hx;by_cases c:i<p;rw[ag c]at hx;obtain⟨r',a1,a2⟩:=S.at' i x hx;exact⟨r',by rwa[a8<|by lia,ux,ag c],a2⟩;rw[af c]at hx;by_cases d:i=p;rw[ag d]at hx;cases hx;exact⟨r,by rw[aQ<|by lia,hlen,d,eI];rfl,rfl,hv⟩;rw[af d]at hx;obtain⟨r',a1,a2⟩:=S.at' (i-1) x hx;exact⟨r',by rwa[aQ<|by lia,hlen,show i-p=(i-1-p)+1 by lia,xG,Ic,show p+(i-1-p)=i-1 by lia],a2⟩;have nd:=S.nd;have perm:(rs.take p++r::rs.drop p).Perm (r::rs):=by have:=(List.perm_middle (a:=r) (l₁:=rs.take p) (l₂:=rs.drop p));rw[Wu]at this;exact this
 exact(List.Perm.nodup_iff perm).mpr<|iL.mpr ⟨nr,nd⟩
def SY(w:World):Bool:=w.params.followText "set-order"
def XW(T:az->Value->Prop)(prog:Program)(w:World)(h:Heap)(D:Addr)(rs:List az):Prop:=∃o es ep t,h.get? D=some o/\o.cls=.type "set"/\o.dict=none/\o.data=.set es ep t/\Y4 T prog w es t rs/\t.place.size*5<t.mask*3/\t.led= !SY w/\t.plain=true
def Y4.led{T:az->Value->Prop}{es:Array (Int×Value)}{t:SetTable}{rs:List az}(S:Y4 T prog w es t rs):t.place.size=es.size:=by have z:=S.ok.sz;rw[ab,bw]at z;exact z
def yU{h:Heap}{D:Addr}{es:Array (Int×Value)}{t:SetTable}(ho:h.get? D=some o)(hd:o.data=.set es ep t)(es':Array (Int×Value))(t':SetTable):(h.update D<|Obj.putSet es' t').get? D=some {o with data:=.set es' (ep+1) t'}:=by have:=fH (Obj.putSet es' t') ho (by rw[putSet_of es' t' hd];rfl);rw[putSet_of es' t' hd]at this;exact this
theorem Jr{β:Type}{f:α->Option β}{g:α->β}:∀{l:List α},(∀p∈l,f p=some (g p))->l.filterMap f=l.map g|[],_=>rfl|p::l,h=>by rw[jg,h p aN,bY];rw[Jr λq hq=>h q<|aC _ hq]
def Qk{D:Addr}{r:az}{A:Around}{s:Shared}{T:az->Value->Prop}{rs:List az}{Q:Bool->Shared->Prop}(hu:A.units<cLine)(S0:XW T prog w s.heap D rs)(hT:∀r v,T r v->Of prog w s.heap r v)(hr:rs.length<=14)(hx:IsTupleKey (intKind prog w) s.heap r a)(hv:T r (.ref a))(h:∀h' rs' b,Heap.SameBut D s.heap h'->XW T prog w h' D rs'->(∀q,q∈rs'↔q=r\/q∈rs)->rs'.length<=rs.length+1->Q b {s with heap:=h'}):wpAny (model prog w) A (setAddHashed D (.ref a)<|hR prog w r) Q E s:=by
 obtain⟨o,es,ep,t,ho,hc,hdi,hd,S,nf,hld,Zv⟩:=S0;have ps:=S.led;have mk:=S.ok.mk';have hs:t.place.size<=t.mask:=by lia
 have hf:=xT S hs;refine fI<|ae<|fE ho hd hf ?_;dsimp only;rw[show byScan (.ref a) es=false from rfl];simp;refine ae (GV hu ho hd S hT hs hx (λmem=>?_) λnr e e1 e2=>?_);refine ap ?_;exact h s.heap rs false (Heap.SameBut.refl _ _) ⟨o,es,ep,t,ho,hc,hdi,hd,S,nf,hld,Zv⟩ (λq=>⟨.inr,λz=>z.elim (λy=>y▸mem) id⟩) (by lia);refine ae<|fE ho hd hf ?_;have S1:=S.put hv nr e1 e2;have pi:=tV S.ok.tb (sq t.mask (hR prog w r) e).j;have pl1:(t.put (sq t.mask (hR prog w r) e).j).1.plain=true:=by rwa[pi]
 have ld1:(t.put (sq t.mask (hR prog w r) e).j).1.led= !SY w:=by rwa[pi]
 have mk1:(t.put (sq t.mask (hR prog w r) e).j).1.mask=t.mask:=by rw[pi]
 have zD2:∀q,q∈rs.take (t.put (sq t.mask (hR prog w r) e).j).2++r::rs.drop (t.put (sq t.mask (hR prog w r) e).j).2↔q=r\/q∈rs:=λq=>by
  rw[cQ,aF];have:q∈rs↔q∈rs.take (t.put (sq t.mask (hR prog w r) e).j).2\/q∈rs.drop (t.put (sq t.mask (hR prog w r) e).j).2:=by rw[<-cQ,Wu]
  rw[this];exact⟨λz=>z.elim (λz=>.inr<|.inl z) λz=>z.elim .inl λz=>.inr<|.inr z,λz=>z.elim (λz=>.inr<|.inl z) λz=>z.elim .inl λz=>.inr<|.inr z⟩
 have zGZ:(rs.take (t.put (sq t.mask (hR prog w r) e).j).2++r::rs.drop (t.put (sq t.mask (hR prog w r) e).j).2).length=rs.length+1:=by rw[aA,bB,cX,cO];lia
 rw[ag pl1];refine ae<|Pz hx ?_;simp;generalize hes:SetTable.insertAt es (t.put (sq t.mask (hR prog w r) e).j).2 (hR prog w r,.ref a)=Zm at*;generalize ht1:(t.put (sq t.mask (hR prog w r) e).j).1=t1 at*;generalize hrs:rs.take (t.put (sq t.mask (hR prog w r) e).j).2++r::rs.drop (t.put (sq t.mask (hR prog w r) e).j).2=ZA at*;have sz1:=S1.sz;have ssz:=S.sz;have ps1:=S1.led;refine ae<|wpAny_storeSet_of ho hd ?_ (by rw[fR];lia);have g1:=yU ho hd Zm t1;have sb1:Heap.SameBut D s.heap (s.heap.update D<|Obj.putSet Zm t1):=dJ _ _ _;have dm:=S1.ok.tb.dum;by_cases tf:t1.tooFull=true;have tf':t1.place.size*5≥t1.mask*3:=by unfold SetTable.tooFull SetTable.fill at tf;rw[dm]at tf;simpa using tf
 have m7:t1.mask=7/\Zm.size=5/\es.size=4:=by rcases mk with z |z<;>lia
 rw[ag<|by simp[tf]];refine ae ?_;refine ae<|fE g1 rfl (xT S1<|by rw[ps1,m7.2.1,m7.1];decide) ?_;dsimp only;rw[m7.2.2];rw[af<|by rw[fR];decide];obtain⟨ps,l1,l2,l3,l4,l5,l6⟩:=Pt t1.finger (t1.movedTo 31) t1.led t1.plain (Zm.map (·.1)) (by rw[Array.size_map];lia);have rl:t1.relaid (Zm.map (·.1)) (SetTable.grown<|4+1)=some ({mask:=31,place:=(ps.map (·.1)).toArray,dummies:=#[],finger:=t1.finger,led:=t1.led,moves:=t1.movedTo 31,plain:=t1.plain},(ps.map (·.2)).toArray):=l1;rw[rl];rw[Array.size_map]at l2 l3 l4;have fm:((ps.map (·.2)).toArray.filterMap λx=>Zm[x]?).toList=ps.map λp=>Zm.getD p.2 (0,.none):=by rw[Array.toList_filterMap,List.toList_toArray];rw[List.filterMap_map];exact Jr λp hp=>by have:=l2 p hp;show Zm[p.2]?=some (Zm.getD p.2 (0,.none));rw[bL this];simp[this]
 generalize zHP:((ps.map (·.2)).toArray.filterMap λx=>Zm[x]?)=es2 at fm;have sz2:es2.size=Zm.size:=by rw[<-bw,fm,ab,l4]
 refine ae ?_;refine dU (a:=(es2,{mask:=31,place:=(ps.map (·.1)).toArray,dummies:=#[],finger:=t1.finger,led:=t1.led,moves:=t1.movedTo 31,plain:=t1.plain})) ?_ ?_;rw[<-zHP]at sz2 ⊢;show(if(((ps.map (·.2)).toArray.filterMap λx=>Zm[x]?).size !=Zm.size)=true then _ else _)=_;rw[af<|by rw[sz2];simp];have g2:=yU g1 rfl es2 {mask:=31,place:=(ps.map (·.1)).toArray,dummies:=#[],finger:=t1.finger,led:=t1.led,moves:=t1.movedTo 31,plain:=t1.plain};have sb2:Heap.SameBut D (s.heap.update D<|Obj.putSet Zm t1) ((s.heap.update D<|Obj.putSet Zm t1).update D (Obj.putSet es2 {mask:=31,place:=(ps.map (·.1)).toArray,dummies:=#[],finger:=t1.finger,led:=t1.led,moves:=t1.movedTo 31,plain:=t1.plain})):=dJ _ _ _;have inr:∀p∈ps,p.2<ZA.length:=λp hp=>by have:=l2 p hp;lia
 have gd:∀k,k<ZA.length->ZA[k]?=some (ZA.getD k []):=λk hk=>by rw[ac,am hk];rfl
 have S2:Y4 T prog w es2 {mask:=31,place:=(ps.map (·.1)).toArray,dummies:=#[],finger:=t1.finger,led:=t1.led,moves:=t1.movedTo 31,plain:=t1.plain} (ps.map λp=>ZA.getD p.2 []):=by
  refine⟨?_,by rw[sz2,ab,l4],λi x hx=>?_,?_⟩;have q:es2.toList.map (·.1)=ps.map λp=>(Zm.map (·.1)).getD p.2 0:=by rw[fm,bp];refine cA λp hp=>?_;have:=l2 p hp;simp[this]
  rwa[q];rw[<-c7,fm,aw]at hx;cases e5:ps[i]? with
  |none=>rw[e5]at hx;cases hx
  |some p=>rw[e5]at hx;have hp:=bV e5;have XQ:=l2 p hp;obtain⟨r',b1,b2⟩:=S1.at' p.2 x (by rw[bL XQ,<-bC hx];simp[XQ]);refine⟨r',?_,b2⟩;rw[aw,e5];rw[gd _<|inr p hp]at b1;exact b1
  rw[kZ,iQ];rw[kZ,iQ]at l5;refine l5.imp_of_mem λ{x y}hx hy ne z=>ne ?_;have nd:=S1.nd;have z1:=gd _<|inr x hx;have z2:=gd _<|inr y hy;rw[z]at z1;exact(List.getElem?_inj (inr x hx) nd).mp<|z1.trans z2.symm
 refine wpAny_storeSet_of g1 rfl ?_ (by rw[sz2,fR];lia);refine ap<|h _ (ps.map λp=>ZA.getD p.2 []) true (sb1.trans sb2) ⟨_,es2,_,_,g2,hc,hdi,rfl,S2,?_,ld1,pl1⟩ (λq=>?_) (by rw[ab,l4];lia);simp;lia;rw[<-zD2 q,aZ];constructor;rintro⟨p,hp,rfl⟩;exact bV<|gd _<|inr p hp;intro hq;obtain⟨k,hk⟩:=DV hq;have Z0:k<ZA.length:=by rcases bA k ZA.length with w' |w';exact w';rw[aI w']at hk;cases hk
 obtain⟨p,hp,e⟩:=aZ.mp<|l3 k (by lia);exact⟨p,hp,by rw[show p.2=k from e];rw[gd k Z0]at hk;exact bC hk⟩;rw[af<|by simp[tf]];refine ap<|h _ ZA true sb1 ⟨_,Zm,_,t1,g1,hc,hdi,rfl,S1,?_,ld1,pl1⟩ zD2<|og zGZ;unfold SetTable.tooFull SetTable.fill at tf;rw[dm]at tf;simp at tf;lia
def XW.typeIs{D:Addr}{s:Shared}{T:az->Value->Prop}{rs:List az}(S:XW T prog w s.heap D rs):s.TypeIs (.ref D) "set":=
 let⟨o,_,_,_,ho,hc,_⟩:=S
 ⟨o,ho,hc⟩
def Du{D:Addr}{r:az}{Q:uA}{A:Around}{s:Shared}{T:az->Value->Prop}{rs:List az}(hu:A.in1.units<cLine)(S:XW T prog w s.heap D rs)(hT:∀r v,T r v->Of prog w s.heap r v)(hr:rs.length<=14)(hx:IsTupleKey (intKind prog w) s.heap r a)(hv:T r (.ref a))(h:∀h' rs' tk,Heap.SameBut D s.heap h'->XW T prog w h' D rs'->(∀q,q∈rs'↔q=r\/q∈rs)->rs'.length<=rs.length+1->Q .none {s with heap:=h',toks:=tk}):wpAny (model prog w) A (call (.builtin "set.add") [.ref D,.ref a]) Q E s:=by
 refine de F.slot_set_add S.typeIs F.entry_set_add ?_<|F.args_set_add_2 _ _;unfold Builtin.«set.add» Builtin.Frozenset.oneOther;simp only[List.isEmpty_nil,bind_assoc];unfold Builtin.Frozenset.addrOf setAdd;refine ae<|ap ?_;try dsimp only
 refine ae<|ap ?_;try dsimp only
 refine ae ?_;refine fI ?_;refine ae<|wpAny_pyHash_tuple hu hx ?_;refine Qk (s:={s with toks:=s.toks+(r.length+1)}) (rs:=rs) hu S hT hr hx hv λh' rs' b hsb hS' hm hl=>?_;show wpAny _ _ (ret Value.none) _ _ _;exact ap ⟨_,rfl,h h' rs' _ hsb hS' hm hl⟩
def EZ{Q:uA}{s:Shared}(T:az->Value->Prop)(h:∀o:Obj,XW T prog w (s.heap.push o) s.heap.objs.size []->Q (.ref s.heap.objs.size) {s with heap:=s.heap.push o}):wpAny (model prog w) A (newSet<|.type "set") Q E s:=by unfold newSet setsByText;refine ae<|ae<|jN<|ap ?_;dsimp only;simp only[newObj];refine ae<|Vc<|ap<|h _ ⟨_,#[],0,_,a7 _ rfl,rfl,rfl,rfl,?_,(by show 0*5<7*3;decide),rfl,rfl⟩;refine⟨⟨⟨rfl,λx y h1 h2=>absurd h2<|gO _,λk hk=>absurd hk<|gO _⟩,.inl rfl,rfl,λi h' j h1 h2=>?_⟩,rfl,λi e he=>?_,DS⟩;simp at h1;simp at he
theorem zy:∀(l:List α)(i:Nat)(h:i<l.length),(l[i]::l.eraseIdx i).Perm l|a::l,0,_=>DW _|a::l,i+1,h=>(List.Perm.swap a _ _).trans<|List.Perm.cons a<|zy l i<|Nat.lt_of_succ_lt_succ h
theorem IM(next:Nat->Nat):∀(f k:Nat)(left:List α)(out:Array α),left.length=f->(pickOrder.go next f k left out).toList.Perm (out.toList++left)
 |0,k,left,out,h=>by have:left=[]:=au h;subst this;rw[dq];exact DW _
 |f+1,k,left,out,h=>by
  have hl:next k%left.length<left.length:=Th _ (by lia);have e:pickOrder.go next (f+1) k left out=match left[next k%left.length]? with|some x=>pickOrder.go next f (k+1) (left.eraseIdx<|next k%left.length) (out.push x)|none=>out:=rfl
  rw[e,am hl];refine(IM next f (k+1) _ _ (by rw[List.length_eraseIdx,ag hl];lia)).trans ?_;rw[Array.toList_push,dX];exact List.Perm.append_left _<|zy _ _ hl
def Ki(next:Nat->Nat)(xs:Array α):(pickOrder next xs).toList.Perm xs.toList:=IM next _ 0 _ #[] rfl
def Xo:Slot "set_iterator" "__next__" "set_iterator.__next__":=.of (owner:="set_iterator") (n:="__next__") (by rw[kX,gB];kernel_rfl) (by decide) (by decide) (by decide) (by first |exact .inl (by decide) |exact .inr<|by decide)<|by rw[iM];kernel_rfl
def tK:entryFor table "set_iterator.__next__"=some Builtin.«set_iterator.__next__»:=UQ<|by kernel_rfl
def ES:Manifest.owners.lookup (String.ofList ['r','o','t','a','r','e','t','i','_','t','e','s'].reverse)=some Manifest.sig_set_iterator:=by kernel_rfl
def vG(a:Value):argsOk "set_iterator.__next__" ⟨[a],[]⟩:=by unfold argsOk;rw[signature?_of (id:="set_iterator.__next__") (n:=['_','_','t','x','e','n','_','_']) (o:=['r','o','t','a','r','e','t','i','_','t','e','s']) (by kernel_rfl) ES];kernel_rfl
def uJ:Slot "set_iterator" "__iter__" "set_iterator.__iter__":=.of (owner:="set_iterator") (n:="__iter__") (by rw[kX,gB];kernel_rfl) (by decide) (by decide) (by decide) (by first |exact .inl (by decide) |exact .inr<|by decide)<|by rw[iM];kernel_rfl
def A3:entryFor table "set_iterator.__iter__"=some Builtin.«dict_keyiterator.__iter__»:=WN (id':="dict_keyiterator.__iter__") (by kernel_rfl) rfl (by decide)<|by kernel_rfl
def DM(a:Value):argsOk "set_iterator.__iter__" ⟨[a],[]⟩:=by unfold argsOk;rw[signature?_of (id:="set_iterator.__iter__") (n:=['_','_','r','e','t','i','_','_']) (o:=['r','o','t','a','r','e','t','i','_','t','e','s']) (by kernel_rfl) ES];kernel_rfl
def Db:entryFor table "set.__iter__"=some Builtin.«frozenset.__iter__»:=WN (id':="frozenset.__iter__") (by kernel_rfl) rfl (by decide)<|by kernel_rfl
def qx(w:World)(D:Addr)(ep:Nat)(es:Array (Int×Value)):Array (Int×Value):=if SY w=true then pickOrder (w.params.setOrder D ep) es else es
def EW(w:World)(D:Addr)(ep:Nat)(es:Array (Int×Value)):(qx w D ep es).toList.Perm es.toList:=by unfold qx;split;exact Ki _ _;exact DW _
def Zc(h:Heap)(I D:Addr)(f i n ep:Nat):Prop:=∃o,h.get? I=some o/\o.cls=.type "set_iterator"/\o.data=.fields #[.int f 0,.int i 0,.ref D,.int n 0,.int ep 0]
def Zc.typeIs{D:Addr}{s:Shared}(x:Zc s.heap I D f i n ep):s.TypeIs (.ref I) "set_iterator":=let⟨o,ho,hc,_⟩:=x;⟨o,ho,hc⟩
structure Wk(w:World)(D:Addr)(o:Obj)(es:Array (Int×Value))(ep:Nat)(t:SetTable):Prop where
 hd:o.data=.set es ep t
 ty:o.cls=.type "set"
 fit:t.fits es.size=true
 pl:t.plain=true
 ld:t.led= !SY w
 tb:Tb t
 sz:t.place.size=es.size
def Tr(w:World)(t:SetTable)(f i:Nat):Prop:=SY w=true\/SetTable.below t.place f=i
def IT{D:Addr}{s:Shared}{es:Array (Int×Value)}{t:SetTable}{Q:Option (Value×Nat)->Shared->Prop}(K:Wk w D o es ep t)(ho:s.heap.get? D=some o)(hf:Tr w t f i)(hi:i<=es.size)(h:∀r,((qx w D ep es)[i]?=none->r=none)->(∀e,(qx w D ep es)[i]?=some e->∃f',r=some (e.2,f')/\Tr w t f' (i+1))->Q r s):wpAny (model prog w) A (setNext D f i ep) Q E s:=by
 refine ae<|fE ho K.hd K.fit ?_;refine ae<|ae<|jN<|ap ?_;by_cases b:SY w=true;refine ou (λ_=>?_) λq=>absurd b q;rw[af<|by simp];refine ae<|ae<|fE ho K.hd K.fit ?_;refine ae<|ae<|jN<|ap ?_;refine ou (λ_=>?_) λq=>absurd b q;refine ae<|jN ?_;refine ap<|ap ?_;have e:qx w D ep es=pickOrder (w.params.setOrder D ep) es:=ag b;refine h _ (λz=>?_) λx z=>⟨f,?_,.inl b⟩;rw[e]at z;show Option.map _ (pickOrder (w.params.setOrder D ep) es)[i]?=none;rw[z];rfl;rw[e]at z;show Option.map _ (pickOrder (w.params.setOrder D ep) es)[i]?=_;rw[z];rfl;refine ou (λq=>absurd q b) λ_=>?_;rw[af<|by show¬((!t.plain&&_)=true);rw[K.pl];simp];have e:qx w D ep es=es:=af b;have b':SY w=false:=by simpa using b
 have bl:=hf.resolve_left b;refine ae ?_;show wpAny _ _ (if(!t.led&& !es.isEmpty)=true then _ else _) _ _ _;rw[af<|by rw[K.ld,b'];simp];refine ap ?_;rw[bl];refine ap (h _ (λz=>?_) λx z=>?_);rw[e]at z;rw[z];rw[e]at z;rw[z];have XQ:=(getD_some (d:=x) z).2;have hp:i<t.place.size:=by rwa[K.sz]
 rw[bL hp];refine⟨t.place[i]+1,rfl,.inr ?_⟩;obtain⟨b1,b2,b3⟩:=jB K.tb.ris<|t.place[i]+1;have dd:∀k d,k<t.place.size->t.place.getD k d=t.place.getD k 0:=λk d hk=>by simp[hk]
 have gi:t.place.getD i 0=t.place[i]:=by simp[hp]
 rcases fT (SetTable.below t.place<|t.place[i]+1) (i+1)with q |q |q;have:=b3 i (by lia) hp;rw[dd _ _ hp,gi]at this;lia;exact q;have:=b2 (i+1) q;have h1:i+1<t.place.size:=by lia
 rw[dd _ _ h1]at this;have:=K.tb.ris i (i+1) (by lia) h1;lia
section
variable {D:Addr}{es:Array (Int×Value)}{t:SetTable}
def OG{s:Shared}{I:Addr}{Q:Option Value->Shared->Prop}(XB:D≠I)(K:Wk w D o es ep t)(ho:s.heap.get? D=some o)(hit:Zc s.heap I D f i es.size ep)(hf:Tr w t f i)(hi:i<=es.size){x:Int×Value}(hx:(qx w D ep es)[i]?=some x)(hQ:∀h' f',Zc h' I D f' (i+1) es.size ep->Tr w t f' (i+1)->Heap.SameBut I s.heap h'->Q (some x.2) {s with heap:=h'}):wpAny (model prog w) A (pyNext<|.ref I) Q E s:=by obtain⟨oI,hoI,hc,hd⟩:=id hit;refine ae<|lD<|dZ hit.typeIs Xo<|de Xo hit.typeIs tK ?_<|vG _;refine ae<|ap ?_;refine ae<|K7 hoI hd ?_;refine ae<|N6 ho K.hd K.fit ?_;rw[af<|by simp];simp;refine ae (IT K ho hf hi λr _ h2=>?_);obtain⟨f',rfl,hf'⟩:=h2 x hx;refine ae<|gT hoI hd (by simp) ?_;have g1:=fH (Obj.mapFields (·.setIfInBounds 0 (rawInt f'))) hoI<|lN<|fM hd _;have d1:=fM hd (·.setIfInBounds 0 (rawInt f'));refine ae<|gT g1 d1 (by simp) ?_;have g2:=fH (Obj.mapFields (·.setIfInBounds 1 (rawInt<|i+1))) g1<|lN<|fM d1 _;have d2:=fM d1 (·.setIfInBounds 1 (rawInt<|i+1));refine ap ⟨_,rfl,ap<|hQ _ f' ⟨_,g2,?_,?_⟩ hf'<|(dJ _ _ _).trans<|dJ _ _ _⟩;rwa[AH,AH];rw[d2];simp[rawInt]
def OH{A:Around}{s:Shared}{I:Addr}{Q:Option Value->Shared->Prop}(hh:A.handled=none)(XB:D≠I)(K:Wk w D o es ep t)(ho:s.heap.get? D=some o)(hit:Zc s.heap I D f i es.size ep)(hf:Tr w t f i)(hi:i<=es.size)(hx:(qx w D ep es)[i]?=none)(hQ:∀h',Heap.ExtBut I s.heap h'->Q none {s with heap:=h'}):wpAny (model prog w) A (pyNext<|.ref I) Q E s:=by let⟨oI,hoI,hc,hd⟩:=id hit;refine ae<|lD<|dZ hit.typeIs Xo<|de Xo hit.typeIs tK ?_<|vG _;refine ae<|ap ?_;refine ae<|K7 hoI hd ?_;refine ae<|N6 ho K.hd K.fit ?_;rw[af<|by simp];simp;refine ae (IT K ho hf hi λr h1 _=>?_);rw[h1 hx];refine ae<|gT hoI hd (by simp) ?_;refine ae ?_;simp only[newExc,newTuple];refine ae<|dC ?_ (by size_fits);refine ae<|dU (by first |rfl |(simp;rfl)) ?_;refine dC ?_ (by size_fits);simp only[raiseNew];refine ae<|Oh ?_;rw[show A.in1.handled=none from hh];refine ae<|ap<|Va ?_;refine ae<|nc ⟨_,a7 _ rfl,rfl⟩ K8 ?_;exact ap<|hQ _<|((dJ ..).extBut.push _).push _
def M0{Q:uA}{s:Shared}(K:Wk w D o es ep t)(ho:s.heap.get? D=some o)(hQ:Q (.ref s.heap.objs.size) {s with heap:=s.heap.push {cls:=.type "set_iterator",data:=.fields #[.int (0:Nat) 0,.int (0:Nat) 0,.ref D,.int es.size 0,.int ep 0]}}):wpAny (model prog w) A (pyIter<|.ref D) Q E s:=by have hT:s.TypeIs (.ref D) "set":=⟨o,ho,K.ty⟩;refine AG hT Ws<|de Ws hT Db ?_<|PySem.F.args_set_iter_1 _;refine ae<|ae<|ap<|ap ?_;refine ae<|ae<|N6 ho K.hd K.fit<|ap ?_;refine ae<|ae<|fE ho K.hd K.fit ?_;refine ae<|ae<|jN<|ap ?_;refine ap ?_;refine ou (λq=>absurd q ?_) λ_=>?_;show¬((!_&&(!t.plain&&_))=true);rw[K.pl];simp;refine ae<|ap ?_;refine ae<|ae<|fE ho K.hd K.fit<|ap ?_;refine ae<|dC<|ap ⟨_,rfl,"set_iterator",_,⟨_,a7 _ rfl,rfl⟩,Xo.lookup,?_⟩;simpa[rawInt]using hQ
def Zc.at{h':Heap}(x:Zc h I D f i n ep)(e:∀o,h.get? I=some o->h'.get? I=some o):Zc h' I D f i n ep:=let⟨o,ho,r⟩:=x;⟨o,e _ ho,r⟩
def M4{s:Shared}{Q:Bool->Shared->Prop}(hT:s.TypeIs (.ref D) "set")(h:Q false s):wpAny (model prog w) A (Builtin.List.listLengthHint<|.ref D) Q E s:=by
 refine ae<|vL hT PySem.F.slot_set_len.lookup ?_;generalize hid:("set.__len__":String)=id0
 wp_delta
 rw[show splitId id0=some ("set","__len__")from by subst hid;decide];subst hid;refine ae<|nc (b:=true) hT (by rw[iM];kernel_rfl) ?_;refine ou (λhab=>absurd hab<|by decide) λ_=>?_;refine ou (λ_=>?_) λhab=>absurd rfl hab;refine ae<|wpAny_typeOf hT ?_;exact ap h
def Qd(tb:Tb t):SetTable.below t.place 0=0:=by obtain⟨a,b,c⟩:=jB tb.ris 0;rcases nh (SetTable.below t.place 0)with z |z;exact z;exact absurd (b 0 z)<|gO _
def Rr(K:Wk w D o es ep t):KdlSrc prog w "set" D D es.size (λi v=>∃x,(qx w D ep es)[i]?=some x/\v=x.2) λh=>h.get? D=some o where
 type:=λs h=>⟨o,h,K.ty⟩
 there:=λh e=>⟨bc e,bc e⟩
 keep:=λh h' e k=>k D (.inl rfl) _ e
 notList:=rfl
 notTuple:=rfl
 hint:=λA E s Q e h=>M4 ⟨o,e,K.ty⟩ h
 iter:=λA s hh e=>by
  have hn:=dh<|bc e
  have sz:(qx w D ep es).size=es.size:=by rw[<-bw,(EW w D ep es).length_eq,bw]
  refine⟨_,λi h=>∃f,Zc h s.heap.objs.size D f i es.size ep/\Tr w t f i/\i<=es.size/\h.get? D=some o,λE Q h=>M0 K e h,?_,0,⟨_,a7 _ rfl,rfl,rfl⟩,.inr<|Qd K.tb,aJ _,aE _ e⟩
  exact{
   sub:=λb hb=>by simp at hb;simp[hb]
   frame:=λi h h' ⟨f,a,b,c,d⟩ k=>⟨f,a.at λo' e'=>k _ (by simp) o' e',b,c,k D (by simp) _ d⟩
   item:=λi s' Q E hi ⟨f,a,b,c,d⟩ hQ=>by
    have hx:(qx w D ep es)[i]?=some ((qx w D ep es)[i]'(by lia)):=bL _
    refine OG hn K d a b c hx λh' f' a' b' sb=>?_
    exact hQ _ h' s'.toks ⟨_,hx,rfl⟩ ⟨f',a',b',by lia,(sb.2 D hn).trans d⟩ λb2 o2 hb e2=>sb.extBut b2 o2 (λz=>hb<|by simp[z]) e2
   done:=λs' Q E ⟨f,a,b,c,d⟩ hQ=>by
    refine OH hh hn K d a b c (AD<|by lia) λh' ex=>?_
    exact hQ h' s'.toks λb2 o2 hb e2=>ex b2 o2 (λz=>hb<|by simp[z]) e2
   self:=λi s' Q E ⟨f,a,_⟩ h=>by
    refine AG a.typeIs uJ<|de uJ a.typeIs A3 ?_<|DM _
    exact ap ⟨_,rfl,"set_iterator",_,a.typeIs,Xo.lookup,h⟩}
end
def lx:az->az->Bool
 |[],[]=>false|[],_::_=>true
 |_::_,[]=>false|a::as,b::bs=>if a=b then lx as bs else decide<|a<b
theorem Hg:∀a,lx a a=false|[]=>rfl|a::as=>by rw[lx,ag rfl];exact Hg as
theorem E5:∀a b c,lx a b=true->lx b c=true->lx a c=true
 |[],[],_,h,_=>nomatch h|[],_::_,[],_,h=>nomatch h
 |[],_::_,_::_,_,_=>rfl|_::_,[],_,h,_=>nomatch h
 |_::_,_::_,[],_,h=>nomatch h|a::as,b::bs,c::cs,h,k=>by unfold lx at h k ⊢;by_cases e:a=b;subst e;rw[ag rfl]at h;by_cases q:a=c;subst q;rw[ag rfl]at k ⊢;exact E5 _ _ _ h k;rw[af q]at k ⊢;exact k;rw[af e]at h;by_cases q:b=c;subst q;rwa[af e];rw[af q]at k;have h':=fv h;have k':=fv k;rw[af<|by lia];exact aq<|by lia
theorem CS:∀a b,lx a b=false->lx b a=false->a=b
 |[],[],_,_=>rfl|[],_::_,h,_=>nomatch h
 |_::_,[],_,h=>nomatch h|a::as,b::bs,h,k=>by unfold lx at h k;by_cases e:a=b;subst e;rw[ag rfl]at h k;rw[CS _ _ h k];rw[af e]at h;rw[af<|gy e]at k;have h':=of_decide_eq_false h;have k':=of_decide_eq_false k;lia
def rk(rs:List az)(a:az):Int:=(rs.countP λq=>lx q a:Nat)
def Q4{p q:α->Bool}:∀{l:List α},(∀x,p x=true->q x=true)->l.countP p<=l.countP q:=λh=>List.countP_mono_left λx _=>h x
theorem Q3{p q:α->Bool}{a:α}:∀{l:List α},(∀x,p x=true->q x=true)->a∈l->p a=false->q a=true->l.countP p<l.countP q
 |x::l,h,m,h1,h2=>by
  rw[List.countP_cons,List.countP_cons];rcases aF.mp m with rfl |m;rw[h1,h2];have:=Q4 (l:=l) h;simp;lia;have:=Q3 h m h1 h2;have:(if p x=true then 1 else 0)<=if q x=true then 1 else 0:=by cases e:p x with|false=>simp|true=>rw[h x e];simp
  lia
def QH{a:az}{rs:List az}(ha:a∈rs):decide (rk rs a<rk rs b)=lx a b:=by
 cases h:lx a b with
 |true=>exact aq<|Wd.mpr<|Q3 (λx z=>E5 _ _ _ z h) ha (Hg a) h
 |false=>
  refine aj λz=>?_;have z:=Wd.mp z;have:rs.countP (λq=>lx q b)<=rs.countP (λq=>lx q a):=Q4 λx y=>by
   cases e:lx x a with
   |true=>rfl
   |false=>
    cases e2:lx b a with
    |true=>rw[E5 _ _ _ y e2]at e;cases e
    |false=>rw[CS _ _ h e2]at e;rw[y]at e;cases e
  lia
def Gv(l:List az):Prop:=l.Pairwise λa b=>lx b a=false
section
variable {rs:List az}
def Yf(prog:Program)(w:World)(h:Heap)(vs:jt)(rs:List az):Prop:=vs.length=rs.length/\∀(i:Nat)(r:az),rs[i]?=some r->r≠[]/\∃a,vs[i]?=some (Value.ref a)/\IsTupleKey (intKind prog w) h r a
def Yf.keeps{h':Heap}{a:Addr}(R:Yf prog w h vs rs)(ho:h.get? a=some o)(hc:o.cls=.type "list")(k:∀b u,b≠a->h.get? b=some u->h'.get? b=some u):Yf prog w h' vs rs:=⟨R.1,λi r e=>let⟨z,b,e1,ob,its,m,g,cl,d⟩:=R.2 i r e;⟨z,b,e1,ob,its,m,k _ _ (λy=>by subst y;rw[ho]at g;cases g;rw[hc]at cl;exact absurd cl<|by decide) g,cl,d⟩⟩
theorem MU{fin:Bool}{Q:Bool->Shared->Prop}:∀(x y:az)(xs ys:jt)(i:Nat)(b:Bool),ItemsAre (intKind prog w) x xs->ItemsAre (intKind prog w) y ys->fin=decide (x.length<y.length)->Q (lx x y) s->KatLex prog w A b fin Q (xs.zip ys) i s
 |[],[],_,_,i,b,h1,h2,hf,h=>by cases h1;cases h2;subst hf;exact h
 |[],_::_,_,_,i,b,h1,h2,hf,h=>by cases h1;cases h2;subst hf;simpa[KatLex,lx]using h
 |_::_,[],_,_,i,b,h1,h2,hf,h=>by cases h1;cases h2;subst hf;simpa[KatLex,lx]using h
 |p::x,q::y,_,_,i,b,h1,h2,hf,h=>by cases h1 with|cons h1 t1=>cases h2 with|cons h2 t2=>obtain⟨t,rfl⟩:=qC h1;obtain⟨u,rfl⟩:=qC h2;refine kat_cons<|wpAny_eqBool_int ?_;unfold lx at h;by_cases e:p=q;subst e;rw[ag rfl]at h;rw[jk];exact kat_yes<|MU x y _ _ (i+1) b t1 t2 (by rw[hf];simp) h;rw[af e]at h;rw[fU.mpr e];refine kat_no ?_;cases b&&i==0 with|true=>exact oneLt_int h|false=>exact kat_one _ _<|lt_int h
def S3{i j:Nat}{s:Shared}{C:Bool->Shared->Prop}(R:Yf prog w s.heap vs rs)(hi:i<rs.length)(hj:j<rs.length)(h:C (decide<|rk rs (rs.getD i [])<rk rs (rs.getD j [])) s):kas_ask prog w A (tuples' b) vs i j C s:=by
 have gi:rs[i]?=some (rs.getD i []):=by simp[hi]
 have gj:rs[j]?=some (rs.getD j []):=by simp[hj]
 obtain⟨_,x,e1,ox,xs,n,h1,_,d1,t1⟩:=R.2 i _ gi;obtain⟨_,y,e2,oy,ys,m,h2,_,d2,t2⟩:=R.2 j _ gj;rw[QH<|bV gi]at h;unfold kas_ask;rw[ac,ac,e1,e2];refine kat_lt h1 d1 h2 d2<|MU _ _ _ _ 0 b t1 t2 ?_ h;have l1:=t1.length;have l2:=t2.length;rw[l1,l2,bw,bw]
theorem BZ:∀{us:jt}{ts:List az}{h:Heap},Yf prog w h us ts->∃fs:jt,KatTups h us fs/\fs.length=ts.length/\∀v∈fs,∃i t,v=.int i t
 |[],[],_,_=>⟨[],.nil,rfl,λv hv=>nomatch hv⟩
 |v::vs,r::rs,h,R=>by
  obtain⟨fs,f1,f2,f3⟩:=BZ (us:=vs) (ts:=rs) (h:=h) ⟨by have:=R.1;simpa using this,λi r' e=>by have:=R.2 (i+1) r' e;simpa using this⟩;obtain⟨ne,a,e1,o,xs,n,g,hc,hd,t⟩:=R.2 0 r rfl;have e1:v=.ref a:=by simpa using e1
  subst e1;cases r with|nil=>exact absurd rfl ne|cons p r=>let⟨xl⟩:=xs;cases t with|@cons _ u _ us h1 t=>obtain⟨q,rfl⟩:=qC h1;refine⟨.int p q::fs,.cons g hc hd (by simp_all) f1,by simp[f2],λv hv=>?_⟩;rcases aF.mp hv with rfl |hv;exact⟨_,_,rfl⟩;exact f3 v hv
 |[],_::_,_,R=>nomatch R.1|_::_,[],_,R=>nomatch R.1
def nM(xs:List α)(d:α)(p:Q7):List α:=p.map λi=>xs.getD i d
def L8{a:Addr}{s:Shared}{vs:jt}{P:PySem.Fin->Shared->Prop}(ho:s.heap.get? a=some (seqObj "list" vs.toArray n))(R:Yf prog w s.heap vs rs)(h64:rs.length<64)(h:∀p h' c,p.Perm (List.range rs.length)->Gv (nM rs [] p)->(∀b o,b≠a->s.heap.get? b=some o->h'.get? b=some o)->h'.get? a=some (seqObj "list" (nM vs .none p).toArray c)->P (.done<|.ret .none) {s with heap:=h'}):
  wpAny (model prog w) A (Builtin.«list.sort» ⟨[.ref a],[]⟩) P E s:=by
 have hvl:=R.1
 have s1:=dJ s.heap a (Obj.mapSeq λ_=>(#[]:Array Value))
 obtain⟨e1,ho1⟩:∃e1,(s.heap.update a (Obj.mapSeq λ_=>(#[]:Array Value))).get? a=some (seqObj "list" #[] e1):=⟨_,get?_update_seq ho λ_=>#[]⟩
 rw[list_sort_plain]
 refine ae<|listItems_at ho rfl ?_
 refine ae<|listUpdate_at ho rfl ?_ (by rw[aT,fR];lia)<|aJ _
 refine ae<|seqEpoch_at ho1 rfl ?_
 refine ae<|wpAny_newTuple ?_<|by show vs.length<=_;rw[fR];lia
 refine ae<|wpAny_newList ?_<|aJ _
 refine fI ?_
 dsimp only
 have kp:∀b o,b≠a->s.heap.get? b=some o->(((s.heap.update a (Obj.mapSeq λ_=>(#[]:Array Value))).push<|seqObj "tuple" vs.toArray 0).push<|seqObj "list" #[] 0).get? b=some o:=λb o ne e=>aE _<|aE _<|(s1.2 b ne).trans e
 have ho6:=aE (seqObj "list" #[] 0)<|aE (seqObj "tuple" vs.toArray 0) ho1
 have R':=R.keeps ho rfl kp
 generalize(((s.heap.update a (Obj.mapSeq λ_=>(#[]:Array Value))).push<|seqObj "tuple" vs.toArray 0).push<|seqObj "list" #[] 0)=h6 at kp ho6 R' ⊢
 have fin:∀(out:Array Value)p,out=(nM vs .none p).toArray->p.Perm (List.range rs.length)->Gv (nM rs [] p)->
   wpAny (model prog w) A (do
    let touched:=(<-seqEpoch a) !=e1
    Builtin.List.listUpdate (.ref a) λ_=>out
    if touched then rule "list.sort.modified";raiseError "ValueError" "list modified during sort"
    ret .none) P E {s with heap:=h6}:=λout p eo hp hs=>by
  have hsz:out.size=rs.length:=by rw[eo];simp[nM,hp.length_eq]
  refine ae<|seqEpoch_at ho6 rfl ?_
  refine ae<|listUpdate_at ho6 rfl ?_ (aJ _)<|by rw[hsz,fR];lia
  simp
  have s2:=dJ h6 a (Obj.mapSeq λ_=>out)
  have g:=get?_update_seq ho6 λ_=>out
  rw[eo]at g s2 ⊢
  exact ap<|h p _ _ hp hs (λb o ne e=>(s2.2 b ne).trans<|kp b o ne e) g
 by_cases h2:vs.toArray.size<2
 rw[ag h2,ag h2]
 refine ae<|ap ?_
 rw[StateT.run_pure]
 refine ae<|ap ?_
 refine fin _ (List.range rs.length) ?_ (DW _) ?_
 rw[show arrOf (SortSt.mk' general' (vs.toArray.zip vs.toArray) #[] 7 none)=vs.toArray.zip vs.toArray from rfl]
 rw[aT]at h2
 rw[<-hvl]
 match vs,h2 with
 |[],_=>simp[nM]
 |[v],_=>simp[nM]
 |_::_::_,h2=>simp at h2;lia
 rw[aT]at h2
 rw[hvl]at h2
 match rs,h2 with
 |[],_=>exact .nil
 |[v],_=>exact Ve _ _
 |_::_::_,h2=>simp at h2;lia
 rw[af h2,af h2]
 rw[aT]at h2
 obtain⟨fs,f1,f2,f3⟩:=BZ R'
 refine ae<|kat_kind (T:=.type "int") f1 (by lia) (λv hv=>?_) (by rfl) ?_
 obtain⟨i,t,rfl⟩:=f3 v hv
 exact Looks.of_pure rfl
 refine ae (cw (kat_run (Q:=λY5 s'=>∃p:Array Nat,s'={s with heap:=h6}/\(arrOf Y5).map (·.2)=(nM vs .none p.toList).toArray/\failedOf Y5=none/\p.toList.Perm (List.range rs.length)/\Gv (nM rs [] p.toList)) (G:=λp s'=>s'={s with heap:=h6}/\Pm rs.length p/\Zt (λi=>rk rs<|rs.getD i []) p rs.length) rfl (by lia) (by lia) (λp Y5 s' a1 a2 a3 a4=>?_) ?_) ?_ λ_ _ e=>e)
 obtain⟨rfl,pm,asc⟩:=a4
 refine⟨p,rfl,kat_snds rfl a2,a3,by have:=Array.Perm.toList pm;simpa using this,?_⟩
 unfold Gv nM
 rw[iQ,vM]
 intro i j hi hj Z1
 rw[bw,pm.size]at hi hj
 have:=asc i j (Ax Z1) hj
 unfold Kp at this
 have Yb:i<p.size:=by rwa[pm.size]
 have hj':j<p.size:=by rwa[pm.size]
 rw[show p.getD i 0=p[i]by simp[Yb],show p.getD j 0=p[j]by simp[hj']]at this
 dsimp only at this
 have m:rs.getD p[j] []∈rs:=by
  have:=pm.lt hj
  rw[show p.getD j 0=p[j]by simp[hj']]at this
  rw[show rs.getD p[j] []=rs[p[j]]by simp[this]];exact cZ this
 have e:=QH (b:=rs.getD p[i] []) m
 rw[aj<|by lia]at e
 simpa using e.symm
 rw[hvl]
 exact(XC.wp (λi j C hi hj hc=>S3 R' hi hj hc) (Oq<|by lia) λp hp=>⟨rfl,hp⟩)
 rintro⟨⟨⟩,Y5⟩ s' ⟨p,rfl,e,hf,hp,hs⟩
 rw[hf,e]
 exact fin _ _ rfl hp hs
end
section
variable {rs:List az}
def Yf.kept{h':Heap}(R:Yf prog w h vs rs)(k:∀b u,h.get? b=some u->h'.get? b=some u):Yf prog w h' vs rs:=⟨R.1,λi r e=>let⟨z,b,e1,ob,its,m,g,cl,d⟩:=R.2 i r e;⟨z,b,e1,ob,its,m,k _ _ g,cl,d⟩⟩
def DN(s:Shared)(vs:jt)(rs:List az)(tk:Nat)(Q:uA):Prop:=∀D h' p c,p.Perm (List.range rs.length)->Gv (nM rs [] p)->(∀b o,s.heap.get? b=some o->h'.get? b=some o)->s.heap.get? D=none->h'.get? D=some (seqObj "list" (nM vs .none p).toArray c)->Q (.ref D) {s with heap:=h',toks:=tk}
def Bu{A:Around}(hc:wpAny (model prog w) A.in1 (collect<|.ref r) (λvs s'=>∃h' tk rs,s'={s with heap:=h',toks:=tk}/\(∀b o,s.heap.get? b=some o->h'.get? b=some o)/\Yf prog w h' vs rs/\rs.length<64/\DN s vs rs tk Q) (λ_ _=>False) s):wpAny (model prog w) A (call (.builtin "sorted") [.ref r]) Q E s:=by
 refine Calls.call_function_entry kind_sorted plain_sorted entry_sorted (args_sorted1 _) ?_;refine ae (m:=checkCount "sorted" 1 1 _)<|ap ?_;refine ae (cw hc (λvs s' hx=>?_) λ_ _ z=>z.elim);obtain⟨h1,tk,rs,rfl,k,R,hz,hq⟩:=hx;refine ae<|wpAny_newList ?_ (by rw[R.1,fR];lia);have g:(h1.push<|seqObj "list" vs.toArray 0).get? h1.objs.size=some (seqObj "list" vs.toArray 0):=a7 _ rfl;have kp:∀b o,h1.get? b=some o->(h1.push<|seqObj "list" vs.toArray 0).get? b=some o:=λb o e=>aE _ e;refine ae<|fI<|de slot_list_sort ⟨_,g,rfl⟩ entry_list_sort (L8 (s:={s with heap:=h1.push<|seqObj "list" vs.toArray 0,toks:=tk}) g (R.kept kp) hz λp h' c hp hs hk hg=>⟨_,rfl,?_⟩)<|args_list_sort _;have le:s.heap.get? h1.objs.size=none:=by cases e:s.heap.get? h1.objs.size with|none=>rfl|some o=>exact absurd (bc<|k _ _ e)<|dW _
 exact ap ⟨_,rfl,hq h1.objs.size h' p c hp hs (λb o e=>hk b o (dh<|bc<|k b o e)<|kp b o<|k b o e) le hg⟩
def Ek{s:Shared}{vs:jt}(hl:s.heap.IsList l vs.toArray)(R:Yf prog w s.heap vs rs)(h64:rs.length<64)(h:DN s vs rs s.toks Q):wpAny (model prog w) A (call (.builtin "sorted") [.ref l]) Q E s:=by have kp:∀b o,s.heap.get? b=some o->((s.heap.push<|seqObj "list" #[] 0).update s.heap.objs.size (Obj.mapSeq (·++vs.toArray))).get? b=some o:=λb o e=>(kD _ _<|td<|bc e).trans<|aE _ e;exact Bu<|collect_list hl ⟨_,s.toks,rs,rfl,kp,R.kept kp,h64,h⟩<|by rw[R.1,fR];lia
def MG{β:Type}{P:α->β->Prop}{l l':List α}(p:l'.Perm l):∀{m:List β},l.length=m.length->(∀(i:Nat)a b,l[i]?=some a->m[i]?=some b->P a b)->∃m':List β,m'.Perm m/\l'.length=m'.length/\∀(i:Nat)a b,l'[i]?=some a->m'[i]?=some b->P a b:=by
 induction p with
 |nil=>exactλ{m}h1 h2=>⟨m,.refl _,h1,h2⟩
 |@cons x l1 l2 _ ih=>
  intro m h1 h2
  match m,h1 with|b::m,h1=>let⟨m',a1,a2,a3⟩:=ih (m:=m) (by simpa using h1) λi x y e1 e2=>h2 (i+1) x y (by simpa using e1) (by simpa using e2);refine⟨b::m',a1.cons b,by simp[a2],λi x' y e1 e2=>?_⟩;cases i with|zero=>exact h2 0 x' y (by simpa using e1) (by simpa using e2)|succ i=>exact a3 i x' y (by simpa using e1)<|by simpa using e2
 |swap x y l=>
  intro m h1 h2
  match m,h1 with
  |b::c::m,h1=>
   refine⟨c::b::m,.swap _ _ _,by simpa using h1,λi x' y' e1 e2=>?_⟩
   match i with
   |0=>exact h2 1 x' y' (by simpa using e1) (by simpa using e2)|1=>exact h2 0 x' y' (by simpa using e1)<|by simpa using e2
   |i+2=>exact h2 (i+2) x' y' (by simpa using e1)<|by simpa using e2
 |trans _ _ ih1 ih2=>intro m h1 h2;obtain⟨m1,a1,a2,a3⟩:=ih2 h1 h2;obtain⟨m2,b1,b2,b3⟩:=ih1 a2 a3;exact⟨m2,b1.trans a1,b2,b3⟩
def GR{D:Addr}{A:Around}{s:Shared}{T:az->Value->Prop}(hh:A.handled=none)(S:XW T prog w s.heap D rs)(hT:∀r v,T r v->r≠[]/\Of prog w s.heap r v)(h64:rs.length<64)(h:∀vs ms tk,ms.Perm rs->vs.length=ms.length->(∀(i:Nat)v r,vs[i]?=some v->ms[i]?=some r->T r v)->DN s vs ms tk Q):wpAny (model prog w) A (call (.builtin "sorted") [.ref D]) Q E s:=by
 obtain⟨o,es,ep,t,ho,hc,hdi,hd,S,nf,hld,Zv⟩:=S;have K:Wk w D o es ep t:=⟨hd,hc,xT S<|by lia,Zv,hld,S.ok.tb,S.led⟩;refine Bu (kdu_collect (Rr K) hh ho (by rw[S.sz,fR];lia) λh' tk acc k it=>?_);obtain⟨ms,p1,p2,p3⟩:=MG (P:=λ(x:Int×Value)r=>T r x.2) (EW w D ep es) (m:=rs) (by rw[bw];exact S.sz) λi x r e1 e2=>by obtain⟨r',q1,_,q2⟩:=S.at' i x (by rwa[<-c7]);rw[e2]at q1;cases q1;exact q2
 have al:acc.toList.length=ms.length:=by rw[bw,it.1,p1.length_eq];exact S.sz
 have at3:∀(i:Nat)v r,acc.toList[i]?=some v->ms[i]?=some r->T r v:=λi v r e1 e2=>by obtain⟨x,q1,q2⟩:=it.2 i v (by rwa[<-c7]);rw[q2];exact p3 i x r (by rwa[c7]) e2
 refine⟨h',tk,ms,rfl,k,⟨al,λi r e=>?_⟩,by rwa[p1.length_eq],h _ ms tk p1 al at3⟩;have hi:i<acc.toList.length:=by rw[al];exact(aG.mp e).1
 obtain⟨a1,a,e2,ob,its,m,g,cl,d⟩:=hT _ _<|at3 i _ r (am hi) e;exact⟨a1,a,by rw[am hi,e2],ob,its,m,k _ _ g,cl,d⟩
end
theorem yn:∀{a b:List az},Gv a->Gv b->a.Perm b->a=b
 |[],b,_,_,p=>(List.nil_perm.mp p).symm|x::a,[],_,_,p=>nomatch List.perm_nil.mp p
 |x::a,y::b,h1,h2,p=>by
  have h1':=List.pairwise_cons.mp h1;have h2':=List.pairwise_cons.mp h2;have e:x=y:=by have m1:=p.mem_iff.mp aN;have m2:=p.mem_iff.mpr aN;rcases aF.mp m1 with z |z;exact z;rcases aF.mp m2 with z2 |z2;exact z2.symm;exact CS _ _ (h2'.1 _ z)<|h1'.1 _ z2
  subst e;rw[yn h1'.2 h2'.2<|List.Perm.cons_inv p]
end My
namespace L2.EV
open PySem PySem.W PySem.Spec PyProof.Rows My
variable {α:Type}
variable {K:gS}{ds:ck}
def Dn(elt target iter:Expr)(ifs:vO)(scope:Scope)(pos:Pos)(it acc:Value)(env:Env):compTurn (.SetComp elt [⟨target,iter,ifs,0⟩] scope pos) 0 it acc env=(do
   standAt iter.pos
   match <-pyNext it with
   |none=>pure<|.done .next
   |some v=>
    letOwnedTupleGo target it v
    assign target env v
    let mut ok:=true
    for c in ifs do
     if ok then ok <-isTrue c env (eval c env)
    if ok then(do let v <-eval elt env;standAt elt.pos;let _ <-call (.builtin "set.add") [acc,v])
    again (.compLoop (.SetComp elt [⟨target,iter,ifs,0⟩] scope pos) 0 it acc env)):=by rfl
section
variable {R:Result->Shared->Prop}{env:Env}
def A7(h0:codeAny (model prog w) A (.compLoop (.SetComp elt [⟨target,iter,ifs,0⟩] scope pos) 0 it acc env) R s)(h:wpAny (model prog w) A (pyIter it) (λit' s'=>codeAny (model prog w) A (.compLoop (.SetComp elt [⟨target,iter,ifs,0⟩] scope pos) 0 it' acc env) R s') (notedBy (model prog w) A env λx s'=>R (.error x) s') s):codeAny (model prog w) A (.compStart (.SetComp elt [⟨target,iter,ifs,0⟩] scope pos) 0 it acc env) R s:=by
 refine codeAny_of_tree ?_;refine wpAny_notedAt ?_;refine ae<|jN<|wpAny_ite ?_;split;first
  |exact ae (ap<|ap<|And.intro rfl h0)|exact ap<|And.intro rfl h0
 refine ae<|Ge ?_;exact ae<|fk<|ae (cw h (λit' s' h'=>ap<|And.intro rfl h') λ_ _ x=>x)
def Do(I:Nat->Shared->Prop)(turn:∀n s,I n s->wpAny (model prog w) A (pyNext it) (λr s₁=>match r with
   |none=>R (.ok .next) s₁
   |some v=>wpAny (model prog w) A (letOwnedTupleGo target it v) (λ_ s₀=>wpAny (model prog w) A (assign target env v) (λ_ s₂=>
     wpAny (model prog w) A (forIn ifs true λc r=>if r=true then do let ok <-isTrue c env (eval c env);pure (ForInStep.yield ok)else pure<|ForInStep.yield r) (λok s₃=>
      if ok=true then wpAny (model prog w) A (eval elt env) (λx s₄=>
       wpAny (model prog w) A (call (.builtin "set.add") [acc,x]) (λ_ s₅=>∃m,m<n/\I m s₅) (λ_ _=>False) s₄) (λ_ _=>False) s₃
      else∃m,m<n/\I m s₃) (λ_ _=>False) s₂) (λ_ _=>False) s₀) (λ_ _=>False) s₁) (λ_ _=>False) s)
  n (h:I n s):
  codeAny (model prog w) A (.compLoop (.SetComp elt [⟨target,iter,ifs,0⟩] scope pos) 0 it acc env) R s:=by
 refine Tg rfl I (λn s hI=>?_) n h
 refine Vb ?_
 rw[Dn]
 refine ae<|fk<|ae (cw (turn n s hI) (λr s₁ h₁=>?_) λ_ _ h'=>h'.elim)
 cases r with
 |none=>exact ap h₁
 |some v=>
  refine ae (cw h₁ (λ_ s₀ h₀=>ae (cw h₀ (λ_ s₂ h₂=>ae (cw h₂ (λok s₃ h₃=>?_) λ_ _ h'=>h'.elim)) λ_ _ h'=>h'.elim)) λ_ _ h'=>h'.elim)
  cases ok with
  |false=>exact ap ⟨rfl,h₃⟩
  |true=>
   exact ae<|ae (cw h₃ (λx s₄ h₄=>ae<|fk<|ae (cw h₄ (λ_ s₅ h₅=>ap<|ap ⟨rfl,h₅⟩) λ_ _ h'=>h'.elim)) λ_ _ h'=>h'.elim)
end
def ZV(F:Hp)(T:az->Value->Prop):Prop:=∀r v,T r v->r≠[]/\∃a,v=.ref a/\F a=some (.tup<|r.map V.int)
def ZV.mono{T:az->Value->Prop}(h:ZV F T)(s:W8 F F'):ZV F' T:=λr v z=>let⟨a,b,c,d⟩:=h r v z;⟨a,b,c,s _ _ d⟩
def OA(P:Program)(w:World)(T:az->Value->Prop)(D:Addr)(us:List az):HO:=.ext λh=>XW T P w h D us
def Ka{D:Addr}{T T':az->Value->Prop}{us:List az}(S:XW T P w h D us)(k:∀r v,T r v->T' r v):XW T' P w h D us:=
 let⟨o,es,ep,t,a,b,c,d,S,e⟩:=S
 ⟨o,es,ep,t,a,b,c,d,⟨S.ok,S.sz,λi x hx=>let⟨r,p,q,z⟩:=S.at' i x hx;⟨r,p,q,k _ _ z⟩,S.nd⟩,e⟩
def QF{D:Addr}{T:az->Value->Prop}{us:List az}(S:XW T P w h D us):Xj P w H h D (OA P w T D us):=⟨S,let⟨o,_,_,_,a,_⟩:=S;⟨o,a⟩,λ_ _ ⟨o,es,ep,t,a,r⟩ k=>⟨o,es,ep,t,k o a,r⟩⟩
section
variable {X:Cx}{T:az->Value->Prop}{us:List az}
def LM{DD:Addr}(I:Inv X on Y H s)(e:H DD=some (OA X.prog X.w T DD us)):XW T X.prog X.w s.heap DD us:=(I.Xg DD _ e).1
def ZV.key(h:ZV F T)(sub:W8 F H)(I:Inv X on Y H s):∀r v,T r v->Of X.prog X.w s.heap r v:=λr v z=>let⟨_,a,b,c⟩:=h r v z;⟨a,b,Ea I<|sub _ _ c⟩
def Ok.zC8{DD:Addr}{U:List Sl}(I:Inv X on Y H s)(k:Ok K B F H Y U)(e:H DD=some (OA X.prog X.w T DD us))(hf:F DD=none)(hb:B.H DD=none):Ok K B F (fN H DD o) Y U:=by
 have nl:∀vs,H DD≠some (.lst vs):=λvs z=>by rw[e]at z;cases z
 have nd:∀es,H DD≠some (.ext<|ib DD es):=λes z=>by obtain⟨o,_,_,_,g,c,_⟩:=LM I e;have q:=(I.Xg DD _ z).1;obtain⟨_,_,o',g',⟨x1,_⟩,_⟩:=q;rw[g]at g';cases g';rw[c]at x1;exact absurd x1<|by decide
 refine⟨⟨λb u q=>?_,λb u q=>?_,k.sf,k.nw⟩,k.len,k.vals,λi xs e=>?_,k.dist,⟨λi kvs e=>?_,k.Xm.Y6⟩⟩;rw[bq λz=>by subst z;rw[hf]at q;cases q];exact k.sub b u q;rw[bq λz=>by subst z;rw[hb]at q;cases q];exact k.sh b u q;obtain⟨a,vs,h1,h2,h3,h4,h5⟩:=k.XJ i xs e;exact⟨a,vs,h1,by rwa[bq λz=>by subst z;exact nl _ h2],h3,h4,h5⟩;obtain⟨a,es,h1,h2,h3⟩:=k.Xm.Y3 i kvs e;exact⟨a,es,h1,by rwa[bq λz=>by subst z;exact nd _ h2],h3⟩
def Rl{r:az}{a:Addr}{Q:uA}{DD:Addr}(hc:X.calm=true)(hu:X.A.units+64<cLine)(I:Inv X on Y H s)(sub:W8 F H)(e:H DD=some (OA X.prog X.w T DD us))(hT:ZV F T)(hz:us.length<=14)(hr:r≠[])(ha:F a=some (.tup<|r.map V.int))(h:∀T' YM s',Inv X on Y (fN H DD<|OA X.prog X.w T' DD YM) s'->ZV F T'->(∀q,q∈YM↔q=r\/q∈us)->YM.length<=us.length+1->(∀b o,b≠DD->s.heap.get? b=some o->s'.heap.get? b=some o)->Q .none s'):gA X (call (.builtin "set.add") [.ref DD,.ref a]) Q X.xe s:=by
 have hT':ZV F (λq v=>T q v\/(q=r/\v=.ref a)):=λq v z=>by rcases z with z |⟨rfl,rfl⟩;exact hT q v z;exact⟨hr,a,rfl,ha⟩
 have S:=Ka (T':=λq v=>T q v\/(q=r/\v=.ref a)) (LM I e) λ_ _ z=>.inl z;refine Du (by show X.A.units+1<cLine;lia) S (hT'.key sub I) hz (Ea I<|sub _ _ ha) (.inr ⟨rfl,rfl⟩) λh' YM tk sb S' m1 m2=>?_;refine h _ YM _ (I.write (by rw[e];trivial) (.inl rfl) (λb u ne q=>(sb.2 b ne).trans q) (let⟨o,_,_,_,g,_⟩:=S';⟨o,g⟩)<|QF S') hT' m1 m2 λb o ne q=>(sb.2 b ne).trans q
end
def UN(X:Cx)(on:jn)(Y:St)(F2 H2:Hp)(rs:List az)(D' C:Addr)(s':Shared):Prop:=∃(F' H':Hp)(T:az->Value->Prop)(us:List az)(m:AE),Inv X on Y H' s'/\s'.heap.Ns C m/\H' C=none/\C≠X.env.locals/\X.s₀.heap.objs.size<=C/\(∀x c,X.env.cells.lookup x=some c->c≠C)/\(∀p∈X.pn++on,p.1≠C)/\Ext ⟨F2,H2⟩ F' H'/\H2 D'=none/\H' D'=some (OA X.prog X.w T D' us)/\F' D'=none/\ZV F' T/\(∀q,q∈us↔q∈rs)/\us.length<=14/\D'≠C
def SSt(X:Cx)(DD:Addr)(F H:Hp)(T:az->Value->Prop)(us r0:List az):Prop:=H DD=some (OA X.prog X.w T DD us)/\F DD=none/\ZV F T/\(∀q,q∈us↔q∈r0)/\us.length<=r0.length
def SSt.ext{X:Cx}{T:az->Value->Prop}{us r0:List az}(s:SSt X DD F H T us r0)(x:Ext ⟨F,H⟩ F' H'):SSt X DD F' H' T us r0:=⟨x.sh _ _ s.1,x.kf s.2.1 s.1,s.2.2.1.mono x.sf,s.2.2.2⟩
def BQ(x:Xj P w H h a o):∃ob,h.get? a=some ob:=by
 cases o with
 |lst xs=>let⟨_,_,_,_,e⟩:=x;exact⟨_,e⟩|tup xs=>let⟨_,_,_,o,e,_⟩:=x;exact⟨o,e⟩
 |dK kvs=>let⟨_,_,_,_,o,_,_,e,_⟩:=x;exact⟨o,e⟩|dT kvs=>let⟨_,_,_,_,o,_,_,e,_⟩:=x;exact⟨o,e⟩
 |set S n=>let⟨o,_,_,_,e,_⟩:=x;exact⟨o,e⟩|ins C dx fs=>let⟨_,_,_,e,_⟩:=x;exact⟨_,e⟩
 |own y=>exact x|xd fs=>let⟨_,⟨o,_,_,e,_⟩,_⟩:=x;exact⟨o,e⟩
 |rng lo hi=>let⟨_,_,_,e⟩:=x;exact⟨_,e⟩|Ym ob u=>exact⟨ob,x.1⟩
 |tbl ps=>exact⟨_,show h.get? a=some _ from x⟩|met f y=>exact⟨_,show h.get? a=some _ from x⟩
 |ext φ=>exact x.2.1
section
variable {X:Cx}{T:az->Value->Prop}
def Uj{a:Addr}{t':Nat}{h':Heap}(I:Inv X on Y H s)(k:∀b u,s.heap.get? b=some u->h'.get? b=some u)(hp:s.heap.get? a=none)(new:Xj X.prog X.w (fN H a o) h' a o):H a=none/\Inv X on Y (fN H a o) {s with heap:=h',toks:=t'}:=by
 have hn:H a=none:=by cases e:H a with|none=>rfl|some u=>let⟨ob,q⟩:=BQ<|I.Xg a u e;rw[hp]at q;cases q
 have ne:∀b u,s.heap.get? b=some u->b≠a:=λb u e z=>by subst z;rw[hp]at e;cases e
 refine⟨hn,I.un ⟨λb u q _ _ _=>k b u q,λb u q _ _ _=>⟨u.slots,k b u q⟩,λb u q n _=>by rwa[bq<|ne b u q],λb u q _=>⟨u,k b u q⟩,λb xs q=>by rwa[bq<|eH q hn],λb u xs q=>by rwa[bq<|eH q hn],λb ps q=>⟨#[],by rw[bq<|eH q hn,q];simp⟩⟩ λb u e=>?_⟩;by_cases hb:b=a;subst hb;rw[bI]at e;cases e;exact new;rw[bq hb]at e;exact(I.Xg b u e).Zi (λc v _ q=>k c v q) (λc q=>by rwa[bq<|eH q hn]) λc xs q=>by rwa[bq<|eH q hn]
theorem Ez{vs:jt}{ms:List az}(hT:ZV F T)(hl:vs.length=ms.length)(h:∀(i:Nat)v r,vs[i]?=some v->ms[i]?=some r->T r v):∀p:Q7,(∀j∈p,j<ms.length)->∃xs:ij,Vals xs (nM vs .none p)/\W3 K F xs ((nM ms [] p).map aD)|[],_=>⟨[],.nil,.nil⟩|j::p,hj=>by obtain⟨xs,a,b⟩:=Ez hT hl h p λi hi=>hj i<|aC _ hi;have hj:=hj j aN;obtain⟨_,ad,e,fa⟩:=hT _ _<|h j (vs.getD j .none) (ms.getD j []) (by simp[hl,hj]) (by simp[hj]);exact⟨.ref ad::xs,.cons (e) a,.cons (.tup fa<|W3.ints _) b⟩
def El{vs:jt}{Q:VK}{ms out:List az}(I:Inv X on Y H s)(hT:ZV F T)(hl:vs.length=ms.length)(h:∀(i:Nat)v r,vs[i]?=some v->ms[i]?=some r->T r v)(h64:ms.length<64)(ho:Gv out)(hp:out.Perm ms)(q:∀l xs,H l=none->W3 X.K F xs (out.map aD)->Q (.ref l) (fN H l<|.lst xs)):DN s vs ms tk (EP X on Y Q):=by
 intro D h' p c p1 p2 k hn g;have pj:∀j∈p,j<ms.length:=λj hj=>by simpa using p1.mem_iff.mp hj
 obtain⟨xs,a,b⟩:=Ez (K:=X.K) hT hl h p pj;have e:=yn p2 ho ((p1.map _).trans (by
  have e2:(List.range ms.length).map (λi=>ms.getD i [])=ms:=N9 (by simp) λi h1 h2=>by simp[h2]
  rw[e2];exact hp.symm))
 rw[e]at b;have len:xs.length=ms.length:=by rw[b.length,ab,hp.length_eq]
 obtain⟨n,I'⟩:=Uj (t':=tk) I k hn (o:=.lst xs) ⟨by rw[len,fR];lia,_,c,a,g⟩;exact⟨V.ref D,_,I',rfl,q D xs n b⟩
def HK(hc:X.calm=true):kG X (.builtin "sorted") (λxs H Q=>∃(l:Addr)(F:Hp)(vs:ij)(rs out:List az),xs=[.ref l]/\XU X.K H l vs/\W8 F H/\W3 X.K F vs (rs.map aD)/\(∀r∈rs,r≠[])/\rs.length<64/\Gv out/\out.Perm rs/\∀l xs,H l=none->W3 X.K F xs (out.map aD)->Q (.ref l) (fN H l<|.lst xs)):=by
 intro on s Y H xs us Q I r h;obtain⟨l,F,vs,rs,out,rfl,sl,sub,rl,XB,h64,ho,hp,q⟩:=h;obtain⟨u,rfl,ru⟩:=oz r;cases(ru);obtain⟨its,rv,pl,hz⟩:=I.list sl;have l1:its.length=rs.length:=by rw[<-rv.length,rl.length,ab]
 have at':∀(i:Nat)v r,its[i]?=some v->rs[i]?=some r->r≠[]/\∃a,v=.ref a/\F a=some (.tup<|r.map V.int):=λi v r e1 e2=>by obtain⟨x,e3,rx⟩:=rl.get (i:=i) (d:=aD r) (by rw[aw,e2];rfl);obtain⟨u,e4,ru⟩:=rv.get e3;rw[e1]at e4;cases e4;cases rx with|tup fa ra=>rw[ra.XZ]at fa;exact⟨XB r<|bV e2,_,ru,fa⟩
 refine Ek pl.isList ⟨l1,λi r e=>?_⟩ h64<|El I (λr v z=>z) l1 at' h64 ho hp q;have hi:i<its.length:=by rw[l1];exact(aG.mp e).1
 obtain⟨n,a,e2,fa⟩:=at' i _ r (am hi) e;exact⟨n,a,by rw[am hi,e2],Ea I<|sub _ _ fa⟩
def HJ(hc:X.calm=true):kG X (.builtin "sorted") (λxs H Q=>∃(D:Addr)(F:Hp)(T:az->Value->Prop)(us rs out:List az),xs=[.ref D]/\H D=some (OA X.prog X.w T D us)/\W8 F H/\ZV F T/\(∀q,q∈us↔q∈rs)/\us.length<=14/\Gv out/\out.Nodup/\(∀q,q∈out↔q∈rs)/\∀l xs,H l=none->W3 X.K F xs (out.map aD)->Q (.ref l) (fN H l<|.lst xs)):=by
 intro on s Y H xs us Q I r h;obtain⟨D,F,T,us,rs,out,rfl,e,sub,hT,m,hz,ho,hnd,hm,q⟩:=h;obtain⟨u,rfl,ru⟩:=oz r;cases(ru);have S:=LM I e;have nd:us.Nodup:=let⟨_,_,_,_,_,_,_,_,S,_⟩:=S;S.nd;have pm:=(Ti hnd nd).mpr λx=>by rw[hm,m]
 exact GR (I.ok.hd hc) S (λr v z=>⟨(hT r v z).1,hT.key sub I r v z⟩) (by lia) λvs ms tk p1 l1 at'=>El I hT l1 at' (by rw[p1.length_eq];lia) ho (pm.trans p1.symm) q
end
section
variable {X:Cx}{ds:ck}{rs out:List az}
def LX{cl:List (Str×Addr)}{tn:Nat->Heap->Prop}{J:It}(t:At X N sc)(S:kT N sc N' scope)(I2:Inv X on Y H2 s2)(T:xA X.prog X.w X.K tg J fp it tn)(t0:tn 0 s2.heap)(fo2:∀b∈fp,pX X on H2 b)(k2:Ok X.K B F2 H2 Y U)(JO:pW X.K J F2 ds)(hz:ds.length<=14)(Zg:∀n c,cl.lookup n=some c->X.env.cells.lookup n=some c)(ZR:∀n,(n,NameKind.free)∈scope.names->∃c,cl.lookup n=some c)(run:∀X',X3 X X' N' (pC scope sc) (tX scope)->W9 X' tg elt ifs ds (U++List.replicate (N'.length-N.length) .un) (rs.map aD))(XB:∀r∈rs,r≠[]){RR:Value->Addr->Result->Shared->Prop}(hRR:∀D' C s',UN X on Y F2 H2 rs D' C s'->RR (.ref D') C (.ok .next) s'):gA X (newSet<|.type "set") (λacc s₃=>gA X (newFunctionEnv scope X.env.globals cl [] X.env.qual none .none<|some X.env) (λYV s₄=>codeAny (model X.prog X.w) X.A (.compStart (.SetComp elt [⟨tg,iter,ifs,0⟩] scope pos) 0 (.ref it) acc {YV with scope:=relabel scope X.env}) (RR acc YV.locals) s₄) E s₃) E s2:=by
 refine EZ (λ_ _=>False) λo S0=>?_
 refine z8 (RR:=RR<|.ref s2.heap.objs.size) (BD:=λenv=>V6 (model X.prog X.w) X.A "set.add" elt ifs env s2.heap.objs.size) t.z t.calm S I2 (I2.laid (t':=s2.toks) (λb u e=>aE _ e) (ao _)<|QF S0) T t0 fo2 k2 JO Zg ZR
  (UJ (λ_ _ F' H' r0=>∃T us rl,r0=rl.map aD/\SSt X s2.heap.objs.size F' H' T us rl) tg elt ifs ds<|rs.map aD) (λa b=>A7 a b)
  (λcl C R P h n s p=>Do P h n p) (λX' cx Yl=>⟨[],_,⟨_,[],[],rfl,bI,k2.sub.free Yl,(λ_ _ z=>z.elim),λ_=>.rfl,ao _⟩,run X' cx,rfl,aJ _⟩)
  (λX' ρ' XV F' H' s' m C hv IX hm hf a b c d x' Yl Z8=>by
   have hl:rs.length<=ds.length:=by obtain⟨r0,r1,_,k,e,l⟩:=hv;rw[xH]at k;cases k;rw[dq]at e;rw[<-ab (f:=aD),<-e];exact l
   obtain⟨T,us,rl,e,h1,h2,h3,h4,h5⟩:=Jn hv;have e:=(Ib λx y z=>(Ib λ_ _ q=>D.int.inj q).mp (D.tup.inj z)).mp e;subst e;exact hRR _ C s' ⟨F',H',T,us,m,IX,hm,hf,a,b,c,d,x',Yl,h1,h2,h3,h4,by lia,Z8⟩)
  (λX' cx Yl=>Ei cx (λs x _=>by obtain⟨T,us,rl,e,s⟩:=s;exact⟨T,us,rl,e,s.ext x⟩) λXn s6 σ5 W1 F6 H6 r0 r r1 v u er hl I6 k6 x6 ⟨T1,us,rl,e,ss⟩ r6 ru Kp hk=>by
   obtain⟨rr,hm,rfl⟩:=aZ.mp (er▸bP _ aN:r∈rs.map aD);subst e;rw[ab]at hl;have eP:X'.prog=X.prog:=cx.prog;have eW:X'.w=X.w:=cx.w';cases r6 with|tup ha rl=>
   rename_i a vs;cases ru with |cons ru _=>
   cases(show u=Value.ref a from ru);rw[rl.XZ]at ha;have add:=Rl (X:=X') (DD:=s2.heap.objs.size) (T:=T1) (us:=us) (F:=F6) (r:=rr) (Q:=λ_=>Kp) (cx.cal.trans t.calm) (by rw[cx.a'];exact t.un) I6 k6.sub (by rw[eP,eW];exact ss.1) ss.2.2.1 (by have:=ss.2.2.2.2;lia) (XB rr hm) ha λT' YM s7 I7 hT' m1 m2 kp=>?_;have eA:=cx.a';have eX:=cx.at0.YX;unfold gA at add;rw[eP,eW,eA,eX]at add;exact add;rw[eP,eW]at I7;refine hk s7 _ I7 (Ok.zC8 I6 k6 (by rw[eP,eW];exact ss.1) ss.2.1<|k2.sh.free Yl) (Jt x6 ss.2.1 Yl) ⟨T',YM,_,(bj (l₂:=[rr])).symm,bI,ss.2.1,hT',λq=>?_,?_⟩;·rw[m1,ss.2.2.2.1,cQ,aH];exact Or.comm
   ·rw[aA,dz];have:=ss.2.2.2.2;lia)
def UL(X:Cx)(U:dP)(e:Expr)(rs:List az):Prop:=∀(B:B0)(F H:Hp)(Y:St)(Q:VK),Ok X.K B F H Y U->(∀D T us F' H',Ext ⟨F,H⟩ F' H'->H' D=some (OA X.prog X.w T D us)->ZV F' T->(∀q,q∈us↔q∈rs)->us.length<=14->Q (.ref D) H')->wE X e Y H Q
def Nh(t:At X N sc)(N':fV)(S:kT N sc N' scope)(hi:X5 X U tg iter ds)(hz:ds.length<=14)(run:∀X',XY X X' N' (pC scope sc) (tX scope)->W9 X' tg elt ifs ds (U++List.replicate (N'.length-N.length) .un) (rs.map aD))(XB:∀r∈rs,r≠[])(hs:∀x,foldedSetIterable iter X.env x=pure x:=by intro _;rfl):UL X U (.SetComp elt [⟨tg,iter,ifs,0⟩] scope pos) rs:=λB F H Y Q k q=>.mk λon s I=>by let⟨cl,e1,e2,e3⟩:=vC t.z S I;rw[arm_eval_SetComp];have h1:=hi B F H Y (λJ H1=>∃F1,Ext ⟨F,H⟩ F1 H1/\pW X.K J F1 ds) k (λJ F' H' x j=>⟨F',x,j⟩) on s I;refine js (use:=none) rfl hs e1 S.kind S.names (fD h1 λv s1 h=>fD h λitv s2 h2=>?_);let⟨it,fp,tn,J,H',e,I2,T,t0,fo,F1,x1,JO⟩:=h2;subst e;refine LX (RR:=λacc C=>compPost (model X.prog X.w) X.A X.xe none (EP X on Y Q) acc C) t S I2 T t0 fo (k.ext x1) JO hz e2 e3 (λX' c0=>run X'<|c0.calm t.calm) XB ?_;rintro D' C s' ⟨F',Zq,TT,us,m,IX,hm,h0,hL,hs0,hcl,hpn,x',Z7,hd,hf,hT,hu,hz,Z8⟩;refine⟨m,hm,λh'' sb=>?_⟩;have IX':Inv X on Y Zq {s' with heap:=h''}:=IX.turned (t':=s'.toks) (it:=C) (λb o hb e=>sb.extBut b o hb e) h0 hL (.inr hs0) hcl hpn;exact⟨V.ref D',Zq,IX',rfl,q D' TT us F' Zq (x1.t x') hd hT hu hz⟩
def Nk(t:At X N sc)(bl:tN X sc x (.builtin "sorted"))(ha:UL X U e rs)(h1:Gv out)(h2:out.Nodup)(h3:∀q,q∈out↔q∈rs)(Yq:Pl e:=by intro _ _;rfl):Xe X U (.Call (.Name x p) [e] [] pos) (out.map aD):=.of (iY (HJ t.calm) (hJ t bl.g) bl.m bl.v (dH cF gh<|Yq _ _) bl.n bl.d (Yq _ _) rfl) λB F H Y Q k q=>ha B F H Y _ k λD T us F' H' x' hD hT hu hz=>⟨D,F',T,us,rs,out,rfl,hD,x'.sub,hT,hu,hz,h1,h2,h3,λl xs hl r=>q l xs F' _ ⟨x'.sub.trans<|bG hl,x'.sh.trans<|bG hl,x'.sf,x'.nw⟩ (x'.sh.free hl) bI (x'.sub.free hl) r⟩
def P2(t:At X N sc)(bl:tN X sc x (.builtin "sorted"))(ha:Yj X U e true (rs.map aD))(XB:∀r∈rs,r≠[])(hz:rs.length<64)(h1:Gv out)(h2:out.Perm rs)(Yq:Pl e:=by intro _ _;rfl):Xe X U (.Call (.Name x p) [e] [] pos) (out.map aD):=.of (iY (HK t.calm) (hJ t bl.g) bl.m bl.v (dH cF gh<|Yq _ _) bl.n bl.d (Yq _ _) rfl) λB F H Y Q k q=>ha B F H Y _ k λl vs F' H' x' sl rl=>⟨l,F',vs,rs,out,rfl,sl,x'.sub,rl,XB,hz,h1,h2,λl xs hl r=>q l xs F' _ ⟨x'.sub.trans<|bG hl,x'.sh.trans<|bG hl,x'.sf,x'.nw⟩ (x'.sh.free hl) bI (x'.sub.free hl) r⟩
end
end L2.EV
namespace L2.EV
open PySem PySem.W PySem.Spec PyProof.Rows
variable {α:Type}
variable {K:gS}{ds:ck}
section
variable {X:Cx}
def Ok.zBN{i:Nat}(k:Ok K B F H Y U)(hi:U[i]?=some (.own xs)):∃a us,F a=none/\Ok K B (fN F a<|.lst us) H Y (U.set i<|.val<|.lst xs):=by
 let⟨a,us,h1,h2,h3,h4,h5⟩:=k.XJ i xs hi;refine⟨a,us,h3,?_⟩;have k2:=(k.drop i).freeze h2 h3 h4 λj ys e q=>by by_cases h:i=j;subst h;rw[a9 (aG.mp hi).1]at e;cases e;rw[aB h]at e;exact h<|k.dist i j xs ys a hi e h1 q
 have k3:=k2.Xq i<|.lst bI<|h5.mono<|bG h3;rw[List.set_set,show Y.set i (some<|.ref a)=Y from List.ext_getElem? λj=>by by_cases h:i=j;subst h;rw[a9 (aG.mp h1).1,h1];rw[aB h]]at k3
 exact k3
def PX{U:dP}(i:Nat)(hi:U[i]?=some (.own xs))(h:W5 X (U.set i<|.val<|.lst xs) e b):W5 X U e b:=λB F H Y Q k q=>by obtain⟨a,us,hf,k'⟩:=k.zBN hi;exact h B _ H Y Q k' λF' H' x=>q _ H'<|Ext.zBN (.refl k.sub) hf x
def Vy:V->ij->Hp->VK->Prop:=λx vs H Q=>∃l xs,x=.ref l/\vs=[]/\H l=some (.lst xs)/\Q .Xf (fN H l<|.lst xs.reverse)
theorem D5:∀{zs:ij}{ws:jt},Vals zs ws->Vals zs.reverse ws.reverse|_,_,.nil=>.nil|_,_,.cons r t=>by rw[gK,gK];exact(D5 t).append<|.cons r .nil
def y4:U7 X "list.reverse" Vy:=by intro on s Y H x vs v us Q I rx rv h;obtain⟨l,xs,rfl,rfl,hH,q⟩:=h;cases rx;have hus:=rv.zero;subst hus;let⟨z,its,n,r,hl,e⟩:=I.Za hH;refine de Tu ⟨_,e,rfl⟩ PySem.F.entry_list_reverse ?_<|PySem.F.args_list_reverse_1 _;refine ae<|ap ?_;refine ae<|listUpdate_at e rfl ?_ (by rw[aT];lia) (by show its.toArray.reverse.size<=_;simp;lia);refine ap ⟨_,rfl,V.Xf,_,I.zAQ (t':=s.toks) (its':=its.reverse) hH e ?_ (D5 r)<|by rw[cj];lia,rfl,q⟩;simp
def Kc{apos Xd:Pos}{U:dP}{pos:Pos}(t:At X N sc)(i:Nat)(hr:U[i]?=some (.own xs))(hN:N[i]?=some y:=by rfl)(hv:kC sc y=true:=by rfl)(hx:gv y=true:=by rfl)(Xx:(apos.endLine==Xd.line)=true:=by rfl)(ZE:swapsWith (.Call (.Attribute (.Name y p) "reverse" apos) [] [] Xd) none pos.line X.env=pure false:=by rfl):XX X U (.Expr (.Call (.Attribute (.Name y p) "reverse" apos) [] [] Xd) pos) (.nx<|U.set i<|.own xs.reverse):=.of (u5 (yY gI Tu PySem.F.type_list_reverse y4 cF rfl Xx) ZE) λB F H Y E k q=>nP t hr hN hv hx k λl vs h1 h2 h3=>⟨.inl ⟨rfl,_,XU.of h2⟩,l,vs,rfl,rfl,h2,q F _ _ (k.Ye (vs:=vs) hr h1 h3.reverse)<|.refl _⟩
end
section
variable {X:Cx}{ds rs:ck}
def GW{zAG:Pos}[Zr X](t:At X N sc)(i:Nat)(N':fV)(S:kT N sc N' scope)(hi:X5 X U tg iter ds)(hz:rs.length<sizeLine)(run:∀X',XY X X' N' (pC scope sc) (tX scope)->XG X' tg t1 i1 elt ds (U++List.replicate (N'.length-N.length) .un) rs)(ZE:swapsWith (Bj elt tg iter t1 i1 scope pos) (some<|.Name y py) zAG.line (dE sc)=pure true:=by rfl)(hN:N[i]?=some y:=by rfl)(hy:qB sc y=true:=by rfl)(hs:∀x,foldedSetIterable iter X.env x=pure x:=by intro _;rfl)(hfs:∀cl C x,foldedSetIterable i1 (compEnvC scope cl C X.env) x=pure x:=by intro _ _ _;rfl):XX X U (.Assign [.Name y py] (Bj elt tg iter t1 i1 scope pos) zAG) (.nx<|U.set i<|.own rs):=λB F H Y E k q=>.mk λon s I=>by
 let⟨cl,e1,e2,e3⟩:=vC t.z S I;rw[exec_Assign_Name_used _ _ _ _<|(Co<|t.eS).trans ZE];refine ae<|fk<|ae ?_;have h1:=hi B F H Y (λJ H1=>∃F1,Ext ⟨F,H⟩ F1 H1/\pW X.K J F1 ds) k (λJ F' H' x j=>⟨F',x,j⟩) on s I;refine ae (cw (js (use:=some<|assign (.Name y py) X.env) (Q:=λ_ s'=>SP X on E .next s') rfl hs e1 S.kind S.names (fD h1 λv s1 h=>fD h λitv s2 h2=>?_)) (λ_ s' hq=>ap<|ap hq) λ_ _ e=>e);let⟨it,fp,tn,J,H',e,I2,T,t0,fo,F1,x1,JO⟩:=h2;subst e;refine B6 (RR:=λacc C=>compPost (model X.prog X.w) X.A X.xe (some<|assign (.Name y py) X.env) (λ_ s'=>SP X on E .next s') acc C) t.z t.calm S I2 T t0 fo (k.ext x1) JO hz hfs e2 e3 (λX' c0=>run X'<|c0.calm t.calm) ?_;rintro D' C s' ⟨F',Zq,vs,m,IX,hm,h0,hL,hs0,hcl,hpn,x',Z7,hd,hf,rv,Z8⟩;refine Td<|vX (v:=.ref D') IX t.nd (t.ix hN) (t.loc hy) rfl (λZX I'' zAU=>?_) M6;let⟨a,sb,ha⟩:=zAU;have hCa:C≠a:=by rcases ha with z |z;rwa[z];exact gy<|hcl y a z
 refine⟨m,hm.sameBut sb hCa,λh'' sb'=>?_⟩;have I3:=I''.turned (t':=ZX.toks) (it:=C) (λb o hb e=>sb'.extBut b o hb e) h0 hL (.inr hs0) hcl hpn;have k1:=k.ext<|x1.t x';have hH:=x1.sh.free Z7;exact⟨_,Zq,I3,q F' Zq _ (k1.Yy i hd hf (k.sh.free hH) (k.noOwn hH) rv) (x1.t x').sf⟩
end
end L2.EV
set_option maxHeartbeats 4000000
namespace My
open PySem PySem.W L2 L2.EV
variable {α:Type}
variable {K:gS}
def top(i:Nat):Stmt:=PySem.Challenge.pw_planestacks_k40_base_rows_told.main.body.getD i<|.Pass ⟨0,0,0,0⟩
abbrev sB:Stmt:=top 4
abbrev wF:fV:=["number"]
def yt:bx wF ["number"] (aK sB):=kE<|by decide
abbrev ja:Stmt:=top 5
abbrev kQ:fV:=["a","b"]
def nA:bx kQ ["a","b"] (aK ja):=kE<|by decide
abbrev lh:Stmt:=top 7
abbrev nU:fV:=["parts","nought","many"]
def qM:bx nU ["parts","nought"] (aK lh):=kE<|by decide
abbrev uY:Stmt:=top 8
abbrev An:fV:=["numbers"]
def Bz:bx An ["numbers"] (aK uY):=kE<|by decide
abbrev me:Stmt:=top 9
abbrev pQ:fV:=["f"]
def tw:bx pQ ["f"] (aK me):=kE<|by decide
abbrev lF:Stmt:=top 10
abbrev rF:fV:=["f","g","numbers","j","one","k","other"]
def uO:bx rF ["f","g"] (aK lF):=kE<|by decide
abbrev xN:Stmt:=top 11
abbrev DO:fV:=["f"]
def Et:bx DO ["f"] (aK xN):=kE<|by decide
abbrev sD:Stmt:=top 12
abbrev wJ:fV:=["f","shared","number"]
def yv:bx wJ ["f"] (aK sD):=kE<|by decide
abbrev nE:Stmt:=top 13
abbrev rG:fV:=["f","low"]
def uP:bx rG ["f"] (aK nE):=kE<|by decide
abbrev i9:Stmt:=top 14
abbrev kP:fV:=["f","g","rest","numbers","number","left","start","k"]
def ny:bx kP ["f","g"] (aK i9):=kE<|by decide
abbrev oZ:Stmt:=top 16
abbrev uk:fV:=["f"]
def w9:bx uk ["f"] (aK oZ):=kE<|by decide
abbrev mi:Stmt:=top 19
abbrev pS:fV:=["number","prime","a","b","first","second","many"]
def tz:bx pS ["number","prime"] (aK mi):=kE<|by decide
abbrev mh:Stmt:=top 20
abbrev pR:fV:=["numbers","prime","scale"]
def tx:bx pR ["numbers","prime"] (aK mh):=kE<|by decide
abbrev lq:Stmt:=top 21
abbrev nW:fV:=["f","g","prime","rest","many","top","start","k"]
def qP:bx nW ["f","g","prime"] (aK lq):=kE<|by decide
abbrev ju:Stmt:=top 22
abbrev lR:fV:=["f","g","prime"]
def oD:bx lR ["f","g","prime"] (aK ju):=kE<|by decide
abbrev u0:Stmt:=top 23
abbrev Ap:fV:=["numbers","last","prime","rests"]
def BC:bx Ap ["numbers","last","prime"] (aK u0):=kE<|by decide
abbrev nD:Stmt:=top 24
abbrev rE:fV:=["f","g","prime","shared","row","divides"]
def uN:bx rE ["f","g","prime"] (aK nD):=kE<|by decide
abbrev iw:Stmt:=top 25
abbrev jC:fV:=["f","g","bits","shared"]
def lV:bx jC ["f","g"] (aK iw):=kE<|by decide
abbrev nC:Stmt:=top 27
abbrev rD:fV:=["rest","g","shared"]
def uM:bx rD ["rest","g"] (aK nC):=kE<|by decide
abbrev oG:Stmt:=top 28
abbrev wK:fV:=["f","g","quotient","rest","up","down","shift","power","number"]
def yw:bx wK ["f","g"] (aK oG):=kE<|by decide
abbrev sC:Stmt:=top 29
abbrev wH:fV:=["f","g"]
def yu:bx wH ["f","g"] (aK sC):=kE<|by decide
abbrev iI:Stmt:=top 30
abbrev kh:fV:=["f","g"]
def mK:bx kh ["f","g"] (aK iI):=kE<|by decide
abbrev ma:Stmt:=top 31
abbrev pP:fV:=["f","g","shared"]
def tu:bx pP ["f","g"] (aK ma):=kE<|by decide
abbrev pe:Stmt:=top 32
abbrev um:fV:=["f","low"]
def xb:bx um ["f"] (aK pe):=kE<|by decide
abbrev jP:Stmt:=top 34
abbrev mS:fV:=["f","at","many","line"]
def qk:bx mS ["f","at","many"] (aK jP):=kE<|by decide
abbrev oY:Stmt:=top 35
abbrev ui:fV:=["f","g","k","up","down"]
def w8:bx ui ["f","g","k"] (aK oY):=kE<|by decide
abbrev pc:Stmt:=top 36
abbrev ul:fV:=["table","bound","line"]
def xa:bx ul ["table"] (aK pc):=kE<|by decide
abbrev uZ:Stmt:=top 37
abbrev Ao:fV:=["row","bits","value","number"]
def BA:bx Ao ["row","bits"] (aK uZ):=kE<|by decide
abbrev oX:Stmt:=top 38
abbrev uh:fV:=["value","bits","numbers","number"]
def w6:bx uh ["value","bits"] (aK oX):=kE<|by decide
abbrev iJ:Stmt:=top 39
abbrev ki:fV:=["table","at","k"]
def mL:bx ki ["table","at"] (aK iJ):=kE<|by decide
abbrev iD:Stmt:=top 40
abbrev Xt:fV:=["table","at","before","top","k","line"]
def oE:bx Xt ["table","at","before"] (aK iD):=kE<|by decide
abbrev lu:Stmt:=top 41
abbrev nX:fV:=["numbers","table","sign","before","at","found"]
def qQ:bx nX ["numbers"] (aK lu):=kE<|by decide
abbrev uX:Stmt:=top 42
abbrev Am:fV:=["f","g","k","table","bits"]
def By:bx Am ["f","g","k"] (aK uX):=kE<|by decide
abbrev nF:Stmt:=top 43
abbrev rH:fV:=["f","g","k","tie"]
def uQ:bx rH ["f","g"] (aK nF):=kE<|by decide
abbrev lj:Stmt:=top 44
abbrev nV:fV:=["f"]
def qO:bx nV ["f"] (aK lj):=kE<|by decide
abbrev lG:Stmt:=top 45
abbrev rJ:fV:=["boards","rows","with_y","k","bare"]
def uR:bx rJ ["boards"] (aK lG):=kE<|by decide
abbrev nK:Stmt:=top 47
abbrev rN:fV:=["_law_script","_law_k","_law_state","_law_cell_here"]
def uV:bx rN ["_law_script","_law_k"] (aK nK):=kE<|by decide
abbrev jT:Stmt:=top 48
abbrev mX:fV:=["_law_cell_here","_law_many","_law_found","_law_state","_law_digits","_law_k"]
def qu:bx mX ["_law_cell_here","_law_many"] (aK jT):=kE<|by decide
abbrev nH:Stmt:=top 49
abbrev rK:fV:=["_law_parts","_law_found"]
def uS:bx rK ["_law_parts"] (aK nH):=kE<|by decide
abbrev jv:Stmt:=top 50
abbrev jw:fV:=["_law_parts","_law_rows","_law_k"]
def oF:bx jw ["_law_parts"] (aK jv):=kE<|by decide
abbrev jS:Stmt:=top 51
abbrev mW:fV:=["_law_one","_law_other","_law_found","_law_i","_law_k","_law_j","_law_m"]
def qr:bx mW ["_law_one","_law_other"] (aK jS):=kE<|by decide
abbrev nJ:Stmt:=top 52
abbrev rM:fV:=["_law_xs"]
def uU:bx rM ["_law_xs"] (aK nJ):=kE<|by decide
abbrev mm:Stmt:=top 53
abbrev pU:fV:=["_law_xs","_law_size","_law_found","_law_spots","_law_k"]
def tE:bx pU ["_law_xs"] (aK mm):=kE<|by decide
abbrev mo:Stmt:=top 54
abbrev pV:fV:=["_law_cell_here","_law_xs","_law_way"]
def tF:bx pV ["_law_cell_here"] (aK mo):=kE<|by decide
abbrev jU:Stmt:=top 55
abbrev mY:fV:=["_law_row","_law_shared","_law_one","_law_high","_law_low"]
def qv:bx mY ["_law_row"] (aK jU):=kE<|by decide
abbrev nI:Stmt:=top 56
abbrev rL:fV:=["_law_f","_law_g","_law_rest_here","_law_first","_law_own","_law_far","_law_k"]
def uT:bx rL ["_law_f","_law_g"] (aK nI):=kE<|by decide
abbrev jV:Stmt:=top 57
abbrev mZ:fV:=["_law_f","_law_g","_law_rest_here","_law_found","_law_far","_law_first","_law_own","_law_k"]
def qw:bx mZ ["_law_f","_law_g"] (aK jV):=kE<|by decide
abbrev nL:Stmt:=top 58
abbrev rO:fV:=["_law_row","_law_f","_law_g"]
def uW:bx rO ["_law_row"] (aK nL):=kE<|by decide
abbrev jb:Stmt:=top 59
abbrev kR:fV:=["_law_f","_law_g","_law_k"]
def nB:bx kR ["_law_f","_law_g"] (aK jb):=kE<|by decide
abbrev mj:Stmt:=top 60
abbrev pT:fV:=["_law_board_here","_law_rows"]
def tD:bx pT ["_law_board_here"] (aK mj):=kE<|by decide
abbrev ph:Stmt:=top 61
abbrev uo:fV:=["_law_boards","_law_rows","_law_some","_law_k","_law_j","_law_found","_law_row"]
def xc:bx uo ["_law_boards"] (aK ph):=kE<|by decide
abbrev jQ:Stmt:=top 62
abbrev mT:fV:=["_law_xs"]
def qm:bx mT ["_law_xs"] (aK jQ):=kE<|by decide
abbrev iW:Stmt:=top 63
abbrev mV:fV:=["_law_xs","_law_way","_law_lines","_law_shared"]
def qp:bx mV ["_law_xs","_law_way"] (aK iW):=kE<|by decide
abbrev jR:Stmt:=top 64
abbrev mU:fV:=["_law_board_here"]
def qo:bx mU ["_law_board_here"] (aK jR):=kE<|by decide
abbrev iz:Stmt:=top 65
abbrev jD:fV:=["_law_script","_law_xs","_law_found","_law_k","_law_board_here","_law_number"]
def lW:bx jD ["_law_script"] (aK iz):=kE<|by decide
abbrev yx:Stmt:=top 66
abbrev N2:fV:=["_law_script","_law_boards","_law_due_here","_law_told"]
def Rs:bx N2 ["_law_script"] (aK yx):=kE<|by decide
def gl(f:az):Nat:=f.foldl (λg x=>Nat.gcd g x.natAbs) 0
def xS(f:az)(x:Int):gl (f++[x])=Nat.gcd (gl f) x.natAbs:=by unfold gl;rw[oj];rfl
def ic(ds:ck)(d:D):Prop:=∃a b:Int,ds=[.int a,.int b]/\d=.int ((Nat.gcd a.natAbs b.natAbs:Nat):Int)
def t4:∀ds d,ic ds d->ds.length=2:=by rintro _ _ ⟨a,b,rfl,_⟩;rfl
section
variable {X:Cx}
def wz(h:fA P w K mg base k kQ ja X)(YB:mg "abs"=none):Go X kQ ja ic:=by rintro ds d ⟨a,b,rfl,rfl⟩;have t:=h.at';haveI:=h.XM;have bl:=h.bt YB;refine ay (qR t 0 1 (ub t bl<|aa t 0) (ub t bl<|aa t 1)<|by decide) ?_;refine ay (iu t<|zu (λa b=>[.val<|.int a,.val<|.int b]) (λa b=>?_) (λa b hb=>?_) _ a.natAbs b.natAbs<|ao _)<|aM<|cp<|aa t 0;refine W5.eq (Ht<|aa t 1) ?_;by_cases hb:b=0;subst hb;rfl;rw[aq<|by lia];simpa using hb;exact aM<|qR t 0 1 (aa t 1) (W0.eq (bU (aa t 0) (aa t 1)<|by lia) rfl)<|by decide
def p8(ds:ck)(d:D):Prop:=∃f:az,ds=[aD f]/\f.length<1000/\d=aD (f.map λx=>-x)
def zb:∀ds d,p8 ds d->ds.length=1:=by rintro _ _ ⟨a,rfl,_⟩;rfl
def gR{n:Nat}(h:n<1000):n<sizeLine:=Aw h<|by decide
def DF(h:fA P w K mg base k pQ me X)(Xa:mg "tuple"=none):Go X pQ me p8:=by rintro ds d ⟨f,rfl,hf,rfl⟩;have t:=h.at';haveI:=h.XM;have bl:=h.bt Xa;refine aM<|cp<|gG t bl<|Yj.eq (Xe.toQ (dR (rs:=(f.map D.int).map λd=>match d with |.int i=>.int (-i) |d=>d) t ["f","number"] (oU rfl) (j8<|aa t 0) (by rw[ab];exact gR hf) λX' cx=>?_)) ?_;have t':=cx.at';refine W9.all (λd=>[.val<|aD f,.val d]) _ _ _ (λd hd=>aU t' 1) (λd hd e he=>aU t' 1) λd hd=>?_;obtain⟨i,_,rfl⟩:=aZ.mp hd;exact gu<|aa t' 1 rfl;rw[bp,bp];rfl
end
def ga(f:az):az:=f.map λx=>x.fdiv (gl f:Int)
def sU(ds:ck)(d:D):Prop:=∃f:az,ds=[aD f]/\f.length<1000/\(f≠[]->gl f≠0)/\d=aD (ga f)
def Fd:∀ds d,sU ds d->ds.length=1:=by rintro _ _ ⟨a,rfl,_⟩;rfl
def ax(xs:az):Int:=(xs.getLast?).getD 0
def bh(f:az):az:=if ax (ga f)<0 then(ga f).map λx=>-x else ga f
def jM(ds:ck)(d:D):Prop:=∃f:az,ds=[aD f]/\f.length<1000/\(f≠[]->gl f≠0)/\d=aD (bh f)
def AU:∀ds d,jM ds d->ds.length=1:=by rintro _ _ ⟨a,rfl,_⟩;rfl
def jI{i:Nat}{xs:List α}{x:α}(h:xs[i]?=some x):xs.take (i+1)=xs.take i++[x]:=by rw[List.take_add_one,h];rfl
section
variable {X:Cx}
def KY(h:fA P w K mg base k wJ sD X)(Xa:mg "tuple"=none)(c1:Callee X "common_divisor" ic):Go X wJ sD sU:=by
 rintro ds d ⟨f,rfl,hf,hg,rfl⟩;have t:=h.at';haveI:=h.XM;have bl:=h.bt Xa;refine ay (df t 1 ak) ?_;refine ay (ρ':=[.val<|aD f,.val<|.int (gl f:Int),.un]) (gY t (j8<|aa t 0) ?_) ?_
 ·refine Xc.Xl (λi=>[.val<|aD f,.val<|.int (gl (f.take i):Int),.un]) (λj d hj=>?_) rfl ?_;rotate_left;·rw[ab,fJ]
  ·rw[aw]at hj;cases e:f[j]? with
   |none=>rw[e]at hj;cases hj
   |some x=>rw[e]at hj;cases hj;refine⟨_,c9 t 2,W4.weak (aM<|df t 1<|aX t c1 (ai (aa t 2)<|ai (aa t 1) av) ⟨x,_,rfl,rfl⟩) ?_⟩;rw[jI e,xS,La];exact .keep<|.keep<|.forget .nil
 ·refine aM<|cp<|gG t bl<|Yj.eq (Xe.toQ (dR (rs:=(f.map D.int).map λd=>match d with |.int i=>.int (i.fdiv (gl f:Int)) |d=>d) t ["f","shared","","number"] (oU rfl) (j8<|aa t 0) (by rw[ab];exact gR hf) λX' cx=>?_)) ?_;·have t':=cx.at';refine W9.all (λd=>[.val<|aD f,.val<|.int (gl f:Int),.un,.val d]) _ _ _ (λd hd=>aU t' 3) (λd hd e he=>aU t' 3) λd hd=>?_;obtain⟨i,hi,rfl⟩:=aZ.mp hd;have h0:=hg<|List.ne_nil_of_mem hi;exact zw t' (aa t' 3 rfl) (aa t' 1 rfl)<|by lia
  ·unfold ga;rw[bp,bp];rfl
def fL{xs:az}(h:xs≠[]):s9 (xs.map D.int) (-1)=some (.int<|ax xs):=by rcases cq xs with e |⟨ys,y,e⟩;exact absurd e h;subst e;have q:=FX (ys.map D.int)<|.int y;rw[cJ,bj,List.map_singleton,q];simp[ax]
def oM(f:az):(ga f).length=f.length:=ab _
def FQ(h:fA P w K mg base k rG nE X)(c1:Callee X "put_low" sU)(c2:Callee X "other_sign" p8):Go X rG nE jM:=by rintro ds d ⟨f,rfl,hf,hg,rfl⟩;have t:=h.at';haveI:=h.XM;refine ay (df t 1<|aX t c1 (ai (aa t 0) av) ⟨f,rfl,hf,hg,rfl⟩)<|aM<|cp ?_;have ne:∀{zGQ zGP zGO:Pos}{x1:Nat},W5 X [.val<|aD f,.val<|aD<|ga f] (.Compare (.Name "low" zGQ) [.NotEq] [.Tuple [] x1 zGP] zGO) (!decide (ga f=[])):=λ{_ _ _ _}=>kM t (W0.p<|aa t 1) (W0.p (d:=aD [])<|bH av) (bJ _) (bJ _) (by rw[gH]);by_cases h0:ga f=[];refine rh (XT.toT<|pK<|W5.eq ne<|by rw[h0];rfl)<|W0.eq (aa t 1) ?_;unfold bh;rw[h0];rfl;by_cases h1:ax (ga f)<0;refine ua (XT.toT<|j3 (W5.eq ne<|by rw[aj h0];rfl)<|j4<|W5.eq (rj (bM (W0.qt<|aa t 1) (gu ak)<|fL h0) ak)<|aq h1)<|W0.eq (aX t c2 (ai (aa t 1) av) ⟨ga f,rfl,by rwa[oM],rfl⟩) ?_;unfold bh;rw[ag h1];refine rh (XT.toT<|j3 (W5.eq ne<|by rw[aj h0];rfl)<|j4<|W5.eq (rj (bM (W0.qt<|aa t 1) (gu ak)<|fL h0) ak)<|aj h1)<|W0.eq (aa t 1) ?_;unfold bh;rw[af h1]
end
def Ac(s:Int)(xs:az):Int:=xs.foldl (λs x=>(s*69621+x)%2147483647) s
def lZ(ns:az)(j:Int):Int:=if j<ns.length then ns.getD j.toNat 0 else Ac (48271*(j*j+7*j+11)%2147483647)<|lQ ns none<|some 3
def rX(ds:ck)(d:D):Prop:=∃(ns:az)(j:Int),ds=[.Yh ns,.int j]/\0<=j/\j<1000/\d=.int (lZ ns j)
def AZ:∀ds d,rX ds d->ds.length=2:=by rintro _ _ ⟨a,b,rfl,_⟩;rfl
def Tl(s0:Int):Nat->Int|0=>s0|i+1=>(Tl s0 i*(Tl s0 i%65521+40487)+7*(i:Int)+5)%1999999973
def SJ(d0:Int):Nat->Int|0=>d0|i+1=>SJ d0 i / 1000000
def Sk(s0 d0:Int)(i:Nat):Int:=if SJ d0 i>0 then SJ d0 i%1000000 else Tl s0<|i+1
def uL(c:Int):Int:=(c%1999999973+31)*765432101%1999999973
def sY(c:Int):Int:=if c<0\/c≥10 ^ 18 then c.natAbs else 0
def qy(c:Int)(n:Nat):az:=(List.range n).map<|Sk (uL c)<|sY c
def wa(c:Int)(n:Nat):(qy c n).length=n:=by simp[qy]
def kr(ds:ck)(d:D):Prop:=∃(c:Int)(n:Nat),ds=[.int c,.int n]/\n<1000/\d=bu (qy c n)
def wo:∀ds d,kr ds d->ds.length=2:=by rintro _ _ ⟨a,b,rfl,_⟩;rfl
def gC{i:Nat}(h:(cH 0 n)[i]?=some d):i<n/\d=.int (i:Int):=by unfold cH at h;rw[aw]at h;by_cases hi:i<n;rw[bv hi]at h;cases h;exact⟨hi,by show D.int (0+(i:Int))=_;rw[fB]⟩;rw[aI<|by simpa using hi]at h;cases h
section
variable {X:Cx}
def FV(h:fA P w K mg base k rN nK X)(W7:mg "len"=none):Go X rN nK rX:=by
 rintro ds d ⟨ns,j,rfl,h0,h1,rfl⟩;have t:=h.at';haveI:=h.XM;have bl:=h.bt W7;by_cases hj:j<ns.length;refine ff<|fF (W5.eq (rj (aa t 1)<|bX t bl<|W0.qs<|aa t 0) ?_)<|aM<|cp<|bM (W0.qs<|aa t 0) (aa t 1) ?_;rw[ab];exact aq hj;have hn:j.toNat<ns.length:=by lia
 rw[x9 h0 rfl hn];unfold lZ;rw[ag hj,ac,am hn];rfl;refine ay (fx (W5.eq (rj (aa t 1)<|bX t bl<|W0.qs<|aa t 0) ?_) dM) ?_;rw[ab];exact aj hj;refine ay (df t 2<|bU (eh ak (dj (dj (eh (aa t 1) (aa t 1)<|gD (by lia)<|by lia)<|eh ak (aa t 1)<|gD (by decide)<|by decide) ak)<|gD (by decide)<|by decide) ak) ?_;refine ay (ρ':=[.val<|.Yh ns,.val<|.int j,.val<|.int<|lZ ns j,.un]) (gY t (gN<|W0.eq (Xe.Xk<|j7 (W0.qs<|aa t 0) ia<|j5 ak)<|by rw[jr]) ?_)<|aM<|cp<|aa t 2;refine Xc.Xl (λi=>[.val<|.Yh ns,.val<|.int j,.val<|.int<|Ac (48271*(j*j+7*j+11)%2147483647)<|(lQ ns none<|some 3).take i,.un]) (λi d hi=>?_) rfl ?_;rw[aw]at hi;cases e:(lQ ns none<|some 3)[i]? with
 |none=>rw[e]at hi;cases hi
 |some x=>
  rw[e]at hi;cases hi;refine⟨_,c9 t 3,W4.weak (aM<|df t 2<|bU (dj (eh (aa t 2) ak<|oJ (by decide)<|by decide)<|aa t 3) ak) ?_⟩;have e2:Ac (48271*(j*j+7*j+11)%2147483647) ((lQ ns none<|some 3).take<|i+1)=(Ac (48271*(j*j+7*j+11)%2147483647) ((lQ ns none<|some 3).take i)*69621+x)%2147483647:=by rw[jI e];unfold Ac;rw[oj];rfl
  rw[e2];exact .keep<|.keep<|.keep<|.forget .nil
 rw[ab,fJ];unfold lZ;rw[af hj]
theorem Aj(h:fA P w K mg base k mX jT X)(W6:mg "range"=none)(YB:mg "abs"=none)(zD6:mg "int"=none):Go X mX jT kr:=by
 rintro ds d ⟨c,n,rfl,hn,rfl⟩;have t:=h.at';haveI:=h.XM;have b1:=h.bt W6;have b2:=h.bt YB;have b3:=h.bt zD6;refine ay (iy t 2<|fg av) ?_;refine ay (df t 3<|bU (eh (dj (bU (aa t 0) ak<|by decide) ak) ak<|oJ (by decide)<|by decide) ak) ?_;refine ay (df t 4 ak) ?_;refine ay (ρ':=[.val<|.int c,.val<|.int n,.own [],.val<|.int<|uL c,.val<|.int<|sY c,.un]) ?_ ?_;by_cases h1:c<0;refine fF (XT.toT<|t7<|W5.eq (rj (aa t 0) ak)<|aq h1)<|W4.eq (aM<|df t 4<|ub t b2<|aa t 0) ?_;have e:sY c=c.natAbs:=by unfold sY;rw[ag<|.inl h1]
 rw[e];rfl;by_cases h2:c≥10 ^ 18;refine fF (XT.toT<|mQ (W5.eq (rj (aa t 0) ak)<|aj h1)<|pJ<|W5.eq (xg (aa t 0)<|Nb ak ak ⟨by decide,by decide,by decide⟩)<|aq h2)<|W4.eq (aM<|df t 4<|ub t b2<|aa t 0) ?_;have e:sY c=c.natAbs:=by unfold sY;rw[ag<|.inr h2]
 rw[e];rfl;refine fx (XT.toT<|mQ (W5.eq (rj (aa t 0) ak)<|aj h1)<|pJ<|W5.eq (xg (aa t 0)<|Nb ak ak ⟨by decide,by decide,by decide⟩)<|aj h2)<|W4.eq dM ?_;have e:sY c=0:=by unfold sY;rw[af<|by rintro(z |z);exact h1 z;exact h2 z]
 rw[e];rfl;refine ay (gY t (eD t b1 (aa t 1) (by lia)<|by lia)<|Xc.Xl (ρ':=[.val<|.int c,.val<|.int n,.own<|(qy c n).map D.int,.val<|.int<|Tl (uL c) n,.val<|.int<|SJ (sY c) n,.un]) (λi=>[.val<|.int c,.val<|.int n,.own<|(qy c i).map D.int,.val<|.int<|Tl (uL c) i,.val<|.int<|SJ (sY c) i,.un]) (λi d hi=>?_) rfl ?_)<|eL 2 rfl<|aM<|cp<|aa t 2;obtain⟨YR,rfl⟩:=gC hi;refine⟨_,c9 t 5,W4.weak (ay (df t 3<|bU (dj (dj (eh (aa t 3) (dj (bU (aa t 3) ak<|by decide) ak)<|oJ (by lia)<|by lia)<|eh ak (aa t 5)<|gD (by decide)<|by decide) ak) ak)<|ay (jp t 2 rfl (d:=.int<|Sk (uL c) (sY c) i) (bM (Xe.toQ<|fg<|ai (aa t 3)<|ai (bU (aa t 4) ak) av) (PP t b3<|QZ (aa t 4) ak) ?_) ?_)<|aM<|df t 4<|vw t (aa t 4) ak) ?_⟩;by_cases hd:0<SJ (sY c) i;have e:Sk (uL c) (sY c) i=SJ (sY c) i%1000000:=by unfold Sk;rw[ag hd]
 rw[e,aq hd];rfl;have e:Sk (uL c) (sY c) i=Tl (uL c) (i+1):=by unfold Sk;rw[af hd]
 rw[e,aj hd];rfl;rw[ab,wa];exact gR (by lia);have e:qy c (i+1)=qy c i++[Sk (uL c) (sY c) i]:=by unfold qy;rw[eU,bj];rfl
 rw[e,bj];exact .keep<|.keep<|.keep<|.keep<|.keep<|.forget .nil;have e:(cH 0 (n:Int).toNat).length=n:=by simp[cH]
 rw[e]
end
def bR(xs:az):az:=(xs.reverse.dropWhile (·==0)).reverse
def my(xs:az):bR (xs++[0])=bR xs:=by simp[bR]
def sr{a:Int}(xs:az)(h:a≠0):bR (xs++[a])=xs++[a]:=by simp[bR,h]
def fK(xs:az):(bR xs).length<=xs.length:=by unfold bR;rw[cj];have:=(om (l:=xs.reverse) (p:=λx=>x==0)).length_le;rw[cj]at this;exact this
def Oo(xs:az):bR xs=[]\/∃ys a,bR xs=ys++[a]/\a≠0:=by induction h:xs.length generalizing xs with|zero=>left;rw[au h];rfl|succ n ih=>rcases cq xs with e |⟨ys,y,e⟩;subst e;left;rfl;rw[cJ]at e;subst e;by_cases hy:y=0;subst hy;rw[my];exact ih ys (by simpa using h);right;exact⟨ys,y,sr ys hy,hy⟩
def JY{X:Cx}(R:az->dP)(h1:W5 X (R []) c false)(h2:∀ys a,(ys++[a]).length<1000->W5 X (R<|ys++[a]) c (decide<|a=0))(h3:∀ys a,W4 X (R<|ys++[a]) body<|.nx<|R ys):∀(n:Nat)(ys:az),ys.length=n->ys.length<1000->∃m,XD X c body m (R ys) (.nx<|R<|bR ys):=by
 intro n;induction n with
 |zero=>intro ys h _;rw[au h];exact⟨0,.stop h1⟩
 |succ n ih=>
  intro ys h hl;rcases cq ys with e |⟨zs,a,e⟩;subst e;exact⟨0,.stop h1⟩;rw[cJ]at e;subst e;by_cases ha:a=0;subst ha;rw[my];have hz:zs.length=n:=by simpa using h
  obtain⟨m,q⟩:=ih zs hz (by lia);exact⟨m+1,.step (W5.eq (h2 zs 0 hl) rfl) (h3 zs 0) q⟩;rw[sr zs ha];exact⟨0,.stop<|W5.eq (h2 zs a hl)<|aj ha⟩
def TQ:ck->Option ck
 |[.lst l]=>some l|[.tup l]=>some l
 |_=>none
def IC:∀{ds:ck},TQ ds=some l->ds=[.lst l]\/ds=[.tup l]
 |[.lst _],h=>by cases h;exact .inl rfl
 |[.tup _],h=>by cases h;exact .inr rfl
def io(ds:ck)(d:D):Prop:=∃xs:az,TQ ds=some (xs.map D.int)/\xs.length<1000/\d=aD (bR xs)
def AW:∀ds d,io ds d->ds.length=1:=by rintro _ _ ⟨a,h,_⟩;rcases IC h with rfl |rfl<;>rfl
def AF(f g:az)(i:Nat)(acc:az):Nat->az|0=>acc|j+1=>(AF f g i acc j).set (i+j)<|(AF f g i acc j).getD (i+j) 0+f.getD i 0*g.getD j 0
def vf(f g:az):Nat->az|0=>List.replicate (f.length+g.length) 0|i+1=>AF f g i (vf f g i) g.length
theorem sK(f g:az)(i:Nat)(acc:az):∀j,(AF f g i acc j).length=acc.length|0=>rfl|j+1=>by rw[AF,bE,sK]
theorem yZ(f g:az):∀i,(vf f g i).length=f.length+g.length|0=>by rw[vf,bW]|i+1=>by rw[vf,sK,yZ]
def br(f g:az):az:=bR<|vf f g f.length
def GK(f g:az):(br f g).length<=f.length+g.length:=by have:=fK<|vf f g f.length;rw[yZ]at this;exact this
def mr{xs:az}{j:Nat}(h:j<xs.length):xs.getD j 0=xs[j]:=by rw[ac,am h];rfl
def dY{xs:az}{n:Nat}(h:n<xs.length):s9 (xs.map D.int) (n:Int)=some (.int<|xs.getD n 0):=by rw[x9 (by lia) (bQ n) h,mr h]
section
variable {X:Cx}
def FS(h:fA P w K mg base k rK nH X)(Xu:mg "list"=none)(Xa:mg "tuple"=none)(W7:mg "len"=none):Go X rK nH io:=by
 rintro ds d ⟨xs,e,hl,rfl⟩;have t:=h.at';haveI:=h.XM;have b1:=h.bt Xu;have b2:=h.bt Xa;have b3:=h.bt W7;obtain⟨dd,k0,rfl,hq⟩:∃dd k0,ds=[dd]/\∀{U:dP}{p:Pos},U[0]?=some (.val dd)->Yj X U (.Name "_law_parts" p) k0 (xs.map D.int):=by rcases IC e with rfl |rfl;exact⟨_,_,rfl,λr=>W0.ql<|aa t 0 r⟩;exact⟨_,_,rfl,λr=>W0.qt<|aa t 0 r⟩
 refine ay (iy t 1<|lz t b1<|hq rfl) ?_;refine ay (iu t<|JY (λys=>[.val dd,.own<|ys.map D.int]) ?_ (λys a hy=>?_) (λys a=>?_) _ xs rfl hl)<|aM<|cp<|gG t b2<|dw t 1 rfl;exact XT.toT<|pK<|kM t (Yj.p<|dw t 1 rfl) (W0.p<|Xe.Xk<|fg av) (fq []) (fq []) (by have:=sL [] [];exact bo not this);refine XT.toT<|j3 (kM t (Yj.p<|dw t 1 rfl) (W0.p<|Xe.Xk<|fg av) (fq<|ys++[a]) (fq [])<|by have:=sL (ys++[a]) [];rw[aj<|by simp]at this;exact bo not this)<|j4<|eO (bM (dw t 1 rfl) (cu (bX t b3<|dw t 1 rfl) ak) ?_) ak;rw[ab,x9 (n:=ys.length) (by simp) (by simp)<|by simp];simp;refine W4.eq (aM<|L0 t 1 rfl<|by simp) ?_;rw[bj];have e:(ys.map D.int++[a].map D.int).dropLast=ys.map D.int:=by simp
 rw[e];rfl
end
def vh{x:Int}(h:x∈bR xs):x∈xs:=by unfold bR at h;rw[qh]at h;have:=(om (p:=λx=>x==0)).mem h;exact qh.mp this
def W2(f:az):Prop:=f=[]\/∃ys a,f=ys++[a]/\a≠0
def Cg(ds:ck)(d:D):Prop:=∃(ns:az),ds=[.Yh ns]/\ns.length<=63/\d=.bl true
def Pr:∀ds d,Cg ds d->ds.length=1:=by rintro _ _ ⟨a,rfl,_⟩;rfl
def MX(ns:az)(h:ns.length<=63):Cg [.Yh ns] (.bl true):=⟨ns,rfl,h,rfl⟩
def Ly(xs:az):xs.take (bR xs).length=bR xs:=by induction h:xs.length generalizing xs with|zero=>rw[au h];rfl|succ n ih=>rcases cq xs with e |⟨ys,y,e⟩;subst e;rfl;rw[cJ]at e;subst e;by_cases hy:y=0;subst hy;rw[my];have q:=ih ys (by simpa using h);have l:=fK ys;rwa[List.take_append_of_le_length l];rw[sr ys hy,fJ]
theorem FA{X:Cx}(R:Nat->dP)(xs:az)(h1:W5 X (R 0) c false)(h2:∀m(h:m<xs.length),W5 X (R<|m+1) c<|decide<|xs[m]=0)(h3:∀m,W4 X (R<|m+1) body<|.nx<|R m):∀m,m<=xs.length->∃n,XD X c body n (R m) (.nx<|R (bR<|xs.take m).length)
 |0,_=>⟨0,.stop h1⟩
 |m+1,hm=>by
  have XQ:=hm;have e:=jI<|am XQ;by_cases hz:xs[m]=0;obtain⟨n,q⟩:=FA R xs h1 h2 h3 m (by lia);refine⟨n+1,.step (W5.eq (h2 m XQ)<|aq hz) (h3 m) ?_⟩;rwa[e,hz,my];refine⟨0,?_⟩;rw[e,sr _ hz];have el:(xs.take m++[xs[m]]).length=m+1:=by rw[<-e,cX];lia
  rw[el];exact .stop<|W5.eq (h2 m XQ)<|aj hz
def nY(ds:ck)(d:D):Prop:=∃xs:az,ds=[bu xs,.int 0]/\xs.length<1000/\d=aD (bR xs)
def xm:∀ds d,nY ds d->ds.length=2:=by rintro _ _ ⟨a,rfl,_⟩;rfl
def lL(ds:ck)(d:D):Prop:=∃xs:az,ds=[bu xs]/\xs.length<1000/\d=aD (bR xs)
def Hl:∀ds d,lL ds d->ds.length=1:=by rintro _ _ ⟨a,rfl,_⟩;rfl
def T4(f g:az):az:=bR ((List.range<|max f.length g.length).map λi=>f.getD i 0+g.getD i 0)
def cV(f:az):az:=(List.range<|f.length-1).map λ(i:Nat)=>(1+(i:Int))*f.getD (1+i) 0
def DQ(ds:ck)(d:D):Prop:=∃f:az,ds=[aD f]/\f.length<1000/\d=aD (cV f)
def Kx:∀ds d,DQ ds d->ds.length=1:=by rintro _ _ ⟨a,rfl,_⟩;rfl
section
variable {X:Cx}
def Bc(h:fA P w K mg base k nU lh X)(W7:mg "len"=none)(Xa:mg "tuple"=none):Go X nU lh nY:=by
 rintro ds d ⟨xs,rfl,hl,rfl⟩;have t:=h.at';haveI:=h.XM;have b1:=h.bt W7;have b2:=h.bt Xa;refine ay (df t 2<|W0.eq (bX t b1<|W0.ql<|aa t 0)<|by rw[ab]) ?_;refine ay (iu t<|FA (λm=>[.val<|bu xs,.val<|.int 0,.val<|.int m]) xs ?_ (λm hm=>?_) (λm=>?_) xs.length<|ao _)<|aM<|cp<|W0.eq (gG t b2<|Xe.toQ<|j7 (W0.ql<|aa t 0) ia<|j5<|aa t 2) ?_;exact XT.toT<|pK<|W5.eq (lY (aa t 2) ak) rfl;refine XT.toT<|j3 (W5.eq (lY (aa t 2) ak)<|aq<|by lia)<|j4<|eO (bM (W0.ql<|aa t 0) (cu (aa t 2) ak) ?_)<|aa t 1;exact x9 (by lia) (by lia) hm;refine W4.eq (aM<|Ev t 2 rfl ak) ?_;have e:((m+1:Nat):Int)-1=m:=by lia
 show Out.nx [_,_,.val<|.int<|((m+1:Nat):Int)-1]=_;rw[e];rw[fJ,jr];have e:lQ xs none (some ((bR xs).length:Int))=bR xs:=by
  have l:=fK xs;unfold lQ;have e1:HT.Ya xs.length 0 none=0:=by simp[HT.Ya]
  have e2:HT.Ya xs.length xs.length (some ((bR xs).length:Int))=(bR xs).length:=by simp only[HT.Ya];split<;>lia
  rw[e1,e2,List.drop_zero,jG];exact Ly xs
 rw[e]
def NY(h:fA P w K mg base k An uY X)(c1:Callee X "without_end" nY):Go X An uY lL:=by rintro ds d ⟨xs,rfl,hl,rfl⟩;have t:=h.at';exact aM<|cp<|aX t c1 (ai (aa t 0)<|ai ak av) ⟨xs,rfl,hl,rfl⟩
def Qf(h:fA P w K mg base k DO xN X)(Xa:mg "tuple"=none)(W6:mg "range"=none)(W7:mg "len"=none):Go X DO xN DQ:=by rintro ds d ⟨f,rfl,hf,rfl⟩;have t:=h.at';have b1:=h.bt Xa;have b2:=h.bt W6;have b3:=h.bt W7;refine aM<|cp<|W0.eq (gG t b1<|Xe.toQ (dR (rs:=(List.range<|f.length-1).map λ(i:Nat)=>D.int<|(1+(i:Int))*f.getD (1+i) 0) t ["f","power"] (oU rfl) (X5.eq (oQ t b2 ak (bX t b3<|W0.qt<|aa t 0)<|by rw[ab];lia) (show _=cH 1 (f.length-1)by rw[ab];congr 1;lia)) (by simp[cH];exact gR<|by lia) λX' cx=>?_)) (by show D.tup _=D.tup _;unfold cV;rw[bp];rfl);exact W9.gen (λ(i:Nat)=>D.int<|1+i) _ (λi=>[.val<|aD f,.val<|.int<|1+i]) _ _ (λx hx=>aU cx.at' 1) (λx hx y hy=>aU cx.at' 1) λx hx=>by have Yw:=aY.mp hx;exact eh (aa cx.at' 1 rfl) (bM (W0.qt<|aa cx.at' 0 rfl) (aa cx.at' 1 rfl)<|by rw[show(1+x)=((1+x:Nat):Int)by lia];exact dY<|by lia)<|gD (by lia)<|by lia
end
def qV(f g:az):Nat->az|0=>List.replicate (f.length+g.length-1) 0|i+1=>AF f g i (qV f g i) g.length
theorem ve(f g:az):∀i,(qV f g i).length=f.length+g.length-1|0=>by rw[qV,bW]|i+1=>by rw[qV,sK,ve]
theorem Fj(f g:az)(i:Nat)(acc:az)(z:Int):∀j,i+j<=acc.length->AF f g i (acc++[z]) j=AF f g i acc j++[z]
 |0,_=>rfl
 |j+1,h=>by
  have ih:=Fj f g i acc z j (by lia);have hl:i+j<(AF f g i acc j).length:=by rw[sK];lia
  rw[AF,AF,ih,List.set_append_left _ _ hl];have e:(AF f g i acc j++[z]).getD (i+j) 0=(AF f g i acc j).getD (i+j) 0:=by rw[ac,ac,a8 hl]
  rw[e]
theorem BP(f g:az)(hf:f≠[])(hg:g≠[]):∀i,i<=f.length->vf f g i=qV f g i++[0]|0,_=>by have h1:=ar.mpr hf;rw[vf,qV,show f.length+g.length=(f.length+g.length-1)+1 by lia,WQ];rfl|i+1,h=>by rw[vf,qV,BP f g hf hg i<|by lia,Fj];rw[ve];lia
def GI{f g:az}(hf:f≠[])(hg:g≠[]):bR (qV f g f.length)=br f g:=by unfold br;rw[BP f g hf hg _<|ao _,my]
theorem vT:∀n,bR (List.replicate n (0:Int))=[]|0=>rfl|n+1=>by rw[WQ,my,vT]
def su(g:az):br [] g=[]:=by unfold br;rw[gQ,vf];exact vT _
theorem ET(f:az):∀i,vf f [] i=List.replicate f.length 0|0=>rfl|i+1=>by rw[vf,gQ,AF,ET]
def GJ(f:az):br f []=[]:=by unfold br;rw[ET];exact vT _
def rR(ds:ck)(d:D):Prop:=∃f g:az,ds=[aD f,aD g]/\f.length<100/\g.length<100/\(∀y∈g,-(2 ^ 63)<y/\y<2 ^ 63)/\d=aD (br f g)
def AT:∀ds d,rR ds d->ds.length=2:=by rintro _ _ ⟨a,b,rfl,_⟩;rfl
section
variable {X:Cx}
theorem FP(h:fA P w K mg base k rF lF X)(Zj:mg "enumerate"=none)(W7:mg "len"=none)(c1:Callee X "row_of" lL):Go X rF lF rR:=by
 rintro ds d ⟨f,g,rfl,hf,hg,hb,rfl⟩;have t:=h.at';haveI:=h.XM;have b1:tN X (aK lF) "enumerate" (.type "enumerate"):=DB (by rwa[h.Ze]) rfl rfl;have b2:=h.bt W7;by_cases h1:f=[];·refine ff<|fF (XT.toT<|t7<|jA t (W0.p<|aa t 0) (W0.p (d:=aD [])<|bH av) (bJ _) (bJ _)<|by rw[gH,h1];rfl)<|aM<|cp<|W0.eq (bH av) ?_;rw[h1,su];rfl
 by_cases h2:g=[];·refine ff<|fF (XT.toT<|mQ (jA t (W0.p<|aa t 0) (W0.p (d:=aD [])<|bH av) (bJ _) (bJ _)<|by rw[gH,aj h1])<|pJ<|jA t (W0.p<|aa t 1) (W0.p (d:=aD [])<|bH av) (bJ _) (bJ _)<|by rw[gH,h2];rfl)<|aM<|cp<|W0.eq (bH av) ?_;rw[h2,GJ];rfl
 refine ay (fx (XT.toT<|mQ (jA t (W0.p<|aa t 0) (W0.p (d:=aD [])<|bH av) (bJ _) (bJ _)<|by rw[gH,aj h1])<|pJ<|jA t (W0.p<|aa t 1) (W0.p (d:=aD [])<|bH av) (bJ _) (bJ _)<|by rw[gH,aj h2]) dM) ?_;have en:((f.length:Int)+g.length-1).toNat=f.length+g.length-1:=by lia
 refine ay (iy (xs:=(qV f g 0).map D.int) t 2<|Xe.eq (Dc (Xe.Xk<|fg<|ai ak av) (W0.eq (cu (dj (bX t b2<|W0.qt<|aa t 0)<|bX t b2<|W0.qt<|aa t 1) ak)<|by rw[ab,ab]) (by lia) (by lia)<|by rw[en];have:=gq;simp;lia)<|by rw[en,EA];rfl) ?_;refine ay (ρ':=[.val<|aD f,.val<|aD g,.own<|(qV f g f.length).map D.int,.un,.un,.un,.un]) (gY t (De t b1<|aa t 0)<|Xc.Xl (λi=>[.val<|aD f,.val<|aD g,.own<|(qV f g i).map D.int,.un,.un,.un,.un]) (λi d hi=>?_) rfl ?_) ?_
 ·obtain⟨e,he,rfl⟩:=sO hi;rw[aw]at he;cases hx:f[i]? with
  |none=>rw[hx]at he;cases he
  |some x=>
  rw[hx]at he;cases he;have Yb:i<f.length:=(aG.mp hx).1;have ex:f.getD i 0=x:=by rw[ac,hx];rfl
  refine⟨_,mv t 3 4,W4.weak (W1:=[.val<|aD f,.val<|aD g,.own<|(qV f g<|i+1).map D.int,.val<|.int i,.val<|.int x,.un,.un]) (aM<|gY t (De t b1<|aa t 1)<|Xc.Xl (λj=>[.val<|aD f,.val<|aD g,.own<|(AF f g i (qV f g i) j).map D.int,.val<|.int i,.val<|.int x,.un,.un]) (λj d hj=>?_) rfl ?_)<|.keep<|.keep<|.keep<|.forget<|.forget<|.keep<|.keep .nil⟩
  ·obtain⟨e,he,rfl⟩:=sO hj;rw[aw]at he;cases hy:g[j]? with
   |none=>rw[hy]at he;cases he
   |some y=>
   rw[hy]at he;cases he;have hj':j<g.length:=(aG.mp hy).1;have ey:g.getD j 0=y:=by rw[ac,hy];rfl
   have hyb:=hb y<|bV hy;have hl:(AF f g i (qV f g i) j).length=f.length+g.length-1:=by rw[sK,ve]
   have XQ:i+j<(AF f g i (qV f g i) j).length:=by lia
   refine⟨_,mv t 5 6,W4.weak (aM<|v4 (j:=i+j) (u:=(AF f g i (qV f g i) j).getD (i+j) 0) t 2 Fh rfl (dj (aa t 3)<|aa t 5) ?_ ?_ (eh (aa t 4) (aa t 6)<|oJ (by lia)<|by lia) trivial) ?_⟩;·rw[ab];exact nQ (by lia) (by lia)<|by lia
   ·rw[aw,ac,am XQ];rfl
   ·rw[AF,iS,ex,ey];exact .keep<|.keep<|.keep<|.keep<|.keep<|.forget<|.forget .nil
  ·rw[sM,ab];rfl
 ·rw[sM,ab]
 ·refine eL 2 rfl<|aM<|cp<|W0.eq (aX t c1 (ai (aa t 2) av) ⟨qV f g f.length,rfl,by rw[ve];lia,rfl⟩) ?_;rw[GI h1 h2]
end
def BD(M:Nat)(f:az):Prop:=∀x∈f,x.natAbs<=M
def BD.get(h:BD M f)(i:Nat):(f.getD i 0).natAbs<=M:=by rw[ac];cases e:f[i]? with|none=>exact aJ _|some x=>exact h x<|bV e
def j2{S:az}(h:W2 S)(XB:S≠[]):gl S≠0:=by rcases h with e |⟨ys,a,e,ha⟩;exact absurd e XB;subst e;rw[xS];intro z;have:=(Nat.gcd_eq_zero_iff.mp z).2;lia
end My
namespace My
open PySem PySem.W L2 L2.EV PyProof.Rows
variable {α:Type}
variable {K:gS}
def xZ{x:Int}(h:x.natAbs<2 ^ k):Builtin.Int.intBits x<=k:=by
 unfold Builtin.Int.intBits;split;exact aJ _;rename_i h0;have:x.natAbs≠0:=by intro z;apply h0;simp at z ⊢;lia
 exact(Nat.log2_lt this).mpr h
def mE{x y:Int}{k:Nat}(hk:k<=1000000)(hx:x.natAbs<2 ^ k)(hy:y.natAbs<2 ^ k):IntMulOk x y:=.of_bits (aL (xZ hx)<|aL hk<|by decide)<|aL (xZ hy)<|aL hk<|by decide
def at0(p:Rat):s9 ([p.num,(p.den:Int)].map D.int) 0=some (.int p.num):=rfl
def Mw(k:Nat):0<2 ^ k:=ni<|by decide
def Hc{x y:Nat}(hx:x<2 ^ a)(hy:y<2 ^ b):x*y<2 ^ (a+b):=by rw[qD];exact cb (cc x<|Ax hy)<|Nat.mul_lt_mul_of_pos_right hx<|Mw b
def fw(g:az)(n:Nat)(S:Nat->Int):Nat->Int:=λi=>S i*ax g*ax g-(if n+1-g.length<=i then S n*ax g*g.getD (i-(n+1-g.length)) 0 else 0)
def dN(g:az):Nat->(Nat->Int)->Nat->Int|0,S=>S|n+1,S=>if n+1<g.length then S else dN g n<|fw g n S
def Gm(g:az)(a:Int):Int:=((ax g).natAbs:Int).fdiv ((Nat.gcd a.natAbs (ax g).natAbs:Nat):Int)
def Gs(g:az)(a:Int):Int:=((ax g).sign*a).fdiv ((Nat.gcd a.natAbs (ax g).natAbs:Nat):Int)
def uH(g:az)(n:Nat)(S:Nat->Int):Nat->Int:=λi=>Gm g (S n)*S i-(if n+1-g.length<=i then Gs g (S n)*g.getD (i-(n+1-g.length)) 0 else 0)
def Dh(g:az):Nat->(Nat->Int)->Nat->Int|0,S=>S|n+1,S=>if n+1<g.length then S else Dh g n<|uH g n S
def Ls{g:az}(hl:ax g≠0)(a:Int):∃c:Int,0<c/\ax g*ax g=c*Gm g a/\a*ax g=c*Gs g a:=by
 have hh:0<Nat.gcd a.natAbs (ax g).natAbs:=wQ _<|by lia
 obtain⟨u,hu⟩:=gJ a.natAbs (ax g).natAbs
 obtain⟨v,hv⟩:=gx a.natAbs (ax g).natAbs
 unfold Gm Gs
 generalize Nat.gcd a.natAbs (ax g).natAbs=h at hh hu hv
 generalize ax g=l at hl hu
 have e1:(l.natAbs:Int).fdiv h=u:=by
  rw[hu,fC,bZ _<|by lia]
 have e2:(l.sign*a).fdiv h=l.sign*(a.sign*v):=by
  have e:a=a.sign*(h*v):=by
   rw[<-fC,<-hv];exact(sV a).symm
  have:l.sign*a=h*(l.sign*(a.sign*v)):=by
   conv=>lhs;rw[e]
   grind
  rw[this,bZ _<|by lia]
 rw[e1,e2]
 have el:l=l.sign*(h*u):=by
  rw[<-fC,<-hu];exact(sV l).symm
 have ea:a=a.sign*(h*v):=by
  rw[<-fC,<-hv];exact(sV a).symm
 have es:l.sign*l.sign=1:=by
  rcases Ih hl with z |z
  rw[k9 z];rfl
  rw[oo z];rfl
 have hu0:0<u:=by
  rcases nh u with z |z
  subst z;lia
  exact z
 refine⟨h*(h*u),np (by lia)<|np (by lia)<|by lia,?_,?_⟩
 generalize hs:l.sign=s at el es
 rw[el]
 calc s*(h*u)*(s*(h*u))=(s*s)*((h*u)*(h*u)):=by grind
  _=_:=by rw[es];grind
 generalize hs:l.sign=s at el es
 generalize ht:a.sign=r at ea
 rw[el,ea];grind
def LJ{g:az}(hl:ax g≠0)(n:Nat)(S:Nat->Int):∃c:Int,0<c/\∀i,fw g n S i=c*uH g n S i:=by obtain⟨c,hc,e1,e2⟩:=Ls hl<|S n;refine⟨c,hc,λi=>?_⟩;unfold fw uH;rw[dG,e1];split;rw[e2];grind;grind
def Q9{g:az}(hl:ax g≠0)(a:Int):Gm g a*a-Gs g a*ax g=0:=by
 obtain⟨c,hc,e1,e2⟩:=Ls hl a;have:c*(Gm g a*a-Gs g a*ax g)=0:=by
  have h1:c*(Gm g a*a)=a*ax g*ax g:=by rw[<-dG,<-e1];grind
  have h2:c*(Gs g a*ax g)=a*ax g*ax g:=by rw[<-dG,<-e2]
  rw[Int.mul_sub,h1,h2];lia
 rcases eV.mp this with z |z;lia;exact z
theorem iG(g:az)(c:Int):∀(n:Nat)(S:Nat->Int),dN g n (λi=>c*S i)=λi=>c*dN g n S i
 |0,S=>rfl|n+1,S=>by show(if n+1<g.length then _ else dN g n (fw g n λi=>c*S i))=λi=>c*(if n+1<g.length then S else dN g n<|fw g n S) i;split;rfl;rw[<-iG g c n];congr 1;funext i;unfold fw;split<;>grind
theorem zk(g:az):∀(n:Nat)(S T:Nat->Int),dN g n (λi=>S i+T i)=λi=>dN g n S i+dN g n T i
 |0,S,T=>rfl|n+1,S,T=>by show(if n+1<g.length then _ else dN g n (fw g n λi=>S i+T i))=λi=>(if n+1<g.length then S else dN g n<|fw g n S) i+(if n+1<g.length then T else dN g n<|fw g n T) i;split;rfl;rw[<-zk g n];congr 1;funext i;unfold fw;split<;>grind
def BV(g:az)(n:Nat):dN g n (λ_=>0)=λ_=>0:=by have:=iG g 0 n λ_=>0;simpa using this
theorem vq{g:az}(hl:ax g≠0):∀(n:Nat)(S:Nat->Int),∃c:Int,0<c/\∀i,dN g n S i=c*Dh g n S i|0,S=>⟨1,by decide,λi=>(bS _).symm⟩|n+1,S=>by by_cases h:n+1<g.length;refine⟨1,by decide,λi=>?_⟩;unfold dN Dh;rw[ag h,ag h];exact(bS _).symm;obtain⟨c,hc,e⟩:=LJ hl n S;obtain⟨c',Zh,e'⟩:=vq hl n<|uH g n S;refine⟨c*c',np hc Zh,λi=>?_⟩;unfold dN Dh;rw[af h,af h,show fw g n S=λi=>c*uH g n S i from funext e,iG];show c*dN g n (uH g n S) i=_;rw[e' i,dG]
theorem sJ{g:az}{n:Nat}(hl:ax g≠0){F:Nat->Int}(hF:∀i,n<=i->F i=0):∀k,∃c:Int,0<c/\∀i,dN g (n+k) F i=c*dN g n F i
 |0=>⟨1,by decide,λi=>(bS _).symm⟩
 |k+1=>by
  obtain⟨c,hc,e⟩:=sJ hl hF k;by_cases h:n+k+1<g.length;refine⟨1,by decide,λi=>?_⟩;have e1:dN g (n+(k+1)) F=F:=by show(if n+k+1<g.length then F else _)=F;rw[ag h]
  have e2:dN g n F=F:=by cases n with|zero=>rfl|succ n=>show(if n+1<g.length then F else _)=F;rw[ag<|by lia]
  rw[e1,e2,bS];refine⟨ax g*ax g*c,np (by rcases Ih hl with z |z;exact Int.mul_pos_of_neg_of_neg z z;exact np z z) hc,λi=>?_⟩
  have e1:dN g (n+(k+1)) F=dN g (n+k) (fw g (n+k) F):=by show(if n+k+1<g.length then F else dN g (n+k)<|fw g (n+k) F)=_;rw[af h]
  have e2:fw g (n+k) F=λi=>ax g*ax g*F i:=by funext i;unfold fw;rw[hF (n+k)<|by lia];split<;>grind
  rw[e1,e2,iG];show ax g*ax g*dN g (n+k) F i=_;rw[e i];grind
def bn{g:az}{i:Nat}(h:g.length<=i):g.getD i 0=0:=by rw[ac,aI h];rfl
def dy{g:az}(h:g≠[]):g.getD (g.length-1) 0=ax g:=by rcases cq g with e |⟨ys,y,e⟩;exact absurd e h;subst e;simp[ax,ac]
theorem zi{g:az}(hl:ax g≠0)(j:Nat):∀n,j+g.length<=n->dN g n (λi=>if j<=i then g.getD (i-j) 0 else 0)=λ_=>0
 |0,h=>by have hg:g=[]:=au (by lia);subst hg;exact absurd rfl hl
 |n+1,h=>by
  have hg:g≠[]:=λz=>by subst z;exact hl rfl
  have hp:=ar.mpr hg;have gl:=dy hg;show(if n+1<g.length then _ else dN g n<|fw g n _)=_;rw[af<|by lia];by_cases e:n+1=j+g.length;have:fw g n (λi=>if j<=i then g.getD (i-j) 0 else 0)=λ_=>0:=by
   funext i;unfold fw;have e1:n+1-g.length=j:=by lia
   simp only[];rw[e1,ag (show j<=n by lia),show n-j=g.length-1 by lia,gl];split<;>grind
  rw[this,BV];have:fw g n (λi=>if j<=i then g.getD (i-j) 0 else 0)=λi=>ax g*ax g*(if j<=i then g.getD (i-j) 0 else 0):=by funext i;unfold fw;simp only[];rw[ag (show j<=n by lia),bn (i:=n-j)<|by lia];split<;>grind
  rw[this,iG,zi hl j n<|by lia];funext i;grind
def mq(g:az)(φ:Nat->Int)(p:Nat):Nat->Int|0=>0|i+1=>mq g φ p i+g.getD i 0*(if i<=p then φ (p-i)else 0)
theorem u8(g:az)(φ ψ:Nat->Int)(p:Nat):∀i,mq g (λk=>φ k+ψ k) p i=mq g φ p i+mq g ψ p i|0=>rfl|i+1=>by show mq g _ p i+_=(mq g φ p i+_)+(mq g ψ p i+_);rw[u8 g φ ψ p i];split<;>grind
theorem jY(g:az)(c:Int)(φ:Nat->Int)(p:Nat):∀i,mq g (λk=>c*φ k) p i=c*mq g φ p i|0=>(aO c).symm|i+1=>by show mq g _ p i+_=c*(mq g φ p i+_);rw[jY g c φ p i];split<;>grind
theorem oH(g:az)(j p:Nat):∀i,mq g (λk=>if k=j then 1 else 0) p i=if j<=p/\p-j<i then g.getD (p-j) 0 else 0
 |0=>by rw[af<|by lia];rfl
 |i+1=>by
  show mq g _ p i+g.getD i 0*(if i<=p then(if p-i=j then 1 else 0)else 0)=_;rw[oH g j p i];by_cases h:i<=p/\p-i=j;rw[af<|by lia,ag<|by lia,ag<|by lia,ag<|by lia,show p-j=i by lia];grind;have e:(if i<=p then(if p-i=j then(1:Int)else 0)else 0)=0:=by split;rw[af<|by lia];rfl
  rw[e];by_cases h2:j<=p/\p-j<i;rw[ag h2,ag<|by lia];grind;rw[af h2,af<|by lia];grind
theorem BW{g:az}(hl:ax g≠0)(φ:Nat->Int)(N:Nat):∀m,m+g.length<=N+1->dN g N (λp=>mq g (λk=>if k<m then φ k else 0) p g.length)=λ_=>0
 |0,_=>by
  have:(λp=>mq g (λk=>if k<0 then φ k else 0) p g.length)=λ_=>0:=by
   funext p;have h:=jY g 0 (λ_=>0) p g.length;have e:(λk=>if k<0 then φ k else 0)=λk=>0*(λ_=>0) k:=by funext k;rw[af<|by lia];rfl
   rw[e,h];grind
  rw[this,BV]
 |m+1,h=>by
  have e:(λp=>mq g (λk=>if k<m+1 then φ k else 0) p g.length)=λp=>mq g (λk=>if k<m then φ k else 0) p g.length+φ m*(if m<=p then g.getD (p-m) 0 else 0):=by
   funext p;have e1:(λk=>if k<m+1 then φ k else 0)=λk=>(if k<m then φ k else 0)+φ m*(if k=m then 1 else 0):=by funext k;by_cases z:k<m;rw[ag z,ag<|by lia,af<|by lia];grind;by_cases z2:k=m;subst z2;rw[ag<|by lia,af<|by lia,ag rfl];grind;rw[af z,af<|by lia,af z2];grind
   rw[e1,u8,jY,oH];by_cases z:m<=p;rw[ag z];by_cases z2:p-m<g.length;rw[ag ⟨z,z2⟩];rw[af<|by lia,bn<|by lia];rw[af z,af<|by lia]
  rw[e,zk,BW hl φ N m<|by lia,iG,zi hl m N<|by lia];funext i;grind
def Es(xs:az)(j:Nat)(v:Int)(p:Nat):(xs.set j v).getD p 0=if p=j/\j<xs.length then v else xs.getD p 0:=by rw[ac,oh,ac];by_cases h:j=p;subst h;by_cases h2:j<xs.length;rw[ag rfl,ag h2,ag ⟨rfl,h2⟩];rfl;rw[ag rfl,af h2,af<|by lia,aI<|by lia];rw[af h,af<|by lia]
theorem C2(f h:az)(i:Nat)(acc:az):∀(p j:Nat),i+j<=acc.length->(AF f h i acc j).getD p 0=acc.getD p 0+(if i<=p/\p-i<j then f.getD i 0*h.getD (p-i) 0 else 0)|p,0,_=>by rw[af<|by lia,cn];rfl|p,j+1,hj=>by show((AF f h i acc j).set (i+j) _).getD p 0=_;rw[Es,sK];by_cases e:p=i+j;subst e;rw[ag ⟨rfl,by lia⟩,C2 f h i acc (i+j) j<|by lia,af<|by lia,ag<|by lia,show i+j-i=j by lia];grind;rw[af<|by lia,C2 f h i acc p j<|by lia];by_cases z:i<=p/\p-i<j;rw[ag z,ag<|by lia];rw[af z,af<|by lia]
theorem EU(f h:az)(p:Nat):∀i,i<=f.length->(vf f h i).getD p 0=mq f (λk=>h.getD k 0) p i|0,_=>by show(List.replicate _ 0).getD p 0=0;rw[ac,dD];split<;>rfl|i+1,hi=>by show(AF f h i (vf f h i) h.length).getD p 0=mq f _ p i+f.getD i 0*(if i<=p then h.getD (p-i) 0 else 0);rw[C2 f h i _ p h.length<|by rw[yZ];lia,EU f h p i<|by lia];by_cases z:i<=p;rw[ag z];by_cases z2:p-i<h.length;rw[ag ⟨z,z2⟩];rw[af<|by lia,bn (i:=p-i)<|by lia];grind;rw[af z,af<|by lia];grind
def fu(xs:az)(i:Nat):(bR xs).getD i 0=xs.getD i 0:=by
 have key:∀ys:az,∀i,(ys.dropWhile (·==0)).reverse.getD i 0=ys.reverse.getD i 0:=by
  intro ys;induction ys with
  |nil=>intro i;rfl
  |cons y ys ih=>
   intro i;by_cases hy:y=0;subst hy;have:(0::ys).dropWhile (·==0)=ys.dropWhile (·==0):=by simp[List.dropWhile]
   rw[this,ih i,gK];rw[ac,ac];by_cases hi:i<ys.reverse.length;rw[a8 hi];rw[aQ<|by lia,aI<|by lia];cases z:i-ys.reverse.length with|zero=>rfl|succ n=>rfl
   have:(y::ys).dropWhile (·==0)=y::ys:=by rw[List.dropWhile_cons_of_neg<|by simpa using hy]
   rw[this]
 have:=key xs.reverse i;rw[WP]at this;exact this
def sv(f h:az)(p:Nat):(br f h).getD p 0=mq f (λk=>h.getD k 0) p f.length:=by unfold br;rw[fu,EU f h p f.length<|ao _]
def L9{g:az}(hf:W2 f)(h:∀i,f.getD i 0=g.getD i 0):f.length<=g.length:=by rcases hf with e |⟨ys,a,e,ha⟩;subst e;exact aJ _;rcases bA g.length f.length with z |z;have h1:=h ys.length;subst e;rw[bn (g:=g)<|by simp at z;lia]at h1;rw[ac,aQ<|ao _,eI]at h1;exact absurd h1 ha;exact z
def ly(hf:W2 f)(hg:W2 g)(h:∀i,f.getD i 0=g.getD i 0):f=g:=by have h1:=L9 hf h;have h2:=L9 hg λi=>(h i).symm;refine N9 (by lia) λi h3 h4=>?_;have:=h i;rw[mr h3,mr h4]at this;exact this
def dI(xs:az):W2 (bR xs):=Oo xs
def eZ{φ:Int->Int}(h0:φ 0=0)(f:az)(i:Nat):(f.map φ).getD i 0=φ (f.getD i 0):=by rw[ac,aw,ac];cases f[i]? with|none=>exact h0.symm|some x=>rfl
def l8{c:Int}(h:W2 f)(hc:c≠0):W2 (f.map λx=>c*x):=by rcases h with e |⟨ys,a,e,ha⟩;left;subst e;rfl;right;subst e;exact⟨ys.map λx=>c*x,c*a,by rw[bj];rfl,cE hc ha⟩
def M7{c:Int}(hc:0<c)(f:az):(gl (f.map λx=>c*x):Int)=c*(gl f:Int):=by
 have key:∀(f:az)a,((f.map λx=>c*x).foldl (λg x=>Nat.gcd g x.natAbs)<|c.natAbs*a)=c.natAbs*f.foldl (λg x=>Nat.gcd g x.natAbs) a:=by intro f;induction f with|nil=>intro a;rfl|cons x f ih=>intro a;simp;rw[dQ,Nat.gcd_mul_left,ih]
 have:=key f 0;rw[Nat.mul_zero]at this;unfold gl;rw[this,fC];have:c.natAbs=c:=by lia
 rw[this]
def sI{c:Int}(hc:0<c)(f:az):ga (f.map λx=>c*x)=ga f:=by unfold ga;rw[bp,M7 hc];refine cA λx _=>?_;exact Int.mul_fdiv_mul_of_pos x (gl f:Int) hc
def MS{a b:Int}{xs ys:az}(ha:0<a)(hb:0<b)(h:∀i,a*xs.getD i 0=b*ys.getD i 0):ga (bR xs)=ga (bR ys):=by rw[<-sI ha (bR xs),<-sI hb (bR ys)];congr 1;refine ly (l8 (dI xs)<|by lia) (l8 (dI ys)<|by lia) λi=>?_;rw[eZ<|aO a,eZ<|aO b,fu,fu,h i]
def gz(g:az)(s:Nat)(dn:Int)(r:az):Nat->az|0=>r|i+1=>(gz g s dn r i).set (s+i)<|(gz g s dn r i).getD (s+i) 0-dn*g.getD i 0
theorem gV(g:az)(s:Nat)(dn:Int)(r:az):∀i,(gz g s dn r i).length=r.length|0=>rfl|i+1=>by rw[gz,bE,gV]
theorem sy(g:az)(s:Nat)(dn:Int)(r:az):∀(p i:Nat),s+i<=r.length->(gz g s dn r i).getD p 0=r.getD p 0-(if s<=p/\p-s<i then dn*g.getD (p-s) 0 else 0)|p,0,_=>by rw[af<|by lia,tj];rfl|p,i+1,h=>by show((gz g s dn r i).set (s+i) _).getD p 0=_;rw[Es,gV];by_cases e:p=s+i;subst e;rw[ag ⟨rfl,by lia⟩,sy g s dn r (s+i) i<|by lia,af<|by lia,ag<|by lia,show s+i-s=i by lia];lia;rw[af<|by lia,sy g s dn r p i<|by lia];by_cases z:s<=p/\p-s<i;rw[ag z,ag<|by lia];rw[af z,af<|by lia]
def iq(g r:az):az:=(gz g (r.length-g.length) (Gs g<|ax r) (r.map λx=>Gm g (ax r)*x) g.length).dropLast
def lK(g:az):Nat->az->az|0,r=>r|n+1,r=>if n+1<g.length then r else lK g n<|iq g r
def ED(g:az):Nat->az->az->az|0,q,_=>q|n+1,q,r=>if n+1<g.length then q else ED g n (Gs g (ax r)::q.map λx=>Gm g (ax r)*x)<|iq g r
def kK(g r:az):(iq g r).length=r.length-1:=by unfold iq;rw[iT,gV,ab]
def A5(xs:az)(p:Nat):xs.dropLast.getD p 0=if p<xs.length-1 then xs.getD p 0 else 0:=by rw[ac,List.getElem?_dropLast,ac];split<;>rfl
def j1{g:az}(hl:ax g≠0):g≠[]:=λz=>by subst z;exact hl rfl
def ym{g r:az}{n:Nat}(hl:ax g≠0)(hr:r.length=n+1)(hg:g.length<=n+1):(λp=>(iq g r).getD p 0)=uH g n λp=>r.getD p 0:=by
 funext p;have hp:=ar.mpr<|j1 hl;have hrn:r≠[]:=λz=>by subst z;simp at hr
 have e1:r.getD n 0=ax r:=by have:=dy hrn;rwa[hr]at this
 unfold iq uH;simp only[];rw[A5,gV,ab,hr,sy _ _ _ _ _ _<|by rw[ab];lia,eZ<|aO _,e1];rcases fT p n with z |z |z;rw[ag<|by lia];by_cases y:n+1-g.length<=p;rw[ag ⟨y,by lia⟩,ag y];rw[af<|by lia,af y];subst z;rw[af<|by lia,ag<|by lia,show p-(p+1-g.length)=g.length-1 by lia,dy<|j1 hl,e1];exact(Q9 hl _).symm;rw[af<|by lia,ag<|by lia,bn<|by lia,bn<|by lia];grind
theorem vy{g:az}(hl:ax g≠0):∀(n:Nat)(r:az),r.length=n->(λp=>(lK g n r).getD p 0)=Dh g n λp=>r.getD p 0
 |0,r,_=>rfl|n+1,r,hr=>by unfold lK Dh;by_cases h:n+1<g.length;rw[ag h,ag h];rw[af h,af h,vy hl n (iq g r)<|by rw[kK];lia,ym hl hr<|by lia]
theorem z6(g:az):∀(n:Nat)(r:az),r.length=n->(lK g n r).length<=n|0,r,h=>by rw[lK];lia|n+1,r,h=>by unfold lK;split;lia;have:=z6 g n (iq g r) (by rw[kK];lia);lia
theorem EC(g:az):∀(n:Nat)(q r:az),(ED g n q r).length<=n+q.length|0,q,r=>by rw[ED];lia|n+1,q,r=>by unfold ED;split;lia;have:=EC g n (Gs g (ax r)::q.map λx=>Gm g (ax r)*x)<|iq g r;simp at this;lia
def fG(f g:az):az:=ga<|bR<|lK g f.length f
def Kn{f g F:az}(hl:ax g≠0)(hF:∀i,F.getD i 0=f.getD i 0+(br g h).getD i 0):fG F g=fG f g:=by
 have sup:∀(xs:az)i,xs.length<=i->(λp=>xs.getD p 0) i=0:=λxs i hi=>bn hi;obtain⟨c1,p1,e1⟩:=vq hl F.length λp=>F.getD p 0;obtain⟨c2,p2,e2⟩:=vq hl f.length λp=>f.getD p 0;obtain⟨c3,p3,e3⟩:=sJ hl (sup F)<|f.length+(g.length+h.length);obtain⟨c4,p4,e4⟩:=sJ hl (sup f)<|F.length+(g.length+h.length);have en:f.length+(F.length+(g.length+h.length))=F.length+(f.length+(g.length+h.length)):=by lia
 rw[en]at e4;have sum:=funext hF;have tm:(λp=>(br g h).getD p 0)=λp=>mq g (λk=>if k<h.length then(λk=>h.getD k 0) k else 0) p g.length:=by funext p;rw[sv];congr 1;funext k;by_cases z:k<h.length;rw[ag z];rw[af z,bn<|by lia]
 have key:∀i,dN g (F.length+(f.length+(g.length+h.length))) (λp=>F.getD p 0) i=dN g (F.length+(f.length+(g.length+h.length))) (λp=>f.getD p 0) i:=by intro i;rw[sum,zk g _ (λp=>f.getD p 0) λp=>(br g h).getD p 0,tm,BW hl _ _ h.length<|by lia];exact cn _
 refine MS (np p3 p1) (np p4 p2) λi=>?_;rw[show(lK g F.length F).getD i 0=Dh g F.length (λp=>F.getD p 0) i from iN (vy hl _ F rfl) i,show(lK g f.length f).getD i 0=Dh g f.length (λp=>f.getD p 0) i from iN (vy hl _ f rfl) i];rw[dG,<-e1 i,<-e3 i,key i,e4 i,e2 i,dG]
def cv(g:az)(φ:Nat->Int)(m p:Nat):Int:=mq g (λk=>if k<m then φ k else 0) p g.length
def xX(g:az)(φ:Nat->Int)(p:Nat):cv g φ 0 p=0:=by
 unfold cv;have h:=jY g 0 (λ_=>0) p g.length;have e:(λk=>if k<0 then φ k else 0)=λk=>0*(λ_=>0) k:=by funext k;rw[af<|by lia];rfl
 rw[e,h];grind
def xY(g:az)(φ:Nat->Int)(m p:Nat):cv g φ (m+1) p=cv g φ m p+φ m*(if m<=p then g.getD (p-m) 0 else 0):=by
 unfold cv;have e1:(λk=>if k<m+1 then φ k else 0)=λk=>(if k<m then φ k else 0)+φ m*(if k=m then 1 else 0):=by funext k;by_cases z:k<m;rw[ag z,ag<|by lia,af<|by lia];grind;by_cases z2:k=m;subst z2;rw[ag<|by lia,af<|by lia,ag rfl];grind;rw[af z,af<|by lia,af z2];grind
 rw[e1,u8,jY,oH];by_cases z:m<=p;rw[ag z];by_cases z2:p-m<g.length;rw[ag ⟨z,z2⟩];rw[af<|by lia,bn<|by lia];rw[af z,af<|by lia]
theorem ND(g:az)(φ:Nat->Int)(p:Nat):∀m,m+g.length<=p+1->cv g φ m p=0|0,_=>xX g φ p|m+1,h=>by rw[xY,ND g φ p m<|by lia,bn<|by lia];split<;>grind
theorem JL(f g:az)(p:Nat):∀m,cv g (λk=>f.getD k 0) m p=mq f (λk=>g.getD k 0) p m|0=>xX g _ p|m+1=>by rw[xY,JL f g p m];rfl
def Eb(f g:az)(p:Nat):(br f g).getD p 0=cv g (λk=>f.getD k 0) f.length p:=by rw[sv,JL]
def yf(f g:az):br f g=br g f:=by refine ly (dI _) (dI _) λi=>?_;rw[Eb f g,sv g f];unfold cv;congr 1;funext k;by_cases z:k<f.length;rw[ag z];rw[af z,bn<|by lia]
def KN{g r:az}{n:Nat}(h:n<g.length):lK g n r=r:=by cases n with|zero=>rfl|succ n=>unfold lK;rw[ag h]
def Xy(F G:Nat->Int):Prop:=∃a b:Int,a≠0/\b≠0/\∀i,a*F i=b*G i
abbrev co(f:az):Nat->Int:=λi=>f.getD i 0
def Xy.refl(F:Nat->Int):Xy F F:=⟨1,1,by decide,by decide,λ_=>rfl⟩
def Xy.symm{F G:Nat->Int}(h:Xy F G):Xy G F:=by obtain⟨a,b,ha,hb,e⟩:=h;exact⟨b,a,hb,ha,λi=>(e i).symm⟩
def Xy.trans{F G H:Nat->Int}(h:Xy F G)(k:Xy G H):Xy F H:=by
 let⟨a,b,ha,hb,e⟩:=h
 let⟨c,d,hc,hd,e'⟩:=k
 refine⟨c*a,b*d,cE hc ha,cE hb hd,λi=>?_⟩
 have e1:=e i
 have e2:=e' i
 calc c*a*F i=c*(a*F i):=by grind
  _=c*(b*G i):=by rw[e1]
  _=b*(c*G i):=by grind
  _=b*(d*H i):=by rw[e2]
  _=b*d*H i:=by grind
def Xy.scale{c:Int}{F G:Nat->Int}(hc:c≠0)(h:∀i,F i=c*G i):Xy F G:=⟨1,c,by decide,hc,λi=>by rw[h i,bS]⟩
def xM{a b:Int}(hf:W2 f)(hg:W2 g)(ha:a≠0)(hb:b≠0)(h:∀i,a*f.getD i 0=b*g.getD i 0):(f.map λx=>a*x)=g.map λx=>b*x:=ly (l8 hf ha) (l8 hg hb) λi=>by rw[eZ<|aO a,eZ<|aO b,h i]
def sA(hf:W2 f)(hg:W2 g)(h:Xy (co f) (co g)):f.length=g.length:=by obtain⟨a,b,ha,hb,e⟩:=h;have:=bo List.length<|xM hf hg ha hb e;simpa using this
def Pj{f:az}:ga (f.map λx=>-x)=(ga f).map λx=>-x:=by
 have e:gl (f.map λx=>-x)=gl f:=by unfold gl;rw[List.foldl_map];congr 1;funext g x;rw[Tj]
 unfold ga;rw[e,bp,bp];refine cA λx hx=>?_;show(-x).fdiv (gl f:Int)=-(x.fdiv (gl f:Int));have hd:(gl f:Int) ∣ x:=by
  have key:∀(f:az)a,(f.foldl (λg x=>Nat.gcd g x.natAbs) a ∣ a)/\∀x∈f,f.foldl (λg x=>Nat.gcd g x.natAbs) a ∣ x.natAbs:=by intro f;induction f with|nil=>intro a;exact⟨Az a,λx hx=>by cases hx⟩|cons y f ih=>intro a;obtain⟨h1,h2⟩:=ih<|Nat.gcd a y.natAbs;refine⟨il h1<|gx _ _,λx hx=>?_⟩;rcases aF.mp hx with rfl |hx;exact il h1<|gJ _ _;exact h2 x hx
  exact c8.mpr<|(key f 0).2 x hx
 obtain⟨k,hk⟩:=hd;by_cases h0:(gl f:Int)=0;rw[hk,h0,dL];rfl;rw[hk,bZ _ h0,show-((gl f:Int)*k)=(gl f:Int)*(-k)by grind,bZ _ h0]
def jL(f:az)(φ:Int->Int)(h0:φ 0=0):ax (f.map φ)=φ (ax f):=by rcases cq f with e |⟨ys,y,e⟩;subst e;exact h0.symm;rw[cJ]at e;subst e;simp[ax]
def vj(h:W2 f)(XB:f≠[]):ax (ga f)≠0:=by
 rcases h with e |⟨ys,a,e,ha⟩;exact absurd e XB;subst e;have hd:((gl (ys++[a]):Nat):Int) ∣ a:=by rw[xS];exact c8.mpr<|gJ _ _
 have hg:((gl (ys++[a]):Nat):Int)≠0:=by have:=j2 (.inr ⟨ys,a,rfl,ha⟩) (by simp);lia
 unfold ga;rw[bj];obtain⟨k,hk⟩:=hd;generalize((gl (ys++[a]):Nat):Int)=G at hk hg;have:ax (List.map (λx=>x.fdiv G) ys++List.map (λx=>x.fdiv G) [a])=a.fdiv G:=by simp[ax]
 rw[this,hk,bZ _ hg];intro z;rw[z,aO]at hk;exact ha hk
def Kh(h:W2 f):bh (f.map λx=>-x)=bh f:=by
 unfold bh;rw[Pj,jL _ (λx=>-x)<|by rfl];by_cases XB:f=[];subst XB;rfl;have h0:=vj h XB;by_cases z:ax (ga f)<0;rw[ag z,af<|by lia];rw[af z,ag<|by lia,bp];have:((λx:Int=>-x) ∘ λx:Int=>-x)=id:=by funext x;show- -x=x;lia
 rw[this,WS]
def xf{c:Int}(h:W2 f)(hc:c≠0):bh (f.map λx=>c*x)=bh f:=by
 rcases Ih hc with z |z;have e:(f.map λx=>c*x)=(f.map λx=>-x).map λx=>(-c)*x:=by rw[bp];refine cA λx _=>?_;show c*x=-c* -x;grind
 rw[e];have:bh ((f.map λx=>-x).map λx=>(-c)*x)=bh (f.map λx=>-x):=by unfold bh;rw[sI<|by lia]
 rw[this,Kh h];unfold bh;rw[sI z]
def jc(hf:W2 f)(hg:W2 g)(h:Xy (co f) (co g)):bh f=bh g:=by let⟨a,b,ha,hb,e⟩:=h;rw[<-xf hf ha,<-xf hg hb,xM hf hg ha hb e]
def MW(g:az)(n:Nat){F G:Nat->Int}(h:Xy F G):Xy (dN g n F) (dN g n G):=by let⟨a,b,ha,hb,e⟩:=h;refine⟨a,b,ha,hb,λi=>?_⟩;have h1:=iN (iG g a n F) i;have h2:=iN (iG g b n G) i;rw[<-h1,<-h2,show(λi=>a*F i)=λi=>b*G i from funext e]
theorem pG{g:az}{b:Int}(hb:b≠0):∀(n:Nat)(S:Nat->Int),∃c:Int,c≠0/\∀i,dN (g.map λx=>b*x) n S i=c*dN g n S i
 |0,S=>⟨1,by decide,λi=>(bS _).symm⟩
 |n+1,S=>by
  unfold dN;rw[ab];by_cases h:n+1<g.length;exact⟨1,by decide,λi=>by rw[ag h,ag h,bS]⟩;have e:fw (g.map λx=>b*x) n S=λi=>(b*b)*fw g n S i:=by funext i;unfold fw;rw[jL g (λx=>b*x)<|aO b,ab,eZ<|aO b];split<;>grind
  obtain⟨c,hc,ec⟩:=pG hb n λi=>(b*b)*fw g n S i;refine⟨c*(b*b),cE hc<|cE hb hb,λi=>?_⟩;rw[af h,af h,e,ec i,iG];show c*(b*b*_)=_;grind
def y8(f:az)(h:W2 f):Xy (co f) (co<|ga f):=by
 by_cases XB:f=[];subst XB;exact Xy.refl _;have hg:=j2 h XB;refine Xy.scale (c:=(gl f:Int)) (by lia) λi=>?_;show f.getD i 0=(gl f:Int)*(ga f).getD i 0;unfold ga;rw[eZ<|by exact iZ _];by_cases hi:i<f.length;have hx:f.getD i 0∈f:=by rw[mr hi];exact cZ _
 have hd:(gl f:Int) ∣ f.getD i 0:=by
  have key:∀(f:az)a,(f.foldl (λg x=>Nat.gcd g x.natAbs) a ∣ a)/\∀x∈f,f.foldl (λg x=>Nat.gcd g x.natAbs) a ∣ x.natAbs:=by intro f;induction f with|nil=>intro a;exact⟨Az a,λx hx=>by cases hx⟩|cons y f ih=>intro a;obtain⟨h1,h2⟩:=ih<|Nat.gcd a y.natAbs;refine⟨il h1<|gx _ _,λx hx=>?_⟩;rcases aF.mp hx with rfl |hx;exact il h1<|gJ _ _;exact h2 x hx
  exact c8.mpr<|(key f 0).2 _ hx
 obtain⟨k,hk⟩:=hd;rw[hk,bZ _<|by lia];rw[bn<|by lia,iZ,aO]
def MT(h:W2 f):W2 (ga f):=by by_cases XB:f=[];subst XB;exact .inl rfl;right;have h0:=vj h XB;rcases cq (ga f)with e |⟨ys,y,e⟩;exfalso;apply XB;apply au;rw[<-oM,e];rfl;rw[cJ]at e;refine⟨ys,y,e,?_⟩;rw[e]at h0;simpa[ax]using h0
def mM(f g:az):W2 (fG f g):=MT<|dI _
def BG{g:az}(hl:ax g≠0):Xy (co<|fG f g) (dN g f.length<|co f):=by have h1:=(y8 _<|dI<|lK g f.length f).symm;obtain⟨c,hc,e⟩:=vq hl f.length<|co f;refine h1.trans ?_;refine⟨c,1,by lia,by decide,λi=>?_⟩;show c*(bR<|lK g f.length f).getD i 0=_;rw[bS,e i,fu,show(lK g f.length f).getD i 0=Dh g f.length (λp=>f.getD p 0) i from iN (vy hl _ f rfl) i]
def sF{g:az}(hl:ax g≠0)(k:Nat):Xy (co<|fG f g) (dN g (f.length+k)<|co f):=by obtain⟨c,hc,e⟩:=sJ hl (n:=f.length) (λi hi=>bn hi) k;exact(BG hl).trans (Xy.scale (by lia) e).symm
def zl{g:az}{b:Int}:ax (g.map λx=>b*x)=b*ax g:=jL g (λx=>b*x)<|aO b
def LU(hf:W2 f)(hg:W2 g)(h:Xy (co f) (co g))(hl:ax f≠0):ax g≠0:=by let⟨a,b,ha,hb,e⟩:=h;have:=xM hf hg ha hb e;intro z;have h1:=bo ax this;rw[zl,zl,z,aO]at h1;exact cE ha hl h1
def yO(hf:Xy (co f) (co f'))(rg:W2 g)(rg':W2 g')(hg:Xy (co g) (co g'))(hl:ax g≠0):Xy (co<|fG f g) (co<|fG f' g'):=by have hl':=LU rg rg' hg hl;obtain⟨a,b,ha,hb,e⟩:=hg;have eg:=xM rg rg' ha hb e;have s1:=sF (f:=f) hl f'.length;have s2:=sF (f:=f') hl' f.length;obtain⟨c1,h1,e1⟩:=pG (g:=g) ha (f.length+f'.length)<|co f;obtain⟨c2,h2,e2⟩:=pG (g:=g') hb (f.length+f'.length)<|co f;have m:Xy (dN g (f.length+f'.length)<|co f) (dN g' (f.length+f'.length)<|co f):=⟨c1,c2,h1,h2,λi=>by rw[<-e1 i,<-e2 i,eg]⟩;rw[lO]at s2;exact s1.trans<|m.trans<|(MW g' _ hf).trans s2.symm
def fO:Nat->az->az->az|0,f,_=>f|n+1,f,g=>if g=[]then f else fO n g<|fG f g
theorem z5{g:az}:∀(n:Nat)(r:az),r.length=n->g≠[]->(lK g n r).length<g.length\/(lK g n r).length<g.length|0,r,hr,hg=>.inl (by show r.length<_;have:=ar.mpr hg;lia)|n+1,r,hr,hg=>by unfold lK;by_cases h:n+1<g.length;rw[ag h];exact .inl (by lia);rw[af h];exact z5 n _ (by rw[kK];lia) hg
def jq{g:az}(hg:g≠[]):(fG f g).length<g.length:=by unfold fG;rw[oM];have h1:=fK<|lK g f.length f;have h2:=z5 f.length f rfl hg;lia
def cz(h:W2 g)(hg:g≠[]):ax g≠0:=by rcases h with e |⟨ys,a,e,ha⟩;exact absurd e hg;subst e;simpa[ax]using ha
theorem wY:∀(n:Nat)(f g:az),g.length<=n->fO (n+1) f g=fO n f g|0,f,g,h=>by have:g=[]:=au (by lia);subst this;rfl|n+1,f,g,h=>by show(if g=[]then f else fO (n+1) g<|fG f g)=(if g=[]then f else fO n g<|fG f g);by_cases hg:g=[];rw[ag hg,ag hg];rw[af hg,af hg];have:=jq (f:=f) hg;exact wY n g (fG f g)<|by lia
theorem wZ{n:Nat}{g:az}(h:g.length<=n):∀k,fO (n+k) f g=fO n f g|0=>rfl|k+1=>by rw[<-Gx,wY (n+k) f g<|by lia,wZ h k]
theorem Bx:∀(n:Nat)(f g:az),W2 f->W2 g->W2 (fO n f g)|0,f,g,hf,_=>hf|n+1,f,g,hf,hg=>by rw[fO];split;exact hf;exact Bx n g (fG f g) hg<|mM f g
theorem yq:∀(n:Nat)(f f' g g':az),W2 g->W2 g'->Xy (co f) (co f')->Xy (co g) (co g')->Xy (co<|fO n f g) (co<|fO n f' g')|0,f,f',g,g',_,_,hf,_=>hf|n+1,f,f',g,g',rg,rg',hf,hg=>by have hl:=sA rg rg' hg;rw[fO,fO];by_cases z:g=[];have z':=au (by rw[<-hl,z];rfl);rwa[ag z,ag z'];have z':g'≠[]:=λy=>z<|au (by rw[hl,y];rfl);rw[af z,af z'];exact yq n g g' _ _ (mM _ _) (mM _ _) hg<|yO hf rg rg' hg<|cz rg z
def sh(f g:az):az:=fO g.length f g
def tU(f:az):sh f []=f:=rfl
def nv{g:az}(hg:g≠[]):sh f g=sh g (fG f g):=by have hr:=jq (f:=f) hg;obtain⟨k,hk⟩:∃k,g.length=k+1:=⟨g.length-1,by have:=ar.mpr hg;lia⟩;unfold sh;rw[hk];show(if g=[]then f else fO k g<|fG f g)=_;rw[af hg];obtain⟨j,hj⟩:∃j,k=(fG f g).length+j:=⟨k-(fG f g).length,by lia⟩;rw[hj,wZ (ao _) j]
def oC(hf:W2 f)(hg:W2 g):W2 (sh f g):=Bx _ _ _ hf hg
def GT(rg:W2 g)(rg':W2 g')(hf:Xy (co f) (co f'))(hg:Xy (co g) (co g')):Xy (co<|sh f g) (co<|sh f' g'):=by unfold sh;rw[<-sA rg rg' hg];exact yq _ _ _ _ _ rg rg' hf hg
def Mb(g:az):fG [] g=[]:=rfl
def GZ{g:az}(hf:W2 f)(h:f.length<g.length):fG f g=ga f:=by unfold fG;rw[KN h,ly (dI f) hf<|fu f]
def zj{g:az}{n:Nat}(h:n<g.length)(S:Nat->Int):dN g n S=S:=by cases n with|zero=>rfl|succ n=>unfold dN;rw[ag h]
abbrev cm(m:az)(S:Nat->Int):Nat->Int:=λp=>mq m S p m.length
def tL(f m:az):co (br f m)=cm m (co f):=by funext p;show(br f m).getD p 0=_;rw[yf,sv]
def JN(m:az)(c:Int)(S:Nat->Int):cm m (λi=>c*S i)=λi=>c*cm m S i:=funext λp=>jY m c S p m.length
def SQ(m:az){F G:Nat->Int}(h:Xy F G):Xy (cm m F) (cm m G):=by let⟨a,b,ha,hb,e⟩:=h;refine⟨a,b,ha,hb,λi=>?_⟩;have h1:=iN (JN m a F) i;have h2:=iN (JN m b G) i;rw[<-h1,<-h2,show(λi=>a*F i)=λi=>b*G i from funext e]
theorem v6(m:az)(s:Nat)(φ:Nat->Int)(p:Nat):∀k,mq m (λi=>if s<=i then φ (i-s)else 0) p k=if s<=p then mq m φ (p-s) k else 0
 |0=>by split<;>rfl
 |k+1=>by
  show mq m _ p k+m.getD k 0*(if k<=p then(if s<=p-k then φ (p-k-s)else 0)else 0)=if s<=p then mq m φ (p-s) k+m.getD k 0*(if k<=p-s then φ (p-s-k)else 0)else 0;rw[v6 m s φ p k];by_cases h:s<=p;rw[ag h,ag h];congr 1;congr 1;by_cases h2:k<=p-s;rw[ag h2,ag<|by lia,ag<|by lia,show p-k-s=p-s-k by lia];rw[af h2];split;rw[af<|by lia];rfl;rw[af h,af h];have:(if k<=p then(if s<=p-k then φ (p-k-s)else 0)else 0)=0:=by split;rw[af<|by lia];rfl
  rw[this];grind
theorem u6(m:az)(S:Nat->Int)(p n:Nat)(hS:∀i,n<i->S i=0):∀k,k+n<=p->mq m S p k=0|0,_=>rfl|k+1,h=>by show mq m S p k+m.getD k 0*(if k<=p then S (p-k)else 0)=0;rw[u6 m S p n hS k<|by lia,ag<|by lia,hS (p-k)<|by lia];grind
def HF{m:az}(hm:m≠[])(S:Nat->Int)(n:Nat)(hS:∀i,n<i->S i=0):cm m S (n+(m.length-1))=ax m*S n:=by obtain⟨k,hk⟩:∃k,m.length=k+1:=⟨m.length-1,by have:=ar.mpr hm;lia⟩;show mq m S (n+(m.length-1)) m.length=_;have e:=dy hm;rw[hk]at e ⊢;show mq m S (n+k) k+m.getD k 0*(if k<=n+k then S (n+k-k)else 0)=_;rw[u6 m S (n+k) n hS k<|by lia,ag<|by lia,show n+k-k=n by lia,fB];show m.getD k 0*S n=_;rw[show m.getD k 0=ax m from e]
def i6(rf:W2 f)(rm:W2 m)(hf:f≠[])(hm:m≠[]):(br f m).length=f.length+(m.length-1)/\ax (br f m)=ax m*ax f:=by
 have lf:=cz rf hf;have lm:=cz rm hm;obtain⟨n,hn⟩:∃n,f.length=n+1:=⟨f.length-1,by have:=ar.mpr hf;lia⟩;have top:=HF hm (co f) n λi hi=>bn (by lia);rw[<-tL]at top;have e1:co f n=ax f:=by have:=dy hf;rwa[hn]at this
 rw[e1]at top;have zN6:f.length+(m.length-1)<=(br f m).length:=by rcases bA (n+(m.length-1)) (br f m).length with z |z;lia;have:=bn z;exact absurd ((show(br f m).getD (n+(m.length-1)) 0=_ from top).symm.trans this)<|cE lm lf
 have hup:(br f m).length<=f.length+(m.length-1):=by
  have hmp:=ar.mpr hm;have h1:=GK f m;rcases bA (f.length+(m.length-1)) (br f m).length with z |z;exfalso;have e:(br f m).length=f.length+m.length:=by lia
  have ne:br f m≠[]:=λy=>by rw[y]at z;simp at z
  have g1:=dy ne;have l1:=cz (dI _:W2 (br f m)) ne;rw[e]at g1;have g2:(br f m).getD (f.length+m.length-1) 0=0:=by show co (br f m) _=0;rw[tL];exact u6 m (co f) _ n (λi hi=>bn<|by lia) m.length<|by lia
  rw[g2]at g1;exact l1 g1.symm;exact z
 have hE:(br f m).length=f.length+(m.length-1):=by lia
 refine⟨hE,?_⟩;have ne:br f m≠[]:=λy=>by rw[y]at hE;simp at hE;lia
 have g1:=dy ne;rw[hE,hn,show n+1+(m.length-1)-1=n+(m.length-1)by lia]at g1;exact g1.symm.trans top
def J3{g:az}{n:Nat}(hg:g≠[])(hn:g.length<=n+1){S:Nat->Int}(hS:∀i,n+1<=i->S i=0):∀i,n<=i->fw g n S i=0:=by intro i hi;have hp:=ar.mpr hg;unfold fw;rw[ag<|by lia];rcases H9 hi with e |e;subst e;rw[show n-(n+1-g.length)=g.length-1 by lia,dy hg];grind;rw[hS i<|by lia,bn<|by lia];grind
def GL(rg:W2 g)(rm:W2 m)(hg:g≠[])(hm:m≠[])(n:Nat)(S:Nat->Int)(hS:∀i,n<i->S i=0):fw (br g m) (n+(m.length-1)) (cm m S)=λi=>(ax m*ax m)*cm m (fw g n S) i:=by
 obtain⟨tl,tt⟩:=i6 rg rm hg hm;have hmp:=ar.mpr hm;funext i;have e1:cm m (fw g n S) i=ax g*ax g*cm m S i-(S n*ax g)*(if n+1-g.length<=i then cm m (co g) (i-(n+1-g.length))else 0):=by
  have h0:fw g n S=λi=>(ax g*ax g)*S i+(-(S n*ax g))*(if n+1-g.length<=i then co g (i-(n+1-g.length))else 0):=by funext i;unfold fw;split<;>grind
  rw[h0];show mq m _ i m.length=_;rw[u8 m (λi=>(ax g*ax g)*S i) λi=>(-(S n*ax g))*(if n+1-g.length<=i then co g (i-(n+1-g.length))else 0),jY,jY m (-(S n*ax g)),v6 m (n+1-g.length)<|co g];grind
 rw[e1];unfold fw;rw[tl,tt,show n+(m.length-1)+1-(g.length+(m.length-1))=n+1-g.length by lia,HF hm S n hS];have e2:∀p,(br g m).getD p 0=cm m (co g) p:=λp=>iN (tL g m) p;rw[e2];split<;>grind
theorem zh(rg:W2 g)(rm:W2 m)(hg:g≠[])(hm:m≠[]):∀(n:Nat)(S:Nat->Int),(∀i,n<=i->S i=0)->∃c:Int,c≠0/\∀i,dN (br g m) (n+(m.length-1)) (cm m S) i=c*cm m (dN g n S) i
 |0,S,hS=>by obtain⟨tl,tt⟩:=i6 rg rm hg hm;have hgp:=ar.mpr hg;exact⟨1,by decide,λi=>by rw[zj<|by lia,bS];rfl⟩
 |n+1,S,hS=>by
  obtain⟨tl,tt⟩:=i6 rg rm hg hm;have lm:=cz rm hm;by_cases h:n+1<g.length;exact⟨1,by decide,λi=>by rw[zj<|by lia,zj h,bS]⟩;obtain⟨c,hc,e⟩:=zh rg rm hg hm n (fw g n S)<|J3 hg (by lia) hS;refine⟨ax m*ax m*c,cE (cE lm lm) hc,λi=>?_⟩;have a1:dN (br g m) (n+1+(m.length-1)) (cm m S)=dN (br g m) (n+(m.length-1)) (fw (br g m) (n+(m.length-1))<|cm m S):=by rw[show n+1+(m.length-1)=n+(m.length-1)+1 by lia];show(if n+(m.length-1)+1<(br g m).length then _ else _)=_;rw[af<|by lia]
  have a2:dN g (n+1) S=dN g n (fw g n S):=by show(if n+1<g.length then _ else _)=_;rw[af h]
  rw[a1,a2,GL rg rm hg hm n S λi hi=>hS i hi,iG];show ax m*ax m*dN (br g m) (n+(m.length-1)) (cm m<|fw g n S) i=_;rw[e i];grind
def GY(rg:W2 g)(rm:W2 m)(hg:g≠[])(hm:m≠[]):Xy (co<|fG (br f m)<|br g m) (co<|br (fG f g) m):=by
 obtain⟨tl,tt⟩:=i6 rg rm hg hm;have lg:=cz rg hg;have lm:=cz rm hm;have lt:ax (br g m)≠0:=by rw[tt];exact cE lm lg
 have a1:=sF (f:=br f m) lt<|f.length+(m.length-1);have a2:=sF (f:=f) lg (br f m).length;obtain⟨c,hc,e⟩:=zh rg rm hg hm (f.length+(br f m).length) (co f) λi hi=>bn (by lia);rw[show(br f m).length+(f.length+(m.length-1))=f.length+(br f m).length+(m.length-1)by lia,tL]at a1;rw[tL];exact a1.trans<|(Xy.scale hc e).trans<|SQ m a2.symm
theorem Ep(rm:W2 m)(hm:m≠[]):∀(n:Nat)(f g:az),g.length<=n->W2 g->Xy (co<|sh (br f m)<|br g m) (co<|br (sh f g) m)
 |0,f,g,h,rg=>by have:g=[]:=au (by lia);subst this;rw[su,tU,tU];exact Xy.refl _
 |n+1,f,g,h,rg=>by
  by_cases hg:g=[];subst hg;rw[su,tU,tU];exact Xy.refl _;obtain⟨tl,tt⟩:=i6 rg rm hg hm;have hgp:=ar.mpr hg;have tn:br g m≠[]:=λy=>by rw[y]at tl;simp at tl;lia
  rw[nv tn,nv hg];have hr:=jq (f:=f) hg;refine Xy.trans ?_<|Ep rm hm n g (fG f g) (by lia)<|mM f g;exact GT (mM _ _) (dI _) (Xy.refl _)<|GY rg rm hg hm
def wL(ds:ck)(d:D):Prop:=∃a:Int,ds=[.int a]/\d=.int a.sign
def Fb:∀ds d,wL ds d->ds.length=1:=by rintro _ _ ⟨a,rfl,_⟩;rfl
def rP(ds:ck)(d:D):Prop:=∃r g:az,ds=[bu r,aD g]/\r≠[]/\ax g≠0/\d=.tup [.int<|Gm g<|ax r,.int<|Gs g<|ax r]
def AR:∀ds d,rP ds d->ds.length=2:=by rintro _ _ ⟨a,b,rfl,_⟩;rfl
def BB(k:Nat)(f:az):Prop:=∀x∈f,x.natAbs<2 ^ k
def Ar(f g:az):Prop:=f.length<200/\g.length<200/\ax g≠0/\∃a b,BB a f/\BB b g/\a+(f.length+1-g.length)*(2*b+1)+b<=1000000
def wN(ds:ck)(d:D):Prop:=∃f g:az,ds=[aD f,aD g]/\Ar f g/\d=.tup [aD<|bR<|ED g f.length [] f,aD<|bR<|lK g f.length f]
def Fe:∀ds d,wN ds d->ds.length=2:=by rintro _ _ ⟨a,b,rfl,_⟩;rfl
def wM(ds:ck)(d:D):Prop:=∃f g:az,ds=[aD f,aD g]/\Ar f g/\d=aD (fG f g)
def Fc:∀ds d,wM ds d->ds.length=2:=by rintro _ _ ⟨a,b,rfl,_⟩;rfl
def BB.mono{j:Nat}(h:BB k f)(q:k<=j):BB j f:=λx hx=>aR (h x hx)<|ba (by decide) q
def BB.get(h:BB k f)(i:Nat):(f.getD i 0).natAbs<2 ^ k:=by by_cases hi:i<f.length;rw[mr hi];exact h _<|cZ _;rw[bn<|by lia];exact ni<|by decide
def BB.of_get{f:az}(h:∀p,(f.getD p 0).natAbs<2 ^ k):BB k f:=λx hx=>by obtain⟨i,hi,rfl⟩:=List.mem_iff_getElem.mp hx;have:=h i;rwa[mr hi]at this
def BB.last(h:BB k f):(ax f).natAbs<2 ^ k:=by by_cases hf:f=[];subst hf;exact ni (by decide);rw[<-dy hf];exact h.get _
def BB.trim(h:BB k f):BB k (bR f):=λx hx=>h x<|vh hx
def Pc{x y:Int}(hx:x.natAbs<2 ^ p)(hy:y.natAbs<2 ^ q)(hp:p<=1000000)(hq:q<=1000000):IntMulOk x y:=mE (k:=max p q) (by lia) (aR hx<|ba (by decide)<|by lia)<|aR hy<|ba (by decide)<|by lia
def fY{x y:Int}(hx:x.natAbs<2 ^ p)(hy:y.natAbs<2 ^ q):(x*y).natAbs<2 ^ (p+q):=by rw[dQ];exact Hc hx hy
def tG{x y:Int}(hx:x.natAbs<2 ^ p)(hy:y.natAbs<2 ^ p):(x-y).natAbs<2 ^ (p+1):=by rw[iO];lia
def Ci{g:az}(hl:ax g≠0)(a:Int):(Gm g a).natAbs<=(ax g).natAbs/\(Gs g a).natAbs<=a.natAbs:=by
 have hh:0<Nat.gcd a.natAbs (ax g).natAbs:=wQ _ (by lia);let⟨u,hu⟩:=gJ a.natAbs (ax g).natAbs;let⟨v,hv⟩:=gx a.natAbs (ax g).natAbs;unfold Gm Gs;generalize Nat.gcd a.natAbs (ax g).natAbs=h at hh hu hv;generalize ax g=l at hl hu;have e1:(l.natAbs:Int).fdiv h=u:=by rw[hu,fC,bZ _<|by lia]
 have e2:(l.sign*a).fdiv h=l.sign*(a.sign*v):=by
  have e:a=a.sign*(h*v):=by rw[<-fC,<-hv];exact(sV a).symm
  have:l.sign*a=h*(l.sign*(a.sign*v)):=by
   conv=>lhs;rw[e]
   grind
  rw[this,bZ _<|by lia]
 rw[e1,e2,dQ,dQ,eR,eR];have s1:∀z:Int,z.sign.natAbs<=1:=λz=>by rcases vR z 0 with y |y |y;rw[k9 y];decide;rw[y];decide;rw[oo y];decide
 have u1:u<=h*u:=Ay u hh;have v1:v<=h*v:=Ay v hh;have v2:a.sign.natAbs*v<=1*v:=bF v<|s1 a;have v3:l.sign.natAbs*(a.sign.natAbs*v)<=1*(a.sign.natAbs*v):=bF _<|s1 l;lia
def Bs{g r:az}{n:Nat}(hl:ax g≠0)(hr:r.length=n+1)(hg:g.length<=n+1)(hb:BB b g)(hc:BB c r):BB (c+b+1) (iq g r):=by refine BB.of_get λp=>?_;rw[show(iq g r).getD p 0=uH g n (λp=>r.getD p 0) p from iN (ym hl hr hg) p];simp;obtain⟨u1,u2⟩:=Ci hl<|r.getD n 0;have h1:=cb u1 hb.last;have h2:=cb u2<|hc.get n;have h3:=fY h1<|hc.get p;rw[lO b c]at h3;refine tG h3 ?_;split;exact fY h2<|hb.get _;exact ni<|by decide
theorem JE{g:az}(hl:ax g≠0)(hb:BB b g):∀(n c:Nat)(r:az),r.length=n->BB c r->BB (c+(n+1-g.length)*(b+1)) (lK g n r)|0,c,r,hr,hc=>hc.mono (xD _ _)|n+1,c,r,hr,hc=>by unfold lK;by_cases h:n+1<g.length;rw[ag h];exact hc.mono<|xD _ _;rw[af h];have ih:=JE hl hb n (c+b+1) (iq g r) (by rw[kK];lia)<|Bs hl hr (by lia) hb hc;refine ih.mono ?_;rw[show n+1+1-g.length=(n+1-g.length)+1 by lia,ig];lia
def Hj(h:BB k f):BB k (ga f):=λx hx=>by
 obtain⟨y,hy,rfl⟩:=aZ.mp hx;have h1:=h y hy;by_cases z:(gl f:Int)=0;rw[z,Int.fdiv_zero];exact ni (by decide);refine cb ?_ h1;have hd:(gl f:Int) ∣ y:=by
  have key:∀(f:az)a,(f.foldl (λg x=>Nat.gcd g x.natAbs) a ∣ a)/\∀x∈f,f.foldl (λg x=>Nat.gcd g x.natAbs) a ∣ x.natAbs:=by intro f;induction f with|nil=>intro a;exact⟨Az a,λx hx=>by cases hx⟩|cons y f ih=>intro a;let⟨h1,h2⟩:=ih<|Nat.gcd a y.natAbs;refine⟨il h1<|gx _ _,λx hx=>?_⟩;rcases aF.mp hx with rfl |hx;exact il h1<|gJ _ _;exact h2 x hx
  exact c8.mpr<|(key f 0).2 _ hy
 let⟨q,hq⟩:=hd;rw[hq,bZ _ z,dQ];exact Ay _<|by lia
def OO{g:az}(hl:ax g≠0)(ha:BB a f)(hb:BB b g):BB (a+(f.length+1-g.length)*(b+1)) (fG f g):=Hj (JE hl hb f.length a f rfl ha).trim
theorem Fw{X:Cx}(g:az)(R:az->az->dP)(hl:ax g≠0)(hb:BB b g)(h1:∀q r,r.length<200->W5 X (R q r) c (decide<|g.length<=r.length))(h2:∀q r e,q.length+r.length<200->g.length<=r.length->r≠[]->BB e r->BB e q->e+(2*b+1)+b<=1000000->W4 X (R q r) body (.nx<|R (Gs g (ax r)::q.map λx=>Gm g (ax r)*x)<|iq g r)):∀(n:Nat)(q r:az)(e:Nat),r.length=n->q.length+r.length<200->BB e r->BB e q->e+(n+1-g.length)*(2*b+1)+b<=1000000->∃m,XD X c body m (R q r) (.nx<|R (ED g n q r)<|lK g n r)
 |0,q,r,e,hr,hq,_,_,_=>⟨0,.stop<|W5.eq (h1 q r<|by lia)<|aj<|by have:=ar.mpr<|j1 hl;lia⟩
 |n+1,q,r,e,hr,hq,er,eq,eb=>by
  unfold ED lK;by_cases h:n+1<g.length;rw[ag h,ag h];exact⟨0,.stop<|W5.eq (h1 q r<|by lia)<|aj<|by lia⟩;rw[af h,af h];rw[show n+1+1-g.length=(n+1-g.length)+1 by lia,ig]at eb;generalize hk:(n+1-g.length)*(2*b+1)=kk at eb;have er':BB (e+(2*b+1)) (iq g r):=(Bs hl hr (by lia) hb er).mono (by lia);obtain⟨u1,u2⟩:=Ci hl<|ax r;have eq':BB (e+(2*b+1)) (Gs g (ax r)::q.map λx=>Gm g (ax r)*x):=by intro x hx;rcases aF.mp hx with rfl |hx;exact cb u2<|aR er.last<|ba (by decide) (by lia);obtain⟨y,hy,rfl⟩:=aZ.mp hx;exact aR (fY (cb u1 hb.last)<|eq y hy)<|ba (by decide)<|by lia
  obtain⟨m,w⟩:=Fw g R hl hb h1 h2 n (Gs g (ax r)::q.map λx=>Gm g (ax r)*x) (iq g r) (e+(2*b+1)) (by rw[kK];lia) (by rw[kK,bB,ab];lia) er' eq' (by rw[hk];lia);exact⟨m+1,.step (W5.eq (h1 q r<|by lia)<|aq<|by lia) (h2 q r e hq (by lia) (λz=>by subst z;simp at hr) er eq<|by lia) w⟩
section
variable {X:Cx}
def KU(h:fA P w K mg base k wF sB X):Go X wF sB wL:=by rintro ds d ⟨a,rfl,rfl⟩;have t:=h.at';refine aM<|cp<|W0.eq (PF (QZ (aa t 0) ak)<|Uw (aa t 0) ak) ?_;rcases vR a 0 with z |z |z;rw[aq z,aj<|by lia,k9 z];rfl;subst z;rfl;rw[aj (show¬a<0 by lia),aq z,oo z];rfl
def FN(h:fA P w K mg base k rD nC X)(YB:mg "abs"=none)(cG:Callee X "common_divisor" ic)(cS:Callee X "sign_of" wL):Go X rD nC rP:=by
 rintro ds d ⟨r,g,rfl,hr,hl,rfl⟩;have t:=h.at';haveI:=h.XM;have b1:=h.bt YB;have hg:=j1 hl;have hh:0<Nat.gcd (ax r).natAbs (ax g).natAbs:=wQ _ (by lia);refine ay (df t 2<|aX t cG (ai (bM (W0.ql<|aa t 0) (gu ak)<|fL hr)<|ai (bM (W0.qt<|aa t 1) (gu ak)<|fL hg) av) ⟨_,_,rfl,rfl⟩) ?_;refine aM<|cp<|bH<|ai (zw t (ub t b1<|bM (W0.qt<|aa t 1) (gu ak)<|fL hg) (aa t 2)<|by lia)<|ai (zw t (eh (aX t cS (ai (bM (W0.qt<|aa t 1) (gu ak)<|fL hg) av) ⟨_,rfl,rfl⟩) (bM (W0.ql<|aa t 0) (gu ak)<|fL hr) ?_) (aa t 2)<|by lia) av;have:(ax g).sign=-1\/(ax g).sign=0\/(ax g).sign=1:=by rcases vR (ax g) 0 with z |z |z;left;exact k9 z;right;left;rw[z];rfl;right;right;exact oo z
 exact gD (by lia)<|by lia
def KZ(h:fA P w K mg base k wK oG X)(Xu:mg "list"=none)(W7:mg "len"=none)(Zj:mg "enumerate"=none)(cS:Callee X "step_down" rP)(cR:Callee X "row_of" lL):Go X wK oG wN:=by
 rintro ds d ⟨f,g,rfl,⟨hf,hgl,hl,a,b,ha,hb,hab⟩,rfl⟩;have t:=h.at';haveI:=h.XM;have b1:tN X (aK oG) "enumerate" (.type "enumerate"):=DB (by rwa[h.Ze]) rfl rfl;have b2:=h.bt W7;have b3:=h.bt Xu;have hg:=j1 hl;refine ay (fx (jA t (W0.p<|aa t 1) (W0.p (d:=aD [])<|bH av) (bJ _) (bJ _)<|by rw[gH,aj hg]) dM) ?_;refine ay (qR t 2 3 (Xe.Xk<|fg av) (Xe.Xk<|lz t b3<|W0.qt<|aa t 0)<|by decide) ?_;refine ay (iu t<|Fw g (hl:=hl) (hb:=hb) (λq r=>[.val<|aD f,.val<|aD g,.val<|bu q,.val<|bu r,.un,.un,.un,.un,.un]) (λq r hr=>?_) (λq r e hq hr XB er eq ee=>?_) f.length [] f a rfl (by simpa using hf) ha (λx hx=>by cases hx) hab) ?_
 ·refine W5.eq (xg (bX t b2<|W0.ql<|aa t 3)<|bX t b2<|W0.qt<|aa t 1) ?_;rw[ab,ab];by_cases z:g.length<=r.length;·rw[aq z,aq<|by lia]
  ·rw[aj z,aj<|by lia]
 ·let⟨us0,ds0⟩:=Ci hl<|ax r;have us:=cb us0 hb.last;have dsm:=cb ds0 er.last;generalize hu:Gm g (ax r)=u at us;generalize hd:Gs g (ax r)=dn at dsm;refine W4.weak (W1:=[.val<|aD f,.val<|aD g,.val<|bu (dn::q.map λx=>u*x),.val<|bu<|iq g r,.val<|.int u,.val<|.int dn,.val<|.int ((r.length-g.length:Nat):Int),.un,.un]) ?_<|.keep<|.keep<|.keep<|.keep<|.forget<|.forget<|.forget<|.keep<|.keep .nil;refine ay (nG t (aX t cS (ai (aa t 3)<|ai (aa t 1) av) ⟨r,g,rfl,XB,hl,by rw[hu,hd]⟩)<|wt t<|fX (c9 t 4)<|fX (c9 t 5) sP) ?_;refine ay (df t 6<|W0.eq (cu (bX t b2<|W0.ql<|aa t 3)<|bX t b2<|W0.qt<|aa t 1) (show _=D.int ((r.length-g.length:Nat):Int)by rw[ab,ab];congr 1;lia)) ?_;refine ay (jJ (rs:=(r.map λx=>u*x).map D.int) t 3 ["f","g","quotient","rest","up","down","shift","power","","number"] (oU rfl) (gN<|aa t 3) (by rw[ab];exact gR<|by lia) λX' cx=>?_) ?_;·have t':=cx.at';exact W9.ints (λx=>u*x) (λx=>[.val<|aD f,.val<|aD g,.val<|bu q,.val<|bu r,.val<|.int u,.val<|.int dn,.val<|.int ((r.length-g.length:Nat):Int),.un,.un,.val<|.int x]) (λd hd=>aU t' 9) (λd hd e he=>aU t' 9) λd hd=>eh (aa t' 4 rfl) (aa t' 9 rfl)<|Pc us (er d hd) (by lia)<|by lia
  refine ay (ρ':=[.val<|aD f,.val<|aD g,.val<|bu q,.own<|(gz g (r.length-g.length) dn (r.map λx=>u*x) g.length).map D.int,.val<|.int u,.val<|.int dn,.val<|.int ((r.length-g.length:Nat):Int),.un,.un]) (gY t (De t b1<|aa t 1)<|Xc.Xl (λi=>[.val<|aD f,.val<|aD g,.val<|bu q,.own<|(gz g (r.length-g.length) dn (r.map λx=>u*x) i).map D.int,.val<|.int u,.val<|.int dn,.val<|.int ((r.length-g.length:Nat):Int),.un,.un]) (λi d hi=>?_) rfl ?_) ?_
  ·obtain⟨e',he,rfl⟩:=sO hi;rw[aw]at he;cases hy:g[i]? with
   |none=>rw[hy]at he;cases he
   |some y=>
   rw[hy]at he;cases he;have Yb:i<g.length:=(aG.mp hy).1;have ey:g.getD i 0=y:=by rw[ac,hy];rfl
   have hyb:=hb y<|bV hy;have hlen:(gz g (r.length-g.length) dn (r.map λx=>u*x) i).length=r.length:=by rw[gV,ab]
   have XQ:r.length-g.length+i<(gz g (r.length-g.length) dn (r.map λx=>u*x) i).length:=by lia
   refine⟨_,mv t 7 8,W4.weak (aM<|v4 (j:=r.length-g.length+i) (u:=(gz g (r.length-g.length) dn (r.map λx=>u*x) i).getD (r.length-g.length+i) 0) t 3 zn rfl (dj (aa t 6)<|aa t 7) ?_ ?_ (eh (aa t 5) (aa t 8)<|Pc dsm hyb (by lia)<|by lia) trivial) ?_⟩;·rw[ab];exact nQ (by lia) (by lia)<|by lia
   ·rw[aw,ac,am XQ];rfl
   ·rw[gz,iS,ey];exact .keep<|.keep<|.keep<|.keep<|.keep<|.keep<|.keep<|.forget<|.forget .nil
  ·rw[sM,ab]
  refine ay (ρ':=[.val<|aD f,.val<|aD g,.val<|bu q,.own<|(iq g r).map D.int,.val<|.int u,.val<|.int dn,.val<|.int ((r.length-g.length:Nat):Int),.un,.un]) (XX.eq (L0 t 3 rfl λz=>XB<|au<|by have:=bo List.length z;rw[ab,gV,ab]at this;exact this) ?_) ?_;·unfold iq;rw[List.map_dropLast,hu,hd];rfl
  refine ay (df t 2<|W0.eq (Xe.Xk<|Dd (Xe.Xk<|fg<|ai (aa t 5) av) (W0.eq (Xe.Xk (dR t ["f","g","quotient","rest","up","down","shift","power","","number"] (oU rfl) (gN<|aa t 2) (by rw[ab];exact gR<|by lia) λX' cx=>?_)) rfl) ?_)<|rfl)<|eL 3 rfl dM;·have t':=cx.at';exact W9.ints (λx=>u*x) (λx=>[.val<|aD f,.val<|aD g,.val<|bu q,.own<|(iq g r).map D.int,.val<|.int u,.val<|.int dn,.val<|.int ((r.length-g.length:Nat):Int),.un,.un,.val<|.int x]) (λd hd=>aU t' 9) (λd hd e he=>aU t' 9) λd hd=>eh (aa t' 4 rfl) (aa t' 9 rfl)<|Pc us (eq d hd) (by lia)<|by lia
  ·have:=gq;rw[ab,ab];show 1+q.length<=_;lia
 ·have l1:=EC g f.length [] f;have l2:=z6 g f.length f rfl;exact aM<|cp<|bH<|ai (aX t cR (ai (aa t 2) av) ⟨ED g f.length [] f,rfl,by simp at l1;lia,rfl⟩)<|ai (aX t cR (ai (aa t 3) av) ⟨lK g f.length f,rfl,by lia,rfl⟩) av
def KW(h:fA P w K mg base k wH sC X)(cL:Callee X "put_low" sU)(cD:Callee X "divided" wN):Go X wH sC wM:=by rintro ds d ⟨f,g,rfl,Xg,rfl⟩;have t:=h.at';have l2:=z6 g f.length f rfl;have l3:=fK<|lK g f.length f;have l4:=Xg.1;exact aM<|cp<|aX t cL (ai (bM (W0.qt<|aX t cD (ai (aa t 0)<|ai (aa t 1) av) ⟨f,g,rfl,Xg,rfl⟩) ak) av) ⟨bR<|lK g f.length f,rfl,by lia,j2<|dI _,rfl⟩
end
def jo(h:W2 f):W2 (cV f):=by rcases h with e |⟨ys,a,e,ha⟩;subst e;exact .inl rfl;subst e;rcases nh ys.length with z |z;have:ys=[]:=au z;subst this;exact .inl rfl;right;obtain⟨n,hn⟩:∃n,ys.length=n+1:=⟨ys.length-1,by lia⟩;refine⟨(List.range n).map λ(i:Nat)=>(1+i)*(ys++[a]).getD (1+i) 0,(1+n)*a,?_,cE (by lia) ha⟩;unfold cV;rw[show(ys++[a]).length-1=n+1 by simp[hn],eU,bj];congr 1;show[(1+n)*(ys++[a]).getD (1+n) 0]=_;rw[show 1+n=ys.length by lia,ac,aQ<|ao _,eI];rfl
def mD(f:az):(cV f).length=f.length-1:=by unfold cV;rw[ab,cY]
def Im(f g:az):W2 (br f g):=dI _
end My
namespace My
variable {α:Type}
variable {K:gS}
def Tn:Nat->Int×Int|0=>(1,0)|n+1=>(2*(Tn n).1+3*(Tn n).2,(Tn n).1+2*(Tn n).2)
abbrev pA(n:Nat):Int:=(Tn n).1
abbrev pB(n:Nat):Int:=(Tn n).2
def CM(n:Nat):pA (n+1)=2*pA n+3*pB n:=rfl
def CL(n:Nat):pB (n+1)=pA n+2*pB n:=rfl
theorem vd(m:Nat):∀n,pA (m+n)=pA m*pA n+3*(pB m*pB n)/\pB (m+n)=pA m*pB n+pB m*pA n|0=>by have e1:pA 0=1:=rfl;have e2:pB 0=0:=rfl;rw[Lb,e1,e2];constructor<;>grind|n+1=>by obtain⟨h1,h2⟩:=vd m n;rw[<-Gx,CM,CL,CM,CL,h1,h2];constructor<;>grind
theorem xP:∀n,pA n*pA n-3*(pB n*pB n)=1|0=>rfl|n+1=>by have h:=xP n;rw[CM,CL];grind
def Zp(q:Int)(n:Nat)(e:Int):Prop:=q ∣ pA n-e/\q ∣ pB n
def Zp.add(h:Zp q m e)(g:Zp q n d):Zp q (m+n) (e*d):=by
 obtain⟨⟨a,ha⟩,⟨b,hb⟩⟩:=h;obtain⟨⟨c,hc⟩,⟨f,hf⟩⟩:=g;obtain⟨h1,h2⟩:=vd m n;have ea:pA m=e+q*a:=by lia
 have ec:pA n=d+q*c:=by lia
 unfold Zp;rw[h1,h2,ea,ec,hb,hf];exact⟨⟨e*c+a*d+q*a*c+3*(q*b*f),by grind⟩,⟨(e+q*a)*f+b*(d+q*c),by grind⟩⟩
def Zp.zero(q:Int):Zp q 0 1:=⟨⟨0,by show(1:Int)-1=q*0;lia⟩,⟨0,by show(0:Int)=q*0;lia⟩⟩
theorem Zp.mul(h:Zp q n 1):∀t,Zp q (n*t) 1|0=>Zp.zero q|t+1=>by have:=(Zp.mul h t).add h;rwa[Nat.mul_succ]
def y9(M:Nat)(n:Nat):Nat->Nat:=Nat.rec (motive:=λ_=>Nat->Nat) (λs=>s) (λ_ ih s=>Nat.rec (motive:=λ_=>Nat) (ih 0) (λk _=>ih<|k+1)<|(s*s+(M-2))%M) n
def Kt(M n s:Nat):y9 M (n+1) s=y9 M n ((s*s+(M-2))%M):=by show Nat.rec (motive:=λ_=>Nat) (y9 M n 0) (λk _=>y9 M n<|k+1) ((s*s+(M-2))%M)=_;cases(s*s+(M-2))%M<;>rfl
theorem Je{M:Nat}(hM:2<=M):∀(n k s:Nat),(M:Int) ∣ 2*pA (2 ^ k)-(s:Int)->(M:Int) ∣ 2*pA (2 ^ (k+n))-(y9 M n s:Int)
 |0,k,s,h=>h
 |n+1,k,s,h=>by
  rw[Kt];have key:(M:Int) ∣ 2*pA (2 ^ (k+1))-(((s*s+(M-2))%M:Nat):Int):=by
   obtain⟨u,hu⟩:=h;have e1:2 ^ (k+1)=2 ^ k+2 ^ k:=by rw[iO];lia
   have e2:=(vd (2 ^ k)<|2 ^ k).1;have e3:=xP<|2 ^ k;rw[e1,e2];generalize pA (2 ^ k)=A at*;generalize pB (2 ^ k)=B at*;have e4:=Nat.div_add_mod (s*s+(M-2)) M;generalize(s*s+(M-2))%M=r at*;generalize(s*s+(M-2)) / M=w at*;have e5:((M*w+r:Nat):Int)=((s*s+(M-2):Nat):Int):=by rw[e4]
   have e6:M*w+r=s*s+M-2:=by rw[Int.natCast_add,Int.natCast_add,fC,fC,Qu hM]at e5;lia
   exact⟨2*A*u+u*s+w-1,by grind⟩
  have:=Je hM n (k+1) _ key;rwa[show k+(n+1)=k+1+n by lia]
theorem Wm:∀(n m:Nat)(f:Nat->Nat),(∀i,i<m->f i<n)->(∀i j,i<j->j<m->f i≠f j)->m<=n
 |0,m,f,h,_=>by rcases nh m with e |e;lia;have:=h 0 e;lia
 |n+1,0,f,_,_=>aJ _
 |n+1,m+1,f,h,inj=>by
  have:=Wm n m (λi=>if f i=n then f m else f i) (λi hi=>by
   have h1:=h i (by lia);have h2:=h m (by lia);have h3:=inj i m (by lia) (by lia);split<;>lia) (λi j Z1 hj=>by
   have h1:=inj i j Z1 (by lia);have h2:=inj i m (by lia) (by lia);have h3:=inj j m (by lia) (by lia);split<;>split<;>lia)
  lia
def ML:∀(n:Nat),0<n->∃k m,n=2 ^ k*(2*m+1):=by intro n;induction n using Nat.strongRecOn with|ind n ih=>intro hn;by_cases h:n%2=1;exact⟨0,n / 2,by lia⟩;obtain⟨k,m,e⟩:=ih (n / 2) (by lia) (by lia);exact⟨k+1,m,by rw[iO,fS (2 ^ k) 2,qA,<-e];lia⟩
def BE{q x y:Int}(h:x%q=y%q):q ∣ x-y:=nq<|by rw[Int.sub_emod,h,Wc];simp
def qZ{p:Nat}(hp:3<=p)(h:y9 (2 ^ p-1) (p-2) 4=0):∀q:Nat,1<q->q ∣ 2 ^ p-1->¬q*q<=2 ^ p-1:=by
 intro q hq hd hle;have hP:8<=2 ^ p:=by have:2 ^ 3<=2 ^ p:=ba (by decide) hp;exact this
 have zNX:q%2=1:=by
  rcases(by lia:q%2=1\/q%2=0)with e |e;exact e;obtain⟨c,hc⟩:=hd;have h2:2 ^ p=2*2 ^ (p-1):=by rw[<-Nat.pow_succ'];congr 1;lia
  have h3:q=2*(q / 2):=by lia
  rw[h3,qA]at hc;lia
 have hs:=Je (M:=2 ^ p-1) (by lia) (p-2) 0 4 ⟨0,by rw[aO];rfl⟩;rw[h,fh]at hs;have hdI:=Int.ofNat_dvd.mpr hd;have hA2:(q:Int) ∣ 2*pA (2 ^ (p-2)):=by have:=Int.dvd_trans hdI hs;simpa using this
 have hm:Zp q (2 ^ (p-1)) (-1):=by
  have e1:2 ^ (p-1)=2 ^ (p-2)+2 ^ (p-2):=by rw[show p-1=(p-2)+1 by lia,iO];lia
  obtain⟨h1,h2⟩:=vd (2 ^ (p-2))<|2 ^ (p-2);have e3:=xP<|2 ^ (p-2);obtain⟨u,hu⟩:=hA2;unfold Zp;rw[e1,h1,h2];generalize pA (2 ^ (p-2))=A at*;generalize pB (2 ^ (p-2))=B at*;refine⟨⟨A*u,by grind⟩,⟨B*u,by grind⟩⟩
 have two:¬(q:Int) ∣ 2:=λz=>by
  obtain⟨c,hc⟩:=z;have:c=1\/c=2\/c<=0\/3<=c:=by lia
  rcases We c 1 with l |l;have:q*c<=0:=Int.mul_nonpos_of_nonneg_of_nonpos (by lia) (by lia);lia;have:q*1<=q*c:=qE l (by lia);lia
 have none:∀n,0<n->n<2 ^ p->¬Zp q n 1:=by
  intro n h0 hn h1;obtain⟨k,m,e⟩:=ML n h0;have hk:k<p:=by rcases bA k p with z |z;exact z;have a:=ba (show 0<2 by decide) z;have b:2 ^ k*1<=2 ^ k*(2*m+1):=cc _ (by lia);lia
  have g1:=h1.mul<|2 ^ (p-1-k);have g2:n*2 ^ (p-1-k)=2 ^ (p-1)*2*m+2 ^ (p-1):=by
   have:2 ^ k*2 ^ (p-1-k)=2 ^ (p-1):=by rw[<-qD];congr 1;lia
   rw[e,fS<|2 ^ k,qA,this];rw[nj,Oj,fS,qA]
  have g3:Zp q (2 ^ (p-1)*2) 1:=by have:=hm.add hm;rwa[Nat.mul_two]
  have g4:=(g3.mul m).add hm;rw[<-g2]at g4;obtain⟨⟨a,ha⟩,_⟩:=g1;obtain⟨⟨b,hb⟩,_⟩:=g4;exact two ⟨b-a,by grind⟩
 have hqp:0<(q:Int):=by lia
 have fin:=Wm (q*q) (2 ^ p) (λi=>(pA i%q).toNat*q+(pB i%q).toNat) (λi _=>by
  have a1:=bO (pA i) (show(q:Int)≠0 by lia);have a2:=bK (pA i) hqp;have b1:=bO (pB i) (show(q:Int)≠0 by lia);have b2:=bK (pB i) hqp;have c1:(pA i%q).toNat+1<=q:=by lia
  have c3:=bF q c1;rw[nj]at c3;lia) (λi j Z1 hj e=>by
  have a1:=bO (pA i) (show(q:Int)≠0 by lia);have b1:=bO (pB i) (show(q:Int)≠0 by lia);have b2:=bK (pB i) hqp;have a3:=bO (pA j) (show(q:Int)≠0 by lia);have b3:=bO (pB j) (show(q:Int)≠0 by lia);have b4:=bK (pB j) hqp;have e':(pA i%(q:Int)).toNat*q+(pB i%(q:Int)).toNat=(pA j%(q:Int)).toNat*q+(pB j%(q:Int)).toNat:=e;have eb:(pB i%(q:Int)).toNat=(pB j%(q:Int)).toNat:=by have:=bo (·%q) e';simp only[Nat.mul_add_mod_self_right]at this;rw[Nat.mod_eq_of_lt<|by lia,Nat.mod_eq_of_lt<|by lia]at this;exact this
  have ea:(pA i%(q:Int)).toNat=(pA j%(q:Int)).toNat:=by rw[eb]at e';exact Nat.eq_of_mul_eq_mul_right (by lia)<|Nat.add_right_cancel e'
  have dA:=BE (show pA j%(q:Int)=pA i%(q:Int)by lia);have dB:=BE (show pB j%(q:Int)=pB i%(q:Int)by lia);refine none (j-i) (by lia) (by lia) ?_;obtain⟨h1,h2⟩:=vd i (j-i);rw[show i+(j-i)=j by lia]at h1 h2;have o:=xP i;obtain⟨u,hu⟩:=dA;obtain⟨v,hv⟩:=dB;unfold Zp;generalize pA i=a at*;generalize pB i=b at*;generalize pA (j-i)=c at*;generalize pB (j-i)=d at*;generalize pA j=x at*;generalize pB j=y at*;refine⟨⟨a*u-3*(b*v),by grind⟩,⟨a*v-b*u,by grind⟩⟩)
 lia
end My
set_option exponentiation.threshold 5000
namespace My
variable {α:Type}
variable {K:gS}
def Uh:y9 (2 ^ 61-1) (61-2) 4=0:=rfl
def Sa:y9 (2 ^ 127-1) (127-2) 4=0:=rfl
def R8:y9 (2 ^ 521-1) (521-2) 4=0:=rfl
def Po:y9 (2 ^ 1279-1) (1279-2) 4=0:=rfl
def Pn:y9 (2 ^ 4423-1) (4423-2) 4=0:=rfl
end My
namespace My
variable {α:Type}
variable {K:gS}
structure Yo(P:Nat):Prop where
 two:2<=P
 no:∀d,d ∣ P->d=1\/d=P
def yW{P:Nat}(h2:2<=P)(h:∀q:Nat,1<q->q ∣ P->¬q*q<=P):Yo P:=⟨h2,λd hd=>by
 rcases bA 1 d with h1 |h1;right;obtain⟨e,he⟩:=hd;rcases bA 1 e with g1 |g1;exfalso;rcases Nat.le_total d e with l |l;exact h d h1 ⟨e,he⟩ (by rw[he];exact cc _ l);exact h e g1 ⟨d,by rw[he,fS]⟩ (by rw[he];exact bF _ l);have:e=0\/e=1:=by lia
 rcases this with z |z;rw[z]at he;lia;rw[z]at he;lia;have:d=0\/d=1:=by lia
 rcases this with z |z;subst z;obtain⟨e,he⟩:=hd;lia;exact .inl z⟩
def RC:Yo (2 ^ 61-1):=yW (by decide)<|qZ (by decide) Uh
def OY:Yo (2 ^ 127-1):=yW (by decide)<|qZ (by decide) Sa
def SX{p:Nat}(h:3<=p):2<=2 ^ p-1:=by have:2 ^ 3<=2 ^ p:=ba (by decide) h;lia
def OX:Yo (2 ^ 521-1):=yW (SX<|by decide)<|qZ (by decide) R8
def Mt:Yo (2 ^ 1279-1):=yW (SX<|by decide)<|qZ (by decide) Po
def Ms:Yo (2 ^ 4423-1):=yW (SX<|by decide)<|qZ (by decide) Pn
def Yo.zGX{a b:Nat}(h:Yo P)(hd:P ∣ a*b):P ∣ a\/P ∣ b:=by rcases h.no (Nat.gcd P a) (gx P a)with e |e;exact .inr<|Nat.Coprime.dvd_of_dvd_mul_left e hd;left;have:=gJ P a;rw[e]at this;exact this
def Yo.mul{a b:Int}(h:Yo P)(hd:(P:Int) ∣ a*b):(P:Int) ∣ a\/(P:Int) ∣ b:=by
 have h1:P ∣ a.natAbs*b.natAbs:=by rw[<-dQ];exact c8.mp hd
 rcases h.zGX h1 with q |q;exact .inl<|c8.mpr q;exact .inr<|c8.mpr q
def Yo.X0(h:Yo P)(ha:¬(P:Int) ∣ a)(hb:¬(P:Int) ∣ b):¬(P:Int) ∣ a*b:=λz=>(h.mul z).elim ha hb
def zo:Nat->Int->Int->Int->Int->Int|0,_,_,_,v=>v|n+1,a,b,u,v=>if 1<b then zo n b (a-a / b*b) v (u-a / b*v)else v
theorem M3{x:Int}:∀(n:Nat)(a b u v:Int),b.toNat<=n->0<=b->P ∣ a-u*x->P ∣ b-v*x->Int.gcd a b=1->P ∣ 1-zo n a b u v*x\/(b=0/\a.natAbs=1)
 |0,a,b,u,v,hn,h0,_,hb,hg=>by
  have e:b=0:=by lia
  right;refine⟨e,?_⟩;rw[e,Int.gcd_zero_right]at hg;exact hg
 |n+1,a,b,u,v,hn,h0,ha,hb,hg=>by
  unfold zo;by_cases h1:1<b;rw[ag h1];have er:a-a / b*b=a%b:=by have:=iC a b;rw[dO]at this;lia
  have r0:=bO a (show b≠0 by lia);have r1:=bK a (show 0<b by lia);have ih:=M3 n b (a-a / b*b) v (u-a / b*v) (by lia) (by lia) hb (by
   obtain⟨c,hc⟩:=ha;obtain⟨d,hd⟩:=hb;exact⟨c-a / b*d,by grind⟩) (by
   rwa[Int.gcd_sub_mul_right_right,Int.gcd_comm])
  rcases ih with q |⟨q1,q2⟩;exact .inl q;lia;rw[af h1];have:b=0\/b=1:=by lia
  rcases this with e |e;right;refine⟨e,?_⟩;rw[e,Int.gcd_zero_right]at hg;exact hg;left;rw[e]at hb;exact hb
end My
set_option exponentiation.threshold 256
namespace My
open PySem PySem.W L2 L2.EV PyProof.Rows
variable {α:Type}
variable {K:gS}
def Fs(φ:Nat->Int):Prop:=∃N,∀i,N<=i->φ i=0
def Dv(s:az)(F:Nat->Int):Prop:=∃(c:Int)(φ:Nat->Int),c≠0/\Fs φ/\∀i,c*F i=cm s φ i
def HG(s:az)(φ ψ:Nat->Int)(i:Nat):cm s (λk=>φ k+ψ k) i=cm s φ i+cm s ψ i:=u8 s φ ψ i s.length
def j9(s:az)(c:Int)(φ:Nat->Int)(i:Nat):cm s (λk=>c*φ k) i=c*cm s φ i:=jY s c φ i s.length
def z9(s:az)(k:Nat)(φ:Nat->Int)(i:Nat):cm s (λi=>if k<=i then φ (i-k)else 0) i=if k<=i then cm s φ (i-k)else 0:=v6 s k φ i s.length
def Fs.add{φ ψ:Nat->Int}(h:Fs φ)(g:Fs ψ):Fs (λk=>φ k+ψ k):=by obtain⟨N,hN⟩:=h;obtain⟨M,hM⟩:=g;exact⟨max N M,λi hi=>by show φ i+ψ i=0;rw[hN i<|by lia,hM i<|by lia];rfl⟩
def Fs.Zz{φ:Nat->Int}(h:Fs φ)(c:Int):Fs (λk=>c*φ k):=by let⟨N,hN⟩:=h;exact⟨N,λi hi=>by show c*φ i=0;rw[hN i hi,aO]⟩
def Fs.shift{φ:Nat->Int}(h:Fs φ)(k:Nat):Fs (λi=>if k<=i then φ (i-k)else 0):=by let⟨N,hN⟩:=h;refine⟨N+k,λi hi=>?_⟩;show(if k<=i then φ (i-k)else 0)=0;rw[ag<|by lia,hN _<|by lia]
def Dv.add{F G:Nat->Int}(h:Dv s F)(g:Dv s G):Dv s (λi=>F i+G i):=by obtain⟨c,φ,hc,fφ,e⟩:=h;obtain⟨d,ψ,hd,fψ,e'⟩:=g;refine⟨c*d,λk=>d*φ k+c*ψ k,cE hc hd,(fφ.Zz d).add<|fψ.Zz c,λi=>?_⟩;rw[HG,j9,j9,<-e i,<-e' i];grind
def Dv.Zz{F:Nat->Int}(h:Dv s F)(a:Int):Dv s (λi=>a*F i):=by let⟨c,φ,hc,fφ,e⟩:=h;refine⟨c,λk=>a*φ k,hc,fφ.Zz a,λi=>?_⟩;rw[j9,<-e i];grind
def Dv.zB0{a:Int}{F:Nat->Int}(ha:a≠0)(h:Dv s (λi=>a*F i)):Dv s F:=by obtain⟨c,φ,hc,fφ,e⟩:=h;refine⟨c*a,φ,cE hc ha,fφ,λi=>?_⟩;rw[<-e i,dG]
def Dv.shift{F:Nat->Int}(h:Dv s F)(k:Nat):Dv s (λi=>if k<=i then F (i-k)else 0):=by let⟨c,φ,hc,fφ,e⟩:=h;refine⟨c,λi=>if k<=i then φ (i-k)else 0,hc,fφ.shift k,λi=>?_⟩;rw[z9];show c*(if k<=i then F (i-k)else 0)=_;split;exact e _;rw[aO]
def Dv.eq{F G:Nat->Int}(h:Dv s F)(e:∀i,F i=G i):Dv s G:=by rwa[<-funext e]
def Dv.sim{F G:Nat->Int}(h:Dv s F)(g:Xy F G):Dv s G:=by let⟨a,b,ha,hb,e⟩:=g;exact Dv.zB0 hb<|(h.Zz a).eq e
def Dv.zero(s:az):Dv s (λ_=>0):=⟨1,λ_=>0,by decide,⟨0,λ_ _=>rfl⟩,λi=>by have:=j9 s 0 (λ_=>0) i;simp only[dL]at this;rw[this];rfl⟩
def Dv.self(s:az):Dv s (co s):=⟨1,λk=>if k=0 then 1 else 0,by decide,⟨1,λi hi=>af<|by lia⟩,λi=>by show 1*s.getD i 0=mq s (λk=>if k=0 then 1 else 0) i s.length;rw[oH,bS];by_cases h:i<s.length;rw[ag ⟨aJ _,by lia⟩,jG];rw[af<|by lia,bn<|by lia]⟩
def Dv.step{g:az}(hl:ax g≠0)(hg:Dv s (co g)){S:Nat->Int}(h:Dv s (fw g n S)):Dv s S:=by have h1:=(hg.shift<|n+1-g.length).Zz<|S n*ax g;refine Dv.zB0 (cE hl hl) ((h.add h1).eq λi=>?_);show(S i*ax g*ax g-(if n+1-g.length<=i then S n*ax g*g.getD (i-(n+1-g.length)) 0 else 0))+S n*ax g*(if n+1-g.length<=i then g.getD (i-(n+1-g.length)) 0 else 0)=_;split<;>grind
theorem Dv.left{g:az}(hl:ax g≠0)(hg:Dv s (co g)):∀(n:Nat)(S:Nat->Int),Dv s (dN g n S)->Dv s S
 |0,S,h=>h
 |n+1,S,h=>by
  by_cases q:n+1<g.length;have e:dN g (n+1) S=S:=by show(if n+1<g.length then S else _)=S;rw[ag q]
  rw[e]at h;exact h;have e:dN g (n+1) S=dN g n (fw g n S):=by show(if n+1<g.length then S else _)=_;rw[af q]
  rw[e]at h;exact Dv.step hl hg<|Dv.left hl hg n _ h
theorem Iz:∀(n:Nat)(f g:az),g.length<=n->W2 g->Dv (sh f g) (co f)/\Dv (sh f g) (co g)
 |n,f,[],_,_=>⟨Dv.self f,Dv.zero f⟩|0,f,a::g,h,_=>by simp at h
 |n+1,f,a::g,h,rg=>by
  have hg:(a::g)≠[]:=by simp
  have hl:=cz rg hg;have hr:=jq (f:=f) hg;obtain⟨h1,h2⟩:=Iz n (a::g) (fG f<|a::g) (by lia)<|mM _ _;rw[nv hg];exact⟨Dv.left hl h1 f.length _<|h2.sim<|BG hl,h1⟩
def SR(s:az){φ:Nat->Int}(h:∀i,P ∣ φ i)(i:Nat):P ∣ cm s φ i:=by
 have key:∀k,P ∣ mq s φ i k:=by intro k;induction k with|zero=>exact⟨0,by show(0:Int)=P*0;lia⟩|succ k ih=>refine Int.dvd_add ih ?_;split;exact Int.dvd_mul_of_dvd_right<|h _;rw[aO];exact⟨0,by lia⟩
 exact key _
def ZN{s:az}{j t:Nat}{φ:Nat->Int}(hj:j<s.length)(hs:∀k,j<k->P ∣ s.getD k 0)(hφ:∀k,t<k->P ∣ φ k):P ∣ cm s φ (j+t)-s.getD j 0*φ t:=by
 have key:∀k,P ∣ mq s φ (j+t) k-(if j<k then s.getD j 0*φ t else 0):=by intro k;induction k with|zero=>exact⟨0,by show(0:Int)-_=P*0;rw[af<|by lia];lia⟩|succ k ih=>show P ∣ mq s φ (j+t) k+s.getD k 0*(if k<=j+t then φ (j+t-k)else 0)-(if j<k+1 then s.getD j 0*φ t else 0);rcases fT k j with q |q |q;rw[af<|by lia]at ih;rw[af (show¬j<k+1 by lia),ag<|by lia];obtain⟨a,ha⟩:=ih;obtain⟨b,hb⟩:=hφ (j+t-k) (by lia);exact⟨a+s.getD k 0*b,by rw[hb];grind⟩;subst q;rw[af<|by lia]at ih;rw[ag<|by lia,ag<|by lia,show k+t-k=t by lia];obtain⟨a,ha⟩:=ih;exact⟨a,by grind⟩;rw[ag q]at ih;rw[ag (show j<k+1 by lia)];obtain⟨a,ha⟩:=ih;obtain⟨b,hb⟩:=hs k q;exact⟨a+b*(if k<=j+t then φ (j+t-k)else 0),by rw[hb];grind⟩
 have:=key s.length;rw[ag hj]at this;exact this
theorem vt{φ:Nat->Int}:∀(N:Nat),(∀i,N<=i->P ∣ φ i)->(∀i,P ∣ φ i)\/∃t,¬P ∣ φ t/\∀k,t<k->P ∣ φ k
 |0,h=>.inl λi=>h i<|aJ _
 |N+1,h=>by
  by_cases q:P ∣ φ N;exact vt N λi hi=>by rcases H9 hi with e |e;rwa[<-e];exact h i e
  exact .inr ⟨N,q,λk hk=>h k hk⟩
def Fs.dvd{φ:Nat->Int}(h:Fs φ)(P:Int):∃N,∀i,N<=i->P ∣ φ i:=by let⟨N,hN⟩:=h;exact⟨N,λi hi=>by rw[hN i hi];exact⟨0,by lia⟩⟩
def M8{s:az}(hP:Yo P){φ:Nat->Int}(fφ:Fs φ)(hs:∃k,¬(P:Int) ∣ s.getD k 0)(h:∀i,(P:Int) ∣ cm s φ i):∀i,(P:Int) ∣ φ i:=by
 obtain⟨N,hN⟩:=fφ.dvd P;rcases vt N hN with q |⟨t,ht,hk⟩;exact q;exfalso;have hs':∀i,s.length<=i->(P:Int) ∣ s.getD i 0:=λi hi=>by rw[bn hi];exact⟨0,by lia⟩
 rcases vt s.length hs' with q |⟨j,hj,hjk⟩;obtain⟨k,Z0⟩:=hs;exact Z0<|q k;have hjl:j<s.length:=by rcases bA j s.length with z |z;exact z;exact absurd (hs' j z) hj
 obtain⟨a,ha⟩:=ZN hjl hjk hk;obtain⟨b,hb⟩:=h<|j+t;exact hP.X0 hj ht ⟨b-a,by grind⟩
theorem Df{s:az}(hP:Yo P)(hs:∃k,¬(P:Int) ∣ s.getD k 0){F:Nat->Int}:∀(n:Nat)(c:Int)(φ:Nat->Int),c.natAbs<=n->c≠0->Fs φ->(∀i,c*F i=cm s φ i)->∃(c:Int)(φ:Nat->Int),¬(P:Int) ∣ c/\Fs φ/\∀i,c*F i=cm s φ i
 |0,c,φ,h,h0,_,_=>by lia
 |n+1,c,φ,h,h0,fφ,e=>by
  by_cases q:(P:Int) ∣ c;obtain⟨d,hd⟩:=q;have hφ:=M8 hP fφ hs λi=>⟨d*F i,by rw[<-e i,hd,dG]⟩;have p2:=hP.two;have Z7:d≠0:=λz=>h0 (by rw[hd,z,aO]);have XQ:d.natAbs<c.natAbs:=by
   rw[hd,dQ,eR];have:1<=d.natAbs:=by lia
   have:=bF d.natAbs p2;lia
  have eφ:∀i,φ i=P*(φ i / P):=λi=>(qF<|hφ i).symm;obtain⟨N,hN⟩:=fφ;refine Df hP hs n d (λi=>φ i / P) (by lia) Z7 ⟨N,λi hi=>by show φ i / (P:Int)=0;rw[hN i hi];simp⟩ λi=>?_;have h1:=e i;rw[show φ=λi=>P*(φ i / P)from funext eφ,j9,hd,dG]at h1;exact fZ (by lia) h1;exact⟨c,φ,q,fφ,e⟩
def Yu(P:Int)(s:az)(F:Nat->Int):Prop:=∃(c:Int)(φ:Nat->Int),¬P ∣ c/\Fs φ/\∀i,P ∣ c*F i-cm s φ i
def Yu.add(hP:Yo P){F G:Nat->Int}(h:Yu P s F)(g:Yu P s G):Yu P s (λi=>F i+G i):=by obtain⟨c,φ,hc,fφ,e⟩:=h;obtain⟨d,ψ,hd,fψ,e'⟩:=g;refine⟨c*d,λk=>d*φ k+c*ψ k,hP.X0 hc hd,(fφ.Zz d).add<|fψ.Zz c,λi=>?_⟩;rw[HG,j9,j9];obtain⟨a,ha⟩:=e i;obtain⟨b,hb⟩:=e' i;exact⟨d*a+c*b,by grind⟩
def Yu.Zz{F:Nat->Int}(h:Yu P s F)(a:Int):Yu P s (λi=>a*F i):=by obtain⟨c,φ,hc,fφ,e⟩:=h;refine⟨c,λk=>a*φ k,hc,fφ.Zz a,λi=>?_⟩;rw[j9];obtain⟨b,hb⟩:=e i;exact⟨a*b,by grind⟩
def Yu.shift{F:Nat->Int}(h:Yu P s F)(k:Nat):Yu P s (λi=>if k<=i then F (i-k)else 0):=by let⟨c,φ,hc,fφ,e⟩:=h;refine⟨c,λi=>if k<=i then φ (i-k)else 0,hc,fφ.shift k,λi=>?_⟩;rw[z9];show P ∣ c*(if k<=i then F (i-k)else 0)-_;split;exact e _;exact⟨0,by lia⟩
def Yu.mod{F G:Nat->Int}(h:Yu P s F)(g:∀i,P ∣ F i-G i):Yu P s G:=by obtain⟨c,φ,hc,fφ,e⟩:=h;refine⟨c,φ,hc,fφ,λi=>?_⟩;obtain⟨a,ha⟩:=e i;obtain⟨b,hb⟩:=g i;exact⟨a-c*b,by grind⟩
def Yu.len{d:az}(hP:Yo P)(hs:¬(P:Int) ∣ ax s)(hn:d≠[])(hd:¬(P:Int) ∣ ax d)(h:Yu P s (co d)):s.length<=d.length:=by
 obtain⟨c,φ,hc,fφ,e⟩:=h;rcases bA d.length s.length with q |q;exfalso;have hsn:s≠[]:=λz=>by rw[z]at q;simp at q
 obtain⟨N,hN⟩:=fφ.dvd P;rcases vt N hN with z |⟨t,ht,hk⟩;obtain⟨a,ha⟩:=e<|d.length-1;obtain⟨b,hb⟩:=SR s z<|d.length-1;have el:co d (d.length-1)=ax d:=dy hn;rw[el]at ha;exact hP.X0 hc hd ⟨a+b,by grind⟩;have el:=dy hsn;have hsl:s.length-1<s.length:=by lia
 obtain⟨a,ha⟩:=ZN hsl (λk hk=>by rw[bn<|by lia];exact⟨0,by lia⟩) hk;obtain⟨b,hb⟩:=e<|s.length-1+t;have ez:co d (s.length-1+t)=0:=bn (by lia);rw[ez]at hb;rw[el]at ha;exact hP.X0 hs ht ⟨-(a+b),by grind⟩;exact q
theorem EJ{s s':az}{a b:Int}(h:∀i,a*s'.getD i 0=b*s.getD i 0)(φ:Nat->Int)(p:Nat):∀k,a*mq s' φ p k=b*mq s φ p k|0=>by show a*0=b*0;lia|k+1=>by show a*(mq s' φ p k+s'.getD k 0*(if k<=p then φ (p-k)else 0))=b*(mq s φ p k+s.getD k 0*(if k<=p then φ (p-k)else 0));have h1:=EJ h φ p k;have h2:=h k;generalize(if k<=p then φ (p-k)else 0)=y;rw[vQ,vQ,h1,<-dG,<-dG,h2]
def Dv.list{s:az}{F:Nat->Int}(h:Dv s' F)(hl:s'.length=s.length)(hs:Xy (co s') (co s)):Dv s F:=by
 let⟨c,φ,hc,fφ,e⟩:=h;let⟨a,b,ha,hb,q⟩:=hs;refine⟨c*a,λk=>b*φ k,cE hc ha,fφ.Zz b,λi=>?_⟩;rw[j9];have h1:=EJ q φ i s.length;have h2:=e i;have h3:a*cm s' φ i=b*cm s φ i:=by show a*mq s' φ i s'.length=b*mq s φ i s.length;rwa[hl]
 rw[<-h3,<-h2];grind
def Sr(f:az)(h:∀x∈f,d ∣ x.natAbs):d ∣ gl f:=by
 have key:∀(l:az)a,d ∣ a->(∀x∈l,d ∣ x.natAbs)->d ∣ l.foldl (λg x=>Nat.gcd g x.natAbs) a:=by intro l;induction l with|nil=>intro a ha _;exact ha|cons b l ih=>intro a ha hl;exact ih _ (Nat.dvd_gcd ha<|hl b<|by simp) λx hx=>hl x<|by simp[hx]
 exact key f 0 (Nat.dvd_zero d) h
def C4{f:az}{x:Int}(hx:x∈f):gl f ∣ x.natAbs:=by
 have key:∀(l:az)a,(l.foldl (λg x=>Nat.gcd g x.natAbs) a) ∣ a/\∀z∈l,(l.foldl (λg x=>Nat.gcd g x.natAbs) a) ∣ z.natAbs:=by intro l;induction l with|nil=>intro a;exact⟨Az _,λ_ h=>(nomatch h)⟩|cons b l ih=>intro a;obtain⟨k1,k2⟩:=ih<|Nat.gcd a b.natAbs;rw[rZ];refine⟨il k1<|gx _ _,λz hz=>?_⟩;rcases aF.mp hz with e |hz;subst e;exact il k1<|gJ _ _;exact k2 z hz
 exact(key f 0).2 x hx
def E8{P:Nat}{f:az}(h2:2<=P)(hg:gl f≠0):∃k,¬(P:Int) ∣ (ga f).getD k 0:=by
 apply bz;intro hn;have Yt:∀x∈f,P*gl f ∣ x.natAbs:=λx hx=>by
  obtain⟨k,hk,rfl⟩:=eE hx;have h1:=bz λz=>hn ⟨k,z⟩;have e:(ga f).getD k 0=(f[k]).fdiv (gl f:Int):=by unfold ga;rw[ac,aw,am hk];rfl
  rw[e,uy _<|by lia]at h1;have hd:=c8.mpr<|C4 hx;obtain⟨c,hc⟩:=h1;have e2:=qF hd;rw[hc]at e2;refine c8.mp ⟨c,?_⟩;rw[<-e2,fC];grind
 have h3:=Sr f Yt;have h4:P*gl f<=gl f:=UR (by lia) h3;have h5:2*gl f<=P*gl f:=bF _ h2;lia
def Kz{s f:az}(hP:Yo P)(hs:s≠[])(hf:f≠[])(ls:ax s≠0)(lf:¬(P:Int) ∣ ax f){φ:Nat->Int}(hc:¬(P:Int) ∣ c)(fφ:Fs φ)(e:∀i,c*co f i=cm s φ i):¬(P:Int) ∣ ax s:=by
 have top:(∀i,φ i=0)\/∃t,φ t≠0/\∀k,t<k->φ k=0:=by
  let⟨N,hN⟩:=fφ;induction N with
  |zero=>exact .inl λi=>hN i<|aJ _
  |succ N ih=>
   by_cases q:φ N=0;exact ih λi hi=>by rcases H9 hi with z |z;rwa[<-z];exact hN i z
   exact .inr ⟨N,q,λk hk=>hN k hk⟩
 have el:co f (f.length-1)=ax f:=dy hf;have nz:c*ax f≠0:=λz=>by
  have h1:(P:Int) ∣ c*ax f:=by rw[z];exact⟨0,by lia⟩
  exact hP.X0 hc lf h1
 have h0:=e<|f.length-1;rw[el]at h0;rcases top with z |⟨t,ht,hk⟩;exfalso;refine nz ?_;rw[h0];exact u6 s φ (f.length-1) 0 (λi _=>z i) 0 (aJ _)|>λ_=>by
  have:∀k,mq s φ (f.length-1) k=0:=by intro k;induction k with|zero=>rfl|succ k ih=>show mq s φ _ k+s.getD k 0*(if k<=_ then φ _ else 0)=0;rw[ih];split;rw[z];lia;lia
  exact this _
 have h1:=e<|t+(s.length-1);rw[HF hs φ t hk]at h1;have h2:=cE ls ht;have le1:t+(s.length-1)<=f.length-1:=by rcases bA (f.length-1) (t+(s.length-1))with q |q;exfalso;have:co f (t+(s.length-1))=0:=bn (by lia);rw[this,aO]at h1;exact h2 h1.symm;exact q
 have le2:f.length-1<=t+(s.length-1):=by rcases bA (t+(s.length-1)) (f.length-1)with q |q;exfalso;have:cm s φ (f.length-1)=0:=u6 s φ (f.length-1) t hk s.length (by lia);rw[this]at h0;exact nz h0;exact q
 have e3:t+(s.length-1)=f.length-1:=by lia
 rw[e3,el]at h1;intro z;refine hP.X0 hc lf ?_;rw[h1];exact Int.dvd_mul_of_dvd_left z
def GS{d:az}(hP:Yo P)(rf:W2 f)(rg:W2 g)(hf:f≠[])(lf:¬(P:Int) ∣ ax f)(hd:d≠[])(ld:¬(P:Int) ∣ ax d)(h:∀s,Yu P s (co f)->Yu P s (co g)->Yu P s (co d)):(sh f g).length<=d.length:=by
 have hk:=oC rf rg;obtain⟨d1,d2⟩:=Iz g.length f g (ao _) rg;have hsn:sh f g≠[]:=λz=>by obtain⟨c,φ,hc,fφ,e⟩:=d1;have el:co f (f.length-1)=ax f:=dy hf;have h0:=e<|f.length-1;rw[z,el]at h0;have h1:=h0;rcases eV.mp h1 with q |q;exact hc q;exact lf<|by rw[q];exact⟨0,by lia⟩
 have hg0:=j2 hk hsn;have ll:=oM<|sh f g;have hs:ga (sh f g)≠[]:=λz=>by rw[z]at ll;exact hsn<|au ll.symm
 have fr:=E8 hP.two hg0;obtain⟨c1,φ1,Zg,f1,e1⟩:=d1.list ll.symm<|y8 _ hk;obtain⟨c2,φ2,ZR,f2,e2⟩:=d2.list ll.symm<|y8 _ hk;obtain⟨a1,ψ1,ha1,g1,k1⟩:=Df hP fr c1.natAbs c1 φ1 (ao _) Zg f1 e1;obtain⟨a2,ψ2,ha2,g2,k2⟩:=Df hP fr c2.natAbs c2 φ2 (ao _) ZR f2 e2;have ls:=Kz hP hs hf (vj hk hsn) lf ha1 g1 k1;have m1:Yu P (ga<|sh f g) (co f):=⟨a1,ψ1,ha1,g1,λi=>by rw[k1 i];exact⟨0,by lia⟩⟩;have m2:Yu P (ga<|sh f g) (co g):=⟨a2,ψ2,ha2,g2,λi=>by rw[k2 i];exact⟨0,by lia⟩⟩;have:=Yu.len hP ls hd ld<|h _ m1 m2;rw[ll]at this;exact this
def J9{f g:az}(ru:W2 u)(rv:W2 v)(rr:W2 r)(hr:r≠[])(ef:f=br u r)(eg:g=br v r)(hfn:sh f g≠[])(hl:(sh f g).length<=r.length):bh (sh f g)=bh r:=by
 have h1:=Ep rr hr v.length u v (ao _) rv;rw[<-ef,<-eg]at h1;have k1:W2 (sh f g):=by rw[ef,eg];exact oC (dI _)<|dI _
 have k2:=oC ru rv;have hn:sh u v≠[]:=λz=>by rw[z,su]at h1;have:=sA k1 (.inl rfl) h1;exact hfn<|au this
 have h2:(sh f g).length=(br (sh u v) r).length:=sA k1 (dI _) h1;have h3:=(i6 k2 rr hn hr).1;rw[h3]at h2;have hnp:=ar.mpr hn;have h4:(sh u v).length=1:=by lia
 obtain⟨a,ha⟩:∃a,sh u v=[a]:=Wb.mp h4;have ha0:a≠0:=by have:=cz k2 hn;rw[ha]at this;exact this
 refine jc k1 rr<|h1.trans ?_;refine Xy.scale ha0 λi=>?_;rw[ha];have:=iN (tL [a] r) i;rw[show br [a] r=br r [a]from yf _ _];have h5:=iN (tL r [a]) i;show(br r [a]).getD i 0=a*r.getD i 0;have h6:(br r [a]).getD i 0=cm [a] (co r) i:=h5;rw[h6];show 0+a*(if 0<=i then co r (i-0)else 0)=_;rw[ag<|aJ _,jG,fB]
def xq(P x:Int):Int:=zo (x%P).toNat P (x%P) 0 1%P
def Pw(hP:Yo P)(hx:¬(P:Int) ∣ x):(P:Int) ∣ 1-xq P x*x:=by
 have p2:=hP.two;have hPp:0<P:=by lia
 have r0:=bO x (show(P:Int)≠0 by lia);have Yw:¬(P:Int) ∣ x%P:=λz=>hx<|nq<|by have:=Vh z;rw[Int.emod_emod_of_dvd x<|Int.dvd_refl _]at this;exact this
 have hg:Int.gcd P (x%P)=1:=by
  have hd:Int.gcd P (x%P) ∣ P:=by have:=Int.gcd_dvd_natAbs_left P<|x%P;rw[eR]at this;exact this
  rcases hP.no _ hd with e |e;exact e;exfalso;have:=Int.gcd_dvd_right (a:=(P:Int)) (b:=x%P);rw[e]at this;exact Yw this
 rcases M3 (P:=(P:Int)) (x:=x%P) (x%P).toNat P (x%P) 0 1 (ao _) r0 ⟨1,by lia⟩ ⟨0,by lia⟩ hg with q |⟨q,_⟩;unfold xq;generalize zo (x%P).toNat P (x%P) 0 1=v at q;obtain⟨a,ha⟩:=q;have e1:=iC x P;have e2:=iC v P;exact⟨a-(v%P)*(x / P)+(v / P)*(x%P),by grind⟩;exact absurd (by rw[q];exact⟨0,by lia⟩) Yw
def jh(P:Int)(g:az):az:=g.map λx=>x*xq P (ax g)%P
def we(P x:Int):P ∣ x-x%P:=⟨x / P,by have:=iC x P;lia⟩
def MP(P:Int)(g:az)(i:Nat):P ∣ xq P (ax g)*co g i-co (jh P g) i:=by
 have e:co (jh P g) i=co g i*xq P (ax g)%P:=by show(g.map _).getD i 0=_;rw[eZ<|by simp]
 rw[e,dO];exact we _ _
def Ko{g:az}(hP:Yo P)(hg:g≠[])(hl:¬(P:Int) ∣ ax g):ax (jh P g)=1:=by
 have p2:=hP.two;unfold jh;rw[jL g _<|by simp];obtain⟨a,ha⟩:=Pw hP hl;have e:ax g*xq P (ax g)=1+P*(-a):=by grind
 rw[e,uz,vS (by decide)<|by lia]
def qJ(P:Int)(g r:az)(top:Int):az:=(List.range r.length).map λi=>if r.length-(g.length-1)<=i then(r.getD i 0-top*g.getD (i-(r.length-(g.length-1))) 0)%P else r.getD i 0
def iX(P:Int)(g:az):Nat->az->az|0,r=>r|n+1,r=>if g.length<=r.length then iX P g n (qJ P g r.dropLast<|ax r)else r
def oA(P:Int)(g r:az)(top:Int):(qJ P g r top).length=r.length:=by unfold qJ;rw[ab,cY]
def J5{g r:az}{top:Int}(P:Int)(hg:g≠[])(h1:ax g=1)(hl:g.length<=r.length+1)(i:Nat):P ∣ co (r++[top]) i-top*(if r.length-(g.length-1)<=i then co g (i-(r.length-(g.length-1)))else 0)-co (qJ P g r top) i:=by
 have el:=dy hg;have e:co (qJ P g r top) i=if i<r.length then(if r.length-(g.length-1)<=i then(r.getD i 0-top*g.getD (i-(r.length-(g.length-1))) 0)%P else r.getD i 0)else 0:=by show((List.range r.length).map _).getD i 0=_;rw[ac,aw];by_cases hi:i<r.length;rw[bv hi,ag hi];rfl;rw[aI<|by simpa using hi,af hi];rfl
 rw[e];rcases fT i r.length with q |q |q;have ec:co (r++[top]) i=r.getD i 0:=by show(r++[top]).getD i 0=_;rw[ac,a8 q,<-ac]
 rw[ec,ag q];by_cases h:r.length-(g.length-1)<=i;rw[ag h,ag h];exact we _ _;rw[af h,af h];exact⟨0,by lia⟩;subst q;have ec:co (r++[top]) r.length=top:=by show(r++[top]).getD r.length 0=_;rw[ac,aQ<|ao _,eI];rfl
 have eg:co g (r.length-(r.length-(g.length-1)))=1:=by rw[show r.length-(r.length-(g.length-1))=g.length-1 by lia];show g.getD (g.length-1) 0=1;rw[el,h1]
 rw[ec,af<|dW _,ag<|by lia,eg];exact⟨0,by lia⟩;have ec:co (r++[top]) i=0:=bn (by simp;lia);have eg:co g (i-(r.length-(g.length-1)))=0:=bn (by lia);rw[ec,eg,af (show¬i<r.length by lia)];refine⟨0,?_⟩;split<;>lia
theorem Ey{g:az}(hP:Yo P)(hg:g≠[])(h1:ax g=1)(dg:Yu P s (co g)):∀(n:Nat)(r:az),Yu P s (co r)->Yu P s (co<|iX P g n r)
 |0,r,h=>h
 |n+1,r,h=>by
  unfold iX;split;rename_i q;have hr:r≠[]:=λz=>by rw[z]at q;simp at q;exact hg q
  have er:r=r.dropLast++[ax r]:=by
   have:=se hr
   conv=>lhs;rw[<-this]
   congr 1;have e:=dy hr;rw[<-e,ac,xF,am<|by have:=ar.mpr hr;lia];rfl
  have hl:r.dropLast.length+1=r.length:=by have:=bo List.length er;rw[aA]at this;simpa using this.symm
  refine Ey hP hg h1 dg n _ ?_;have d2:=(dg.shift<|r.dropLast.length-(g.length-1)).Zz (-(ax r));have d3:Yu P s (co<|r.dropLast++[ax r]):=by rwa[<-er]
  refine(Yu.add hP d3 d2).mod λi=>?_;have:=J5 (P:=(P:Int)) (r:=r.dropLast) (top:=ax r) hg h1 (by lia) i;obtain⟨a,ha⟩:=this;exact⟨a,by rw[<-ha];grind⟩;exact h
def ir(P:Int):Nat->az->az->az|0,f,_=>f|n+1,f,g=>if g=[]then f else ir P n (jh P g)<|bR<|iX P (jh P g) f.length f
def Zx(P:Int)(f:az):Prop:=W2 f/\∀x∈f,0<=x/\x<P
def Zx.last(h:Zx P f)(hf:f≠[]):¬(P:Int) ∣ ax f:=λz=>by
 have hl:=cz h.1 hf;have hm:ax f∈f:=by have e:=dy hf;have hp:=ar.mpr hf;rw[<-e,ac,am<|by lia];exact cZ _
 obtain⟨h0,h1⟩:=h.2 _ hm;have:=Int.le_of_dvd (by lia) z;lia
def Ck(f:az):co (bR f)=co f:=funext λi=>fu f i
theorem yQ{P:Int}(hP:0<P)(g:az):∀(n:Nat)(r:az),(∀x∈r,0<=x/\x<P)->∀x∈iX P g n r,0<=x/\x<P|0,r,h=>h|n+1,r,h=>by unfold iX;split;refine yQ hP g n _ λx hx=>?_;obtain⟨i,hi,rfl⟩:=aZ.mp hx;have Yb:=aY.mp hi;by_cases hz:r.dropLast.length-(g.length-1)<=i;simp only[ag hz];exact⟨bO _<|by lia,bK _ hP⟩;simp only[af hz];rw[ac,am Yb];exact h _<|(Bo r).subset<|cZ Yb;exact h
def qX(P:Int)(g:az):(jh P g).length=g.length:=by unfold jh;rw[ab]
theorem sG{g:az}:∀(n:Nat)(r:az),r.length<=n->0<g.length->(iX P g n r).length<g.length|0,r,h,hg=>by show r.length<g.length;lia|n+1,r,h,hg=>by unfold iX;split;exact sG n _ (by rw[oA,iT];lia) hg;lia
def CP(hP:Yo P)(h:Zx P g)(hg:g≠[]):Zx P (jh P g)/\ax (jh P g)=1:=by
 have p2:=hP.two;have h1:=Ko hP hg<|h.last hg;have hn:jh P g≠[]:=λz=>by have:=qX P g;rw[z]at this;exact hg<|au this.symm
 refine⟨⟨?_,λx hx=>?_⟩,h1⟩;right;refine⟨(jh P g).dropLast,ax<|jh P g,?_,by rw[h1];decide⟩;have:=se hn
 conv=>lhs;rw[<-this]
 congr 1;have e:=dy hn;rw[<-e,ac,xF,am<|by have:=ar.mpr hn;lia];rfl;obtain⟨y,_,rfl⟩:=aZ.mp hx;exact⟨bO _<|by lia,bK _<|by lia⟩
theorem tT(hP:Yo P):∀(n:Nat)(f g:az),g.length<=n->Zx P f->Zx P g->f≠[]->ir P n f g≠[]/\Zx P (ir P n f g)/\(∀s,Yu P s (co f)->Yu P s (co g)->Yu P s (co<|ir P n f g))
 |0,f,g,h,hf,hg,hn=>⟨hn,hf,λs d1 d2=>d1⟩
 |n+1,f,g,h,hf,hg,hn=>by
  unfold ir;split;exact⟨hn,hf,λs d1 d2=>d1⟩;rename_i q;have p2:=hP.two;obtain⟨m1,m2⟩:=CP hP hg q;have ml:=qX P g;have gp:=ar.mpr q;have mn:jh P g≠[]:=λz=>by rw[z]at ml;exact q<|au ml.symm
  have rl:=sG (P:=(P:Int)) (g:=jh P g) f.length f (ao _) (by lia);have tl:=fK<|iX P (jh P g) f.length f;have ri:Zx P (bR<|iX P (jh P g) f.length f):=⟨dI _,λx hx=>yQ (by lia) _ _ _ hf.2 x<|vh hx⟩;obtain⟨k1,k2,k3⟩:=tT hP n (jh P g) (bR<|iX P (jh P g) f.length f) (by lia) m1 ri mn;refine⟨k1,k2,λs d1 d2=>?_⟩;have dm:=(d2.Zz<|xq P<|ax g).mod λi=>MP P g i;refine k3 s dm ?_;rw[Ck];exact Ey hP mn m2 dm _ _ d1
def gE(P:Int)(f:az):az:=f.map λx=>x%P
def IY(P:Int)(f:az)(i:Nat):P ∣ co f i-co (gE P f) i:=by
 have e:co (gE P f) i=co f i%P:=by show(f.map _).getD i 0=_;rw[eZ<|by simp]
 rw[e];exact we _ _
def mC{f:az}(hf:f≠[]):f=f.dropLast++[ax f]:=by
 have:=se hf
 conv=>lhs;rw[<-this]
 congr 1;have e:=dy hf;rw[<-e,ac,xF,am<|by have:=ar.mpr hf;lia];rfl
def sH{f:az}(hP:Yo P)(hf:f≠[])(hl:¬(P:Int) ∣ ax f):Zx P (gE P f)/\gE P f≠[]:=by
 have p2:=hP.two;have hn:gE P f≠[]:=λz=>by unfold gE at z;exact hf<|WY.mp z
 have h1:ax (gE P f)=ax f%P:=jL f (λx=>x%P) (by simp);refine⟨⟨.inr ⟨_,_,mC hn,?_⟩,λx hx=>?_⟩,hn⟩;rw[h1];exactλz=>hl<|nq z;obtain⟨y,_,rfl⟩:=aZ.mp hx;exact⟨bO _<|by lia,bK _<|by lia⟩
def FL(hP:Yo P)(rf:W2 f)(rg:W2 g)(hf:f≠[])(hg:g≠[])(lf:¬(P:Int) ∣ ax f)(lg:¬(P:Int) ∣ ax g):(sh f g).length<=(ir P (gE P g).length (gE P f)<|gE P g).length/\ir P (gE P g).length (gE P f) (gE P g)≠[]:=by obtain⟨i1,n1⟩:=sH hP hf lf;obtain⟨i2,n2⟩:=sH hP hg lg;obtain⟨k1,k2,k3⟩:=tT hP (gE P g).length (gE P f) (gE P g) (ao _) i1 i2 n1;exact⟨GS hP rf rg hf lf k1 (k2.last k1) λs d1 d2=>k3 s (d1.mod<|IY P f)<|d2.mod<|IY P g,k1⟩
def LW{f:az}(rg:W2 g)(hf:f≠[])(lf:ax f≠0):sh f g≠[]:=λz=>by obtain⟨⟨c,φ,hc,fφ,e⟩,_⟩:=Iz g.length f g (ao _) rg;have el:co f (f.length-1)=ax f:=dy hf;have h0:=e<|f.length-1;rw[z,el]at h0;have h1:=h0;rcases eV.mp h1 with q |q;exact hc q;exact lf q
def BN(rr:W2 r)(h:r.length=1):bh r=[1]:=by
 obtain⟨a,ha⟩:=Wb.mp h;have ha0:a≠0:=by have:=cz rr (by rw[ha];simp);rw[ha]at this;exact this
 have e:bh [1]=[1]:=rfl;rw[<-e];refine jc rr (.inr ⟨[],1,rfl,by decide⟩) (Xy.scale ha0 λi=>?_);rw[ha]
 match i with|0=>show a=a*1;lia|i+1=>show 0=a*0;lia
def Dx(hP:Yo P)(rf:W2 f)(rg:W2 g)(hf:f≠[])(hg:g≠[])(lf:¬(P:Int) ∣ ax f)(lg:¬(P:Int) ∣ ax g)(h:(ir P (gE P g).length (gE P f)<|gE P g).length=1):bh (sh f g)=[1]:=by have h1:=(FL hP rf rg hf hg lf lg).1;have h2:=LW rg hf<|cz rf hf;have h3:=ar.mpr h2;exact BN (oC rf rg)<|by lia
def Dw(hP:Yo P)(rf:W2 f)(rg:W2 g)(hf:f≠[])(hg:g≠[])(lf:¬(P:Int) ∣ ax f)(lg:¬(P:Int) ∣ ax g)(ru:W2 u)(rv:W2 v)(rr:W2 r)(hl:r.length=(ir P (gE P g).length (gE P f)<|gE P g).length)(ef:f=br u r)(eg:g=br v r):bh (sh f g)=bh r:=by
 obtain⟨h1,h0⟩:=FL hP rf rg hf hg lf lg;have hr:r≠[]:=λz=>by rw[z]at hl;exact h0<|au hl.symm
 exact J9 ru rv rr hr ef eg (LW rg hf<|cz rf hf)<|by lia
def K3(P:Nat):Prop:=Yo P/\P<2 ^ 4423
def Uf{x y:Int}(hx:x.natAbs<2 ^ 4423)(hy:y.natAbs<2 ^ 4423):IntMulOk x y:=mE (by decide) hx hy
structure Iv(P:Nat)(a b u v:Int):Prop where
 b0:0<=b
 a0:0<a
 sg:u*v<=0
 sm:a*(v.natAbs:Int)+b*(u.natAbs:Int)=P
 aP:a<=P
def Iv.next(h:Iv P a b u v)(hb:1<b)(hbP:b<=P):Iv P b (a-a / b*b) v (u-a / b*v):=by
 have h0:=h.a0;have er:a-a / b*b=a%b:=by have:=iC a b;rw[dO]at this;lia
 have r0:=bO a (show b≠0 by lia);have m0:0<=a / b:=Int.ediv_nonneg (by lia) (by lia);have sg:=h.sg;have sm:=h.sm;have key:((u-a / b*v).natAbs:Int)=u.natAbs+a / b*v.natAbs:=by
  generalize a / b=m at m0;rcases Lc 0 u with hu |hu;rcases Lc 0 v with hv |hv;have z:=Qv sg<|iB hu hv;rcases eV.mp z with e |e;subst e;have e1:=iV hv;rw[e1,Int.zero_sub,Tj,iV<|iB m0 hv];simp;subst e;simp;have e1:v.natAbs=-v:=by lia
  have e2:0<=-(m*v):=by rw[<-DX];exact iB m0<|by lia
  rw[e1,iV<|by lia,iV hu,DX];lia;rcases Lc 0 v with hv |hv;have e1:=iV hv;have e2:=iB m0 hv;rw[e1];lia;have z:=Qv sg<|Ig hu hv;rcases eV.mp z with e |e;subst e;have e1:v.natAbs=-v:=by lia
  have e2:0<=-(m*v):=by rw[<-DX];exact iB m0<|by lia
  rw[e1,Int.zero_sub,iV e2,DX];simp;subst e;simp
 refine⟨by lia,by lia,?_,?_,hbP⟩;have:v*(u-a / b*v)=u*v-a / b*(v*v):=by grind
 have q:=iB m0<|by rcases Lc 0 v with z |z;exact iB z z;exact Ig z z
 lia;rw[key];grind
def Iv.bd(h:Iv P a b u v)(hP:P<2 ^ 4423):v.natAbs<2 ^ 4423:=by have h0:=h.a0;have sm:=h.sm;have q1:0<=b*u.natAbs:=iB h.b0 (by lia);have q2:1*v.natAbs<=a*v.natAbs:=Int.mul_le_mul_of_nonneg_right (by lia) (by lia);lia
theorem Fi{X:Cx}{P:Nat}(R:Int->Int->Int->Int->dP)(h1:∀(a b u v:Int),W5 X (R a b u v) c<|decide<|1<b)(h2:∀(a b u v:Int),1<b->b<=(P:Int)->Iv P a b u v->W4 X (R a b u v) body (.nx<|R b (a-a / b*b) v<|u-a / b*v)):∀(n:Nat)(a b u v:Int),b.toNat<=n->b<=(P:Int)->Iv P a b u v->∃(m:Nat)(q:Int×Int×Int),XD X c body m (R a b u v) (.nx<|R q.1 q.2.1 q.2.2<|zo n a b u v)
 |0,a,b,u,v,hn,hb,hi=>⟨0,(a,b,u),.stop<|W5.eq (h1 a b u v)<|aj<|by lia⟩
 |n+1,a,b,u,v,hn,hb,hi=>by
  unfold zo;by_cases q:1<b;rw[ag q];have er:a-a / b*b=a%b:=by have:=iC a b;rw[dO]at this;lia
  have r1:=bK a (show 0<b by lia);obtain⟨m,q',w⟩:=Fi R h1 h2 n b (a-a / b*b) v (u-a / b*v) (by lia) (by lia)<|hi.next q hb;exact⟨m+1,q',.step (W5.eq (h1 a b u v)<|aq q) (h2 a b u v q hb hi) w⟩;rw[af q];exact⟨0,(a,b,u),.stop<|W5.eq (h1 a b u v)<|aj q⟩
def qa(ds:ck)(d:D):Prop:=∃(x:Int)(P:Nat),ds=[.int x,.int P]/\K3 P/\d=.int (xq P x)
def zd:∀ds d,qa ds d->ds.length=2:=by rintro _ _ ⟨a,b,rfl,_⟩;rfl
def Lo(P:Int)(f:az):Prop:=∀x∈f,0<=x/\x<P
def p9(ds:ck)(d:D):Prop:=∃(g:az)(P:Nat),ds=[bu g,.int P]/\K3 P/\g≠[]/\g.length<100/\Lo P g/\d=bu (jh P g)
def zc:∀ds d,p9 ds d->ds.length=2:=by rintro _ _ ⟨a,b,rfl,_⟩;rfl
def Px(h:K3 P)(x:Int):0<=xq P x/\xq P x<P:=by have:=h.1.two;exact⟨bO _<|by lia,bK _<|by lia⟩
def E9{x:Int}(h:K3 P)(hx:0<=x/\x<P):x.natAbs<2 ^ 4423:=by have:=h.2;lia
def KI{X:Cx}{rest:List Stmt}(t:At X N sc){R:α->dP}(h:∃(m:Nat)(q:α),XD X c body m U<|.nx<|R q)(h2:∀q,W4 X (R q) rest o):W4 X U (.While c body [] pos::rest) o:=by obtain⟨m,q,w⟩:=h;exact ay (iu t ⟨m,w⟩)<|h2 q
section
variable {X:Cx}
def DH(h:fA P w K mg base k pS mi X):Go X pS mi qa:=by
 rintro ds d ⟨x,p,rfl,hp,rfl⟩;have t:=h.at';haveI:=h.XM;have p2:=hp.1.two;have pb:=hp.2;have r0:=bO x (show(p:Int)≠0 by lia);have r1:=bK x (show(0:Int)<p by lia);have iv:Iv p p (x%p) 0 1:=⟨r0,by lia,by decide,by simp,by lia⟩;refine ay (nG t (bH<|ai (aa t 1)<|ai (bU (aa t 0) (aa t 1)<|by lia)<|ai ak<|ai ak av)<|wt t<|fX (c9 t 2)<|fX (c9 t 3)<|fX (c9 t 4)<|fX (c9 t 5) sP) ?_;refine KI t (Fi (λa b u v=>[.val<|.int x,.val<|.int p,.val<|.int a,.val<|.int b,.val<|.int u,.val<|.int v,.un]) (λa b u v=>?_) (λa b u v hb hbp hi=>?_) (x%p).toNat p (x%p) 0 1 (ao _) (by lia) iv) λq=>?_;exact W5.eq (lY (aa t 3) ak) rfl;have ha0:=hi.a0;have haP:=hi.aP;have m0:0<=a / b:=Int.ediv_nonneg (by lia) (by lia);have m1:a / b<=a:=Int.ediv_le_self _ (by lia);have vb:=hi.bd hp.2;have mb:(a / b).natAbs<2 ^ 4423:=by lia
 refine W4.weak (ay (df t 6<|vw t (aa t 2) (aa t 3)<|by lia)<|aM<|nG t (bH<|ai (aa t 3)<|ai (cu (aa t 2)<|eh (aa t 6) (aa t 3)<|Uf mb<|by lia)<|ai (aa t 5)<|ai (cu (aa t 4)<|eh (aa t 6) (aa t 5)<|Uf mb vb) av)<|wt t<|fX (c9 t 2)<|fX (c9 t 3)<|fX (c9 t 4)<|fX (c9 t 5) sP)<|.keep<|.keep<|.keep<|.keep<|.keep<|.keep<|.forget .nil;exact aM<|cp<|bU (aa t 5) (aa t 1)<|by lia
def DG(h:fA P w K mg base k pR mh X)(cI:Callee X "inverse_of" qa):Go X pR mh p9:=by rintro ds d ⟨g,p,rfl,hp,hg,hl,lo,rfl⟩;have t:=h.at';haveI:=h.XM;have iv:=Px hp<|ax g;refine ay (df t 2<|aX t cI (ai (bM (W0.ql<|aa t 0) (gu ak)<|fL hg)<|ai (aa t 1) av) ⟨_,p,rfl,hp,rfl⟩) ?_;refine aM<|cp<|Xe.Xk (dR t ["numbers","prime","scale","number"] (oU rfl) (gN<|aa t 0) (by rw[ab];exact gR<|by lia) λX' cx=>?_);have t':=cx.at';exact W9.ints (λx=>x*xq p (ax g)%p) (λx=>[.val<|bu g,.val<|.int p,.val<|.int<|xq p<|ax g,.val<|.int x]) (λd hd=>aU t' 3) (λd hd e he=>aU t' 3) λd hd=>bU (eh (aa t' 3 rfl) (aa t' 2 rfl)<|Uf (E9 hp<|lo d hd)<|E9 hp iv) (aa t' 1 rfl)<|by lia
end
def qj(P:Int)(g r:az)(top:Int)(i:Nat):az:=(List.range r.length).map λj=>if r.length-(g.length-1)<=j/\j<r.length-(g.length-1)+i then(r.getD j 0-top*g.getD (j-(r.length-(g.length-1))) 0)%P else r.getD j 0
def i7(P:Int)(g r:az)(top:Int)(i:Nat):(qj P g r top i).length=r.length:=by unfold qj;rw[ab,cY]
def oB{r:az}{top:Int}{j:Nat}(h:j<r.length):(qj P g r top i).getD j 0=if r.length-(g.length-1)<=j/\j<r.length-(g.length-1)+i then(r.getD j 0-top*g.getD (j-(r.length-(g.length-1))) 0)%P else r.getD j 0:=by unfold qj;rw[ac,aw,bv h];rfl
def jZ{f g:az}(hl:f.length=g.length)(h:∀j,j<f.length->f.getD j 0=g.getD j 0):f=g:=by refine N9 hl λj h1 h2=>?_;have:=h j h1;rw[ac,am h1,ac,am h2]at this;exact this
def GO(P:Int)(g r:az)(top:Int):qj P g r top 0=r:=by refine jZ (i7 _ _ _ _ _) λj hj=>?_;rw[i7]at hj;rw[oB hj,af<|by lia]
def J6{g r:az}(P:Int)(top:Int)(h:g.length-1<=r.length):qj P g r top (g.length-1)=qJ P g r top:=by refine jZ (by rw[i7,oA]) λj hj=>?_;rw[i7]at hj;rw[oB hj];unfold qJ;rw[ac (l:=List.map _ _),aw,bv hj];show _=if r.length-(g.length-1)<=j then _ else _;by_cases q:r.length-(g.length-1)<=j;rw[ag ⟨q,by lia⟩,ag q];rw[af λz=>q z.1,af q]
def GQ{g r:az}{i:Nat}(P:Int)(top:Int)(hi:i<g.length-1)(h:g.length-1<=r.length):qj P g r top (i+1)=(qj P g r top i).set (r.length-(g.length-1)+i) (((qj P g r top i).getD (r.length-(g.length-1)+i) 0-top*g.getD i 0)%P):=by
 refine jZ (by rw[i7,bE,i7]) λj hj=>?_;rw[i7]at hj;have hs:r.length-(g.length-1)+i<r.length:=by lia
 rw[oB hj,oB hs,af (show¬(r.length-(g.length-1)<=r.length-(g.length-1)+i/\r.length-(g.length-1)+i<r.length-(g.length-1)+i)by lia)];rw[ac (l:=List.set _ _ _),oh];by_cases q:r.length-(g.length-1)+i=j;rw[ag q,ag<|by lia,ag<|by rw[i7];lia];show _=(r.getD (r.length-(g.length-1)+i) 0-top*g.getD i 0)%P;rw[<-q,show r.length-(g.length-1)+i-(r.length-(g.length-1))=i by lia];rw[af q,<-ac,oB hj];by_cases z:r.length-(g.length-1)<=j/\j<r.length-(g.length-1)+i;rw[ag z,ag<|by lia];rw[af z,af<|by lia]
def LL{P:Nat}{top:Int}(hP:0<(P:Int))(lr:Lo P r):Lo P (qJ P g r top):=λx hx=>by unfold qJ at hx;obtain⟨i,hi,rfl⟩:=aZ.mp hx;have Yb:=aY.mp hi;by_cases hz:r.length-(g.length-1)<=i;simp only[ag hz];exact⟨bO _<|by lia,bK _ hP⟩;simp only[af hz];rw[ac,am Yb];exact lr _<|cZ Yb
theorem IE{X:Cx}{P:Nat}(g:az)(R:az->dP)(hP:0<(P:Int))(hg:g≠[])(h1:∀r,r.length<100->W5 X (R r) c (decide<|g.length<=r.length))(h2:∀ys a,ys.length<100->g.length<=ys.length+1->Lo P (ys++[a])->W4 X (R<|ys++[a]) body (.nx<|R<|qJ P g ys a)):∀(n:Nat)(r:az),r.length<=n->r.length<100->Lo P r->∃m,XD X c body m (R r) (.nx<|R<|iX P g n r)
 |0,r,hn,hq,_=>⟨0,.stop<|W5.eq (h1 r hq)<|aj<|by have:=ar.mpr hg;lia⟩
 |n+1,r,hn,hq,lr=>by
  unfold iX;by_cases h:g.length<=r.length;rw[ag h];have hgp:=ar.mpr hg;have hr:r≠[]:=λz=>by rw[z]at h;simp at h;exact hg h
  have er:=mC hr;have hl:r.dropLast.length+1=r.length:=by have:=bo List.length er;rw[aA]at this;simpa using this.symm
  have ld:Lo P r.dropLast:=λx hx=>lr x<|(Bo r).subset hx;obtain⟨m,w⟩:=IE g R hP hg h1 h2 n (qJ P g r.dropLast<|ax r) (by rw[oA];lia) (by rw[oA];lia)<|LL hP ld;have:=h2 r.dropLast (ax r) (by lia) (by lia) (by rw[<-er];exact lr);rw[<-er]at this;exact⟨m+1,.step (W5.eq (h1 r hq)<|aq h) this w⟩;rw[af h];exact⟨0,.stop<|W5.eq (h1 r hq)<|aj h⟩
def n4(ds:ck)(d:D):Prop:=∃(f g:az)(P:Nat),ds=[bu f,bu g,.int P]/\K3 P/\g≠[]/\f.length<100/\g.length<100/\Lo P f/\Lo P g/\d=bu (bR<|iX P g f.length f)
def xo:∀ds d,n4 ds d->ds.length=3:=by rintro _ _ ⟨a,b,p,rfl,_⟩;rfl
theorem Ex:∀(n:Nat)(r:az),(iX P g n r).length<=r.length|0,r=>ao _|n+1,r=>by unfold iX;split;refine aL (Ex n _) ?_;rw[oA,iT];lia;exact ao _
section
variable {X:Cx}
def Bg(h:fA P w K mg base k nW lq X)(Xu:mg "list"=none)(W7:mg "len"=none)(W6:mg "range"=none)(cR:Callee X "row_of" lL):Go X nW lq n4:=by
 rintro ds d ⟨f,g,p,rfl,hp,hg,hf,hgl,lf,lg,rfl⟩;have t:=h.at';haveI:=h.XM;have b1:=h.bt W6;have b2:=h.bt W7;have b3:=h.bt Xu;have p2:=hp.1.two;have hgp:=ar.mpr hg;show W4 X [.val<|bu f,.val<|bu g,.val<|.int p,.un,.un,.un,.un,.un] _ _;refine ay (OM (v:=.int ((g.length-1:Nat):Int)) t 3 4 (lz t b3<|W0.ql<|aa t 0) (W0.eq (cu (bX t b2<|W0.ql<|aa t 1) ak)<|by rw[ab];congr 1;lia)<|by decide) ?_;refine ay (iu t<|IE g (λr=>[.val<|bu f,.val<|bu g,.val<|.int p,.own<|r.map D.int,.val<|.int ((g.length-1:Nat):Int),.un,.un,.un]) (by lia) hg (λr hr=>?_) (λys a hy hgy lo=>?_) f.length f (ao _) hf lf) ?_;refine W5.eq (lY (bX t b2<|dw t 3 rfl)<|aa t 4) ?_;rw[ab];by_cases z:g.length<=r.length;rw[aq z,aq<|by lia];rw[aj z,aj<|by lia];have lys:Lo p ys:=λx hx=>lo x (by simp[hx]);have la:=lo a (by simp);rw[<-J6 p a (show g.length-1<=ys.length by lia)];generalize hsh:ys.length-(g.length-1)=s0;refine W4.weak (W1:=[.val<|bu f,.val<|bu g,.val<|.int p,.own<|(qj p g ys a<|g.length-1).map D.int,.val<|.int ((g.length-1:Nat):Int),.val<|.int a,.val<|.int (s0:Int),.un]) ?_<|.keep<|.keep<|.keep<|.keep<|.keep<|.forget<|.forget<|.keep .nil;refine ay (LY t 3 5 (by rw[bj];rfl)<|by decide) ?_;refine ay (df t 6<|W0.eq (cu (bX t b2<|dw t 3 rfl)<|aa t 4) (show _=D.int s0 by rw[ab];congr 1;lia)) ?_;refine aM<|gY t (eD t b1 (aa t 4) (by lia)<|by lia)<|Xc.Xl (λi=>[.val<|bu f,.val<|bu g,.val<|.int p,.own<|(qj p g ys a i).map D.int,.val<|.int ((g.length-1:Nat):Int),.val<|.int a,.val<|.int s0,.un]) (λi d hi=>?_) (by rw[GO];rfl) ?_;obtain⟨YR,rfl⟩:=gC hi;have Yb:i<g.length-1:=by simpa using YR
 have hlen:=i7 p g ys a i;have e1:(s0+i)=((s0+i:Nat):Int):=by lia
 have gi:0<=g.getD i 0/\g.getD i 0<p:=by rw[ac,am (show i<g.length by lia)];exact lg _<|cZ _
 refine⟨_,c9 t 7,W4.weak (aM<|nG t (bU (cu (i:=(qj p g ys a i).getD (s0+i) 0) (bM (dw t 3 rfl) (dj (aa t 6)<|aa t 7) ?_)<|eh (aa t 5) (bM (W0.ql<|aa t 1) (aa t 7)<|dY<|by lia)<|Uf (E9 hp la)<|E9 hp gi) (aa t 2)<|by lia)<|sQ (j:=s0+i) t 3 rfl (dj (aa t 6)<|aa t 7) ?_) ?_⟩;rw[e1];exact dY (by lia);rw[ab];exact nQ (by lia) (by lia) (by lia);rw[GQ p a Yb<|by lia,hsh,iS];exact .keep<|.keep<|.keep<|.keep<|.keep<|.keep<|.keep<|.forget .nil;have e:(cH 0 ((g.length-1:Nat):Int).toNat).length=g.length-1:=by simp[cH]
 rw[e];have l2:=Ex (P:=(p:Int)) (g:=g) f.length f;exact eL 3 rfl<|aM<|cp<|Xe.Xk<|lz t b3<|W0.qt<|aX t cR (ai (aa t 3) av) ⟨iX p g f.length f,rfl,by lia,rfl⟩
end
theorem Iw{X:Cx}(R:az->az->dP)(hP:Yo P)(h1:∀f g,W5 X (R f g) c (!decide (g=[])))(h2:∀f g,g≠[]->Zx P f->Zx P g->f.length<100->g.length<100->W4 X (R f g) body (.nx<|R (jh P g)<|bR<|iX P (jh P g) f.length f)):∀(n:Nat)(f g:az),g.length<=n->Zx P f->Zx P g->f.length<100->g.length<100->∃m,XD X c body m (R f g) (.nx<|R (ir P n f g) [])|0,f,g,hn,hf,hg,lf,lg=>by have e:g=[]:=au (by lia);subst e;exact⟨0,.stop<|W5.eq (h1 f []) rfl⟩|n+1,f,g,hn,hf,hg,lf,lg=>by unfold ir;by_cases q:g=[];rw[ag q];subst q;exact⟨0,.stop<|W5.eq (h1 f []) rfl⟩;rw[af q];have p2:=hP.two;obtain⟨m1,m2⟩:=CP hP hg q;have ml:=qX P g;have gp:=ar.mpr q;have rl:=sG (P:=(P:Int)) (g:=jh P g) f.length f (ao _) (by lia);have tl:=fK<|iX P (jh P g) f.length f;have ri:Zx P (bR<|iX P (jh P g) f.length f):=⟨dI _,λx hx=>yQ (by lia) _ _ _ hf.2 x<|vh hx⟩;obtain⟨m,w⟩:=Iw R hP h1 h2 n (jh P g) (bR<|iX P (jh P g) f.length f) (by lia) m1 ri (by lia) (by lia);exact⟨m+1,.step (W5.eq (h1 f g)<|by rw[aj q];rfl) (h2 f g q hf hg lf lg) w⟩
abbrev Le(P:Int)(f g:az):az:=ir P (gE P g).length (gE P f)<|gE P g
def lS(ds:ck)(d:D):Prop:=∃(f g:az)(P:Nat),ds=[aD f,aD g,.int P]/\K3 P/\f≠[]/\g≠[]/\f.length<100/\g.length<100/\¬(P:Int) ∣ ax f/\¬(P:Int) ∣ ax g/\d=bu (Le P f g)
def vn:∀ds d,lS ds d->ds.length=3:=by rintro _ _ ⟨a,b,p,rfl,_⟩;rfl
def lJ(xs:az)(l P:Int):az:=xs.map λx=>if 2*(x*l%P)>P then x*l%P-P else x*l%P
def Au(ds:ck)(d:D):Prop:=∃(xs:az)(l:Int)(P:Nat),ds=[bu xs,.int l,.int P]/\K3 P/\xs.length<100/\Lo P xs/\l.natAbs<2 ^ 1200/\d=aD (bh<|bR<|lJ xs l P)
def Hn:∀ds d,Au ds d->ds.length=3:=by rintro _ _ ⟨a,b,p,rfl,_⟩;rfl
section
variable {X:Cx}
def xy(h:fA P w K mg base k lR ju X)(cM:Callee X "made_monic" p9)(cR:Callee X "rest_modulo" n4):Go X lR ju lS:=by
 rintro ds d ⟨f,g,p,rfl,hp,hf,hg,lf,lg,nf,ng,rfl⟩;have t:=h.at';haveI:=h.XM;have p2:=hp.1.two;obtain⟨i1,n1⟩:=sH hp.1 hf nf;obtain⟨i2,n2⟩:=sH hp.1 hg ng;have ml1:(gE p f).length=f.length:=by unfold gE;rw[ab]
 have ml2:(gE p g).length=g.length:=by unfold gE;rw[ab]
 show W4 X [.val<|aD f,.val<|aD g,.val<|.int p] _ _;refine ay (qR t 0 1 (Xe.Xk (dR (rs:=(gE p f).map D.int) t ["f","g","prime","number"] (oU rfl) (j8<|aa t 0) (by rw[ab];exact gR<|by lia) λX' cx=>?_)) (Xe.Xk (dR (rs:=(gE p g).map D.int) t ["f","g","prime","number"] (oU rfl) (j8<|aa t 1) (by rw[ab];exact gR<|by lia) λX' cx=>?_))<|by decide) ?_;have t':=cx.at';exact W9.ints (λx=>x%p) (λx=>[.val<|aD f,.val<|aD g,.val<|.int p,.val<|.int x]) (λd hd=>aU t' 3) (λd hd e he=>aU t' 3) λd hd=>bU (aa t' 3 rfl) (aa t' 2 rfl) (by lia);have t':=cx.at';exact W9.ints (λx=>x%p) (λx=>[.val<|aD f,.val<|aD g,.val<|.int p,.val<|.int x]) (λd hd=>aU t' 3) (λd hd e he=>aU t' 3) λd hd=>bU (aa t' 3 rfl) (aa t' 2 rfl) (by lia);refine ay (iu t<|Iw (λf g=>[.val<|bu f,.val<|bu g,.val<|.int p]) hp.1 (λf g=>?_) (λf g hg hf' hg' lf lg=>?_) (gE p g).length (gE p f) (gE p g) (ao _) i1 i2 (by lia)<|by lia)<|aM<|cp<|aa t 0;exact kM t (W0.p (d:=bu g)<|aa t 1) (W0.p (d:=bu [])<|Xe.Xk<|fg av) (fq g) (fq []) (by rw[show mB (bu g)=PyData.list (Xb<|g.map D.int)from rfl,show mB (bu [])=PyData.list (Xb<|[].map D.int)from rfl,sL]);have ml:=qX p g;obtain⟨m1,m2⟩:=CP hp.1 hg' hg;have mn:jh p g≠[]:=λz=>by rw[z]at ml;exact hg<|au ml.symm
 refine ay (df t 1<|aX t cM (ai (aa t 1)<|ai (aa t 2) av) ⟨g,p,rfl,hp,hg,by lia,hg'.2,rfl⟩)<|aM<|qR t 0 1 (aa t 1) (aX t cR (ai (aa t 0)<|ai (aa t 1)<|ai (aa t 2) av) ⟨f,jh p g,p,rfl,hp,mn,lf,by lia,hf'.2,m1.2,rfl⟩)<|by decide
def N0(h:fA P w K mg base k Ap u0 X)(cP:Callee X "plain_row" jM)(cR:Callee X "row_of" lL):Go X Ap u0 Au:=by
 rintro ds d ⟨xs,l,p,rfl,hp,hl,lo,hlb,rfl⟩;have t:=h.at';haveI:=h.XM;have p2:=hp.1.two;have ll:(lJ xs l p).length=xs.length:=by unfold lJ;rw[ab]
 have tl:=fK<|lJ xs l p;show W4 X [.val<|bu xs,.val<|.int l,.val<|.int p,.un] _ _;refine ay (jJ (rs:=(xs.map λx=>x*l%p).map D.int) t 3 ["numbers","last","prime","rests","number"] (oU rfl) (gN<|aa t 0) (by rw[ab];exact gR<|by lia) λX' cx=>?_) ?_;have t':=cx.at';exact W9.ints (λx=>x*l%p) (λx=>[.val<|bu xs,.val<|.int l,.val<|.int p,.un,.val<|.int x]) (λd hd=>aU t' 4) (λd hd e he=>aU t' 4) λd hd=>bU (eh (aa t' 4 rfl) (aa t' 1 rfl)<|Uf (E9 hp<|lo d hd)<|aR hlb<|ba (by decide)<|by decide) (aa t' 2 rfl) (by lia);refine eL 3 rfl ?_;refine aM<|cp<|aX t cP (ai (aX t cR (ai (W0.eq (Xe.Xk (dR (rs:=((xs.map λx=>x*l%p).map λr=>if 2*r>(p:Int)then r-p else r).map D.int) t ["numbers","last","prime","rests","rest"] (oU rfl) (gN<|aa t 3) (by rw[ab,ab];exact gR<|by lia) λX' cx=>?_))<|by unfold lJ;rw[bp (l:=xs)];rfl) av) ⟨_,rfl,by lia,rfl⟩) av) ⟨_,rfl,by lia,λhn=>j2 (dI _) hn,rfl⟩;have t':=cx.at';refine W9.ints (λr=>if 2*r>p then r-p else r) (λx=>[.val<|bu xs,.val<|.int l,.val<|.int p,.val<|bu (xs.map λx=>x*l%p),.val<|.int x]) (λd hd=>aU t' 4) (λd hd e he=>aU t' 4) λd hd=>?_;by_cases q:2*d>p;rw[ag q];exact ua (W5.eq (lY (eh ak (aa t' 4 rfl)<|gD (by decide)<|by decide)<|aa t' 2 rfl)<|aq q)<|cu (aa t' 4 rfl)<|aa t' 2 rfl;rw[af q];exact rh (W5.eq (lY (eh ak (aa t' 4 rfl)<|gD (by decide)<|by decide)<|aa t' 2 rfl)<|aj q)<|aa t' 4 rfl
end
def gW(g r:az)(m:Int)(i:Nat):az:=(List.range r.length).map λj=>if r.length-(g.length-1)<=j/\j<r.length-(g.length-1)+i then r.getD j 0-m*g.getD (j-(r.length-(g.length-1))) 0 else r.getD j 0
def eY(g r:az)(m:Int)(i:Nat):(gW g r m i).length=r.length:=by unfold gW;rw[ab,cY]
def kJ{r:az}{j:Nat}(h:j<r.length):(gW g r m i).getD j 0=if r.length-(g.length-1)<=j/\j<r.length-(g.length-1)+i then r.getD j 0-m*g.getD (j-(r.length-(g.length-1))) 0 else r.getD j 0:=by unfold gW;rw[ac,aw,bv h];rfl
def GM(g r:az)(m:Int):gW g r m 0=r:=by refine jZ (eY _ _ _ _) λj hj=>?_;rw[eY]at hj;rw[kJ hj,af<|by lia]
def GN{g r:az}{i:Nat}(m:Int)(hi:i<g.length-1)(h:g.length-1<=r.length):gW g r m (i+1)=(gW g r m i).set (r.length-(g.length-1)+i) ((gW g r m i).getD (r.length-(g.length-1)+i) 0-m*g.getD i 0):=by
 refine jZ (by rw[eY,bE,eY]) λj hj=>?_;rw[eY]at hj;have hs:r.length-(g.length-1)+i<r.length:=by lia
 rw[kJ hj,kJ hs,af (show¬(r.length-(g.length-1)<=r.length-(g.length-1)+i/\r.length-(g.length-1)+i<r.length-(g.length-1)+i)by lia)];rw[ac (l:=List.set _ _ _),oh];by_cases q:r.length-(g.length-1)+i=j;rw[ag q,ag<|by lia,ag<|by rw[eY];lia];show _=r.getD (r.length-(g.length-1)+i) 0-m*g.getD i 0;rw[<-q,show r.length-(g.length-1)+i-(r.length-(g.length-1))=i by lia];rw[af q,<-ac,kJ hj];by_cases z:r.length-(g.length-1)<=j/\j<r.length-(g.length-1)+i;rw[ag z,ag<|by lia];rw[af z,af<|by lia]
def LK{m:Int}(hb:BB b g)(hc:BB c r)(hm:m.natAbs<2 ^ c)(i:Nat):BB (c+b+1) (gW g r m i):=BB.of_get λj=>by by_cases hj:j<r.length;rw[kJ hj];have h1:=hc.get j;have up:∀{x:Nat},x<2 ^ c->x<2 ^ (c+b):=λh=>aR h<|ba (by decide) (by lia);split;exact tG (up h1)<|fY hm<|hb.get _;exact aR h1<|ba (by decide) (by lia);rw[bn<|by rw[eY];lia];exact ni<|by decide
def Lf(g:az):Nat->az->az->Option (az×az)|0,r,q=>some (r,q)|n+1,r,q=>if g.length<=r.length then(if(ax r).fmod (ax g)=0 then Lf g n (gW g r.dropLast ((ax r).fdiv<|ax g)<|g.length-1) (q++[(ax r).fdiv<|ax g])else none)else some (r,q)
def yc(f g:az):D:=match Lf g f.length f []with|none=>.Xf|some (r,q)=>if r.any (· !=0)=true then .Xf else aD<|bR q.reverse
theorem Mi{g:az}(hg:g≠[]):∀(n:Nat)(r q r' q':az),r.length<=n->Lf g n r q=some (r',q')->∃φ,Fs φ/\∀i,co r i=co r' i+cm g φ i
 |0,r,q,r',q',_,h=>by cases h;refine⟨λ_=>0,⟨0,λ_ _=>rfl⟩,λi=>?_⟩;have:=j9 g 0 (λ_=>0) i;simp only[dL]at this;rw[this];lia
 |n+1,r,q,r',q',hn,h=>by
  unfold Lf at h;by_cases h1:g.length<=r.length;rw[ag h1]at h;by_cases h2:(ax r).fmod (ax g)=0;rw[ag h2]at h;have hgp:=ar.mpr hg;have hr:r≠[]:=λz=>by rw[z]at h1;simp at h1;exact hg h1
  have er:=mC hr;have hl:r.dropLast.length+1=r.length:=by have:=bo List.length er;rw[aA]at this;simpa using this.symm
  obtain⟨φ,fφ,e⟩:=Mi hg n _ _ r' q' (by rw[eY];lia) h;have em:ax r=(ax r).fdiv (ax g)*ax g:=by have:=Ww (ax r)<|ax g;rw[h2,cn,dO]at this;exact this.symm
  generalize(ax r).fdiv (ax g)=m at em e;refine⟨λk=>φ k+m*(if r.dropLast.length-(g.length-1)<=k then(if k-(r.dropLast.length-(g.length-1))=0 then 1 else 0)else 0),fφ.add<|Fs.Zz (Fs.shift (φ:=λk=>if k=0 then 1 else 0) ⟨1,λi hi=>af<|by lia⟩ _) m,λi=>?_⟩;rw[HG,j9,z9 (φ:=λk=>if k=0 then 1 else 0)];have e0:=e i;have ed:∀j,cm g (λk=>if k=0 then 1 else 0) j=co g j:=λj=>by show mq g (λk=>if k=0 then 1 else 0) j g.length=_;rw[oH];by_cases hj:j<g.length;rw[ag ⟨aJ _,by lia⟩,jG];rw[af<|by lia];show(0:Int)=g.getD j 0;rw[bn<|by lia]
  have key:co r i=co (gW g r.dropLast m<|g.length-1) i+m*(if r.dropLast.length-(g.length-1)<=i then co g (i-(r.dropLast.length-(g.length-1)))else 0):=by
   rcases fT i r.dropLast.length with z |z |z;have ec:co r i=r.dropLast.getD i 0:=by
    show r.getD i 0=_
    conv=>lhs;rw[er]
    rw[ac,a8 z,<-ac]
   show _=(gW g r.dropLast m<|g.length-1).getD i 0+_;rw[ec,kJ z];by_cases y:r.dropLast.length-(g.length-1)<=i;rw[ag ⟨y,by lia⟩,ag y];show _=_+m*g.getD (i-(r.dropLast.length-(g.length-1))) 0;lia;rw[af λz=>y z.1,af y];lia;have ec:co r i=ax r:=by
    show r.getD i 0=_
    conv=>lhs;rw[er,z]
    rw[ac,aQ<|ao _,eI];rfl
   have el:g.getD (g.length-1) 0=ax g:=dy hg;have eq:co (gW g r.dropLast m<|g.length-1) i=0:=bn (by rw[eY];lia);rw[ec,eq,ag<|by lia,show i-(r.dropLast.length-(g.length-1))=g.length-1 by lia,em];show _=0+m*g.getD (g.length-1) 0;rw[el];lia;have ec:co r i=0:=bn (by lia);have eq:co (gW g r.dropLast m<|g.length-1) i=0:=bn (by rw[eY];lia);have eg:co g (i-(r.dropLast.length-(g.length-1)))=0:=bn (by lia);rw[ec,eq,eg];split<;>lia
  rw[key,e0];split;rw[ed];lia;lia;rw[af h2]at h;cases h;rw[af h1]at h;cases h;refine⟨λ_=>0,⟨0,λ_ _=>rfl⟩,λi=>?_⟩;have:=j9 g 0 (λ_=>0) i;simp only[dL]at this;rw[this];lia
def Qx{g:az}(rf:W2 f)(hg:g≠[])(h:yc f g≠.Xf):∃u,W2 u/\f=br u g:=by
 unfold yc at h;cases e:Lf g f.length f []with
 |none=>rw[e]at h;exact absurd rfl h
 |some p=>
  obtain⟨r',q'⟩:=p;rw[e]at h;by_cases z:r'.any (· !=0)=true;simp only[z,Av]at h;exact absurd rfl h;obtain⟨φ,⟨N,hN⟩,eφ⟩:=Mi hg f.length f [] r' q' (ao _) e;have hz:∀i,co r' i=0:=λi=>by
   rcases bA i r'.length with y |y;have Yt:∀x∈r',x=0:=λx hx=>by apply bz;intro hx0;exact z<|List.any_eq_true.mpr ⟨x,hx,by simpa using hx0⟩
   show r'.getD i 0=0;rw[ac,am y];exact Yt _<|cZ y;exact bn y
  refine⟨bR<|(List.range N).map φ,dI _,ly rf (dI _) λi=>?_⟩;have eu:co (bR<|(List.range N).map φ)=φ:=by funext i;rw[Ck];show((List.range N).map φ).getD i 0=φ i;rw[ac,aw];by_cases y:i<N;rw[bv y];rfl;rw[aI<|by simpa using y,hN i<|by lia];rfl
  have h1:=iN (tL (bR<|(List.range N).map φ) g) i;rw[eu]at h1;have h2:=eφ i;rw[hz i,fB]at h2;exact h2.trans h1.symm
def Wi(R:az->az->dP):Option (az×az)->Out|none=>.rt .Xf|some p=>.nx<|R p.1 p.2
def Js{a b:Int}(h:a.natAbs<2 ^ c)(hb:b≠0)(hm:a.fmod b=0):(a.fdiv b).natAbs<2 ^ c:=by
 have e:a=b*a.fdiv b:=by have:=Ww a b;rw[hm,cn]at this;exact this.symm
 have e2:a.natAbs=b.natAbs*(a.fdiv b).natAbs:=by
  conv=>lhs;rw[e]
  exact dQ _ _
 have:1<=b.natAbs:=by lia
 have:=bF (a.fdiv b).natAbs this;lia
theorem Ij{X:Cx}(g:az)(R:az->az->dP)(hg:g≠[])(hl:ax g≠0)(hb:BB 50000 g)(h1:∀r q,r.length<100->W5 X (R r q) c (decide<|g.length<=r.length))(h2:∀ys a q e,ys.length<100->g.length<=ys.length+1->q.length<500->BB e (ys++[a])->e<=900000->a.fmod (ax g)=0->W4 X (R (ys++[a]) q) body (.nx<|R (gW g ys (a.fdiv<|ax g)<|g.length-1)<|q++[a.fdiv<|ax g]))(h3:∀ys a q,ys.length<100->g.length<=ys.length+1->a.fmod (ax g)≠0->W4 X (R (ys++[a]) q) body (.rt .Xf)):∀(n:Nat)(r q:az)(e:Nat),r.length<=n->r.length<100->q.length+n<500->BB e r->e+n*50001<=900000->∃m,XD X c body m (R r q) (Wi R<|Lf g n r q)
 |0,r,q,e,hn,hr,hq,er,eb=>⟨0,.stop<|W5.eq (h1 r q hr)<|aj<|by have:=ar.mpr hg;lia⟩
 |n+1,r,q,e,hn,hr,hq,er,eb=>by
  unfold Lf;by_cases h:g.length<=r.length;rw[ag h];have hgp:=ar.mpr hg;have hrn:r≠[]:=λz=>by rw[z]at h;simp at h;exact hg h
  have es:=mC hrn;have hlen:r.dropLast.length+1=r.length:=by have:=bo List.length es;rw[aA]at this;simpa using this.symm
  have la:(ax r).natAbs<2 ^ e:=er.last;have bd:BB e r.dropLast:=λx hx=>er x<|(Bo r).subset hx;by_cases hm:(ax r).fmod (ax g)=0;rw[ag hm];have mb:=Js la hl hm;obtain⟨m,w⟩:=Ij g R hg hl hb h1 h2 h3 n (gW g r.dropLast ((ax r).fdiv<|ax g)<|g.length-1) (q++[(ax r).fdiv<|ax g]) (e+50000+1) (by rw[eY];lia) (by rw[eY];lia) (by simp;lia) (LK hb bd mb _) (by rw[ig]at eb;lia);have:=h2 r.dropLast (ax r) q e (by lia) (by lia) (by lia) (by rw[<-es];exact er) (by lia) hm;rw[<-es]at this;exact⟨m+1,.step (W5.eq (h1 r q hr)<|aq h) this w⟩;rw[af hm];have:=h3 r.dropLast (ax r) q (by lia) (by lia) hm;rw[<-es]at this;exact⟨0,.ret (W5.eq (h1 r q hr)<|aq h) this⟩;rw[af h];exact⟨0,.stop<|W5.eq (h1 r q hr)<|aj h⟩
def KH{X:Cx}{rest:List Stmt}{d:D}(t:At X N sc){R:az->az->dP}{o:Option (az×az)}(h:∃m,XD X c body m U<|Wi R o)(hn:o=none->d=.Xf)(hs:∀r q,o=some (r,q)->W4 X (R r q) rest (.rt d)):W4 X U (.While c body [] pos::rest) (.rt d):=by cases o with|none=>rw[hn rfl];exact ff (iu t h)|some p=>exact ay (iu t h)<|hs p.1 p.2 rfl
def gc(ds:ck)(d:D):Prop:=∃f g:az,ds=[aD f,aD g]/\f.length<=9/\g.length<=9/\g≠[]/\ax g≠0/\BB 1200 f/\BB 50000 g/\d=yc f g
def t3:∀ds d,gc ds d->ds.length=2:=by rintro _ _ ⟨a,b,rfl,_⟩;rfl
theorem IG:∀(n:Nat)(r q r' q':az),Lf g n r q=some (r',q')->r'.length<=r.length/\q'.length<=q.length+n
 |0,r,q,r',q',h=>by cases h;exact⟨ao _,ao _⟩
 |n+1,r,q,r',q',h=>by unfold Lf at h;by_cases h1:g.length<=r.length;rw[ag h1]at h;by_cases h2:(ax r).fmod (ax g)=0;rw[ag h2]at h;obtain⟨a,b⟩:=IG n _ _ r' q' h;rw[eY,iT]at a;rw[aA]at b;simp at b;lia;rw[af h2]at h;cases h;rw[af h1]at h;cases h;lia
section
variable {X:Cx}
def wx(h:fA P w K mg base k kP i9 X)(Xu:mg "list"=none)(W7:mg "len"=none)(zAP:mg "divmod"=none)(W6:mg "range"=none)(zD7:mg "any"=none)(cR:Callee X "row_of" lL):Go X kP i9 gc:=by
 rintro ds d ⟨f,g,rfl,hf,hgl,hg,hl,bf,bg,rfl⟩;have t:=h.at';haveI:=h.XM;have b1:=h.bt W6;have b2:=h.bt W7;have b3:=h.bt Xu;have b4:=h.bt zAP;have b5:=h.bt zD7;have hgp:=ar.mpr hg;show W4 X [.val<|aD f,.val<|aD g,.un,.un,.un,.un,.un,.un] _ _;refine ay (OL (us:=f.map D.int) (ws:=([]:az).map D.int) t 2 3 (lz t b3<|W0.qt<|aa t 0) (fg av)<|by decide) ?_;refine KH t (Ij g (λr q=>[.val<|aD f,.val<|aD g,.own<|r.map D.int,.own<|q.map D.int,.un,.un,.un,.un]) hg hl bg (λr q hr=>?_) (λys a q e hy hgy hq er he hm=>?_) (λys a q hy hgy hm=>?_) f.length f [] 1200 (ao _) (by lia) (by simp;lia) bf<|by lia) (λe=>?_) λr' q' e=>?_;refine W5.eq (xg (bX t b2<|dw t 2 rfl)<|bX t b2<|W0.qt<|aa t 1) ?_;rw[ab,ab];by_cases z:g.length<=r.length;rw[aq z,aq<|by lia];rw[aj z,aj<|by lia];have mb:=Js (er a<|by simp) hl hm;have by':BB e ys:=λx hx=>er x (by simp[hx]);generalize hmm:a.fdiv (ax g)=m at mb;generalize hsh:ys.length-(g.length-1)=s0;refine W4.weak (W1:=[.val<|aD f,.val<|aD g,.own<|(gW g ys m<|g.length-1).map D.int,.own<|(q++[m]).map D.int,.val<|.int m,.val<|.int 0,.val<|.int (s0:Int),.un]) ?_<|.keep<|.keep<|.keep<|.keep<|.forget<|.forget<|.forget<|.keep .nil;refine ay (ρ':=[.val<|aD f,.val<|aD g,.own<|ys.map D.int,.own<|q.map D.int,.val<|.int m,.val<|.int 0,.un,.un]) (XX.eq (Eu (xs:=ys.map D.int) (n:=a) (m:=ax g) t 2 b4 (by rw[bj];rfl) (bM (W0.qt<|aa t 1) (gu ak)<|fL hg) hl<|wt t<|fX (c9 t 4)<|fX (c9 t 5) sP)<|by rw[hmm,hm];rfl) ?_;refine ay (fx (W5.eq (nR (aa t 5) ak) rfl) dM) ?_;refine ay (ρ':=[.val<|aD f,.val<|aD g,.own<|ys.map D.int,.own<|(q++[m]).map D.int,.val<|.int m,.val<|.int 0,.un,.un]) (XX.eq (jp t 3 rfl (aa t 4)<|by rw[ab];exact gR<|by lia)<|by rw[bj];rfl) ?_;refine ay (df t 6<|W0.eq (dj (cu (bX t b2<|dw t 2 rfl)<|bX t b2<|W0.qt<|aa t 1) ak) (show _=D.int (s0:Int)by rw[ab,ab];congr 1;lia)) ?_;refine aM<|gY t (eD t b1 (cu (bX t b2<|W0.qt<|aa t 1) ak) (by lia)<|by rw[ab];lia)<|Xc.Xl (λi=>[.val<|aD f,.val<|aD g,.own<|(gW g ys m i).map D.int,.own<|(q++[m]).map D.int,.val<|.int m,.val<|.int 0,.val<|.int (s0:Int),.un]) (λi d hi=>?_) (by rw[GM];rfl) ?_;obtain⟨YR,rfl⟩:=gC hi;have Yb:i<g.length-1:=by rw[ab]at YR;lia
 have hlen:=eY g ys m i;have e1:((s0:Int)+(i:Int))=((s0+i:Nat):Int):=by lia
 have hu:((gW g ys m i).map D.int)[s0+i]?=some (.int<|(gW g ys m i).getD (s0+i) 0):=by rw[aw,ac,am (show s0+i<(gW g ys m i).length by lia)];rfl
 refine⟨_,c9 t 7,W4.weak (aM<|v4 (j:=s0+i) t 2 zn rfl (dj (aa t 6)<|aa t 7) ?_ hu (eh (i:=m) (j:=g.getD i 0) (aa t 4) (bM (W0.qt<|aa t 1) (aa t 7)<|dY<|by lia)<|Pc mb (bg.get i) (by lia)<|by lia) trivial) ?_⟩;rw[ab];exact nQ (by lia) (by lia) (by lia);rw[GN m Yb<|by lia,hsh,iS];exact .keep<|.keep<|.keep<|.keep<|.keep<|.keep<|.keep<|.forget .nil;have e:(cH 0 (((g.map D.int).length:Int)-1).toNat).length=g.length-1:=by simp[cH]
 rw[e];refine ay (Eu (xs:=ys.map D.int) (n:=a) (m:=ax g) t 2 b4 (by rw[bj];rfl) (bM (W0.qt<|aa t 1) (gu ak)<|fL hg) hl<|wt t<|fX (c9 t 4)<|fX (c9 t 5) sP) ?_;exact ff<|fF (W5.eq (nR (aa t 5) ak)<|by simpa using hm)<|aM<|cp pL;show yc f g=.Xf;unfold yc;rw[e];obtain⟨l1,l2⟩:=IG _ _ _ _ _ e;have ed:yc f g=if r'.any (· !=0)=true then .Xf else aD (bR q'.reverse):=by unfold yc;rw[e]
 rw[ed];by_cases z:r'.any (· !=0)=true;rw[ag z];exact aM<|cp<|rh (W5.eq (C9<|B1<|Jw t b5<|dw t 2 rfl)<|by rw[z];rfl) pL;rw[af z];have z':r'.any (· !=0)=false:=by simpa using z
 exact aM<|cp<|ua (W5.eq (C9<|B1<|Jw t b5<|dw t 2 rfl)<|by rw[z'];rfl)<|aX t cR (ai (d:=bu q'.reverse) (W0.eq (Xe.Xk<|P3 (dw t 3 rfl)<|gu ak)<|by rw[<-N8]) av) ⟨q'.reverse,rfl,by rw[cj];simp at l2;lia,rfl⟩
end
structure S0(f g:az):Prop where
 rf:W2 f
 rg:W2 g
 lf:f.length<=9
 lg:g.length<=9
 bf:BB 1200 f
 bg:BB 1200 g
def Tp(f g:az):Int:=((Nat.gcd (ax f).natAbs (ax g).natAbs:Nat):Int)
def jW(P:Int)(f g:az):az:=bh<|bR<|lJ (Le P f g) (Tp f g) P
def OK(f g:az)(P:Nat):D:=if ax f%P=0\/ax g%P=0 then .Xf else if(Le P f g).length=1 then aD [1]else if(!kF (yc f<|jW P f g)&& !kF (yc g<|jW P f g))=true then aD (jW P f g)else .Xf
def fz(h:W2 f):W2 (bh f):=by
 unfold bh;split;have e:(ga f).map (λx=>-x)=(ga f).map λx=>(-1)*x:=cA λx _=>by lia
 rw[e];exact l8 (MT h) (by decide);exact MT h
def jd(h:W2 f):Xy (co f) (co<|bh f):=by refine(y8 f h).trans ?_;unfold bh;split;refine(Xy.scale (c:=-1) (by decide) λi=>?_).symm;show((ga f).map λx=>-x).getD i 0=-1*(ga f).getD i 0;rw[eZ (φ:=λx=>-x)<|by rfl];lia;exact Xy.refl _
def eG(f:az):(bh f).length=f.length:=by unfold bh;split;rw[ab,oM];exact oM f
def lI(h:BB k f):BB k (bh f):=by unfold bh;split;intro x hx;obtain⟨y,hy,rfl⟩:=aZ.mp hx;rw[Tj];exact Hj h y hy;exact Hj h
def jK(h:W2 f):bh (bh f)=bh f:=jc (fz h) h (jd h).symm
theorem w4(P:Int):∀(n:Nat)(f g:az),(ir P n f g).length<=max f.length g.length|0,f,g=>by show f.length<=_;lia|n+1,f,g=>by unfold ir;split;lia;rename_i q;have gp:=ar.mpr q;have ml:=qX P g;have ih:=w4 P n (jh P g)<|bR<|iX P (jh P g) f.length f;have rl:=sG (P:=P) (g:=jh P g) f.length f (ao _) (by lia);have tl:=fK<|iX P (jh P g) f.length f;lia
def Pp(hP:K3 P)(hx:Zx P xs)(hn:xs≠[])(hl:¬(P:Int) ∣ l):W2 (lJ xs l P)/\BB 4423 (lJ xs l P)/\bR (lJ xs l P)=lJ xs l P:=by
 have p2:=hP.1.two;have pb:=hP.2;have hln:lJ xs l P≠[]:=λz=>by unfold lJ at z;exact hn<|WY.mp z
 have ok:W2 (lJ xs l P):=by refine .inr ⟨_,_,mC hln,?_⟩;have e:ax (lJ xs l P)=(λx=>if 2*(x*l%(P:Int))>P then x*l%P-P else x*l%P) (ax xs):=jL xs (λx=>if 2*(x*l%(P:Int))>P then x*l%P-P else x*l%P) (by simp;lia);rw[e];have hz:ax xs*l%P≠0:=λz=>hP.1.X0 (hx.last hn) hl<|nq z;have r0:=bO (ax xs*l) (show(P:Int)≠0 by lia);have r1:=bK (ax xs*l) (show(0:Int)<P by lia);by_cases q:2*(ax xs*l%(P:Int))>P;simp only[ag q];lia;simp only[af q];exact hz
 refine⟨ok,λx Yw=>?_,ly (dI _) ok λi=>fu _ i⟩;unfold lJ at Yw;obtain⟨y,_,rfl⟩:=aZ.mp Yw;have r0:=bO (y*l) (show(P:Int)≠0 by lia);have r1:=bK (y*l) (show(0:Int)<P by lia);by_cases q:2*(y*l%(P:Int))>P;simp only[ag q];lia;simp only[af q];lia
def PD{P:Nat}{g:az}(h:¬(P:Int) ∣ ax f):¬(P:Int) ∣ Tp f g:=λz=>h<|Int.dvd_trans z<|c8.mpr<|gx _ _
structure MF(P:Nat)(f g:az):Prop where
 ok:W2 (jW P f g)
 bb:BB 4423 (jW P f g)
 ln:(jW P f g).length=(Le P f g).length
 ne:jW P f g≠[]
def ID{f g:az}(hP:K3 P)(hf:f≠[])(hg:g≠[])(nf:¬(P:Int) ∣ ax f)(ng:¬(P:Int) ∣ ax g):MF P f g/\Zx P (Le P f g):=by
 obtain⟨i1,n1⟩:=sH hP.1 hf nf;obtain⟨i2,n2⟩:=sH hP.1 hg ng;obtain⟨k1,k2,k3⟩:=tT hP.1 (gE P g).length (gE P f) (gE P g) (ao _) i1 i2 n1;obtain⟨o1,o2,o3⟩:=Pp hP k2 k1<|PD (g:=g) nf;have ll:(lJ (Le P f g) (Tp f g) P).length=(Le P f g).length:=by unfold lJ;rw[ab]
 have ln:(jW P f g).length=(Le P f g).length:=by unfold jW;rw[eG,o3,ll]
 refine⟨⟨?_,?_,ln,λz=>?_⟩,k2⟩;unfold jW;rw[o3];exact fz o1;unfold jW;rw[o3];exact lI o2;rw[z]at ln;exact k1<|au ln.symm
def nd{x:Int}(hP:K3 P)(h:¬x%P=0):¬(P:Int) ∣ x:=λz=>h<|Vh z
def TU(hP:K3 P)(s:S0 f g)(hf:f≠[])(hg:g≠[]):OK f g P=.Xf\/OK f g P=aD (bh<|sh f g):=by
 unfold OK;by_cases h1:ax f%P=0\/ax g%P=0;rw[ag h1];exact .inl rfl;rw[af h1];have nf:¬(P:Int) ∣ ax f:=nd hP λz=>h1<|.inl z;have ng:¬(P:Int) ∣ ax g:=nd hP λz=>h1<|.inr z;by_cases h2:(Le P f g).length=1;rw[ag h2,Dx hP.1 s.rf s.rg hf hg nf ng h2];exact .inr rfl;rw[af h2];by_cases h3:(!kF (yc f<|jW P f g)&& !kF (yc g<|jW P f g))=true;rw[ag h3];right;obtain⟨mf,_⟩:=ID hP hf hg nf ng;rw[jm]at h3;have q1:yc f (jW P f g)≠.Xf:=λz=>by rw[z]at h3;exact absurd h3.1<|by decide
 have q2:yc g (jW P f g)≠.Xf:=λz=>by rw[z]at h3;exact absurd h3.2<|by decide
 obtain⟨u,ru,eu⟩:=Qx s.rf mf.ne q1;obtain⟨v,rv,ev⟩:=Qx s.rg mf.ne q2;have:=Dw hP.1 s.rf s.rg hf hg nf ng ru rv mf.ok mf.ln eu ev;rw[this];have e:bh (jW P f g)=jW P f g:=by unfold jW;exact jK<|dI _
 rw[e];rw[af h3];exact .inl rfl
def rQ(ds:ck)(d:D):Prop:=∃(f g:az)(P:Nat),ds=[aD f,aD g,.int P]/\K3 P/\S0 f g/\f≠[]/\g≠[]/\d=OK f g P
def AS:∀ds d,rQ ds d->ds.length=3:=by rintro _ _ ⟨a,b,p,rfl,_⟩;rfl
section
variable {X:Cx}
def FO(h:fA P w K mg base k rE nD X)(W7:mg "len"=none)(cM:Callee X "shared_modulo" lS)(cL:Callee X "lifted" Au)(cG:Callee X "common_divisor" ic)(cW:Callee X "whole_quotient" gc):Go X rE nD rQ:=by
 rintro ds d ⟨f,g,p,rfl,hp,s,hf,hg,rfl⟩;have t:=h.at';haveI:=h.XM;have b2:=h.bt W7;have p2:=hp.1.two;have lf:=s.lf;have lg:=s.lg;show W4 X [.val<|aD f,.val<|aD g,.val<|.int p,.un,.un,.un] _ _;have tf:∀{U:dP}{a:Expr}{pos:Pos},W0 X U a (.int<|ax f%p)->W5 X U a (decide<|ax f%(p:Int)≠0)->True:=λ_ _=>trivial;unfold OK;by_cases h1:ax f%p=0\/ax g%p=0;rw[ag h1];refine ff<|fF (XT.toT ?_)<|aM<|cp pL;by_cases z:ax f%p=0;exact t7<|W5.eq (eO (bU (i:=ax f) (bM (W0.qt<|aa t 0) (gu ak)<|fL hf) (aa t 2)<|by lia) ak)<|aq z;exact mQ (W5.eq (eO (bU (i:=ax f) (bM (W0.qt<|aa t 0) (gu ak)<|fL hf) (aa t 2)<|by lia) ak)<|aj z)<|pJ<|W5.eq (eO (bU (i:=ax g) (bM (W0.qt<|aa t 1) (gu ak)<|fL hg) (aa t 2)<|by lia) ak)<|aq<|h1.resolve_left z;rw[af h1];have z1:¬ax f%p=0:=λz=>h1<|.inl z;have z2:¬ax g%p=0:=λz=>h1<|.inr z;have nf:¬(p:Int) ∣ ax f:=nd hp z1;have ng:¬(p:Int) ∣ ax g:=nd hp z2;obtain⟨mf,im⟩:=ID hp hf hg nf ng;have ml1:(gE p f).length=f.length:=by unfold gE;rw[ab]
 have ml2:(gE p g).length=g.length:=by unfold gE;rw[ab]
 have sl:=w4 (p:Int) (gE p g).length (gE p f)<|gE p g;have sl':(Le p f g).length<=9:=by show(ir _ _ _ _).length<=9;lia
 refine ay (fx (XT.toT<|mQ (W5.eq (eO (bU (i:=ax f) (bM (W0.qt<|aa t 0) (gu ak)<|fL hf) (aa t 2)<|by lia) ak)<|aj z1)<|pJ<|W5.eq (eO (bU (i:=ax g) (bM (W0.qt<|aa t 1) (gu ak)<|fL hg) (aa t 2)<|by lia) ak)<|aj z2) dM) ?_;refine ay (df t 3<|aX t cM (ai (aa t 0)<|ai (aa t 1)<|ai (aa t 2) av) ⟨f,g,p,rfl,hp,hf,hg,by lia,by lia,nf,ng,rfl⟩) ?_;by_cases h2:(Le p f g).length=1;rw[ag h2];exact ff<|fF (W5.eq (eO (bX t b2<|W0.ql<|aa t 3) ak)<|aq<|by rw[ab,h2];rfl)<|aM<|cp<|bH<|ai ak av;rw[af h2];refine ay (fx (W5.eq (eO (bX t b2<|W0.ql<|aa t 3) ak)<|aj<|by rw[ab];lia) dM) ?_;have gb:(Tp f g).natAbs<2 ^ 1200:=by
  have:Nat.gcd (ax f).natAbs (ax g).natAbs<=(ax f).natAbs:=UR (by have:ax f≠0:=cz s.rf hf;lia)<|gx _ _
  unfold Tp;rw[eR];exact cb this<|aR s.bf.last<|ba (by decide)<|by decide
 refine ay (df (d:=aD<|jW p f g) t 4<|aX t cL (ai (aa t 3)<|ai (aX t cG (ai (bM (W0.qt<|aa t 0) (gu ak)<|fL hf)<|ai (bM (W0.qt<|aa t 1) (gu ak)<|fL hg) av) ⟨_,_,rfl,rfl⟩)<|ai (aa t 2) av) ⟨Le p f g,Tp f g,p,rfl,hp,by lia,im.2,gb,rfl⟩) ?_;have lr:(jW p f g).length<=9:=by rw[mf.ln];exact sl'
 have ls:=cz mf.ok mf.ne;have cw1:gc [aD f,aD<|jW p f g] (yc f<|jW p f g):=⟨f,_,rfl,s.lf,lr,mf.ne,ls,s.bf,mf.bb.mono<|by decide,rfl⟩;have cw2:gc [aD g,aD<|jW p f g] (yc g<|jW p f g):=⟨g,_,rfl,s.lg,lr,mf.ne,ls,s.bg,mf.bb.mono<|by decide,rfl⟩;refine ay (df (d:=.bl (!kF (yc f<|jW p f g)&& !kF (yc g<|jW p f g))) t 5 ?_) ?_;cases q:kF (yc f<|jW p f g)with|true=>exact W0.eq (PU<|W0.eq (C8<|aX t cW (ai (aa t 0)<|ai (aa t 4) av) cw1)<|by rw[q];rfl) rfl|false=>exact W0.eq (PR (W0.eq (C8<|aX t cW (ai (aa t 0)<|ai (aa t 4) av) cw1)<|by rw[q];rfl)<|Sz<|C8<|aX t cW (ai (aa t 1)<|ai (aa t 4) av) cw2)<|by simp
 by_cases h3:(!kF (yc f<|jW p f g)&& !kF (yc g<|jW p f g))=true;rw[ag h3];exact aM<|cp<|ua (W5.eq (B1<|aa t 5) h3)<|aa t 4;rw[af h3];exact aM<|cp<|rh (W5.eq (B1<|aa t 5)<|by simpa using h3) pL
end
set_option maxHeartbeats 8000000
def xt(l:Nat):Nat:=[256375,102550,41020,16408,6563,2625,1050,420,168,67].getD l 67
def YZ(f g:az):Prop:=W2 f/\W2 g/\f.length<=9/\∃A B,BB A f/\BB B g/\((A+1<=67/\B+1<=67/\g.length<=9)\/(A+1<=xt f.length/\B+1<=xt (f.length-1)/\g.length<f.length))
def Wh:∀lf,lf<10->∀l,l<lf->1<=l->xt lf+(lf+1-l)*(2*xt (lf-1))+xt (lf-1)<=1000000/\xt lf+(lf+1-l)*xt (lf-1)<=xt (l-1)/\xt (lf-1)<=xt l:=by decide
def Wg:∀lf,lf<10->∀l,l<10->1<=l->67+(lf+1-l)*67<=xt (l-1)/\67<=xt l/\67+(lf+1-l)*134+67<=1000000:=by decide
def YZ.div(h:YZ f g)(hg:g≠[]):Ar f g:=by obtain⟨rf,rg,lf,A,B,hA,hB,hc⟩:=h;have lg:=cz rg hg;have gp:=ar.mpr hg;rcases hc with⟨a,b,l9⟩ |⟨a,b,ll⟩;have:=Wg f.length (by lia) g.length (by lia) gp;have m:=cc (f.length+1-g.length) (show 2*B+1<=134 by lia);exact⟨by lia,by lia,lg,A,B,hA,hB,by lia⟩;have:=Wh f.length (by lia) g.length ll gp;have m:=cc (f.length+1-g.length) (show 2*B+1<=2*xt (f.length-1)by lia);exact⟨by lia,by lia,lg,A,B,hA,hB,by lia⟩
def YZ.next(h:YZ f g)(hg:g≠[]):YZ g (fG f g):=by let⟨rf,rg,lf,A,B,hA,hB,hc⟩:=h;have lg:=cz rg hg;have gp:=ar.mpr hg;have hr:=jq (f:=f) hg;have rb:=OO lg hA hB;rcases hc with⟨a,b,l9⟩ |⟨a,b,ll⟩;have:=Wg f.length (by lia) g.length (by lia) gp;have m:=cc (f.length+1-g.length) (show B+1<=67 by lia);exact⟨rg,mM f g,by lia,B,_,hB,rb,.inr ⟨by lia,by lia,hr⟩⟩;have:=Wh f.length (by lia) g.length ll gp;have m:=cc (f.length+1-g.length) b;exact⟨rg,mM f g,by lia,B,_,hB,rb,.inr ⟨by lia,by lia,hr⟩⟩
def YZ.start(rf:W2 f)(rg:W2 g)(lf:f.length<=9)(lg:g.length<=9)(hf:BB 66 f)(hg:BB 66 g):YZ f g:=⟨rf,rg,lf,66,66,hf,hg,.inl ⟨by decide,by decide,lg⟩⟩
def YZ.plain(h:YZ f g):YZ (bh f) (bh g):=by let⟨rf,rg,lf,A,B,hA,hB,hc⟩:=h;refine⟨fz rf,fz rg,by rwa[eG],A,B,lI hA,lI hB,?_⟩;rwa[eG,eG]
theorem Iy{X:Cx}(R:az->az->dP)(h1:∀f g,W5 X (R f g) c (!decide (g=[])))(h2:∀f g,g≠[]->YZ f g->W4 X (R f g) body (.nx<|R g<|fG f g)):∀(n:Nat)(f g:az),g.length<=n->YZ f g->∃m,XD X c body m (R f g) (.nx<|R (sh f g) [])|0,f,g,hn,hi=>by have:g=[]:=au (by lia);subst this;exact⟨0,.stop<|W5.eq (h1 f []) rfl⟩|n+1,f,g,hn,hi=>by by_cases hg:g=[];subst hg;exact⟨0,.stop<|W5.eq (h1 f []) rfl⟩;rw[nv hg];have hr:=jq (f:=f) hg;obtain⟨m,w⟩:=Iy R h1 h2 n g (fG f g) (by lia)<|hi.next hg;exact⟨m+1,.step (W5.eq (h1 f g)<|by rw[aj hg];rfl) (h2 f g hg hi) w⟩
theorem GU:∀(n:Nat)(f g:az),g.length<=n->YZ f g->(sh f g).length<=9|0,f,g,hn,hi=>by have:g=[]:=au (by lia);subst this;exact hi.2.2.1|n+1,f,g,hn,hi=>by by_cases hg:g=[];subst hg;exact hi.2.2.1;rw[nv hg];have hr:=jq (f:=f) hg;exact GU n g (fG f g) (by lia)<|hi.next hg
def Er(g:az):sh [] g=g:=by by_cases hg:g=[];subst hg;rfl;rw[nv hg,Mb,tU]
def C5(D0:Nat->D):Q7->D|[]=>.Xf|b::bs=>if kF (D0 b)=true then C5 D0 bs else D0 b
def PY{X:Cx}{rest:List Stmt}{bs:Q7}{D0:Nat->D}(t:At X N sc)(hi:X5 X R tg it ((bs.map λb:Nat=>(b:Int)).map D.int))(h1:∀b,b∈bs->kF (D0 b)=true->∃W1,Yr X R tg (.int (b:Int)) W1/\W4 X W1 body (.nx R))(h2:∀b,b∈bs->kF (D0 b)=false->∃W1,Yr X R tg (.int (b:Int)) W1/\W4 X W1 body (.rt<|D0 b))(h3:W4 X R rest (.rt .Xf))(hs:∀v,foldedSetIterable it X.env v=pure v:=by intro _;rfl):W4 X R (.For tg it body [] pos::rest) (.rt<|C5 D0 bs):=by
 have key:∀cs:Q7,(∀b∈cs,b∈bs)->(C5 D0 cs=.Xf/\Xc X tg body ((cs.map λb:Nat=>(b:Int)).map D.int) R (.nx R))\/Xc X tg body ((cs.map λb:Nat=>(b:Int)).map D.int) R (.rt<|C5 D0 cs):=by
  intro cs;induction cs with
  |nil=>intro _;exact .inl ⟨rfl,.nil⟩
  |cons b cs ih=>
   intro hc;unfold C5;cases q:kF (D0 b)with
   |true=>
    rw[ag rfl];obtain⟨W1,g1,g2⟩:=h1 b (hc b<|by simp) q;rcases ih λx hx=>hc x (by simp[hx])with⟨e,r⟩ |r
    exact .inl ⟨e,.cons g1 g2 r⟩;exact .inr<|.cons g1 g2 r
   |false=>rw[af aW];obtain⟨W1,g1,g2⟩:=h2 b (hc b<|by simp) q;exact .inr<|.ret g1 g2
 rcases key bs λ_ h=>h with⟨e,r⟩ |r
 rw[e];exact ay (gY t hi r (hs:=hs)) h3;exact ff<|gY t hi r (hs:=hs)
def MA{b:Nat}(hb:b∈[61,127,521,1279,4423]):N5 1 (b:Int):=by simp only[aF,List.not_mem_nil,or_false]at hb;exact⟨by lia,by lia,by decide⟩
def Mz(b:Nat):D.int (1*2 ^ ((b:Int)).toNat-1)=D.int ((2 ^ b-1:Nat):Int):=by have h:1<=2 ^ b:=iA;congr 1;rw[bQ,bS,Qu h];simp
def RD{b:Nat}(hb:b∈[61,127,521,1279,4423]):K3 (2 ^ b-1):=by
 have up:∀{b:Nat},b<=4423->2 ^ b-1<2 ^ 4423:=λ{b}h=>by have h1:=ba (show 0<2 by decide) h;have h2:1<=2 ^ b:=iA;lia
 rcases aF.mp hb with e |hb;subst e;exact⟨RC,up<|by decide⟩;rcases aF.mp hb with e |hb;subst e;exact⟨OY,up<|by decide⟩;rcases aF.mp hb with e |hb;subst e;exact⟨OX,up<|by decide⟩;rcases aF.mp hb with e |hb;subst e;exact⟨Mt,up<|by decide⟩;rcases aF.mp hb with e |hb;subst e;exact⟨Ms,up<|by decide⟩;exact nomatch hb
def OD(f g:az):D:=C5 (λb=>OK f g<|2 ^ b-1) [61,127,521,1279,4423]
def TM(s:S0 f g)(hf:f≠[])(hg:g≠[]):OD f g=.Xf\/OD f g=aD (bh<|sh f g):=by
 unfold OD;have key:∀cs:Q7,(∀b∈cs,b∈[61,127,521,1279,4423])->C5 (λb=>OK f g<|2 ^ b-1) cs=.Xf\/C5 (λb=>OK f g<|2 ^ b-1) cs=aD (bh<|sh f g):=by intro cs;induction cs with|nil=>intro _;exact .inl rfl|cons b cs ih=>intro hc;unfold C5;by_cases q:kF (OK f g<|2 ^ b-1)=true;rw[ag q];exact ih λx hx=>hc x (by simp[hx]);rw[af q];exact TU (RD<|hc b<|by simp) s hf hg
 exact key _ λ_ h=>h
def jE(ds:ck)(d:D):Prop:=∃f g:az,ds=[aD f,aD g]/\S0 f g/\f≠[]/\g≠[]/\d=OD f g
def q8:∀ds d,jE ds d->ds.length=2:=by rintro _ _ ⟨a,b,rfl,_⟩;rfl
def p0(ds:ck)(d:D):Prop:=∃f g:az,ds=[aD f,aD g]/\S0 f g/\YZ f g/\d=aD (bh<|sh f g)
def kj(ds:ck)(d:D):Prop:=∃f g:az,ds=[aD f,aD g]/\YZ f g/\d=aD (bh<|sh f g)
def sW:∀ds d,kj ds d->ds.length=2:=by rintro _ _ ⟨a,b,rfl,_⟩;rfl
def za:∀ds d,p0 ds d->ds.length=2:=by rintro _ _ ⟨a,b,rfl,_⟩;rfl
section
variable {X:Cx}
def vE(h:fA P w K mg base k kh iI X)(cP:Callee X "plain_row" jM)(cR:Callee X "rest_of" wM):Go X kh iI kj:=by rintro ds d ⟨f,g,rfl,hi,rfl⟩;have t:=h.at';haveI:=h.XM;have hl:=GU g.length f g (ao _) hi;have hk:=oC hi.1 hi.2.1;show W4 X [.val<|aD f,.val<|aD g] _ _;refine ay (iu t<|Iy (λf g=>[.val<|aD f,.val<|aD g]) (λf g=>?_) (λf g hg hi=>?_) g.length f g (ao _) hi) ?_;exact kM t (W0.p<|aa t 1) (W0.p (d:=aD [])<|bH av) (bJ _) (bJ _) (by rw[gH]);exact aM<|qR t 0 1 (aa t 1) (aX t cR (ai (aa t 0)<|ai (aa t 1) av) ⟨f,g,rfl,hi.div hg,rfl⟩) (by decide);exact aM<|cp<|aX t cP (ai (aa t 0) av) ⟨sh f g,rfl,by lia,j2 hk,rfl⟩
def uf(h:fA P w K mg base k jC iw X)(cS:Callee X "shared_by" rQ)(gP:∃a,mg "PRIME_BITS"=some (.ref a)/\S9 K a [61,127,521,1279,4423]):Go X jC iw jE:=by
 rintro ds d ⟨f,g,rfl,s,hf,hg,rfl⟩;have t:=h.at';haveI:=h.XM;obtain⟨pa,gm,gk⟩:=gP;have gm':X.mg "PRIME_BITS"=some (.ref pa):=by rw[h.Ze];exact gm
 have gk':S9 X.K pa [61,127,521,1279,4423]:=by rw[h.k'];exact gk
 show W4 X [.val<|aD f,.val<|aD g,.un,.un] _ _;refine PY t (Nn t gm' gk') (λb hb hn=>?_) (λb hb hn=>?_)<|aM<|cp pL;refine⟨_,c9 t 2,W4.weak (ay (df t 3<|aX t cS (ai (aa t 0)<|ai (aa t 1)<|ai (W0.eq (cu (C7 ak (aa t 2)<|MA hb) ak)<|Mz b) av) ⟨f,g,_,rfl,RD hb,s,hf,hg,rfl⟩)<|aM<|fx (W5.eq (Jx<|aa t 3)<|by rw[hn];rfl) dM)<|.keep<|.keep<|.forget<|.forget .nil⟩;refine⟨_,c9 t 2,ay (df t 3<|aX t cS (ai (aa t 0)<|ai (aa t 1)<|ai (W0.eq (cu (C7 ak (aa t 2)<|MA hb) ak)<|Mz b) av) ⟨f,g,_,rfl,RD hb,s,hf,hg,rfl⟩)<|ff<|fF (W5.eq (Jx<|aa t 3)<|by rw[hn];rfl)<|aM<|cp<|aa t 3⟩
def DE(h:fA P w K mg base k pP ma X)(cP:Callee X "shared_by_primes" jE)(cL:Callee X "plain_row" jM)(cR:Callee X "shared_by_rests" kj):Go X pP ma p0:=by rintro ds d ⟨f0,g0,rfl,s0,hi0,rfl⟩;have t:=h.at';haveI:=h.XM;have e0:bh (sh f0 g0)=bh (sh (bh f0)<|bh g0):=jc (oC s0.rf s0.rg) (oC (fz s0.rf)<|fz s0.rg)<|GT s0.rg (fz s0.rg) (jd s0.rf)<|jd s0.rg;have s:S0 (bh f0) (bh g0):=⟨fz s0.rf,fz s0.rg,by rw[eG];exact s0.lf,by rw[eG];exact s0.lg,lI s0.bf,lI s0.bg⟩;have hi:=hi0.plain;have pf:=jK s0.rf;have pg:=jK s0.rg;have l1:=s0.lf;have l2:=s0.lg;rw[e0];show W4 X [.val<|aD f0,.val<|aD g0,.un] _ _;refine ay (qR t 0 1 (aX t cL (ai (aa t 0) av) ⟨f0,rfl,by lia,j2 s0.rf,rfl⟩) (aX t cL (ai (aa t 1) av) ⟨g0,rfl,by lia,j2 s0.rg,rfl⟩)<|by decide) ?_;generalize bh f0=f at s pf hi;generalize bh g0=g at s pg hi;show W4 X [.val<|aD f,.val<|aD g,.un] _ _;have nl:∀{x:az}{U:dP}{a:Expr}{pos:Pos}{e:Expr},W0 X U a (aD x)->W0 X U e (aD [])->W5 X U (.Compare a [.Eq] [e] pos) (decide<|x=[]):=λha he=>jA t (W0.p ha) (W0.p he) (bJ _) (bJ _) (by rw[gH]);by_cases hg:g=[];subst hg;rw[tU,pf];refine ff<|fF (XT.toT ?_)<|aM<|cp<|ua (W5.eq (nl (aa t 1)<|bH av) rfl)<|aa t 0;by_cases hf:f=[];exact t7<|W5.eq (nl (aa t 0)<|bH av)<|aq hf;exact mQ (W5.eq (nl (aa t 0)<|bH av)<|aj hf)<|pJ<|W5.eq (nl (aa t 1)<|bH av) rfl;by_cases hf:f=[];subst hf;rw[Er,pg];exact ff<|fF (XT.toT<|t7<|W5.eq (nl (aa t 0)<|bH av) rfl)<|aM<|cp<|rh (W5.eq (nl (aa t 1)<|bH av)<|aj hg)<|aa t 1;refine ay (fx (XT.toT<|mQ (W5.eq (nl (aa t 0)<|bH av)<|aj hf)<|pJ<|W5.eq (nl (aa t 1)<|bH av)<|aj hg) dM) ?_;refine ay (df t 2<|aX t cP (ai (aa t 0)<|ai (aa t 1) av) ⟨f,g,rfl,s,hf,hg,rfl⟩) ?_;rcases TM s hf hg with e |e;rw[e];exact aM<|cp<|ua (W5.eq (Da<|aa t 2) rfl)<|aX t cR (ai (aa t 0)<|ai (aa t 1) av) ⟨f,g,rfl,hi,rfl⟩;rw[e];exact aM<|cp<|rh (W5.eq (Da<|aa t 2) rfl)<|aa t 2
end
end My
namespace My
variable {α:Type}
variable {K:gS}
def eF(f:Nat->Int):Nat->Int|0=>0|n+1=>eF f n+f n
theorem gM{f g:Nat->Int}:∀{n:Nat},(∀i,i<n->f i=g i)->eF f n=eF g n|0,_=>rfl|n+1,h=>by show eF f n+f n=eF g n+g n;rw[gM λi hi=>h i<|by lia,h n<|by lia]
theorem yh(f g:Nat->Int):∀n,eF (λi=>f i+g i) n=eF f n+eF g n|0=>rfl|n+1=>by show eF (λi=>f i+g i) n+(f n+g n)=eF f n+f n+(eF g n+g n);rw[yh f g n];lia
theorem yg(c:Int)(f:Nat->Int):∀n,eF (λi=>c*f i) n=c*eF f n|0=>(aO c).symm|n+1=>by show eF (λi=>c*f i) n+c*f n=c*(eF f n+f n);rw[yg c f n,vQ]
theorem vU(f:Nat->Int):∀n,(∀i,i<n->f i=0)->eF f n=0|0,_=>rfl|n+1,h=>by show eF f n+f n=0;rw[vU f n λi hi=>h i<|by lia,h n<|by lia];rfl
theorem mJ(f:Nat->Int):∀n,eF f (n+1)=f 0+eF (λi=>f<|i+1) n|0=>by show 0+f 0=f 0+0;lia|n+1=>by show eF f (n+1)+f (n+1)=f 0+(eF (λi=>f<|i+1) n+f (n+1));rw[mJ f n];lia
theorem Eg:∀(n:Nat)(f:Nat->Int),eF (λi=>f<|n-i) (n+1)=eF f (n+1)
 |0,f=>rfl
 |n+1,f=>by
  have e:eF (λi=>f<|n+1-i) (n+1)=eF (λi=>(λj=>f<|j+1)<|n-i) (n+1):=gM λi hi=>by show f (n+1-i)=f (n-i+1);rw[show n+1-i=n-i+1 by lia]
  show eF (λi=>f<|n+1-i) (n+1)+f (n+1-(n+1))=_;rw[e,Eg n λj=>f<|j+1,mJ f<|n+1,eI];lia
theorem Ef(a:Nat->Nat->Int):∀n,eF (λi=>eF (λj=>a i j)<|i+1) n=eF (λj=>eF (λk=>a (j+k) j)<|n-j) n
 |0=>rfl
 |n+1=>by
  show eF (λi=>eF (λj=>a i j)<|i+1) n+eF (λj=>a n j) (n+1)=eF (λj=>eF (λk=>a (j+k) j)<|n+1-j) n+eF (λk=>a (n+k) n) (n+1-n);have e:eF (λj=>eF (λk=>a (j+k) j)<|n+1-j) n=eF (λj=>eF (λk=>a (j+k) j) (n-j)+a n j) n:=gM λj hj=>by rw[show n+1-j=n-j+1 by lia];show eF (λk=>a (j+k) j) (n-j)+a (j+(n-j)) j=_;rw[show j+(n-j)=n by lia]
  rw[e,yh,Ef a n,show n+1-n=1 by lia];show _+(eF (λj=>a n j) n+a n n)=_+eF (λj=>a n j) n+(0+a (n+0) n);rw[Lb];lia
@[ext] structure PS where
 c:Nat->Int
namespace PS
variable {ds:ck}
def conv(F G:Nat->Int)(n:Nat):Int:=eF (λi=>F i*G (n-i))<|n+1
instance:Add PS:=⟨λF G=>⟨λi=>F.c i+G.c i⟩⟩
instance:Mul PS:=⟨λF G=>⟨conv F.c G.c⟩⟩
instance:Neg PS:=⟨λF=>⟨λi=>-F.c i⟩⟩
instance:Sub PS:=⟨λF G=>⟨λi=>F.c i-G.c i⟩⟩
def C(a:Int):PS:=⟨λi=>if i=0 then a else 0⟩
instance:NatCast PS:=⟨λn=>C n⟩
instance:IntCast PS:=⟨λn=>C n⟩
instance (n:Nat):OfNat PS n:=⟨C n⟩
instance:SMul Nat PS:=⟨λn F=>C n*F⟩
instance:SMul Int PS:=⟨λn F=>C n*F⟩
def pw(F:PS):Nat->PS|0=>C 1|n+1=>pw F n*F
instance:HPow PS Nat PS:=⟨pw⟩
def ZH(F G:PS)(i:Nat):(F+G).c i=F.c i+G.c i:=rfl
def zGW(F:PS)(i:Nat):(-F).c i=-F.c i:=rfl
def zGG(F G:PS)(i:Nat):(F-G).c i=F.c i-G.c i:=rfl
def Cc(a:Int)(i:Nat):(C a).c i=if i=0 then a else 0:=rfl
def ext'{F G:PS}(h:∀i,F.c i=G.c i):F=G:=PS.ext<|funext h
def Xw(F G:PS):F*G=G*F:=ext' λn=>by show eF (λi=>F.c i*G.c (n-i)) (n+1)=eF (λi=>G.c i*F.c (n-i)) (n+1);rw[<-Eg n λi=>G.c i*F.c (n-i)];exact gM λi hi=>by rw[show n-(n-i)=i by lia];exact dO _ _
def X7(a:Int)(F:PS)(n:Nat):(C a*F).c n=a*F.c n:=by show eF (λi=>(if i=0 then a else 0)*F.c (n-i)) (n+1)=_;rw[mJ,vU _ _ λi _=>by simp];simp
def Hd(F G H:PS):F*G*H=F*(G*H):=ext' λn=>by
 show eF (λi=>eF (λj=>F.c j*G.c (i-j)) (i+1)*H.c (n-i)) (n+1)=eF (λj=>F.c j*eF (λk=>G.c k*H.c (n-j-k)) (n-j+1)) (n+1);have e1:eF (λi=>eF (λj=>F.c j*G.c (i-j)) (i+1)*H.c (n-i)) (n+1)=eF (λi=>eF (λj=>F.c j*G.c (i-j)*H.c (n-i))<|i+1) (n+1):=gM λi hi=>by rw[dO,<-yg];exact gM λj hj=>by rw[dO]
 rw[e1,Ef λi j=>F.c j*G.c (i-j)*H.c (n-i)];refine gM λj hj=>?_;rw[<-yg,show n+1-j=n-j+1 by lia];refine gM λk hk=>?_;rw[show j+k-j=k by lia,show n-(j+k)=n-j-k by lia,dG]
def tJ(F G H:PS):F*(G+H)=F*G+F*H:=ext' λn=>by show eF (λi=>F.c i*(G.c (n-i)+H.c (n-i))) (n+1)=eF (λi=>F.c i*G.c (n-i)) (n+1)+eF (λi=>F.c i*H.c (n-i)) (n+1);rw[<-yh];exact gM λi _=>by rw[vQ]
instance:Lean.Grind.CommRing PS where
 add_zero F:=ext' λi=>by show F.c i+(if i=0 then((0:Nat):Int)else 0)=F.c i;split<;>simp
 add_comm F G:=ext' λi=>Int.add_comm _ _
 add_assoc F G H:=ext' λi=>Int.add_assoc _ _ _
 mul_assoc:=Hd
 mul_one F:=ext' λi=>by rw[Xw];exact(X7 1 F i).trans<|bS _
 one_mul F:=ext' λi=>(X7 1 F i).trans<|bS _
 left_distrib:=tJ
 right_distrib F G H:=by rw[Xw (F+G) H,tJ,Xw H F,Xw H G]
 mul_zero F:=by rw[Xw];exact ext' λi=>(X7 0 F i).trans<|by show _=if i=0 then((0:Nat):Int)else 0;split<;>simp
 zero_mul F:=ext' λi=>(X7 0 F i).trans<|by show _=if i=0 then((0:Nat):Int)else 0;split<;>simp
 pow_zero F:=rfl
 pow_succ F n:=rfl
 ofNat_succ a:=ext' λi=>by
  show(if i=0 then((a+1:Nat):Int)else 0)=(if i=0 then(a:Int)else 0)+(if i=0 then((1:Nat):Int)else 0)
  split<;>simp
 neg_add_cancel F:=ext' λi=>by show-F.c i+F.c i=(if i=0 then((0:Nat):Int)else 0);split<;>lia
 sub_eq_add_neg F G:=ext' λi=>Int.sub_eq_add_neg
 neg_zsmul n F:=ext' λi=>by show(C (-n)*F).c i=-(C n*F).c i;rw[X7,X7,Int.neg_mul]
 intCast_neg n:=ext' λi=>by show(if i=0 then-n else 0)=-(if i=0 then n else 0);split<;>simp
 mul_comm:=Xw
def Zs(a b:Int):C (a*b)=C a*C b:=ext' λi=>by rw[X7];show(if i=0 then a*b else 0)=a*(if i=0 then b else 0);split<;>simp
def zA6:C 1=1:=rfl
def X:PS:=⟨λi=>if i=1 then 1 else 0⟩
def zFB(F:PS)(n:Nat):(X*F).c n=if n=0 then 0 else F.c (n-1):=by show eF (λi=>(if i=1 then 1 else 0)*F.c (n-i)) (n+1)=_;cases n with|zero=>show 0+(if 0=1 then 1 else 0)*F.c 0=0;simp|succ n=>rw[mJ,mJ,vU _ _ λi _=>by simp];simp
def dl(F:PS):PS:=⟨λi=>((i:Int)+1)*F.c (i+1)⟩
end PS
end My
set_option maxHeartbeats 4000000
namespace My
open PySem PySem.W L2 L2.EV PyProof.Rows
variable {α:Type}
variable {K:gS}
def ps(f:az):PS:=⟨co f⟩
theorem vV(h:Nat->Int)(n:Nat)(hz:∀i,n<=i->h i=0):∀k,eF h (n+k)=eF h n|0=>rfl|k+1=>by show eF h (n+k)+h (n+k)=_;rw[vV h n hz k,hz _<|by lia,cn]
theorem II(m:az)(S:Nat->Int)(p:Nat):∀k,mq m S p k=eF (λi=>m.getD i 0*(if i<=p then S (p-i)else 0)) k|0=>rfl|k+1=>by show mq m S p k+_=eF (λi=>m.getD i 0*(if i<=p then S (p-i)else 0)) k+_;rw[II m S p k]
def P9(m:az)(S:Nat->Int)(p:Nat):PS.conv (co m) S p=cm m S p:=by show eF (λi=>m.getD i 0*S (p-i)) (p+1)=mq m S p m.length;rw[II,<-vV (λi=>m.getD i 0*(if i<=p then S (p-i)else 0)) m.length (λi hi=>by show m.getD i 0*_=0;rw[bn hi,dL]) (p+1),lO m.length,vV _ (p+1) λi hi=>by show _*(if i<=p then _ else _)=0;rw[af<|by lia,aO]];exact gM λi hi=>by rw[ag<|by lia]
def QN(m:az)(S:Nat->Int):(⟨cm m S⟩:PS)=ps m*⟨S⟩:=PS.ext' λi=>(P9 m S i).symm
def mO(f g:az):ps (br f g)=ps f*ps g:=by
 have:ps (br f g)=⟨cm g<|co f⟩:=by unfold ps;rw[tL]
 rw[this,QN,PS.Xw];rfl
def G6(hf:W2 f)(hg:W2 g)(h:ps f=ps g):f=g:=ly hf hg λi=>iN (bo PS.c h) i
def EI(f:az):ps (cV f)=PS.dl (ps f):=PS.ext' λi=>by show(cV f).getD i 0=((i:Int)+1)*f.getD (i+1) 0;unfold cV;rw[ac,aw];by_cases h:i<f.length-1;rw[bv h];show(1+(i:Int))*f.getD (1+i) 0=_;rw[Int.add_comm 1,lO 1];rw[aI<|by simpa using h,bn<|by lia,aO];rfl
def Mq:ps []=0:=PS.ext' λi=>by show([]:az).getD i 0=if i=0 then((0:Nat):Int)else 0;split<;>rfl
def OV(a:Int)(f:az):ps (a::f)=PS.C a+PS.X*ps f:=PS.ext' λi=>by rw[PS.ZH,PS.zFB,PS.Cc];cases i with|zero=>show a=a+0;lia|succ i=>show f.getD i 0=0+f.getD i 0;lia
def CD(c:Int)(f:az):ps (f.map λx=>c*x)=PS.C c*ps f:=PS.ext' λi=>by rw[PS.X7];exact eZ (φ:=λx=>c*x) (by exact aO c) f i
def ZK(F:PS):Prop:=Fs F.c
def ZK.ps(f:az):ZK (My.ps f):=⟨f.length,λi hi=>bn hi⟩
def ZK.row{F:PS}(h:ZK F):∃q,W2 q/\My.ps q=F:=by obtain⟨N,hN⟩:=h;refine⟨bR<|(List.range N).map F.c,dI _,PS.ext' λi=>?_⟩;show co (bR<|(List.range N).map F.c) i=_;rw[Ck];show((List.range N).map F.c).getD i 0=F.c i;rw[ac,aw];by_cases y:i<N;rw[bv y];rfl;rw[aI<|by simpa using y,hN i<|by lia];rfl
def vY{f:az}{a b:Int}(ha:a≠0)(hb:b≠0)(h:PS.C a*ps f=PS.C b*ps g):Xy (co f) (co g):=⟨a,b,ha,hb,λi=>by have:=iN (bo PS.c h) i;rw[PS.X7,PS.X7]at this;exact this⟩
theorem CG:∀(n m:Nat),m<=n->2<=m->∃P,Yo P/\P ∣ m
 |0,m,h,h2=>by lia
 |n+1,m,h,h2=>by
  by_cases q:∀d,d ∣ m->d=1\/d=m;exact⟨m,⟨h2,q⟩,Az m⟩;obtain⟨d,hd⟩:=Classical.not_forall.mp q;obtain⟨d1,d2⟩:=Classical.not_imp.mp hd;have hm:=UR (by lia) d1;have h0:d≠0:=λz=>by subst z;have:=Nat.zero_dvd.mp d1;lia
  obtain⟨P,hP,hd⟩:=CG n d (by lia) (by lia);exact⟨P,hP,il hd d1⟩
def Gb(s:az):Prop:=∀P:Nat,Yo P->∃k,¬(P:Int) ∣ s.getD k 0
def IU(s:az)(k:Nat):(s.map λx=>-x).getD k 0=-s.getD k 0:=eZ rfl s k
def tW(h:W2 f)(XB:f≠[]):Gb (bh f):=λP hP=>by obtain⟨k,hk⟩:=E8 hP.two<|j2 h XB;refine⟨k,?_⟩;unfold bh;split;rw[IU];exactλz=>hk<|Int.dvd_neg.mp z;exact hk
def qU{f:az}(XB:f≠[]):bh f≠[]:=λz=>XB<|au<|by rw[<-eG f,z];rfl
def BM(h:W2 f)(XB:f≠[]):0<ax (bh f):=by have h0:=vj h XB;unfold bh;split;rename_i q;rw[jL _ (λx=>-x) rfl];lia;lia
def AO(h:W2 f)(hp:Gb f)(hl:0<ax f):bh f=f:=by
 have XB:f≠[]:=λz=>by subst z;exact absurd hl<|by decide
 have hg:=j2 h XB;have g1:gl f=1:=by
  apply bz;intro q;obtain⟨P,hP,hd⟩:=CG (gl f) (gl f) (ao _) (by lia);obtain⟨k,hk⟩:=hp P hP;refine hk ?_;by_cases hi:k<f.length;have hx:f.getD k 0∈f:=by rw[mr hi];exact cZ _
  exact c8.mpr<|il hd<|C4 hx;rw[bn<|by lia];exact Int.dvd_zero _
 have e:ga f=f:=by
  unfold ga;rw[g1]
  conv=>rhs;rw[<-WS f]
  exact cA λx _=>by exact Int.fdiv_one x
 unfold bh;rw[e,af<|by lia]
def G8(ha:Gb a)(hb:Gb b):Gb (br a b):=λP hP=>by
 apply bz;intro hn;have h1:∀i,(P:Int) ∣ cm b (co a) i:=λi=>by rw[<-tL];exact bz λz=>hn ⟨i,z⟩
 have h2:=M8 hP (ZK.ps a) (hb P hP) h1;let⟨k,hk⟩:=ha P hP;exact hk<|h2 k
def wU(g:az):br [] g=[]:=G6 (dI _) (.inl rfl)<|by rw[mO,Mq];grind
def v8(f:az)(h:W2 f)(XB:f≠[]):∃c:Int,c≠0/\f=(bh f).map λx=>c*x:=by
 have hg:=j2 h XB;have e:∀i,f.getD i 0=(gl f:Int)*(ga f).getD i 0:=λi=>by
  unfold ga;rw[eZ<|by exact iZ _];by_cases hi:i<f.length;have hx:f.getD i 0∈f:=by rw[mr hi];exact cZ _
  obtain⟨k,hk⟩:(gl f:Int) ∣ f.getD i 0:=c8.mpr<|C4 hx;rw[hk,bZ _<|by lia];rw[bn<|by lia,iZ,aO]
 by_cases q:ax (ga f)<0;refine⟨-(gl f:Int),by lia,?_⟩;refine jZ (by rw[ab,eG]) λi hi=>?_;rw[eZ<|by exact aO _];unfold bh;rw[ag q,IU,e i];grind;refine⟨(gl f:Int),by lia,?_⟩;refine jZ (by rw[ab,eG]) λi hi=>?_;rw[eZ<|by exact aO _];unfold bh;rw[af q,e i]
def EM(ra:W2 a)(rb:W2 b)(ha:a≠[])(hb:b≠[]):bh (br a b)=br (bh a) (bh b):=by
 obtain⟨c,hc,ea⟩:=v8 a ra ha;obtain⟨d,hd,eb⟩:=v8 b rb hb;have e:Xy (co<|br a b) (co<|br (bh a)<|bh b):=vY (a:=1) (by decide) (cE hc hd)<|by have e1:=bo ps ea;have e2:=bo ps eb;rw[CD]at e1 e2;rw[mO,mO,e1,e2,PS.Zs,PS.zA6];grind
 rw[jc (Im _ _) (Im _ _) e];have pl:=(i6 (fz ra) (fz rb) (qU ha)<|qU hb).2;refine AO (dI _) (G8 (tW ra ha)<|tW rb hb) ?_;rw[pl];exact np (BM rb hb)<|BM ra ha
theorem BX(hs:Gb s){F:Nat->Int}:∀(n:Nat)(c:Int)(φ:Nat->Int),c.natAbs<=n->c≠0->Fs φ->(∀i,c*F i=cm s φ i)->∃φ:Nat->Int,Fs φ/\∀i,F i=cm s φ i
 |0,c,φ,h,h0,_,_=>by lia
 |n+1,c,φ,h,h0,fφ,e=>by
  by_cases q:c.natAbs=1;refine⟨λi=>c*φ i,fφ.Zz c,λi=>?_⟩;rw[j9,<-e i,<-dG];have:c*c=1:=by rcases Int.natAbs_eq c with z |z;rw[z,q];rfl;rw[z,q];rfl
  rw[this,bS];obtain⟨P,hP,pd⟩:=CG c.natAbs c.natAbs (ao _) (by lia);obtain⟨d,hd⟩:(P:Int) ∣ c:=c8.mpr pd;have hφ:=M8 hP fφ (hs P hP) λi=>⟨d*F i,by rw[<-e i,hd,dG]⟩;have p2:=hP.two;have Z7:d≠0:=λz=>h0 (by rw[hd,z,aO]);have XQ:d.natAbs<c.natAbs:=by
   rw[hd,dQ,eR];have:1<=d.natAbs:=by lia
   have:=bF d.natAbs p2;lia
  have eφ:∀i,φ i=P*(φ i / P):=λi=>(qF<|hφ i).symm;obtain⟨N,hN⟩:=fφ;refine BX hs n d (λi=>φ i / P) (by lia) Z7 ⟨N,λi hi=>by show φ i / (P:Int)=0;rw[hN i hi];simp⟩ λi=>?_;have h1:=e i;rw[show φ=λi=>P*(φ i / P)from funext eφ,j9,hd,dG]at h1;exact fZ (by lia) h1
def JU(hs:Gb s)(rf:W2 f)(h:Dv s (co f)):∃u,W2 u/\f=br u s:=by obtain⟨c,φ,hc,fφ,e⟩:=h;obtain⟨ψ,fψ,e2⟩:=BX hs c.natAbs c φ (ao _) hc fφ e;obtain⟨u,ru,eu⟩:=ZK.row fψ;refine⟨u,ru,G6 rf (dI _) ?_⟩;rw[mO,eu,PS.Xw,<-QN];exact PS.ext' λi=>e2 i
def J4{g r:az}{m:Int}(hg:g≠[])(h1:g.length<=r.length)(em:ax r=m*ax g)(i:Nat):co r i=co (gW g r.dropLast m<|g.length-1) i+m*(if r.length-g.length<=i then co g (i-(r.length-g.length))else 0):=by
 have hgp:=ar.mpr hg;have hr:r≠[]:=λz=>by rw[z]at h1;simp at h1;exact hg h1
 have er:=mC hr;have hl:r.dropLast.length+1=r.length:=by have:=bo List.length er;rw[aA]at this;simpa using this.symm
 have sh:r.length-g.length=r.dropLast.length-(g.length-1):=by lia
 rw[sh];rcases fT i r.dropLast.length with z |z |z;have ec:co r i=r.dropLast.getD i 0:=by
  show r.getD i 0=_
  conv=>lhs;rw[er]
  rw[ac,a8 z,<-ac]
 show _=(gW g r.dropLast m<|g.length-1).getD i 0+_;rw[ec,kJ z];by_cases y:r.dropLast.length-(g.length-1)<=i;rw[ag ⟨y,by lia⟩,ag y];show _=_+m*g.getD (i-(r.dropLast.length-(g.length-1))) 0;lia;rw[af λz=>y z.1,af y];lia;have ec:co r i=ax r:=by
  show r.getD i 0=_
  conv=>lhs;rw[er,z]
  rw[ac,aQ<|ao _,eI];rfl
 have el:=dy hg;have eq:co (gW g r.dropLast m<|g.length-1) i=0:=bn (by rw[eY];lia);rw[ec,eq,ag<|by lia,show i-(r.dropLast.length-(g.length-1))=g.length-1 by lia,em];show _=0+m*g.getD (g.length-1) 0;rw[el];lia;have ec:co r i=0:=bn (by lia);have eq:co (gW g r.dropLast m<|g.length-1) i=0:=bn (by rw[eY];lia);have eg:co g (i-(r.dropLast.length-(g.length-1)))=0:=bn (by lia);rw[ec,eq,eg];split<;>lia
def P8{g r:az}{n s:Nat}(hl:ax g≠0)(φ:Nat->Int)(hr:r.length=n+1)(hs:n+1=s+g.length)(h:∀p,r.getD p 0=cv g φ (s+1) p):ax r=φ s*ax g:=by
 have hp:=ar.mpr<|j1 hl;have hrn:r≠[]:=λy=>by subst y;simp at hr
 have g1:=dy hrn;rw[hr,show n+1-1=n by lia,h n,xY,ND g φ n s<|by lia,ag<|by lia,show n-s=g.length-1 by lia,dy<|j1 hl,fB]at g1;exact g1.symm
theorem BL{g:az}(hl:ax g≠0)(φ:Nat->Int):∀(n:Nat)(q r:az),r.length=n->(∀p,r.getD p 0=cv g φ (n+1-g.length) p)->∃r',Lf g n r q=some (r',q++((List.range<|n+1-g.length).map φ).reverse)/\∀p,r'.getD p 0=0
 |0,q,r,hr,h=>by
  have hp:=ar.mpr<|j1 hl;have e:0+1-g.length=0:=by lia
  rw[e]at h ⊢;exact⟨r,by unfold Lf;simp,λp=>by rw[h p,xX]⟩
 |n+1,q,r,hr,h=>by
  unfold Lf;by_cases z:g.length<=r.length;rw[ag z];obtain⟨s,hs⟩:∃s,n+1-g.length=s:=⟨_,rfl⟩;have e:n+1+1-g.length=s+1:=by lia
  rw[e]at h ⊢;have top:=P8 hl φ hr (by lia) h;have fm:(ax r).fmod (ax g)=0:=by rw[top];exact Int.mul_fmod_left _ _
  have fd:(ax r).fdiv (ax g)=φ s:=by rw[top];exact Int.mul_fdiv_cancel _ hl
  rw[ag fm,fd];have key:=J4 (j1 hl) z top;have hdl:r.dropLast.length=n:=by rw[iT];lia
  obtain⟨r',e1,e2⟩:=BL hl φ n (q++[φ s]) (gW g r.dropLast (φ s)<|g.length-1) (by rwa[eY]) λp=>by have k:=key p;have hh:=h p;rw[xY]at hh;rw[show r.length-g.length=s by lia]at k;have k':r.getD p 0=(gW g r.dropLast (φ s)<|g.length-1).getD p 0+φ s*(if s<=p then g.getD (p-s) 0 else 0):=k;rw[hs];lia
  refine⟨r',?_,e2⟩;rw[e1,hs,eU,bj,List.reverse_append,dX];rfl;rw[af z];have e:n+1+1-g.length=0:=by lia
  rw[e]at h ⊢;exact⟨r,by simp,λp=>by rw[h p,xX]⟩
def mz(h:W2 u):bR u=u:=ly (dI _) h λi=>fu u i
def G0(u:az):(List.range u.length).map (λi=>u.getD i 0)=u:=jZ (by simp) λj hj=>by rw[ab,cY]at hj;rw[ac,aw,bv hj];rfl
def N1{r:az}(h:∀p,r.getD p 0=0):r.any (· !=0)=false:=by rw[List.any_eq_false];intro x hx;obtain⟨k,hk,rfl⟩:=eE hx;have:=h k;rw[mr hk]at this;simp[this]
def yb(ru:W2 u)(rg:W2 g)(hg:g≠[]):yc (br u g) g=aD u:=by
 have hl:=cz rg hg;have hgp:=ar.mpr hg;by_cases hu:u=[];subst hu;rw[wU];rfl;have tl:=(i6 ru rg hu hg).1;have hn:(br u g).length+1-g.length=u.length:=by lia
 obtain⟨r',e1,e2⟩:=BL hl (λk=>u.getD k 0) (br u g).length [] (br u g) rfl λp=>by rw[hn,Eb]
 unfold yc;rw[e1];show(if r'.any (· !=0)=true then D.Xf else aD<|bR ([]++((List.range<|(br u g).length+1-g.length).map λk=>u.getD k 0).reverse).reverse)=_;rw[N1 e2,hn,List.nil_append,WP,G0,mz ru];rfl
def uD(ru:W2 u)(rv:W2 v)(rg:W2 g)(hg:g≠[])(h:br u g=br v g):u=v:=by
 have h1:=yb ru rg hg;rw[h,yb rv rg hg]at h1;have h2:v.map D.int=u.map D.int:=by injection h1
 exact(Ib λa b q=>by injection q).mp h2.symm
abbrev uB(f:az):az:=bh<|sh f<|cV f
def Xz(f u:az):Prop:=W2 u/\u≠[]/\bh u=u/\bh f=br u (uB f)
def qK(rf:W2 f)(hf:f≠[]):W2 (uB f)/\uB f≠[]/\Gb (uB f)/\bh (uB f)=uB f:=by have rs:=jo rf;have rk:=oC rf rs;have hn:=LW rs hf<|cz rf hf;exact⟨fz rk,qU hn,tW rk hn,jK rk⟩
def Qe(rf:W2 f)(hf:f≠[]):∃u,Xz f u:=by
 obtain⟨ok,ne,pr,pp⟩:=qK rf hf;have rs:=jo rf;have rk:=oC rf rs;obtain⟨d1,d2⟩:=Iz (cV f).length f (cV f) (ao _) rs;have d3:=(d1.list (by rw[eG])<|jd rk).sim<|jd rf;obtain⟨u,ru,e⟩:=JU pr (fz rf) d3;have hu:u≠[]:=λz=>by subst z;rw[wU]at e;exact qU hf e
 refine⟨u,ru,hu,?_,e⟩;have h1:=EM ru ok hu ne;rw[<-e,jK rf,pp,e]at h1;exact(uD ru (fz ru) ok ne h1).symm
def Xz.uniq(rf:W2 f)(hf:f≠[])(h:Xz f u)(k:Xz f v):u=v:=by let⟨ok,ne,pr,pp⟩:=qK rf hf;exact uD h.1 k.1 ok ne<|h.2.2.2.symm.trans k.2.2.2
def OI(rf:W2 f)(rg:W2 g)(h:Xy (co f) (co g)):uB f=uB g:=by
 have hs:Xy (co<|cV f) (co<|cV g):=by let⟨a,b,ha,hb,e⟩:=h;refine vY ha hb ?_;rw[EI,EI];refine PS.ext' λi=>?_;rw[PS.X7,PS.X7];show a*((i+1)*f.getD (i+1) 0)=b*((i+1)*g.getD (i+1) 0);have:=e<|i+1;have:a*f.getD (i+1) 0=b*g.getD (i+1) 0:=this;grind
 exact jc (oC rf<|jo rf) (oC rg<|jo rg)<|GT (jo rf) (jo rg) h hs
def Qw:∀l,l<10->67<=xt l/\(2<=l->xt l<=41020):=by decide
theorem IA:∀(n:Nat)(f g:az),g.length<=n->YZ f g->BB (xt (sh f g).length) (sh f g)
 |n,f,g,hn,hi=>by
  by_cases hg:g=[];subst hg;obtain⟨rf,rg,lf,A,B,hA,hB,hc⟩:=hi;rw[tU];have:=(Qw f.length<|by lia).1;refine hA.mono ?_;rcases hc with z |z<;>lia
  match n with|0=>exact absurd (au<|by lia) hg|n+1=>rw[nv hg];have hr:=jq (f:=f) hg;exact IA n g (fG f g) (by lia)<|hi.next hg
def Em(h:BB k f)(hl:f.length<=9):BB (4+k) (cV f):=λx hx=>by
 obtain⟨i,hi,rfl⟩:=aZ.mp hx;have:=aY.mp hi;have h16:(1+(i:Int)).natAbs<2 ^ 4:=by lia
 exact fY h16<|h.get _
structure R9(f:az):Prop where
 ok:W2 f
 ne:f≠[]
 len:f.length<=9
 bb:BB 60 f
def R9.sin(h:R9 f):YZ f (cV f):=.start h.ok (jo h.ok) h.len (by rw[mD];have:=h.len;lia) (h.bb.mono<|by decide)<|(Em h.bb h.len).mono<|by decide
def R9.s0(h:R9 f):S0 f (cV f):=⟨h.ok,jo h.ok,h.len,by rw[mD];have:=h.len;lia,h.bb.mono<|by decide,(Em h.bb h.len).mono<|by decide⟩
def R9.plain(h:R9 f):R9 (bh f):=⟨fz h.ok,qU h.ne,by rw[eG];exact h.len,lI h.bb⟩
def R9.shb(h:R9 f):(uB f).length<=9/\1<=(uB f).length/\((uB f).length=1->uB f=[1])/\BB 41020 (uB f):=by
 have hs:=h.sin;have l1:=GU (cV f).length f (cV f) (ao _) hs;have b1:=IA (cV f).length f (cV f) (ao _) hs;let⟨ok,ne,pr,pp⟩:=qK h.ok h.ne;have hp:=ar.mpr ne;have el:(uB f).length=(sh f<|cV f).length:=eG _;have one:(uB f).length=1->uB f=[1]:=λz=>by rw[<-pp];exact BN ok z
 refine⟨by lia,by lia,one,?_⟩;by_cases z:(uB f).length=1;rw[one z];intro x hx;have:x=1:=by simpa using hx
 subst this;exact aR (show(1:Int).natAbs<2 ^ 1 by decide)<|ba (by decide) (by decide);exact lI<|b1.mono<|(Qw _<|by lia).2<|by lia
def R9.div(h:R9 f):Ar f (uB f):=by
 obtain⟨l9,l1,one,bb⟩:=h.shb;obtain⟨ok,ne,pr,pp⟩:=qK h.ok h.ne;have lf:=h.len;by_cases z:(uB f).length=1;refine⟨by lia,by lia,cz ok ne,60,1,h.bb,?_,?_⟩;rw[one z];intro x hx;have:x=1:=by simpa using hx
 subst this;decide;rw[z];lia;refine⟨by lia,by lia,cz ok ne,60,41020,h.bb,bb,?_⟩;have:f.length+1-(uB f).length<=8:=by lia
 have:=bF (2*41020+1) this;lia
def Cz(n i:Nat):(List.replicate n (0:Int)).getD i 0=0:=by rw[ac,dD];split<;>rfl
def uu(ds:ck)(d:D):Prop:=∃f u:az,ds=[aD f]/\R9 f/\Xz f u/\d=aD u
def CZ:∀ds d,uu ds d->ds.length=1:=by rintro _ _ ⟨a,b,rfl,_⟩;rfl
section
variable {X:Cx}
def HV(h:fA P w K mg base k um pe X)(cP:Callee X "plain_row" jM)(cW:Callee X "whole_quotient" gc)(cS:Callee X "shared_row" p0)(cL:Callee X "slope" DQ):Go X um pe uu:=by
 rintro ds d ⟨f,u,rfl,hf,hb,rfl⟩;have t:=h.at';haveI:=h.XM;obtain⟨ru,hu,pu,eu⟩:=hb;obtain⟨ok,ne,pr,pp⟩:=qK hf.ok hf.ne;obtain⟨l9,l1,one,bb⟩:=hf.shb;have hp:=hf.plain;have es:uB (bh f)=uB f:=OI hp.ok hf.ok (jd hf.ok).symm;have hw:yc (bh f) (uB f)=aD u:=by rw[eu];exact yb ru ok ne
 have lf:=hf.len;have pl:=hp.len;show W4 X [.val<|aD f,.un] _ _;refine ay (fx (jA t (W0.p<|aa t 0) (W0.p (d:=aD [])<|bH av) (bJ _) (bJ _)<|by rw[gH,aj hf.ne]) dM) ?_;refine ay (df t 1<|aX t cP (ai (aa t 0) av) ⟨f,rfl,by lia,j2 hf.ok,rfl⟩) ?_;exact aM<|cp<|aX t cW (ai (aa t 1)<|ai (d:=aD<|uB f) (aX t cS (ai (aa t 1)<|ai (aX t cL (ai (aa t 1) av) ⟨bh f,rfl,by lia,rfl⟩) av) ⟨bh f,cV<|bh f,rfl,hp.s0,hp.sin,by rw[<-es]⟩) av) ⟨bh f,uB f,rfl,pl,l9,ne,cz ok ne,hp.bb.mono<|by decide,bb.mono<|by decide,hw.symm⟩
end
end My
namespace My
open PySem PySem.W L2 L2.EV
variable {α:Type}
variable {K:gS}
def XI:Nat->(Nat->Int)->Int|0,_=>0|n+1,h=>XI n h+h n
theorem tR(h:Nat->Int):∀n,XI (n+1) h=h 0+XI n (λi=>h<|i+1)|0=>by simp[XI]|n+1=>by rw[XI,tR h n,XI];lia
theorem Xi{h g:Nat->Int}:∀n,(∀i,i<n->h i=g i)->XI n h=XI n g|0,_=>rfl|n+1,e=>by rw[XI,XI,Xi n λi hi=>e i<|by lia,e n<|by lia]
theorem kI:∀n,XI n (λ_=>0)=0|0=>rfl|n+1=>by rw[XI,kI n];rfl
def rs:az->(Nat->Int)->Int|[],_=>0|a::f,ψ=>a*ψ 0+rs f (λi=>ψ<|i+1)
theorem Cv:∀(f:az)(n:Nat)(ψ:Nat->Int),f.length<=n->rs f ψ=XI n (λi=>f.getD i 0*ψ i)
 |[],n,ψ,_=>by exact((Xi n λi _=>by simp).trans<|kI n).symm|a::f,0,ψ,h=>by simp at h
 |a::f,n+1,ψ,h=>by rw[rs,tR,Cv f n _<|by simpa using h];rfl
theorem L6:∀(f:az)(i:Nat),rs f (λj=>if j=i then 1 else 0)=f.getD i 0
 |[],i=>by simp[rs]
 |a::f,0=>by
  have e:rs f (λj=>if j+1=0 then 1 else 0)=0:=by have:(λj:Nat=>if j+1=0 then(1:Int)else 0)=λ_=>0:=funext λj=>af (by lia);rw[this,Cv f f.length _<|ao _];exact(Xi _ λi _=>by simp).trans<|kI _
  rw[rs,e];simp
 |a::f,i+1=>by
  have e:(λj:Nat=>if j+1=i+1 then(1:Int)else 0)=λj=>if j=i then 1 else 0:=funext λj=>by by_cases h:j=i;rw[ag h,ag<|by lia];rw[af h,af<|by lia]
  rw[rs,e,L6 f i];simp
theorem yy{ψ χ:Nat->Int}:∀(f:az),(∀i,i<f.length->ψ i=χ i)->rs f ψ=rs f χ|[],_=>rfl|a::f,h=>by rw[rs,rs,h 0<|by simp,yy f λi hi=>h (i+1)<|by simpa using hi]
def Cu(ψ:Nat->Int)(h:∀i,ψ i=0)(f:az):rs f ψ=0:=by rw[Cv f f.length ψ<|ao _];exact(Xi _ λi _=>by rw[h i];simp).trans<|kI _
theorem L5(c:Int):∀(f:az)(ψ:Nat->Int),rs f (λi=>c*ψ i)=c*rs f ψ|[],ψ=>by simp[rs]|a::f,ψ=>by rw[rs,rs,L5 c f λi=>ψ<|i+1,vQ];congr 1;rw[<-dG,<-dG,dO a c]
abbrev Bd:=List az
def Yd(b:Bd)(i k:Nat):Int:=(b.getD k []).getD i 0
def bs:Bd->(Nat->Nat->Int)->Int|[],_=>0|r::b,φ=>rs r (λi=>φ i 0)+bs b (λi k=>φ i<|k+1)
def mR(i k:Nat):Nat->Nat->Int:=λa c=>if a=i/\c=k then 1 else 0
theorem Dy:∀(b:Bd)(φ:Nat->Nat->Int),(∀i k,φ i k=0)->bs b φ=0|[],_,_=>rfl|r::b,φ,h=>by rw[bs,Cu _ λi=>h i 0,Dy b _ λi k=>h i<|k+1];rfl
theorem NP:∀(b:Bd)(i k:Nat),bs b (mR i k)=Yd b i k
 |[],i,k=>by simp[bs,Yd]
 |r::b,i,0=>by
  rw[bs,Dy b (λa c=>mR i 0 a<|c+1) λa c=>af<|by lia];have e:(λa:Nat=>mR i 0 a 0)=λa=>if a=i then 1 else 0:=funext λa=>by unfold mR;by_cases h:a=i;rw[ag ⟨h,rfl⟩,ag h];rw[af λz=>h z.1,af h]
  rw[e,L6];simp[Yd]
 |r::b,i,k+1=>by
  have e:rs r (λa=>mR i (k+1) a 0)=0:=Cu _ (λa=>af<|by lia) r;have e2:(λa c:Nat=>mR i (k+1) a<|c+1)=mR i k:=funext λa=>funext λc=>by unfold mR;by_cases h:a=i/\c=k;rw[ag h,ag ⟨h.1,by lia⟩];rw[af h,af λz=>h ⟨z.1,by lia⟩]
  rw[bs,e,e2,NP b i k];simp[Yd]
def NR{φ χ:Nat->Nat->Int}:∀(b:Bd),(∀i k,φ i k=χ i k)->bs b φ=bs b χ:=λb h=>by rw[show φ=χ from funext λi=>funext λk=>h i k]
theorem NL:∀(b:Bd)(n:Nat)(φ:Nat->Nat->Int),b.length<=n->bs b φ=XI n (λk=>rs (b.getD k []) λi=>φ i k)
 |[],n,φ,_=>by exact((Xi n λi _=>by simp[rs]).trans<|kI n).symm|r::b,0,φ,h=>by simp at h
 |r::b,n+1,φ,h=>by rw[bs,tR,NL b n _<|by simpa using h];rfl
abbrev aV(b:Bd):D:=.tup<|b.map aD
abbrev gZ(b:Bd):D:=.lst<|b.map aD
def mI(xs:Bd):Bd:=(xs.reverse.dropWhile (·==[])).reverse
def tP(xs:Bd):mI (xs++[[]])=mI xs:=by simp[mI]
def tQ{a:az}(xs:Bd)(h:a≠[]):mI (xs++[a])=xs++[a]:=by simp[mI,h]
def JZ(xs:Bd):(mI xs).length<=xs.length:=by unfold mI;rw[cj];have:=(om (l:=xs.reverse) (p:=λx=>x==[])).length_le;rw[cj]at this;exact this
def Lz(xs:Bd):mI xs=[]\/∃ys a,mI xs=ys++[a]/\a≠[]:=by induction h:xs.length generalizing xs with|zero=>left;rw[au h];rfl|succ n ih=>rcases cq xs with e |⟨ys,y,e⟩;subst e;left;rfl;rw[cJ]at e;subst e;by_cases hy:y=[];subst hy;rw[tP];exact ih ys (by simpa using h);right;exact⟨ys,y,tQ ys hy,hy⟩
def A2(ys:Bd)(i:Nat):(ys++[[]]).getD i []=ys.getD i []:=by rw[ac,ac];by_cases h:i<ys.length;rw[a8 h];rw[aQ<|by lia,aI (show ys.length<=i by lia)];cases(i-ys.length)with|zero=>rfl|succ n=>rfl
def yd(xs:Bd)(i:Nat):(mI xs).getD i []=xs.getD i []:=by induction h:xs.length generalizing xs with|zero=>rw[au h];rfl|succ n ih=>rcases cq xs with e |⟨ys,y,e⟩;subst e;rfl;rw[cJ]at e;subst e;by_cases hy:y=[];subst hy;rw[tP,ih ys<|by simpa using h,A2];rw[tQ ys hy]
def Kq{x:az}(h:x∈mI xs):x∈xs:=by unfold mI at h;rw[qh]at h;have:=(om (p:=λx=>x==[])).subset h;exact qh.mp this
def wC{i:Int}{n:Nat}{g:α->D}{xs:List α}(h0:0<=i)(hn:i.toNat=n)(h:n<xs.length):s9 (xs.map g) i=some (g xs[n]):=by
 rw[show i=(n:Int)by lia];have e:(xs.map g)[n]?=some (g xs[n]):=by rw[aw,am h];rfl
 exact DK e
def NE{m:Nat}(xs:List α)(g:α->D)(h:m<=xs.length):HB (xs.map g) none (some (m:Int))=(xs.take m).map g:=by
 unfold HB;rw[ab];have e1:HT.Ya xs.length 0 none=0:=by simp[HT.Ya]
 have e2:HT.Ya xs.length xs.length (some m)=m:=by simp only[HT.Ya];split<;>lia
 rw[e1,e2,List.drop_zero,jG,US]
def Uo(f g:Bd)(j:Nat)(acc:Bd):Nat->Bd|0=>acc|k+1=>(Uo f g j acc k).set (j+k)<|T4 ((Uo f g j acc k).getD (j+k) [])<|br (f.getD j [])<|g.getD k []
def Fk{xs:Bd}(i:Nat):xs.getD i []=[]\/xs.getD i []∈xs:=by rw[ac];by_cases h:i<xs.length;right;rw[am h];exact cZ _;left;rw[aI<|by lia];rfl
section
variable {X:Cx}
def Md(n:Nat):(List.replicate n [D.tup []]).flatten=(List.replicate n ([]:az)).map aD:=by induction n with|zero=>rfl|succ n ih=>rw[dF,gL,ih,dF,bY];rfl
def ud(f:Bd):(mB<|aV f).eqv (mB<|.tup [])=decide (f=[]):=by show(PyData.tuple<|Xb<|f.map aD).eqv (.tuple<|Xb [])=_;cases f with|nil=>simp[Xb,PyData.eqv,PyData.eqvAll]|cons r f=>simp[Xb,PyData.eqv,PyData.eqvAll]
end
def Fn(n:Nat)(d:D):Prop:=(mB d).canLay0=true/\(mB d).depth<=n/\(mB d).eqv (mB d)=true
def Fn.int(i:Int):Fn 1 (.int i):=⟨rfl,by simp[mB,PyData.depth],by simp[mB,PyData.eqv]⟩
theorem Fn.all:∀{xs:ck},(∀x∈xs,Fn n x)->PyData.canLayAll0 (Xb xs)=true/\PyData.depthAll (Xb xs)<=n/\PyData.eqvAll (Xb xs) (Xb xs)=true|[],_=>⟨rfl,by simp[Xb,PyData.depthAll],by simp[Xb,PyData.eqvAll]⟩|x::xs,h=>by obtain⟨a1,a2,a3⟩:=h x (by simp);obtain⟨b1,b2,b3⟩:=Fn.all (xs:=xs) λy hy=>h y (by simp[hy]);refine⟨?_,?_,?_⟩;simp only[Xb,PyData.canLayAll0,a1,b1];rfl;simp only[Xb,PyData.depthAll];lia;simp only[Xb,PyData.eqvAll,a3,b3];rfl
def Fn.tup{xs:ck}(h:∀x∈xs,Fn n x):Fn (n+1) (.tup xs):=by obtain⟨b1,b2,b3⟩:=Fn.all h;exact⟨by simp only[mB,PyData.canLay0];exact b1,by simp only[mB,PyData.depth];lia,by simp only[mB,PyData.eqv];exact b3⟩
def Fn.lst{xs:ck}(h:∀x∈xs,Fn n x):Fn (n+1) (.lst xs):=by let⟨b1,b2,b3⟩:=Fn.all h;exact⟨by simp only[mB,PyData.canLay0];exact b1,by simp only[mB,PyData.depth];lia,by simp only[mB,PyData.eqv];exact b3⟩
def Fn.sh(h:Fn n d)(hn:n<=64):SeqAt.shaped (mB d)=true:=by show((mB d).canLay0&&decide ((mB d).depth<=64))=true;rw[h.1,aq<|aL h.2.1 hn];rfl
def Na(r:az):Fn 2 (aD r):=Fn.tup λx hx=>by obtain⟨i,_,rfl⟩:=aZ.mp hx;exact Fn.int i
def Fl(b:Bd):Fn 3 (aV b):=Fn.tup λx hx=>by obtain⟨r,_,rfl⟩:=aZ.mp hx;exact Na r
def C6(b:Bd):Fn 3 (gZ b):=Fn.lst λx hx=>by obtain⟨r,_,rfl⟩:=aZ.mp hx;exact Na r
def i8(f:Bd):SeqAt.shaped (mB<|aV f)=true:=(Fl f).sh<|by decide
section
variable {X:Cx}
def PV(t:At X N sc)(f:Fn n d)(ha:W0 X U a d)(hb:W0 X U b d)(hn:n<=64:=by decide):W5 X U (.Compare a [.NotEq] [b] pos) false:=kM t ha.p hb.p (f.sh hn) (f.sh hn)<|by rw[f.2.2];rfl
def PJ(t:At X N sc)(f:Fn n d)(ha:W0 X U a d)(hb:W0 X U b d)(hn:n<=64:=by decide):W0 X U (.Compare a [.Eq] [b] pos) (.bl true):=SA t ha.p hb.p (f.sh hn) (f.sh hn) f.2.2
end
abbrev nk(i k:Nat):az:=[(i:Int),(k:Int)]
def R3{k:Nat}(h:nk i k=nk a c):i=a/\k=c:=by have h1:=(UU h).1;have h2:=(UU (UU h).2).1;lia
def ds:jj->(Nat->Nat->Int)->Int|[],_=>0|p::r,φ=>p.2*φ (p.1.getD 0 0).toNat (p.1.getD 1 0).toNat+ds r φ
structure YW(kvs:jj):Prop where
 keys:∀p∈kvs,∃i k:Nat,p.1=nk i k
 nd:(kvs.map (·.1)).Nodup
def YW.nil:YW []:=⟨λ_ h=>(nomatch h),DS⟩
def sn(p:az×Int)(r:jj)(k:az):jz (p::r) k=if p.1=k then some p.2 else jz r k:=by unfold jz;rw[mG];by_cases h:p.1=k;rw[ag h,aq h];rfl;rw[af h,aj h]
theorem sj{k:az}:∀{kvs:jj},(∀p∈kvs,p.1≠k)->jz kvs k=none|[],_=>rfl|p::r,h=>by rw[sn,af<|h p<|by simp,sj λq hq=>h q<|by simp[hq]]
theorem uC:∀{kvs:jj},(kvs.map (·.1)).Nodup->(k,v)∈kvs->jz kvs k=some v|[],_,h=>nomatch h|p::r,nd,h=>by rw[bY,iL]at nd;rw[sn];rcases aF.mp h with e |h;rw[<-e,ag rfl];have hm:k∈r.map (·.1):=aZ.mpr ⟨_,h,rfl⟩;rw[af λz:p.1=k=>nd.1<|by rwa[z],uC nd.2 h]
def u3{q:az×Int}(h:q∈mN kvs k v):q=(k,v)\/q∈kvs:=by unfold mN at h;split at h;obtain⟨p,hp,e⟩:=aZ.mp h;by_cases z:p.1=k;rw[ag z]at e;left;rw[<-e,z];rw[af z]at e;right;rwa[<-e];rcases cQ.mp h with h |h;exact .inr h;exact .inl<|aH.mp h
def Kf:(mN kvs k v).map (·.1)=if(jz kvs k).isSome=true then kvs.map (·.1)else kvs.map (·.1)++[k]:=by unfold mN;split;rw[bp];refine cA λp _=>?_;show(if p.1=k then(p.1,v)else p).1=p.1;split<;>rfl;rw[bj];rfl
def YW.put(h:YW kvs)(i k:Nat)(v:Int):YW (mN kvs (nk i k) v):=by refine⟨λp hp=>?_,?_⟩;rcases u3 hp with e |e;exact⟨i,k,by rw[e]⟩;exact h.keys p e;rw[Kf];split;exact h.nd;rename_i hn;refine List.nodup_append.mpr ⟨h.nd,by simp,λa ha b hb e=>hn ?_⟩;rw[aH]at hb;subst hb e;obtain⟨p,hp,e⟩:=aZ.mp ha;have:jz kvs p.1=some p.2:=uC h.nd hp;rw[<-e,this];rfl
theorem B3(φ:Nat->Nat->Int):∀(a b:jj),ds (a++b) φ=ds a φ+ds b φ|[],b=>by simp[ds]|p::a,b=>by rw[List.cons_append,ds,ds,B3 φ a b];lia
theorem JC(φ:Nat->Nat->Int)(i k:Nat)(v:Int):∀(kvs:jj),(kvs.map (·.1)).Nodup->ds (kvs.map λp=>if p.1=nk i k then(p.1,v)else p) φ=ds kvs φ+(match jz kvs (nk i k)with |some o=>(v-o)*φ i k |none=>0)
 |[],_=>rfl
 |p::r,nd=>by
  rw[bY,iL]at nd;rw[bY,ds,ds,JC φ i k v r nd.2,sn];by_cases e:p.1=nk i k;rw[ag e,ag e,sj λq hq z=>nd.1<|by rw[e,<-z];exact aZ.mpr ⟨_,hq,rfl⟩];have e1:(p.1.getD 0 0).toNat=i:=by rw[e];simp
  have e2:(p.1.getD 1 0).toNat=k:=by rw[e];simp
  simp only[e1,e2];rw[Int.sub_mul];lia;rw[af e,af e];lia
def Nu(h:YW kvs)(i k:Nat)(v:Int)(φ:Nat->Nat->Int):ds (mN kvs (nk i k) v) φ=ds kvs φ+(v-(jz kvs<|nk i k).getD 0)*φ i k:=by unfold mN;cases e:jz kvs (nk i k)with|none=>rw[af<|by simp,B3];show ds kvs φ+(v*φ i k+0)=_;simp|some o=>rw[ag<|by rfl,JC φ i k v kvs h.nd,e];rfl
def SH(h:YW kvs)(i k:Nat):ds kvs (mR i k)=(jz kvs<|nk i k).getD 0:=by
 obtain⟨hk,nd⟩:=h;induction kvs with
 |nil=>rfl
 |cons p r ih=>
  rw[bY,iL]at nd;obtain⟨a,c,e⟩:=hk p (by simp);have e1:(p.1.getD 0 0).toNat=a:=by rw[e];simp
  have e2:(p.1.getD 1 0).toNat=c:=by rw[e];simp
  have ih':=ih (λq hq=>hk q<|by simp[hq]) nd.2;rw[ds,ih',sn,e1,e2];by_cases z:a=i/\c=k;have q:p.1=nk i k:=by rw[e,z.1,z.2]
  rw[ag q,sj λx hx w=>nd.1<|by rw[q,<-w];exact aZ.mpr ⟨_,hx,rfl⟩];unfold mR;rw[ag z];simp;rw[af λq=>z<|R3<|e.symm.trans q];unfold mR;rw[af z];simp
def bN(kvs:jj):Bd:=mI ((List.range 9).map λk=>bR ((List.range 9).map λi=>(jz kvs<|nk i k).getD 0))
def XA(b:Bd):Prop:=(b=[]\/∃ys a,b=ys++[a]/\a≠[])/\∀r∈b,W2 r
def G1(n i:Nat)(h:Nat->Int):((List.range n).map h).getD i 0=if i<n then h i else 0:=by rw[ac,aw];by_cases e:i<n;rw[ag e,bv e];rfl;rw[af e,aI<|by simpa using e];rfl
def yS(n i:Nat)(h:Nat->az):((List.range n).map h).getD i []=if i<n then h i else []:=by rw[ac,aw];by_cases e:i<n;rw[ag e,bv e];rfl;rw[af e,aI<|by simpa using e];rfl
def Dq(kvs:jj)(i k:Nat):Yd (bN kvs) i k=if i<9/\k<9 then(jz kvs<|nk i k).getD 0 else 0:=by unfold Yd bN;rw[yd,yS];by_cases hk:k<9;rw[ag hk,fu,G1];by_cases hi:i<9;rw[ag hi,ag ⟨hi,hk⟩];rw[af hi,af λz=>hi z.1];rw[af hk,af λz=>hk z.2];rfl
def AJ{xs:Bd}(h:∀r∈xs,W2 r):XA (mI xs):=⟨Lz xs,λr hr=>h r<|Kq hr⟩
def HM(kvs:jj):XA (bN kvs):=AJ λr hr=>by obtain⟨k,_,rfl⟩:=aZ.mp hr;exact dI _
def W2.nil:W2 []:=.inl rfl
def XA.row(h:XA b)(k:Nat):W2 (b.getD k []):=by rcases Fk k with e |e;rw[e];exact .nil;exact h.2 _ e
def VB(M:Nat)(kvs:jj):Prop:=∀p∈kvs,p.2.natAbs<=M
def KIn(n:Nat)(kvs:jj):Prop:=∀p∈kvs,∃i k:Nat,p.1=nk i k/\i<n/\k<n
def EH(kvs:jj)(k:az)(v:Int):(mN kvs k v).length<=kvs.length+1:=by unfold mN;split;rw[ab];lia;rw[aA,dz];lia
def VB.put{v:Int}(h:VB M kvs)(hv:v.natAbs<=M):VB M (mN kvs k v):=λp hp=>by rcases u3 hp with e |e;rwa[e];exact h p e
def KIn.put{i k:Nat}(h:KIn n kvs)(hi:i<n)(hk:k<n)(v:Int):KIn n (mN kvs (nk i k) v):=λp hp=>by rcases u3 hp with e |e;exact⟨i,k,by rw[e],hi,hk⟩;exact h p e
abbrev FZ(p q:az):az:=[p.getD 0 0+q.getD 0 0,p.getD 1 0+q.getD 1 0]
def pD(p:az×Int)(acc B:jj):jj:=B.foldl (λacc q=>mN acc (FZ p.1 q.1)<|(jz acc<|FZ p.1 q.1).getD 0+p.2*q.2) acc
def fW(A B:jj):jj:=A.foldl (λacc p=>pD p acc B) []
def Qj(a c i k:Nat):FZ (nk a c) (nk i k)=nk (a+i) (c+k):=by simp[FZ,nk]
theorem CI(a c:Nat)(v:Int)(φ:Nat->Nat->Int):∀(B acc:jj),YW acc->(∀p∈B,∃i k:Nat,p.1=nk i k)->YW (pD (nk a c,v) acc B)/\ds (pD (nk a c,v) acc B) φ=ds acc φ+v*ds B (λi k=>φ (a+i)<|c+k)/\(pD (nk a c,v) acc B).length<=acc.length+B.length
 |[],acc,h,_=>⟨h,by simp[pD,ds],ao _⟩
 |(k,x)::B,acc,h,hB=>by
  obtain⟨i,j,e⟩:=hB (k,x) (by simp);have e':k=nk i j:=e;subst e';have ea:=Qj a c i j;obtain⟨g1,g2,g3⟩:=CI a c v φ B (mN acc (nk (a+i)<|c+j)<|(jz acc<|nk (a+i)<|c+j).getD 0+v*x) (h.put _ _ _) λp hp=>hB p (by simp[hp]);have e0:pD (nk a c,v) acc ((nk i j,x)::B)=pD (nk a c,v) (mN acc (nk (a+i)<|c+j)<|(jz acc<|nk (a+i)<|c+j).getD 0+v*x) B:=by show pD (nk a c,v) (mN acc (FZ (nk a c)<|nk i j)<|(jz acc<|FZ (nk a c)<|nk i j).getD 0+v*x) B=_;rw[ea]
  rw[e0];refine⟨g1,?_,?_⟩;rw[g2,Nu h,ds];have e1:(jz acc<|nk (a+i)<|c+j).getD 0+v*x-(jz acc<|nk (a+i)<|c+j).getD 0=v*x:=by lia
  have e2:((nk i j).getD 0 0).toNat=i:=by simp
  have e3:((nk i j).getD 1 0).toNat=j:=by simp
  simp;rw[e1,vQ,<-dG];lia;have:=EH acc (nk (a+i)<|c+j)<|(jz acc<|nk (a+i)<|c+j).getD 0+v*x;rw[bB];lia
theorem u9(B:jj)(hB:∀p∈B,∃i k:Nat,p.1=nk i k)(φ:Nat->Nat->Int):∀(A acc:jj),YW acc->(∀p∈A,∃i k:Nat,p.1=nk i k)->YW (A.foldl (λacc p=>pD p acc B) acc)/\ds (A.foldl (λacc p=>pD p acc B) acc) φ=ds acc φ+ds A (λi k=>ds B λa c=>φ (i+a)<|k+c)/\(A.foldl (λacc p=>pD p acc B) acc).length<=acc.length+A.length*B.length
 |[],acc,h,_=>⟨h,by simp[ds],by simp⟩
 |(k,v)::A,acc,h,hA=>by
  obtain⟨a,c,e⟩:=hA (k,v) (by simp);have e':k=nk a c:=e;subst e';obtain⟨f1,f2,f3⟩:=CI a c v φ B acc h hB;obtain⟨g1,g2,g3⟩:=u9 B hB φ A (pD (nk a c,v) acc B) f1 λp hp=>hA p (by simp[hp]);rw[rZ];refine⟨g1,?_,?_⟩;rw[g2,f2,ds];have e2:((nk a c).getD 0 0).toNat=a:=by simp
  have e3:((nk a c).getD 1 0).toNat=c:=by simp
  simp;lia;rw[bB,ig];lia
def CF(hA:YW A)(hB:YW B):YW (fW A B):=(u9 B hB.keys (λ_ _=>0) A [] .nil hA.keys).1
def pM(hA:YW A)(hB:YW B)(φ:Nat->Nat->Int):ds (fW A B) φ=ds A (λi k=>ds B λa c=>φ (i+a)<|k+c):=by have:=(u9 B hB.keys φ A [] .nil hA.keys).2.1;rw[show ds [] φ=0 from rfl,fB]at this;exact this
def rA{φ χ:Nat->Nat->Int}(kvs:jj)(h:∀i k,φ i k=χ i k):ds kvs φ=ds kvs χ:=by rw[show φ=χ from funext λi=>funext λk=>h i k]
def GF{X:Cx}(R:Bd->dP)(h1:W5 X (R []) c false)(h2:∀ys a,W5 X (R<|ys++[a]) c<|decide<|a=[])(h3:∀ys a,W4 X (R<|ys++[a]) body<|.nx<|R ys):∀(n:Nat)(ys:Bd),ys.length=n->∃m,XD X c body m (R ys) (.nx<|R<|mI ys):=by intro n;induction n with|zero=>intro ys e;rw[au e];exact⟨0,.stop h1⟩|succ n ih=>intro ys e;rcases cq ys with z |⟨zs,a,z⟩;rw[z]at e;cases e;rw[cJ]at z;subst z;by_cases ha:a=[];obtain⟨m,q⟩:=ih zs (by simpa using e);refine⟨m+1,.step (W5.eq (h2 zs a)<|aq ha) (h3 zs a) ?_⟩;rwa[ha,tP];refine⟨0,?_⟩;rw[tQ zs ha];exact .stop<|W5.eq (h2 zs a)<|aj ha
def Ma(kvs:jj)(k:Nat):az:=bR ((List.range 9).map λi=>(jz kvs<|nk i k).getD 0)
def iF(ds:ck)(d:D):Prop:=∃kvs:jj,ds=[.Xm kvs]/\d=aV (bN kvs)
def vp:∀ds d,iF ds d->ds.length=1:=by rintro _ _ ⟨a,rfl,_⟩;rfl
def kq(ds:ck)(kvs:jj):Prop:=∃A B:jj,ds=[.Xm A,.Xm B]/\YW A/\YW B/\A.length<=1000/\B.length<=1000/\VB (2 ^ 63) B/\kvs=fW A B
def wn:∀ds d,kq ds d->ds.length=2:=by rintro _ _ ⟨a,b,rfl,_⟩;rfl
def qz(xs:az):jj:=[(nk 0 0,xs.getD 0 0%11-5),(nk 1 0,xs.getD 1 0%7-3),(nk 0 1,xs.getD 2 0%5-2)]
def rW(ds:ck)(kvs:jj):Prop:=∃xs:az,ds=[bu xs]/\3<=xs.length/\kvs=qz xs
def AY:∀ds d,rW ds d->ds.length=1:=by rintro _ _ ⟨a,rfl,_⟩;rfl
def wV(k:Nat):az:=([nk 0 0,nk 1 0,nk 0 1,nk 2 0,nk 1 1,nk 0 2]:List az).getD k []
def fQ(xs:az):Int:=1+xs.getD 0 0%4
def je(xs:az):Nat->jj|0=>[]|k+1=>if xs.getD (1+k) 0 / 16%3>0 then mN (je xs k) (wV k) (xs.getD (1+k) 0%(2*fQ xs+1)-fQ xs)else je xs k
def qc(ds:ck)(kvs:jj):Prop:=∃xs:az,ds=[bu xs]/\7<=xs.length/\kvs=je xs 6
def zf:∀ds d,qc ds d->ds.length=1:=by rintro _ _ ⟨a,rfl,_⟩;rfl
def xR(xs:az):YW (qz xs)/\KIn 2 (qz xs)/\VB 5 (qz xs):=by
 refine⟨⟨λp hp=>?_,by show[nk 0 0,nk 1 0,nk 0 1].Nodup;decide⟩,λp hp=>?_,λp hp=>?_⟩<;>
 ·unfold qz at hp;rcases aF.mp hp with e |hp
  ·subst e;first
    |exact⟨0,0,rfl⟩|exact⟨0,0,rfl,by lia,by lia⟩
    |(show(xs.getD 0 0%11-5).natAbs<=5;lia)
  ·rcases aF.mp hp with e |hp
   ·subst e;first
     |exact⟨1,0,rfl⟩|exact⟨1,0,rfl,by lia,by lia⟩
     |(show(xs.getD 1 0%7-3).natAbs<=5;lia)
   ·have e:=aH.mp hp;subst e;first
     |exact⟨0,1,rfl⟩|exact⟨0,1,rfl,by lia,by lia⟩
     |(show(xs.getD 2 0%5-2).natAbs<=5;lia)
def OB{k:Nat}(h:k<6):∃a c:Nat,wV k=nk a c/\a<3/\c<3:=by
 match k,h with
 |0,_=>exact⟨0,0,rfl,by lia,by lia⟩|1,_=>exact⟨1,0,rfl,by lia,by lia⟩
 |2,_=>exact⟨0,1,rfl,by lia,by lia⟩|3,_=>exact⟨2,0,rfl,by lia,by lia⟩
 |4,_=>exact⟨1,1,rfl,by lia,by lia⟩|5,_=>exact⟨0,2,rfl,by lia,by lia⟩
theorem NG(xs:az):∀k,k<=6->KIn 5 (je xs k)/\VB 1000000 (je xs k)/\(je xs k).length<=k
 |0,_=>⟨λ_ h=>(nomatch h),λ_ h=>(nomatch h),ao _⟩
 |k+1,h=>by
  obtain⟨h1,h2,h3⟩:=NG xs k (by lia);obtain⟨a,c,e,ha,hc⟩:=OB (k:=k) (by lia);rw[je];split;rw[e];have hs:1<=fQ xs/\fQ xs<=4:=by unfold fQ;lia
  refine⟨h1.put (by lia) (by lia) _,h2.put ?_,?_⟩;have:=bK (xs.getD (1+k) 0) (show 0<2*fQ xs+1 by lia);have:=bO (xs.getD (1+k) 0) (show 2*fQ xs+1≠0 by lia);lia;have:=EH (je xs k) (nk a c)<|xs.getD (1+k) 0%(2*fQ xs+1)-fQ xs;lia;exact⟨h1,h2,by lia⟩
section
variable {X:Cx}
def xz(h:fA P w K mg base k jw jv X)(W6:mg "range"=none)(Xa:mg "tuple"=none)(W7:mg "len"=none)(c1:Callee X "_law_trim" io):Go X jw jv iF:=by
 rintro ds d ⟨kvs,rfl,rfl⟩;have t:=h.at';haveI:=h.XM;have b1:=h.bt W6;have b2:=h.bt Xa;have b3:=h.bt W7;refine ay (iy t 1<|fg av) ?_;refine ay (ρ':=[.val<|.Xm kvs,.own<|((List.range 9).map<|Ma kvs).map aD,.un]) (gY t (eD t b1 ak (by decide)<|by decide)<|Xc.Xl (λi=>[.val<|.Xm kvs,.own<|((List.range i).map<|Ma kvs).map aD,.un]) (λi d hi=>?_) rfl ?_) ?_;obtain⟨YR,rfl⟩:=gC hi;refine⟨_,c9 t 2,W4.weak (aM<|jp t 1 rfl (d:=aD<|Ma kvs i) (aX t c1 (ai (d:=bu ((List.range 9).map λj=>(jz kvs<|nk j i).getD 0)) (W0.eq (Xe.Xk (dR (rs:=(List.range 9).map λj=>D.int<|(jz kvs<|nk j i).getD 0) t (jw++[("_law_i":Str)]) (oU rfl) (eD t b1 ak (by decide)<|by decide) (by decide) λX' cx=>?_))<|by show D.lst _=D.lst _;rw[bp];rfl) av) ⟨_,rfl,by simp,rfl⟩) ?_) ?_⟩;exact W9.gen (λ(j:Nat)=>D.int<|0+j) _ (λj=>[.val<|.Xm kvs,.own<|((List.range i).map<|Ma kvs).map aD,.val<|.int i,.val<|.int j]) _ _ (λx hx=>by rw[fB];exact aU cx.at' 3) (λx hx y hy=>by rw[fB];exact aU cx.at' 3) λx hx=>Ju cx.at' (W0.dr<|aa cx.at' 0 rfl)<|ai (bH<|ai (aa cx.at' 3 rfl)<|ai (aa cx.at' 2 rfl) av)<|ai ak av;rw[ab,ab,cY];exact gR (by simp at YR;lia);rw[eU,bj,bj];exact .keep<|.keep<|.forget .nil;rfl;refine ay (iu t<|GF (λys=>[.val<|.Xm kvs,.own<|ys.map aD,.un]) ?_ (λys a=>?_) (λys a=>?_) _ ((List.range 9).map<|Ma kvs) rfl)<|aM<|cp<|gG t b2<|dw t 1 rfl;exact XT.toT<|pK<|kM t (Yj.p<|dw t 1 rfl) (W0.p<|Xe.Xk<|fg av) (fq []) (fq []) (by have:=sL [] [];exact bo not this);refine XT.toT<|j3 (kM t (Yj.p<|dw t 1 rfl) (W0.p<|Xe.Xk<|fg av) ((C6<|ys++[a]).sh<|by decide) (fq []) ?_)<|j4<|jA t (W0.p<|bM (dw t 1 rfl) (cu (bX t b3<|dw t 1 rfl) ak) ?_) (W0.p (d:=aD [])<|bH av) (bJ _) (bJ _)<|gH _ _;show(!(PyData.list<|Xb<|(ys++[a]).map aD).eqv (.list<|Xb []))=true;rw[D9];cases ys with|nil=>simp[Xb,PyData.eqv,PyData.eqvAll]|cons r ys=>simp[Xb,PyData.eqv,PyData.eqvAll]
 rw[ab,wC (n:=ys.length) (by simp) (by simp)<|by simp];simp;refine W4.eq (aM<|L0 t 1 rfl<|by simp) ?_;rw[bj];have e:(ys.map aD++[a].map aD).dropLast=ys.map aD:=by simp
 rw[e];rfl
def xw(h:fA P w K mg base k mW jS X):∀ds d,kq ds d->vH X (Lg mW ds) (ft jS) d:=by
 rintro ds d ⟨A,B,rfl,hA,hB,lA,lB,vB,rfl⟩;have t:=h.at';haveI:=h.XM;refine oP (LZ t 2 Np) ?_;refine oP (ρ':=[.val<|.Xm A,.val<|.Xm B,.X6<|fW A B,.un,.un,.un,.un]) (gY t (No<|aa t 0)<|Xc.Xl (λi=>[.val<|.Xm A,.val<|.Xm B,.X6<|(A.take i).foldl (λacc p=>pD p acc B) [],.un,.un,.un,.un]) (λi d hi=>?_) rfl ?_)<|Jy t 2 rfl
 ·rw[aw]at hi;cases hp:A[i]? with
  |none=>rw[hp]at hi;cases hi
  |some p=>
  rw[hp]at hi;cases hi;obtain⟨key,v⟩:=p;have hm:=bV hp;obtain⟨a,c,e⟩:=hA.keys _ hm;have e':=e;subst e';have hv:=uC hA.nd hm;obtain⟨f1,_,f3⟩:=u9 B hB.keys (λ_ _=>0) (A.take i) [] .nil λp hp=>hA.keys p<|DT hp;have f3':((A.take i).foldl (λacc p=>pD p acc B) []).length<=1000*1000:=by
   have h1:(A.take i).length<=1000:=by rw[cX];lia
   have h2:=fy h1 lB;have h3:([]:jj).length=0:=rfl;lia
  have et:=jI hp;refine⟨_,mv t 3 4,W4.weak (W1:=[.val<|.Xm A,.val<|.Xm B,.X6<|(A.take<|i+1).foldl (λacc p=>pD p acc B) [],.val<|.int a,.val<|.int c,.un,.un]) (aM<|gY t (No<|aa t 1)<|Xc.Xl (λj=>[.val<|.Xm A,.val<|.Xm B,.X6<|pD (nk a c,v) ((A.take i).foldl (λacc p=>pD p acc B) [])<|B.take j,.val<|.int a,.val<|.int c,.un,.un]) (λj d hj=>?_) rfl ?_)<|.keep<|.keep<|.keep<|.forget<|.forget<|.keep<|.keep .nil⟩
  ·rw[aw]at hj;cases hq:B[j]? with
   |none=>rw[hq]at hj;cases hj
   |some q=>
   rw[hq]at hj;cases hj;obtain⟨zAT,v2⟩:=q;have hm2:=bV hq;obtain⟨a2,c2,e⟩:=hB.keys _ hm2;have e':zAT=nk a2 c2:=e;subst e';have hv2:=uC hB.nd hm2;have hb2:=vB _ hm2;have et2:=jI hq;obtain⟨_,_,g3⟩:=CI a c v (λ_ _=>0) (B.take j) _ f1 λp hp=>hB.keys p<|DT hp;have g4:(B.take j).length<=1000:=by rw[cX];lia
   refine⟨_,mv t 5 6,W4.weak (aM<|nG t (dj (Ju (k:=FZ (nk a c)<|nk a2 c2) t (SB t 2 rfl)<|ai (bH<|ai (dj (aa t 3)<|aa t 5)<|ai (dj (aa t 4)<|aa t 6) av)<|ai ak av)<|eh (Nd t (W0.dr<|aa t 0) (bH<|ai (aa t 3)<|ai (aa t 4) av) hv) (Nd t (W0.dr<|aa t 1) (bH<|ai (aa t 5)<|ai (aa t 6) av) hv2)<|oJ (by lia)<|by lia)<|JB (k:=FZ (nk a c)<|nk a2 c2) t 2 rfl (bH<|ai (dj (aa t 3)<|aa t 5)<|ai (dj (aa t 4)<|aa t 6) av)<|by rw[gq];lia) ?_⟩;rw[et2,show pD (nk a c,v) ((A.take i).foldl (λacc p=>pD p acc B) []) (B.take j++[(nk a2 c2,v2)])=_ from oj];exact .keep<|.keep<|.keep<|.keep<|.keep<|.forget<|.forget .nil
  ·rw[ab,fJ,et,oj];rfl
 ·rw[ab,fJ];rfl
end
def Qz(xs:az):jj:=[(nk 0 0,xs.getD 1 0%11-5),(nk 1 0,xs.getD 2 0%7-3),(nk 2 0,xs.getD 3 0%5-2)]
def Bp(xs:az):jj:=[(nk 0 0,xs.getD 1 0%5-2),(nk 1 0,1)]
def Qy(xs:az):jj:=[(nk 0 0,0-xs.getD 1 0%10),(nk 2 0,1+xs.getD 2 0%2),(nk 0 2,1+xs.getD 3 0%2)]
def Ky(xs:az):jj:=if xs.getD 0 0%8<2 then je (lQ xs (some 1) none) 6 else if xs.getD 0 0%8=2 then Qz xs else if xs.getD 0 0%8=3 then fW (qz<|lQ xs (some 1) none) (qz<|lQ xs (some 4) none)else if xs.getD 0 0%8=4 then fW (qz<|lQ xs (some 1) none) (qz [xs.getD 1 0,xs.getD 2 0,xs.getD 3 0])else if xs.getD 0 0%8=5 then fW (Bp xs) (qz<|lQ xs (some 4) none)else if xs.getD 0 0%8=6 then Qy xs else qz<|lQ xs (some 1) none
def Ui(c:Int):Bd:=bN<|Ky<|qy c 12
def VB.mono{m:Nat}(h:VB n kvs)(q:n<=m):VB m kvs:=λp hp=>aL (h p hp) q
def D4(xs:az):YW (Bp xs)/\KIn 2 (Bp xs)/\VB 5 (Bp xs):=by
 refine⟨⟨λp hp=>?_,by show[nk 0 0,nk 1 0].Nodup;decide⟩,λp hp=>?_,λp hp=>?_⟩<;>
 ·unfold Bp at hp;rcases aF.mp hp with e |hp
  ·subst e;first
    |exact⟨0,0,rfl⟩|exact⟨0,0,rfl,by lia,by lia⟩
    |(show(xs.getD 1 0%5-2).natAbs<=5;lia)
  ·have e:=aH.mp hp;subst e;first
    |exact⟨1,0,rfl⟩|exact⟨1,0,rfl,by lia,by lia⟩
    |decide
def qd(ds:ck)(d:D):Prop:=∃c:Int,ds=[.int c]/\d=aV (Ui c)
def zg:∀ds d,qd ds d->ds.length=1:=by rintro _ _ ⟨a,rfl,_⟩;rfl
def FB{xs:az}{n m:Nat}(h:xs.length=n)(hm:m<=n):(lQ xs (some (m:Int)) none).length=n-m:=by
 unfold lQ;have e1:HT.Ya xs.length 0 (some m)=m:=by simp only[HT.Ya];split<;>lia
 have e2:HT.Ya xs.length xs.length none=xs.length:=by simp[HT.Ya]
 rw[cX,cO,e1,e2,h];lia
section
variable {X:Cx}
def DC(h:fA P w K mg base k rM nJ X):∀ds d,rW ds d->vH X (Lg rM ds) (ft nJ) d:=by rintro ds d ⟨xs,rfl,hl,rfl⟩;have t:=h.at';haveI:=h.XM;refine Ft<|Xp.eq (sR t<|XF.cons (k:=nk 0 0) (bH<|ai ak<|ai ak av) (cu (bU (bM (W0.ql<|aa t 0) ak<|dY (n:=0)<|by lia) ak) ak)<|XF.cons (k:=nk 1 0) (bH<|ai ak<|ai ak av) (cu (bU (bM (W0.ql<|aa t 0) ak<|dY (n:=1)<|by lia) ak) ak)<|XF.cons (k:=nk 0 1) (bH<|ai ak<|ai ak av) (cu (bU (bM (W0.ql<|aa t 0) ak<|dY (n:=2)<|by lia) ak) ak) .nil) rfl
end
set_option maxHeartbeats 400000
def tS:ck:=[.tup [.int 0,.int 0],.tup [.int 1,.int 0],.tup [.int 0,.int 1],.tup [.int 2,.int 0],.tup [.int 1,.int 1],.tup [.int 0,.int 2]]
def J7{i:Nat}(h:i<6):s9 tS (i:Int)=some (.tup<|(wV i).map D.int):=by
 match i,h with
 |0,_=>rfl|1,_=>rfl
 |2,_=>rfl|3,_=>rfl
 |4,_=>rfl|5,_=>rfl
section
variable {X:Cx}
def Bb(h:fA P w K mg base k pU mm X)(W6:mg "range"=none):∀ds d,qc ds d->vH X (Lg pU ds) (ft mm) d:=by
 rintro ds d ⟨xs,rfl,hl,rfl⟩;have t:=h.at';haveI:=h.XM;have b1:=h.bt W6;have two:∀{U:dP}{i j:Int}{pos p1 p2:Pos}{x1 n1 n2:Nat},W0 X U (.Tuple [.Constant (.int i) n1 p1,.Constant (.int j) n2 p2] x1 pos) (.tup [.int i,.int j]):=bH<|ai ak<|ai ak av;refine oP (df t 1<|dj ak<|bU (bM (W0.ql<|aa t 0) ak<|dY (n:=0)<|by lia) ak) ?_;refine oP (LZ t 2 Np) ?_;refine oP (ρ':=[.val<|bu xs,.val<|.int<|fQ xs,.X6 [],.own tS,.un]) ?_ ?_;refine iy t 3 ?_ (hs:=?_);refine fg ?_;refine ai two ?_;refine ai two ?_;refine ai two ?_;refine ai two ?_;refine ai two ?_;refine ai two ?_;exact av;rfl;refine oP (ρ':=[.val<|bu xs,.val<|.int<|fQ xs,.X6<|je xs 6,.own tS,.un]) (gY t (eD t b1 ak (by decide)<|by decide)<|Xc.Xl (λi=>[.val<|bu xs,.val<|.int<|fQ xs,.X6<|je xs i,.own tS,.un]) (λi d hi=>?_) rfl ?_)<|Jy t 2 rfl;rotate_left;have e:(cH 0 (6:Int).toNat).length=6:=by simp[cH]
 exact bo (λn=>[Sl.val<|bu xs,Sl.val<|.int<|fQ xs,Sl.X6<|je xs n,Sl.own tS,Sl.un]) e;obtain⟨YR,rfl⟩:=gC hi;have Yb:i<6:=by simpa using YR
 let⟨_,_,l3⟩:=NG xs i (by lia);have hs:1<=fQ xs/\fQ xs<=4:=by unfold fQ;lia
 have e1:1+i=((1+i:Nat):Int):=by lia
 have hx:s9 (xs.map D.int) (1+i)=some (.int<|xs.getD (1+i) 0):=by rw[e1];exact dY<|by lia
 have hk:s9 tS i=some (.tup<|(wV i).map D.int):=by exact J7 Yb
 refine⟨_,c9 t 4,W4.weak (W1:=[.val<|bu xs,.val<|.int<|fQ xs,.X6<|je xs<|i+1,.own tS,.val<|.int i]) (aM ?_)<|.keep<|.keep<|.keep<|.keep<|.forget .nil⟩;by_cases hc:xs.getD (1+i) 0 / 16%3>0;refine fF (W5.eq (lY (bU (vw t (bM (W0.ql<|aa t 0) (dj ak<|aa t 4) hx) ak) ak) ak)<|aq hc)<|W4.eq (aM<|nG t (cu (bU (bM (W0.ql<|aa t 0) (dj ak<|aa t 4) hx) (dj (eh ak (aa t 1)<|gD (by decide)<|by decide) ak)<|by lia)<|aa t 1)<|JB t 2 rfl (bM (dw t 3 rfl) (aa t 4) hk)<|by rw[gq];lia) ?_;rw[show je xs (i+1)=_ from ag hc];rfl;refine fx (W5.eq (lY (bU (vw t (bM (W0.ql<|aa t 0) (dj ak<|aa t 4) hx) ak) ak) ak)<|aj hc)<|W4.eq dM ?_;rw[show je xs (i+1)=je xs i from af hc];rfl
end
set_option maxHeartbeats 8000000
section
variable {X:Cx}
def DJ(h:fA P w K mg base k pV mo X)(cN:Callee X "_law_numbers" kr)(cB:Callee X "_law_board_of" iF)(cL:XE X "_law_line" rW)(cC:XE X "_law_conic" qc)(cP:XE X "_law_product" kq):Go X pV mo qd:=by rintro ds d ⟨c,rfl,rfl⟩;have t:=h.at';haveI:=h.XM;refine ay (df t 1<|aX t cN (ai (aa t 0)<|ai ak av) ⟨c,12,rfl,by decide,rfl⟩) ?_;have hl:=wa c 12;have e0:Ui c=bN (Ky<|qy c 12):=rfl;rw[e0];generalize qy c 12=xs at hl;have l1:(lQ xs (some 1) none).length=11:=FB (m:=1) hl (by lia);have l4:(lQ xs (some 4) none).length=8:=FB (m:=4) hl (by lia);have hv:∀n:Nat,n<12->s9 (xs.map D.int) n=some (.int<|xs.getD n 0):=λn hn=>dY (by lia);refine ay (df t 2<|bU (bM (W0.ql<|aa t 1) ak<|hv 0<|by lia) ak) ?_;have fin:∀{kvs:jj},Ky xs=kvs->iF [.Xm kvs] (aV<|bN<|Ky xs):=λ{kvs}e=>⟨kvs,rfl,by rw[e]⟩;have s1:∀{pos p2 p:Pos}{x1:Nat},W0 X [.val<|.int c,.val<|bu xs,.val<|.int<|xs.getD 0 0%8] (.Subscript (.Name "_law_xs" p) (.Slice (some<|.Constant (.int 1) x1 p) none none p2) pos) (bu<|lQ xs (some 1) none)->True:=λ_=>trivial;by_cases h0:xs.getD 0 0%8<2;refine ff<|fF (W5.eq (rj (aa t 2) ak)<|aq h0)<|aM<|cp<|aX t cB (ai (Xp.Xk<|iK t cC (ai (W0.eq (Xe.Xk<|j7 (W0.ql<|aa t 1) (j5 ak) ia)<|by rw[jr]) av) ⟨_,rfl,by lia,rfl⟩) av)<|fin ?_;unfold Ky;rw[ag h0];refine ay (fx (W5.eq (rj (aa t 2) ak)<|aj h0) dM) ?_;by_cases h2:xs.getD 0 0%8=2;refine ff<|fF (W5.eq (eO (aa t 2) ak)<|aq h2)<|aM<|cp<|aX t cB (ai (d:=.Xm<|Qz xs) ?_ av)<|fin ?_;refine Xp.Xk<|Xp.eq (sR t<|XF.cons (k:=nk 0 0) (bH<|ai ak<|ai ak av) (cu (bU (bM (W0.ql<|aa t 1) ak<|hv 1<|by lia) ak) ak)<|XF.cons (k:=nk 1 0) (bH<|ai ak<|ai ak av) (cu (bU (bM (W0.ql<|aa t 1) ak<|hv 2<|by lia) ak) ak)<|XF.cons (k:=nk 2 0) (bH<|ai ak<|ai ak av) (cu (bU (bM (W0.ql<|aa t 1) ak<|hv 3<|by lia) ak) ak) .nil) rfl;unfold Ky;rw[af h0,ag h2];refine ay (fx (W5.eq (eO (aa t 2) ak)<|aj h2) dM) ?_;obtain⟨a1,a2,a3⟩:=xR<|lQ xs (some 1) none;obtain⟨d1,d2,d3⟩:=xR<|lQ xs (some 4) none;by_cases h3:xs.getD 0 0%8=3;refine ff<|fF (W5.eq (eO (aa t 2) ak)<|aq h3)<|aM<|cp<|aX t cB (ai (Xp.Xk<|iK t cP (ai (Xp.Xk<|iK t cL (ai (W0.eq (Xe.Xk<|j7 (W0.ql<|aa t 1) (j5 ak) ia)<|by rw[jr]) av) ⟨_,rfl,by lia,rfl⟩)<|ai (Xp.Xk<|iK t cL (ai (W0.eq (Xe.Xk<|j7 (W0.ql<|aa t 1) (j5 ak) ia)<|by rw[jr]) av) ⟨_,rfl,by lia,rfl⟩) av) ⟨_,_,rfl,a1,d1,(show 3<=1000 by decide),(show 3<=1000 by decide),d3.mono<|by decide,rfl⟩) av)<|fin ?_;unfold Ky;rw[af h0,af h2,ag h3];refine ay (fx (W5.eq (eO (aa t 2) ak)<|aj h3) dM) ?_;by_cases h4:xs.getD 0 0%8=4;obtain⟨g1,g2,g3⟩:=xR [xs.getD 1 0,xs.getD 2 0,xs.getD 3 0];refine ff<|fF (W5.eq (eO (aa t 2) ak)<|aq h4)<|aM<|cp<|aX t cB (ai (Xp.Xk<|iK t cP (ai (Xp.Xk<|iK t cL (ai (W0.eq (Xe.Xk<|j7 (W0.ql<|aa t 1) (j5 ak) ia)<|by rw[jr]) av) ⟨_,rfl,by lia,rfl⟩)<|ai (Xp.Xk<|iK t cL (ai (Xe.Xk<|fg<|ai (bM (W0.ql<|aa t 1) ak<|hv 1<|by lia)<|ai (bM (W0.ql<|aa t 1) ak<|hv 2<|by lia)<|ai (bM (W0.ql<|aa t 1) ak<|hv 3<|by lia) av) av) ⟨_,rfl,ao _,rfl⟩) av) ⟨_,_,rfl,a1,g1,(show 3<=1000 by decide),(show 3<=1000 by decide),g3.mono<|by decide,rfl⟩) av)<|fin ?_;unfold Ky;rw[af h0,af h2,af h3,ag h4];refine ay (fx (W5.eq (eO (aa t 2) ak)<|aj h4) dM) ?_;by_cases h5:xs.getD 0 0%8=5;obtain⟨g1,g2,g3⟩:=D4 xs;refine ff<|fF (W5.eq (eO (aa t 2) ak)<|aq h5)<|aM<|cp<|aX t cB (ai (Xp.Xk<|iK t cP (ai ?_<|ai (Xp.Xk<|iK t cL (ai (W0.eq (Xe.Xk<|j7 (W0.ql<|aa t 1) (j5 ak) ia)<|by rw[jr]) av) ⟨_,rfl,by lia,rfl⟩) av) ⟨_,_,rfl,g1,d1,(show 2<=1000 by decide),(show 3<=1000 by decide),d3.mono<|by decide,rfl⟩) av)<|fin ?_;refine Xp.Xk<|Xp.eq (sR t<|XF.cons (k:=nk 0 0) (bH<|ai ak<|ai ak av) (cu (bU (bM (W0.ql<|aa t 1) ak<|hv 1<|by lia) ak) ak)<|XF.cons (k:=nk 1 0) (bH<|ai ak<|ai ak av) ak .nil) rfl;unfold Ky;rw[af h0,af h2,af h3,af h4,ag h5];refine ay (fx (W5.eq (eO (aa t 2) ak)<|aj h5) dM) ?_;by_cases h6:xs.getD 0 0%8=6;refine ff<|fF (W5.eq (eO (aa t 2) ak)<|aq h6)<|aM<|cp<|aX t cB (ai (d:=.Xm<|Qy xs) ?_ av)<|fin ?_;refine Xp.Xk<|Xp.eq (sR t<|XF.cons (k:=nk 0 0) (bH<|ai ak<|ai ak av) (cu ak<|bU (bM (W0.ql<|aa t 1) ak<|hv 1<|by lia) ak)<|XF.cons (k:=nk 2 0) (bH<|ai ak<|ai ak av) (dj ak<|bU (bM (W0.ql<|aa t 1) ak<|hv 2<|by lia) ak)<|XF.cons (k:=nk 0 2) (bH<|ai ak<|ai ak av) (dj ak<|bU (bM (W0.ql<|aa t 1) ak<|hv 3<|by lia) ak) .nil) rfl;unfold Ky;rw[af h0,af h2,af h3,af h4,af h5,ag h6];refine ay (fx (W5.eq (eO (aa t 2) ak)<|aj h6) dM) ?_;refine aM<|cp<|aX t cB (ai (Xp.Xk<|iK t cL (ai (d:=bu<|lQ xs (some 1) none) (W0.eq (Xe.Xk<|j7 (W0.ql<|aa t 1) (j5 ak) ia)<|by rw[jr]) av) ⟨_,rfl,by lia,rfl⟩) av)<|fin ?_;unfold Ky;rw[af h0,af h2,af h3,af h4,af h5,af h6]
end
end My
namespace My
variable {α:Type}
variable {K:gS}
def dS(f:Nat->Int):Nat->Int|0=>0|n+1=>dS f n+f n
theorem fc{f g:Nat->Int}:∀{n:Nat},(∀i,i<n->f i=g i)->dS f n=dS g n|0,_=>rfl|n+1,h=>by show dS f n+f n=dS g n+g n;rw[fc λi hi=>h i<|by lia,h n<|by lia]
theorem nT(a:Int)(f g:Nat->Int):∀n,dS (λi=>a*f i+g i) n=a*dS f n+dS g n|0=>by show(0:Int)=a*0+0;lia|n+1=>by show dS (λi=>a*f i+g i) n+(a*f n+g n)=a*(dS f n+f n)+(dS g n+g n);rw[nT a f g n];grind
theorem gU{f:Nat->Int}:∀{n:Nat},(∀i,i<n->f i=0)->dS f n=0|0,_=>rfl|n+1,h=>by show dS f n+f n=0;rw[gU λi hi=>h i<|by lia,h n<|by lia];rfl
def SN(f g:Nat->Int)(n:Nat):dS (λi=>f i+g i) n=dS f n+dS g n:=by have:=nT 1 f g n;simp at this;exact this
def sk(j k:Nat):Nat:=if k<j then k else k+1
def sg(j:Nat):Int:=if j%2=0 then 1 else-1
def IB(j:Nat):sg (j+1)=-sg j:=by unfold sg;split<;>split<;>lia
def det:Nat->(Nat->Nat->Int)->Int|0,_=>1|n+1,A=>dS (λj=>sg j*A 0 j*det n (λi k=>A (i+1)<|sk j k))<|n+1
def LR{k n:Nat}(h:k<n):sk j k<n+1:=by unfold sk;split<;>lia
theorem e9:∀{n:Nat}{A B:Nat->Nat->Int},(∀i j,i<n->j<n->A i j=B i j)->det n A=det n B|0,_,_,_=>rfl|n+1,A,B,h=>fc λj hj=>by rw[h 0 j (by lia) hj,e9 λi k hi hk=>h (i+1) (sk j k) (by lia)<|LR hk]
theorem nO(a:Int):∀{n:Nat}(r:Nat){A B C:Nat->Nat->Int},r<n->(∀i j,i≠r->A i j=B i j)->(∀i j,i≠r->A i j=C i j)->(∀j,A r j=a*B r j+C r j)->det n A=a*det n B+det n C
 |0,r,_,_,_,h,_,_,_=>by lia|n+1,0,A,B,C,_,hB,hC,hr=>by show dS _ (n+1)=a*dS _ (n+1)+dS _ (n+1);rw[<-nT];refine fc λj hj=>?_;have e1:det n (λi k=>A (i+1)<|sk j k)=det n (λi k=>B (i+1)<|sk j k):=e9 λi k _ _=>hB _ _ (by lia);have e2:det n (λi k=>A (i+1)<|sk j k)=det n (λi k=>C (i+1)<|sk j k):=e9 λi k _ _=>hC _ _ (by lia);rw[<-e1,<-e2,hr j];grind
 |n+1,r+1,A,B,C,h,hB,hC,hr=>by show dS _ (n+1)=a*dS _ (n+1)+dS _ (n+1);rw[<-nT];refine fc λj hj=>?_;have e:=nO a (n:=n) r (C:=λi k=>C (i+1)<|sk j k) (by lia) (λi k hi=>hB _ _<|by lia) (λi k hi=>hC _ _<|by lia) λk=>hr _;rw[e,<-hB 0 j (by lia),<-hC 0 j (by lia)];grind
theorem vz:∀{n:Nat}{A:Nat->Nat->Int},(∀i,i<n+1->A i 0=0)->det (n+1) A=0
 |n,A,h=>gU λj hj=>by
  cases j with
  |zero=>rw[h 0<|by lia];simp
  |succ j=>
   cases n with
   |zero=>lia
   |succ n=>
    rw[vz λi hi=>?_,aO];have:sk (j+1) 0=0:=by unfold sk;rw[ag<|by lia]
    rw[this];exact h _<|by lia
def B5{n:Nat}{A:Nat->Nat->Int}(h:∀i,i<n->A (i+1) 0=0):det (n+1) A=A 0 0*det n (λi k=>A (i+1)<|k+1):=by
 have key:∀m,m<=n->dS (λj=>sg j*A 0 j*det n (λi k=>A (i+1)<|sk j k)) (m+1)=A 0 0*det n (λi k=>A (i+1)<|k+1):=by
  intro m;induction m with
  |zero=>
   intro _;show 0+sg 0*A 0 0*det n (λi k=>A (i+1)<|sk 0 k)=_;have e:det n (λi k=>A (i+1)<|sk 0 k)=det n (λi k=>A (i+1)<|k+1):=e9 λi k _ _=>by
    have:sk 0 k=k+1:=by unfold sk;rw[af<|by lia]
    rw[this]
   rw[e];show 0+1*A 0 0*_=_;grind
  |succ m ih=>
   intro hm;show dS _ (m+1)+_=_;rw[ih<|by lia];cases n with
   |zero=>lia
   |succ n=>
    have:det (n+1) (λi k=>A (i+1)<|sk (m+1) k)=0:=vz λi hi=>by
     have:sk (m+1) 0=0:=by unfold sk;rw[ag<|by lia]
     rw[this];exact h _ hi
    show _+sg (m+1)*A 0 (m+1)*det (n+1) (λi k=>A (i+1)<|sk (m+1) k)=_;rw[this,aO,cn]
 exact key n<|ao _
theorem JK(f:Nat->Nat->Int)(m:Nat):∀n,dS (λi=>dS (λj=>f i j) m) n=dS (λj=>dS (λi=>f i j) n) m|0=>(gU λi _=>rfl).symm|n+1=>by show dS (λi=>dS (λj=>f i j) m) n+dS (λj=>f n j) m=dS (λj=>dS (λi=>f i j) n+f n j) m;rw[SN,JK f m n]
def NC(f:Nat->Int)(n:Nat):dS (λi=>-f i) n=-dS f n:=by have:=nT (-1) f (λ_=>0) n;rw[gU λ_ _=>rfl]at this;rw[show(λi=>-f i)=λi=>-1*f i+0 from funext λi=>by lia,this];lia
def K0{n:Nat}{H:Nat->Nat->Int}(h:∀i j,i<n->j<n->H i j=-H j i):dS (λi=>dS (λj=>H i j) n) n=0:=by
 have e:=JK H n n;have e2:dS (λj=>dS (λi=>H i j) n) n=-dS (λi=>dS (λj=>H i j) n) n:=by rw[<-NC];refine fc λj hj=>?_;rw[<-NC];exact fc λi hi=>h i j hi hj
 lia
theorem En(f:Nat->Int)(j:Nat):∀n,j<=n->dS (λk=>f<|sk j k) n=dS (λc=>if c=j then 0 else f c) (n+1)
 |0,h=>by
  have:j=0:=by lia
  subst this;rfl
 |n+1,h=>by
  by_cases z:j=n+1;show _=dS (λc=>if c=j then 0 else f c) (n+1)+(if n+1=j then 0 else f<|n+1);rw[ag z.symm,cn];refine fc λk hk=>?_;have:sk j k=k:=by unfold sk;rw[ag<|by lia]
  rw[this,af<|by lia];show dS (λk=>f<|sk j k) n+f (sk j n)=dS (λc=>if c=j then 0 else f c) (n+1)+(if n+1=j then 0 else f<|n+1);have:sk j n=n+1:=by unfold sk;rw[af<|by lia]
  rw[En f j n<|by lia,this,af<|by lia]
def pk(j c:Nat):Nat:=if c<j then c else c-1
def T5(j k:Nat):pk j (sk j k)=k:=by unfold pk sk;by_cases h:k<j;rw[ag h,ag h];rw[af h,af<|by lia];lia
def P4{n:Nat}{A:Nat->Nat->Int}(h:∀j,A 0 j=A 1 j):det (n+2) A=0:=by
 have e:det (n+2) A=dS (λj=>dS (λc=>if c=j then 0 else sg j*A 0 j*(sg (pk j c)*A 1 c*det n (λi l=>A (i+2)<|sk j<|sk (pk j c) l)))<|n+2) (n+2):=by
  refine fc λj hj=>?_
  rw[<-En (λc=>sg j*A 0 j*(sg (pk j c)*A 1 c*det n (λi l=>A (i+2)<|sk j<|sk (pk j c) l))) j (n+1) (by lia)]
  have:=nT (sg j*A 0 j) (λk=>sg k*A 1 (sk j k)*det n (λi l=>A (i+2)<|sk j<|sk k l)) (λ_=>0)<|n+1
  rw[gU λ_ _=>rfl,cn]at this
  refine Eq.trans this.symm (fc λk hk=>?_)
  rw[T5,cn]
 rw[e]
 refine K0 λj c hj hc=>?_
 by_cases z:c=j
 ·rw[ag z,ag z.symm];rfl
 ·rw[af z,af λy=>z y.symm,h j,<-h c]
  have hs:sg j*sg (pk j c)=-(sg c*sg (pk c j)):=by
   unfold pk
   rcases Nat.lt_or_gt_of_ne z with y |y
   ·rw[ag y,af<|by lia]
    obtain⟨m,rfl⟩:∃m,j=m+1:=⟨j-1,by lia⟩
    rw[IB,jH];grind
   ·rw[af<|by lia,ag y]
    obtain⟨m,rfl⟩:∃m,c=m+1:=⟨c-1,by lia⟩
    rw[IB,jH];grind
  have Zh:∀l,sk j (sk (pk j c) l)=sk c (sk (pk c j) l):=λl=>by
   unfold pk
   rcases Nat.lt_or_gt_of_ne z with y |y
   ·rw[ag y,af<|by lia];unfold sk;repeat' split
    all_goals lia
   ·rw[af<|by lia,ag y];unfold sk;repeat' split
    all_goals lia
  have ed:det n (λi l=>A (i+2)<|sk j<|sk (pk j c) l)=det n (λi l=>A (i+2)<|sk c<|sk (pk c j) l):=e9 λi l _ _=>by rw[Zh l]
  rw[ed,h c]
  generalize det n (λi l=>A (i+2)<|sk c<|sk (pk c j) l)=D
  have:sg j*A 1 j*(sg (pk j c)*A 1 c*D)=(sg j*sg (pk j c))*(A 1 j*A 1 c*D):=by grind
  rw[this,hs];grind
theorem Di:∀{n:Nat}(r:Nat){A:Nat->Nat->Int},r+1<n->(∀j,A r j=A (r+1) j)->det n A=0
 |0,r,_,h,_=>by lia|1,r,_,h,_=>by lia
 |n+2,0,A,_,h=>P4 h|n+2,r+1,A,hr,h=>gU λj hj=>by rw[Di r (by lia) λk=>h _,aO]
def QE(r:Nat)(i:Nat):Nat:=if i=r then r+1 else if i=r+1 then r else i
def Nw{n r:Nat}{A:Nat->Nat->Int}(hr:r+1<n):det n (λi j=>A (QE r i) j)=-det n A:=by
 let M:(Nat->Int)->(Nat->Int)->Nat->Nat->Int:=λu v i j=>if i=r then u j else if i=r+1 then v j else A i j;have l1:∀u u' v:Nat->Int,det n (M (λj=>u j+u' j) v)=det n (M u v)+det n (M u' v):=λu u' v=>by
  have:=nO 1 (n:=n) r (A:=M (λj=>u j+u' j) v) (B:=M u v) (C:=M u' v) (by lia) (λi j hi=>by show(if _ then _ else _)=(if _ then _ else _);rw[af hi,af hi]) (λi j hi=>by show(if _ then _ else _)=(if _ then _ else _);rw[af hi,af hi]) λj=>by show(if r=r then _ else _)=1*(if r=r then _ else _)+(if r=r then _ else _);rw[ag rfl,ag rfl,ag rfl,bS]
  rw[this,bS]
 have l2:∀u v v':Nat->Int,det n (M u λj=>v j+v' j)=det n (M u v)+det n (M u v'):=λu v v'=>by
  have:=nO 1 (n:=n) (r+1) (A:=M u λj=>v j+v' j) (B:=M u v) (C:=M u v') (by lia) (λi j hi=>by show(if _ then _ else if _ then _ else _)=(if _ then _ else if _ then _ else _);rw[af hi,af hi]) (λi j hi=>by show(if _ then _ else if _ then _ else _)=(if _ then _ else if _ then _ else _);rw[af hi,af hi]) λj=>by show(if r+1=r then _ else if r+1=r+1 then _ else _)=1*(if r+1=r then _ else if r+1=r+1 then _ else _)+(if r+1=r then _ else if r+1=r+1 then _ else _);rw[af<|by lia,ag rfl,af<|by lia,ag rfl,af<|by lia,ag rfl,bS]
  rw[this,bS]
 have z:∀u:Nat->Int,det n (M u u)=0:=λu=>Di r hr λj=>by show(if r=r then _ else _)=(if r+1=r then _ else if r+1=r+1 then _ else _);rw[ag rfl,af<|by lia,ag rfl]
 have k:=z λj=>A r j+A (r+1) j;rw[l1 (λj=>A r j) λj=>A (r+1) j,l2,l2,z,z]at k;have e1:det n (M (λj=>A r j) λj=>A (r+1) j)=det n A:=e9 λi j _ _=>by show(if i=r then A r j else if i=r+1 then A (r+1) j else A i j)=A i j;by_cases h1:i=r;rw[ag h1,h1];rw[af h1];by_cases h2:i=r+1;rw[ag h2,h2];rw[af h2]
 have e2:det n (M (λj=>A (r+1) j) λj=>A r j)=det n (λi j=>A (QE r i) j):=e9 λi j _ _=>by show(if i=r then A (r+1) j else if i=r+1 then A r j else A i j)=A (QE r i) j;unfold QE;by_cases h1:i=r;rw[ag h1,ag h1];rw[af h1,af h1];by_cases h2:i=r+1;rw[ag h2,ag h2];rw[af h2,af h2]
 rw[e1,e2]at k;lia
theorem wu:∀(i:Nat){n:Nat}{A:Nat->Nat->Int},i+1<n->(∀j,A 0 j=A (i+1) j)->det n A=0
 |0,n,A,h,e=>Di 0 h e
 |i+1,n,A,h,e=>by
  have s:=Nw (n:=n) (r:=i+1) (A:=A) (by lia);rw[wu i (by lia) λj=>?_]at s;lia;have a:QE (i+1) 0=0:=by unfold QE;rw[af<|by lia,af<|by lia]
  have b:QE (i+1) (i+1)=i+2:=by unfold QE;rw[ag rfl]
  rw[a,b];exact e j
def P6{n:Nat}{r:Nat}{c:Int}{A B:Nat->Nat->Int}(hr:r+1<n)(h1:∀i j,i≠r+1->B i j=A i j)(h2:∀j,B (r+1) j=c*A 0 j+A (r+1) j):det n B=det n A:=by have:=nO c (r+1) (B:=λi j=>if i=r+1 then A 0 j else A i j) hr (λi j hi=>by rw[af hi];exact h1 i j hi) (λi j hi=>h1 i j hi) (λj=>by rw[ag rfl];exact h2 j);rw[this,wu r hr λj=>?_,aO,fB];rw[af<|by lia,ag rfl]
def KO{n:Nat}{r:Nat}{c:Int}{A B:Nat->Nat->Int}(hr:r<n)(h1:∀i j,i≠r->B i j=A i j)(h2:∀j,B r j=c*A r j):det n B=c*det n A:=by
 have:=nO c r (C:=λi j=>if i=r then 0 else A i j) hr h1 (λi j hi=>by rw[af hi];exact h1 i j hi) (λj=>by rw[ag rfl,cn];exact h2 j);have zz:det n (λi j=>if i=r then 0 else A i j)=0:=by have:=nO (-1) r (C:=λi j=>if i=r then(0:Int)else A i j) hr (λi j _=>rfl) (λi j _=>rfl) (λj=>by rw[ag rfl];rfl);lia
 rw[this,zz,cn]
def Y7(A:Nat->Nat->Int)(m:Nat)(i j:Nat):Int:=if 0<i/\i<=m then A 0 0*A i j-A i 0*A 0 j else A i j
theorem JG{n:Nat}(A:Nat->Nat->Int):∀m,m<=n->det (n+1) (Y7 A m)=A 0 0 ^ m*det (n+1) A
 |0,_=>by rw[oq,bS];exact e9 λi j _ _=>by unfold Y7;rw[af<|by lia]
 |m+1,h=>by
  have ih:=JG (n:=n) A m (by lia);have s1:det (n+1) (λi j=>if i=m+1 then A 0 0*A i j else Y7 A m i j)=A 0 0*det (n+1) (Y7 A m):=KO (by lia) (λi j hi=>af hi) λj=>by rw[ag rfl];unfold Y7;rw[af<|by lia]
  have s2:det (n+1) (Y7 A<|m+1)=det (n+1) (λi j=>if i=m+1 then A 0 0*A i j else Y7 A m i j):=P6 (r:=m) (c:=-A (m+1) 0) (by lia) (λi j hi=>by
    rw[af hi];unfold Y7;by_cases z:0<i/\i<=m;rw[ag z,ag (by lia)];rw[af z,af (by lia)]) λj=>by
    rw[af<|by lia,ag rfl];have e1:Y7 A (m+1) (m+1) j=A 0 0*A (m+1) j-A (m+1) 0*A 0 j:=by unfold Y7;rw[ag<|by lia]
    have e2:Y7 A m 0 j=A 0 j:=by unfold Y7;rw[af<|by lia]
    rw[e1,e2];grind
  rw[s2,s1,ih,ot];grind
def xu(A:Nat->Nat->Int)(i j:Nat):Int:=A 0 0*A (i+1) (j+1)-A (i+1) 0*A 0 (j+1)
def Fx{n:Nat}{A:Nat->Nat->Int}(h0:A 0 0≠0):det (n+1) (xu A)=A 0 0 ^ n*det (n+2) A:=by
 have k:=JG A (n+1)<|ao _;have f:=B5 (n:=n+1) (A:=Y7 A<|n+1) λi hi=>by unfold Y7;rw[ag<|by lia];grind
 have e0:Y7 A (n+1) 0 0=A 0 0:=by unfold Y7;rw[af<|by lia]
 have e1:det (n+1) (λi k=>Y7 A (n+1) (i+1)<|k+1)=det (n+1) (xu A):=e9 λi j hi _=>by unfold Y7 xu;rw[ag<|by lia]
 rw[f,e0,e1,ot]at k;exact fZ h0<|by rw[k];grind
def xV(A:Nat->Nat->Int):det 1 A=A 0 0:=by show 0+1*A 0 0*1=_;lia
def Nv(A:Nat->Nat->Int):det 2 A=A 0 0*A 1 1-A 0 1*A 1 0:=by show(0+sg 0*A 0 0*det 1 _)+sg 1*A 0 1*det 1 _=_;rw[xV,xV];show 0+1*A 0 0*A 1 1+ -1*A 0 1*A 1 0=_;grind
def stp(A:Nat->Nat->Int)(q:Int)(i j:Nat):Int:=xu A i j / q
theorem JF{q:Int}(hq:q≠0):∀(n:Nat){A B:Nat->Nat->Int},(∀i j,A i j=q*B i j)->det n A=q ^ n*det n B|0,_,_,_=>by rw[oq];rfl|n+1,A,B,h=>by have:=nT (q ^ (n+1)) (λj=>sg j*B 0 j*det n (λi k=>B (i+1)<|sk j k)) (λ_=>0)<|n+1;rw[gU λ_ _=>rfl,cn]at this;refine Eq.trans (fc λj hj=>?_) this;rw[h 0 j,JF hq n λi k=>h _ _,ot];grind
def qG(r:Nat)(i:Nat):Nat:=if i=0 then r else if i=r then 0 else i
def B4{n r:Nat}{A:Nat->Nat->Int}(hr:r+1<n):det n (λi j=>A (qG (r+1) i) j)=-det n A:=by
 let M:(Nat->Int)->(Nat->Int)->Nat->Nat->Int:=λu v i j=>if i=0 then u j else if i=r+1 then v j else A i j;have l1:∀u u' v:Nat->Int,det n (M (λj=>u j+u' j) v)=det n (M u v)+det n (M u' v):=λu u' v=>by
  have:=nO 1 (n:=n) 0 (A:=M (λj=>u j+u' j) v) (B:=M u v) (C:=M u' v) (by lia) (λi j hi=>by show(if _ then _ else _)=(if _ then _ else _);rw[af hi,af hi]) (λi j hi=>by show(if _ then _ else _)=(if _ then _ else _);rw[af hi,af hi]) λj=>by show u j+u' j=1*u j+u' j;rw[bS]
  rw[this,bS]
 have l2:∀u v v':Nat->Int,det n (M u λj=>v j+v' j)=det n (M u v)+det n (M u v'):=λu v v'=>by
  have:=nO 1 (n:=n) (r+1) (A:=M u λj=>v j+v' j) (B:=M u v) (C:=M u v') (by lia) (λi j hi=>by show(if _ then _ else if _ then _ else _)=(if _ then _ else if _ then _ else _);rw[af hi,af hi]) (λi j hi=>by show(if _ then _ else if _ then _ else _)=(if _ then _ else if _ then _ else _);rw[af hi,af hi]) λj=>by show(if r+1=0 then _ else if r+1=r+1 then _ else _)=1*(if r+1=0 then _ else if r+1=r+1 then _ else _)+(if r+1=0 then _ else if r+1=r+1 then _ else _);rw[af<|by lia,ag rfl,af<|by lia,ag rfl,af<|by lia,ag rfl,bS]
  rw[this,bS]
 have z:∀u:Nat->Int,det n (M u u)=0:=λu=>wu r hr λj=>by show u j=(if r+1=0 then _ else if r+1=r+1 then _ else _);rw[af<|by lia,ag rfl]
 have k:=z λj=>A 0 j+A (r+1) j;rw[l1 (λj=>A 0 j) λj=>A (r+1) j,l2,l2,z,z]at k;have e1:det n (M (λj=>A 0 j) λj=>A (r+1) j)=det n A:=e9 λi j _ _=>by show(if i=0 then A 0 j else if i=r+1 then A (r+1) j else A i j)=A i j;by_cases h1:i=0;rw[ag h1,h1];rw[af h1];by_cases h2:i=r+1;rw[ag h2,h2];rw[af h2]
 have e2:det n (M (λj=>A (r+1) j) λj=>A 0 j)=det n (λi j=>A (qG (r+1) i) j):=e9 λi j _ _=>by show(if i=0 then A (r+1) j else if i=r+1 then A 0 j else A i j)=A (qG (r+1) i) j;unfold qG;by_cases h1:i=0;rw[ag h1,ag h1];rw[af h1,af h1];by_cases h2:i=r+1;rw[ag h2,ag h2];rw[af h2,af h2]
 rw[e1,e2]at k;lia
def Ml(A:Nat->Nat->Int):Nat->Nat->Option Nat|0,_=>none|n+1,r=>if A r 0≠0 then some r else Ml A n<|r+1
theorem EE{A:Nat->Nat->Int}:∀{n r p:Nat},Ml A n r=some p->A p 0≠0/\r<=p/\p<r+n
 |0,r,p,h=>by cases h
 |n+1,r,p,h=>by unfold Ml at h;by_cases z:A r 0≠0;rw[ag z]at h;cases h;exact⟨z,ao _,by lia⟩;rw[af z]at h;obtain⟨a,b,c⟩:=EE h;exact⟨a,by lia,by lia⟩
theorem EF{A:Nat->Nat->Int}:∀{n r:Nat},Ml A n r=none->∀i,r<=i->i<r+n->A i 0=0|0,r,_,i,h1,h2=>by lia|n+1,r,h,i,h1,h2=>by unfold Ml at h;by_cases z:A r 0≠0;rw[ag z]at h;cases h;rw[af z]at h;by_cases y:i=r;subst y;exact Classical.not_not.mp z;exact EF h i (by lia)<|by lia
def er(k:Nat)(r:Nat->Nat)(i:Nat):Nat:=if i<k then i else k+r (i-k)
def Zw(M:Nat->Nat->Int)(k:Nat)(A:Nat->Nat->Int)(q:Int):Prop:=∀(m:Nat)(r c:Nat->Nat),det (m+1) (λi j=>A (r i)<|c j)=q ^ m*det (k+m+1) (λi j=>M (er k r i)<|er k c j)
def Zw.two{M A:Nat->Nat->Int}(h:Zw M k A q)(i j:Nat):xu A i j=q*stp A q i j:=by have:=h 1 (λt=>if t=0 then 0 else i+1) λt=>if t=0 then 0 else j+1;rw[Nv,ot,oq,bS]at this;exact(qF ⟨_,by rw[<-this];unfold xu;grind⟩).symm
def Zw.all{M A:Nat->Nat->Int}(h:Zw M k A q)(m:Nat):det (m+1) A=q ^ m*det (k+m+1) M:=by
 have e:er k (λi=>i)=λi=>i:=by funext i;unfold er;dsimp only;split<;>lia
 have:=h m (λi=>i) λi=>i;rwa[e]at this
def Zw.start(M:Nat->Nat->Int):Zw M 0 M 1:=λm r c=>by rw[Int.one_pow,bS,fh];refine e9 λi j _ _=>?_;unfold er;rw[af<|by lia,af<|by lia,jG,jG,fh,fh]
def Zw.swap{M A:Nat->Nat->Int}(h:Zw M k A q):Zw (λi j=>M (if i<k then i else k+qG p (i-k)) j) k (λi j=>A (qG p i) j) q:=λm r c=>by have:=h m (λi=>qG p<|r i) c;rw[this];congr 1;refine e9 λi j _ _=>?_;congr 1;unfold er;by_cases z:i<k;rw[ag z,ag z,ag z];rw[af z,af z,af<|by lia,Nat.add_sub_cancel_left]
def Zw.step{q:Int}{M A:Nat->Nat->Int}(hq:q≠0)(h0:A 0 0≠0)(h:Zw M k A q):Zw M (k+1) (stp A q) (A 0 0):=λm r c=>by
 let A':Nat->Nat->Int:=λi j=>A (if i=0 then 0 else r (i-1)+1) (if j=0 then 0 else c (j-1)+1);have e1:∀i j,xu A' i j=q*stp A q (r i) (c j):=λi j=>by rw[<-h.two];rfl
 have k1:=Fx (n:=m) (A:=A') h0;have k2:=JF hq (m+1) e1;have k3:=h (m+1) (λi=>if i=0 then 0 else r (i-1)+1) λj=>if j=0 then 0 else c (j-1)+1;have ee:∀(r:Nat->Nat)i,er k (λi=>if i=0 then 0 else r (i-1)+1) i=er (k+1) r i:=λr i=>by unfold er;by_cases z:i<k;rw[ag z,ag<|by lia];rw[af z];show k+(if i-k=0 then 0 else r (i-k-1)+1)=_;by_cases y:i=k;rw[ag<|by lia,ag<|by lia];lia;rw[af<|by lia,af<|by lia,show i-(k+1)=i-k-1 by lia];lia
 have k4:det (k+(m+1)+1) (λi j=>M (er k (λi=>if i=0 then 0 else r (i-1)+1) i)<|er k (λj=>if j=0 then 0 else c (j-1)+1) j)=det (k+1+m+1) (λi j=>M (er (k+1) r i)<|er (k+1) c j):=by rw[show k+(m+1)+1=k+1+m+1 by lia];exact e9 λi j _ _=>by rw[ee r i,ee c j]
 rw[k1,k3,k4]at k2;have hqm:q ^ (m+1)≠0:=mH hq;refine fZ hqm ?_;rw[<-k2];grind
def Zw.at{M A:Nat->Nat->Int}(h:Zw M k A q)(i j:Nat):A i j=det (k+1) (λa b=>M (er k (λ_=>i) a)<|er k (λ_=>j) b):=by have:=h 0 (λ_=>i) λ_=>j;rw[xV,oq,bS]at this;exact this
def aS(f:Nat->Int):Nat->Nat|0=>0|n+1=>aS f n+(f n).natAbs
theorem Q2{f:Nat->Int}{g:Nat->Nat}:∀n,(∀i,i<n->(f i).natAbs<=g i)->(dS f n).natAbs<=aS (λi=>(g i:Int)) n|0,_=>ao _|n+1,h=>by have a:=Q2 n λi hi=>h i (by lia);have b:=h n (by lia);show(dS f n+f n).natAbs<=aS (λi=>(g i:Int)) n+((g n:Nat):Int).natAbs;lia
theorem Ga(c:Nat):∀n,aS (λ_=>(c:Int)) n=n*c|0=>(Nat.zero_mul c).symm|n+1=>by show aS (λ_=>(c:Int)) n+((c:Nat):Int).natAbs=(n+1)*c;rw[Ga c n,ig];rfl
theorem Nx{b:Nat}:∀(n:Nat){A:Nat->Nat->Int},(∀i j,i<n->j<n->(A i j).natAbs<=b)->(det n A).natAbs<=(n*b) ^ n
 |0,_,_=>ao _
 |n+1,A,h=>by
  have hs:∀j,(sg j).natAbs=1:=λj=>by unfold sg;split<;>rfl
  have:=Q2 (f:=λj=>sg j*A 0 j*det n (λi k=>A (i+1)<|sk j k)) (n+1) λj hj=>by rw[dQ,dQ,hs,Oj];have d:=Nx n λi k hi hk=>h (i+1) (sk j k) (by lia)<|LR hk;have e:(n*b) ^ n<=((n+1)*b) ^ n:=Gh (bF _<|by lia) _;exact fy (h 0 j (by lia) hj)<|aL d e
  rw[Ga]at this;refine aL this<|og ?_;rw[iO];grind
end My
set_option maxHeartbeats 4000000
namespace My
variable {α:Type}
variable {K:gS}
def ke:az->az->az
 |[],g=>g|f,[]=>f
 |a::f,b::g=>(a+b)::ke f g
def wc:az->az->az|[],_=>[]|a::f,g=>ke (g.map λy=>a*y)<|0::wc f g
def vI(x:Int):az->Int|[]=>0|a::f=>a+x*vI x f
theorem GA(x:Int):∀f g:az,vI x (ke f g)=vI x f+vI x g
  |[],g=>by rw[ke];show _=0+_;lia
  |a::f,[]=>by
                     rw[ke];·show _=_+0;lia
                     intro h;cases h
  |a::f,b::g=>by
    rw[ke]
    show a+b+x*vI x (ke f g)=a+x*vI x f+(b+x*vI x g)
    rw[GA x f g];grind
theorem Gy(x c:Int):∀f:az,vI x (f.map λy=>c*y)=c*vI x f|[]=>(aO c).symm|a::f=>by show c*a+x*vI x (f.map λy=>c*y)=c*(a+x*vI x f);rw[Gy x c f];grind
theorem Lj(x:Int)(g:az):∀f:az,vI x (wc f g)=vI x f*vI x g|[]=>by show(0:Int)=0*_;rw[dL]|a::f=>by show vI x (ke _<|0::wc f g)=(a+x*vI x f)*vI x g;rw[GA,Gy];show _+(0+x*vI x (wc f g))=_;rw[Lj x g f];grind
def n1:az->Nat|[]=>0|a::f=>a.natAbs+n1 f
theorem pE:∀{f:az}{y:Int},y∈f->y.natAbs<=n1 f|a::f,y,h=>by show _<=a.natAbs+n1 f;rcases aF.mp h with rfl |h;lia;have:=pE h;lia
theorem Hb:∀f g:az,n1 (ke f g)<=n1 f+n1 g
  |[],g=>by rw[ke];exact Nat.le_add_left _ _
  |a::f,[]=>by
                     rw[ke];·exact xD _ _
                     intro h;cases h
  |a::f,b::g=>by
    rw[ke]
    have:=Hb f g
    show(a+b).natAbs+n1 (ke f g)<=a.natAbs+n1 f+(b.natAbs+n1 g)
    lia
theorem y3(c:Int):∀f:az,n1 (f.map λy=>c*y)=c.natAbs*n1 f|[]=>(Nat.mul_zero _).symm|a::f=>by show(c*a).natAbs+n1 (f.map λy=>c*y)=c.natAbs*(a.natAbs+n1 f);rw[y3 c f,dQ,DR]
theorem MM(g:az):∀f:az,n1 (wc f g)<=n1 f*n1 g
 |[]=>aJ _
 |a::f=>by
  show n1 (ke _<|0::wc f g)<=(a.natAbs+n1 f)*n1 g;have h1:=Hb (g.map λy=>a*y)<|0::wc f g;have h2:=MM g f;have h3:n1 (0::wc f g)=n1 (wc f g):=by show(0:Int).natAbs+_=_;simp
  rw[y3,h3]at h1;rw[nj];lia
theorem C0:∀f g:az,(ke f g).length=max f.length g.length
  |[],g=>by rw[ke];simp
  |a::f,[]=>by
                     rw[ke];·simp
                     intro h;cases h
  |a::f,b::g=>by rw[ke];simp[C0 f g]
theorem Ji{w L:Nat}(g:az)(hL:1<=L)(hg:g.length<=L):∀f:az,f.length<=w->(wc f g).length<=w+L-1|[],_=>aJ _|a::f,h=>by show(ke _<|0::wc f g).length<=_;rw[C0,ab];cases w with|zero=>simp at h|succ w=>have:=Ji g hL hg f (by simpa using h);simp;lia
def rS(f:Nat->az):Nat->az|0=>[]|n+1=>ke (rS f n)<|f n
theorem QB(x:Int)(f:Nat->az):∀n,vI x (rS f n)=dS (λi=>vI x<|f i) n|0=>rfl|n+1=>by show vI x (ke (rS f n)<|f n)=dS _ n+_;rw[GA,QB x f n]
theorem MV{L:Nat}{f:Nat->az}:∀n,(∀j,j<n->(f j).length<=L)->(rS f n).length<=L|0,_=>aJ _|n+1,h=>by show(ke (rS f n)<|f n).length<=L;rw[C0];have a:=MV n λj hj=>h j (by lia);have b:=h n (by lia);lia
def Dj:Nat->(Nat->Nat->az)->az|0,_=>[1]|n+1,M=>rS (λj=>(wc (M 0 j)<|Dj n λi k=>M (i+1)<|sk j k).map λy=>sg j*y)<|n+1
theorem Lq(x:Int):∀(n:Nat)(M:Nat->Nat->az),vI x (Dj n M)=det n (λi j=>vI x<|M i j)|0,M=>by show 1+x*0=1;lia|n+1,M=>by show vI x (rS _<|n+1)=dS _ (n+1);rw[QB];refine fc λj hj=>?_;rw[Gy,Lj,Lq x n];grind
theorem Jj{w:Nat}(hw:1<=w):∀(n:Nat){M:Nat->Nat->az},(∀i j,(M i j).length<=w)->(Dj n M).length<=n*(w-1)+1|0,M,_=>by show 1<=_;lia|n+1,M,h=>by refine MV (n+1) λj hj=>?_;rw[ab];have ih:=Jj hw n (M:=λi k=>M (i+1)<|sk j k) λi k=>h _ _;have:=Ji _ (by lia) ih (M 0 j)<|h 0 j;rw[nj];lia
def Mu(f:Nat->Nat):Nat->Nat|0=>1|n+1=>f 0*Mu (λi=>f<|i+1) n
def uG(f:Nat->Nat):Nat->Nat|0=>0|n+1=>uG f n+f n
theorem QR{f:Nat->az}{g:Nat->Nat}:∀n,(∀j,j<n->n1 (f j)<=g j)->n1 (rS f n)<=uG g n|0,_=>ao _|n+1,h=>by have a:=Hb (rS f n)<|f n;have b:=QR n λj hj=>h j (by lia);have c:=h n (by lia);show n1 (ke (rS f n)<|f n)<=uG g n+g n;lia
theorem Cp(c:Nat)(f:Nat->Nat):∀n,uG (λi=>f i*c) n=uG f n*c|0=>(Nat.zero_mul c).symm|n+1=>by show uG (λi=>f i*c) n+f n*c=(uG f n+f n)*c;rw[Cp c f n,nj]
theorem LI{f g:Nat->Nat}:∀n,(∀i,i<n->f i=g i)->uG f n=uG g n|0,_=>rfl|n+1,h=>by show uG f n+f n=uG g n+g n;rw[LI n λi hi=>h i<|by lia,h n<|by lia]
theorem yj(f:Nat->Nat)(j:Nat):∀n,uG (λk=>f<|sk j k) n<=uG f (n+1)
 |0=>aJ _
 |n+1=>by
  have ih:=yj f j n;show uG (λk=>f<|sk j k) n+f (sk j n)<=uG f (n+1)+f (n+1);by_cases z:n<j;rw[LI n λi hi=>by unfold sk;rw[ag<|by lia]];have e3:sk j n=n:=by unfold sk;rw[ag z]
  rw[e3];show uG f n+f n<=uG f n+f n+f (n+1);lia;have:sk j n=n+1:=by unfold sk;rw[af z]
  rw[this];lia
theorem CH{f g:Nat->Nat}:∀n,(∀i,i<n->f i<=g i)->Mu f n<=Mu g n|0,_=>ao _|n+1,h=>fy (h 0<|by lia) (CH n λi hi=>h (i+1)<|by lia)
theorem MO:∀(n:Nat)(M:Nat->Nat->az),n1 (Dj n M)<=Mu (λi=>uG (λj=>n1<|M i j) n) n
 |0,M=>ao _
 |n+1,M=>by
  show n1 (rS _<|n+1)<=uG (λj=>n1<|M 0 j) (n+1)*Mu (λi=>uG (λj=>n1<|M (i+1) j)<|n+1) n;rw[<-Cp];refine QR (n+1) λj hj=>?_;rw[y3];have hs:(sg j).natAbs=1:=by unfold sg;split<;>rfl
  rw[hs,Oj];have a:=MM (Dj n λi k=>M (i+1)<|sk j k)<|M 0 j;have b:=MO n λi k=>M (i+1)<|sk j k;have c:=CH n λi _=>yj (λk=>n1<|M (i+1) k) j n;exact aL a<|cc _<|aL b c
def xJ(x:Int)(f:az):vI x f=f.getD 0 0+x*vI x f.tail:=by cases f with|nil=>show 0=0+x*0;lia|cons a f=>rfl
def uE(f:az)(i:Nat):f.getD (i+1) 0=f.tail.getD i 0:=by cases f<;>rfl
theorem Lp(x:Int):∀(n:Nat)(f g:az),f.length<=n->g.length<=n->(∀i,f.getD i 0=g.getD i 0)->vI x f=vI x g|0,f,g,hf,hg,_=>by rw[au (show f.length=0 by lia),au (show g.length=0 by lia)]|n+1,f,g,hf,hg,h=>by rw[xJ x f,xJ x g,h 0,Lp x n f.tail g.tail (by rw[xE];lia) (by rw[xE];lia) λi=>by rw[<-uE,<-uE,h]]
def Om(x:Int)(f:az):vI x (bR f)=vI x f:=Lp x f.length _ _ (fK f) (ao _)<|fu f
theorem Ik{x:Int}{B:Nat}(hx:((2*B:Nat):Int)<x):∀(n:Nat)(f g:az),f.length<=n->g.length<=n->BD B f->BD B g->vI x f=vI x g->∀i,f.getD i 0=g.getD i 0
 |0,f,g,hf,hg,_,_,_,i=>by rw[bn<|by lia,bn<|by lia]
 |n+1,f,g,hf,hg,bf,bg,e,i=>by
  have ha:=bf.get 0;have hb:=bg.get 0;rw[xJ x f,xJ x g]at e;have hab:f.getD 0 0=g.getD 0 0:=by
   have hk:f.getD 0 0-g.getD 0 0=x*(vI x g.tail-vI x f.tail):=by grind
   generalize f.getD 0 0=a at*;generalize g.getD 0 0=b at*;generalize vI x g.tail-vI x f.tail=k at hk;rcases vR k 0 with z |z |z;have:x*k<=x*(-1):=qE (by lia) (by lia);lia;rw[z,aO]at hk;lia;have:x*1<=x*k:=qE (by lia) (by lia);lia
  cases i with|zero=>exact hab|succ i=>rw[uE,uE];refine Ik hx n f.tail g.tail (by rw[xE];lia) (by rw[xE];lia) (λy hy=>bf y<|WR hy) (λy hy=>bg y<|WR hy) ?_ i;rw[hab]at e;exact fZ (a:=x) (by lia)<|by lia
def Gz{x:Int}{B:Nat}(hx:((2*B:Nat):Int)<x)(rf:W2 f)(rg:W2 g)(bf:BD B f)(bg:BD B g)(e:vI x f=vI x g):f=g:=ly rf rg<|Ik hx (f.length+g.length) f g (by lia) (by lia) bf bg e
def Qa(h:W2 (a::f)):W2 f:=by
 rcases h with z |⟨ys,c,z,hc⟩;cases z;cases ys with
 |nil=>injection z with z1 z2;exact .inl z2
 |cons y ys=>injection z with z1 z2;exact .inr ⟨ys,c,z2,hc⟩
def VQ(x v:Int):Int:=if x<=2*(v%x)then v%x-x else v%x
def SI{x a k:Int}(ha:2*(a.natAbs:Int)<x):VQ x (a+x*k)=a:=by
 unfold VQ;have e:(a+x*k)%x=a%x:=by rw[uz]
 rw[e];rcases We a 0 with z |z;have e2:a%x=a+x:=by rw[<-Int.add_emod_right];exact vS (by lia)<|by lia
 rw[e2,ag<|by lia];lia;have e2:a%x=a:=vS z (by lia);rw[e2,af<|by lia]
def Lu{x:Int}{B:Nat}(hx:((2*B:Nat):Int)<x)(rf:W2 (a::f))(bf:BD B (a::f)):vI x (a::f)≠0/\VQ x (vI x<|a::f)=a/\(vI x (a::f)-a) / x=vI x f:=by have ha:=bf a aN;have ev:vI x (a::f)=a+x*vI x f:=rfl;refine⟨λz=>?_,by rw[ev];exact SI<|by lia,?_⟩;have:=Gz hx rf (.inl rfl) bf (λy hy=>by cases hy)<|z.trans<|rfl;cases this;rw[ev,show a+x*vI x f-a=x*vI x f by lia];exact Int.mul_ediv_cancel_left _<|by lia
def nS(T:List az)(i j:Nat):Int:=(T.getD i []).getD j 0
def sub(T:List az)(k:Nat):Nat->Nat->Int:=λi j=>nS T (k+i)<|k+j
structure Sq(n:Nat)(T:List az):Prop where
 ln:T.length=n
 sq:∀r∈T,r.length=n
def Sq.row{i:Nat}{T:List az}(h:Sq n T)(hi:i<n):(T.getD i []).length=n:=by rw[ac,am<|by rwa[h.ln]];exact h.sq _<|cZ _
def Sq.out{i j:Nat}{T:List az}(h:Sq n T)(hi:n<=i\/n<=j):nS T i j=0:=by
 unfold nS;rcases bA i n with z |z;rw[bn<|by rw[h.row z];lia];have e:T.getD i []=[]:=by rw[ac,aI<|by rwa[h.ln]];rfl
 rw[e];rfl
def Yv(T:List α)(d:α)(i j:Nat):List α:=(T.set i<|T.getD j d).set j<|T.getD i d
def sx(T:List α)(d:α)(i j:Nat):(Yv T d i j).length=T.length:=by unfold Yv;rw[bE,bE]
def xL{i j:Nat}(T:List α)(d:α)(hi:i<T.length)(hj:j<T.length)(m:Nat):(Yv T d i j).getD m d=T.getD (if m=j then i else if m=i then j else m) d:=by unfold Yv;rw[ac];by_cases h1:m=j;subst h1;rw[ag rfl,a9<|by rwa[bE]];rfl;rw[af h1,aB<|gy h1];by_cases h2:m=i;subst h2;rw[ag rfl,a9 hi];rfl;rw[af h2,aB<|gy h2,ac]
def Sq.Yv{i j:Nat}{T:List az}(h:Sq n T)(hi:i<n)(hj:j<n):Sq n (Yv T [] i j):=by refine⟨by rw[sx,h.ln],λr hr=>?_⟩;obtain⟨m,hm,rfl⟩:=eE hr;rw[sx,h.ln]at hm;have e:=xL T [] (i:=i) (j:=j) (by rwa[h.ln]) (by rwa[h.ln]) m;rw[ac,am<|by rwa[sx,h.ln]]at e;rw[show(My.Yv T [] i j)[m]=T.getD (if m=j then i else if m=i then j else m) []from e];refine h.row ?_;split;exact hi;split;exact hj;exact hm
def Iq{k p:Nat}{T:List az}(h:Sq n T)(hp:k+p<n):sub (Yv T [] k<|k+p) k=λi j=>sub T k (qG p i) j:=by funext i j;unfold sub nS qG;rw[xL T [] (by rw[h.ln];lia)<|by rwa[h.ln]];congr 2;by_cases h1:i=0;subst h1;by_cases h2:p=0;subst h2;simp;rw[af<|by lia,ag<|by lia,ag rfl];by_cases h2:i=p;subst h2;rw[ag<|by lia,af h1,ag rfl];lia;rw[af<|by lia,af<|by lia,af h1,af h2]
structure BI(n b:Nat)(s D:Int)(T:List az)(k:Nat)(q:Int):Prop where
 q0:q≠0
 mn:∃M:Nat->Nat->Int,(∀i j,(M i j).natAbs<=b)/\Zw M k (sub T k) q/\q=det k M/\det n M=s*D
def BI.start{b:Nat}{T:List az}(h:∀i j,(nS T i j).natAbs<=b):BI n b 1 (det n<|nS T) T 0 1:=⟨by decide,nS T,h,by
 have:sub T 0=nS T:=by funext i j;unfold sub;rw[fh,fh]
 rw[this];exact Zw.start _,rfl,(bS _).symm⟩
def BI.le{D:Int}{T:List az}(h:BI n b s D T k q)(i j:Nat):(sub T k i j).natAbs<=((k+1)*b) ^ (k+1):=by obtain⟨M,hM,m,_⟩:=h.mn;rw[m.at i j];exact Nx (k+1) λ_ _ _ _=>hM _ _
def BI.Yv{D:Int}{p:Nat}{T:List az}(sq:Sq n T)(h:BI n b s D T k q)(hp:k+p<n):BI n b (if p=0 then s else-s) D (Yv T [] k<|k+p) k q:=by
 obtain⟨M,hM,m,e,f⟩:=h.mn;refine⟨h.q0,_,λi j=>hM _ _,by rw[Iq sq hp];exact m.swap,by rw[e];exact e9 λi j hi _=>by rw[ag hi],?_⟩;obtain⟨l,hl⟩:∃l,n=k+l+1:=⟨n-k-1,by lia⟩;subst hl;have a:=m.all l;have c:=(m.swap (p:=p)).all l;rw[f]at a;refine fZ (show q ^ l≠0 from mH h.q0) ?_;rw[<-c];cases p with
 |zero=>
  rw[ag rfl,<-a];have:qG 0=λi=>i:=by funext i;unfold qG;split<;>lia
  rw[this]
 |succ r=>rw[B4<|by lia,af<|by lia,a];grind
def TN{s d:Int}(h:s=1\/s=-1):d=s*(s*d):=by rcases h with rfl |rfl<;>lia
def BI.none{D:Int}{m:Nat}{T:List az}(h:BI n b s D T k q)(hm:n-k=m+1)(e:Ml (sub T k) (m+1) 0=none):s*D=0:=by let⟨M,_,g,_,f⟩:=h.mn;have:=g.all m;rw[show k+m+1=n by lia,f,vz λi hi=>EF e i (by lia)<|by lia]at this;exact(eV.mp this.symm).resolve_left<|mH h.q0
def BI.step{D:Int}{T T':List az}(h:BI n b s D T k q)(h0:sub T k 0 0≠0)(e:sub T' (k+1)=stp (sub T k) q):BI n b s D T' (k+1) (sub T k 0 0):=by let⟨M,hM,m,_,f⟩:=h.mn;exact⟨h0,M,hM,by rw[e];exact m.step h.q0 h0,by have:=m.all 0;rwa[xV,oq,bS]at this,f⟩
def BI.dvs{D:Int}{T:List az}(h:BI n b s D T k q)(i j:Nat):q ∣ sub T k 0 0*sub T k (i+1) (j+1)-sub T k (i+1) 0*sub T k 0 (j+1):=
 let⟨_,_,m,_⟩:=h.mn
 ⟨_,m.two i j⟩
end My
namespace My
open PySem PySem.W L2 L2.EV PyProof.Rows
variable {α:Type}
variable {K:gS}
def pO{n:Nat}{rows:List az}(h:n<rows.length):s9 (rows.map bu) (n:Int)=some (bu<|rows.getD n []):=DK<|by rw[aw,ac,am h];rfl
def vk(top line:az)(at':Nat)(q:Int):az:=(List.range line.length).map λj=>(top.getD at' 0*line.getD j 0-line.getD at' 0*top.getD j 0).fdiv q
def Ab(rows:List az)(at':Nat)(q:Int):Nat->List az|0=>rows|i+1=>(Ab rows at' q i).set (at'+1+i)<|vk (rows.getD at' []) ((Ab rows at' q i).getD (at'+1+i) []) at' q
theorem rB(rows:List az)(at':Nat)(q:Int):∀i,(Ab rows at' q i).length=rows.length|0=>rfl|i+1=>by show(List.set _ _ _).length=_;rw[bE,rB rows at' q i]
theorem Aa(rows:List az)(at':Nat)(q:Int):∀i j,at'+1+i<=j->(Ab rows at' q i).getD j []=rows.getD j []|0,j,_=>rfl|i+1,j,h=>by show(List.set _ _ _).getD j []=_;rw[ac,aB<|by lia,<-ac,Aa rows at' q i j<|by lia]
structure UF(rows:List az)(n at':Nat)(q:Int):Prop where
 sq:∀r∈rows,r.length=n
 ln:rows.length=n
 n1:n<100
 lt:at'<n
 q0:q≠0
 m1:∀i j k l,IntMulOk ((rows.getD i []).getD j 0)<|(rows.getD k []).getD l 0
def lT(ds:ck)(xs:ck)(d:D)(xs':ck):Prop:=∃(rows:List az)(n at':Nat)(q:Int),ds=[.int at',.int q]/\xs=rows.map bu/\UF rows n at' q/\d=.Xf/\xs'=(Ab rows at' q<|n-(at'+1)).map bu
def vo:∀ds xs d xs',lT ds xs d xs'->ds.length+1=3:=by rintro _ _ _ _ ⟨_,_,_,_,rfl,_⟩;rfl
section
variable {X:Cx}
def ww(h:fA P w K mg base k Xt iD X)(W6:mg "range"=none)(W7:mg "len"=none):∀p ds xs d xs',lT ds xs d xs'->ZW X p (.val (.adr p)::ds.map Sl.val++List.replicate (Xt.length-(ds.length+1)) Sl.un) (ft iD) (.rt d) xs xs'\/(d=.Xf/\∃ρ',ZW X p (.val (.adr p)::ds.map Sl.val++List.replicate (Xt.length-(ds.length+1)) Sl.un) (ft iD) (.nx ρ') xs xs'):=by
 rintro p ds xs d xs' ⟨rows,n,at',q,rfl,rfl,ok,rfl,rfl⟩;refine .inr ⟨rfl,?_⟩;have t:=h.at';haveI:=h.XM;have b1:=h.bt W6;have b2:=h.bt W7;obtain⟨sq,ln,n1,lt,q0,m1⟩:=ok;have YQ:∀i,i<n->(rows.getD i []).length=n:=λi hi=>by rw[ac,am<|by lia];exact sq _<|cZ _
 refine⟨[.val<|.adr p,.val<|.int at',.val<|.int q,.val<|bu<|rows.getD at' [],.un,.un],?_⟩;refine MQ (QS t 3<|Q1 t 0 rfl (aa t 1)<|pO<|by lia) ?_;refine QT<|Ug t (Hv t b1 (W0.l<|dj (aa t 1) ak) (SE t 0 rfl b2)<|by rw[ab];lia)<|X4.Xl (λi=>[.val<|.adr p,.val<|.int at',.val<|.int q,.val<|bu<|rows.getD at' [],.un,.un]) (λi=>(Ab rows at' q i).map bu) (λi d hi=>?_) rfl rfl rfl ?_;have YR:i<n-(at'+1)/\d=.int (at'+1+i):=by
  unfold cH at hi;rw[aw]at hi;have hl:i<(((rows.map bu).length:Int)-(at'+1)).toNat:=by apply bz;intro z;rw[aI<|by simpa using z]at hi;cases hi
  rw[bv hl]at hi;rw[ab]at hl;exact⟨by lia,by injection hi with hi;exact hi.symm⟩
 obtain⟨Yb,rfl⟩:=YR;have cl:=rB rows at' q i;have cg:=Aa rows at' q i (at'+1+i)<|ao _;have ek:(at'+1+i)=((at'+1+i:Nat):Int):=by lia
 have hl1:=YQ (at'+1+i) (by lia);have hl2:=YQ at' lt;have m1a:∀j,IntMulOk ((rows.getD at' []).getD at' 0) ((rows.getD (at'+1+i) []).getD j 0):=λj=>m1 _ _ _ _;have m1b:∀j,IntMulOk ((rows.getD (at'+1+i) []).getD at' 0) ((rows.getD at' []).getD j 0):=λj=>m1 _ _ _ _;have eC:(Ab rows at' q<|i+1).map bu=((Ab rows at' q i).map bu).set (at'+1+i) (bu<|vk (rows.getD at' []) (rows.getD (at'+1+i) []) at' q):=by show(List.set _ _ _).map bu=_;rw[iS,cg]
 rw[eC];generalize zNM:rows.getD at' []=top at*;generalize Xx:rows.getD (at'+1+i) []=line at*;refine⟨_,c9 t 4,ZW.weak (W1:=[.val<|.adr p,.val<|.int at',.val<|.int q,.val<|bu top,.val<|.int<|(at':Int)+1+(i:Int),.val<|bu line]) ?_<|.keep<|.keep<|.keep<|.keep<|.forget<|.forget .nil⟩;refine MQ (QS t 5<|Q1 t 0 rfl (aa t 4)<|by rw[ek,pO<|by lia,cg]) ?_;refine QT<|R6 t 0 rfl (aa t 4) (W0.eq (Xe.Xk (dR t ["table","at","before","top","k","line","j"] (oU rfl) (eD t b1 (bX t b2<|W0.ql<|aa t 5) (by lia)<|by rw[ab];lia) (by simp[cH];exact gR<|by lia) λX' cx=>?_)) rfl) ?_;have e:cH 0 (((line.map D.int).length:Nat):Int).toNat=(List.range line.length).map λ(j:Nat)=>D.int j:=by unfold cH;rw[ab,bQ];exact cA λj _=>by rw[fB]
 rw[e];have e2:(vk top line at' q).map D.int=(List.range line.length).map λj=>D.int ((top.getD at' 0*line.getD j 0-line.getD at' 0*top.getD j 0).fdiv q):=by unfold vk;rw[bp];rfl
 rw[e2];have t':=cx.at';exact W9.gen (λ(j:Nat)=>D.int j) _ (λj=>[.val<|.adr p,.val<|.int at',.val<|.int q,.val<|bu top,.val<|.int<|at'+1+i,.val<|bu line,.val<|.int j]) _ _ (λx hx=>aU t' 6) (λx hx y hy=>aU t' 6) λx hx=>by have Yw:=aY.mp hx;exact zw t' (cu (eh (bM (W0.ql<|aa t' 3 rfl) (aa t' 1 rfl)<|dY<|by lia) (bM (W0.ql<|aa t' 5 rfl) (aa t' 6 rfl)<|dY<|by lia)<|m1a x)<|eh (bM (W0.ql<|aa t' 5 rfl) (aa t' 1 rfl)<|dY<|by lia) (bM (W0.ql<|aa t' 3 rfl) (aa t' 6 rfl)<|dY<|by lia)<|m1b x) (aa t' 2 rfl) q0
 rw[ab,cl];exact nQ (by lia) (by lia) (by lia);have e:(cH (at'+1) (((rows.map bu).length:Int)-(at'+1)).toNat).length=n-(at'+1):=by simp[cH];lia
 rw[e]
end
def RN(U:dP):Option D->Out|none=>.nx U|some r=>.rt r
theorem Xc.first{X:Cx}(f:D->Option D):∀ds:ck,(∀d∈ds,∃W1,Yr X U tg d W1/\W4 X W1 body (RN U<|f d))->Xc X tg body ds U (RN U<|ds.findSome? f)|[],_=>.nil|d::ds,h=>by obtain⟨W1,g,b⟩:=h d aN;rw[WZ];cases e:f d with|none=>rw[e]at b;exact .cons g b (Xc.first f ds λd' hd=>h d'<|aC _ hd)|some r=>rw[e]at b;exact .ret g b
def PZ{X:Cx}{rest:List Stmt}{ds:ck}{d0:D}(t:At X N sc)(f:D->Option D)(hi:X5 X U tg it ds)(h:∀d∈ds,∃W1,Yr X U tg d W1/\W4 X W1 body (RN U<|f d))(hd:(ds.findSome? f).getD d0=d0)(hn:ds.findSome? f=none->W4 X U rest (.rt d0))(hs:∀x,foldedSetIterable it X.env x=pure x:=by intro _;rfl):W4 X U (.For tg it body [] pos::rest) (.rt d0):=by have run:=gY (pos:=pos) t hi (Xc.first f ds h) hs;cases e:ds.findSome? f with|none=>rw[e]at run;exact ay run (hn e)|some r=>rw[e]at run hd;have:r=d0:=hd;subst this;exact ff run
def EN(rows:List az)(at':Nat)(d:D):Option D:=match d with
 |.int k=>if(rows.getD k.toNat []).getD at' 0=0 then none else some<|.int k
 |_=>none
def ko(ds:ck)(d:D):Prop:=∃(rows:List az)(n at':Nat),ds=[.lst<|rows.map bu,.int at']/\rows.length=n/\(∀r∈rows,r.length=n)/\n<100/\at'<n/\d=((cH at'<|n-at').findSome?<|EN rows at').getD .Xf
def sX:∀ds d,ko ds d->ds.length=2:=by rintro _ _ ⟨_,_,_,rfl,_⟩;rfl
section
variable {X:Cx}
def vF(h:fA P w K mg base k ki iJ X)(W6:mg "range"=none)(W7:mg "len"=none):Go X ki iJ ko:=by
 rintro ds d ⟨rows,n,at',rfl,ln,sq,n1,lt,rfl⟩;have t:=h.at';haveI:=h.XM;have b1:=h.bt W6;have b2:=h.bt W7;have YQ:∀i,i<n->(rows.getD i []).length=n:=λi hi=>by rw[ac,am<|by lia];exact sq _<|cZ _
 refine PZ t (EN rows at') (X5.eq (oQ t b1 (aa t 1) (bX t b2<|W0.ql<|aa t 0)<|by rw[ab];lia) (show _=cH at' (n-at')by rw[ab];congr 1;lia)) (λd hd=>?_) (by cases(cH at'<|n-at').findSome? (EN rows at')<;>rfl) (λe=>by rw[e];exact aM<|cp pL);obtain⟨i,hi,rfl⟩:=aZ.mp hd;have Yb:=aY.mp hi;have ek:(at'+i)=((at'+i:Nat):Int):=by lia
 have hl:=YQ (at'+i) (by lia);have ep:EN rows at' (.int<|at'+i)=if(rows.getD (at'+i) []).getD at' 0=0 then none else some (.int<|at'+i):=by show(if(rows.getD (at'+(i:Int)).toNat []).getD at' 0=0 then _ else _)=_;rw[show(at'+(i:Int)).toNat=at'+i by lia]
 rw[ep];refine⟨_,c9 t 2,?_⟩;by_cases z:(rows.getD (at'+i) []).getD at' 0=0;rw[ag z];exact W4.weak (aM<|fx (W5.eq (nR (bM (W0.ql<|bM (W0.ql<|aa t 0) (aa t 2)<|by rw[ek];exact pO<|by lia) (aa t 1)<|dY<|by lia) ak)<|by rw[aq z];rfl) dM)<|.keep<|.keep<|.forget .nil;rw[af z];exact ff<|fF (W5.eq (nR (bM (W0.ql<|bM (W0.ql<|aa t 0) (aa t 2)<|by rw[ek];exact pO<|by lia) (aa t 1)<|dY<|by lia) ak)<|by rw[aj z];rfl)<|aM<|cp<|aa t 2
end
def Kw(top line:az)(at':Nat)(q:Int)(j:Nat):(vk top line at' q).getD j 0=if j<line.length then(top.getD at' 0*line.getD j 0-line.getD at' 0*top.getD j 0).fdiv q else 0:=by unfold vk;rw[ac,aw];by_cases h:j<line.length;rw[bv h,ag h];rfl;rw[aI<|by simpa using h,af h];rfl
theorem FH(rows:List az)(at':Nat)(q:Int):∀i j,j<=at'->(Ab rows at' q i).getD j []=rows.getD j []|0,j,_=>rfl|i+1,j,h=>by show(List.set _ _ _).getD j []=_;rw[ac,aB<|by lia,<-ac,FH rows at' q i j h]
theorem JP(rows:List az)(at':Nat)(q:Int):∀i j,j<i->at'+1+j<rows.length->(Ab rows at' q i).getD (at'+1+j) []=vk (rows.getD at' []) (rows.getD (at'+1+j) []) at' q|0,j,h,_=>by lia|i+1,j,h,hl=>by show(List.set _ _ _).getD _ []=_;rw[ac];by_cases z:j=i;subst z;rw[a9<|by rwa[rB],Aa rows at' q j _<|ao _];rfl;rw[aB<|by lia,<-ac,JP rows at' q i j (by lia) hl]
def wv(n:Nat)(T:List az)(k:Nat)(q:Int):List az:=Ab T k q<|n-(k+1)
def FI{k:Nat}{T:List az}(s:Sq n T)(hk:k<n)(q:Int)(i:Nat):(wv n T k q).getD i []=if k<i/\i<n then vk (T.getD k []) (T.getD i []) k q else T.getD i []:=by unfold wv;by_cases h:k<i;by_cases h2:i<n;rw[ag ⟨h,h2⟩];have:=JP T k q (n-(k+1)) (i-(k+1)) (by lia) (by rw[s.ln];lia);rw[show k+1+(i-(k+1))=i by lia]at this;exact this;rw[af<|by lia,ac,aI<|by rw[rB,s.ln];lia,ac,aI<|by rw[s.ln];lia];rw[af<|by lia];exact FH T k q _ i<|by lia
def oR{k:Nat}{T:List az}(s:Sq n T)(hk:k<n)(q:Int)(i j:Nat):nS (wv n T k q) i j=if k<i/\i<n/\j<n then(nS T k k*nS T i j-nS T i k*nS T k j).fdiv q else if i<=k then nS T i j else 0:=by unfold nS;rw[FI s hk];by_cases h:k<i/\i<n;rw[ag h,Kw,s.row h.2];by_cases hj:j<n;rw[ag hj,ag ⟨h.1,h.2,hj⟩];rw[af hj,af<|by lia,af<|by lia];rw[af h,af<|by lia];by_cases h2:i<=k;rw[ag h2];rw[af h2];exact s.out<|.inl<|by lia
def Qb{k:Nat}{T:List az}(s:Sq n T)(hk:k<n)(q:Int):Sq n (wv n T k q):=by
 have ln:(wv n T k q).length=n:=by unfold wv;rw[rB,s.ln]
 refine⟨ln,λr hr=>?_⟩;obtain⟨m,hm,rfl⟩:=eE hr;have hm':m<n:=by rw[ln]at hm;exact hm
 have e:=FI s hk q m;rw[ac,am hm]at e;rw[show(wv n T k q)[m]=_ from e];split;unfold vk;rw[ab,cY,s.row hm'];exact s.row hm'
def NH{D:Int}{k:Nat}{T:List az}(s:Sq n T)(hk:k<n)(h:BI n b c D T k q):sub (wv n T k q) (k+1)=stp (sub T k) q:=by funext i j;unfold sub stp xu;rw[oR s hk];simp;rw[show k+1+i=k+(i+1)by lia,show k+1+j=k+(j+1)by lia];by_cases YR:k+(i+1)<n/\k+(j+1)<n;rw[ag ⟨by lia,YR.1,YR.2⟩];have:=h.dvs i j;rw[Lb]at this;exact Int.fdiv_eq_ediv_of_dvd this;rw[af<|by lia,af<|by lia];by_cases hi:k+(i+1)<n;rw[s.out (j:=k+(j+1))<|.inr<|by lia,s.out (j:=k+(j+1))<|.inr<|by lia,aO,aO,tj,Int.zero_ediv];rw[s.out (j:=k+(j+1))<|.inl<|by lia,s.out (i:=k+(i+1))<|.inl<|by lia,aO,dL,tj,Int.zero_ediv]
structure PI(n b:Nat)(s D:Int)(T:List az)(k:Nat)(q:Int):Prop where
 sq:Sq n T
 bi:BI n b s D T k q
 zr:∀i j,j<k->j<i->nS T i j=0
 le:∀i j,(nS T i j).natAbs<=(n*b) ^ n
def Mx{n b k:Nat}(hk:k<=n)(hb:1<=b)(h1:1<=k):(k*b) ^ k<=(n*b) ^ n:=by have h2:1<=n*b:=aL (by lia)<|fy (show 1<=n by lia) hb;exact aL (Gh (bF _ hk) _)<|ba h2 hk
def PI.start{b:Nat}{T:List az}(s:Sq n T)(hb:1<=b)(h:∀i j,(nS T i j).natAbs<=b):PI n b 1 (det n<|nS T) T 0 1:=⟨s,.start h,λi j z=>by lia,λi j=>by rcases bA i n with z |z;have h1:(1*b) ^ 1<=(n*b) ^ n:=Mx (by lia) hb (by lia);rw[Oj,Nat.pow_one]at h1;exact aL (h i j) h1;rw[s.out<|.inl z];exact aJ _⟩
def PI.Yv{D:Int}{p:Nat}{T:List az}(h:PI n b s D T k q)(hp:k+p<n):PI n b (if p=0 then s else-s) D (Yv T [] k<|k+p) k q:=by
 have g:∀i j,nS (My.Yv T [] k<|k+p) i j=nS T (if i=k+p then k else if i=k then k+p else i) j:=λi j=>by unfold nS;rw[xL T [] (by rw[h.sq.ln];lia)<|by rwa[h.sq.ln]]
 refine⟨h.sq.Yv (by lia) hp,h.bi.Yv h.sq hp,λi j h1 h2=>?_,λi j=>by rw[g];exact h.le _ _⟩;rw[g];refine h.zr _ j h1 ?_;split;lia;split<;>lia
def PI.Y7{b:Nat}{D:Int}{T:List az}(hb:1<=b)(h:PI n b s D T k q)(hk:k<n)(h0:sub T k 0 0≠0):PI n b s D (wv n T k q) (k+1) (nS T k k):=by
 have e0:sub T k 0 0=nS T k k:=rfl;have bi:=h.bi.step h0<|NH h.sq hk h.bi;rw[e0]at bi;refine⟨Qb h.sq hk q,bi,λi j h1 h2=>?_,λi j=>?_⟩;rw[oR h.sq hk];by_cases z:k<i/\i<n/\j<n;rw[ag z];by_cases y:j=k;subst y;rw[dO<|nS T i j,Wc,iZ];rw[h.zr i j (by lia)<|by lia,h.zr k j (by lia)<|by lia,aO,aO,tj,iZ];rw[af z];by_cases y:i<=k;rw[ag y];exact h.zr i j (by lia) h2;rw[af y];by_cases z:i<=k;rw[oR h.sq hk,af<|by lia,ag z];exact h.le i j;by_cases y:k<i/\i<n/\j<n;by_cases w:j<=k;have:nS (wv n T k q) i j=0:=by rw[oR h.sq hk,ag y];by_cases v:j=k;subst v;rw[dO<|nS T i j,Wc,iZ];rw[h.zr i j (by lia)<|by lia,h.zr k j (by lia)<|by lia,aO,aO,tj,iZ]
 rw[this];exact aJ _;have:=bi.le (i-(k+1))<|j-(k+1);unfold sub at this;rw[show k+1+(i-(k+1))=i by lia,show k+1+(j-(k+1))=j by lia]at this;exact aL this<|Mx (by lia) hb (by lia);rw[oR h.sq hk,af y,af z];exact aJ _
theorem IL(T:List az)(k:Nat):∀(m r:Nat),((List.range m).map λ(i:Nat)=>D.int<|(k:Int)+(r:Int)+(i:Int)).findSome? (EN T k)=(Ml (sub T k) m r).map λp=>D.int ((k:Int)+(p:Int))
 |0,r=>rfl
 |m+1,r=>by
  have e1:((List.range<|m+1).map λ(i:Nat)=>D.int<|k+r+i)=D.int (k+r)::(List.range m).map λ(i:Nat)=>D.int (k+((r+1:Nat):Int)+i):=by
   rw[List.range_succ_eq_map,bY,bp];have e:D.int (k+r+((0:Nat):Int))=D.int (k+r):=by congr 1<;>lia
   rw[e];refine bo _ (cA λi _=>?_);show D.int (k+r+((i+1:Nat):Int))=D.int (k+((r+1:Nat):Int)+i);congr 1<;>lia
  rw[e1,WZ];have e2:EN T k (.int<|k+r)=if nS T (k+r) k=0 then none else some (.int<|k+r):=by show(if(T.getD (k+(r:Int)).toNat []).getD k 0=0 then _ else _)=_;rw[show(k+(r:Int)).toNat=k+r by lia];rfl
  have e3:sub T k r 0=nS T (k+r) k:=rfl;rw[e2,Ml,e3];by_cases z:nS T (k+r) k=0;rw[ag z,af<|by simpa using z];exact IL T k m<|r+1;rw[af z,ag z];rfl
def RF{n k:Nat}(T:List az)(hk:k<=n):(cH k<|n-k).findSome? (EN T k)=(Ml (sub T k) (n-k) 0).map λp=>D.int ((k:Int)+(p:Int)):=by have:=IL T k (n-k) 0;rw[<-this];congr 1
def n9(ds:ck)(d:D):Prop:=∃(T:List az)(n b:Nat),ds=[.lst<|T.map bu]/\Sq n T/\n<60/\(∀i j,(nS T i j).natAbs<=2 ^ b)/\n*(b+6)<=900000/\d=.int (det n<|nS T)
def xp:∀ds d,n9 ds d->ds.length=1:=by rintro _ _ ⟨_,_,_,rfl,_⟩;rfl
def VU{n b:Nat}(hn:n<60)(h:n*(b+6)<=900000):(n*2 ^ b) ^ n<2 ^ 900001:=by
 have h1:n*2 ^ b<=2 ^ (b+6):=by rw[qD,fS n];exact cc _<|by lia
 have h2:=Gh h1 n;rw[<-WO,fS<|b+6]at h2;exact cb h2<|iP (by decide)<|by lia
def Ph{i j:Nat}(T:List az)(hi:i<T.length)(hj:j<T.length):(Yv T [] i j).map bu=((T.map bu).set i<|bu<|T.getD j []).set j (bu<|T.getD i []):=by unfold Yv;rw[iS,iS]
theorem Xc.scan{X:Cx}{Y:Type}(R:Y->dP)(I:Nat->Y->Prop):∀(ds:ck)(k:Nat)(s:Y),I k s->(∀(j:Nat)s d,ds[j]?=some d->I (k+j) s->(∃W1,Yr X (R s) tg d W1/\W4 X W1 body (.rt d0))\/∃s' W1,Yr X (R s) tg d W1/\W4 X W1 body (.nx<|R s')/\I (k+j+1) s')->∃o,Xc X tg body ds (R s) o/\(o=.rt d0\/∃s',o=.nx (R s')/\I (k+ds.length) s')
 |[],k,s,h,_=>⟨_,.nil,.inr ⟨s,rfl,h⟩⟩
 |d::ds,k,s,h,st=>by
  rcases st 0 s d rfl h with⟨W1,g,b⟩ |⟨s',W1,g,b,h'⟩;exact⟨_,.ret g b,.inl rfl⟩;obtain⟨o,ro,ho⟩:=Xc.scan R I ds (k+1) s' h' λj s d e i=>by have:=st (j+1) s d e (by rwa[show k+(j+1)=k+1+j by lia]);rw[show k+(j+1)+1=k+1+j+1 by lia]at this;exact this
  refine⟨o,.cons g b ro,ho.imp id λ⟨s2,e,i⟩=>⟨s2,e,?_⟩⟩;rwa[show k+(d::ds).length=k+1+ds.length by rw[bB];lia]
def Jz{X:Cx}{rest:List Stmt}{ds:ck}{Y:Type}(t:At X N sc)(R:Y->dP)(I:Nat->Y->Prop)(s0:Y)(hi:X5 X (R s0) tg it ds)(h0:I 0 s0)(st:∀(j:Nat)s d,ds[j]?=some d->I j s->(∃W1,Yr X (R s) tg d W1/\W4 X W1 body (.rt d0))\/∃s' W1,Yr X (R s) tg d W1/\W4 X W1 body (.nx<|R s')/\I (j+1) s')(fin:∀s,I ds.length s->W4 X (R s) rest (.rt d0))(hs:∀x,foldedSetIterable it X.env x=pure x:=by intro _;rfl):W4 X (R s0) (.For tg it body [] pos::rest) (.rt d0):=by
 let⟨o,ro,ho⟩:=Xc.scan (X:=X) (tg:=tg) (body:=body) (d0:=d0) R I ds 0 s0 h0 λj s d e i=>by rw[fh]at i ⊢;exact st j s d e i
 have run:=gY (pos:=pos) t hi ro hs;rcases ho with rfl |⟨s',rfl,i⟩;exact ff run;rw[fh]at i;exact ay run<|fin s' i
section
variable {X:Cx}
def Bh(h:fA P w K mg base k nX lu X)(Xu:mg "list"=none)(W6:mg "range"=none)(W7:mg "len"=none)(c1:Callee X "line_with_pivot" ko)(c2:YL X "cleared_below" lT):Go X nX lu n9:=by
 rintro ds d ⟨T0,n,b,rfl,sq,hn,hb,hs,rfl⟩;have t:=h.at';haveI:=h.XM;have b0:=h.bt Xu;have b1:=h.bt W6;have b2:=h.bt W7;have hW:=VU hn hs;generalize hWd:(n*2 ^ b) ^ n=W at hW;have hb1:1<=2 ^ b:=iA;refine ay (iy t 1<|lz t b0<|W0.ql<|aa t 0) ?_;refine ay (nG t (bH<|ai ak<|ai ak av)<|mv t 2 3) ?_;refine Jz t (λz=>[.val<|.lst<|T0.map bu,.own<|z.1.map bu,.val<|.int z.2.1,.val<|.int z.2.2,.un,.un]) (λat' z=>PI n (2 ^ b) z.2.1 (det n<|nS T0) z.1 at' z.2.2/\(z.2.1=1\/z.2.1=-1)) (T0,1,1) (X5.eq (eD t b1 (bX t b2<|dw t 1 rfl) (by lia)<|by rw[ab,sq.ln];lia)<|by rw[ab,sq.ln,bQ]) ⟨PI.start sq hb1 hb,.inl rfl⟩ (λat' z d0 hd hI=>?_) λz hI=>?_;obtain⟨ZS,rfl⟩:=gC hd;obtain⟨T,s,q⟩:=z;obtain⟨pi,hsg⟩:=hI;dsimp only at pi hsg ⊢;obtain⟨m,hm⟩:∃m,n-at'=m+1:=⟨n-at'-1,by lia⟩;have hln:=pi.sq.ln;have YQ:=pi.sq.sq;have hpv:(cH at'<|n-at').findSome? (EN T at')=(Ml (sub T at') (m+1) 0).map λp=>D.int (at'+p):=by rw[RF T<|by lia,hm]
 cases e:Ml (sub T at') (m+1) 0 with
 |none=>rw[show det n (nS T0)=0 from(eV.mp<|pi.bi.none hm e).resolve_left<|by lia];refine .inl ⟨_,c9 t 4,?_⟩;refine ay (df t 5<|Fp t Sn c1 1 rfl (ai (aa t 4) av) ⟨T,n,at',rfl,hln,YQ,by lia,by lia,by rw[hpv,e];rfl⟩) ?_;exact ff<|fF (W5.eq (Da<|aa t 5) rfl)<|aM<|cp ak
 |some p=>
  obtain⟨h0,_,hp⟩:=EE e;rw[fh]at hp;have YR:at'+p<n:=by lia
  have hT1:=pi.Yv YR;have ZE:=Iq pi.sq YR;have h01:sub (Yv T [] at'<|at'+p) at' 0 0≠0:=by rw[ZE];show sub T at' (qG p 0) 0≠0;unfold qG;rwa[ag rfl]
  have hT2:=hT1.Y7 hb1 (by lia) h01;refine .inr ⟨(wv n (Yv T [] at'<|at'+p) at' q,if p=0 then s else-s,nS (Yv T [] at'<|at'+p) at' at'),_,c9 t 4,?_,hT2,by dsimp only;split<;>lia⟩;refine W4.weak (W1:=[.val<|.lst<|T0.map bu,.own<|(wv n (Yv T [] at'<|at'+p) at' q).map bu,.val<|.int (if p=0 then s else-s),.val<|.int<|nS (Yv T [] at'<|at'+p) at' at',.val<|.int at',.val<|.int<|(at':Int)+(p:Int)]) ?_<|.keep<|.keep<|.keep<|.keep<|.forget<|.forget .nil;refine ay (df t 5<|Fp t (So _) c1 1 rfl (ai (aa t 4) av) ⟨T,n,at',rfl,hln,YQ,by lia,by lia,by rw[hpv,e];rfl⟩) ?_;refine ay (fx (W5.eq (Da<|aa t 5) rfl) dM) ?_;have zEU:=hT1.sq.ln;have zCZ:=hT1.sq.sq;have hle:∀i j,(nS (Yv T [] at'<|at'+p) i j).natAbs<2 ^ 900001:=λi j=>cb (hWd▸hT1.le i j) hW;have zJB:=hT2.sq.ln;have zHT:=hT2.sq.row (show at'<n by lia);refine ay (ρ':=[.val<|.lst<|T0.map bu,.own<|(Yv T [] at'<|at'+p).map bu,.val<|.int (if p=0 then s else-s),.val<|.int q,.val<|.int at',.val<|.int<|(at':Int)+(p:Int)]) ?_<|ay (ON t c2 1 rfl (ai (aa t 4)<|ai (aa t 3) av) (xs':=(wv n (Yv T [] at'<|at'+p) at' q).map bu) ⟨Yv T [] at'<|at'+p,n,at',q,rfl,rfl,⟨zCZ,zEU,by lia,by lia,hT1.bi.q0,λi j k l=>mE (by decide) (hle i j)<|hle k l⟩,rfl,rfl⟩) ?_;by_cases hp0:p=0;have e1:Yv T [] at' (at'+p)=T:=by
   refine List.ext_getElem? λi=>?_;by_cases hi:i<n;have:=xL T [] (i:=at') (j:=at'+p) (by lia) (by lia) i;rw[ac,am<|by rw[sx];lia,ac]at this;rw[am<|by rw[sx];lia];have e2:(if i=at'+p then at' else if i=at' then at'+p else i)=i:=by split;lia;split<;>lia
   rw[e2,am<|by lia]at this;rw[am<|by lia];exact bo some this;rw[aI<|by rw[sx];lia,aI<|by lia]
  rw[e1,ag hp0];exact fx (W5.eq (nR (aa t 5)<|aa t 4)<|by rw[aq<|by lia];rfl) dM;rw[af hp0,Ph T (by lia)<|by lia];refine fF (W5.eq (nR (aa t 5)<|aa t 4)<|by rw[aj<|by lia];rfl) ?_;have ea:((at':Int)+(p:Int))=((at'+p:Nat):Int):=by lia
  refine ay (nG t (bH<|ai (bM (dw t 1 rfl) (aa t 5)<|by rw[ea];exact pO<|by lia)<|ai (bM (dw t 1 rfl) (aa t 4)<|pO<|by lia) av)<|wt t<|fX (sQ (j:=at') t 1 rfl (aa t 4)<|by rw[ab];exact nQ (by lia) (by lia)<|by lia)<|fX (sQ (j:=at'+p) t 1 rfl (aa t 5)<|by rw[bE,ab];exact nQ (by lia) (by lia)<|by lia) sP) ?_;exact aM<|df t 2<|gu<|aa t 2;refine aM<|df t 3<|W0.eq (bM (W0.ql<|bM (dw t 1 rfl) (aa t 4)<|pO<|by lia) (aa t 4)<|dY<|by lia) ?_;have:=oR hT1.sq (by lia:at'<n) q at' at';rw[af<|by lia,ag<|ao _]at this;exact bo D.int this
 obtain⟨T,s,q⟩:=z;obtain⟨pi,hsg⟩:=hI;have e:(cH 0 n).length=n:=by simp[cH]
 rw[e]at pi;dsimp only at pi hsg ⊢;obtain⟨_,_,_,h1,h2⟩:=pi.bi.mn;rw[show det n (nS T0)=s*q by rw[h1.trans h2];exact TN hsg];exact aM<|cp<|eh (aa t 2) (aa t 3)<|gD (by lia)<|by lia
end
def j0(f:Bd)(at' many:Nat):Bd:=(List.replicate at' []++f.reverse++List.replicate many []).take many
def Kv(f:Bd)(at' many:Nat):(j0 f at' many).length=many:=by unfold j0;rw[cX,aA,aA,bW,bW];lia
def lP(f g:Bd)(k:Nat):List Bd:=((List.range<|g.length-1-k).map λa=>j0 f a<|f.length-1-k+(g.length-1-k))++(List.range<|f.length-1-k).map λa=>j0 g a<|f.length-1-k+(g.length-1-k)
def uF(f g:Bd)(k:Nat):(lP f g k).length=f.length-1-k+(g.length-1-k):=by unfold lP;simp;lia
def Ed{l:Bd}(h:l∈lP f g k):l.length=f.length-1-k+(g.length-1-k):=by
 rcases cQ.mp h with h |h
 all_goals
  obtain⟨a,_,rfl⟩:=aZ.mp h
  exact Kv _ _ _
def m5(ds:ck)(d:D):Prop:=∃(f:Bd)(a m:Nat),ds=[aV f,.int a,.int m]/\f.length<100/\a<100/\m<100/\d=gZ (j0 f a m)
def wg:∀ds d,m5 ds d->ds.length=3:=by rintro _ _ ⟨_,_,_,rfl,_⟩;rfl
def ur(ds:ck)(d:D):Prop:=∃(f g:Bd)(k:Nat),ds=[aV f,aV g,.int k]/\f.length<40/\g.length<40/\k<f.length/\k<g.length/\d=.lst ((lP f g k).map gZ)
def CW:∀ds d,ur ds d->ds.length=3:=by rintro _ _ ⟨_,_,_,rfl,_⟩;rfl
def fP:Bd->Nat|[]=>0|r::l=>n1 r+fP l
def ue(T:List Bd):Nat->Nat|0=>1|i+1=>ue T i*max 1 (fP<|T.getD i [])
def B8(T:List Bd):Nat:=Builtin.Int.intBits (ue T T.length:Nat)+1
def ut(ds:ck)(d:D):Prop:=∃T:List Bd,ds=[.lst<|T.map gZ]/\T.length<100/\(∀l∈T,l.length<100/\(∀r∈l,r.length<100)/\fP l<2 ^ 1000)/\d=.int (B8 T)
def CY:∀ds d,ut ds d->ds.length=1:=by rintro _ _ ⟨_,rfl,_⟩;rfl
def R5(r:az):(r.map λx=>(x.natAbs:Int)).sum=n1 r:=by induction r with|nil=>rfl|cons a r ih=>rw[bY,List.sum_cons,ih];show(a.natAbs:Int)+_=((a.natAbs+n1 r:Nat):Int);lia
def Ql(l:Bd):az:=l.flatMap λr=>r.map λx=>(x.natAbs:Int)
theorem F0:∀l:Bd,(Ql l).sum=fP l|[]=>rfl|r::l=>by show((r.map λx=>(x.natAbs:Int))++Ql l).sum=((n1 r+fP l:Nat):Int);rw[List.sum_append,R5,F0 l];lia
theorem F9:∀(l:Bd),(∀r∈l,r.length<100)->(Ql l).length<=100*l.length|[],_=>ao _|r::l,h=>by show((r.map λx=>(x.natAbs:Int))++Ql l).length<=_;have:=F9 l λr hr=>h r<|aC _ hr;have:=h r aN;rw[aA,ab,bB];lia
theorem Ll(x:Nat)(hx:1<=x):∀(f:az)(w:Nat),f.length<=w+1->(vI (x:Int) f).natAbs<=n1 f*x ^ w
 |[],w,_=>aJ _|[a],w,_=>by show(a+x*0).natAbs<=(a.natAbs+0)*x ^ w;have:=cc a.natAbs<|Nat.one_le_pow w x hx;rw[aO,cn,Lb];lia
 |a::b::f,0,h=>by simp at h
 |a::b::f,w+1,h=>by
  have ih:=Ll x hx (b::f) w (by simpa using h);show(a+x*vI x (b::f)).natAbs<=(a.natAbs+n1 (b::f))*x ^ (w+1);generalize vI x (b::f)=v at*;generalize n1 (b::f)=m at*;have h1:(a+x*v).natAbs<=a.natAbs+x*v.natAbs:=by have:=Int.natAbs_add_le a<|x*v;rw[dQ,eR]at this;exact this
  have h2:x*v.natAbs<=x*(m*x ^ w):=cc _ ih;have h3:x*(m*x ^ w)=m*x ^ (w+1):=by rw[iO];grind
  have h4:a.natAbs*1<=a.natAbs*x ^ (w+1):=cc _<|Nat.one_le_pow _ x hx;rw[nj];lia
def As(ds:ck)(d:D):Prop:=∃(r:az)(b:Nat),ds=[aD r,.int b]/\r.length<100/\b<=10000/\(∀y∈r,y.natAbs<2 ^ 1000)/\d=.int (vI (2 ^ b) r)
def Hm:∀ds d,As ds d->ds.length=2:=by rintro _ _ ⟨_,_,rfl,_⟩;rfl
def uq(ds:ck)(d:D):Prop:=∃(f:az)(b B:Nat),ds=[.int<|vI (2 ^ b) f,.int b]/\W2 f/\BD B f/\2*B<2 ^ b/\f.length<1000/\b<=10000/\d=aD f
def CV:∀ds d,uq ds d->ds.length=2:=by rintro _ _ ⟨_,_,_,rfl,_⟩;rfl
def NS(x:Int):x.natAbs<2 ^ Builtin.Int.intBits x:=by
 unfold Builtin.Int.intBits;split;rename_i h;have:x=0:=by simpa using h
 subst this;decide;exact Nat.lt_log2_self
section
variable {X:Cx}
def Ag(h:fA P w K mg base k mS jP X)(zAO:mg "reversed"=none):Go X mS jP m5:=by
 rintro ds d ⟨f,a,m,rfl,hf,ha,hm,rfl⟩;have t:=h.at';haveI:=h.XM;have b1:=h.bt zAO;have r0:∀n:Nat,(List.replicate (n:Int).toNat [D.tup []]).flatten=(List.replicate n []).map aD:=λn=>by rw[bQ];exact Md n
 have cl:([D.tup []]:ck).length=1:=rfl;refine ay (iy t 3<|Xe.eq (Dd (xs:=(List.replicate a ([]:az)++f.reverse).map aD) (W0.eq (Xe.Xk<|Dd (ys:=f.reverse.map aD) (W0.eq (Xe.Xk<|Dc (fg<|ai (bH av) av).Xk (aa t 1) (by lia) (by lia)<|by rw[cl,gq];lia)<|by rw[r0]) (Xe.Xk (dR t ["f","at","many","line","row"] (oU rfl) (X5.eq (Nm t b1<|aa t 0) (show _=f.reverse.map aD by rw[N8])) (by rw[ab,cj,gq];lia) λX' cx=>?_))<|by rw[ab,ab,bW,cj,gq];lia)<|by rw[bj]) (W0.eq (Xe.Xk<|Dc (fg<|ai (bH av) av).Xk (aa t 2) (by lia) (by lia)<|by rw[cl,gq];lia)<|by rw[r0])<|by rw[ab,ab,aA,bW,bW,cj,gq];lia) (show _=(List.replicate a []++f.reverse++List.replicate m []).map aD by rw[bj,bj,bj])) ?_;have t':=cx.at';exact W9.gen (λr:az=>aD r) (λr:az=>aD r) (λr:az=>[.val<|aV f,.val<|.int a,.val<|.int m,.un,.val<|aD r]) f.reverse _ (λx _=>aU t' 4) (λx _ y _=>aU t' 4) λx _=>aa t' 4 rfl;refine aM<|cp<|W0.eq (Xe.Xk<|j7 (dw t 3 rfl) ia<|j5<|aa t 2) ?_;rw[NE _ aD<|by rw[aA,aA,bW,bW];lia];rfl
def HR(h:fA P w K mg base k ui oY X)(W7:mg "len"=none)(W6:mg "range"=none)(c1:Callee X "shifted_line" m5):Go X ui oY ur:=by
 rintro ds d ⟨f,g,k,rfl,hf,hg,kf,kg,rfl⟩;have t:=h.at';haveI:=h.XM;have b1:=h.bt W6;have b2:=h.bt W7;have e1:(((f.map aD).length:Nat):Int)-1-k=((f.length-1-k:Nat):Int):=by rw[ab];lia
 have e2:(((g.map aD).length:Nat):Int)-1-k=((g.length-1-k:Nat):Int):=by rw[ab];lia
 refine ay (nG t (bH<|ai (W0.eq (cu (cu (bX t b2<|W0.qt<|aa t 0) ak)<|aa t 2)<|bo D.int e1)<|ai (W0.eq (cu (cu (bX t b2<|W0.qt<|aa t 1) ak)<|aa t 2)<|bo D.int e2) av)<|mv t 3 4) ?_;unfold lP;generalize hU:f.length-1-k=up at*;generalize hDn:g.length-1-k=down at*;have es:(up+down)=((up+down:Nat):Int):=by lia
 have rg:∀n:Nat,cH 0 (n:Int).toNat=(List.range n).map λ(i:Nat)=>D.int i:=λn=>by unfold cH;rw[bQ];exact cA λj _=>by rw[fB]
 refine aM<|cp<|W0.eq (Xe.Xk<|Dd (xs:=(List.range down).map λa=>gZ<|j0 f a<|up+down) (ys:=(List.range up).map λa=>gZ<|j0 g a<|up+down) (Xe.Xk (dR t ["f","g","k","up","down","at"] (oU rfl) (X5.eq (eD t b1 (aa t 4) (by lia)<|by lia)<|rg down) (by rw[ab,cY,gq];lia) λX' cx=>?_)) (Xe.Xk (dR t ["f","g","k","up","down","at"] (oU rfl) (X5.eq (eD t b1 (aa t 3) (by lia)<|by lia)<|rg up) (by rw[ab,cY,gq];lia) λX' cx=>?_))<|by rw[ab,ab,cY,cY,gq];lia) (by rw[bj,bp,bp];rfl);have t':=cx.at';refine W9.gen (λ(j:Nat)=>D.int j) _ (λj=>[.val<|aV f,.val<|aV g,.val<|.int k,.val<|.int up,.val<|.int down,.val<|.int j]) _ _ (λx hx=>aU t' 5) (λx hx y hy=>aU t' 5) λx hx=>?_;have Yw:=aY.mp hx;exact aX t' (cx.callee c1) (ai (aa t' 0 rfl)<|ai (aa t' 5 rfl)<|ai (W0.eq (dj (aa t' 3 rfl)<|aa t' 4 rfl)<|bo D.int es) av) ⟨f,x,up+down,rfl,by lia,by lia,by lia,rfl⟩;have t':=cx.at';refine W9.gen (λ(j:Nat)=>D.int j) _ (λj=>[.val<|aV f,.val<|aV g,.val<|.int k,.val<|.int up,.val<|.int down,.val<|.int j]) _ _ (λx hx=>aU t' 5) (λx hx y hy=>aU t' 5) λx hx=>?_;have Yw:=aY.mp hx;exact aX t' (cx.callee c1) (ai (aa t' 1 rfl)<|ai (aa t' 5 rfl)<|ai (W0.eq (dj (aa t' 3 rfl)<|aa t' 4 rfl)<|bo D.int es) av) ⟨g,x,up+down,rfl,by lia,by lia,by lia,rfl⟩
end
def Op(h:W2 f):bR f=f:=ly (dI f) h<|fu f
theorem EL(f:Nat->Nat):∀n,Mu f (n+1)=Mu f n*f n|0=>by show f 0*1=1*f 0;lia|n+1=>by show f 0*Mu (λi=>f<|i+1) (n+1)=f 0*Mu (λi=>f<|i+1) n*f (n+1);rw[EL (λi=>f<|i+1) n,qA]
theorem Dz(T:List Bd):∀i,ue T i=Mu (λi=>max 1<|fP<|T.getD i []) i|0=>rfl|i+1=>by rw[EL,<-Dz T i];rfl
theorem HN{S:Nat}{T:List Bd}(h:∀l∈T,fP l<2 ^ S):∀i,ue T i<=2 ^ (S*i)
 |0=>ao _
 |i+1=>by
  have ih:=HN h i;have hl:fP (T.getD i [])<2 ^ S:=by rw[ac];cases e:T[i]? with|none=>exact Nat.two_pow_pos S|some l=>exact h l<|bV e
  rw[Nat.mul_succ,qD];have:1<=2 ^ S:=iA;exact fy ih<|by lia
def yk:∀(l:Bd),uG (λj=>n1<|l.getD j []) l.length=fP l:=λl=>by
 have key:∀(l:Bd)(f:Nat->Nat)m,(∀j,j<l.length->f (m+j)=n1 (l.getD j []))->uG f (m+l.length)=uG f m+fP l:=by
  intro l;induction l with
  |nil=>intro f m _;rfl
  |cons r l ih=>
   intro f m h;have e:=ih f (m+1) λj hj=>by have:=h (j+1) (by simpa using hj);rwa[show m+1+j=m+(j+1)by lia]
   have e0:=h 0 (by simp);rw[bB,show m+(l.length+1)=m+1+l.length by lia,e];show uG f m+f m+fP l=uG f m+(n1 r+fP l);have:f m=n1 r:=e0;lia
 have:=key l (λj=>n1<|l.getD j []) 0 λj _=>by rw[fh]
 rw[fh]at this;rw[this];show 0+_=_;lia
theorem XD.scan{X:Cx}{Y:Type}(R:Y->dP)(I F:Y->Prop)(μ:Y->Nat)(st:∀s,I s->(W5 X (R s) c false/\F s)\/(W5 X (R s) c true/\(W4 X (R s) body (.rt d0)\/∃s',W4 X (R s) body (.nx<|R s')/\I s'/\μ s'<μ s))):∀(n:Nat)(s:Y),μ s<=n->I s->∃m o,XD X c body m (R s) o/\(o=.rt d0\/∃s',o=.nx (R s')/\F s')|n,s,hn,hI=>by rcases st s hI with⟨h1,h2⟩ |⟨h1,h2 |⟨s',h2,h3,h4⟩⟩;exact⟨0,_,.stop h1,.inr ⟨s,rfl,h2⟩⟩;exact⟨0,_,.ret h1 h2,.inl rfl⟩;cases n with|zero=>lia|succ n=>let⟨m,o,hr,ho⟩:=XD.scan R I F μ st n s' (by lia) h3;exact⟨m+1,o,.step h1 h2 hr,ho⟩
def mF{X:Cx}{rest:List Stmt}{Y:Type}(t:At X N sc)(R:Y->dP)(I F:Y->Prop)(μ:Y->Nat)(s0:Y)(h0:I s0)(st:∀s,I s->(W5 X (R s) c false/\F s)\/(W5 X (R s) c true/\(W4 X (R s) body (.rt d0)\/∃s',W4 X (R s) body (.nx<|R s')/\I s'/\μ s'<μ s)))(fin:∀s,F s->W4 X (R s) rest (.rt d0)):W4 X (R s0) (.While c body [] pos::rest) (.rt d0):=by let⟨m,o,hr,ho⟩:=XD.scan R I F μ st (μ s0) s0 (ao _) h0;have run:=iu (pos:=pos) t ⟨m,hr⟩;rcases ho with rfl |⟨s',rfl,hf⟩;exact ff run;exact ay run<|fin s' hf
theorem XH.ints{X:Cx}(R:Sl->dP)(f:Int->Int)(h1:∀s4 a,XO X (R s4) t1 (.int a)<|R<|.val<|.int a)(he:∀a,W0 X (R<|.val<|.int a) elt<|.int<|f a):∀(r:az)(s4:Sl),∃s4',XH X t1 elt (r.map D.int) (R s4) ((r.map f).map D.int) (R s4')|[],s4=>⟨s4,.nil⟩|a::r,s4=>by obtain⟨s4',hs⟩:=XH.ints R f h1 he r<|.val<|.int a;exact⟨s4',.take (h1 s4 a) (he a) hs⟩
theorem XG.rows{X:Cx}(R:Sl->Sl->dP)(f:Int->Int)(h0:∀s3 s4(r:az),XO X (R s3 s4) t0 (aD r)<|R (.val<|aD r) s4)(hi:∀(r:az)s4,X5 X (R (.val<|aD r) s4) t1 i1<|r.map D.int)(h1:∀s3 s4 a,XO X (R s3 s4) t1 (.int a)<|R s3<|.val<|.int a)(he:∀s3 a,W0 X (R s3<|.val<|.int a) elt<|.int<|f a):∀(l:Bd)(s3 s4:Sl),XG X t0 t1 i1 elt (l.map aD) (R s3 s4) ((l.flatMap λr=>r.map f).map D.int)|[],_,_=>.nil|r::l,s3,s4=>by obtain⟨s4',hs⟩:=XH.ints (R<|.val<|aD r) f (h1 _) (he _) r s4;have:=XG.take (h0 s3 s4 r) (hi r s4) hs<|XG.rows R f h0 hi h1 he l (.val<|aD r) s4';rw[<-bj]at this;exact this
section
variable {X:Cx}
def HU(h:fA P w K mg base k ul pc X)(zD5:mg "max"=none)(zD4:mg "sum"=none)(YB:mg "abs"=none):Go X ul pc ut:=by
 rintro ds d ⟨T,rfl,hT,hl,rfl⟩;have t:=h.at';haveI:=h.XM;have b1:=h.bt zD5;have b2:=h.bt zD4;refine ay (df t 1 ak) ?_;refine ay (gY t (gN<|aa t 0)<|Xc.Xl (λi=>[.val<|.lst<|T.map gZ,.val<|.int (ue T i:Nat),.un]) (λi d hd=>?_) rfl<|by rw[ab]) ?_;rw[aw]at hd;cases e:T[i]? with
 |none=>rw[e]at hd;cases hd
 |some l=>
  rw[e]at hd;cases hd;obtain⟨l1,l2,l3⟩:=hl l<|bV e;have el:T.getD i []=l:=by rw[ac,e];rfl
  have hi:i<T.length:=(aG.mp e).1;have hb:=HN (λl hl'=>(hl l hl').2.2) i;have e3:((ue T (i+1):Nat):Int)=(ue T i:Nat)*(max 1 ((fP l:Nat):Int)):=by show((ue T i*max 1 (fP<|T.getD i []):Nat):Int)=_;rw[el,fC];congr 1;lia
  rw[e3];refine⟨_,c9 t 2,W4.weak (aM<|L3 t 1 rfl (PL t b1 ak<|W0.eq (Sy t b2<|Xe.toQ (Nl t ["table","bound","line","row","number"] (oU rfl) (gN<|aa t 2) ?_ λX' cx=>?_))<|bo D.int<|F0 l) ?_)<|.keep<|.keep<|.forget .nil⟩;have:=F9 l l2;rw[ab,gq];lia;have t':=cx.at';exact XG.rows (λs3 s4=>[.val<|.lst<|T.map gZ,.val<|.int (ue T i:Nat),.val<|gZ l,s3,s4]) (λx=>x.natAbs) (λs3 s4 r=>aU t' 3) (λr s4=>j8<|aa t' 3 rfl) (λs3 s4 a=>aU t' 4) (λs3 a=>ub t' (DB<|by rwa[cx.Ze,h.Ze])<|aa t' 4 rfl) l .un .un;refine mE (k:=200000) (by decide) ?_ ?_;rw[eR];exact cb hb<|iP (by decide) (by lia);have e4:(max 1 ((fP l:Nat):Int)).natAbs<=max 1 (fP l):=by lia
  refine cb e4 ?_;lia
 refine aM<|cp<|W0.eq (dj (PQ<|aa t 1) ak) ?_;congr 1
def NZ(h:fA P w K mg base k Ao uZ X)(zAO:mg "reversed"=none):Go X Ao uZ As:=by
 rintro ds d ⟨r,b,rfl,hr,hb,hy,rfl⟩;have t:=h.at';haveI:=h.XM;have b1:=h.bt zAO;refine ay (df t 2 ak) ?_;have hn1:∀f:az,(∀y∈f,y.natAbs<2 ^ 1000)->n1 f<=f.length*2 ^ 1000:=by
  intro f;induction f with
  |nil=>exactλ_=>aJ _
  |cons a f ih=>intro hf;have:=ih λy hy=>hf y<|aC _ hy;have:=hf a aN;show a.natAbs+n1 f<=(f.length+1)*2 ^ 1000;rw[ig];lia
 refine ay (gY t (X5.eq (Nm t b1<|aa t 0) (show _=r.reverse.map D.int by rw[N8]))<|Xc.Xl (ρ':=[.val<|aD r,.val<|.int b,.val<|.int<|vI (2 ^ b) r,.un]) (λi=>[.val<|aD r,.val<|.int b,.val<|.int<|vI (2 ^ b)<|r.drop<|r.length-i,.un]) (λi d hd=>?_) (by rw[jG,xH];rfl)<|by rw[ab,cj,eI];rfl)<|aM<|cp<|aa t 2;rw[aw]at hd;cases e:r.reverse[i]? with
 |none=>rw[e]at hd;cases hd
 |some a=>
  rw[e]at hd;cases hd;have hi:i<r.length:=by have:=(aG.mp e).1;rw[cj]at this;exact this
  have ea:r[r.length-1-i]?=some a:=by rw[oV hi]at e;exact e
  have ed:r.drop (r.length-(i+1))=a::r.drop (r.length-i):=by have:=Tv (l:=r) (i:=r.length-(i+1)) (by lia);rw[this,show r.length-(i+1)+1=r.length-i by lia];congr 1;have e2:=ea;rw[show r.length-1-i=r.length-(i+1)by lia,am<|by lia]at e2;exact bC e2
  have ev:vI (2 ^ b) (r.drop<|r.length-(i+1))=vI (2 ^ b) (r.drop<|r.length-i)*2 ^ (b:Int).toNat+a:=by rw[ed,bQ];show a+2 ^ b*vI (2 ^ b) (r.drop<|r.length-i)=_;rw[dO];lia
  rw[ev];have zER:(Builtin.Int.intBits (vI (2 ^ b)<|r.drop<|r.length-i):Int)+b<=2 ^ 27:=by
   have hv:=Ll (2 ^ b) iA (r.drop<|r.length-i) 100 (by rw[cO];lia);rw[si]at hv;have hv':(vI (2 ^ b)<|r.drop<|r.length-i).natAbs<=n1 (r.drop<|r.length-i)*(2 ^ b) ^ 100:=hv;have h2:=hn1 (r.drop<|r.length-i) λy hy'=>hy y<|List.mem_of_mem_drop hy';have h3:n1 (r.drop<|r.length-i)<=2 ^ 1007:=aL h2<|by rw[cO,show 1007=7+1000 by rfl,qD];exact bF _<|by lia
   have h4:(2 ^ b) ^ 100<=2 ^ 1000000:=by rw[<-WO];exact ba (by decide)<|by lia
   have h5:(vI (2 ^ b)<|r.drop<|r.length-i).natAbs<2 ^ 1001008:=by refine cb (aL hv'<|fy h3 h4) ?_;rw[<-qD];exact iP (by decide)<|by decide
   have:=xZ h5;lia
  exact⟨_,c9 t 3,W4.weak (aM<|df t 2<|dj (PH (aa t 2) (aa t 1) (by lia) zER)<|aa t 3)<|.keep<|.keep<|.keep<|.forget .nil⟩
def HQ(h:fA P w K mg base k uh oX X)(c1:Callee X "row_of" lL):Go X uh oX uq:=by
 rintro ds d ⟨f,b,B,rfl,rf,bf,hB,hl,hb,rfl⟩;have t:=h.at';haveI:=h.XM;refine ay (iy t 2<|fg av) ?_;have hx:((2*B:Nat):Int)<2 ^ b:=by have:((2*B:Nat):Int)<((2 ^ b:Nat):Int):=Wd.mpr hB;rw[si]at this;exact this
 refine mF t (λz=>[.val<|.int<|vI (2 ^ b) z.1,.val<|.int b,.own<|z.2.map D.int,.un]) (λz=>W2 z.1/\BD B z.1/\z.2++z.1=f) (λz=>z.2=f) (λz=>z.1.length) (f,[]) ⟨rf,bf,rfl⟩ (λz hz=>?_) λz hz=>?_;obtain⟨g,done⟩:=z;obtain⟨rg,bg,hfd⟩:=hz;have hlen:done.length+g.length<1000:=by rw[<-aA,hfd];exact hl
 cases g with
 |nil=>rw[dq]at hfd;exact .inl ⟨W5.eq (nR (aa t 0) ak) rfl,hfd⟩
 |cons a g=>
  obtain⟨nz,hd,hq⟩:=Lu hx rg bg;refine .inr ⟨W5.eq (nR (aa t 0) ak)<|by rw[aj nz];rfl,.inr ⟨(g,done++[a]),?_,⟨Qa rg,λy hy=>bg y<|aC _ hy,by rwa[dX]⟩,by dsimp only;rw[bB];lia⟩⟩;have hb1:1<=b:=by
   rcases bA 0 b with z |z;exact z;have:b=0:=by lia
   subst this;exfalso;have hB0:B=0:=by lia
   subst hB0;rcases rg with z |⟨ys,c,z,hc⟩;cases z;have:=bg c (by rw[z];simp);lia
  generalize hv:vI (2 ^ b) (a::g)=v at*;have zNV:(2:Int) ^ b=2 ^ (b-1)*2:=by obtain⟨c,rfl⟩:∃c,b=c+1:=⟨b-1,by lia⟩;rw[ot];rfl
  have hp1:(0:Int)<2 ^ (b-1):=Int.pow_pos (by decide);have hp:(0:Int)<2 ^ b:=Int.pow_pos (by decide);have h1:=bO v<|Int.ne_of_gt hp;have h2:=bK v hp;refine ay (df t 3<|PM (aa t 0)<|W0.eq (cu (C7 ak (aa t 1) ⟨by lia,by lia,by decide⟩) ak)<|by rw[bS,bQ]) ?_;have zB8:(v%2 ^ b / 2 ^ ((b:Int)-1).toNat !=0)=decide (2 ^ b<=2*(v%2 ^ b)):=by
   have e:((b:Int)-1).toNat=b-1:=by lia
   rw[e];generalize(2:Int) ^ (b-1)=q at*;generalize v%2 ^ b=r at*;by_cases z:2 ^ b<=2*r;rw[aq z];have:q*1<=r:=by lia
   have h3:1<=r / q:=(Int.le_ediv_iff_mul_le hp1).mpr (by lia);rw[bne_iff_ne];lia;rw[aj z];have h3:r / q=0:=Int.ediv_eq_zero_of_lt h1 (by lia);rw[h3];rfl
  have ed:(if 2 ^ b<=2*(v%2 ^ b)then v%2 ^ b-2 ^ b else v%2 ^ b)=a:=hd;refine ay (ρ':=[.val<|.int v,.val<|.int b,.own<|done.map D.int,.val<|.int a]) ?_ ?_;by_cases z:2 ^ b<=2*(v%2 ^ b);rw[ag z]at ed;rw[<-ed];refine fF (W5.eq (W5.eq (Ht<|Hs (aa t 3) (cu (aa t 1) ak)<|by lia) zB8)<|aq z)<|aM<|XX.eq (Ev t 3 rfl<|C7 ak (aa t 1) ⟨by lia,by lia,by decide⟩) ?_;rw[bS,bQ];rfl;rw[af z]at ed;rw[<-ed];exact fx (W5.eq (W5.eq (Ht<|Hs (aa t 3) (cu (aa t 1) ak)<|by lia) zB8)<|aj z) dM;refine ay (jp t 2 rfl (aa t 3)<|by rw[ab,gq];lia) ?_;refine W4.weak (W1:=[.val<|.int<|vI (2 ^ b) g,.val<|.int b,.own<|(done++[a]).map D.int,.val<|.int a]) ?_<|.keep<|.keep<|.keep<|.forget .nil;refine aM<|XX.eq (df t 0<|Hs (cu (aa t 0)<|aa t 3) (aa t 1)<|by lia) ?_;rw[bQ,hq,bj];rfl
 obtain⟨g,done⟩:=z;subst hz;exact eL 2 rfl<|aM<|cp<|aX t c1 (ai (aa t 2) av) ⟨done,rfl,hl,by rw[Op rf]⟩
end
def l7(f g:Bd)(k:Nat):Nat:=f.length-1-k+(g.length-1-k)
def qH(f g:Bd)(k:Nat)(i j:Nat):az:=((lP f g k).getD i []).getD j []
def lE(f g:Bd)(k:Nat):az:=bR<|Dj (l7 f g k)<|qH f g k
structure TB(f:Bd):Prop where
 ln:f.length<=12
 Yi:∀r∈f,r.length<=20
 nm:∀r∈f,∀y∈r,y.natAbs<2 ^ 60
theorem MN{m:Nat}:∀{f:az},(∀y∈f,y.natAbs<m)->n1 f<=f.length*m|[],_=>aJ _|a::f,h=>by have:=MN λy hy=>h y<|aC _ hy;have:=h a aN;show a.natAbs+n1 f<=(f.length+1)*m;rw[ig];lia
theorem oK:∀(a b:Bd),fP (a++b)=fP a+fP b|[],b=>by show fP b=0+fP b;lia|r::a,b=>by show n1 r+fP (a++b)=n1 r+fP a+fP b;rw[oK a b];lia
theorem qY:∀n,fP (List.replicate n [])=0|0=>rfl|n+1=>by rw[dF];show n1 []+fP (List.replicate n [])=0;rw[qY n];rfl
theorem wf:∀(l:Bd)(m:Nat),fP (l.take m)<=fP l
 |[],m=>by rw[List.take_nil];exact ao _|r::l,0=>aJ _
 |r::l,m+1=>Nat.add_le_add_left (wf l m) _
theorem y7:∀(l:Bd),fP l.reverse=fP l|[]=>rfl|r::l=>by rw[gK,oK,y7 l];show fP l+(n1 r+0)=n1 r+fP l;lia
theorem Ja{m:Nat}:∀{l:Bd},(∀r∈l,n1 r<=m)->fP l<=l.length*m|[],_=>aJ _|r::l,h=>by have:=Ja λr hr=>h r<|aC _ hr;have:=h r aN;show n1 r+fP l<=(l.length+1)*m;rw[ig];lia
def TB.n1{r:az}(h:TB f)(hr:r∈f):My.n1 r<=20*2 ^ 60:=aL (MN<|h.nm r hr)<|bF _<|h.Yi r hr
def Ku(h:TB f)(a m:Nat):fP (j0 f a m)<2 ^ 68:=by refine cb (wf _ m) ?_;rw[oK,oK,qY,qY,y7];have h1:=Ja λr hr=>h.n1 hr;have h2:f.length*(20*2 ^ 60)<=12*(20*2 ^ 60):=bF _ h.ln;lia
def BU{r:az}(h:r∈j0 f a m):r=[]\/r∈f:=by have:=DT h;rcases cQ.mp this with z |z;rcases cQ.mp z with z |z;exact .inl<|UT z;exact .inr<|qh.mp z;exact .inl<|UT z
def LH{l:Bd}(h:l∈lP f g k):∃a,l=j0 f a (l7 f g k)\/l=j0 g a (l7 f g k):=by rcases cQ.mp h with h |h;obtain⟨a,_,rfl⟩:=aZ.mp h;exact⟨a,.inl rfl⟩;obtain⟨a,_,rfl⟩:=aZ.mp h;exact⟨a,.inr rfl⟩
structure LT(l:Bd):Prop where
 sm:fP l<2 ^ 68
 Yi:∀r∈l,r.length<=20
 nm:∀r∈l,∀y∈r,y.natAbs<2 ^ 60
def Jg(h:TB f)(a m:Nat):LT (j0 f a m):=⟨Ku h a m,λr hr=>by
 rcases BU hr with rfl |z;exact aJ _;exact h.Yi r z,λr hr y hy=>by
 rcases BU hr with rfl |z;cases hy;exact h.nm r z y hy⟩
def LG{l:Bd}(hf:TB f)(hg:TB g)(h:l∈lP f g k):LT l:=by obtain⟨a,rfl |rfl⟩:=LH h;exact Jg hf _ _;exact Jg hg _ _
def hX{i:Nat}{l:List α}{d:α}(h:i<l.length):l.getD i d∈l:=by rw[ac,am h];exact cZ _
def Ec(hf:TB f)(hg:TB g)(i j:Nat):(qH f g k i j).length<=20/\∀y∈qH f g k i j,y.natAbs<2 ^ 60:=by
 unfold qH;rcases bA i (lP f g k).length with z |z;have hl:=LG hf hg<|hX (d:=[]) z;generalize(lP f g k).getD i []=l at*;rcases bA j l.length with y |y;exact⟨hl.Yi _<|hX y,hl.nm _<|hX y⟩;rw[ac,aI y];exact⟨aJ _,λy hy=>nomatch hy⟩;have e:(lP f g k).getD i []=[]:=by rw[ac,aI z];rfl
 rw[e];exact⟨aJ _,λy hy=>nomatch hy⟩
def LF(f g:Bd)(k:Nat):n1 (Dj (l7 f g k)<|qH f g k)<=ue (lP f g k) (lP f g k).length:=by have h:=MO (l7 f g k)<|qH f g k;rw[Dz,uF];refine aL h (CH _ λi hi=>?_);have hl:((lP f g k).getD i []).length=l7 f g k:=Ed<|hX (by rwa[uF]);have:=yk<|(lP f g k).getD i [];rw[hl]at this;unfold qH;rw[this];lia
def Ot(f g:Bd)(k:Nat):W2 (lE f g k):=dI _
def Ou{w:Nat}(hw:1<=w)(h:∀i j,(qH f g k i j).length<=w):(lE f g k).length<=l7 f g k*(w-1)+1:=aL (fK _)<|Jj hw _ h
def Io(x:Int)(f g:Bd)(k:Nat):vI x (lE f g k)=det (l7 f g k) (λi j=>vI x<|qH f g k i j):=by unfold lE;rw[Om,Lq]
def P0(φ:az->Int)(h0:φ []=0)(T:List Bd)(i j:Nat):nS (T.map λl=>l.map φ) i j=φ ((T.getD i []).getD j []):=by
 unfold nS;have e:(T.map λl=>l.map φ).getD i []=(T.getD i []).map φ:=by rw[ac,aw,ac];cases T[i]?<;>rfl
 rw[e];generalize T.getD i []=l;rw[ac,aw,ac];cases l[j]? with|none=>exact h0.symm|some r=>rfl
def vJ(ds:ck)(d:D):Prop:=∃(f g:Bd)(k:Nat),ds=[aV f,aV g,.int k]/\TB f/\TB g/\k<f.length/\k<g.length/\d=aD (lE f g k)
def Hk:∀ds d,vJ ds d->ds.length=3:=by rintro _ _ ⟨_,_,_,rfl,_⟩;rfl
section
variable {X:Cx}
def NX(h:fA P w K mg base k Am uX X)(c1:Callee X "table_of" ur)(c2:Callee X "bits_for" ut)(c3:Callee X "unpacked" uq)(c4:Callee X "determinant" n9)(c5:Callee X "packed" As):Go X Am uX vJ:=by
 rintro ds d ⟨f,g,k,rfl,hf,hg,kf,kg,rfl⟩;have t:=h.at';haveI:=h.XM;have lf:=hf.ln;have lg:=hg.ln;have XQ:∀l∈lP f g k,LT l:=λl hl=>LG hf hg hl;have hln:(lP f g k).length=l7 f g k:=uF f g k;have YQ:∀l∈lP f g k,l.length=l7 f g k:=λl hl=>Ed hl;have hN:l7 f g k<=22:=by unfold l7;lia
 refine ay (df t 3<|aX t c1 (ai (aa t 0)<|ai (aa t 1)<|ai (aa t 2) av) ⟨f,g,k,rfl,by lia,by lia,kf,kg,rfl⟩) ?_;have hbn:=LF f g k;have zG5:=λx=>Io x f g k;have hrk:=Ot f g k;have htl:=Ou (k:=k) (by decide) λi j=>(Ec hf hg i j).1;have hbd:BD (ue (lP f g k) (lP f g k).length) (lE f g k):=λy hy=>aL (pE<|vh hy) hbn;have hM:∀i j,qH f g k i j=((lP f g k).getD i []).getD j []:=λ_ _=>rfl;generalize hT:lP f g k=T at*;generalize hn:l7 f g k=n at*;have hbl:=HN (λl hl=>(XQ l hl).sm) T.length;refine ay (df t 4<|aX t c2 (ai (aa t 3) av) ⟨T,rfl,by lia,λl hl=>⟨by rw[YQ l hl];lia,λr hr=>by have:=(XQ l hl).Yi r hr;lia,Aw (XQ l hl).sm<|iP (by decide)<|by decide⟩,rfl⟩) ?_;have hb1:B8 T<=1500:=by unfold B8;have:Builtin.Int.intBits ((ue T T.length:Nat):Int)<=68*T.length+1:=xZ (by rw[eR];exact cb hbl<|iP (by decide)<|by lia);lia
 have hb2:2*ue T T.length<2 ^ B8 T:=by have:=NS ((ue T T.length:Nat):Int);rw[eR]at this;unfold B8;rw[iO];lia
 generalize hb:B8 T=b at*;let Z:List az:=T.map λl=>l.map λr=>vI (2 ^ b) r;have hZ:Sq n Z:=⟨by rw[ab,hln],λr hr=>by obtain⟨l,hl,rfl⟩:=aZ.mp hr;rw[ab,YQ l hl]⟩
 have zEP:∀i j,nS Z i j=vI (2 ^ b) (qH f g k i j):=λi j=>by rw[hM];exact P0 (λr=>vI (2 ^ b) r) rfl T i j
 have hsm:∀i j,(nS Z i j).natAbs<=2 ^ 30065:=λi j=>by
  rw[zEP];obtain⟨r1,r2⟩:=Ec hf hg (k:=k) i j;have h1:=Ll (2 ^ b) iA (qH f g k i j) 20 (by lia);rw[si]at h1;have h2:n1 (qH f g k i j)<=2 ^ 65:=aL (MN r2)<|aL (bF _ r1) (by decide);have h3:(2 ^ b) ^ 20<=2 ^ 30000:=by rw[<-WO];exact ba (by decide)<|by lia
  refine aL h1<|aL (fy h2 h3) ?_;rw[<-qD];exact ao _
 have zHQ:det n (nS Z)=vI (2 ^ b) (lE f g k):=by rw[zG5];exact e9 λi j _ _=>zEP i j
 refine aM<|cp<|aX t c3 (ai (aX t c4 (ai (Xe.Xk (dR t ["f","g","k","table","bits","line"] (oU rfl) (gN<|aa t 3) (by rw[ab,gq];lia) λX' cx=>?_)) av) ⟨Z,n,30065,rfl,hZ,by lia,hsm,by lia,rfl⟩)<|ai (aa t 4) av) ⟨lE f g k,b,ue T T.length,by rw[zHQ],hrk,hbd,hb2,by lia,by lia,rfl⟩;have t':=cx.at';have e1:Z.map bu=T.map λl=>bu (l.map λr=>vI (2 ^ b) r):=by rw[bp];rfl
 rw[e1];refine W9.gen (λl:Bd=>gZ l) _ (λl:Bd=>[.val<|aV f,.val<|aV g,.val<|.int k,.val<|.lst<|T.map gZ,.val<|.int b,.val<|gZ l]) T _ (λx hx=>aU t' 5) (λx hx y hy=>aU t' 5) λl hl=>?_;obtain⟨q1,q2,q3⟩:=XQ l hl;have q4:=YQ l hl;refine W0.eq (Xe.Xk (dR (rs:=l.map λr=>D.int<|vI (2 ^ b) r) t' ["f","g","k","table","bits","line","row"] (oU<|by decide) (gN<|aa t' 5 rfl) (by rw[ab,gq];lia) λX'' cx'=>?_)) (by show _=D.lst ((l.map λr=>vI (2 ^ b) r).map D.int);rw[bp];rfl);have t'':=cx'.at';refine W9.gen (λr:az=>aD r) _ (λr:az=>[.val<|aV f,.val<|aV g,.val<|.int k,.val<|.lst<|T.map gZ,.val<|.int b,.val<|gZ l,.val<|aD r]) l _ (λx hx=>aU t'' 6) (λx hx y hy=>aU t'' 6) λr hr=>?_;have q5:=q2 r hr;exact aX t'' (cx'.callee<|cx.callee c5) (ai (aa t'' 6 rfl)<|ai (aa t'' 4 rfl) av) ⟨r,b,rfl,by lia,by lia,λy hy=>Aw (q3 r hr y hy)<|iP (by decide)<|by decide,rfl⟩
end
end My
namespace My
variable {α:Type}
variable {K:gS}
theorem sT(f:Nat->Int):∀(n j:Nat),j<=n->dS f (n+1)=f j+dS (λk=>f<|sk j k) n
 |0,j,h=>by
  have:j=0:=by lia
  subst this;show 0+f 0=f 0+0;lia
 |n+1,j,h=>by
  rcases bA n j with z |z;have:j=n+1:=by lia
  subst this;have e:dS (λk=>f<|sk (n+1) k) (n+1)=dS f (n+1):=fc λi hi=>by unfold sk;rw[ag hi]
  rw[e];show dS f (n+1)+f (n+1)=f (n+1)+dS f (n+1);lia;have ih:=sT f n j z;show dS f (n+1)+f (n+1)=f j+(dS (λk=>f<|sk j k) n+f (sk j n));rw[ih,show sk j n=n+1 by unfold sk;rw[af<|by lia]];lia
def vA(f:Nat->Int)(n:Nat):dS f (n+1)=f 0+dS (λk=>f<|k+1) n:=sT f n 0<|aJ _
def Ee(i:Nat):qG 0 i=i:=by unfold qG;split<;>simp_all
def Oy(p i:Nat):qG p (qG p i)=i:=by unfold qG;grind
def Rk{p i n:Nat}(hp:p<n)(hi:i<n):qG p i<n:=by unfold qG;grind
def SM{p n:Nat}(f:Nat->Int)(hp:p<n):dS (λi=>f<|qG p i) n=dS f n:=by
 cases p with
 |zero=>exact fc λi _=>by rw[Ee]
 |succ q=>
  obtain⟨n,rfl⟩:∃m,n=m+2:=⟨n-2,by lia⟩;rw[vA f,vA λi=>f<|qG (q+1) i,sT (λk=>f<|k+1) n q<|by lia,sT (λk=>f<|qG (q+1)<|k+1) n q<|by lia];have e1:qG (q+1) 0=q+1:=rfl;have e2:qG (q+1) (q+1)=0:=by unfold qG;simp
  have e3:∀k,qG (q+1) (sk q k+1)=sk q k+1:=λk=>by
   have:sk q k≠q:=by unfold sk;split<;>lia
   unfold qG;rw[af<|by lia,af<|by lia]
  simp only[e1,e2,e3];lia
def Dep(R C:Nat)(A:Nat->Nat->Int):Prop:=∃c:Nat->Int,(∃i,i<R/\c i≠0)/\∀j,j<C->dS (λi=>c i*A i j) R=0
def Dep.swap{R C p:Nat}{A:Nat->Nat->Int}(hp:p<R)(h:Dep R C A):Dep R C (λi j=>A (qG p i) j):=by obtain⟨c,⟨i,hi,hc⟩,h⟩:=h;exact⟨λi=>c<|qG p i,⟨qG p i,Rk hp hi,by show c (qG p<|qG p i)≠0;rw[Oy];exact hc⟩,λj hj=>(SM (λi=>c i*A i j) hp).trans<|h j hj⟩
def P5{n p:Nat}{A:Nat->Nat->Int}(hp:p<n):det n (λi j=>A (qG p i) j)=0↔det n A=0:=by
 cases p with
 |zero=>
  have e:(λi j=>A (qG 0 i) j)=A:=by funext i j;rw[Ee]
  rw[e]
 |succ q=>rw[B4 hp];lia
def NI(B:Nat->Nat->Int)(c:Nat->Int)(j n:Nat):dS (λi=>c i*xu B i j) n=B 0 0*dS (λi=>c i*B (i+1) (j+1)) n-B 0 (j+1)*dS (λi=>c i*B (i+1) 0) n:=by
 have e:dS (λi=>c i*xu B i j) n=dS (λi=>B 0 0*(c i*B (i+1) (j+1))+(-B 0 (j+1))*(c i*B (i+1) 0)) n:=fc λi _=>by unfold xu;grind
 have e2:dS (λi=>(-B 0 (j+1))*(c i*B (i+1) 0)) n=(-B 0 (j+1))*dS (λi=>c i*B (i+1) 0) n:=by have:=nT (-B 0 (j+1)) (λi=>c i*B (i+1) 0) (λ_=>0) n;simp only[cn]at this;rw[this,gU λ_ _=>rfl,cn]
 rw[e,nT,e2];grind
def Dep.down{R C:Nat}{B:Nat->Nat->Int}(h0:B 0 0≠0)(h:Dep (R+1) (C+1) B):Dep R C (xu B):=by
 obtain⟨c,⟨i,hi,hc⟩,h⟩:=h;have h1:=h 0 (by lia);rw[vA]at h1;refine⟨λi=>c<|i+1,?_,λj hj=>?_⟩;refine bz λhn=>?_;have hz:∀k,k<R->c (k+1)=0:=λk hk=>bz λz=>hn ⟨k,hk,z⟩;rw[gU λk hk=>by show c (k+1)*_=0;rw[hz k hk,dL],cn]at h1;have c0:c 0=0:=(eV.mp h1).resolve_right h0;cases i with|zero=>exact hc c0|succ i=>exact hc<|hz i<|by lia
 have h2:=h (j+1) (by lia);rw[vA]at h2;rw[NI B λi=>c<|i+1];generalize dS (λk=>c (k+1)*B (k+1) 0) R=s at*;generalize dS (λk=>c (k+1)*B (k+1) (j+1)) R=s' at*;have e1:s=-(c 0*B 0 0):=by lia
 have e2:s'=-(c 0*B 0 (j+1)):=by lia
 rw[e1,e2];grind
theorem z7:∀(n:Nat)(A:Nat->Nat->Int),Dep n n A->det n A=0
 |0,A,⟨_,⟨i,hi,_⟩,_⟩=>by lia
 |n+1,A,h=>by
  by_cases hp:∃p,p<n+1/\A p 0≠0;obtain⟨p,hp,h0⟩:=hp;have hB:(λi j=>A (qG p i) j) 0 0≠0:=h0;have hd:=(h.swap hp).down hB;refine(P5 hp).mp ?_;have ih:=z7 n _ hd;cases n with|zero=>let⟨_,⟨i,hi,_⟩,_⟩:=hd;lia|succ n=>rw[Fx hB]at ih;rcases eV.mp ih with z |z;exact absurd z<|mH hB;exact z
  exact vz λi hi=>bz λz=>hp ⟨i,hi,z⟩
end My
namespace My
variable {α:Type}
variable {K:gS}
theorem Ip(f:Nat->Int):∀n,eF f n=dS f n|0=>rfl|n+1=>by show eF f n+f n=dS f n+f n;rw[Ip f n]
theorem sS{a:Nat}{f:Nat->Int}:∀{n:Nat},(∀i,i<n->i≠a->f i=0)->a<n->dS f n=f a|0,_,h=>by lia|n+1,h,ha=>by show dS f n+f n=f a;by_cases e:a=n;subst e;rw[gU λi hi=>h i (by lia)<|by lia,fB];rw[sS (λi hi=>h i<|by lia)<|by lia,h n (by lia)<|by lia,cn]
def Yg(a:Nat)(s:PS):Prop:=∀i,a<=i->s.c i=0
def Yg.mono{b:Nat}{s:PS}(h:Yg a s)(l:a<=b):Yg b s:=λi hi=>h i<|by lia
def tO(i:Nat):(0:PS).c i=0:=by show(if i=0 then((0:Nat):Int)else 0)=0;split<;>rfl
def E3(s t:PS)(n:Nat):(s*t).c n=dS (λi=>s.c i*t.c (n-i)) (n+1):=Ip _ _
def Yg.zero(a:Nat):Yg a 0:=λi _=>tO i
def Yg.add{s t:PS}(h:Yg a s)(g:Yg a t):Yg a (s+t):=λi hi=>by rw[PS.ZH,h i hi,g i hi];rfl
def Yg.sub{s t:PS}(h:Yg a s)(g:Yg a t):Yg a (s-t):=λi hi=>by rw[PS.zGG,h i hi,g i hi];rfl
def Yg.neg{s:PS}(h:Yg a s):Yg a (-s):=λi hi=>by rw[PS.zGW,h i hi];rfl
def Yg.mul{b:Nat}{s t:PS}(h:Yg a s)(g:Yg (b+1) t):Yg (a+b) (s*t):=λn hn=>by rw[E3];refine gU λi hi=>?_;rcases bA i a with z |z;rw[g (n-i)<|by lia,aO];rw[h i z,dL]
def zBI{a b:Nat}{s t:PS}(h:Yg (a+1) s)(g:Yg (b+1) t):(s*t).c (a+b)=s.c a*t.c b:=by rw[E3,sS];rw[show a+b-a=b by lia];intro i hi hn;rcases bA a i with z |z;rw[h i z,dL];rw[g (a+b-i)<|by lia,aO];lia
structure Top(s:PS)(d:Nat):Prop where
 nz:s.c d≠0
 bl:Yg (d+1) s
def YA(s:PS):Prop:=∃a,Yg a s
def Top.mul{s t:PS}(h:Top s d)(g:Top t e):Top (s*t) (d+e):=⟨by rw[zBI h.bl g.bl];intro z;rcases eV.mp z with z |z;exact h.nz z;exact g.nz z,(h.bl.mul g.bl).mono<|by lia⟩
theorem zAE:∀{b:Nat}{s:PS},Yg b s->s≠0->∃d,d<b/\Top s d
 |0,s,h,hs=>absurd (PS.ext' λi=>by rw[h i<|aJ _,tO]) hs
 |b+1,s,h,hs=>by
  by_cases z:s.c b=0;obtain⟨d,hd,ht⟩:=zAE (b:=b) (λi hi=>by rcases bA b i with y |y;exact h i y;rwa[show i=b by lia]) hs
  exact⟨d,by lia,ht⟩;exact⟨b,by lia,z,h⟩
def YA.top{s:PS}(h:YA s)(hs:s≠0):∃d,Top s d:=by obtain⟨a,h⟩:=h;obtain⟨d,_,h⟩:=zAE h hs;exact⟨d,h⟩
def YA.add{s t:PS}(h:YA s)(g:YA t):YA (s+t):=by let⟨a,h⟩:=h;let⟨b,g⟩:=g;exact⟨max a b,(h.mono<|by lia).add<|g.mono<|by lia⟩
def YA.sub{s t:PS}(h:YA s)(g:YA t):YA (s-t):=by let⟨a,h⟩:=h;let⟨b,g⟩:=g;exact⟨max a b,(h.mono<|by lia).sub<|g.mono<|by lia⟩
def YA.mul{s t:PS}(h:YA s)(g:YA t):YA (s*t):=by let⟨a,h⟩:=h;let⟨b,g⟩:=g;exact⟨a+b,h.mul<|g.mono<|by lia⟩
def YA.C(c:Int):YA (PS.C c):=⟨1,λi hi=>by rw[PS.Cc,af<|by lia]⟩
def YA.zero:YA 0:=⟨0,Yg.zero 0⟩
def VX(m n k:Nat)(F G:PS):Prop:=∃U V:PS,¬(U=0/\V=0)/\Yg (n-k) U/\Yg (m-k) V/\Yg k (U*F+V*G)
def Ob(F:PS)(m i j:Nat):Int:=if j<=i+m then F.c (i+m-j)else 0
def Ow(F G:PS)(m n k i j:Nat):Int:=if i<n-k then Ob F m i j else Ob G n (i-(n-k)) j
theorem Dm(f:Nat->Int)(a:Nat):∀b,dS f (a+b)=dS f a+dS (λi=>f<|a+i) b|0=>by show dS f a=dS f a+0;lia|b+1=>by show dS f (a+b)+f (a+b)=dS f a+(dS (λi=>f<|a+i) b+f (a+b));rw[Dm f a b];lia
theorem HA(f:Nat->Int):∀n,dS (λi=>f<|n-1-i) n=dS f n
 |0=>rfl
 |n+1=>by
  rw[vA];have e:dS (λk=>f<|n+1-1-(k+1)) n=dS (λi=>f<|n-1-i) n:=fc λi hi=>by rw[show n+1-1-(i+1)=n-1-i by lia]
  rw[e,HA f n];show f n+dS f n=dS f n+f n;lia
def FF{U F:PS}(h:Yg t U)(P:Nat):(U*F).c P=dS (λs=>U.c s*(if s<=P then F.c (P-s)else 0)) t:=by
 rw[E3];have e1:dS (λi=>U.c i*F.c (P-i)) (P+1)=dS (λs=>U.c s*(if s<=P then F.c (P-s)else 0)) (P+1):=fc λi hi=>by rw[ag<|by lia]
 rw[e1];rcases Nat.le_total (P+1) t with z |z;obtain⟨d,rfl⟩:∃d,t=P+1+d:=⟨t-(P+1),by lia⟩;rw[Dm _ (P+1) d,gU (f:=λi=>U.c (P+1+i)*_) λi _=>by rw[af<|by lia,aO],cn];obtain⟨d,hd⟩:∃d,P+1=t+d:=⟨P+1-t,by lia⟩;rw[hd,Dm _ t d,gU (f:=λi=>U.c (t+i)*_) λi _=>by rw[h (t+i)<|by lia,dL],cn]
def SU(U V:PS)(a b i:Nat):Int:=if i<a then U.c (a-1-i)else V.c<|b-1-(i-a)
def Rg{m n k:Nat}{j:Nat}{U V F G:PS}(km:k<=m)(kn:k<=n)(hU:Yg (n-k) U)(hV:Yg (m-k) V)(hj:j<n-k+(m-k)):dS (λi=>SU U V (n-k) (m-k) i*Ow F G m n k i j) (n-k+(m-k))=(U*F+V*G).c (m+n-k-1-j):=by rw[PS.ZH,FF hU,FF hV,Dm];congr 1;rw[<-HA];refine fc λi hi=>?_;unfold SU Ow Ob;rw[ag<|by lia,ag<|by lia];rw[show n-k-1-(n-k-1-i)=i by lia];by_cases z:i<=m+n-k-1-j;rw[ag z,ag<|by lia,show n-k-1-i+m-j=m+n-k-1-j-i by lia];rw[af z,af<|by lia];rw[<-HA];refine fc λi hi=>?_;unfold SU Ow Ob;rw[af<|by lia,af<|by lia,show n-k+(m-k-1-i)-(n-k)=m-k-1-i by lia,show m-k-1-(m-k-1-i)=i by lia];by_cases z:i<=m+n-k-1-j;rw[ag z,ag<|by lia,show m-k-1-i+n-j=m+n-k-1-j-i by lia];rw[af z,af<|by lia]
end My
namespace My
open PySem PySem.W L2 L2.EV PyProof.Rows
variable {α:Type}
variable {K:gS}
def pv(x:Int)(f:Bd):PS:=⟨λi=>vI x<|f.getD i []⟩
def pI(l:List α)(i:Nat)(d:α):l.getD i d=(l[i]?).getD d:=ac
def Fa(f:Bd)(a m j:Nat)(hj:j<m)(hf:1<=f.length):(j0 f a m).getD j []=if j<=a+(f.length-1)then f.getD (a+(f.length-1)-j) []else []:=by unfold j0;rw[pI,ux,ag hj,iU,aA,bW,cj];by_cases h1:j<a+f.length;rw[ag h1,ag<|by lia,iU,bW];by_cases h2:j<a;rw[ag h2,dD,ag h2,pI,aI<|by lia];rfl;rw[af h2,oV<|by lia,pI,show f.length-1-(j-a)=a+(f.length-1)-j by lia];rw[af h1,af<|by lia,dD];split<;>rfl
def Li(x:Int):vI x []=0:=rfl
def Jf(x:Int)(f:Bd)(a m j:Nat)(hj:j<m)(hf:1<=f.length):vI x ((j0 f a m).getD j [])=Ob (pv x f) (f.length-1) a j:=by rw[Fa f a m j hj hf];unfold Ob pv;split<;>rfl
def Ov{f g:Bd}{i j:Nat}(x:Int)(hf:1<=f.length)(hg:1<=g.length)(hi:i<l7 f g k)(hj:j<l7 f g k):vI x (qH f g k i j)=Ow (pv x f) (pv x g) (f.length-1) (g.length-1) k i j:=by unfold qH lP Ow;unfold l7 at hi hj;rw[pI<|_++_,iU,ab,cY];by_cases h:i<g.length-1-k;rw[ag h,ag h,aw,bv h];exact Jf x f i _ j hj hf;rw[af h,af h,aw,bv<|by lia];exact Jf x g _ _ j hj hg
def Cn{f g:Bd}(x:Int)(k:Nat)(hf:1<=f.length)(hg:1<=g.length):vI x (lE f g k)=det (g.length-1-k+(f.length-1-k)) (Ow (pv x f) (pv x g) (f.length-1) (g.length-1) k):=by rw[Io,show g.length-1-k+(f.length-1-k)=l7 f g k by unfold l7;lia];exact e9 λi j hi hj=>Ov x hf hg hi hj
def pl(l:az):PS:=⟨λi=>l.getD i 0⟩
def uI(g r:az):az:=bR<|gz g (r.length-g.length) (r.getD (r.length-1) 0) (r.map λx=>x*g.getD (g.length-1) 0) g.length
def Cq{g r:az}(hr:g.length<=r.length)(p:Nat):(uI g r).getD p 0=r.getD p 0*g.getD (g.length-1) 0-(if r.length-g.length<=p then r.getD (r.length-1) 0*g.getD (p-(r.length-g.length)) 0 else 0):=by unfold uI;rw[fu,sy _ _ _ _ _ _<|by rw[ab];lia,eZ (φ:=λx=>x*g.getD (g.length-1) 0)<|dL _];by_cases h1:r.length-g.length<=p;rw[ag h1];by_cases h2:p-(r.length-g.length)<g.length;rw[ag ⟨h1,h2⟩];rw[af λz=>h2 z.2,bn (i:=p-(r.length-g.length))<|by lia,aO];rw[af h1,af λz=>h1 z.1]
def sE(h:W2 f)(hn:f≠[]):f.getD (f.length-1) 0≠0:=by rcases h with rfl |⟨ys,a,rfl,ha⟩;exact absurd rfl hn;rwa[pI,aA,dz,jH,aQ<|ao _,eI]
def jO{g r:az}(hg:1<=g.length)(hr:g.length<=r.length):(uI g r).length<r.length:=by
 have h1:(uI g r).length<=r.length:=by refine aL (fK _) ?_;rw[gV,ab];exact ao _
 rcases bA (uI g r).length r.length with z |z;exact z;have e:(uI g r).length=r.length:=by lia
 have ok:W2 (uI g r):=dI _;have:=sE ok (λz=>by rw[z]at e;simp at e;lia);rw[e,Cq hr,ag<|by lia,show r.length-1-(r.length-g.length)=g.length-1 by lia]at this;exact absurd (by lia) this
def Ue(a:Nat)(c:Int):PS:=⟨λi=>if i=a then c else 0⟩
def Pf(a:Nat)(c:Int):YA (Ue a c):=⟨a+1,λi hi=>af<|by lia⟩
def Pe(a:Nat)(c:Int)(G:PS)(P:Nat):(Ue a c*G).c P=if a<=P then c*G.c (P-a)else 0:=by rw[E3];by_cases h:a<=P;rw[ag h,sS (λi _ hi=>by show(if i=a then c else 0)*_=0;rw[af hi,dL])<|by lia];show(if a=a then c else 0)*_=_;rw[ag rfl];rw[af h];exact gU λi hi=>by show(if i=a then c else 0)*_=0;rw[af<|by lia,dL]
def LN{g r:az}(hr:g.length<=r.length):PS.C (g.getD (g.length-1) 0)*pl r=Ue (r.length-g.length) (r.getD (r.length-1) 0)*pl g+pl (uI g r):=PS.ext' λp=>by rw[PS.X7,PS.ZH,Pe];show _*r.getD p 0=(if _ then _*g.getD _ 0 else 0)+(uI g r).getD p 0;rw[Cq hr];grind
def jX(g:az):Nat->az->az|0,r=>r|n+1,r=>if r.length<g.length then r else jX g n<|uI g r
theorem Ew{g:az}(hg:1<=g.length)(h0:g.getD (g.length-1) 0≠0):∀(n:Nat)(r:az),r.length<n->(jX g n r).length<g.length/\∃(e:Int)(q:PS),e≠0/\YA q/\PS.C e*pl r=q*pl g+pl (jX g n r)|0,r,h=>by lia|n+1,r,h=>by unfold jX;by_cases z:r.length<g.length;rw[ag z];exact⟨z,1,0,by decide,YA.zero,by rw[PS.zA6];grind⟩;rw[af z];have hl:=jO hg (r:=r) (by lia);obtain⟨h1,e,q,he,hq,h2⟩:=Ew hg h0 n (uI g r) (by lia);have hs:=LN (g:=g) (r:=r) (by lia);refine⟨h1,e*g.getD (g.length-1) 0,PS.C e*Ue (r.length-g.length) (r.getD (r.length-1) 0)+q,λz=>?_,((YA.C e).mul<|Pf _ _).add hq,?_⟩;rcases eV.mp z with z |z<;>contradiction;rw[PS.Zs];grind
def lH(f g:az):az:=bR<|jX g (f.length+1) f
theorem v5{g:az}(hg:1<=g.length):∀(n:Nat)(r:az),r.length<n->(jX g n r).length<g.length/\(jX g n r).length<=r.length|0,r,h=>by lia|n+1,r,h=>by unfold jX;by_cases z:r.length<g.length;rw[ag z];exact⟨z,ao _⟩;rw[af z];have hl:=jO hg (r:=r) (by lia);have:=v5 hg n (uI g r) (by lia);lia
def BJ{g:az}(hg:1<=g.length):(lH f g).length<g.length:=cb (fK _) (v5 hg _ f<|by lia).1
def IK(f:az):pl (bR f)=pl f:=PS.ext' λi=>fu f i
def Mc{f g:az}(hg:1<=g.length)(h0:g.getD (g.length-1) 0≠0):∃(e:Int)(q:PS),e≠0/\YA q/\PS.C e*pl f=q*pl g+pl (lH f g):=by obtain⟨_,e,q,h1,h2,h3⟩:=Ew hg h0 (f.length+1) f (by lia);exact⟨e,q,h1,h2,by unfold lH;rwa[IK]⟩
def RE{f:az}(hn:f≠[])(h:f.getD (f.length-1) 0≠0):Top (pl f) (f.length-1):=⟨h,λi hi=>by have:=ar.mpr hn;exact bn<|by lia⟩
def BH(rg:W2 g)(hg:g≠[]):bh (lH f g)=bh (fG f g):=by
 have hl:=cz rg hg;obtain⟨e,q,he,hq,h⟩:=Mc (f:=f) (ar.mpr hg)<|sE rg hg;obtain⟨a,ha⟩:=hq;obtain⟨v,rv,ev⟩:=ZK.row ⟨a,ha⟩;have key:=Kn (f:=lH f g) (F:=f.map λx=>e*x) (h:=v) hl λi=>by
  have h1:ps (f.map λx=>e*x)=ps (br g v)+ps (lH f g):=by rw[CD,mO,ev];show PS.C e*pl f=pl g*q+pl (lH f g);rw[h];grind
  have:=iN (bo PS.c h1) i;rw[PS.ZH]at this;have h2:(f.map λx=>e*x).getD i 0=(br g v).getD i 0+(lH f g).getD i 0:=this;lia
 have ro:W2 (lH f g):=dI _;rw[GZ ro<|BJ<|ar.mpr hg]at key;refine jc ro (mM _ _)<|(y8 _ ro).trans ?_;rw[<-key];exact yO (Xy.scale he λi=>by show(f.map λx=>e*x).getD i 0=e*f.getD i 0;rw[eZ<|aO e]) rg rg (Xy.refl _) hl
def E6:Nat->az->az->az|0,f,_=>f|n+1,f,g=>if g=[]then f else E6 n g<|bh<|lH f g
theorem CT:∀(n:Nat)(f f' g g':az),W2 g->W2 g'->Xy (co f) (co f')->Xy (co g) (co g')->Xy (co<|E6 n f g) (co<|fO n f' g')|0,f,f',g,g',_,_,hf,_=>hf|n+1,f,f',g,g',rg,rg',hf,hg=>by have hl:=sA rg rg' hg;rw[E6,fO];by_cases z:g=[];have z':=au (by rw[<-hl,z];rfl);rwa[ag z,ag z'];have z':g'≠[]:=λy=>z<|au (by rw[hl,y];rfl);rw[af z,af z'];refine CT n g g' _ _ (fz<|dI _) (mM _ _) hg ?_;rw[BH rg z];exact(jd<|mM f g).symm.trans<|yO hf rg rg' hg<|cz rg z
theorem Hh:∀(n:Nat)(f g:az),W2 f->f≠[]->W2 g->W2 (E6 n f g)/\E6 n f g≠[]|0,f,g,hf,nf,_=>⟨hf,nf⟩|n+1,f,g,hf,nf,hg=>by rw[E6];split;exact⟨hf,nf⟩;rename_i z;exact Hh n g _ hg z<|fz<|dI _
def qS(g q r:az):az:=(q.map λx=>x*g.getD (g.length-1) 0).set (r.length-g.length)<|(q.map λx=>x*g.getD (g.length-1) 0).getD (r.length-g.length) 0+r.getD (r.length-1) 0
def Mh(g q r:az):(qS g q r).length=q.length:=by unfold qS;rw[bE,ab]
def QJ{g q r:az}(h:r.length-g.length<q.length):pl (qS g q r)=PS.C (g.getD (g.length-1) 0)*pl q+Ue (r.length-g.length) (r.getD (r.length-1) 0):=PS.ext' λp=>by rw[PS.ZH,PS.X7];show(qS g q r).getD p 0=_*q.getD p 0+if p=_ then _ else 0;have m:∀j,(q.map λx=>x*g.getD (g.length-1) 0).getD j 0=q.getD j 0*g.getD (g.length-1) 0:=λj=>eZ (φ:=λx=>x*g.getD (g.length-1) 0) (dL _) q j;unfold qS;rw[ac,oh];by_cases z:r.length-g.length=p;rw[ag z,ag<|by rwa[ab],ag z.symm,<-z];show(q.map λx=>x*g.getD (g.length-1) 0).getD (r.length-g.length) 0+_=_;rw[m,dO];rw[af z,af λy=>z y.symm,<-ac,m,cn,dO]
def qN(g:az):Nat->az->az->az|0,q,_=>q|n+1,q,r=>if r.length<g.length then q else qN g n (qS g q r)<|uI g r
theorem QK{g:az}(hg:1<=g.length)(h0:g.getD (g.length-1) 0≠0):∀(n:Nat)(q r:az),r.length<n->r.length+1-g.length<=q.length->∃e:Int,e≠0/\PS.C e*(pl q*pl g+pl r)=pl (qN g n q r)*pl g+pl (jX g n r)|0,q,r,h,_=>by lia|n+1,q,r,h,hq=>by unfold jX qN;by_cases z:r.length<g.length;rw[ag z,ag z];exact⟨1,by decide,by rw[PS.zA6];grind⟩;rw[af z,af z];have hl:=jO hg (r:=r) (by lia);obtain⟨e,he,h2⟩:=QK hg h0 n (qS g q r) (uI g r) (by lia) (by rw[Mh];lia);have hs:=LN (g:=g) (r:=r) (by lia);have hp:=QJ (g:=g) (q:=q) (r:=r) (by lia);refine⟨e*g.getD (g.length-1) 0,λz=>?_,?_⟩;rcases eV.mp z with z |z<;>contradiction;rw[<-h2,hp,PS.Zs];grind
def yT(f g:az):az:=bR<|qN g (f.length+1) (List.replicate (f.length+1-g.length) 0) f
def Mg{f:az}{c d:Int}(rg:W2 g)(hg:g≠[])(ru:W2 u)(hc:c≠0)(hd:d≠0)(h:PS.C c*pl f=PS.C d*(pl u*pl g)):bh (yT f g)=bh u:=by
 have gp:=ar.mpr hg;obtain⟨e,he,h1⟩:=QK gp (sE rg hg) (f.length+1) (List.replicate (f.length+1-g.length) 0) f (by lia) (by rw[bW];exact ao _);have z0:pl (List.replicate (f.length+1-g.length) 0)=0:=PS.ext' λi=>by show(List.replicate _ (0:Int)).getD i 0=_;rw[Cz];exact(tO i).symm
 have hr:=(v5 gp (f.length+1) f<|by lia).1;generalize jX g (f.length+1) f=R at h1 hr;have eQ:pl (yT f g)=pl (qN g (f.length+1) (List.replicate (f.length+1-g.length) 0) f):=IK _;rw[<-eQ,z0]at h1;have k:PS.C c*pl R=(PS.C (e*d)*pl u-PS.C c*pl (yT f g))*pl g:=by rw[PS.Zs];grind
 have V0:PS.C (e*d)*pl u-PS.C c*pl (yT f g)=0:=by apply bz;intro hv;have fl:∀f:az,YA (pl f):=λf=>⟨f.length,λi hi=>bn hi⟩;obtain⟨v,tv⟩:=YA.top (((YA.C<|e*d).mul<|fl u).sub<|(YA.C c).mul<|fl<|yT f g) hv;have tm:=Top.mul tv<|RE hg<|sE rg hg;rw[<-k]at tm;refine tm.1 ?_;rw[PS.X7];show c*R.getD _ 0=0;rw[bn<|by lia,aO]
 refine jc (dI _) ru<|vY hc (cE he hd) ?_;show PS.C c*pl (yT f g)=PS.C (e*d)*pl u;grind
def NW(f:az):az:=bh<|yT f<|E6 (cV f).length f<|cV f
def NV(rf:W2 f)(hf:f≠[])(h:Xz f u):NW f=u:=by
 have rs:=jo rf;obtain⟨ok,ne,pr,pp⟩:=qK rf hf;obtain⟨rk,hk⟩:=Hh (cV f).length f (cV f) rf hf rs;have sk:=(CT _ f f _ _ rs rs (Xy.refl _)<|Xy.refl _).trans<|jd<|oC rf rs;unfold NW;generalize E6 (cV f).length f (cV f)=k at rk hk sk ⊢;obtain⟨ru,hu,pu,eu⟩:=h;obtain⟨c,hc,ef⟩:=v8 f rf hf;obtain⟨a,b,ha,hb,es⟩:=sk;have e1:PS.C a*pl k=PS.C b*pl (uB f):=PS.ext' λi=>by rw[PS.X7,PS.X7];exact es i
 have e2:pl f=PS.C c*(pl u*pl (uB f)):=by have:=bo ps ef;rw[CD,eu,mO]at this;exact this
 rw[Mg rk hk ru hb (cE hc ha)<|by rw[e2,PS.Zs];grind,pu]
def ku(ds:ck)(d:D):Prop:=∃f:az,(ds=[aD f]\/ds=[bu f])/\W2 f/\f≠[]/\f.length<300/\d=aD (bh f)
def wq:∀ds d,ku ds d->ds.length=1:=by rintro _ _ ⟨_,rfl |rfl,_⟩<;>rfl
def rV(ds:ck)(d:D):Prop:=∃f g:az,ds=[aD f,aD g]/\W2 f/\Ar f g/\d=aD (bh<|lH f g)
def AX:∀ds d,rV ds d->ds.length=2:=by rintro _ _ ⟨_,_,rfl,_⟩;rfl
def nb(ds:ck)(d:D):Prop:=∃f g:az,ds=[aD f,aD g]/\Ar f g/\g.length<=f.length/\yT f g≠[]/\d=aD (bh<|yT f g)
def wr:∀ds d,nb ds d->ds.length=2:=by rintro _ _ ⟨_,_,rfl,_⟩;rfl
def rY(ds:ck)(d:D):Prop:=∃f u:az,ds=[aD f]/\R9 f/\1<f.length/\Xz f u/\d=aD u
def A0:∀ds d,rY ds d->ds.length=1:=by rintro _ _ ⟨_,_,rfl,_⟩;rfl
def MB(h:W2 f)(XB:f≠[]):bh f=f.map λx=>x.fdiv (if ax f<0 then 0-(gl f:Int)else(gl f:Int)):=by
 have hg:=j2 h XB;have hd:∀x∈f,∃k,x=(gl f:Int)*k:=λx hx=>c8.mpr<|C4 hx;have el:ax (ga f)=(ax f).fdiv (gl f:Int):=jL f (λx=>x.fdiv (gl f:Int))<|iZ _;have hl:ax f∈f:=by rcases cq f with e |⟨ys,y,e⟩;exact absurd e XB;rw[cJ]at e;subst e;simp[ax]
 obtain⟨k,hk⟩:=hd _ hl;have ek:ax (ga f)=k:=by rw[el,hk,bZ _<|by lia]
 unfold bh;by_cases q:ax f<0;have:k<0:=by rcases We k 0 with z |z;exact z;have:=iB (show 0<=(gl f:Int)by lia) z;lia
 rw[ag q,ag<|by lia];unfold ga;rw[bp];refine cA λx hx=>?_;obtain⟨j,hj⟩:=hd x hx;show-(x.fdiv (gl f:Int))=x.fdiv (0-(gl f:Int));rw[hj,bZ _<|by lia,show(gl f:Int)*j=(0-(gl f:Int))*(-j)by grind,bZ _<|by lia];have:¬k<0:=λz=>by have:=Int.mul_neg_of_pos_of_neg (show 0<(gl f:Int)by lia) z;lia
 rw[af q,af<|by lia];rfl
def LO{g r:az}(hr:g.length<=r.length)(hb:BB b g)(he:BB e r):BB (e+(b+1)) (uI g r):=BB.of_get λp=>by
 rw[Cq hr];have h1:=fY (he.get p)<|hb.get<|g.length-1;have h2:=fY (he.get<|r.length-1)<|hb.get<|p-(r.length-g.length);have h3:2 ^ (e+(b+1))=2 ^ (e+b)+2 ^ (e+b):=by rw[<-Gx,iO];lia
 rw[h3];split;lia;lia
theorem yP{g:az}(hg:1<=g.length):∀(n m:Nat)(r:az),r.length<n->r.length<m->jX g n r=jX g m r
 |0,m,r,h,_=>by lia|n+1,0,r,_,h=>by lia
 |n+1,m+1,r,h1,h2=>by unfold jX;by_cases z:r.length<g.length;rw[ag z,ag z];rw[af z,af z];have hl:=jO hg (r:=r) (by lia);exact yP hg n m (uI g r) (by lia)<|by lia
section
variable {X:Cx}
def Ak(h:fA P w K mg base k mY jU X)(Xa:mg "tuple"=none)(YB:mg "abs"=none)(W7:mg "len"=none):Go X mY jU ku:=by
 rintro ds d ⟨f,e,ok,XB,lf,rfl⟩;have t:=h.at';haveI:=h.XM;have b1:=h.bt YB;have b2:=h.bt Xa;have b3:=h.bt W7;have hg:=j2 ok XB;have hp:=ar.mpr XB;obtain⟨dd,k0,rfl,hi,hq⟩:∃(dd:D)(k0:Bool),ds=[dd]/\(∀{U:dP}{tg:Expr}{p:Pos},U[0]?=some (.val dd)->X5 X U tg (.Name "_law_row" p) (f.map D.int))/\∀{U:dP}{p:Pos},U[0]?=some (.val dd)->Yj X U (.Name "_law_row" p) k0 (f.map D.int):=by rcases e with rfl |rfl;exact⟨_,_,rfl,λr=>j8<|aa t 0 r,λr=>W0.qt<|aa t 0 r⟩;exact⟨_,_,rfl,λr=>gN<|aa t 0 r,λr=>W0.ql<|aa t 0 r⟩
 refine ay (df t 1 ak) ?_;refine ay (ρ':=[.val dd,.val<|.int (gl f:Int),.un,.un,.un]) (gY t (hi rfl)<|Xc.Xl (λi=>[.val dd,.val<|.int (gl (f.take i):Int),.un,.un,.un]) (λj d hj=>?_) rfl ?_) ?_;rw[aw]at hj;cases e:f[j]? with
 |none=>rw[e]at hj;cases hj
 |some x=>rw[e]at hj;cases hj;refine⟨_,c9 t 2,W4.weak (ay (qR t 3 4 (ub t b1<|aa t 2) (aa t 1)<|by decide)<|ay (iu t<|zu (λa b=>[.val dd,.val<|.int (gl (f.take j):Int),.val<|.int x,.val<|.int a,.val<|.int b]) (λa b=>?_) (λa b hb=>?_) _ x.natAbs (gl<|f.take j)<|ao _)<|aM<|df t 1<|aa t 3) ?_⟩;refine W5.eq (lY (aa t 4) ak) ?_;by_cases hb:0<b;rw[aq hb];exact aq (by lia);rw[aj hb];exact aj (by lia);exact aM<|qR t 3 4 (aa t 4) (W0.eq (bU (aa t 3) (aa t 4)<|by lia) rfl) (by decide);rw[jI e,xS,La];exact .keep<|.keep<|.forget<|.forget<|.forget .nil
 rw[ab,fJ];have e1:(((f.map D.int).length:Nat):Int)-1=((f.length-1:Nat):Int):=by rw[ab];lia
 have lst:=(dy XB).symm;refine ay (ρ':=[.val dd,.val<|.int (if ax f<0 then 0-(gl f:Int)else(gl f:Int)),.un,.un,.un]) ?_ ?_;by_cases q:ax f<0;rw[ag q];exact fF (W5.eq (rj (bM (hq rfl) (W0.eq (cu (bX t b3<|hq rfl) ak)<|bo D.int e1)<|dY<|by lia) ak)<|aq<|by rwa[<-lst])<|aM<|df t 1<|cu ak<|aa t 1;rw[af q];exact fx (W5.eq (rj (bM (hq rfl) (W0.eq (cu (bX t b3<|hq rfl) ak)<|bo D.int e1)<|dY<|by lia) ak)<|aj<|by rwa[<-lst]) dM;rw[MB ok XB];have h0:(if ax f<0 then 0-(gl f:Int)else(gl f:Int))≠0:=by split<;>lia
 generalize(if ax f<0 then 0-(gl f:Int)else(gl f:Int))=c at h0;refine aM<|cp<|gG t b2<|Xe.toQ (dR t ["_law_row","_law_shared","","_law_high","_law_low","_law_one"] (oU rfl) (hi rfl) (by rw[ab];exact gR<|by lia) λX' cx=>?_);have t':=cx.at';exact W9.ints (λx=>x.fdiv c) (λx=>[.val dd,.val<|.int c,.un,.un,.un,.val<|.int x]) (λd hd=>aU t' 5) (λd hd e he=>aU t' 5) λd hd=>zw t' (aa t' 5 rfl) (aa t' 1 rfl) h0
def FU(h:fA P w K mg base k rL nI X)(Xu:mg "list"=none)(W7:mg "len"=none)(W6:mg "range"=none)(cL:Callee X "_law_low_row" ku)(cT:Callee X "_law_trim" io):Go X rL nI rV:=by
 rintro ds d ⟨f,g,rfl,rf,⟨lf,lg,zAX,a0,b,bf,bg,hbd⟩,rfl⟩;have t:=h.at';haveI:=h.XM;have hg:=ar.mpr<|j1 zAX;have b1:=h.bt W6;have b2:=h.bt W7;have b3:=h.bt Xu;refine ay (iy t 2<|lz t b3<|W0.qt<|aa t 0) ?_;refine mF t (λr=>[.val<|aD f,.val<|aD g,.own<|r.map D.int,.un,.un,.un,.un]) (λr=>W2 r/\r.length<=f.length/\jX g (r.length+1) r=jX g (f.length+1) f/\∃e,BB e r/\e+(r.length+1-g.length)*(2*b+1)+b<=1000000) (λr=>W2 r/\r.length<g.length/\r=jX g (f.length+1) f) (λr=>r.length) f ⟨rf,ao _,rfl,a0,bf,hbd⟩ (λr hr=>?_) λr hr=>?_;obtain⟨h0,h1,h2,e,he,hbe⟩:=hr;by_cases z:r.length<g.length;left;refine⟨W5.eq (xg (bX t b2<|dw t 2 rfl)<|bX t b2<|W0.qt<|aa t 1)<|aj<|by rw[ab,ab];lia,h0,z,?_⟩;rw[<-h2];unfold jX;rw[ag z];right;refine⟨W5.eq (xg (bX t b2<|dw t 2 rfl)<|bX t b2<|W0.qt<|aa t 1)<|aq<|by rw[ab,ab];lia,.inr ⟨uI g r,?_,⟨dI _,?_,?_⟩,?_⟩⟩;have e1:(((r.map D.int).length:Nat):Int)-1=((r.length-1:Nat):Int):=by rw[ab];lia
 have e2:(((g.map D.int).length:Nat):Int)-1=((g.length-1:Nat):Int):=by rw[ab];lia
 have e3:(((r.map D.int).length:Nat):Int)-(((g.map D.int).length:Nat):Int)=((r.length-g.length:Nat):Int):=by rw[ab,ab];lia
 have hfi:=he.get<|r.length-1;have how:=bg.get<|g.length-1;have zG7:(gz g (r.length-g.length) (r.getD (r.length-1) 0) (r.map λx=>x*g.getD (g.length-1) 0) g.length).length=r.length:=by rw[gV,ab]
 have hst:uI g r=bR (gz g (r.length-g.length) (r.getD (r.length-1) 0) (r.map λx=>x*g.getD (g.length-1) 0) g.length):=rfl;rw[hst];have v1:=dY (xs:=r) (n:=r.length-1) (by lia);have v2:=dY (xs:=g) (n:=g.length-1) (by lia);have m1:∀{x y:Int},x.natAbs<2 ^ e->y.natAbs<2 ^ b->IntMulOk x y:=λhx hy=>mE (k:=max e b) (by lia) (aR hx<|ba (by decide)<|by lia)<|aR hy<|ba (by decide) (by lia);generalize r.getD (r.length-1) 0=fi at*;generalize g.getD (g.length-1) 0=ow at*;generalize hsh:r.length-g.length=s0 at*;refine W4.weak (W1:=[.val<|aD f,.val<|aD g,.own<|(bR<|gz g s0 fi (r.map λx=>x*ow) g.length).map D.int,.val<|.int fi,.val<|.int ow,.val<|.int (s0:Int),.un]) ?_<|.keep<|.keep<|.keep<|.forget<|.forget<|.forget<|.keep .nil;refine ay (nG t (bH<|ai (bM (dw t 2 rfl) (W0.eq (cu (bX t b2<|dw t 2 rfl) ak)<|bo D.int e1) v1)<|ai (bM (W0.qt<|aa t 1) (W0.eq (cu (bX t b2<|W0.qt<|aa t 1) ak)<|bo D.int e2) v2) av)<|mv t 3 4) ?_;refine ay (df t 5<|W0.eq (cu (bX t b2<|dw t 2 rfl)<|bX t b2<|W0.qt<|aa t 1)<|bo D.int e3) ?_;refine eL 2 rfl ?_;refine ay (jJ (rs:=(r.map λx=>x*ow).map D.int) t 2 ["_law_f","_law_g","_law_rest_here","_law_first","_law_own","_law_far","_law_k","_law_one"] (oU rfl) (gN<|aa t 2) (by rw[ab,gq];lia) λX' cx=>?_) ?_;have t':=cx.at';exact W9.ints (λx=>x*ow) (λx=>[.val<|aD f,.val<|aD g,.val<|bu r,.val<|.int fi,.val<|.int ow,.val<|.int s0,.un,.val<|.int x]) (λd hd=>aU t' 7) (λd hd e he=>aU t' 7) λd hd=>eh (aa t' 7 rfl) (aa t' 4 rfl)<|m1 (he _ hd) how;refine ay (ρ':=[.val<|aD f,.val<|aD g,.own<|(gz g s0 fi (r.map λx=>x*ow) g.length).map D.int,.val<|.int fi,.val<|.int ow,.val<|.int (s0:Int),.un]) (gY t (eD t b1 (bX t b2<|W0.qt<|aa t 1) (by lia)<|by rw[ab];lia)<|Xc.Xl (λi=>[.val<|aD f,.val<|aD g,.own<|(gz g s0 fi (r.map λx=>x*ow) i).map D.int,.val<|.int fi,.val<|.int ow,.val<|.int s0,.un]) (λi d hi=>?_) rfl ?_) ?_;obtain⟨YR,rfl⟩:=gC hi;have hlen:(gz g s0 fi (r.map λx=>x*ow) i).length=r.length:=by rw[gV,ab]
 have e1:(s0+i)=((s0+i:Nat):Int):=by lia
 refine⟨_,c9 t 6,W4.weak (aM<|nG t (cu (i:=(gz g s0 fi (r.map λx=>x*ow) i).getD (s0+i) 0) (bM (dw t 2 rfl) (dj (aa t 5)<|aa t 6) ?_)<|eh (aa t 3) (bM (W0.qt<|aa t 1) (aa t 6)<|dY<|by lia)<|m1 hfi<|bg.get i)<|sQ (j:=s0+i) t 2 rfl (dj (aa t 5)<|aa t 6) ?_) ?_⟩;rw[e1];exact dY (by lia);rw[ab];exact nQ (by lia) (by lia) (by lia);rw[gz,iS];exact .keep<|.keep<|.keep<|.keep<|.keep<|.keep<|.forget .nil;have e:(cH 0 (((g.map D.int).length:Nat):Int).toNat).length=g.length:=by simp[cH]
 rw[e];refine eL 2 rfl<|aM<|iy t 2<|lz t b3<|W0.qt<|aX t cT (ai (aa t 2) av) ⟨_,rfl,by lia,rfl⟩;have hl:=jO hg (r:=r) (by lia);lia;have hl:=jO hg (r:=r) (by lia);refine⟨?_,e+(b+1),LO (by lia) bg he,?_⟩;rw[<-h2,yP hg ((uI g r).length+1) r.length (uI g r) (by lia)<|by lia,jX,af z];have:=bF (2*b+1) (show(uI g r).length+1-g.length+1<=r.length+1-g.length by lia);rw[ig]at this;lia;exact jO hg (by lia);obtain⟨h0,h1,h2⟩:=hr;have e0:lH f g=r:=by unfold lH;rw[<-h2,mz h0]
 rw[e0];refine eL 2 rfl ?_;by_cases z:r=[];exact ff<|fF (jA t (W0.p (d:=bu r)<|aa t 2) (W0.p<|Xe.Xk<|fg av) (fq r) (fq [])<|by have:=sL r [];rw[aq z]at this;exact this)<|aM<|cp<|W0.eq (bH av) (by rw[z];rfl);refine ay (fx (jA t (W0.p (d:=bu r)<|aa t 2) (W0.p<|Xe.Xk<|fg av) (fq r) (fq [])<|by have:=sL r [];rw[aj z]at this;exact this) dM) ?_;exact aM<|cp<|aX t cL (ai (aa t 2) av) ⟨r,.inr rfl,h0,z,by lia,rfl⟩
end
def T2{g q r:az}(h:r.length-g.length<q.length)(hb:BB b g)(he:BB e r)(hq:BB e q):BB (e+(b+1)) (qS g q r):=BB.of_get λp=>by
 have k:=iN (bo PS.c<|QJ h) p;rw[PS.ZH,PS.X7]at k;have k:(qS g q r).getD p 0=g.getD (g.length-1) 0*q.getD p 0+if p=r.length-g.length then r.getD (r.length-1) 0 else 0:=k;rw[k];have h1:=fY (hb.get<|g.length-1)<|hq.get p;rw[lO b e]at h1;have h2:(if p=r.length-g.length then r.getD (r.length-1) 0 else 0).natAbs<2 ^ (e+b):=by split;exact aR (he.get _)<|ba (by decide) (by lia);exact ni<|by decide
 have h3:2 ^ (e+(b+1))=2 ^ (e+b)+2 ^ (e+b):=by rw[<-Gx,iO];lia
 lia
theorem IF{g:az}(hg:1<=g.length):∀(n m:Nat)(q r:az),r.length<n->r.length<m->qN g n q r=qN g m q r
 |0,m,q,r,h,_=>by lia|n+1,0,q,r,_,h=>by lia
 |n+1,m+1,q,r,h1,h2=>by unfold qN;by_cases z:r.length<g.length;rw[ag z,ag z];rw[af z,af z];have hl:=jO hg (r:=r) (by lia);exact IF hg n m _ (uI g r) (by lia)<|by lia
section
variable {X:Cx}
def Al(h:fA P w K mg base k mZ jV X)(Xu:mg "list"=none)(W7:mg "len"=none)(W6:mg "range"=none)(cL:Callee X "_law_low_row" ku)(cT:Callee X "_law_trim" io):Go X mZ jV nb:=by
 rintro ds d ⟨f,g,rfl,⟨lf,lg,zAX,a0,b,bf,bg,hbd⟩,lgf,hq0,rfl⟩;have t:=h.at';haveI:=h.XM;have hg:=ar.mpr<|j1 zAX;have b1:=h.bt W6;have b2:=h.bt W7;have b3:=h.bt Xu;refine ay (iy t 2<|lz t b3<|W0.qt<|aa t 0) ?_;refine ay (iy t 3<|Xe.eq (Dc (n:=((f.length+1-g.length:Nat):Int)) (Xe.Xk<|fg<|ai ak av) (W0.eq (dj (cu (bX t b2<|W0.qt<|aa t 0)<|bX t b2<|W0.qt<|aa t 1) ak)<|bo D.int<|by rw[ab,ab];lia) (by lia) (by lia)<|by have:=gq;simp;lia)<|by rw[bQ,EA]) ?_;refine mF t (λz=>[.val<|aD f,.val<|aD g,.own<|z.1.map D.int,.own<|z.2.map D.int,.un,.un,.un,.un]) (λz=>z.1.length<=f.length/\z.2.length=f.length+1-g.length/\qN g (z.1.length+1) z.2 z.1=qN g (f.length+1) (List.replicate (f.length+1-g.length) 0) f/\∃e,BB e z.1/\BB e z.2/\e+(z.1.length+1-g.length)*(2*b+1)+b<=1000000) (λz=>z.2.length=f.length+1-g.length/\z.2=qN g (f.length+1) (List.replicate (f.length+1-g.length) 0) f) (λz=>z.1.length) (f,List.replicate (f.length+1-g.length) 0) ⟨ao _,bW,rfl,a0,bf,BB.of_get λp=>by rw[Cz];exact ni<|by decide,hbd⟩ (λz hz=>?_) λz hz=>?_;obtain⟨r,q⟩:=z;obtain⟨h1,hql,h2,e,he,heq,hbe⟩:=hz;dsimp only at h1 hql h2 he heq hbe ⊢;by_cases z:r.length<g.length;left;refine⟨W5.eq (xg (bX t b2<|dw t 2 rfl)<|bX t b2<|W0.qt<|aa t 1)<|aj<|by rw[ab,ab];lia,hql,?_⟩;rw[<-h2];unfold qN;rw[ag z];right;refine⟨W5.eq (xg (bX t b2<|dw t 2 rfl)<|bX t b2<|W0.qt<|aa t 1)<|aq<|by rw[ab,ab];lia,.inr ⟨(uI g r,qS g q r),?_,⟨?_,by rwa[Mh],?_⟩,?_⟩⟩;have e1:(((r.map D.int).length:Nat):Int)-1=((r.length-1:Nat):Int):=by rw[ab];lia
 have e2:(((g.map D.int).length:Nat):Int)-1=((g.length-1:Nat):Int):=by rw[ab];lia
 have e3:(((r.map D.int).length:Nat):Int)-(((g.map D.int).length:Nat):Int)=((r.length-g.length:Nat):Int):=by rw[ab,ab];lia
 have hfi:=he.get<|r.length-1;have how:=bg.get<|g.length-1;have zG7:(gz g (r.length-g.length) (r.getD (r.length-1) 0) (r.map λx=>x*g.getD (g.length-1) 0) g.length).length=r.length:=by rw[gV,ab]
 have hst:uI g r=bR (gz g (r.length-g.length) (r.getD (r.length-1) 0) (r.map λx=>x*g.getD (g.length-1) 0) g.length):=rfl;have hsq:qS g q r=(q.map λx=>x*g.getD (g.length-1) 0).set (r.length-g.length) ((q.map λx=>x*g.getD (g.length-1) 0).getD (r.length-g.length) 0+r.getD (r.length-1) 0):=rfl;rw[hst,hsq];have v1:=dY (xs:=r) (n:=r.length-1) (by lia);have v2:=dY (xs:=g) (n:=g.length-1) (by lia);have m1:∀{x y:Int},x.natAbs<2 ^ e->y.natAbs<2 ^ b->IntMulOk x y:=λhx hy=>mE (k:=max e b) (by lia) (aR hx<|ba (by decide)<|by lia)<|aR hy<|ba (by decide) (by lia);generalize r.getD (r.length-1) 0=fi at*;generalize g.getD (g.length-1) 0=ow at*;generalize hsh:r.length-g.length=s0 at*;have sq:s0<(q.map λx=>x*ow).length:=by rw[ab];lia
 refine W4.weak (W1:=[.val<|aD f,.val<|aD g,.own<|(bR<|gz g s0 fi (r.map λx=>x*ow) g.length).map D.int,.own<|((q.map λx=>x*ow).set s0<|(q.map λx=>x*ow).getD s0 0+fi).map D.int,.val<|.int (s0:Int),.val<|.int fi,.val<|.int ow,.un]) ?_<|.keep<|.keep<|.keep<|.keep<|.forget<|.forget<|.forget<|.keep .nil;refine ay (df t 4<|W0.eq (cu (bX t b2<|dw t 2 rfl)<|bX t b2<|W0.qt<|aa t 1)<|bo D.int e3) ?_;refine ay (nG t (bH<|ai (bM (dw t 2 rfl) (W0.eq (cu (bX t b2<|dw t 2 rfl) ak)<|bo D.int e1) v1)<|ai (bM (W0.qt<|aa t 1) (W0.eq (cu (bX t b2<|W0.qt<|aa t 1) ak)<|bo D.int e2) v2) av)<|mv t 5 6) ?_;refine eL 2 rfl ?_;refine ay (jJ (rs:=(r.map λx=>x*ow).map D.int) t 2 ["_law_f","_law_g","_law_rest_here","_law_found","_law_far","_law_first","_law_own","_law_k","_law_one"] (oU rfl) (gN<|aa t 2) (by rw[ab,gq];lia) λX' cx=>?_) ?_;have t':=cx.at';exact W9.ints (λx=>x*ow) (λx=>[.val<|aD f,.val<|aD g,.val<|bu r,.own<|q.map D.int,.val<|.int s0,.val<|.int fi,.val<|.int ow,.un,.val<|.int x]) (λd hd=>aU t' 8) (λd hd e he=>aU t' 8) λd hd=>eh (aa t' 8 rfl) (aa t' 6 rfl)<|m1 (he _ hd) how;refine eL 3 rfl ?_;refine ay (jJ (rs:=(q.map λx=>x*ow).map D.int) t 3 ["_law_f","_law_g","_law_rest_here","_law_found","_law_far","_law_first","_law_own","_law_k","_law_one"] (oU rfl) (gN<|aa t 3) (by rw[ab,gq];lia) λX' cx=>?_) ?_;have t':=cx.at';exact W9.ints (λx=>x*ow) (λx=>[.val<|aD f,.val<|aD g,.own<|(r.map λx=>x*ow).map D.int,.val<|bu q,.val<|.int s0,.val<|.int fi,.val<|.int ow,.un,.val<|.int x]) (λd hd=>aU t' 8) (λd hd e he=>aU t' 8) λd hd=>eh (aa t' 8 rfl) (aa t' 6 rfl)<|m1 (heq _ hd) how;refine ay (nG t (dj (bM (dw t 3 rfl) (aa t 4)<|dY sq)<|aa t 5)<|sQ t 3 rfl (aa t 4)<|by rw[ab];exact nQ (by lia) (by lia) sq) ?_;rw[show(((q.map λx=>x*ow).map D.int).set s0<|D.int<|(q.map λx=>x*ow).getD s0 0+fi)=((q.map λx=>x*ow).set s0<|(q.map λx=>x*ow).getD s0 0+fi).map D.int from iS.symm];generalize(q.map λx=>x*ow).set s0 ((q.map λx=>x*ow).getD s0 0+fi)=qq;refine ay (ρ':=[.val<|aD f,.val<|aD g,.own<|(gz g s0 fi (r.map λx=>x*ow) g.length).map D.int,.own<|qq.map D.int,.val<|.int (s0:Int),.val<|.int fi,.val<|.int ow,.un]) (gY t (eD t b1 (bX t b2<|W0.qt<|aa t 1) (by lia)<|by rw[ab];lia)<|Xc.Xl (λi=>[.val<|aD f,.val<|aD g,.own<|(gz g s0 fi (r.map λx=>x*ow) i).map D.int,.own<|qq.map D.int,.val<|.int s0,.val<|.int fi,.val<|.int ow,.un]) (λi d hi=>?_) rfl ?_) ?_;obtain⟨YR,rfl⟩:=gC hi;have hlen:(gz g s0 fi (r.map λx=>x*ow) i).length=r.length:=by rw[gV,ab]
 have e1:(s0+i)=((s0+i:Nat):Int):=by lia
 refine⟨_,c9 t 7,W4.weak (aM<|nG t (cu (i:=(gz g s0 fi (r.map λx=>x*ow) i).getD (s0+i) 0) (bM (dw t 2 rfl) (dj (aa t 4)<|aa t 7) ?_)<|eh (aa t 5) (bM (W0.qt<|aa t 1) (aa t 7)<|dY<|by lia)<|m1 hfi<|bg.get i)<|sQ (j:=s0+i) t 2 rfl (dj (aa t 4)<|aa t 7) ?_) ?_⟩;rw[e1];exact dY (by lia);rw[ab];exact nQ (by lia) (by lia) (by lia);rw[gz,iS];exact .keep<|.keep<|.keep<|.keep<|.keep<|.keep<|.keep<|.forget .nil;have e:(cH 0 (((g.map D.int).length:Nat):Int).toNat).length=g.length:=by simp[cH]
 rw[e];refine eL 2 rfl<|aM<|iy t 2<|lz t b3<|W0.qt<|aX t cT (ai (aa t 2) av) ⟨_,rfl,by lia,rfl⟩;have hl:=jO hg (r:=r) (by lia);show(uI g r).length<=_;lia;have hl:=jO hg (r:=r) (by lia);refine⟨?_,e+(b+1),LO (by lia) bg he,T2 (by lia) bg he heq,?_⟩;rw[<-h2];rw[IF hg ((uI g r).length+1) r.length _ (uI g r) (by lia)<|by lia]
 conv=>rhs;unfold qN
 rw[af z];have:=bF (2*b+1) (show(uI g r).length+1-g.length+1<=r.length+1-g.length by lia);rw[ig]at this;show e+(b+1)+((uI g r).length+1-g.length)*(2*b+1)+b<=1000000;lia;exact jO hg (by lia);obtain⟨r,q⟩:=z;obtain⟨h1,h2⟩:=hz;dsimp only at h1 h2;have e0:yT f g=bR q:=by unfold yT;rw[h2]
 rw[e0]at hq0 ⊢;have tl:=fK q;exact eL 3 rfl<|aM<|cp<|aX t cL (ai (aX t cT (ai (aa t 3) av) ⟨q,rfl,by lia,rfl⟩) av) ⟨bR q,.inl rfl,dI _,hq0,by lia,rfl⟩
end
def YZ.zD0(h:YZ f g)(hg:g≠[]):YZ g (bh<|lH f g):=by rw[BH h.2.1 hg];obtain⟨rf,rg,lf,A,B,hA,hB,hc⟩:=h.next hg;exact⟨rf,fz rg,lf,A,B,hA,lI hB,by rwa[eG]⟩
def Ke{g:az}(hg:g≠[]):(bh<|lH f g).length<g.length:=by rw[eG];exact BJ<|ar.mpr hg
theorem IZ{X:Cx}(R:az->az->dP)(h1:∀f g,W5 X (R f g) c (!decide (g=[])))(h2:∀f g,g≠[]->YZ f g->W4 X (R f g) body (.nx<|R g<|bh<|lH f g)):∀(n:Nat)(f g:az),g.length<=n->YZ f g->∃m,XD X c body m (R f g) (.nx<|R (E6 n f g) [])|0,f,g,hn,hi=>by have:g=[]:=au (by lia);subst this;exact⟨0,.stop<|W5.eq (h1 f []) rfl⟩|n+1,f,g,hn,hi=>by rw[E6];by_cases hg:g=[];rw[ag hg];subst hg;exact⟨0,.stop<|W5.eq (h1 f []) rfl⟩;rw[af hg];have hr:=Ke (f:=f) hg;obtain⟨m,w⟩:=IZ R h1 h2 n g _ (by lia)<|hi.zD0 hg;exact⟨m+1,.step (W5.eq (h1 f g)<|by rw[aj hg];rfl) (h2 f g hg hi) w⟩
theorem I0:∀(n:Nat)(f g:az),E6 n f g=f\/E6 n f g=g\/bh (E6 n f g)=E6 n f g|0,f,g=>.inl rfl|n+1,f,g=>by rw[E6];split;exact .inl rfl;rcases I0 n g (bh<|lH f g)with z |z |z;exact .inr<|.inl z;rw[z];exact .inr<|.inr<|jK<|dI _;exact .inr<|.inr z
def NU(rf:W2 f)(hf:f≠[])(h:Xz f u):f.length+1=u.length+(uB f).length:=by let⟨ok,ne,pr,pp⟩:=qK rf hf;have:=(i6 h.1 ok h.2.1 ne).1;rw[<-h.2.2.2,eG]at this;have:=ar.mpr h.2.1;have:=ar.mpr ne;lia
def LV(h:R9 f)(l1:1<f.length):(uB f).length<f.length:=by
 have ns:cV f≠[]:=λz=>by have:=mD f;rw[z]at this;simp at this;lia
 have e:(uB f).length=(sh f<|cV f).length:=eG _;rw[e,nv ns];have key:∀n(f g:az),(fO n f g).length<=max f.length g.length:=by intro n;induction n with|zero=>intro f g;exact Nat.le_max_left _ _|succ n ih=>intro f g;rw[fO];split;exact Nat.le_max_left _ _;rename_i z;have:=jq (f:=f) z;have:=ih g<|fG f g;lia
 have k:=key (fG f<|cV f).length (cV f)<|fG f<|cV f;have:=jq (f:=f) ns;have:=mD f;show(fO _ (cV f) _).length<_;lia
def Ce(hf:R9 f)(h:Xz f u):1<u.length↔1<f.length:=by have e:=NU hf.ok hf.ne h;have hs:=hf.shb.2.1;constructor;intro z;lia;intro z;have:=LV hf z;lia
section
variable {X:Cx}
def FW(h:fA P w K mg base k rO nL X)(W6:mg "range"=none)(W7:mg "len"=none)(cD:Callee X "_law_divided" nb)(cT:Callee X "_law_trim" io)(cR:Callee X "_law_rest" rV):Go X rO nL rY:=by
 rintro ds d ⟨f,u,rfl,hf,l1,hb,rfl⟩;have t:=h.at';haveI:=h.XM;have b2:=h.bt W6;have b3:=h.bt W7;have lf:=hf.len;have rs:=jo hf.ok;have ns:cV f≠[]:=λz=>by have:=mD f;rw[z]at this;simp at this;lia
 refine ay (qR t 1 2 (aa t 0) (aX t cT (ai (d:=bu<|cV f) (W0.eq (Xe.Xk (dR (rs:=(List.range<|f.length-1).map λ(i:Nat)=>D.int<|(1+(i:Int))*f.getD (1+i) 0) t ["_law_row","_law_f","_law_g","_law_k"] (oU rfl) (X5.eq (oQ t b2 ak (bX t b3<|W0.qt<|aa t 0)<|by rw[ab];lia) (show _=cH 1 (f.length-1)by rw[ab];congr 1;lia)) (by simp[cH];exact gR<|by lia) λX' cx=>?_))<|by show D.lst _=D.lst _;unfold cV;rw[bp];rfl) av) ⟨cV f,rfl,by rw[mD];lia,by rw[mz rs]⟩)<|by decide) ?_;exact W9.gen (λ(i:Nat)=>D.int<|1+i) _ (λi=>[.val<|aD f,.un,.un,.val<|.int<|1+i]) _ _ (λx hx=>aU cx.at' 3) (λx hx y hy=>aU cx.at' 3) λx hx=>by have Yw:=aY.mp hx;exact eh (aa cx.at' 3 rfl) (bM (W0.qt<|aa cx.at' 0 rfl) (aa cx.at' 3 rfl)<|by rw[show(1+x)=((1+x:Nat):Int)by lia];exact dY<|by lia)<|gD (by lia)<|by lia
 refine ay (iu t<|IZ (λp q=>[.val<|aD f,.val<|aD p,.val<|aD q]) (λp q=>?_) (λp q hq hi=>?_) (cV f).length f (cV f) (ao _) hf.sin) ?_;exact kM t (W0.p<|aa t 2) (W0.p (d:=aD [])<|bH av) (bJ _) (bJ _) (by rw[gH]);exact aM<|qR t 1 2 (aa t 2) (aX t cR (ai (aa t 1)<|ai (aa t 2) av) ⟨p,q,rfl,hi.1,hi.div hq,rfl⟩) (by decide);have e:=NV hf.ok hf.ne hb;unfold NW at e;let⟨rk,nk⟩:=Hh (cV f).length f (cV f) hf.ok hf.ne rs;have sk:=(CT _ f f _ _ rs rs (Xy.refl _)<|Xy.refl _).trans<|jd<|oC hf.ok rs;let⟨ok,ne,pr,pp⟩:=qK hf.ok hf.ne;have kl:=sA rk ok sk;have sl:=LV hf l1;have dv:Ar f (E6 (cV f).length f<|cV f):=by rcases I0 (cV f).length f (cV f)with z |z |z;rw[z]at kl;lia;rw[z];exact hf.sin.div ns;rw[<-z,jc rk ok sk,pp];exact hf.div
 generalize E6 (cV f).length f (cV f)=kk at e dv kl;refine aM<|cp<|aX t cD (ai (aa t 0)<|ai (aa t 1) av) ⟨f,kk,rfl,dv,by lia,λz=>?_,by rw[e]⟩;rw[z]at e;exact hb.2.1 e.symm
end
def Bw(f:Bd):Bd:=(List.range<|f.length-1).map λ(i:Nat)=>(f.getD (1+i) []).map λx=>(1+(i:Int))*x
def oW(f:Bd):(Bw f).length=f.length-1:=by unfold Bw;simp
def Kk{c:Int}(hc:c≠0)(h:W2 r):br [c] r=r.map λx=>c*x:=G6 (dI _) (l8 h hc)<|by rw[mO,CD,OV,Mq];grind
def Yn(f:Bd):Prop:=∀r∈f,W2 r
def Yn.get(h:Yn f)(i:Nat):W2 (f.getD i []):=by rcases Fk i with e |e;rw[e];exact .inl rfl;exact h _ e
def Ro(h:Yn f):Yn (Bw f):=λr hr=>by obtain⟨i,_,rfl⟩:=aZ.mp hr;exact l8 (h.get _)<|by lia
def FT(f g:Bd)(r:az):Prop:=∃k,(∀j,j<k->lE f g j=[])/\lE f g k≠[]/\k<f.length/\k<g.length/\r=lE f g k
def FT.uniq(h:FT f g r)(h':FT f g s):r=s:=by obtain⟨k,a1,a2,_,_,rfl⟩:=h;obtain⟨j,b1,b2,_,_,rfl⟩:=h';rcases fT k j with z |z |z;exact absurd (b1 k z) a2;rw[z];exact absurd (a1 j z) b2
def lM(ds:ck)(d:D):Prop:=∃(f g:Bd)(r:az),ds=[aV f,aV g]/\TB f/\TB g/\FT f g r/\d=aD r
def tI:∀ds d,lM ds d->ds.length=2:=by rintro _ _ ⟨_,_,_,rfl,_⟩;rfl
def kS:=lM
def t5:∀ds d,kS ds d->ds.length=2:=tI
def pZ(ds:ck)(d:D):Prop:=∃f:Bd,ds=[aV f]/\Yn f/\TB f/\d=aV (Bw f)
def vm:∀ds d,pZ ds d->ds.length=1:=by rintro _ _ ⟨_,rfl,_⟩;rfl
def qb:=pZ
def ze:∀ds d,qb ds d->ds.length=1:=vm
def iE(f:Bd):az:=f.getD (f.length-1) []
def RO(f:Bd)(rs:Bd):Prop:=(f=[]/\rs=[])\/(f≠[]/\f.length<=2/\rs=[iE f])\/(2<f.length/\TB (Bw f)/\∃r,FT f (Bw f) r/\rs=[iE f,r])
def nZ(ds:ck)(d:D):Prop:=∃f rs:Bd,ds=[aV f]/\Yn f/\TB f/\RO f rs/\d=gZ rs
def xn:∀ds d,nZ ds d->ds.length=1:=by rintro _ _ ⟨_,_,rfl,_⟩;rfl
def VR{f:Bd}{n:Nat}(h:n<f.length)(h':f.length<1000):s9 (f.map aD) (n:Int)=some (aD<|f.getD n []):=by rw[wC (by lia) (by lia) h,ac,am h];rfl
def FY{f:Bd}(h:f≠[]):s9 (f.map aD) (-1)=some (aD<|iE f):=by rcases cq f with e |⟨ys,y,e⟩;exact absurd e h;rw[cJ]at e;subst e;have q:=FX (ys.map aD)<|aD y;rw[bj,List.map_singleton,q];unfold iE;rw[aA,dz,jH,ac,aQ<|ao _,eI];rfl
section
variable {X:Cx}
def HS(h:fA P w K mg base k uk oZ X)(Xa:mg "tuple"=none)(W6:mg "range"=none)(W7:mg "len"=none)(c1:Callee X "row_times" rR):Go X uk oZ pZ:=by
 rintro ds d ⟨f,rfl,ok,hf,rfl⟩;have t:=h.at';have b1:=h.bt Xa;have b2:=h.bt W6;have b3:=h.bt W7;have hl:=hf.ln;refine aM<|cp<|W0.eq (gG t b1<|Xe.toQ (dR (rs:=(List.range<|f.length-1).map λi=>aD ((f.getD (1+i) []).map λx=>(1+(i:Int))*x)) t ["f","power"] (oU rfl) (oQ t b2 ak (bX t b3<|W0.qt<|aa t 0) ⟨by decide,by decide,by lia,by rw[ab];lia⟩) (by simp[cH];exact gR<|by lia) λX' cx=>?_)) ?_;have e:(((f.map aD).length:Int)-1).toNat=f.length-1:=by rw[ab];lia
 rw[e];refine W9.gen (λ(i:Nat)=>D.int<|1+i) _ (λi=>[.val<|aV f,.val<|.int<|1+i]) _ _ (λx hx=>aU cx.at' 1) (λx hx y hy=>aU cx.at' 1) λx hx=>?_;have Yw:1+x<f.length:=by have:=aY.mp hx;lia
 have gm:f.getD (1+x) []∈f:=hX Yw;exact aX cx.at' (cx.callee c1) (ai (bH<|ai (aa cx.at' 1 rfl) av)<|ai (bM (W0.qt<|aa cx.at' 0 rfl) (aa cx.at' 1 rfl)<|by rw[show(1+x)=((1+x:Nat):Int)by lia];exact VR Yw<|by lia) av) ⟨[1+x],_,rfl,(show 1<100 by decide),by have:=hf.Yi _ gm;lia,λy hy=>by have:=hf.nm _ gm y hy;lia,by rw[Kk (by lia)<|ok.get _]⟩;show D.tup _=D.tup _;unfold Bw;rw[bp];rfl
def FR(h:fA P w K mg base k rH nF X)(c1:Callee X "tie_of" vJ):Go X rH nF lM:=by
 rintro ds d ⟨f,g,r,rfl,hf,hg,⟨k0,z0,nz,kf,kg,rfl⟩,rfl⟩;have t:=h.at';haveI:=h.XM;refine ay (df t 2 ak)<|ay (df t 3<|aX t c1 (ai (aa t 0)<|ai (aa t 1)<|ai (aa t 2) av) ⟨f,g,0,rfl,hf,hg,by lia,by lia,rfl⟩) ?_;refine mF (Y:=Nat) t (λj=>[.val<|aV f,.val<|aV g,.val<|.int j,.val<|aD<|lE f g j]) (λj=>j<=k0) (λj=>j=k0) (λj=>k0-j) 0 (aJ _) (λj hj=>?_) λj hj=>?_;rcases bA j k0 with q |q;right;refine⟨jA t (W0.p<|aa t 3) (W0.p (d:=aD [])<|bH av) (bJ _) (bJ _)<|by rw[gH,z0 j q];rfl,.inr ⟨j+1,?_,q,by lia⟩⟩;exact ay (L4 t 2 rfl ak)<|aM<|df t 3<|aX t c1 (ai (aa t 0)<|ai (aa t 1)<|ai (aa t 2) av) ⟨f,g,j+1,rfl,hf,hg,by lia,by lia,rfl⟩;have e:j=k0:=by lia
 subst e;exact .inl ⟨jA t (W0.p<|aa t 3) (W0.p (d:=aD [])<|bH av) (bJ _) (bJ _)<|by rw[gH,aj nz],rfl⟩;subst hj;exact aM<|cp<|aa t 3
def wB(h:fA P w K mg base k kR jb X)(c1:Callee X "tie_of" vJ):Go X kR jb kS:=by
 rintro ds d ⟨f,g,r,rfl,hf,hg,⟨k0,z0,nz,kf,kg,rfl⟩,rfl⟩;have t:=h.at';haveI:=h.XM;refine ay (df t 2 ak) ?_;refine mF (Y:=Nat) t (λj=>[.val<|aV f,.val<|aV g,.val<|.int j]) (λj=>j<=k0) (λj=>j=k0) (λj=>k0-j) 0 (aJ _) (λj hj=>?_) λj hj=>?_;have tie:=λ{p1 p2 p3 p4 p5:Pos}=>aX (p:=p1) (pos:=p2) (U:=[.val<|aV f,.val<|aV g,.val<|.int (j:Int)]) t c1 (ai (aa (pos:=p3) t 0 rfl)<|ai (aa (pos:=p4) t 1 rfl)<|ai (aa (pos:=p5) t 2 rfl) av) ⟨f,g,j,rfl,hf,hg,by lia,by lia,rfl⟩;rcases bA j k0 with q |q;right;refine⟨jA t (W0.p tie) (W0.p (d:=aD [])<|bH av) (bJ _) (bJ _)<|by rw[gH,z0 j q];rfl,.inr ⟨j+1,?_,q,by lia⟩⟩;exact aM<|df t 2<|W0.eq (dj (aa t 2) ak)<|bo D.int (by lia);have e:j=k0:=by lia
 subst e;exact .inl ⟨jA t (W0.p tie) (W0.p (d:=aD [])<|bH av) (bJ _) (bJ _)<|by rw[gH,aj nz],rfl⟩;subst hj;exact aM<|cp<|aX t c1 (ai (aa t 0)<|ai (aa t 1)<|ai (aa t 2) av) ⟨f,g,j,rfl,hf,hg,kf,kg,rfl⟩
def Be(h:fA P w K mg base k nV lj X)(W7:mg "len"=none)(c1:Callee X "first_tie" lM)(c2:Callee X "slope_up" pZ):Go X nV lj nZ:=by rintro ds d ⟨f,rs,rfl,ok,hf,ho,rfl⟩;have t:=h.at';have b3:=h.bt W7;have le:∀{p1 p2 p3 p4 p5:Pos}{j:Nat},W5 X [.val<|aV f] (.Compare (.Call (.Name "len" p1) [.Name "f" p2] [] p3) [.LtE] [.Constant (.int 2) j p4] p5) (decide<|((f.map aD).length:Int)<=2):=λ{_ _ _ _ _ _}=>Ux (bX t b3<|W0.qt<|aa t 0) ak;rcases ho with⟨rfl,rfl⟩ |⟨h1,h2,rfl⟩ |⟨h1,h2,r,h3,rfl⟩;exact ff<|fF (W5.eq le<|by rfl)<|aM<|cp<|rh (kM t (W0.p<|aa t 0) (W0.p<|bH av) (i8 []) (i8 [])<|by rw[ud];rfl)<|Xe.Xk<|fg av;refine ff<|fF (W5.eq le<|aq<|by rw[ab];lia)<|aM<|cp<|ua (kM t (W0.p<|aa t 0) (W0.p<|bH av) (i8 f) (i8 [])<|by rw[ud,aj h1];rfl)<|Xe.Xk<|fg<|ai (bM (W0.qt<|aa t 0) (gu ak)<|FY h1) av;refine ay (fx (W5.eq le<|aj<|by rw[ab];lia) dM)<|aM<|cp ?_;exact Xe.Xk<|fg<|ai (bM (W0.qt<|aa t 0) (gu ak)<|FY λz=>by rw[z]at h1;simp at h1)<|ai (aX t c1 (ai (aa t 0)<|ai (aX t c2 (ai (aa t 0) av) ⟨f,rfl,ok,hf,rfl⟩) av) ⟨f,Bw f,r,rfl,hf,h2,h3,rfl⟩) av
end
def Ni{X:Cx}(h:Xe X U e xs):Aq X U [.Return (some e) pos] xs:=λB F H Y E k q=>.mk λon s I=>u4 (CC cF) on s Y H E I (h B F H Y _ k λp us F' H' x h0 hp hf r=>q p us F' H' (k.toExt.trans x) (k.sh.free h0) hp hf r)
theorem W9.zA2{X:Cx}(g f:α->D)(p:α->Bool)(R:α->dP):∀(xs:List α)(U:dP),(∀x∈xs,XO X U tg (g x)<|R x)->(∀x∈xs,∀y∈xs,XO X (R x) tg (g y)<|R y)->(∀x∈xs,W5 X (R x) c<|p x)->(∀x∈xs,p x=true->W0 X (R x) elt (f x))->W9 X tg elt [c] (xs.map g) U ((xs.filter p).map f)|[],U,_,_,_,_=>.nil|x::xs,U,h1,h2,h3,h4=>by have ih:=W9.zA2 g f p R xs (R x) (λy hy=>h2 x (aN ..) y<|aC _ hy) (λy hy z hz=>h2 y (aC _ hy) z<|aC _ hz) (λy hy=>h3 y<|aC _ hy) λy hy=>h4 y<|aC _ hy;have g1:=h1 x<|aN ..;have g3:=h3 x<|aN ..;cases hp:p x with|true=>rw[Vf hp];exact .take g1 (.inr ⟨c,rfl,by rw[hp]at g3;exact g3⟩) (h4 x (aN ..) hp) ih|false=>rw[Vg<|by simp[hp]];exact .skip g1 rfl (by rw[hp]at g3;exact g3) ih
def Bf:List Bd->Bd->Bd->Prop|[],_,_=>False|a::l,f,g=>(f=a/\g∈l)\/Bf l f g
theorem Bf.mem:∀{l:List Bd}{f g:Bd},Bf l f g->f∈l/\g∈l|a::l,f,g,h=>by rcases h with⟨rfl,h⟩ |h;exact⟨aN,aC _ h⟩;have:=h.mem;exact⟨aC _ this.1,aC _ this.2⟩
theorem YD:∀{l:List Bd}{f g:Bd},Bf l f g↔∃j k,j<k/\k<l.length/\f=l.getD j []/\g=l.getD k []
 |[],f,g=>by constructor;exactλz=>z.elim;rintro⟨j,k,_,h,_⟩;simp at h
 |a::l,f,g=>by constructor;rintro(⟨rfl,h⟩ |h);obtain⟨k,hk,e⟩:=eE h;exact⟨0,k+1,by lia,by simp;lia,rfl,by rw[lU,ac,am hk,e];rfl⟩;obtain⟨j,k,h1,h2,h3,h4⟩:=YD.mp h;exact⟨j+1,k+1,by lia,by simp;lia,by rwa[lU],by rwa[lU]⟩;rintro⟨j,k,h1,h2,h3,h4⟩;cases k with|zero=>lia|succ k=>rw[bB]at h2;rw[lU]at h4;cases j with|zero=>exact .inl ⟨h3,by rw[h4];exact hX<|by lia⟩|succ j=>rw[lU]at h3;exact .inr<|YD.mpr ⟨j,k,by lia,by lia,h3,h4⟩
theorem kO(p:Bd->Bool):∀{l:List Bd}{f g:Bd},Bf (l.filter p) f g↔Bf l f g/\p f=true/\p g=true|[],f,g=>⟨λz=>z.elim,λz=>z.1.elim⟩|a::l,f,g=>by have ih:=kO p (l:=l) (f:=f) (g:=g);by_cases h:p a=true;rw[Vf h];constructor;rintro(⟨rfl,z⟩ |z);have:=dk.mp z;exact⟨.inl ⟨rfl,this.1⟩,h,this.2⟩;have:=ih.mp z;exact⟨.inr this.1,this.2⟩;rintro⟨⟨rfl,z⟩ |z,h1,h2⟩;exact .inl ⟨rfl,dk.mpr ⟨z,h2⟩⟩;exact .inr<|ih.mpr ⟨z,h1,h2⟩;rw[Vg h];constructor;intro z;have:=ih.mp z;exact⟨.inr this.1,this.2⟩;rintro⟨⟨rfl,z⟩ |z,h1,h2⟩;exact absurd h1 h;exact ih.mpr ⟨z,h1,h2⟩
def Ts(bs:List Bd)(r:az):Prop:=(∃f∈bs,∃rs,RO f rs/\r∈rs)\/∃f g,Bf bs f g/\1<f.length/\1<g.length/\FT f g r
structure vK(bs:List Bd):Prop where
 len:bs.length<=4
 rok:∀f∈bs,Yn f
 tb:∀f∈bs,TB f
 own:∀f∈bs,∃rs,RO f rs
 prs:∀f g,Bf bs f g->1<f.length->1<g.length->∃r,FT f g r
 r9:∀r,Ts bs r->R9 r
def Due(bs:List Bd)(out:List az):Prop:=Gv out/\out.Nodup/\∀q,q∈out↔∃r,Ts bs r/\1<r.length/\Xz r q
def Due.uniq{bs:List Bd}{a b:List az}(h:Due bs a)(h':Due bs b):a=b:=yn h.1 h'.1 ((Ti h.2.1 h'.2.1).mpr λq=>by rw[h.2.2,h'.2.2])
open Classical in
noncomputable def ZC (f:Bd):Bd:=if h:∃rs,RO f rs then h.choose else []
open Classical in
noncomputable def Z9 (f g:Bd):az:=if h:∃r,FT f g r then h.choose else []
open Classical in
noncomputable def YJ (r:az):az:=if h:∃u,Xz r u then h.choose else []
def Cw(h:∃rs,RO f rs):RO f (ZC f):=by unfold ZC;rw[dif_pos h];exact h.choose_spec
def rd(h:∃r,FT f g r):FT f g (Z9 f g):=by unfold Z9;rw[dif_pos h];exact h.choose_spec
def pN(h:R9 r):Xz r (YJ r):=by have h:=Qe h.ok h.ne;unfold YJ;rw[dif_pos h];exact h.choose_spec
def RO.uniq{rs:Bd}(h:RO f rs)(h':RO f rs'):rs=rs':=by rcases h with⟨a,rfl⟩ |⟨a,b,rfl⟩ |⟨a,b,r,c,rfl⟩<;>rcases h' with⟨a',rfl⟩ |⟨a',b',rfl⟩ |⟨a',b',r',c',rfl⟩;rfl;exact absurd a a';rw[a]at a';simp at a';exact absurd a' a;rfl;lia;rw[a']at a;simp at a;lia;rw[c.uniq c']
def RO.len{rs:Bd}(h:RO f rs):rs.length<=2:=by rcases h with⟨_,rfl⟩ |⟨_,_,rfl⟩ |⟨_,_,_,_,rfl⟩<;>simp
noncomputable def Zd (wy:List Bd) (n:Nat):Bd:=(List.range n).flatMap λk=>(List.range k).map λj=>Z9 (wy.getD j [])<|wy.getD k []
def Mv(wy:List Bd)(n:Nat):Zd wy (n+1)=Zd wy n++(List.range n).map λj=>Z9 (wy.getD j []) (wy.getD n []):=by unfold Zd;rw[eU,Gi,AB]
def IJ(wy:List Bd):∀n,n<=4->(Zd wy n).length<=6
 |0,_=>by simp[Zd]|1,_=>by simp[Zd,eU]
 |2,_=>by simp[Zd,eU]|3,_=>by simp[Zd,eU]
 |4,_=>by simp[Zd,eU]|n+5,h=>by lia
theorem Fm:∀{bs:List Bd},(∀f∈bs,∃rs,RO f rs)->(bs.flatMap ZC).length<=2*bs.length|[],_=>by simp|f::bs,h=>by rw[List.flatMap_cons,aA,bB];have:=Fm λg hg=>h g<|aC _ hg;have:=(Cw<|h f aN).len;lia
def tH(f:Bd):Bool:=decide<|1<f.length
def Py{bs:List Bd}(h:vK bs)(r:az):r∈bs.flatMap ZC++Zd (bs.filter tH) (bs.filter tH).length↔Ts bs r:=by rw[cQ,qi];unfold Zd;rw[qi];constructor;rintro(⟨f,hf,hr⟩ |⟨k,hk,hr⟩);exact .inl ⟨f,hf,_,Cw<|h.own f hf,hr⟩;obtain⟨j,hj,rfl⟩:=aZ.mp hr;have b:=(kO tH).mp<|YD.mpr ⟨j,k,aY.mp hj,aY.mp hk,rfl,rfl⟩;have l1:=fv b.2.1;have l2:=fv b.2.2;exact .inr ⟨_,_,b.1,l1,l2,rd<|h.prs _ _ b.1 l1 l2⟩;rintro(⟨f,hf,rs,hr,m⟩ |⟨f,g,b,l1,l2,hr⟩);exact .inl ⟨f,hf,by rwa[(Cw ⟨rs,hr⟩).uniq hr]⟩;obtain⟨j,k,h1,h2,rfl,rfl⟩:=YD.mp<|(kO tH).mpr ⟨b,aq l1,aq l2⟩;exact .inr ⟨k,aY.mpr h2,aZ.mpr ⟨j,aY.mpr h1,(rd ⟨r,hr⟩).uniq hr⟩⟩
def nt(bs:List Bd):D:=.tup<|bs.map aV
def rT(ds:ck)(xs:ck):Prop:=∃(bs:List Bd)(out:List az),ds=[nt bs]/\vK bs/\Due bs out/\xs=out.map aD
def AV:∀ds xs,rT ds xs->ds.length=1:=by rintro _ _ ⟨_,_,rfl,_⟩;rfl
theorem XH.zB2{X:Cx}(R:Sl->dP)(h1:∀s a,XO X (R s) t1 (aD a)<|R<|.val<|aD a)(he:∀a,W0 X (R<|.val<|aD a) elt<|aD a):∀(r:Bd)(s:Sl),∃s',XH X t1 elt (r.map aD) (R s) (r.map aD) (R s')|[],s=>⟨s,.nil⟩|a::r,s=>by obtain⟨s',hs⟩:=XH.zB2 R h1 he r<|.val<|aD a;exact⟨s',.take (h1 s a) (he a) hs⟩
theorem XG.bs{X:Cx}(R:Sl->Sl->dP)(h0:∀s3 s4(f:Bd),XO X (R s3 s4) t0 (aV f)<|R (.val<|aV f) s4)(h1:∀s3 s4 a,XO X (R s3 s4) t1 (aD a)<|R s3<|.val<|aD a)(he:∀s3 a,W0 X (R s3<|.val<|aD a) elt<|aD a):∀(l:List Bd)(s3 s4:Sl),(∀f∈l,∀s4,X5 X (R (.val<|aV f) s4) t1 i1<|(ZC f).map aD)->XG X t0 t1 i1 elt (l.map aV) (R s3 s4) ((l.flatMap ZC).map aD)|[],_,_,_=>.nil|f::l,s3,s4,hi=>by obtain⟨s4',hs⟩:=XH.zB2 (R<|.val<|aV f) (h1 _) (he _) (ZC f) s4;have:=XG.take (h0 s3 s4 f) (hi f aN s4) hs (XG.bs R h0 h1 he l (.val<|aV f) s4' λg hg=>hi g<|aC _ hg);rw[<-bj]at this;exact this
def uc{X:Cx}{U:dP}(i:Nat)(hr:U[i]?=some (.own xs))(h:Aq X (U.set i<|.val<|.lst xs) Y8 ys):Aq X U Y8 ys:=λB F H Y E k q=>by obtain⟨F',s,k'⟩:=k.Zl hr;exact h B F' H Y E k' q
section
variable {X:Cx}
def DA(h:fA P w K mg base k rJ lG X)(W6:mg "range"=none)(YN:mg "sorted"=none)(W7:mg "len"=none)(c1:Callee X "bare_row" uu)(c2:Callee X "rows_of_one" nZ)(c3:Callee X "first_tie" lM):∀ds xs,rT ds xs->Aq X (Lg rJ ds) (ft lG) xs:=by
 rintro ds d ⟨bs,out,rfl,hb,hd,rfl⟩;have t:=h.at';haveI:=h.XM;have b1:=h.bt W6;have b2:=h.bt W7;have b3:=h.bt YN;have lb:=hb.len;have lr:=Fm hb.own;have lw:(bs.filter tH).length<=4:=aL (kw _ _) lb;have lp:=IJ (bs.filter tH) _ lw;have iR:=Py hb;refine vx (GW (rs:=(bs.flatMap ZC).map aD) t 1 ["boards","rows","with_y","k","bare","f","row"] (oU rfl) (j8<|aa t 0) (by rw[ab];exact gR<|by lia) λX' cx=>?_) ?_;have t':=cx.at';exact XG.bs (λs5 s6=>[.val<|nt bs,.un,.un,.un,.un,s5,s6]) (λ_ _ f=>aU t' 5) (λ_ _ a=>aU t' 6) (λ_ a=>aa t' 6 rfl) bs .un .un λf hf s6=>gN<|aX t' (cx.callee c2) (ai (aa t' 5 rfl) av) ⟨f,_,rfl,hb.rok f hf,hb.tb f hf,Cw<|hb.own f hf,rfl⟩;refine vx (iy t 2 (dR (rs:=(bs.filter tH).map aV) t ["boards","rows","with_y","k","bare","f"] (oU rfl) (j8<|aa t 0) (by rw[ab];exact gR<|by lia) λX' cx=>?_) (hs:=(Co (show X.env.scope=(dE<|aK lG).scope from t.eS)).trans rfl)) ?_;have t':=cx.at';exact W9.zA2 aV aV tH (λf=>[.val<|nt bs,.own<|(bs.flatMap ZC).map aD,.un,.un,.un,.val<|aV f]) bs _ (λx hx=>aU t' 5) (λx hx y hy=>aU t' 5) (λf hf=>W5.eq (lY (bX t' (cx.blt b2)<|W0.qt<|aa t' 5 rfl) ak)<|by rw[ab];exact qf.mpr<|by lia) λf hf _=>aa t' 5 rfl;generalize hw:bs.filter tH=wy at lw lp iR;have wm:∀i,i<wy.length->wy.getD i []∈wy:=λi hi=>hX hi;have wb:∀f∈wy,f∈bs/\1<f.length:=λf hf=>by rw[<-hw]at hf;exact⟨(dk.mp hf).1,fv (dk.mp hf).2⟩
 have at':∀{i:Nat},i<wy.length->s9 (wy.map aV) i=some (aV<|wy.getD i []):=λ{i}hi=>by rw[wC (by lia) (by lia) hi,ac,am hi];rfl
 refine uc 2 rfl ?_;refine vx (ρ':=[.val<|nt bs,.own<|(bs.flatMap ZC++Zd wy wy.length).map aD,.val<|.lst<|wy.map aV,.un,.un]) (gY t (eD t b1 (bX t b2<|W0.ql<|aa t 2) (by lia)<|by rw[ab];lia)<|Xc.Xl (λi=>[.val<|nt bs,.own<|(bs.flatMap ZC++Zd wy i).map aD,.val<|.lst<|wy.map aV,.un,.un]) (λi d hi=>?_) (by simp[Zd]) ?_) ?_;obtain⟨YR,rfl⟩:=gC hi;have Yb:i<wy.length:=by rw[ab]at YR;lia
 have lpi:=IJ wy i (by lia);refine⟨_,c9 t 3,W4.weak (aM<|L1 (ys:=((List.range i).map λj=>Z9 (wy.getD j [])<|wy.getD i []).map aD) t 1 rfl (W0.eq (Xe.Xk (dR (rs:=(List.range i).map λj=>aD<|Z9 (wy.getD j [])<|wy.getD i []) t ["boards","rows","with_y","k","bare","j"] (oU rfl) (X5.eq (eD t b1 (aa t 3) (by lia)<|by lia) (show _=(List.range i).map λ(j:Nat)=>D.int j by simp[cH])) (by simp;exact gR<|by lia) λX' cx=>?_))<|by rw[bp];rfl)<|by rw[ab,aA,ab,ab,cY,gq];lia) ?_⟩;have t':=cx.at';refine W9.gen (λ(j:Nat)=>D.int j) _ (λj=>[.val<|nt bs,.own<|(bs.flatMap ZC++Zd wy i).map aD,.val<|.lst<|wy.map aV,.val<|.int i,.un,.val<|.int j]) _ _ (λx hx=>aU t' 5) (λx hx y hy=>aU t' 5) λj hj=>?_;have hj:=aY.mp hj;have m1:=wb _<|wm j (by lia);have m2:=wb _<|wm i Yb;exact aX t' (cx.callee c3) (ai (bM (W0.ql<|aa t' 2 rfl) (aa t' 5 rfl)<|at'<|by lia)<|ai (bM (W0.ql<|aa t' 2 rfl) (aa t' 3 rfl)<|at' Yb) av) ⟨_,_,_,rfl,hb.tb _ m1.1,hb.tb _ m2.1,rd<|hb.prs _ _ (by have:=(kO tH).mp (by rw[hw];exact YD.mpr ⟨j,i,hj,Yb,rfl,rfl⟩);exact this.1) m1.2 m2.2,rfl⟩
 have e:(bs.flatMap ZC++Zd wy (i+1)).map aD=(bs.flatMap ZC++Zd wy i).map aD++((List.range i).map λj=>Z9 (wy.getD j [])<|wy.getD i []).map aD:=by rw[Mv,<-dX,bj]
 rw[e];exact .keep<|.keep<|.keep<|.forget<|.keep .nil;have e:(cH 0 (((wy.map aV).length:Nat):Int).toNat).length=wy.length:=by simp[cH]
 rw[e];generalize hr:bs.flatMap ZC++Zd wy wy.length=rows at iR;have zIQ:rows.length<=14:=by rw[<-hr,aA];lia
 refine uc 1 rfl ?_;refine vx (jJ (rs:=(rows.map YJ).map aD) t 4 ["boards","rows","with_y","k","bare","row"] (oU rfl) (gN<|aa t 1) (by rw[ab];exact gR<|by lia) λX' cx=>?_) ?_;have t':=cx.at';rw[bp];exact W9.gen aD (aD ∘ YJ) (λr=>[.val<|nt bs,.val<|gZ rows,.val<|.lst<|wy.map aV,.un,.un,.val<|aD r]) rows _ (λx hx=>aU t' 5) (λx hx y hy=>aU t' 5) λr hr=>aX t' (cx.callee c1) (ai (aa t' 5 rfl) av) ⟨r,YJ r,rfl,hb.r9 r<|(iR r).mp hr,pN<|hb.r9 r<|(iR r).mp hr,rfl⟩;refine uc 4 rfl ?_;refine Ni (Nk (rs:=(rows.map YJ).filter λu=>decide<|1<u.length) t b3 (Nh t ["boards","rows","with_y","k","bare","row"] (oU rfl) (gN<|aa t 4) (by rwa[ab,ab]) (λX' cx=>?_) λr hr z=>?_) hd.1 hd.2.1 λq=>?_);have t':=cx.at';exact W9.zA2 aD aD (λu=>decide<|1<u.length) (λr=>[.val<|nt bs,.val<|gZ rows,.val<|.lst<|wy.map aV,.un,.val<|gZ<|rows.map YJ,.val<|aD r]) (rows.map YJ) _ (λx hx=>aU t' 5) (λx hx y hy=>aU t' 5) (λf hf=>W5.eq (lY (bX t' (cx.blt b2)<|W0.qt<|aa t' 5 rfl) ak)<|by rw[ab];exact qf.mpr<|by lia) λf hf _=>aa t' 5 rfl;have:=fv (dk.mp hr).2;rw[z]at this;simp at this;rw[hd.2.2 q,dk,aZ];constructor;rintro⟨r,h1,h2,h3⟩;have h9:=hb.r9 r h1;have e:=(pN h9).uniq h9.ok h9.ne h3;exact⟨⟨r,(iR r).mpr h1,e⟩,aq<|(Ce h9 h3).mpr h2⟩;rintro⟨⟨r,h1,rfl⟩,h2⟩;have h1:=(iR r).mp h1;have h9:=hb.r9 r h1;exact⟨r,h1,(Ce h9<|pN h9).mp<|fv h2,pN h9⟩
end
def BF(xs:az):(mB<|aD xs).depth<=62:=by show PyData.depth (.tuple<|Xb<|xs.map D.int)<=62;rw[kH];have h1:=Wr xs;simp only[PyData.depth];lia
theorem yz:∀fs:List az,PyData.canLayAll0 (Xb<|fs.map aD)=true|[]=>rfl|f::fs=>by show PyData.canLayAll0 (mB (aD f)::Xb (fs.map aD))=true;rw[PyData.canLayAll0,jm];exact⟨ge<|bJ f,yz fs⟩
theorem yN(p:az):∀fs:List az,((Xb<|fs.map aD).any λy=>PyData.eqv y<|mB<|aD p)=decide (p∈fs)|[]=>rfl|f::fs=>by show((mB<|aD f).eqv (mB<|aD p)||(Xb<|fs.map aD).any λy=>PyData.eqv y<|mB<|aD p)=_;rw[gH,yN p fs];by_cases z:f=p;subst z;simp;have z':¬p=f:=λy=>z y.symm;simp[z,z']
def wX(rs:List az):List az:=rs.mergeSort λa b=>!lx b a
def Bv(rs:List az):Gv (wX rs):=(List.pairwise_mergeSort (λa b c h k=>by
 cases e:lx c a with
 |false=>rfl
 |true=>
  have h':lx b a=false:=by simpa using h
  have k':lx c b=false:=by simpa using k
  cases e2:lx a b with
  |true=>rw[E5 _ _ _ e e2]at k';cases k'
  |false=>rw[CS _ _ e2 h']at e;rw[k']at e;cases e) (λa b=>by
 cases e:lx b a with|false=>rfl|true=>cases e2:lx a b with|false=>rfl|true=>have:=E5 _ _ _ e e2;rw[Hg]at this;cases this) rs).imp λ{a b}h=>by simpa using h
def yo(rs:List az):(wX rs).Perm rs:=List.mergeSort_perm _ _
def SL(acc:List az)(r:az):List az:=if r∈acc then acc else acc++[r]
def Gu(l:List az):List az:=l.foldl SL []
def Fz(l:List az)(r:az):Gu (l++[r])=SL (Gu l) r:=by unfold Gu;rw[oj];rfl
def JJ:∀l:List az,(Gu l).length<=l.length:=λl=>by
 have key:∀(l acc:List az),(l.foldl SL acc).length<=acc.length+l.length:=by
  intro l;induction l with
  |nil=>intro acc;exact ao _
  |cons r l ih=>
   intro acc;have:=ih<|SL acc r;have:(SL acc r).length<=acc.length+1:=by unfold SL;split<;>simp
   rw[rZ,bB];lia
 have:(Gu l).length<=([]:List az).length+l.length:=key l [];simpa using this
theorem Hy(l:List az)(h:Gv l):∀n,n<=l.length->Gv (Gu<|l.take n)/\(Gu<|l.take n).Nodup/\∀q,q∈Gu (l.take n)↔q∈l.take n|0,_=>by rw[List.take_zero];exact⟨.nil,DS,λq=>.rfl⟩|n+1,hn=>by obtain⟨a,b,c⟩:=Hy l h n (by lia);have e:l[n]?=some l[n]:=am (by lia);rw[jI e,Fz];unfold SL;by_cases z:l[n]∈Gu (l.take n);rw[ag z];refine⟨a,b,λq=>?_⟩;rw[c,cQ,aH];exact⟨.inl,λy=>y.elim id λy=>by rw[y];exact(c _).mp z⟩;rw[af z];refine⟨List.pairwise_append.mpr ⟨a,Ve _ _,λx hx y hy=>?_⟩,List.nodup_append.mpr ⟨b,by simp,λx hx y hy q=>z<|by rw[aH.mp hy]at q;rwa[<-q]⟩,λq=>by rw[cQ,cQ,c]⟩;rw[aH.mp hy];obtain⟨j,hj,rfl⟩:=eE<|(c x).mp hx;rw[cX]at hj;rw[List.getElem_take];exact vM.mp h j n (by lia) (by lia)<|by lia
noncomputable def Zu (so:List Bd) (k:Nat) (n:Nat):Bd:=(List.range n).flatMap λj=>if 1<(so.getD k []).length/\1<(so.getD j []).length then [Z9 (so.getD j [])<|so.getD k []]else []
noncomputable def Xv (f:Bd):Bd:=[iE f]++if 2<f.length then [Z9 f<|Bw f]else []
noncomputable def YF (so:List Bd) (n:Nat):Bd:=(List.range n).flatMap λk=>Xv (so.getD k [])++Zu so k k
def E7(so:List Bd)(n:Nat):YF so (n+1)=YF so n++(Xv (so.getD n [])++Zu so n n):=by unfold YF;rw[eU,Gi,AB]
def zt(so:List Bd)(k n:Nat):Zu so k (n+1)=Zu so k n++if 1<(so.getD k []).length/\1<(so.getD n []).length then [Z9 (so.getD n [])<|so.getD k []]else []:=by unfold Zu;rw[eU,Gi,AB]
theorem C3(so:List Bd)(k:Nat):∀n,(Zu so k n).length<=n|0=>by simp[Zu]|n+1=>by rw[zt,aA];have:=C3 so k n;split<;>simp<;>lia
theorem xQ(so:List Bd):∀n,n<=4->(YF so n).length<=2*n+n*n
 |0,_=>by simp[YF]
 |n+1,h=>by
  rw[E7,aA,aA];have h1:=xQ so n (by lia);have h2:=C3 so n n;have h3:(Xv<|so.getD n []).length<=2:=by unfold Xv;split<;>simp
  rw[DR,nj,DR];lia
def gX(f:Bd):Bool:=!decide (f=[])
def I9{bs:List Bd}(h:vK bs)(r:az):r∈YF (bs.filter gX) (bs.filter gX).length↔Ts bs r:=by
 unfold YF Zu;rw[qi];have sm:∀{k},k<(bs.filter gX).length->(bs.filter gX).getD k []∈bs/\(bs.filter gX).getD k []≠[]:=λhk=>by have:=dk.mp<|hX (d:=[]) hk;exact⟨this.1,by simpa[gX]using this.2⟩
 have ow:∀{f},f∈bs->f≠[]->∀rs,RO f rs->rs=Xv f:=λ{f}hf hn rs hr=>by unfold Xv;rcases hr with⟨a,rfl⟩ |⟨a,b,rfl⟩ |⟨a,b,r,c,rfl⟩;exact absurd a hn;rw[af<|by lia];rfl;rw[ag a,(rd ⟨r,c⟩).uniq c];rfl
 constructor;rintro⟨k,hk,hr⟩;have hk:=aY.mp hk;obtain⟨m1,m2⟩:=sm hk;rcases cQ.mp hr with hr |hr;obtain⟨rs,ho⟩:=h.own _ m1;exact .inl ⟨_,m1,rs,ho,by rwa[ow m1 m2 rs ho]⟩;obtain⟨j,hj,hr⟩:=qi.mp hr;split at hr;rename_i hl;rw[aH.mp hr];have b:=(kO gX).mp<|YD.mpr ⟨j,k,aY.mp hj,hk,rfl,rfl⟩;exact .inr ⟨_,_,b.1,hl.2,hl.1,rd<|h.prs _ _ b.1 hl.2 hl.1⟩;exact nomatch hr;rintro(⟨f,hf,rs,hr,m⟩ |⟨f,g,b,l1,l2,hr⟩);have hn:f≠[]:=λz=>by rcases hr with⟨a,rfl⟩ |⟨a,b,rfl⟩ |⟨a,b,r,c,rfl⟩;exact nomatch m;exact a z;rw[z]at a;simp at a
 obtain⟨k,hk,e⟩:=eE<|dk.mpr ⟨hf,show gX f=true by simp[gX,hn]⟩;have e':(bs.filter gX).getD k []=f:=by rw[ac,am hk,e];rfl
 exact⟨k,aY.mpr hk,DU _<|by rwa[e',<-ow hf hn rs hr]⟩;obtain⟨j,k,h1,h2,rfl,rfl⟩:=YD.mp<|(kO gX).mpr ⟨b,by unfold gX;rw[aj λz=>by rw[z]at l1;simp at l1];rfl,by unfold gX;rw[aj λz=>by rw[z]at l2;simp at l2];rfl⟩;exact⟨k,aY.mpr h2,bP _<|qi.mpr ⟨j,aY.mpr h1,by rw[ag ⟨l2,l1⟩,(rd ⟨r,hr⟩).uniq hr];exact List.mem_singleton_self _⟩⟩
def ji(r:az):Bool:=decide<|1<r.length
def uv(ds:ck)(d:D):Prop:=∃(bs:List Bd)(out:List az),ds=[nt bs]/\vK bs/\Due bs out/\d=gZ out
def C1:∀ds d,uv ds d->ds.length=1:=by rintro _ _ ⟨_,_,rfl,_⟩;rfl
section
variable {X:Cx}
theorem HW(h:fA P w K mg base k uo ph X)(W6:mg "range"=none)(YN:mg "sorted"=none)(W7:mg "len"=none)(c1:Callee X "_law_bare" rY)(c2:Callee X "_law_first_tie" kS)(c3:Callee X "_law_slope" qb):Go X uo ph uv:=by
 rintro ds d ⟨bs,out,rfl,hb,hd,rfl⟩;have t:=h.at';haveI:=h.XM;have b1:=h.bt W6;have b2:=h.bt W7;have b3:=h.bt YN;have lb:=hb.len;have lw:(bs.filter gX).length<=4:=aL (kw _ _) lb;have iR:=I9 hb;refine ay (iy t 1<|fg av) ?_;refine ay (jJ (rs:=(bs.filter gX).map aV) t 2 ["_law_boards","_law_rows","_law_some","_law_k","_law_j","_law_found","_law_row","_law_board_here"] (oU rfl) (j8<|aa t 0) (by rw[ab];exact gR<|by lia) λX' cx=>?_) ?_;have t':=cx.at';exact W9.zA2 aV aV gX (λf=>[.val<|nt bs,.own [],.un,.un,.un,.un,.un,.val<|aV f]) bs _ (λx hx=>aU t' 7) (λx hx y hy=>aU t' 7) (λf hf=>kM t' (W0.p<|aa t' 7 rfl) (W0.p<|bH av) (i8 f) (i8 [])<|by rw[ud];rfl) λf hf _=>aa t' 7 rfl;have wb:∀f∈bs.filter gX,f∈bs/\f≠[]:=λf hf=>⟨(dk.mp hf).1,by simpa[gX]using(dk.mp hf).2⟩;have bef:∀f g,Bf (bs.filter gX) f g->Bf bs f g:=λf g z=>((kO gX).mp z).1;generalize bs.filter gX=so at lw iR wb bef;have wm:∀i,i<so.length->so.getD i []∈so:=λi hi=>hX hi;have at':∀{i:Nat},i<so.length->s9 (so.map aV) i=some (aV<|so.getD i []):=λ{i}hi=>by rw[wC (by lia) (by lia) hi,ac,am hi];rfl
 refine eL 2 rfl ?_;refine ay (ρ':=[.val<|nt bs,.own<|(YF so so.length).map aD,.val<|.lst<|so.map aV,.un,.un,.un,.un]) (gY t (eD t b1 (bX t b2<|W0.ql<|aa t 2) (by lia)<|by rw[ab];lia)<|Xc.Xl (λi=>[.val<|nt bs,.own<|(YF so i).map aD,.val<|.lst<|so.map aV,.un,.un,.un,.un]) (λi d hi=>?_) (by simp[YF]) ?_) ?_;obtain⟨YR,rfl⟩:=gC hi;have Yb:i<so.length:=by rw[ab]at YR;lia
 have li:=xQ so i (by lia);have m1:=wb _<|wm i Yb;have lp:=ar.mpr m1.2;have tb:=hb.tb _ m1.1;have ln:=tb.ln;have sq:=fy (show i<=3 by lia) (show i<=3 by lia);have ev:∀{U:dP}{p1 p2 p3:Pos},U[2]?=some (.val<|.lst<|so.map aV)->U[3]?=some (.val<|.int i)->W0 X U (.Subscript (.Name "_law_some" p1) (.Name "_law_k" p2) p3) (aV<|so.getD i []):=λ{_ _ _ _}h1 h2=>bM (W0.ql<|aa t 2 h1) (aa t 3 h2)<|at' Yb;have le:∀{U:dP}{p1 p2 p3 p4 p5:Pos},U[2]?=some (.val<|.lst<|so.map aV)->U[3]?=some (.val<|.int i)->W0 X U (.Call (.Name "len" p4) [.Subscript (.Name "_law_some" p1) (.Name "_law_k" p2) p3] [] p5) (.int (((so.getD i []).map aD).length:Int)):=λ{_ _ _ _ _ _}h1 h2=>bX t b2<|W0.qt<|ev h1 h2;have ow:=hb.own _ m1.1;have rok:=hb.rok _ m1.1;have e1:(((so.getD i []).map aD).length:Int)-1=(((so.getD i []).length-1:Nat):Int):=by rw[ab];lia
 have o3:(Xv<|so.getD i []).length<=2:=by unfold Xv;split<;>simp
 have fin:(YF so<|i+1).map aD=(YF so i++Xv (so.getD i [])++Zu so i i).map aD:=by rw[E7,dX]
 refine⟨_,c9 t 3,W4.weak (ay (jp t 1 rfl (bM (W0.qt<|ev rfl rfl) (W0.eq (cu (le rfl rfl) ak)<|bo D.int e1)<|VR (by lia)<|by lia)<|by rw[ab,gq];lia)<|ay (ρ':=[.val<|nt bs,.own<|(YF so i++Xv (so.getD i [])).map aD,.val<|.lst<|so.map aV,.val<|.int (i:Int),.un,.un,.un]) ?_<|aM<|gY t (eD t b1 (aa t 3) (by lia)<|by lia)<|Xc.Xl (λj=>[.val<|nt bs,.own<|(YF so i++Xv (so.getD i [])++Zu so i j).map aD,.val<|.lst<|so.map aV,.val<|.int i,.un,.un,.un]) (λj d hj=>?_) (by simp[Zu]) rfl) ?_⟩;by_cases z:2<(so.getD i []).length;have e:(YF so i++Xv (so.getD i [])).map aD=(YF so i).map aD++[aD<|iE<|so.getD i []]++[aD<|Z9 (so.getD i [])<|Bw<|so.getD i []]:=by unfold Xv;rw[ag z];simp
 rw[e];obtain⟨rs,ho⟩:=ow;rcases ho with⟨a,_⟩ |⟨_,a,_⟩ |⟨_,ts,r,hr,_⟩;exact absurd a m1.2;lia;refine fF (W5.eq (lY (le rfl rfl) ak)<|aq<|by rw[ab];lia)<|aM<|jp t 1 rfl (aX t c2 (ai (ev rfl rfl)<|ai (aX t c3 (ai (ev rfl rfl) av) ⟨_,rfl,rok,tb,rfl⟩) av) ⟨_,_,_,rfl,tb,ts,rd ⟨r,hr⟩,rfl⟩) (by rw[aA,ab,gq];simp;lia);have e:(YF so i++Xv (so.getD i [])).map aD=(YF so i).map aD++[aD<|iE<|so.getD i []]:=by unfold Xv;rw[af z];simp
 rw[e];exact fx (W5.eq (lY (le rfl rfl) ak)<|aj<|by rw[ab];lia) dM;obtain⟨hjn,rfl⟩:=gC hj;have hj':j<i:=by lia
 have l2:=C3 so i j;have m2:=wb _<|wm j (by lia);have evj:∀{U:dP}{p1 p2 p3:Pos},U[2]?=some (.val<|.lst<|so.map aV)->U[4]?=some (.val<|.int j)->W0 X U (.Subscript (.Name "_law_some" p1) (.Name "_law_j" p2) p3) (aV<|so.getD j []):=λ{_ _ _ _}h1 h2=>bM (W0.ql<|aa t 2 h1) (aa t 4 h2)<|at' (by lia);have t1:∀{U:dP}{p1 p2 p3 p4 p5 p6 p7:Pos}{j:Nat},U[2]?=some (.val<|.lst<|so.map aV)->U[3]?=some (.val<|.int i)->W5 X U (.Compare (.Call (.Name "len" p4) [.Subscript (.Name "_law_some" p1) (.Name "_law_k" p2) p3] [] p5) [.Gt] [.Constant (.int 1) j p6] p7) (decide<|1<(so.getD i []).length):=λ{_ _ _ _ _ _ _ _ _}h1 h2=>W5.eq (lY (le h1 h2) ak) (by rw[ab];exact qf.mpr<|by lia);have t2:∀{U:dP}{p1 p2 p3 p4 p5 p6 p7:Pos}{j':Nat},U[2]?=some (.val<|.lst<|so.map aV)->U[4]?=some (.val<|.int j)->W5 X U (.Compare (.Call (.Name "len" p4) [.Subscript (.Name "_law_some" p1) (.Name "_law_j" p2) p3] [] p5) [.Gt] [.Constant (.int 1) j' p6] p7) (decide<|1<(so.getD j []).length):=λ{_ _ _ _ _ _ _ _ _}h1 h2=>W5.eq (lY (bX t b2<|W0.qt<|evj h1 h2) ak) (by rw[ab];exact qf.mpr<|by lia);refine⟨_,c9 t 4,W4.weak (aM (o:=.nx [.val<|nt bs,.own<|(YF so i++Xv (so.getD i [])++Zu so i (j+1)).map aD,.val<|.lst<|so.map aV,.val<|.int (i:Int),.val<|.int (j:Int),.un,.un]) ?_) ?_⟩;by_cases z:1<(so.getD i []).length/\1<(so.getD j []).length;have e:(YF so i++Xv (so.getD i [])++Zu so i (j+1)).map aD=(YF so i++Xv (so.getD i [])++Zu so i j).map aD++[aD<|Z9 (so.getD j [])<|so.getD i []]:=by rw[zt,ag z];simp
 rw[e];exact fF (XT.toT<|j3 (W5.eq (t1 rfl rfl)<|aq z.1)<|j4<|W5.eq (t2 rfl rfl)<|aq z.2)<|aM<|jp t 1 rfl (aX t c2 (ai (evj rfl rfl)<|ai (ev rfl rfl) av) ⟨_,_,_,rfl,hb.tb _ m2.1,tb,rd<|hb.prs _ _ (bef _ _<|YD.mpr ⟨j,i,hj',Yb,rfl,rfl⟩) z.2 z.1,rfl⟩) (by rw[ab,aA,aA,gq];lia);have e:(YF so i++Xv (so.getD i [])++Zu so i (j+1)).map aD=(YF so i++Xv (so.getD i [])++Zu so i j).map aD:=by rw[zt,af z,dq]
 rw[e];by_cases z1:1<(so.getD i []).length;exact fx (XT.toT<|j3 (W5.eq (t1 rfl rfl)<|aq z1)<|j4<|W5.eq (t2 rfl rfl) (aj λy=>z ⟨z1,y⟩)) dM;exact fx (XT.toT<|pK<|W5.eq (t1 rfl rfl)<|aj z1) dM;exact .keep<|.keep<|.keep<|.keep<|.forget<|.keep<|.keep .nil;have e:(cH 0 (i:Int).toNat).length=i:=by simp[cH]
 rw[e,fin];exact .keep<|.keep<|.keep<|.forget<|.keep<|.keep<|.keep .nil;have e:(cH 0 (((so.map aV).length:Nat):Int).toNat).length=so.length:=by simp[cH]
 rw[e];have lr:=xQ so so.length lw;have sq:so.length*so.length<=16:=fy lw lw;generalize YF so so.length=rows at iR lr;refine eL 1 rfl<|ay (iy t 5<|fg av) ?_;have lb2:((rows.filter ji).map YJ).length<=24:=by rw[ab];exact aL (kw _ _)<|by lia
 have mem:∀q,q∈(rows.filter ji).map YJ↔∃r,Ts bs r/\1<r.length/\Xz r q:=λq=>by rw[aZ];constructor;rintro⟨r,h1,rfl⟩;obtain⟨h1,h2⟩:=dk.mp h1;have h1:=(iR r).mp h1;exact⟨r,h1,fv h2,pN<|hb.r9 r h1⟩;rintro⟨r,h1,h2,h3⟩;have h9:=hb.r9 r h1;exact⟨r,dk.mpr ⟨(iR r).mpr h1,aq h2⟩,(pN h9).uniq h9.ok h9.ne h3⟩
 have nn:∀q∈(rows.filter ji).map YJ,q≠[]:=λq hq z=>by obtain⟨r,h1,h2,h3⟩:=(mem q).mp hq;exact h3.2.1 z
 have es:=Bv<|(rows.filter ji).map YJ;have ep:=yo<|(rows.filter ji).map YJ;have sl:(wX<|(rows.filter ji).map YJ).length<=24:=by rwa[ep.length_eq]
 refine ay (ρ':=[.val<|nt bs,.val<|gZ rows,.val<|.lst<|so.map aV,.un,.un,.own<|(Gu<|wX<|(rows.filter ji).map YJ).map aD,.un]) (gY t (gN<|Xe.Xk<|P2 t b3 (Xe.toQ (dR t ["_law_boards","_law_rows","_law_some","_law_k","_law_j","_law_found","","_law_row"] (oU rfl) (gN<|aa t 1) (by rw[ab];exact gR<|by lia) λX' cx=>?_)) nn (by lia) es ep)<|Xc.Xl (λi=>[.val<|nt bs,.val<|gZ rows,.val<|.lst<|so.map aV,.un,.un,.own<|(Gu<|(wX<|(rows.filter ji).map YJ).take i).map aD,.un]) (λi d hi=>?_) rfl ?_) ?_;have t':=cx.at';rw[bp];exact W9.zA2 aD (aD ∘ YJ) ji (λr=>[.val<|nt bs,.val<|gZ rows,.val<|.lst<|so.map aV,.un,.un,.own [],.un,.val<|aD r]) rows _ (λx hx=>aU t' 7) (λx hx y hy=>aU t' 7) (λf hf=>W5.eq (lY (bX t' (cx.blt b2)<|W0.qt<|aa t' 7 rfl) ak)<|by rw[ab];exact qf.mpr<|by lia) λr hr hl=>aX t' (cx.callee c1) (ai (aa t' 7 rfl) av) ⟨r,YJ r,rfl,hb.r9 r<|(iR r).mp hr,fv hl,pN<|hb.r9 r<|(iR r).mp hr,rfl⟩;rw[aw]at hi;generalize wX ((rows.filter ji).map YJ)=L at hi sl;cases e:L[i]? with
 |none=>rw[e]at hi;cases hi
 |some x=>
  rw[e]at hi;cases hi;have dl:=JJ<|L.take i;have tl:(L.take i).length<=L.length:=by rw[cX];lia
  rw[jI e,Fz];refine⟨_,c9 t 6,W4.weak (aM (o:=.nx [.val<|nt bs,.val<|gZ rows,.val<|.lst<|so.map aV,.un,.un,.own<|(if x∈Gu (L.take i)then Gu (L.take i)else Gu (L.take i)++[x]).map aD,.val<|aD x]) ?_)<|.keep<|.keep<|.keep<|.keep<|.keep<|.keep<|.forget .nil⟩;by_cases z:x∈Gu (L.take i);rw[ag z];exact fx (Nf t (aa t 6) 5 rfl (ge<|bJ _) (BF _) (yz _)<|by rw[yN,aq z];rfl) dM;rw[af z,bj];exact fF (Nf t (aa t 6) 5 rfl (ge<|bJ _) (BF _) (yz _)<|by rw[yN,aj z];rfl)<|aM<|jp t 5 rfl (aa t 6)<|by rw[ab,gq];lia
 rw[ab,fJ];have du:Due bs (Gu<|wX<|(rows.filter ji).map YJ):=by have k:=Hy _ es _<|ao _;rw[fJ]at k;exact⟨k.1,k.2.1,λq=>by rw[k.2.2,ep.mem_iff,mem]⟩
 rw[hd.uniq du];exact eL 5 rfl<|aM<|cp<|aa t 5
end
def Dg(d:Int)(r:az):Prop:=∀p:Nat,d<p->r.getD p 0=0
def Dg.mono{e:Int}(h:Dg d r)(k:d<=e):Dg e r:=λp hp=>h p<|by lia
def Dg.nil(d:Int):Dg d []:=λ_ _=>rfl
theorem JR:∀(f g:az)(p:Nat),(ke f g).getD p 0=f.getD p 0+g.getD p 0
 |[],g,p=>by rw[ke];show _=0+_;lia
 |a::f,[],p=>by
            rw[ke];·show _=_+0;lia
            intro h;cases h
 |a::f,b::g,0=>by rw[ke];rfl
 |a::f,b::g,p+1=>by rw[ke];exact JR f g p
def Dg.add(h:Dg d f)(k:Dg d g):Dg d (ke f g):=λp hp=>by rw[JR,h p hp,k p hp];rfl
def Dg.map{c:Int}(h:Dg d f):Dg d (f.map λy=>c*y):=λp hp=>by rw[eZ (φ:=λy=>c*y)<|aO c,h p hp];exact aO c
theorem Dg.mul(k:Dg e g):∀{f:az}{d:Int},Dg d f->Dg (d+e) (wc f g)|[],d,_=>Dg.nil _|a::f,d,h=>by have h':Dg (d-1) f:=λp hp=>h (p+1) (by lia);have ih:=Dg.mul k h';refine Dg.add (λp hp=>?_) λp hp=>?_;rw[eZ (φ:=λy=>a*y)<|aO a];by_cases z:d<0;rw[show a=0 from h 0<|by lia];exact dL _;rw[k p<|by lia];exact aO a;cases p with|zero=>rfl|succ p=>exact ih p<|by lia
theorem Dg.rS{f:Nat->az}:∀n,(∀j,j<n->Dg d (f j))->Dg d (My.rS f n)|0,_=>Dg.nil d|n+1,h=>(Dg.rS n λj hj=>h j<|by lia).add<|h n<|by lia
theorem Dg.det:∀(n:Nat){M:Nat->Nat->az}{al be:Nat->Int},(∀i j,i<n->j<n->Dg (al i+be j) (M i j))->Dg (dS al n+dS be n) (Dj n M)
 |0,M,al,be,_=>λp hp=>by have hp:(0:Int)<p:=hp;exact bn (show 1<=p by lia)
 |n+1,M,al,be,h=>by
  refine Dg.rS (n+1) λj hj=>Dg.map ?_;have ih:=Dg.det n (M:=λi k=>M (i+1)<|sk j k) (al:=λi=>al<|i+1) (be:=λk=>be<|sk j k) λi k hi hk=>h (i+1) (sk j k) (by lia)<|LR hk;have e1:=sT be n j (by lia);have e2:=sT al n 0 (by lia);have e3:(λk=>al<|sk 0 k)=λi=>al (i+1):=funext λk=>by unfold sk;rw[af<|by lia]
  rw[e3]at e2;exact(Dg.mul ih<|h 0 j (by lia) hj).mono<|by lia
structure Gd(p M:Nat)(f:Bd):Prop where
 ok:XA f
 dg:∀y,(f.getD y []).length<=p+1-y
 ln:f.length<=p+1
 nm:fP f<=M
theorem vi:∀{f:Bd}{r:az},r∈f->n1 r<=fP f|a::f,r,h=>by show n1 r<=n1 a+fP f;rcases aF.mp h with rfl |h;lia;have:=vi h;lia
def Gd.tb(h:Gd p M f)(hp:p<=9)(hM:M<2 ^ 60):TB f:=⟨by have:=h.ln;lia,λr hr=>by obtain⟨i,hi,rfl⟩:=eE hr;have:=h.dg i;rw[ac,am hi]at this;have:f[i].length<=p+1-i:=this;lia,λr hr y hy=>by have:=pE hy;have:=vi hr;have:=h.nm;lia⟩
def VS(p q m n A:Nat)(i:Nat):Int:=if i<A then(p:Int)-m-i else(q:Int)-n-(i-A:Nat)
def Oe(p q m n k:Nat):Int:=dS (VS p q m n<|n-k) (n-k+(m-k))+dS (λj=>(j:Int)) (n-k+(m-k))
def Jh(h:Gd p M f)(a N j:Nat)(hj:j<N)(hf:1<=f.length):Dg ((p:Int)-(f.length-1:Nat)-a+j) ((j0 f a N).getD j []):=by rw[Fa f a N j hj hf];split;have:=h.dg<|a+(f.length-1)-j;intro x hx;exact bn (by lia);exact Dg.nil _
def Rf(hf:Gd p M f)(hg:Gd q L g)(k:Nat)(lf:1<=f.length)(lg:1<=g.length):Dg (Oe p q (f.length-1) (g.length-1) k) (lE f g k):=by
 have key:Dg (dS (VS p q (f.length-1) (g.length-1)<|g.length-1-k) (l7 f g k)+dS (λj=>(j:Int)) (l7 f g k)) (Dj (l7 f g k)<|qH f g k):=by refine Dg.det _ λi j hi hj=>?_;unfold qH lP VS;unfold l7 at hi hj;rw[pI<|_++_,iU,ab,cY];by_cases h:i<g.length-1-k;rw[ag h,ag h,aw,bv h];exact Jh hf i _ j (by lia) lf;rw[af h,af h,aw,bv<|by lia];exact Jh hg _ _ j (by lia) lg
 intro x hx;unfold lE;rw[fu];refine key x ?_;rw[show l7 f g k=g.length-1-k+(f.length-1-k)by unfold l7;lia];exact hx
def Od(M L A B:Nat):Nat:=Mu (λi=>if i<A then max 1 M else max 1 L)<|A+B
def IV(f:az):n1 (bR f)<=n1 f:=by
 have key:∀(f:az),f=bR f++List.replicate (f.length-(bR f).length) 0:=λf=>by have tl:=fK f;refine jZ (by simp;lia) λi hi=>?_;rw[ac,ac,iU];by_cases z:i<(bR f).length;rw[ag z,<-ac,<-ac,fu];rw[af z,<-ac,<-ac,Cz,<-fu,bn<|by lia]
 have app:∀(a b:az),n1 a<=n1 (a++b):=λa b=>by induction a with|nil=>exact aJ _|cons x a ih=>show x.natAbs+n1 a<=x.natAbs+n1 (a++b);lia
 conv=>rhs;rw[key f]
 exact app _ _
def BS(f:Bd)(a m:Nat):fP (j0 f a m)<=fP f:=by refine aL (wf _ _) ?_;rw[oK,oK,qY,qY,y7];lia
def Re{M L:Nat}{f g:Bd}(hf:fP f<=M)(hg:fP g<=L)(k:Nat):n1 (lE f g k)<=Od M L (g.length-1-k) (f.length-1-k):=by refine aL (IV _)<|aL (LF f g k) ?_;rw[Dz,uF];rw[lO];refine CH _ λi hi=>?_;unfold lP;rw[pI<|_++_,iU,ab,cY];by_cases h:i<g.length-1-k;rw[ag h,ag h,aw,bv h];have:=BS f i<|f.length-1-k+(g.length-1-k);show max 1 (fP<|j0 f i _)<=_;lia;rw[af h,af h,aw,bv<|by lia];have:=BS g (i-(g.length-1-k))<|f.length-1-k+(g.length-1-k);show max 1 (fP<|j0 g _ _)<=_;lia
def LD{k:Nat}(hf:Gd p M f)(hg:Gd q L g)(lf:1<=f.length)(lg:1<=g.length)(h0:lE f g k≠[])(hd:Oe p q (f.length-1) (g.length-1) k<=8)(hn:Od M L (g.length-1-k) (f.length-1-k)<2 ^ 60):R9 (lE f g k):=by have ok:W2 (lE f g k):=dI _;refine⟨ok,h0,?_,λy hy=>?_⟩;have:=sE ok h0;have dg:=Rf hf hg k lf lg<|(lE f g k).length-1;rcases bA 9 (lE f g k).length with z |z;exact absurd (dg<|by lia) this;exact z;have:=pE hy;have:=Re hf.nm hg.nm k;lia
def Cs(f:Bd)(i:Nat):(Bw f).getD i []=if i<f.length-1 then(f.getD (1+i) []).map λx=>(1+(i:Int))*x else []:=by
 unfold Bw;rw[ac,aw];by_cases h:i<f.length-1;·rw[ag h,bv h];rfl
 ·rw[af h,aI<|by simpa using h];rfl
def oO(h:XA f)(hn:f≠[]):W2 (iE f)/\iE f≠[]/\iE f∈f:=by
 obtain⟨h1,h2⟩:=h;rcases h1 with z |⟨ys,a,rfl,ha⟩;·exact absurd z hn
 ·have e:iE (ys++[a])=a:=by unfold iE;rw[aA,dz,jH,ac,aQ<|ao _,eI];rfl
  rw[e];exact⟨h2 a<|by simp,ha,by simp⟩
def Ad{f:Bd}(h:∀r∈f,W2 r)(hl:f≠[]->iE f≠[]):XA f:=by
 refine⟨?_,h⟩;rcases cq f with e |⟨ys,y,e⟩;·exact .inl e
 ·rw[cJ]at e;refine .inr ⟨ys,y,e,?_⟩;have k:=hl (by rw[e];simp);have:iE f=y:=by rw[e];unfold iE;rw[aA,dz,jH,ac,aQ<|ao _,eI];rfl
  rwa[<-this]
def Ix(h:XA f):XA (Bw f):=Ad (Ro h.2) λhn=>by have l:=oW f;have lp:=ar.mpr hn;unfold iE;rw[Cs,ag<|by lia,l];intro z;have:=(oO h λy=>hn<|by rw[y];rfl).2.1;unfold iE at this;rw[show 1+(f.length-1-1)=f.length-1 by lia]at z;exact this<|by simpa using z
theorem Eh{f g:Nat->Nat}:∀n,(∀i,i<n->f i<=g i)->uG f n<=uG g n|0,_=>ao _|n+1,h=>Nat.add_le_add (Eh n λi hi=>h i<|by lia)<|h n<|by lia
def Rp(h:Gd p M f)(hp:1<=p):Gd (p-1) ((f.length-1)*M) (Bw f):=by
 refine⟨Ix h.ok,λy=>?_,by rw[oW];have:=h.ln;lia,?_⟩
 ·rw[Cs];split;·rw[ab];have:=h.dg<|1+y;lia
  ·exact aJ _
 ·rw[<-yk,oW];have e1:uG (λj=>n1<|(Bw f).getD j []) (f.length-1)<=uG (λj=>n1 (f.getD (1+j) [])*(f.length-1)) (f.length-1):=Eh _ λi hi=>by rw[Cs,ag hi,y3,fS];exact cc _<|by lia
  rw[Cp]at e1;refine aL e1 ?_;rw[fS];refine cc _<|aL ?_ h.nm;rcases nh f.length with z |z;·rw[z];exact aJ _
  ·have k:=yj (λj=>n1<|f.getD j []) 0<|f.length-1;rw[show f.length-1+1=f.length by lia,yk]at k;have e2:=funext λj=>by show _=n1 (f.getD (sk 0 j) []);unfold sk;rw[af<|by lia,lO]
   rwa[e2]
def Lm{x:Int}(h:W2 r)(hn:r≠[])(hx:((2*n1 r:Nat):Int)<x):vI x r≠0:=λz=>hn<|Gz hx h (.inl rfl) (λy hy=>pE hy) (λy hy=>nomatch hy)<|z.trans (Li x).symm
theorem QU{p:Nat->Prop}:∀n,p n->∃k,k<=n/\p k/\∀j,j<k->¬p j
 |n,h=>by
  by_cases q:∃j,j<n/\p j;·obtain⟨j,hj,pj⟩:=q;obtain⟨k,a,b,c⟩:=QU j pj;exact⟨k,by lia,b,c⟩
  ·exact⟨n,ao _,h,λj hj pj=>q ⟨j,hj,pj⟩⟩
 termination_by n=>n
def G2(x:Int)(f:Bd):Yg f.length (pv x f):=λi hi=>by show vI x (f.getD i [])=0;rw[pI,aI<|by lia];rfl
theorem Cm{m:Nat}{F:PS}(hF:Yg (m+1) F):∀{n:Nat}{A:Nat->Nat->Int},(∀i j,i<n->j<n->A i j=Ob F m i j)->det n A=F.c m ^ n
 |0,_,_=>by rw[oq];rfl
 |n+1,A,h=>by
  rw[B5 λi hi=>by rw[h _ _ (by lia)<|by lia];unfold Ob;rw[ag<|by lia];exact hF _<|by lia,Cm hF λi j hi hj=>by
   rw[h _ _ (by lia)<|by lia];unfold Ob;by_cases z:j<=i+m;·rw[ag z,ag<|by lia,show i+1+m-(j+1)=i+m-j by lia]
   ·rw[af z,af (by lia)],h 0 0 (by lia) (by lia),ot,dO]
  unfold Ob;rw[ag<|by lia,show 0+m-0=m by lia]
def QX(hf:XA f)(hg:XA g)(nf:f≠[])(ng:g≠[]):∃r,FT f g r:=by
 obtain⟨a1,a2,_⟩:=oO hf nf;obtain⟨b1,b2,_⟩:=oO hg ng;have lf:=ar.mpr nf;have lg:=ar.mpr ng;obtain⟨x,hx⟩:∃x:Int,x=((2*(n1 (iE f)+n1 (iE g)):Nat):Int)+1:=⟨_,rfl⟩;have pf:(pv x f).c (f.length-1)≠0:=Lm (r:=iE f) a1 a2 (by lia);have pg:(pv x g).c (g.length-1)≠0:=Lm (r:=iE g) b1 b2 (by lia);obtain⟨k0,k1,k2,k3⟩:∃k,k<f.length/\k<g.length/\vI x (lE f g k)≠0:=by
  by_cases z:g.length<=f.length;·refine⟨g.length-1,by lia,by lia,?_⟩;rw[Cn x _ lf lg,Cm (m:=g.length-1) ((G2 x g).mono<|by lia) λi j _ _=>by unfold Ow;rw[af<|by lia,eI,jG]];exact mH pg
  ·refine⟨f.length-1,by lia,by lia,?_⟩;rw[Cn x _ lf lg,Cm (m:=f.length-1) ((G2 x f).mono<|by lia) λi j hi _=>by unfold Ow;rw[ag<|by lia]];exact mH pf
 obtain⟨k,ka,kb,kc⟩:=QU (p:=λk=>lE f g k≠[]) _ λz=>k3 (by rw[z];rfl);exact⟨_,k,λj hj=>bz λz=>kc j hj z,kb,by lia,by lia,rfl⟩
def NO{bs:List Bd}(hl:bs.length<=4)(hG:∀f∈bs,Gd p M f)(hp:1<=p)(hp8:p<=8)(hM:4*M<2 ^ 60)(h4:∀f∈bs,f.length<=4)(ho:∀f∈bs,2<f.length->∀k,k<f.length-1->Oe p (p-1) (f.length-1) (f.length-2) k<=8/\Od M ((f.length-1)*M) (f.length-2-k) (f.length-1-k)<2 ^ 60)(hpr:∀f g,Bf bs f g->1<f.length->1<g.length->∀k,k<f.length->k<g.length->lE f g k≠[]->Oe p p (f.length-1) (g.length-1) k<=8/\Od M M (g.length-1-k) (f.length-1-k)<2 ^ 60):vK bs:=by
 have sg:∀f∈bs,Gd (p-1) ((f.length-1)*M) (Bw f):=λf hf=>Rp (hG f hf) hp;have st:∀f∈bs,TB (Bw f):=λf hf=>(sg f hf).tb (by lia)<|by have:=bF M (show f.length-1<=3 by have:=h4 f hf;lia);lia
 refine⟨hl,λf hf=>(hG f hf).ok.2,λf hf=>(hG f hf).tb (by lia)<|by lia,λf hf=>?_,λf g b l1 l2=>?_,λr hr=>?_⟩
 ·by_cases z:f=[];·exact⟨[],.inl ⟨z,rfl⟩⟩
  ·by_cases y:f.length<=2;·exact⟨_,.inr<|.inl ⟨z,y,rfl⟩⟩
   ·obtain⟨r,hr⟩:=QX (hG f hf).ok (Ix (hG f hf).ok) z (λq=>by have:=oW f;rw[q]at this;simp at this;lia);exact⟨_,.inr<|.inr ⟨by lia,st f hf,r,hr,rfl⟩⟩
 ·have m:=b.mem;exact QX (hG f m.1).ok (hG g m.2).ok (λz=>by rw[z]at l1;simp at l1) λz=>by rw[z]at l2;simp at l2
 ·have zB4:∀f∈bs,f≠[]->R9 (iE f):=λf hf hn=>by
   obtain⟨a1,a2,a3⟩:=oO (hG f hf).ok hn;refine⟨a1,a2,?_,λy hy=>?_⟩;·have:=(hG f hf).dg<|f.length-1;unfold iE;lia
   ·have:=pE hy;have:=vi a3;have:=(hG f hf).nm;lia
  rcases hr with⟨f,hf,rs,hr,m⟩ |⟨f,g,b,l1,l2,k,z0,nz,kf,kg,rfl⟩
  ·rcases hr with⟨_,rfl⟩ |⟨hn,_,rfl⟩ |⟨l,_,r',⟨k,z0,nz,kf,kg,rfl⟩,rfl⟩;·exact nomatch m
   ·rw[aH.mp m];exact zB4 f hf hn
   ·have hn:f≠[]:=λz=>by rw[z]at l;simp at l
    rcases aF.mp m with rfl |m;·exact zB4 f hf hn
    ·rw[aH.mp m];rw[oW]at kg;obtain⟨d1,d2⟩:=ho f hf l k kg;have e:(Bw f).length-1=f.length-2:=by rw[oW];lia
     exact LD (hG f hf) (sg f hf) (by lia) (by rw[oW];lia) nz (by rwa[e])<|by rwa[e]
  ·have m:=b.mem;obtain⟨d1,d2⟩:=hpr f g b l1 l2 k kf kg nz;exact LD (hG f m.1) (hG g m.2) (by lia) (by lia) nz d1 d2
def NQ{bs:List Bd}(hl:bs.length<=4)(hG:∀f∈bs,Gd 2 500 f):vK bs:=by
 refine NO hl hG (by decide) (by decide) (by decide) (λf hf=>by have:=(hG f hf).ln;lia) (λf hf l k hk=>?_) λf g b l1 l2 k kf kg _=>?_
 ·have:=(hG f hf).ln;obtain⟨n,hn⟩:∃n,n=f.length:=⟨_,rfl⟩;rw[<-hn]at l hk this ⊢;have e:n=3:=by lia
  subst e;revert hk;revert k;decide
 ·have a:=(hG f b.mem.1).ln;have c:=(hG g b.mem.2).ln;generalize f.length=m at*;generalize g.length=n at*;have key:∀k,k<3->Oe 2 2 2 2 k<=8/\Od 500 500 (2-k) (2-k)<2 ^ 60:=by decide
  have zAT:∀k,k<2->(Oe 2 2 1 2 k<=8/\Od 500 500 (2-k) (1-k)<2 ^ 60)/\(Oe 2 2 2 1 k<=8/\Od 500 500 (1-k) (2-k)<2 ^ 60)/\Oe 2 2 1 1 k<=8/\Od 500 500 (1-k) (1-k)<2 ^ 60:=by decide
  have em:m=2\/m=3:=by lia
  have en:n=2\/n=3:=by lia
  rcases em with rfl |rfl<;>rcases en with rfl |rfl;·exact(zAT k kf).2.2
  ·exact(zAT k kf).1
  ·exact(zAT k kg).2.1
  ·exact key k kf
def NN(hG:Gd 3 1000 f)(hl:2<f.length):vK [f]:=by
 have ln:=hG.ln;refine NO (show 1<=4 by decide) (λg hg=>by rwa[aH.mp hg]) (by decide) (by decide) (by decide) (λg hg=>by rw[aH.mp hg];lia) (λg hg l k hk=>?_) λf g b _ _ k _ _ _=>?_
 ·rw[aH.mp hg]at l hk ⊢;generalize f.length=m at*;have key:∀m,m<5->2<m->∀k,k<m-1->Oe 3 2 (m-1) (m-2) k<=8/\Od 1000 ((m-1)*1000) (m-2-k) (m-1-k)<2 ^ 60:=by decide
  exact key m (by lia) l k hk
 ·rcases b with⟨_,z⟩ |z;·exact nomatch z
  ·exact z.elim
def SV(hf:Gd 3 70 f)(hg:Gd 3 70 g)(lf:f.length=4)(lg:g.length=4)(h0:lE f g 0=[]):vK [f,g]:=by
 have hG:∀h∈[f,g],Gd 3 70 h/\h.length=4:=λh hh=>by
  rcases aF.mp hh with rfl |hh;·exact⟨hf,lf⟩
  ·rw[aH.mp hh];exact⟨hg,lg⟩
 refine NO (show 2<=4 by decide) (λg hg=>(hG g hg).1) (by decide) (by decide) (by decide) (λg hg=>by rw[(hG g hg).2];exact ao _) (λg hg l k hk=>?_) λp q b _ _ k kf _ nz=>?_;·rw[(hG g hg).2]at hk ⊢;revert hk;revert k;decide
 ·have e:p=f/\q=g:=by
   rcases b with⟨rfl,z⟩ |⟨_,z⟩ |z;·exact⟨rfl,aH.mp z⟩
   ·exact nomatch z
   ·exact z.elim
  obtain⟨rfl,rfl⟩:=e;rw[lf]at kf ⊢;rw[lg];have k1:k≠0:=λz=>nz (by rwa[z]);have key:∀k,k<4->k≠0->Oe 3 3 (4-1) (4-1) k<=8/\Od 70 70 (4-1-k) (4-1-k)<2 ^ 60:=by decide
  exact key k kf k1
theorem QA(x:Int):∀f:az,vI x f=rs f (λi=>x ^ i)
 |[]=>rfl
 |a::f=>by
  show a+x*vI x f=a*x ^ 0+rs f (λi=>x ^ (i+1));have e:rs f (λi=>x ^ (i+1))=x*rs f (λi=>x ^ i):=by rw[<-L5];exact yy f λi _=>by rw[ot,dO]
  rw[e,QA x f,oq,Ol]
theorem NM(ψ:Nat->Int):∀(b:Bd)(k:Nat),bs b (λi c=>if c=k then ψ i else 0)=rs (b.getD k []) ψ
 |[],k=>rfl|r::b,0=>by show rs r (λi=>if 0=0 then ψ i else 0)+bs b (λi c=>if c+1=0 then ψ i else 0)=rs r ψ;rw[Dy b _ λi c=>af<|by lia,yy r λi _=>ag rfl,cn]
 |r::b,k+1=>by
  show rs r (λi=>if 0=k+1 then ψ i else 0)+bs b (λi c=>if c+1=k+1 then ψ i else 0)=rs (b.getD k []) ψ;have e:bs b (λi c=>if c+1=k+1 then ψ i else 0)=bs b (λi c=>if c=k then ψ i else 0):=NR b λi c=>by by_cases z:c=k;rw[ag z,ag<|by lia];rw[af z,af<|by lia]
  rw[Cu _ (λi=>af<|by lia) r,fB,e,NM ψ b k]
def IH(x:Int)(b:Bd)(k:Nat):(pv x b).c k=bs b (λi c=>if c=k then x ^ i else 0):=by rw[NM λi=>x ^ i];exact QA x _
def L7(hr:W2 r)(hs:W2 s)(h:∀x,vI x r=vI x s):r=s:=Gz (x:=((2*(n1 r+n1 s):Nat):Int)+1) (B:=n1 r+n1 s) (by lia) hr hs (λy hy=>by have:=pE hy;lia) (λy hy=>by have:=pE hy;lia)<|h _
theorem xU(a:Int)(φ χ:Nat->Nat->Int):∀kvs:jj,ds kvs (λi k=>a*φ i k+χ i k)=a*ds kvs φ+ds kvs χ|[]=>by show(0:Int)=a*0+0;lia|p::r=>by rw[ds,ds,ds,xU a φ χ r];grind
theorem KJ:∀kvs:jj,ds kvs (λ_ _=>0)=0|[]=>rfl|p::r=>by show p.2*0+ds r _=0;rw[KJ r];lia
theorem Nt(F:Nat->Nat->Nat->Int)(kvs:jj):∀n,ds kvs (λi c=>My.XI n λj=>F j i c)=My.XI n (λj=>ds kvs<|F j)
 |0=>KJ kvs
 |n+1=>by
  have e:ds kvs (λi c=>My.XI (n+1) λj=>F j i c)=ds kvs (λi c=>1*My.XI n (λj=>F j i c)+F n i c):=rA kvs λi c=>by show My.XI n (λj=>F j i c)+F n i c=_;lia
  rw[e,xU,Nt F kvs n,bS];rfl
theorem yi{a:Nat}{f:Nat->Int}:∀{n:Nat},(∀i,i<n->i≠a->f i=0)->a<n->My.XI n f=f a
 |0,_,h=>by lia
 |n+1,h,ha=>by
  show My.XI n f+f n=f a;by_cases z:a=n;subst z;have e:My.XI a f=0:=by rw[My.Xi a λi hi=>h i (by lia)<|by lia,kI]
  rw[e,fB];rw[yi (λi hi=>h i<|by lia)<|by lia,h n (by lia) λy=>z y.symm,cn]
structure YE(p M:Nat)(kvs:jj):Prop where
 Yp:YW kvs
 loc:∀φ ψ:Nat->Nat->Int,(∀i k,i+k<=p->φ i k=ψ i k)->ds kvs φ=ds kvs ψ
 nrm:∀(c:Nat)(φ:Nat->Nat->Int),(∀i k,(φ i k).natAbs<=c)->(ds kvs φ).natAbs<=c*M
def sN:jj->Nat|[]=>0|p::r=>p.2.natAbs+sN r
def YE.list{p M:Nat}(h:YW kvs)(hk:∀q∈kvs,∃i k:Nat,q.1=nk i k/\i+k<=p)(hs:sN kvs<=M):YE p M kvs:=by
 refine⟨h,λφ ψ e=>?_,λc φ e=>aL ?_<|cc c hs⟩;clear h hs;induction kvs with|nil=>rfl|cons q r ih=>let⟨i,k,e1,e2⟩:=hk q aN;rw[ds,ds,ih λs hs=>hk s<|aC _ hs,e1];show q.2*φ ((i:Int)).toNat ((k:Int)).toNat+_=q.2*ψ ((i:Int)).toNat ((k:Int)).toNat+_;rw[bQ,bQ,e i k e2]
 clear h hs hk;induction kvs with
 |nil=>exact aJ _
 |cons q r ih=>
  rw[ds];show _<=c*(q.2.natAbs+sN r);have h1:=e (q.1.getD 0 0).toNat (q.1.getD 1 0).toNat;have h2:(q.2*φ (q.1.getD 0 0).toNat (q.1.getD 1 0).toNat).natAbs<=c*q.2.natAbs:=by rw[dQ,fS];exact bF _ h1
  rw[DR];lia
def YE.mono{q N:Nat}(h:YE p M kvs)(hp:p<=q)(hM:M<=N):YE q N kvs:=⟨h.Yp,λφ ψ e=>h.loc φ ψ λi k z=>e i k<|by lia,λc φ e=>aL (h.nrm c φ e)<|cc c hM⟩
def YE.prod(hA:YE p M A)(hB:YE q N B):YE (p+q) (M*N) (fW A B):=by refine⟨CF hA.Yp hB.Yp,λφ ψ e=>?_,λc φ e=>?_⟩;rw[pM hA.Yp hB.Yp,pM hA.Yp hB.Yp];exact hA.loc _ _ λi k z=>hB.loc _ _ λa b y=>e _ _ (by lia);rw[pM hA.Yp hB.Yp,fS M N,<-qA];exact hA.nrm (c*N) _ λi k=>hB.nrm c _ λa b=>e _ _
def JQ(kvs:jj):(bN kvs).length<=9/\∀k,((bN kvs).getD k []).length<=9:=by unfold bN;refine⟨aL (JZ _)<|by simp,λk=>?_⟩;rw[yd,yS];split;exact aL (fK _) (by simp);exact aJ _
def B7(h:YE p M kvs)(hp:p<=8)(φ:Nat->Nat->Int):bs (bN kvs) φ=ds kvs φ:=by
 obtain⟨l1,l2⟩:=JQ kvs;have e:ds kvs φ=ds kvs (λi c=>My.XI 9 λk=>My.XI 9 λj=>φ j k*mR j k i c):=h.loc _ _ λi c z=>by rw[yi (a:=c) (λk hk XB=>?_)<|by lia,yi (a:=i) (λj hj XB=>?_)<|by lia];unfold mR;rw[ag ⟨rfl,rfl⟩,Ol];unfold mR;rw[af λy=>XB y.1.symm,aO];rw[My.Xi 9 λj _=>by unfold mR;rw[af λy=>XB y.2.symm,aO],kI]
 rw[e,NL _ 9 _ l1,Nt];refine My.Xi 9 λk hk=>?_;rw[Cv _ 9 _<|l2 k,Nt];refine My.Xi 9 λi hi=>?_;have e2:ds kvs (λa c=>φ i k*mR i k a c)=φ i k*ds kvs (mR i k):=by have:=xU (φ i k) (mR i k) (λ_ _=>0) kvs;rw[KJ,cn]at this;rw[<-this];exact rA kvs λa c=>(cn _).symm
 rw[e2,SH h.Yp];show Yd (bN kvs) i k*_=_;rw[Dq,ag ⟨hi,hk⟩,dO]
theorem Eo:∀r:az,∃ψ:Nat->Int,(∀i,(ψ i).natAbs<=1)/\rs r ψ=n1 r
 |[]=>⟨λ_=>0,λ_=>aJ _,rfl⟩
 |a::r=>by
  obtain⟨ψ,h1,h2⟩:=Eo r;refine⟨λi=>match i with |0=>if a<0 then-1 else 1 |i+1=>ψ i,λi=>?_,?_⟩;cases i with|zero=>show(if a<0 then-1 else 1).natAbs<=1;split<;>decide|succ i=>exact h1 i
  show a*(if a<0 then-1 else 1)+rs r ψ=((a.natAbs+n1 r:Nat):Int);rw[h2];split<;>lia
theorem yp:∀b:Bd,∃φ:Nat->Nat->Int,(∀i k,(φ i k).natAbs<=1)/\bs b φ=fP b
 |[]=>⟨λ_ _=>0,λ_ _=>aJ _,rfl⟩
 |r::b=>by
  obtain⟨ψ,h1,h2⟩:=Eo r;obtain⟨φ,h3,h4⟩:=yp b;refine⟨λi k=>match k with |0=>ψ i |k+1=>φ i k,λi k=>?_,?_⟩;cases k with|zero=>exact h1 i|succ k=>exact h3 i k
  show rs r ψ+bs b φ=((n1 r+fP b:Nat):Int);rw[h2,h4];lia
def YE.Yd(h:YE p M kvs)(hp:p<=8)(i k:Nat):Yd (bN kvs) i k=ds kvs (mR i k):=by rw[<-B7 h hp,NP]
def YE.gd(h:YE p M kvs)(hp:p<=8):Gd p M (bN kvs):=by
 have ok:=HM kvs;have c0:∀i k,p<i+k->My.Yd (bN kvs) i k=0:=λi k z=>by rw[h.Yd hp,h.loc (mR i k) (λ_ _=>0) λa c y=>by unfold mR;rw[af<|by lia],KJ]
 have dg:∀y,((bN kvs).getD y []).length<=p+1-y:=λy=>by rcases bA (p+1-y) ((bN kvs).getD y []).length with z |z;have ro:=ok.row y;have:=sE ro (λw=>by rw[w]at z;simp at z);exact absurd (c0 _ y<|by lia) this;exact z
 refine⟨ok,dg,?_,?_⟩;by_cases z:bN kvs=[];rw[z];exact aJ _;have:=(oO ok z).2.1;have:=ar.mpr this;have d:=dg<|(bN kvs).length-1;unfold iE at this;lia;obtain⟨φ,h1,h2⟩:=yp<|bN kvs;have:=h.nrm 1 φ h1;rw[<-B7 h hp,h2]at this;lia
def md{m:Int}(x:Int)(h:0<m):0<=x%m/\x%m<m:=⟨bO _<|by lia,bK _ h⟩
def oN(xs:az):YE 1 10 (qz xs):=.list (xR xs).1 (λq hq=>by
  rcases aF.mp hq with rfl |hq;exact⟨0,0,rfl,by decide⟩;rcases aF.mp hq with rfl |hq;exact⟨1,0,rfl,by decide⟩;rw[aH.mp hq];exact⟨0,1,rfl,by decide⟩) (by
  show(xs.getD 0 0%11-5).natAbs+((xs.getD 1 0%7-3).natAbs+((xs.getD 2 0%5-2).natAbs+0))<=10;lia)
theorem JM(xs:az):∀k,k<=6->YE 2 (4*k) (je xs k)/\∀p∈je xs k,∃j,j<k/\p.1=wV j
 |0,_=>⟨.list .nil (λ_ h=>nomatch h)<|aJ _,λ_ h=>nomatch h⟩
 |k+1,h=>by
  obtain⟨d,ks⟩:=JM xs k<|by lia
  have sp:∀j,j<6->∃i c:Nat,wV j=nk i c/\i+c<=2:=λj hj=>by
   match j,hj with
   |0,_=>exact⟨0,0,rfl,by decide⟩|1,_=>exact⟨1,0,rfl,by decide⟩
   |2,_=>exact⟨0,1,rfl,by decide⟩|3,_=>exact⟨2,0,rfl,by decide⟩
   |4,_=>exact⟨1,1,rfl,by decide⟩|5,_=>exact⟨0,2,rfl,by decide⟩
  have inj:∀i,i<6->∀j,j<6->wV i=wV j->i=j:=by decide
  rw[je];split;obtain⟨i,c,e,l⟩:=sp k (by lia);have hv:(xs.getD (1+k) 0%(2*fQ xs+1)-fQ xs).natAbs<=4:=by
   have:1<=fQ xs/\fQ xs<=4:=by unfold fQ;lia
   have:=md (xs.getD (1+k) 0) (m:=2*fQ xs+1) (by lia);lia
  have nn:jz (je xs k) (nk i c)=none:=sj λp hp z=>by obtain⟨j,hj,e2⟩:=ks p hp;have:=inj j (by lia) k (by lia) (by rw[<-e2,z,<-e]);lia
  generalize xs.getD (1+k) 0%(2*fQ xs+1)-fQ xs=v at hv;have ep:∀φ,ds (mN (je xs k) (nk i c) v) φ=ds (je xs k) φ+v*φ i c:=λφ=>by rw[Nu d.Yp,nn];show _+(v-0)*_=_;rw[tj]
  refine⟨⟨?_,λφ ψ q=>?_,λm φ q=>?_⟩,λp hp=>?_⟩;rw[e];exact YW.put d.Yp i c v;rw[e,ep,ep,d.loc φ ψ q,q i c l];rw[e,ep];have h1:=d.nrm m φ q;have h2:(v*φ i c).natAbs<=m*4:=by rw[dQ,fS];exact fy (q i c) hv
  rw[show 4*(k+1)=4*k+4 by lia,DR];lia;rcases u3 hp with rfl |z;exact⟨k,qg _,rfl⟩;obtain⟨j,a,b⟩:=ks p z;exact⟨j,by lia,b⟩;exact⟨d.mono (ao _)<|by lia,λp hp=>let⟨j,a,b⟩:=ks p hp;⟨j,by lia,b⟩⟩
def Ps(xs:az):YE 2 100 (Ky xs):=by
 unfold Ky;split;exact(JM _ 6<|ao _).1.mono (ao _) (by decide);split;refine .list ⟨λp hp=>?_,by show[nk 0 0,nk 1 0,nk 2 0].Nodup;decide⟩ (λq hq=>?_) ?_;rcases aF.mp hp with rfl |hp;exact⟨0,0,rfl⟩;rcases aF.mp hp with rfl |hp;exact⟨1,0,rfl⟩;rw[aH.mp hp];exact⟨2,0,rfl⟩;rcases aF.mp hq with rfl |hq;exact⟨0,0,rfl,by decide⟩;rcases aF.mp hq with rfl |hq;exact⟨1,0,rfl,by decide⟩;rw[aH.mp hq];exact⟨2,0,rfl,by decide⟩;show(xs.getD 1 0%11-5).natAbs+((xs.getD 2 0%7-3).natAbs+((xs.getD 3 0%5-2).natAbs+0))<=100;lia;split;exact(oN _).prod<|oN _;split;exact(oN _).prod<|oN _;split;have w5:YE 1 3 (Bp xs):=.list (D4 xs).1 (λq hq=>by
  rcases aF.mp hq with rfl |hq;exact⟨0,0,rfl,by decide⟩;rw[aH.mp hq];exact⟨1,0,rfl,by decide⟩) (by
  show(xs.getD 1 0%5-2).natAbs+((1:Int).natAbs+0)<=3;lia)
 exact(w5.prod<|oN _).mono (ao _) (by decide);split;refine .list ⟨λp hp=>?_,by show[nk 0 0,nk 2 0,nk 0 2].Nodup;decide⟩ (λq hq=>?_) ?_;rcases aF.mp hp with rfl |hp;exact⟨0,0,rfl⟩;rcases aF.mp hp with rfl |hp;exact⟨2,0,rfl⟩;rw[aH.mp hp];exact⟨0,2,rfl⟩;rcases aF.mp hq with rfl |hq;exact⟨0,0,rfl,by decide⟩;rcases aF.mp hq with rfl |hq;exact⟨2,0,rfl,by decide⟩;rw[aH.mp hq];exact⟨0,2,rfl,by decide⟩;show(0-xs.getD 1 0%10).natAbs+((1+xs.getD 2 0%2).natAbs+((1+xs.getD 3 0%2).natAbs+0))<=100;lia;exact(oN _).mono (by decide)<|by decide
def Sb(c:Int):Gd 2 100 (Ui c):=(Ps _).gd<|by decide
def Oc(c:Int)(f:Bd):Bd:=f.map λr=>r.map λx=>x*c
def Rt{c:Int}{n:Nat}(h:Gd p M f)(hc:c≠0)(hn:c.natAbs<=n):Gd p (M*n) (Oc c f):=by
 have e:∀r:az,(r.map λx=>x*c)=r.map λx=>c*x:=λr=>cA λx _=>dO _ _;have gt:∀y,(Oc c f).getD y []=(f.getD y []).map λx=>c*x:=λy=>by unfold Oc;rw[ac,ac,aw];cases f[y]? with|none=>rfl|some r=>exact e r
 have ln:(Oc c f).length=f.length:=by unfold Oc;rw[ab]
 refine⟨Ad (λr hr=>?_) λhn z=>?_,λy=>by rw[gt,ab];exact h.dg y,by rw[ln];exact h.ln,?_⟩;obtain⟨s,hs,rfl⟩:=aZ.mp hr;rw[e];exact l8 (h.ok.2 s hs) hc;have k:=(oO h.ok λy=>hn<|by rw[y];rfl).2.1;unfold iE at k z;rw[ln,gt]at z;exact k (by simpa using z);have key:∀f:Bd,fP (Oc c f)<=fP f*c.natAbs:=λf=>by induction f with|nil=>exact aJ _|cons r f ih=>show n1 (r.map λx=>x*c)+fP (Oc c f)<=(n1 r+fP f)*c.natAbs;rw[e,y3,nj,fS];lia
 exact aL (key f)<|fy h.nm hn
def R1{M:Nat}(n:Int)(h0:n≠0)(hM:n.natAbs<=M)(p:Nat):Gd p M [[n]]:=by refine⟨⟨.inr ⟨[],[n],rfl,by simp⟩,λr hr=>by rw[aH.mp hr];exact .inr ⟨[],n,rfl,h0⟩⟩,λy=>?_,by show 1<=p+1;lia,by show n.natAbs+0+0<=M;lia⟩;cases y with|zero=>show 1<=p+1-0;lia|succ y=>exact aJ _
def R4(p M:Nat):Gd p M []:=⟨⟨.inl rfl,λr hr=>nomatch hr⟩,λy=>aJ _,aJ _,aJ _⟩
theorem JD(x:Int)(β:Nat->Int)(n:Nat):∀A:jj,dS (λj=>ds A (λi c=>if c=j then x ^ i else 0)*β j) n=ds A (λi c=>if c<n then x ^ i*β c else 0)
 |[]=>gU λi _=>dL _
 |p::A=>by
  have e:∀c y,dS (λj=>(if c=j then y else 0)*β j) n=if c<n then y*β c else 0:=λc y=>by
   split;·rename_i h;rw[sS (λi _ hi=>by rw[af<|gy hi,dL]) h,ag rfl]
   ·exact gU λi hi=>by rw[af<|by lia,dL]
  rw[ds,<-JD x β n A,<-e,<-nT];exact fc λj _=>by rw[ds];grind
def Nq(x:Int)(hA:YE p M A)(hB:YE q N B)(hp:p+q<=8):pv x (bN<|fW A B)=pv x (bN A)*pv x (bN B):=PS.ext' λk=>by
 rw[IH,B7 (hA.prod hB) hp,pM hA.Yp hB.Yp,E3,fc λj _=>by rw[IH,B7 hA<|by lia,IH,B7 hB<|by lia],JD];refine rA A λi j=>?_;split
 ·have:=xU (x ^ i) (λa c=>if c=k-j then x ^ a else 0) (λ_ _=>0) B;rw[KJ,cn]at this;rw[<-this];refine rA B λa c=>?_;by_cases q:c=k-j;·rw[ag<|by lia,ag q,Int.pow_add,cn]
  ·rw[af<|by lia,af q,aO];rfl
 ·exact(rA B λa c=>af<|by lia).trans<|KJ B
def SK{m n k:Nat}{F G:PS}(km:k<=m)(kn:k<=n)(p:VX m n k F G):Dep (n-k+(m-k)) (n-k+(m-k)) (Ow F G m n k):=by
 obtain⟨U,V,hn,hU,hV,h⟩:=p;refine⟨SU U V (n-k)<|m-k,?_,λj hj=>by rw[Rg km kn hU hV hj];exact h _<|by lia⟩;refine bz λhz=>hn ?_;have hz:∀i,i<n-k+(m-k)->SU U V (n-k) (m-k) i=0:=λi hi=>bz λz=>hz ⟨i,hi,z⟩;refine⟨PS.ext' λs=>?_,PS.ext' λs=>?_⟩
 ·rw[tO];rcases bA s (n-k)with z |z;·have:=hz (n-k-1-s) (by lia);unfold SU at this;rw[ag<|by lia,show n-k-1-(n-k-1-s)=s by lia]at this;exact this
  ·exact hU s z
 ·rw[tO];rcases bA s (m-k)with z |z;·have:=hz (n-k+(m-k-1-s)) (by lia);unfold SU at this;rw[af<|by lia,show m-k-1-(n-k+(m-k-1-s)-(n-k))=s by lia]at this;exact this
  ·exact hV s z
def J0{S:jj}(hS:YE 2 7 S)(hA:YE 1 10 A)(hB:YE 1 10 B)(lf:(bN<|fW S A).length=4)(lg:(bN<|fW S B).length=4)(hb:∀x,(pv x<|bN B).c 1≠0):lE (bN<|fW S A) (bN<|fW S B) 0=[]:=by refine L7 (dI _) (.inl rfl) λx=>?_;have bl:∀{C:jj},YE 1 10 C->Yg 3 (pv x<|bN C):=λ{C}hC=>(G2 x _).mono (by have:=(hC.gd<|by decide).ln;lia);rw[Cn x 0 (by lia)<|by lia,lf,lg,Li];refine z7 _ _<|SK (aJ _) (aJ _) ⟨pv x<|bN B,-pv x (bN A),λz=>hb x<|by rw[z.1];exact tO 1,bl hB,(bl hA).neg,λi _=>?_⟩;rw[Nq x hS hA<|by decide,Nq x hS hB<|by decide,show pv x (bN B)*(pv x (bN S)*pv x (bN A))+ -pv x (bN A)*(pv x (bN S)*pv x (bN B))=0 by grind];exact tO i
def Ld(x:Int):Int:=([1,-1,2]:az).getD (x%3).toNat 0
def Br(x:Int):Ld x≠0/\(Ld x).natAbs<=2:=by
 have:(x%3).toNat=0\/(x%3).toNat=1\/(x%3).toNat=2:=by lia
 unfold Ld;rcases this with z |z |z<;>rw[z]<;>decide
def ip(xs:az):jj:=[(nk 0 0,xs.getD 0 0%11-5),(nk 1 0,xs.getD 1 0%7-3),(nk 0 1,Ld<|xs.getD 2 0)]
def Gp(xs:az):jj:=[(nk 0 2,1+xs.getD 9 0%2),(nk 0 0,xs.getD 10 0%5-1),(nk 1 1,xs.getD 11 0%3-1),(nk 1 0,xs.getD 12 0%3-1)]
def iH(xs:az):YE 1 10 (ip xs):=by
 have key:∀q∈ip xs,∃i k:Nat,q.1=nk i k/\i+k<=1:=λq hq=>by
  rcases aF.mp hq with rfl |hq;·exact⟨0,0,rfl,by decide⟩
  rcases aF.mp hq with rfl |hq;·exact⟨1,0,rfl,by decide⟩
  rw[aH.mp hq];exact⟨0,1,rfl,by decide⟩
 refine .list ⟨λq hq=>let⟨i,k,e,_⟩:=key q hq;⟨i,k,e⟩,by show[nk 0 0,nk 1 0,nk 0 1].Nodup;decide⟩ key ?_;have:=(Br<|xs.getD 2 0).2;show(xs.getD 0 0%11-5).natAbs+((xs.getD 1 0%7-3).natAbs+((Ld<|xs.getD 2 0).natAbs+0))<=10;lia
def vZ(xs:az):YE 2 7 (Gp xs):=by
 have key:∀q∈Gp xs,∃i k:Nat,q.1=nk i k/\i+k<=2:=λq hq=>by
  rcases aF.mp hq with rfl |hq;·exact⟨0,2,rfl,by decide⟩
  rcases aF.mp hq with rfl |hq;·exact⟨0,0,rfl,by decide⟩
  rcases aF.mp hq with rfl |hq;·exact⟨1,1,rfl,by decide⟩
  rw[aH.mp hq];exact⟨1,0,rfl,by decide⟩
 refine .list ⟨λq hq=>let⟨i,k,e,_⟩:=key q hq;⟨i,k,e⟩,by show[nk 0 2,nk 0 0,nk 1 1,nk 1 0].Nodup;decide⟩ key ?_;show(1+xs.getD 9 0%2).natAbs+((xs.getD 10 0%5-1).natAbs+((xs.getD 11 0%3-1).natAbs+((xs.getD 12 0%3-1).natAbs+0)))<=7;lia
def CU{k:Nat}(h:Yd f i k≠0):k<f.length:=by
 rcases bA k f.length with z |z;·exact z
 ·refine absurd ?_ h;unfold Yd;rw[pI f,aI z];rfl
def Nr(xs:az)(φ:Nat->Nat->Int):ds (ip xs) φ=(xs.getD 0 0%11-5)*φ 0 0+((xs.getD 1 0%7-3)*φ 1 0+(Ld (xs.getD 2 0)*φ 0 1+0)):=rfl
def SG(xs:az)(φ:Nat->Nat->Int):ds (Gp xs) φ=(1+xs.getD 9 0%2)*φ 0 2+((xs.getD 10 0%5-1)*φ 0 0+((xs.getD 11 0%3-1)*φ 1 1+((xs.getD 12 0%3-1)*φ 1 0+0))):=rfl
def J8(xs:az)(way:Int):List Bd:=if way=1 then [[[xs.getD 0 0%9-4],[xs.getD 1 0%5-2],[xs.getD 2 0%5-2,1+xs.getD 3 0%2]]]else if way=2 then [bN<|fW (fW (ip xs)<|ip xs)<|ip<|xs.drop 3]else [bN<|fW (Gp xs)<|ip xs,bN<|fW (Gp xs)<|ip<|xs.drop 3]
def Os(f:Bd):Bd:=f.map bR
def GH{f:Bd}(h:∀r∈f,W2 r):Os f=f:=by
 conv=>rhs;rw[<-WS f]
 exact cA λr hr=>mz<|h r hr
def QC(a:Int):W2 (bR [a])/\(bR [a]).length<=1/\n1 (bR [a])<=a.natAbs:=⟨dI _,fK _,IV _⟩
def OC(xs:az)(way:Int):vK ((J8 xs way).map Os):=by
 unfold J8;split
 ·have t1:=QC<|xs.getD 0 0%9-4;have t2:=QC<|xs.getD 1 0%5-2;have d0:1+xs.getD 3 0%2≠0:=by lia
  have ok3:W2 [xs.getD 2 0%5-2,1+xs.getD 3 0%2]:=.inr ⟨[_],_,rfl,d0⟩;show vK [[bR [xs.getD 0 0%9-4],bR [xs.getD 1 0%5-2],bR [xs.getD 2 0%5-2,1+xs.getD 3 0%2]]];rw[mz ok3];have n1':(xs.getD 1 0%5-2).natAbs<=2:=by lia
  generalize bR [xs.getD 0 0%9-4]=r1 at t1;generalize bR [xs.getD 1 0%5-2]=r2 at t2;refine NN ⟨⟨.inr ⟨[r1,r2],_,rfl,by simp⟩,λr hr=>?_⟩,λy=>?_,(by show 3<=4;decide),?_⟩<|by show 2<3;decide
  ·rcases aF.mp hr with rfl |hr;·exact t1.1
   rcases aF.mp hr with rfl |hr;·exact t2.1
   rwa[aH.mp hr]
  ·match y with
   |0=>show r1.length<=4;lia|1=>show r2.length<=3;lia
   |2=>show 2<=2;exact ao _|y+3=>exact aJ _
  ·show n1 r1+(n1 r2+(((xs.getD 2 0%5-2).natAbs+((1+xs.getD 3 0%2).natAbs+0))+0))<=1000;lia
 split
 ·have d:=((iH xs).prod<|iH xs).prod<|iH<|xs.drop 3;have g:=d.gd (by decide);show vK [Os _];rw[GH g.ok.2];have c:Yd (bN<|fW (fW (ip xs)<|ip xs)<|ip<|xs.drop 3) 0 3≠0:=by rw[d.Yd<|by decide,pM (CF (iH xs).Yp (iH xs).Yp) (iH _).Yp,pM (iH xs).Yp (iH xs).Yp];simp only[Nr,mR];have h1:=(Br<|xs.getD 2 0).1;have h2:=(Br<|(xs.drop 3).getD 2 0).1;generalize Ld (xs.getD 2 0)=u at h1 ⊢;generalize Ld ((xs.drop 3).getD 2 0)=v at h2 ⊢;simp[h1,h2]
  exact NN g<|by have:=CU c;lia
 ·have d1:=(vZ xs).prod<|iH xs;have d2:=(vZ xs).prod<|iH<|xs.drop 3;have g1:=d1.gd (by decide);have g2:=d2.gd (by decide);have s0:1+xs.getD 9 0%2≠0:=by lia
  have c:∀ys,Yd (bN<|fW (Gp xs)<|ip ys) 0 3≠0:=λys=>by rw[((vZ xs).prod<|iH ys).Yd<|by decide,pM (vZ xs).Yp (iH _).Yp];simp only[Nr,SG,mR];have h1:=(Br<|ys.getD 2 0).1;generalize Ld (ys.getD 2 0)=u at h1 ⊢;generalize 1+xs.getD 9 0%2=v at s0 ⊢;simp[h1,s0]
  show vK [Os _,Os _];rw[GH g1.ok.2,GH g2.ok.2];have l1:(bN<|fW (Gp xs)<|ip xs).length=4:=by have:=CU<|c xs;have:=g1.ln;lia
  have l2:(bN<|fW (Gp xs)<|ip<|xs.drop 3).length=4:=by have:=CU<|c<|xs.drop 3;have:=g2.ln;lia
  refine SV g1 g2 l1 l2 (J0 (vZ xs) (iH xs) (iH _) l1 l2 λx=>?_);rw[IH,B7 (iH _)<|by decide,Nr];have h1:=(Br<|(xs.drop 3).getD 2 0).1;generalize Ld ((xs.drop 3).getD 2 0)=u at h1 ⊢;simp[h1]
end My
namespace L2.EV
open PySem
variable {α:Type}
variable {K:gS}{ds:ck}
def XY.YI{X:Cx}{ow:Str->Bool}{C:ck->jj->Prop}(h:XY X X' N' Z5 ow)(c:XE X x C):XE X' x C:=by obtain⟨f,fd,ps,k,F,hr,hm,hk,hb⟩:=c;refine⟨f,fd,ps,k,?_,?_,?_,?_,?_⟩;rwa[h.prog,h.w',h.k',h.Ze,h.Zn];rwa[h.a'];rwa[h.Ze];rwa[h.k'];rwa[h.k']
end L2.EV
namespace My
open PySem PySem.W L2 L2.EV PyProof.Rows
variable {α:Type}
variable {K:gS}
def Ng{X:Cx}(ha:W0 X U a (.int i))(hb:W0 X U b (.int j))(hc:W0 X U c (.int k))(hm:lastMarks [.Lt,.Lt] [b,c]=false:=by with_unfolding_all rfl):W5 X U (.Compare a [.Lt,.Lt] [b,c] pos) (decide (i<j)&&decide (j<k)):=.of (Mo IR IR cF cF cF hm) λB F H Y Q k' q=>ha B F H Y _ k' λx F1 H1 x1 r1=>by
  cases r1;exact hb B F1 H1 Y _ (k'.ext x1) λy F2 H2 x2 r2=>by
   cases r2;refine⟨i,j,rfl,rfl,_,rfl,?_⟩;by_cases z:i<j;rw[aq z,ag rfl];exact hc B F2 H2 Y _ (k'.ext<|x1.t x2) λw F3 H3 x3 r3=>by cases r3;rw[aq z,Bool.true_and]at q;exact⟨j,k,rfl,rfl,_,rfl,q F3 H3<|x1.t<|x2.t x3⟩
   rw[aj z,af aW];rw[aj z,Tk]at q;exact⟨false,rfl,q F2 H2<|x1.t x2⟩
def FD{xs:az}{m:Nat}(h:m<=xs.length):lQ xs (some (m:Int)) none=xs.drop m:=by unfold lQ;rw[HT.zBL,HT.zAH,Nat.min_eq_left h,AA<|by rw[cO];exact ao _]
def Lr(xs:az):VB (2 ^ 63) (ip xs):=λq hq=>by have:=(Br<|xs.getD 2 0).2;rcases aF.mp hq with rfl |hq;lia;rcases aF.mp hq with rfl |hq;lia;rw[aH.mp hq];lia
def m6(ds:ck)(kvs:jj):Prop:=∃xs:az,ds=[bu xs]/\3<=xs.length/\kvs=ip xs
def wj:∀ds d,m6 ds d->ds.length=1:=by rintro _ _ ⟨a,rfl,_⟩;rfl
def m9(ds:ck)(d:D):Prop:=∃(xs:az)(way:Int),ds=[bu xs,.int way]/\13<=xs.length/\xs.length<100/\d=.lst ((J8 xs way).map aV)
def wl:∀ds d,m9 ds d->ds.length=2:=by rintro _ _ ⟨_,_,rfl,_⟩;rfl
def m8(ds:ck)(d:D):Prop:=∃f:Bd,ds=[aV f]/\f.length<100/\(∀r∈f,r.length<100)/\d=aV (Os f)
def wk:∀ds d,m8 ds d->ds.length=1:=by rintro _ _ ⟨_,rfl,_⟩;rfl
section
variable {X:Cx}
def xv(h:fA P w K mg base k mT jQ X):∀ds d,m6 ds d->vH X (Lg mT ds) (ft jQ) d:=by
 rintro ds d ⟨xs,rfl,hl,rfl⟩;have t:=h.at';haveI:=h.XM;have e:s9 [D.int 1,D.int (-1),D.int 2] (xs.getD 2 0%3)=some (.int<|Ld<|xs.getD 2 0):=by
  have:(xs.getD 2 0%3).toNat=0\/(xs.getD 2 0%3).toNat=1\/(xs.getD 2 0%3).toNat=2:=by lia
  unfold Ld;rw[show(xs.getD 2 0%3)=((xs.getD 2 0%3).toNat:Int)by lia];rcases this with z |z |z<;>rw[z]<;>rfl
 refine Ft<|Xp.eq (sR t<|XF.cons (k:=nk 0 0) (bH<|ai ak<|ai ak av) (cu (bU (bM (W0.ql<|aa t 0) ak<|dY (n:=0)<|by lia) ak) ak)<|XF.cons (k:=nk 1 0) (bH<|ai ak<|ai ak av) (cu (bU (bM (W0.ql<|aa t 0) ak<|dY (n:=1)<|by lia) ak) ak)<|XF.cons (k:=nk 0 1) (bH<|ai ak<|ai ak av) (bM (Xe.toQ<|fg<|ai ak<|ai (gu ak)<|ai ak av) (bU (bM (W0.ql<|aa t 0) ak<|dY (n:=2)<|by lia) ak) e) .nil) rfl
def Ah(h:fA P w K mg base k mU jR X)(Xa:mg "tuple"=none)(cT:Callee X "_law_trim" io):Go X mU jR m8:=by rintro ds d ⟨f,rfl,l1,l2,rfl⟩;have t:=h.at';have b1:=h.bt Xa;refine aM<|cp<|W0.eq (gG t b1<|Xe.toQ (dR t ["_law_board_here","_law_row"] (oU rfl) (j8<|aa t 0) (by rw[ab];exact gR<|by lia) λX' cx=>?_)) (by show D.tup _=D.tup _;unfold Os;rw[bp]);have t':=cx.at';exact W9.gen aD (aD ∘ bR) (λr=>[.val<|aV f,.val<|aD r]) f _ (λx hx=>aU t' 1) (λx hx y hy=>aU t' 1) λr hr=>aX t' (cx.callee cT) (ai (aa t' 1 rfl) av) ⟨r,rfl,by have:=l2 r hr;lia,rfl⟩
def Ai(h:fA P w K mg base k mV iW X)(W6:mg "range"=none)(cU:XE X "_law_upright" m6)(cB:Callee X "_law_board_of" iF)(cP:XE X "_law_product" kq):Go X mV iW m9:=by
 rintro ds d ⟨xs,way,rfl,hl,hl2,rfl⟩;have t:=h.at';haveI:=h.XM;have b1:=h.bt W6;have hv:∀n:Nat,n<13->s9 (xs.map D.int) n=some (.int<|xs.getD n 0):=λn hn=>dY (by lia);refine ay (iy t 2 (dR (rs:=[.Xm<|ip xs,.Xm<|ip<|xs.drop 3]) t ["_law_xs","_law_way","_law_lines","_law_shared","_law_k"] (oU rfl) (X5.eq (eD t b1 ak (by decide)<|by decide) (show _=(List.range 2).map λ(j:Nat)=>D.int j by simp[cH])) (by rw[gq];decide) λX' cx=>?_) (hs:=(Co (show X.env.scope=(dE<|aK iW).scope from t.eS)).trans rfl)) ?_;have t':=cx.at';refine W9.gen (λ(j:Nat)=>D.int j) (λj=>D.Xm<|ip<|xs.drop<|3*j) (λj=>[.val<|bu xs,.val<|.int way,.un,.un,.val<|.int j]) (List.range 2) _ (λx hx=>aU t' 4) (λx hx y hy=>aU t' 4) λj hj=>?_;have hj:=aY.mp hj;exact Xp.Xk<|iK t' (cx.YI cU) (ai (W0.eq (Xe.Xk<|j7 (W0.ql<|aa t' 0 rfl) (j5<|eh ak (aa t' 4 rfl)<|gD (by lia)<|by lia) ia)<|by rw[jr,show 3*j=((3*j:Nat):Int)by lia,FD<|by lia]) av) ⟨_,rfl,by rw[cO];lia,rfl⟩;refine eL 2 rfl ?_;have u1:=iH xs;have u2:=iH<|xs.drop 3;have v1:=Lr xs;have v2:=Lr<|xs.drop 3;have ZS:∀n:Nat,n<13->∀{U:dP}{p1 p2 p3:Pos}{j:Nat},U[0]?=some (.val<|bu xs)->W0 X U (.Subscript (.Name "_law_xs" p1) (.Constant (.int n) j p2) p3) (.int<|xs.getD n 0):=λn hn{_ _ _ _ _}r=>bM (W0.ql<|aa t 0 r) ak<|hv n hn;by_cases h1:way=1;refine ff<|fF (W5.eq (eO (aa t 1) ak)<|aq h1)<|aM<|cp<|W0.eq (Xe.Xk<|fg<|ai (bH<|ai (bH<|ai (cu (bU (ZS 0 (by lia) rfl) ak) ak) av)<|ai (bH<|ai (cu (bU (ZS 1 (by lia) rfl) ak) ak) av)<|ai (bH<|ai (cu (bU (ZS 2 (by lia) rfl) ak) ak)<|ai (dj ak<|bU (ZS 3 (by lia) rfl) ak) av) av) av) ?_;unfold J8;rw[ag h1];rfl;refine ay (fx (W5.eq (eO (aa t 1) ak)<|aj h1) dM) ?_;by_cases h2:way=2;refine ff<|fF (W5.eq (eO (aa t 1) ak)<|aq h2)<|aM<|cp<|W0.eq (Xe.Xk<|fg<|ai (aX t cB (ai (Xp.Xk<|iK t cP (ai (Xp.Xk<|iK t cP (ai (bM (W0.ql<|aa t 2) ak)<|ai (bM (W0.ql<|aa t 2) ak) av) ⟨_,_,rfl,u1.Yp,u1.Yp,(show 3<=1000 by decide),(show 3<=1000 by decide),v1,rfl⟩)<|ai (bM (W0.ql<|aa t 2) ak) av) ⟨_,_,rfl,CF u1.Yp u1.Yp,u2.Yp,?_,(show 3<=1000 by decide),v2,rfl⟩) av) ⟨_,rfl,rfl⟩) av) ?_;have:=(u9 (ip xs) u1.Yp.keys (λ_ _=>0) (ip xs) [] ⟨(λ_ h=>(nomatch h)),DS⟩ u1.Yp.keys).2.2;exact aL this (show 0+3*3<=1000 by decide);unfold J8;rw[af h1,ag h2];rfl;refine ay (fx (W5.eq (eO (aa t 1) ak)<|aj h2) dM) ?_;refine ay (df t 3<|Xp.Xk<|Xp.eq (sR t<|XF.cons (k:=nk 0 2) (bH<|ai ak<|ai ak av) (dj ak<|bU (ZS 9 (by lia) rfl) ak)<|XF.cons (k:=nk 0 0) (bH<|ai ak<|ai ak av) (cu (bU (ZS 10 (by lia) rfl) ak) ak)<|XF.cons (k:=nk 1 1) (bH<|ai ak<|ai ak av) (cu (bU (i:=xs.getD 11 0) (ZS 11 (by lia) rfl) ak<|by decide) ak)<|XF.cons (k:=nk 1 0) (bH<|ai ak<|ai ak av) (cu (bU (i:=xs.getD 12 0) (ZS 12 (by lia) rfl) ak<|by decide) ak) .nil) rfl) ?_;refine aM<|cp<|W0.eq (Xe.Xk (dR (rs:=(List.range 2).map λj=>aV<|bN<|fW (Gp xs)<|ip<|xs.drop<|3*j) t ["_law_xs","_law_way","_law_lines","_law_shared","_law_k"] (oU<|by decide) (X5.eq (eD t b1 ak (by decide)<|by decide) (show _=(List.range 2).map λ(j:Nat)=>D.int (j:Int)by simp[cH])) (by rw[gq];decide) λX' cx=>?_)) ?_;have t':=cx.at';refine W9.gen (λ(j:Nat)=>D.int (j:Int)) _ (λj=>[.val<|bu xs,.val<|.int way,.val<|.lst [.Xm<|ip xs,.Xm<|ip<|xs.drop 3],.val<|.Xm<|Gp xs,.val<|.int (j:Int)]) (List.range 2) _ (λx hx=>aU t' 4) (λx hx y hy=>aU t' 4) λj hj=>?_;have hj:=aY.mp hj;have ej:s9 [D.Xm<|ip xs,D.Xm<|ip<|xs.drop 3] (j:Int)=some (.Xm<|ip<|xs.drop<|3*j):=by
  have:j=0\/j=1:=by lia
  rcases this with rfl |rfl<;>rfl
 have uj:=iH<|xs.drop<|3*j;exact aX t' (cx.callee cB) (ai (Xp.Xk<|iK t' (cx.YI cP) (ai (aa t' 3 rfl)<|ai (bM (W0.ql<|aa t' 2 rfl) (aa t' 4 rfl) ej) av) ⟨_,_,rfl,(vZ xs).Yp,uj.Yp,(show(4:Nat)<=1000 by decide),(show(3:Nat)<=1000 by decide),Lr _,rfl⟩) av) ⟨_,rfl,rfl⟩;unfold J8;rw[af h1,af h2];rfl
def DI(h:fA P w K mg base k pT mj X)(Xa:mg "tuple"=none)(W6:mg "range"=none)(W7:mg "len"=none)(c1:Callee X "_law_trim" io):Go X pT mj qb:=by
 rintro ds d ⟨f,rfl,ok,hf,rfl⟩;have t:=h.at';haveI:=h.XM;have b1:=h.bt Xa;have b2:=h.bt W6;have b3:=h.bt W7;have hl:=hf.ln;refine ay (jJ (rs:=(Bw f).map aD) t 1 ["_law_board_here","_law_rows","_law_k"] (oU rfl) (oQ t b2 ak (bX t b3<|W0.qt<|aa t 0) ⟨by decide,by decide,by lia,by rw[ab];lia⟩) (by rw[gq];simp[cH];lia) λX' cx=>?_) ?_;have e:(((f.map aD).length:Int)-1).toNat=f.length-1:=by rw[ab];lia
 have t':=cx.at';unfold Bw;rw[e,bp];refine W9.gen (λ(i:Nat)=>D.int<|1+i) _ (λi=>[.val<|aV f,.un,.val<|.int<|1+i]) _ _ (λx hx=>Fv cx 2) (λx hx y hy=>Fv cx 2) λx hx=>?_;have Yw:1+x<f.length:=by have:=aY.mp hx;lia
 have gm:f.getD (1+x) []∈f:=hX Yw;have gr:=hf.Yi _ gm;refine aX t' (cx.callee c1) (ai (Xe.Xk (dR (rs:=((f.getD (1+x) []).map λy=>(1+(x:Int))*y).map D.int) t' ["_law_board_here","_law_rows","_law_k","_law_one"] (oU rfl) (j8<|bM (W0.qt<|aa t' 0 rfl) (aa t' 2 rfl)<|by rw[show(1+x)=((1+x:Nat):Int)by lia];exact VR Yw<|by lia) (by simp only[ab];exact gR<|by lia) λX2 cy=>?_)) av) ⟨_,rfl,by rw[ab];lia,?_⟩;have t2:=cy.at';rw[bp];exact W9.gen D.int _ (λy=>[.val<|aV f,.un,.val<|.int<|1+x,.val<|.int y]) _ _ (λx hx=>aU t2 3) (λx hx y hy=>aU t2 3) λy hy=>eh (aa t2 2 rfl) (aa t2 3 rfl)<|gD (by lia) (by lia);show aD _=aD _;rw[mz<|l8 (ok.get _)<|by lia];refine eL 1 rfl ?_;exact aM<|cp<|gG t b1<|W0.ql<|aa t 1
end
def OE(xs:az)(way:Int):(J8 xs way).length<=2:=by unfold J8;split;show 1<=2;decide;split;show 1<=2;decide;show 2<=2;decide
def NT(kvs:jj):(bN kvs).length<100/\∀r∈bN kvs,r.length<100:=by let⟨h1,h2⟩:=JQ kvs;refine⟨by lia,λr hr=>?_⟩;obtain⟨j,hj,rfl⟩:=eE hr;have:=h2 j;rw[ac,am hj]at this;have:((bN kvs)[j]).length<=9:=this;lia
def Rn(xs:az)(way:Int):∀f∈J8 xs way,f.length<100/\∀r∈f,r.length<100:=λf hf=>by by_cases h1:way=1;have e:J8 xs way=[[[xs.getD 0 0%9-4],[xs.getD 1 0%5-2],[xs.getD 2 0%5-2,1+xs.getD 3 0%2]]]:=ag h1;rw[e]at hf;generalize xs.getD 0 0%9-4=a at hf;generalize xs.getD 1 0%5-2=b at hf;generalize xs.getD 2 0%5-2=c at hf;generalize 1+xs.getD 3 0%2=d at hf;rw[aH.mp hf];simp;by_cases h2:way=2;have e:J8 xs way=[bN<|fW (fW (ip xs)<|ip xs)<|ip<|xs.drop 3]:=(af h1).trans<|ag h2;rw[e]at hf;exact aH.mp hf▸NT (fW (fW (ip xs)<|ip xs)<|ip<|xs.drop 3);have e:J8 xs way=[bN<|fW (Gp xs)<|ip xs,bN<|fW (Gp xs)<|ip<|xs.drop 3]:=(af h1).trans<|af h2;rw[e]at hf;have b1:=NT<|fW (Gp xs)<|ip xs;have b2:=NT<|fW (Gp xs)<|ip<|xs.drop 3;generalize bN (fW (Gp xs)<|ip xs)=u at hf b1;generalize bN (fW (Gp xs)<|ip<|xs.drop 3)=v at hf b2;rcases aF.mp hf with rfl |hf;exact b1;rwa[aH.mp hf]
def Ud(x:Int):Bd:=if x / 8%7-3=0 then []else [[x / 8%7-3]]
def SZ(c x:Int):Bd:=if x%8=1 then Ud x else Ui c
def UD(c x:Int)(k:Nat)(fo:List Bd):Bd:=if x%8=2/\fo≠[]then Oc (2+(k:Int)) (fo.getD 0 [])else SZ c x
def Qg(c x:Int)(k:Nat)(fo:List Bd):Bd:=if x%8=3/\fo≠[]then fo.getD (fo.length-1) []else UD c x k fo
def Gr(ns xs:az):Nat->List Bd|0=>[]|k+1=>Gr ns xs k++[Qg (lZ ns<|1+(k:Int)) (xs.getD (1+k) 0) k<|Gr ns xs k]
def Lh(ns:az):az:=qy (lZ ns 0) 24
def K1(ns:az):List Bd:=if 0<(Lh ns).getD 9 0%12/\(Lh ns).getD 9 0%12<4 then(J8 ((Lh ns).drop 10)<|(Lh ns).getD 9 0%12).map Os else Gr ns (Lh ns) ((Lh ns).getD 0 0%5).toNat
def Gd.mono{N:Nat}(h:Gd p M f)(q:M<=N):Gd p N f:=⟨h.ok,h.dg,h.ln,aL h.nm q⟩
def Q5(c x:Int):Gd 2 100 (SZ c x):=by unfold SZ;split;unfold Ud;split;exact R4 _ _;rename_i z;exact R1 _ z (by lia) _;exact Sb c
theorem M9(ns xs:az):∀k,k<=4->(Gr ns xs k).length=k/\(∀f∈Gr ns xs k,Gd 2 500 f)/\(Gr ns xs k≠[]->Gd 2 100 ((Gr ns xs k).getD 0 []))
 |0,_=>⟨rfl,(λ_ h=>nomatch h),λh=>absurd rfl h⟩
 |k+1,hk=>by
  obtain⟨h1,h2,h3⟩:=M9 ns xs k (by lia);show(Gr ns xs k++[_]).length=k+1/\_;have g:Gd 2 500 (Qg (lZ ns<|1+k) (xs.getD (1+k) 0) k<|Gr ns xs k):=by unfold Qg;split;rename_i z;exact h2 _<|hX (by have:=ar.mpr z.2;lia);unfold UD;split;rename_i z;have:=Rt (h3 z.2) (c:=2+(k:Int)) (by lia) (n:=5) (by lia);exact this.mono (by decide);exact(Q5 _ _).mono<|by decide
  refine⟨by simp[h1],λf hf=>?_,λ_=>?_⟩;rcases cQ.mp hf with hf |hf;exact h2 f hf;rwa[aH.mp hf];show Gd 2 100 ((Gr ns xs k++[_]).getD 0 []);by_cases z:Gr ns xs k=[];rw[z];unfold Qg UD;rw[af λy=>y.2 rfl,af λy=>y.2 rfl];exact Q5 _ _;have:=h3 z;have l:=ar.mpr z;rw[ac,a8<|by lia,<-ac];exact this
def S4(ns:az):vK (K1 ns):=by unfold K1;split;exact OC _ _;have f:=M9 ns (Lh ns) ((Lh ns).getD 0 0%5).toNat (by lia);exact NQ (by lia) f.2.1
def Sx(l:List Bd):Fn 4 (.lst<|l.map aV):=Fn.lst λx hx=>by obtain⟨f,_,rfl⟩:=aZ.mp hx;exact Fl f
def Nj(l:List Bd):(mB<|.lst<|l.map aV).eqv (mB<|.lst [])=decide (l=[]):=by show(PyData.list<|Xb<|l.map aV).eqv (.list<|Xb [])=_;cases l with|nil=>simp[Xb,PyData.eqv,PyData.eqvAll]|cons r f=>simp[Xb,PyData.eqv,PyData.eqvAll]
def jF(ds:ck)(d:D):Prop:=∃ns:az,ds=[.Yh ns]/\d=nt (K1 ns)
def q9:∀ds d,jF ds d->ds.length=1:=by rintro _ _ ⟨_,rfl,_⟩;rfl
section
variable {X:Cx}
def ug(h:fA P w K mg base k jD iz X)(W6:mg "range"=none)(Xa:mg "tuple"=none)(W7:mg "len"=none)(cN:Callee X "_law_numbers" kr)(cC:Callee X "_law_cell" rX)(cB:Callee X "_law_board" qd)(cT:Callee X "_law_trimmed" m8)(cS:Callee X "_law_special" m9):Go X jD iz jF:=by
 rintro ds d ⟨ns,rfl,rfl⟩;have t:=h.at';haveI:=h.XM;have b1:=h.bt Xa;have b2:=h.bt W6;have b3:=h.bt W7;refine ay (df (d:=bu<|Lh ns) t 1<|aX t cN (ai (aX t cC (ai (aa t 0)<|ai ak av) ⟨ns,0,rfl,by decide,by decide,rfl⟩)<|ai ak av) ⟨_,24,rfl,by decide,rfl⟩) ?_;have hl:(Lh ns).length=24:=wa _ _;unfold K1;generalize Lh ns=xs at hl;have ZS:∀n:Nat,n<24->∀{U:dP}{p1 p2 p3:Pos}{j:Nat},U[1]?=some (.val<|bu xs)->W0 X U (.Subscript (.Name "_law_xs" p1) (.Constant (.int n) j p2) p3) (.int<|xs.getD n 0):=λn hn{_ _ _ _ _}r=>bM (W0.ql<|aa t 1 r) ak<|dY (by lia);have h5:=md (xs.getD 0 0) (m:=5) (by decide);have t9:∀{U:dP}{p1 p2 p3 p4 p5:Pos}{j j':Nat},U[1]?=some (.val<|bu xs)->W0 X U (.BinOp (.Subscript (.Name "_law_xs" p1) (.Constant (.int 9) j p2) p3) .Mod (.Constant (.int 12) j' p4) p5) (.int<|xs.getD 9 0%12):=λ{_ _ _ _ _ _ _ _}r=>bU (ZS 9 (by lia) r) ak;by_cases z:0<xs.getD 9 0%12/\xs.getD 9 0%12<4;rw[ag z];have gs:=Rn (xs.drop 10)<|xs.getD 9 0%12;have sl:=OE (xs.drop 10)<|xs.getD 9 0%12;refine ff<|fF (W5.eq (Ng ak (t9 rfl) ak)<|by rw[aq z.1,aq z.2];rfl)<|aM<|cp<|W0.eq (gG t b1<|Xe.toQ (dR t ["_law_script","_law_xs","_law_found","_law_k","","_law_number","_law_board_here"] (oU<|by decide) (gN<|aX t cS (ai (d:=bu<|xs.drop 10) (W0.eq (Xe.Xk<|j7 (W0.ql<|aa t 1) (j5 ak) ia)<|by rw[jr,show(10:Int)=((10:Nat):Int)by rfl,FD<|by lia])<|ai (t9 rfl) av) ⟨_,_,rfl,by rw[cO];lia,by rw[cO];lia,rfl⟩) (by rw[ab,gq];lia) λX' cx=>?_)) (by show D.tup _=D.tup _;rw[bp]);have t':=cx.at';exact W9.gen aV (aV ∘ Os) (λf=>[.val<|.Yh ns,.val<|bu xs,.un,.un,.un,.un,.val<|aV f]) _ _ (λx hx=>aU t' 6) (λx hx y hy=>aU t' 6) λf hf=>aX t' (cx.callee cT) (ai (aa t' 6 rfl) av) ⟨f,rfl,(gs f hf).1,(gs f hf).2,rfl⟩;rw[af z];refine ay (fx (W5.eq (Ng ak (t9 rfl) ak)<|by by_cases y:0<xs.getD 9 0%12;rw[aj (p:=xs.getD 9 0%12<4) λq=>z ⟨y,q⟩,DZ];rw[aj y,Tk]) dM) ?_
 refine ay (iy t 2<|fg av) ?_;obtain⟨m,hm⟩:∃m:Nat,xs.getD 0 0%5=m:=⟨_,(Gj h5.1).symm⟩;rw[hm,bQ];refine ay (ρ':=[.val<|.Yh ns,.val<|bu xs,.own<|(Gr ns xs m).map aV,.un,.un,.un]) (gY t (eD (j:=(m:Int)) t b2 (W0.eq (bU (i:=xs.getD 0 0) (ZS 0 (by lia) rfl) ak<|by decide)<|bo D.int hm) (by lia)<|by lia)<|Xc.Xl (λi=>[.val<|.Yh ns,.val<|bu xs,.own<|(Gr ns xs i).map aV,.un,.un,.un]) (λi d hi=>?_) rfl ?_) ?_;obtain⟨YR,rfl⟩:=gC hi;let⟨l,g,g0⟩:=M9 ns xs i (by lia);show∃W1,_/\W4 X W1 _ (.nx [.val<|.Yh ns,.val<|bu xs,.own<|(Gr ns xs i++[Qg (lZ ns<|1+(i:Int)) (xs.getD (1+i) 0) i<|Gr ns xs i]).map aV,.un,.un,.un]);generalize Gr ns xs i=fo at l g g0;have x8:∀{U:dP}{p1 p2 p3 p4 p5 p6 p7:Pos}{j j':Nat},U[1]?=some (.val<|bu xs)->U[3]?=some (.val<|.int (i:Int))->W0 X U (.BinOp (.Subscript (.Name "_law_xs" p1) (.BinOp (.Constant (.int 1) j p2) .Add (.Name "_law_k" p3) p4) p5) .Mod (.Constant (.int 8) j' p6) p7) (.int<|xs.getD (1+i) 0%8):=λ{_ _ _ _ _ _ _ _ _ _}r1 r2=>bU (i:=xs.getD (1+i) 0) (bM (W0.ql<|aa t 1 r1) (dj ak<|aa t 3 r2)<|by rw[show(1:Int)+(i:Int)=((1+i:Nat):Int)by lia];exact dY<|by lia) ak (by decide);have ne:∀{U:dP}{p1 p2 p3:Pos}{c:Nat},U[2]?=some (.own<|fo.map aV)->W5 X U (.Compare (.Name "_law_found" p1) [.NotEq] [.List [] p2] p3) (decide<|fo≠[]):=λ{_ _ _ _ _}r=>W5.eq (kM t (Yj.p<|dw t 2 r) (W0.p<|Xe.Xk<|fg av) ((Sx fo).sh<|by decide) (fq []) rfl)<|by show(!(mB<|.lst<|fo.map aV).eqv (mB<|.lst []))=_;rw[Nj];simp
 refine⟨_,c9 t 3,W4.weak (ay (df (d:=aV<|Ui<|lZ ns<|1+(i:Int)) t 4<|aX t cB (ai (aX t cC (ai (aa t 0)<|ai (dj ak<|aa t 3) av) ⟨ns,1+(i:Int),rfl,by lia,by lia,rfl⟩) av) ⟨_,rfl,rfl⟩)<|ay (ρ':=[.val<|.Yh ns,.val<|bu xs,.own<|fo.map aV,.val<|.int (i:Int),.val<|aV<|SZ (lZ ns<|1+(i:Int))<|xs.getD (1+i) 0,.un]) ?_<|ay (ρ':=[.val<|.Yh ns,.val<|bu xs,.own<|fo.map aV,.val<|.int (i:Int),.val<|aV<|UD (lZ ns<|1+(i:Int)) (xs.getD (1+i) 0) i fo,.un]) ?_<|ay (ρ':=[.val<|.Yh ns,.val<|bu xs,.own<|fo.map aV,.val<|.int (i:Int),.val<|aV<|Qg (lZ ns<|1+(i:Int)) (xs.getD (1+i) 0) i fo,.un]) ?_<|aM (o:=.nx [.val<|.Yh ns,.val<|bu xs,.own<|(fo++[Qg (lZ ns<|1+(i:Int)) (xs.getD (1+i) 0) i fo]).map aV,.val<|.int (i:Int),.val<|aV<|Qg (lZ ns<|1+(i:Int)) (xs.getD (1+i) 0) i fo,.un]) ?_)<|.keep<|.keep<|.keep<|.forget<|.forget<|.keep .nil⟩;unfold SZ;by_cases y:xs.getD (1+i) 0%8=1;rw[ag y];refine fF (W5.eq (eO (x8 rfl rfl) ak)<|aq y)<|W4.weak (ay (df (d:=.int<|xs.getD (1+i) 0 / 8%7-3) t 5<|cu (bU (i:=xs.getD (1+i) 0 / 8) (vw t (bM (W0.ql<|aa t 1) (dj ak<|aa t 3)<|by rw[show(1:Int)+(i:Int)=((1+i:Nat):Int)by lia];exact dY<|by lia) ak) ak<|by decide) ak)<|ay (df (d:=aV []) t 4<|bH av)<|aM (o:=.nx [.val<|.Yh ns,.val<|bu xs,.own<|fo.map aV,.val<|.int (i:Int),.val<|aV (if xs.getD (1+i) 0 / 8%7-3=0 then []else [[xs.getD (1+i) 0 / 8%7-3]]),.val<|.int<|xs.getD (1+i) 0 / 8%7-3]) ?_)<|.keep<|.keep<|.keep<|.keep<|.keep<|.forget .nil;by_cases q:xs.getD (1+i) 0 / 8%7-3=0;rw[ag q];exact fx (W5.eq (nR (aa t 5) ak)<|by rw[aq q];rfl) dM;rw[af q];exact fF (W5.eq (nR (aa t 5) ak)<|by rw[aj q];rfl)<|aM<|df (d:=aV [[xs.getD (1+i) 0 / 8%7-3]]) t 4<|bH<|ai (bH<|ai (aa t 5) av) av;rw[af y];exact fx (W5.eq (eO (x8 rfl rfl) ak)<|aj y) dM;unfold UD;by_cases y:xs.getD (1+i) 0%8=2;by_cases q:fo=[];rw[af λh=>h.2 q];exact fx (XT.toT<|j3 (W5.eq (eO (x8 rfl rfl) ak)<|aq y)<|j4<|W5.eq (ne (c:=0) rfl)<|aj λh=>h q) dM;rw[ag ⟨y,q⟩];have l0:=ar.mpr q;have gg:=g0 q;have e0:s9 (fo.map aV) 0=some (aV<|fo.getD 0 []):=by cases fo with|nil=>exact absurd rfl q|cons a b=>exact wC (g:=aV) (n:=0) (by decide) rfl<|by simp
 have gl:=gg.ln;refine fF (XT.toT<|j3 (W5.eq (eO (x8 rfl rfl) ak)<|aq y)<|j4<|W5.eq (ne (c:=0) rfl)<|aq q)<|aM<|df (d:=aV<|Oc (2+(i:Int))<|fo.getD 0 []) t 4<|W0.eq (gG t b1<|Xe.toQ (dR (rs:=(fo.getD 0 []).map λr=>aD (r.map λx=>x*(2+(i:Int)))) t ["_law_script","_law_xs","_law_found","_law_k","_law_board_here","_law_number","_law_row"] (oU<|by decide) (j8<|bM (dw t 2 rfl) ak e0) (by rw[ab];exact gR<|by lia) λX' cx=>?_)) (by show D.tup _=D.tup _;unfold Oc;rw[bp];rfl);have t':=cx.at';refine W9.gen aD _ (λr=>[.val<|.Yh ns,.val<|bu xs,.own<|fo.map aV,.val<|.int (i:Int),.val<|aV<|SZ (lZ ns<|1+(i:Int))<|xs.getD (1+i) 0,.un,.val<|aD r]) _ _ (λx hx=>aU t' 6) (λx hx y hy=>aU t' 6) λr hr=>?_;have rl:r.length<=3:=by obtain⟨j,hj,rfl⟩:=eE hr;have:=gg.dg j;rw[ac,am hj]at this;have:((fo.getD 0 [])[j]).length<=2+1-j:=this;lia
 refine W0.eq (gG t' (cx.blt b1)<|Xe.toQ (dR (rs:=r.map λx=>D.int<|x*(2+(i:Int))) t' ["_law_script","_law_xs","_law_found","_law_k","_law_board_here","_law_number","_law_row","_law_one"] (oU<|by decide) (j8<|aa t' 6 rfl) (by rw[ab];exact gR<|by lia) λX2 cy=>?_)) (by show D.tup _=D.tup _;rw[bp];rfl);have t2:=cy.at';refine W9.gen D.int _ (λx=>[.val<|.Yh ns,.val<|bu xs,.own<|fo.map aV,.val<|.int (i:Int),.val<|aV<|SZ (lZ ns<|1+(i:Int))<|xs.getD (1+i) 0,.un,.val<|aD r,.val<|.int x]) _ _ (λx hx=>aU t2 7) (λx hx y hy=>aU t2 7) λx hx=>eh (aa t2 7 rfl) (dj ak<|aa t2 3 rfl) ?_;have:=pE hx;have:=vi hr;have:=gg.nm;exact gD (by lia) (by lia);rw[af λh=>y h.1];exact fx (XT.toT<|pK<|W5.eq (eO (x8 rfl rfl) ak)<|aj y) dM;unfold Qg;by_cases y:xs.getD (1+i) 0%8=3;by_cases q:fo=[];rw[af λh=>h.2 q];exact fx (XT.toT<|j3 (W5.eq (eO (x8 rfl rfl) ak)<|aq y)<|j4<|W5.eq (ne (c:=0) rfl)<|aj λh=>h q) dM;rw[ag ⟨y,q⟩];have l0:=ar.mpr q;exact fF (XT.toT<|j3 (W5.eq (eO (x8 rfl rfl) ak)<|aq y)<|j4<|W5.eq (ne (c:=0) rfl)<|aq q)<|aM<|df (d:=aV<|fo.getD (fo.length-1) []) t 4<|bM (dw t 2 rfl) (cu (bX t b3<|dw t 2 rfl) ak)<|by rw[ab,show(fo.length:Int)-1=((fo.length-1:Nat):Int)by lia,wC (g:=aV) (n:=fo.length-1) (by lia) (by lia)<|by lia,ac,am<|by lia];rfl
 rw[af λh=>y h.1];exact fx (XT.toT<|pK<|W5.eq (eO (x8 rfl rfl) ak)<|aj y) dM;rw[bj];exact jp t 2 rfl (aa t 4) (by rw[ab,gq];lia);have e:(cH 0 (m:Int).toNat).length=m:=by simp[cH]
 rw[e];exact aM<|cp<|gG t b1<|dw t 2 rfl
end
def SF{bs:List Bd}(h:vK bs):∃out,Due bs out/\out.length<100:=by
 have iR:=I9 h;have lw:(bs.filter gX).length<=4:=aL (kw _ _) h.len;have lr:=xQ (bs.filter gX) _ lw;have sq:(bs.filter gX).length*(bs.filter gX).length<=16:=fy lw lw;generalize YF (bs.filter gX) (bs.filter gX).length=rows at iR lr;have mem:∀q,q∈(rows.filter ji).map YJ↔∃r,Ts bs r/\1<r.length/\Xz r q:=λq=>by rw[aZ];constructor;rintro⟨r,h1,rfl⟩;let⟨h1,h2⟩:=dk.mp h1;have h1:=(iR r).mp h1;exact⟨r,h1,fv h2,pN<|h.r9 r h1⟩;rintro⟨r,h1,h2,h3⟩;have h9:=h.r9 r h1;exact⟨r,dk.mpr ⟨(iR r).mpr h1,aq h2⟩,(pN h9).uniq h9.ok h9.ne h3⟩
 have k:=Hy _ (Bv<|(rows.filter ji).map YJ) _<|ao _;rw[fJ]at k;have ep:=yo<|(rows.filter ji).map YJ;refine⟨_,⟨k.1,k.2.1,λq=>by rw[k.2.2,ep.mem_iff,mem]⟩,?_⟩;have l1:=JJ<|wX<|(rows.filter ji).map YJ;have l2:=ep.length_eq;have l3:=kw ji rows;rw[ab]at l2;lia
section
variable {X:Cx}
theorem UC(h:fA P w K mg base k N2 yx X)(Y9:mg "isinstance"=none)(Xu:mg "list"=none)(zD8:mg "all"=none)(Xa:mg "tuple"=none)(cS:Callee X "_law_some_boards" jF)(cD:Callee X "_law_due" uv)(cB:YK X "base_rows" rT):Go X N2 yx Cg:=by
 rintro ds d ⟨ns,rfl,_,rfl⟩;have t:=h.at';haveI:=h.XM;have b1:=h.bt Y9;have b2:=h.bt Xu;have b3:=h.bt zD8;have ok:=S4 ns;obtain⟨out,hd,ho⟩:=SF ok;refine ay (df (d:=nt<|K1 ns) t 1<|aX t cS (ai (aa t 0) av) ⟨ns,rfl,rfl⟩) ?_;generalize K1 ns=bs at ok hd;refine ay (df (d:=gZ out) t 2<|aX t cD (ai (aa t 1) av) ⟨bs,out,rfl,ok,hd,rfl⟩) ?_;refine ay (iy (xs:=out.map aD) t 3<|JA t cB (ai (aa t 1) av) ⟨bs,out,rfl,ok,hd,rfl⟩) ?_;refine ay (fx (PX 3 rfl ?_) dM) ?_;refine W5.eq (SD (C9<|B1<|t8 (d:=gZ out) (k:=true) t b1 b2 (aa t 3) rfl) (λ_=>PV t (C6 out) (aa t 3)<|aa t 2) λ_ _=>C9<|B1<|SC (bs:=out.map λ_=>true) t b3<|Xe.toQ (dR (rs:=(out.map λ_=>true).map D.bl) t ["_law_script","_law_boards","_law_due_here","_law_told","_law_row"] (oU<|by decide) (gN<|aa t 3) (by rw[ab,gq];lia) λX' cx=>?_)) ?_;have t':=cx.at';rw[bp];exact W9.gen aD _ (λr=>[.val<|.Yh ns,.val<|nt bs,.val<|gZ out,.val<|gZ out,.val<|aD r]) _ _ (λx hx=>aU t' 4) (λx hx y hy=>aU t' 4) λr hr=>W0.eq (Nc (d:=aD r) t' (cx.blt b1) (DB<|by rwa[cx.Ze,h.Ze]) (aa t' 4 rfl) rfl) rfl;have e:(out.map λ_=>true).all id=true:=by simp
 rw[e];rfl;refine ay (jp (d:=aD [1,2]) t 3 rfl (bH<|ai ak<|ai ak av)<|by rw[ab];exact gR<|by lia) ?_;refine ay (Kc t 3 rfl) ?_;exact aM<|cp<|PJ t (C6 out) (Xe.Xk<|JA t cB (ai (aa t 1) av) ⟨bs,out,rfl,ok,hd,rfl⟩)<|aa t 2
end
set_option maxHeartbeats 4000000 in
def all_mk{l:PySem.W.OpenLaw}(ht:l.prog.given.tree=none)(X:K.In h)(G:h.Ns mainGlobals mg)(hfa:mg "law"=some (.ref fa))(d1:Kd K "sign_of" sB f1 g1)(d2:Kd K "common_divisor" ja f2 g2)(d3:Kd K "without_end" lh f3 g3)(d4:Kd K "row_of" uY f4 g4)(d5:Kd K "other_sign" me f5 g5)(d6:Kd K "row_times" lF f6 g6)(d7:Kd K "slope" xN f7 g7)(d8:Kd K "put_low" sD f8 g8)(d9:Kd K "plain_row" nE f9 g9)(d10:Kd K "whole_quotient" i9 f10 g10)(d11:Kd K "slope_up" oZ f11 g11)(d12:Kd K "inverse_of" mi f12 g12)(d13:Kd K "made_monic" mh f13 g13)(d14:Kd K "rest_modulo" lq f14 g14)(d15:Kd K "shared_modulo" ju f15 g15)(d16:Kd K "lifted" u0 f16 g16)(d17:Kd K "shared_by" nD f17 g17)(d18:Kd K "shared_by_primes" iw f18 g18)(d19:Kd K "step_down" nC f19 g19)(d20:Kd K "divided" oG f20 g20)(d21:Kd K "rest_of" sC f21 g21)(d22:Kd K "shared_by_rests" iI f22 g22)(d23:Kd K "shared_row" ma f23 g23)(d24:Kd K "bare_row" pe f24 g24)(d25:Kd K "shifted_line" jP f25 g25)(d26:Kd K "table_of" oY f26 g26)(d27:Kd K "bits_for" pc f27 g27)(d28:Kd K "packed" uZ f28 g28)(d29:Kd K "unpacked" oX f29 g29)(d30:Kd K "line_with_pivot" iJ f30 g30)(d31:Kd K "cleared_below" iD f31 g31)(d32:Kd K "determinant" lu f32 g32)(d33:Kd K "tie_of" uX f33 g33)(d34:Kd K "first_tie" nF f34 g34)(d35:Kd K "rows_of_one" lj f35 g35)(d36:Kd K "base_rows" lG f36 g36)(d37:Kd K "_law_cell" nK f37 g37)(d38:Kd K "_law_numbers" jT f38 g38)(d39:Kd K "_law_trim" nH f39 g39)(d40:Kd K "_law_board_of" jv f40 g40)(d41:Kd K "_law_product" jS f41 g41)(d42:Kd K "_law_line" nJ f42 g42)(d43:Kd K "_law_conic" mm f43 g43)(d44:Kd K "_law_board" mo f44 g44)(d45:Kd K "_law_low_row" jU f45 g45)(d46:Kd K "_law_rest" nI f46 g46)(d47:Kd K "_law_divided" jV f47 g47)(d48:Kd K "_law_bare" nL f48 g48)(d49:Kd K "_law_first_tie" jb f49 g49)(d50:Kd K "_law_slope" mj f50 g50)(d51:Kd K "_law_due" ph f51 g51)(d52:Kd K "_law_upright" jQ f52 g52)(d53:Kd K "_law_special" iW f53 g53)(d54:Kd K "_law_trimmed" jR f54 g54)(d55:Kd K "_law_some_boards" iz f55 g55)(d56:Kd K "law" yx f56 g56)(zA:nsIn K mainGlobals "abs"=some none)(zB:nsIn K mainGlobals "len"=some none)(zC:nsIn K mainGlobals "tuple"=some none)(zD:nsIn K mainGlobals "enumerate"=some none)(zE:nsIn K mainGlobals "range"=some none)(zF:nsIn K mainGlobals "list"=some none)(zG:nsIn K mainGlobals "divmod"=some none)(zH:nsIn K mainGlobals "any"=some none)(zI:nsIn K mainGlobals "reversed"=some none)(zJ:nsIn K mainGlobals "max"=some none)(zK:nsIn K mainGlobals "sum"=some none)(zL:nsIn K mainGlobals "sorted"=some none)(zM:nsIn K mainGlobals "int"=some none)(zN:nsIn K mainGlobals "isinstance"=some none)(zO:nsIn K mainGlobals "all"=some none)(zP:nsIn K mainGlobals "PRIME_BITS"=some (some<|.ref zQ))(zR:K.lookup zQ=some ⟨.type "tuple",zS,.seq zT zU,zV⟩)(zW:zT.size<=sizeLine)(zX:Vals (([61,127,521,1279,4423]:az).map V.int) zT.toList):∃fd:FuncData,(∀(s:Shared)(v:Value),BindsTo s fd ⟨[v],[]⟩ [("_law_script",v)])/\∀base:Heap,K.In base->base.Ns mainGlobals mg->mw l.prog w K mg base uw 10 fa fd ["_law_script"] (Rm K Cg):=by have e:=hfa.symm.trans<|wP X G d56.a;cases e;have zY:=cK X G zA;have zZ:=cK X G zB;have yA:=cK X G zC;have yB:=cK X G zD;have yC:=cK X G zE;have yD:=cK X G zF;have yE:=cK X G zG;have yF:=cK X G zH;have yG:=cK X G zI;have yH:=cK X G zJ;have yI:=cK X G zK;have yJ:=cK X G zL;have yK:=cK X G zM;have yL:=cK X G zN;have yM:=cK X G zO;have b1:=d1.b1 X G yt;have b2:=d2.b2 X G nA;have b3:=d3.b2 X G qM;have b4:=d4.b1 X G Bz;have b5:=d5.b1 X G tw;have b6:=d6.b2 X G uO;have b7:=d7.b1 X G Et;have b8:=d8.b1 X G yv;have b9:=d9.b1 X G uP;have b10:=d10.b2 X G ny;have b11:=d11.b1 X G w9;have b12:=d12.b2 X G tz;have b13:=d13.b2 X G tx;have b14:=d14.b3 X G qP;have b15:=d15.b3 X G oD;have b16:=d16.b3 X G BC;have b17:=d17.b3 X G uN;have b18:=d18.b2 X G lV;have b19:=d19.b2 X G uM;have b20:=d20.b2 X G yw;have b21:=d21.b2 X G yu;have b22:=d22.b2 X G mK;have b23:=d23.b2 X G tu;have b24:=d24.b1 X G xb;have b25:=d25.b3 X G qk;have b26:=d26.b3 X G w8;have b27:=d27.b1 X G xa;have b28:=d28.b2 X G BA;have b29:=d29.b2 X G w6;have b30:=d30.b2 X G mL;have b31:=d31.b3 X G oE;have b32:=d32.b1 X G qQ;have b33:=d33.b3 X G By;have b34:=d34.b2 X G uQ;have b35:=d35.b1 X G qO;have b36:=d36.b1 X G uR;have b37:=d37.b2 X G uV;have b38:=d38.b2 X G qu;have b39:=d39.b1 X G uS;have b40:=d40.b1 X G oF;have b41:=d41.b2 X G qr;have b42:=d42.b1 X G uU;have b43:=d43.b1 X G tE;have b44:=d44.b1 X G tF;have b45:=d45.b1 X G qv;have b46:=d46.b2 X G uT;have b47:=d47.b2 X G qw;have b48:=d48.b1 X G uW;have b49:=d49.b2 X G nB;have b50:=d50.b1 X G tD;have b51:=d51.b1 X G xc;have b52:=d52.b1 X G qm;have b53:=d53.b2 X G qp;have b54:=d54.b1 X G qo;have b55:=d55.b1 X G lW;obtain⟨_,_,kV,dc,pm,an,cd,ct,_,rfl,_,_⟩:=d56.F.ex;refine⟨fnOf "law" "law" (lC yx) (ft yx) (aK yx) .none kV dc pm an cd ct,λs v=>.of_eq rfl,λbase KB _=>?_⟩;have f_:=@Uv l.prog ht w K mg base;have f_M:=@Sv l.prog ht w K mg base;have f_N:=@Su l.prog ht w K mg base;have f_D:=@Sw l.prog ht w K mg base;have o1:=f_ (k:=0) d1.F yt Fb λ_ Z=>KU Z;have o2:=f_ (k:=0) d2.F nA t4 λ_ Z=>wz Z zY;have o3:=f_ (k:=0) d3.F qM xm λ_ Z=>Bc Z zZ yA;have o4:=f_ (k:=1) d4.F Bz Hl λ_ Z=>NY Z  (Z.ca o3 b3);have o5:=f_ (k:=0) d5.F tw zb λ_ Z=>DF Z yA;have o6:=f_ (k:=2) d6.F uO AT λ_ Z=>FP Z yB zZ<|Z.ca o4 b4;have o7:=f_ (k:=0) d7.F Et Kx λ_ Z=>Qf Z yA yC zZ;have o8:=f_ (k:=1) d8.F yv Fd λ_ Z=>KY Z yA<|Z.ca o2 b2;have o9:=f_ (k:=2) d9.F uP AU λ_ Z=>FQ Z  (Z.ca o8 b8)<|Z.ca o5 b5;have o10:=f_ (k:=2) d10.F ny t3 λ_ Z=>wx Z yD zZ yE yC yF<|Z.ca o4 b4;have o11:=f_ (k:=3) d11.F w9 vm λ_ Z=>HS Z yA yC zZ<|Z.ca o6 b6;have o12:=f_ (k:=0) d12.F tz zd λ_ Z=>DH Z;have o13:=f_ (k:=1) d13.F tx zc λ_ Z=>DG Z  (Z.ca o12 b12);have o14:=f_ (k:=2) d14.F qP xo λ_ Z=>Bg Z yD zZ yC<|Z.ca o4 b4;have o15:=f_ (k:=3) d15.F oD vn λ_ Z=>xy Z  (Z.ca o13 b13)<|Z.ca o14 b14;have o16:=f_ (k:=3) d16.F BC Hn λ_ Z=>N0 Z  (Z.ca o9 b9)<|Z.ca o4 b4;have o17:=f_ (k:=4) d17.F uN AS λ_ Z=>FO Z zZ (Z.ca o15 b15) (Z.ca o16 b16) (Z.ca o2 b2)<|Z.ca o10 b10;have o18:=f_ (k:=5) d18.F lV q8 λ_ Z=>uf Z  (Z.ca o17 b17) ⟨zQ,wP X G zP,_,zT,zU,zR,rfl,rfl,zW,zX⟩;have o19:=f_ (k:=1) d19.F uM AR λ_ Z=>FN Z zY (Z.ca o2 b2)<|Z.ca o1 b1;have o20:=f_ (k:=2) d20.F yw Fe λ_ Z=>KZ Z yD zZ yB (Z.ca o19 b19)<|Z.ca o4 b4;have o21:=f_ (k:=3) d21.F yu Fc λ_ Z=>KW Z  (Z.ca o8 b8)<|Z.ca o20 b20;have o22:=f_ (k:=4) d22.F mK sW λ_ Z=>vE Z  (Z.ca o9 b9)<|Z.ca o21 b21;have o23:=f_ (k:=6) d23.F tu za λ_ Z=>DE Z  (Z.ca o18 b18) (Z.ca o9 b9)<|Z.ca o22 b22;have o24:=f_ (k:=7) d24.F xb CZ λ_ Z=>HV Z  (Z.ca o9 b9) (Z.ca o10 b10) (Z.ca o23 b23)<|Z.ca o7 b7;have o25:=f_ (k:=0) d25.F qk wg λ_ Z=>Ag Z yG;have o26:=f_ (k:=1) d26.F w8 CW λ_ Z=>HR Z zZ yC<|Z.ca o25 b25;have o27:=f_ (k:=0) d27.F xa CY λ_ Z=>HU Z yH yI zY;have o28:=f_ (k:=0) d28.F BA Hm λ_ Z=>NZ Z yG;have o29:=f_ (k:=2) d29.F w6 CV λ_ Z=>HQ Z  (Z.ca o4 b4);have o30:=f_ (k:=0) d30.F mL sX λ_ Z=>vF Z yC zZ;have o31:=f_M (k:=0) d31.F oE vo λ_ Z=>ww Z yC zZ;have o32:=f_ (k:=1) d32.F qQ xp λ_ Z=>Bh Z yD yC zZ (Z.ca o30 b30)<|Z.caM o31 b31;have o33:=f_ (k:=3) d33.F By Hk λ_ Z=>NX Z  (Z.ca o26 b26) (Z.ca o27 b27) (Z.ca o29 b29) (Z.ca o32 b32)<|Z.ca o28 b28;have o34:=f_ (k:=4) d34.F uQ tI λ_ Z=>FR Z  (Z.ca o33 b33);have o35:=f_ (k:=5) d35.F qO xn λ_ Z=>Be Z zZ (Z.ca o34 b34)<|Z.ca o11 b11;have o36:=f_N (k:=8) d36.F uR AV λ_ Z=>DA Z yC yJ zZ (Z.ca o24 b24) (Z.ca o35 b35)<|Z.ca o34 b34;have o37:=f_ (k:=0) d37.F uV AZ λ_ Z=>FV Z zZ;have o38:=f_ (k:=0) d38.F qu wo λ_ Z=>Aj Z yC zY yK;have o39:=f_ (k:=0) d39.F uS AW λ_ Z=>FS Z yD yA zZ;have o40:=f_ (k:=1) d40.F oF vp λ_ Z=>xz Z yC yA zZ<|Z.ca o39 b39;have o41:=f_D (k:=0) d41.F qr wn λ_ Z=>xw Z;have o42:=f_D (k:=0) d42.F uU AY λ_ Z=>DC Z;have o43:=f_D (k:=0) d43.F tE zf λ_ Z=>Bb Z yC;have o44:=f_ (k:=2) d44.F tF zg λ_ Z=>DJ Z  (Z.ca o38 b38) (Z.ca o40 b40) (Z.caD o42 b42) (Z.caD o43 b43)<|Z.caD o41 b41;have o45:=f_ (k:=0) d45.F qv wq λ_ Z=>Ak Z yA zY zZ;have o46:=f_ (k:=1) d46.F uT AX λ_ Z=>FU Z yD zZ yC (Z.ca o45 b45)<|Z.ca o39 b39;have o47:=f_ (k:=1) d47.F qw wr λ_ Z=>Al Z yD zZ yC (Z.ca o45 b45)<|Z.ca o39 b39;have o48:=f_ (k:=2) d48.F uW A0 λ_ Z=>FW Z yC zZ (Z.ca o47 b47) (Z.ca o39 b39)<|Z.ca o46 b46;have o49:=f_ (k:=4) d49.F nB t5 λ_ Z=>wB Z  (Z.ca o33 b33);have o50:=f_ (k:=1) d50.F tD ze λ_ Z=>DI Z yA yC zZ<|Z.ca o39 b39;have o51:=f_ (k:=5) d51.F xc C1 λ_ Z=>HW Z yC yJ zZ (Z.ca o48 b48) (Z.ca o49 b49)<|Z.ca o50 b50;have o52:=f_D (k:=0) d52.F qm wj λ_ Z=>xv Z;have o53:=f_ (k:=2) d53.F qp wl λ_ Z=>Ai Z yC (Z.caD o52 b52) (Z.ca o40 b40)<|Z.caD o41 b41;have o54:=f_ (k:=1) d54.F qo wk λ_ Z=>Ah Z yA<|Z.ca o39 b39;have o55:=f_ (k:=3) d55.F lW q9 λ_ Z=>ug Z yC yA zZ (Z.ca o38 b38) (Z.ca o37 b37) (Z.ca o44 b44) (Z.ca o54 b54)<|Z.ca o53 b53;exact f_ d56.F Rs Pr λ_ Z=>UC Z yL yD yM yA (Z.ca o55 b55) (Z.ca o51 b51)<|Z.caN o36 b36
def walk{q:Program}{l:PySem.W.OpenLaw}{XP:(Str->Option Value)->Heap->Prop}{YP:World->Heap->Prop}{d:DefRec}{K:Params->gS}(hq:importsNone q=true)(hn:l.most=some 63)(hdf:d.params.defaults=[])(hY:∀(w:World)(h:Heap),YP w h->(K w.params).In h)(F:∀(w:World)(mg:AE)(fa:Addr)(h:Heap),(K w.params).In h->h.Ns mainGlobals mg->mg d.name=some (.ref fa)->∃fd:FuncData,(∀(s:Shared)(u:Value),BindsTo s fd ⟨[u],[]⟩ [("_law_script",u)])/\∀base:Heap,(K w.params).In base->base.Ns mainGlobals mg->mw l.prog w (K w.params) mg base uw 10 fa fd ["_law_script"] (Rm (K w.params) Cg)):PySem.W.WalkO q loose XP YP l.row.toRowW d [] (λf vs=>PySem.call f vs):=L2.zBE (n:=63) (k:=10) (x:="_law_script") (CX:=λ_=>uw) (sp:=λw=>Rm (K w.params) Cg) hq hn (by decide) hdf ⟨rfl,by decide,by decide⟩ hY F (λ_ H a ns hl hO hS=>⟨H,[.Yh ns],.bl true,.refl _,.cons (.Yh hS) .nil,MX ns hl,λv F' H' x r=>by cases r;rfl⟩) λ_ _ _ _ _ z=>z
end My
def PySem.W.Fast.tw4509965250447288936:PySem.Program:=PySem.Challenge.pw_planestacks_k40_base_rows_told
def PySem.W.Fast.te4509965250447288936:PySem.Challenge.pw_planestacks_k40_base_rows_told=PySem.W.Fast.tw4509965250447288936:=rfl
structure PySem.W.Fast:Prop where(tw2219251648451248471 te13422421533529904624 tw8006154352212486355 tw12674429516887839381 tw1267016242516082887 tw15053624017109464059 tw8310983609310747670 tw5712366315200059069 tw3722949464543582631 tw2929704466252159957 tw1933239653751736511 tw16761939592402061172 tw14135698722430312965 tw14339612909966622310 tw3949648160585178649 tw15841407167209972016 tw8431951037297465845 tw6540954675581997277 tw1772823934544381607 tw18093424663030540194 tw11064331788040010830 tw13072685817047050347 tw5247796070995603726 tw16030800352960136721 tw10596522427540108357 tw11649524624566976133 tw10678590600334644906 tw8117622017059894652 tw12694734869625671629 tw11224640970820701592 tw16405327974576004042 tw6250636388940180160 tw12192453065228116631 tw12681922541310122631 tw2199282882738443755 tw5569437041633793278 tw9490245619120742877 tw15956407709759053892 tw17957982373709215708 tw17624394814592946201 tw15123514451087227471 tw6570902199336744127 tw16879048211907673830 tw6383331010258296535 tw5201122099938446948 tw2929333466255980644 tw12692574377697512922 tw18054355141871941715 tw14517741354897898231 tw797814247296006687 tw17954437108527676083 tw824748576315113049 tw4805584479161857429 tw3762581234877339707 tw18324303041737911468 tw8359749684554865496 tw6028930423182600916 tw6814461077476674838 tw12326136822787091750 tw12753560828285266983 tw4371574554513746318 tw12602270978146132696 tw2198021228103627833 tw14674853358157610692 tw15073047541114254645 tw15358981923349971077 tw11958778087280434291 tw8890447477365510784 tw6123437068947345587 tw5008546052848449234 tw4589506206183679604 tw18155652263552024729 tw7940128346437304193 tw17190187023708767982 tw15377399020530351201 tw575125602627952136 tw7002458560887964031 tw15940633018930444645 tw4804241092412110341 tw17595124464160801863 tw2273012744043993253 tw6606118893407087971 tw620540169658083112 tw12403697358062305034 tw15603994280321255967 tw15791692525128570005 tw1684773298795598361 tw14325561741360626937 tw15087571344744051042 tw5592407297548482088 tw3432774236857363558 tw7635547258757106223 tw3631732222147867768 tw11852409511391388323 tw1083015815242256377 tw3406901816951292527 tw5499129441672250943 tw5340283236579546848 tw5364962573937502539 tw15772734028587415442 tw16716959143317673870 tw14026667880706247744 tw13266435935432147916 tw217076686316054028 tw16604868655958439147 tw9464074586756627005 tw14104312991809548325 tw7117183313163673117 tw12360596533433480656 tw14236775651565997625 tw14965971644050177834 tw4491489887973498973 tw3737885898838124202 tw14506013746892410870 tw17647718442771022707 tw1455529190198728014 tw15113186072544969445 tw3398257576163598510 tw2087593574959162787 tw17562563841392407232 tw14588788418172647043 tw16102819214263510279 tw16015347518863039852 tw9613221641710846214 tw1311963642136240049 tw3202773453975223177 tw1370738346218360576 tw7595719726165872176 tw16363770896638822221 tw2931701139252600457 tw17696205638776779501 tw7862509022746266151 tw9988799787851103228 tw8421741870312152572 tw5441297760866842165 tw6768053469378997170 tw4051006529603631904 tw314392046158470596 tw12980382514833100832 tw15035724152149617366 tw17631367618685879021 tw15821895389074988355 tw1083457118289930822 tw2018560477838030747 tw2171711926521227474 tw14652435804279864819 tw7225025494607538868 tw11594734714002034775 tw1606113596173959304 tw12938695308329453637:True)
open PySem PySem.W PyProof.Rows
set_option maxRecDepth 100000 in
set_option maxHeartbeats 0 in
theorem PySem.Challenge.cw_planestacks_k40_base_rows_told_holds : PySem.Challenge.rw_planestacks_k40_base_rows_told.Holds := by
 w_on; o_law; k_head; (case hw => w_witness2)
 k_fill
 refine My.walk (l := PySem.Challenge.rw_planestacks_k40_base_rows_told) (by decide +kernel) rfl rfl (fun w h Y => PySem.W.kIn_of Y) ?F
 case F =>
  intro w mg fa h KX G hmg
  refine' My.all_mk rfl KX G hmg ?_ ?_ ?_ ?_ ?_ ?_ ?_ ?_ ?_ ?_ ?_ ?_ ?_ ?_ ?_ ?_ ?_ ?_ ?_ ?_ ?_ ?_ ?_ ?_ ?_ ?_ ?_ ?_ ?_ ?_ ?_ ?_ ?_ ?_ ?_ ?_ ?_ ?_ ?_ ?_ ?_ ?_ ?_ ?_ ?_ ?_ ?_ ?_ ?_ ?_ ?_ ?_ ?_ ?_ ?_ ?_ ?_ ?_ ?_ ?_ ?_ ?_ ?_ ?_ ?_ ?_ ?_ ?_ ?_ ?_ ?_ ?_ ?_ ?gz_PRIME_BITS ?gv_PRIME_BITS
  all_goals try refine' L2.EV.kd ?_ ?_ ?_ ?_
  all_goals try k_is
  (case gz_PRIME_BITS => exact Nat.le_of_ble_eq_true rfl)
  (case gv_PRIME_BITS => exact .cons ⟨_, rfl⟩ (.cons ⟨_, rfl⟩ (.cons ⟨_, rfl⟩ (.cons ⟨_, rfl⟩ (.cons ⟨_, rfl⟩ (.nil))))))
