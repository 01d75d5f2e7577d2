import PyProof.Rows.All
import Wide.All
import OpenK.AllK
import Wide.FinOn
import Lean
import PyProof.EqAt
import PyProof.EqKinds
import PyProof.TupleCall
import PySem.Challenge.RW_planestacks_k58_regions_asked
set_option linter.all false
def ae:=@List.length_map
def ag:=@List.getD_eq_getElem?_getD
def ah:=@decide_eq_false
def aj:=@PySem.wpAny_bind
def am:=@if_pos
def ap:=@if_neg
def aq:=@Nat.le_refl
def ar:=@List.getElem?_eq_getElem
def av:=@decide_eq_true
def aw:=@List.eq_nil_of_length_eq_zero
def az:=@List.length_pos_iff
def aB:=@Int.natAbs_natCast
def aC:=@List.size_toArray
def aD:=@PySem.Heap.get?_push_of_some
def aE:=@Nat.lt_of_lt_of_le
def aH:=@List.getElem?_map
def aI:=@Rat.intCast_mul
def aJ:=@List.length_append
def aK:=@Bool.false_ne_true
def aM:=@List.mem_cons_of_mem
def aN:=@Nat.pow_le_pow_right
def aO:=@List.mem_cons
def aQ:=@PySem.Heap.lt_size
def aR:=@PySem.wpAny_pure
def aS:=@List.getElem?_set_ne
def aT:=@PySem.Heap.get?_push_size
def aV:=@List.getElem?_eq_some_iff
def aX:=@List.getElem?_append_right
def a7:=@Rat.intCast_lt_intCast
def bi:=@congrArg
def bj:=@List.getElem?_append_left
def bo:=@Int.mul_ne_zero
def bp:=@Int.emod_lt_of_pos
def br:=@Bool.and_eq_true
def bv:=@Int.mul_fdiv_cancel_left
def bx:=@Int.emod_nonneg
def bz:=@Nat.lt_of_le_of_lt
def bA:=@List.mem_cons_self
def bB:=@of_decide_eq_true
def bH:=@PySem.W.mg_none_of
def bI:=@List.getElem?_set_self
def bL:=@Nat.le_trans
def bO:=@List.map_append
def bP:=@Nat.le_of_ble_eq_true
def bQ:=@List.getElem?_eq_none
def bR:=@List.eq_nil_or_concat
def bS:=@Option.some.inj
def bU:=@Nat.ne_of_lt
def bV:=@Int.mul_zero
def cb:=@Rat.mul_le_mul_of_nonneg_right
def cc:=@List.mem_range
def ce:=@Int.sign_eq_neg_one_of_neg
def cj:=@List.length_singleton
def cn:=@PySem.wpAny_newObj_type
def cq:=@List.getElem?_range
def cw:=@decide_eq_decide
def cy:=@List.length_set
def cz:=@List.all_eq_true
def cJ:=@Rat.intCast_le_intCast
def cQ:=@Nat.zero_le
def cX:=@List.map_map
def cY:=@Int.one_mul
def cZ:=@Int.natAbs_mul
def df:=@List.mem_append_right
def dj:=@List.concat_eq_append
def dk:=@List.replicate_succ
def dq:=@List.mem_map
def dr:=@List.length_reverse
def du:=@List.length_drop
def dv:=@List.getElem?_set_self'
def dF:=@Int.sign_eq_one_of_pos
def dG:=@List.length_cons
def dI:=@Rat.le_of_lt
def dJ:=@PyProof.Rows.callWith_type1
def dP:=@Int.ofNat_dvd_left
def dQ:=@PySem.W.kia_one
def dR:=@Int.natCast_mul
def dW:=@List.lookup_cons
def dX:=@List.getElem_mem
def dY:=@PySem.wpAny_field
def eC:=@Nat.mul_le_mul_left
def eG:=@List.map_cons
def eJ:=@Rat.intCast_add
def eO:=@decide_eq_true_iff
def eQ:=@List.mem_singleton
def eR:=@Nat.gcd_dvd_left
def eT:=@List.length_take
def eU:=@List.getElem?_replicate
def eY:=@Nat.lt_irrefl
def e9:=@PySem.wpAny_callSpecial?_slot
def fc:=@Nat.gcd_dvd_right
def ff:=@List.append_assoc
def fu:=@PySem.wpAny_truthy_bool
def fy:=@Nat.lt_or_ge
def fA:=@Nat.mul_le_mul_right
def fI:=@PySem.F.plainAttrs_list
def fJ:=@List.length_range
def fK:=@Int.toNat_natCast
def fP:=@List.map_congr_left
def gc:=@Nat.sub_self
def gd:=@Int.mul_assoc
def gx:=@congrFun
def gy:=@Int.emod_add_mul_ediv
def gC:=@PySem.wpAny_call_entry
def gD:=@List.drop_eq_getElem_cons
def gL:=@Bool.eq_iff_iff
def gN:=@Nat.pow_pos
def gO:=@Nat.lt_trichotomy
def gQ:=@Nat.le_of_lt
def gR:=@List.length_dropLast
def gS:=@List.flatten_cons
def gT:=@Int.natAbs_of_nonneg
def gU:=@Int.mul_comm
def gV:=@Int.lt_trichotomy
def io:=@PySem.mem_of_lookup
def ip:=@Ne.symm
def iz:=@List.mem_nil_iff
def iA:=@Int.mul_nonneg
def iI:=@Rat.le_refl
def iQ:=@Int.zero_add
def iT:=@Rat.intCast_sub
def iU:=@Nat.not_lt_zero
def iV:=@List.append_nil
def iW:=@Int.mul_eq_zero
def iX:=@PySem.Heap.size_push
def iY:=@Nat.dvd_trans
def ju:=@Nat.lt_succ_of_lt
def jv:=@PySem.wpAny_mono
def jQ:=@PySem.wpAny_passesOwn
def jR:=@PySem.wpAny_loadPart'
def jS:=@Rat.mul_nonneg
def jT:=@Nat.pow_add
def kw:=@PySem.builtinLookup_eq_fast
def kx:=@Nat.sub_zero
def ky:=@Nat.ne_of_gt
def kz:=@Nat.lt_succ_self
def kA:=@Nat.le_add_right
def kB:=@PySem.Heap.get?_update_self
def kC:=@Classical.byContradiction
def kQ:=@List.filterMap_cons
def kR:=@Int.toNat_of_nonneg
def kW:=@PyProof.Rows.assignInOrder_cons
def lC:=@PySem.wpAny_of_eq
def lD:=@Nat.gcd_pos_of_pos_right
def lE:=@Int.mul_ediv_cancel_left
def lF:=@PySem.F.slot_tuple_iterator_next
def lO:=@Rat.intCast_neg
def lP:=@List.range_succ
def lQ:=@List.mem_append
def mx:=@of_decide_eq_false
def mz:=@Rat.mul_pos
def mB:=@Int.dvd_of_emod_eq_zero
def mC:=@PySem.Heap.SameBut.update
def nA:=@or_false
def nB:=@Rat.pow_succ
def nC:=@Rat.le_trans
def nD:=@Nat.le_of_eq
def nE:=@List.reverse_cons
def nU:=@PySem.Obj.data_mapFields
def nW:=@PySem.F.type_list_pop
def nX:=@PySem.F.slot_list_pop
def nY:=@List.length_filter_le
def pD:=@List.take_length
def pL:=@PySem.W.mg_of
def pP:=@PySem.isSubtype_type
def pQ:=@PySem.SeqAt.canLay_of_shaped
def pR:=@Rat.mul_le_mul_of_nonneg_left
def pS:=@List.mem_of_mem_drop
def pT:=@Int.mul_neg
def qX:=@List.of_mem_zip
def qY:=@List.length_nil
def qZ:=@List.dropLast_concat_getLast
def rR:=@beq_eq_false_iff_ne
def rS:=@Int.sign_mul_natAbs
def rT:=@Array.length_toList
def sr:=@PySem.call_meets
def su:=@Rat.mul_lt_mul_of_pos_right
def sw:=@Nat.pow_succ
def sy:=@Nat.add_comm
def sA:=@List.map_set
def sB:=@Int.add_zero
def tT:=@if_false
def tU:=@List.pairwise_cons
def tV:=@Int.natCast_nonneg
def tW:=@Int.fdiv_eq_ediv_of_nonneg
def tX:=@Bool.false_eq_true
def tY:=@Bool.and_false
def uK:=@PySem.wpAny_execs_nil
def uL:=@PySem.typeLookup_type
def uM:=@decide_eq_true_eq
def uN:=@Rat.divInt_eq_div
def uO:=@List.getElem?_set
def uP:=@Int.mul_pos
def wH:=@PySem.wpAny_setField
def wJ:=@PySem.wpAny_pyIter_tuple
def wK:=@PySem.wpAny_bindName
def wL:=@Nat.not_lt_of_le
def wM:=@List.not_mem_nil
def wN:=@List.getLast_eq_getElem
def wP:=@List.filter_cons
def wQ:=@List.ext_getElem
def zg:=@Nat.mul_comm
def zh:=@Nat.lt_of_succ_lt_succ
def zi:=@Nat.le_mul_of_pos_left
def zk:=@Nat.gcd_comm
def zl:=@List.take_of_length_le
def zm:=@List.drop_eq_nil_of_le
def zn:=@Int.zero_sub
def zo:=@Int.zero_mul
def zp:=@PySem.wpAny_pyIter_list
def zq:=@PySem.sizeLine_eq
def zr:=@List.nodup_cons
def zt:=@Int.neg_mul_neg
def zu:=@Int.natCast_pow
def Ax:=@PySem.wpAny_standAt
def Ay:=@PySem.wpAny_holding
def Az:=@PySem.wpAny_attempt
def AA:=@List.length_replicate
def AB:=@List.dropLast_sublist
def AC:=@Bool.beq_eq_decide_eq
def CG:=@PySem.wpAny_isInstance
def CH:=@List.mem_of_getElem?
def CI:=@List.dropLast_concat
def CJ:=@Int.natAbs_neg
def CK:=@Int.mul_one
def CP:=@if_true
def Em:=@PySem.Heap.get?_update_other
def Eu:=@Nat.mul_assoc
def Ev:=@List.set_comm
def Ew:=@Bool.not_true
def FN:=@PySem.Obj.isFreed_of_fields
def FO:=@Nat.one_le_two_pow
def FP:=@Nat.eq_zero_or_pos
def FQ:=@Nat.eq_or_lt_of_le
def FR:=@Int.mul_nonneg_of_nonpos_of_nonpos
def FS:=@Int.lt_or_lt_of_ne
def Ii:=@Rat.pow_zero
def Ij:=@PySem.W.kitx_dict
def Ik:=@Nat.succ_mul
def Il:=@Nat.dvd_refl
def Im:=@List.foldl_append
def Io:=@List.any_eq_false
def Ip:=@Int.le_total
def Iy:=@PyProof.Rows.slot_tuple_getitem
def KN:=@Option.getD_some
def KO:=@Nat.and_two_pow_sub_one_eq_mod
def KP:=@List.mem_flatMap
def KQ:=@List.map_reverse
def KY:=@Nat.add_mul
def KZ:=@Int.mul_add
def MO:=@PySem.wpAny_rule
def MP:=@PySem.wpAny_Call_Name_kw
def MQ:=@PySem.typeIs_int
def MR:=@Rat.intCast_pow
def MS:=@List.nil_append
def MT:=@Int.neg_one_mul
def MU:=@Int.natCast_sub
def MV:=@Int.natCast_add
def NC:=@Nat.mul_lt_mul_of_pos_right
def Pz:=@PySem.seqIndex_neg
def PB:=@Rat.lt_of_mul_lt_mul_right
def PD:=@List.drop_zero
def PF:=@Int.add_mul_emod_self_left
def PR:=@Int.sign_eq_zero_iff_zero
def Rh:=@PySem.entryFor_of_tree
def Ri:=@PySem.F.args_tuple_add_2
def Rj:=@List.any_cons
def Rk:=@Bool.false_or
def Rt:=@PySem.seqIndex_of
def Ru:=@Rat.intCast_eq_zero_iff
def Rv:=@PySem.F.entry_tuple_add
def Rx:=@Int.emod_eq_zero_of_dvd
def Sq:=@PySem.wpAny_specialOf
def Sr:=@PySem.W.cellsFrom_some
def Ss:=@PySem.F.slot_tuple_add
def Su:=@Nat.zero_add
def Sv:=@Nat.mul_succ
def Sw:=@List.map_nil
def Sx:=@List.length_eq_one_iff
def Sy:=@List.filter_eq_nil_iff
def Sz:=@List.dropWhile_sublist
def SA:=@Int.pow_succ
def SB:=@PySem.F.args_tuple_iterator_next_1
def SQ:=@PySem.F.slot_int_rmul
def SR:=@List.take_append_drop
def SS:=@List.getElem?_reverse
def SU:=@List.dropLast_eq_take
def SV:=@Int.natAbs_dvd_natAbs
def SW:=@Int.mul_fdiv_add_fmod
def SX:=@PySem.F.entry_tuple_iterator_next
def SY:=@Array.getElem?_toList
def Tf:=@PySem.isSubtype_stop
def Tg:=@Nat.pow_lt_pow_right
def Th:=@List.reverse_reverse
def Ti:=@List.mem_of_mem_take
def Tj:=@List.mem_append_left
def Tk:=@List.getLast?_append
def Tl:=@Int.mul_ediv_cancel'
def Tn:=@PySem.Calls.Name_function_global
def Ts:=@PySem.wpAny_binaryOp_repeat_ref
def Tt:=@PyProof.Rows.assignInOrder_nil
def Tu:=@Nat.pow_le_pow_left
def Tv:=@List.takeWhile_cons
def Tw:=@List.map_eq_nil_iff
def Tx:=@List.getElem_of_mem
local macro_rules|`(tactic|decide)=>`(tactic|decide +kernel)
abbrev FU(x:PySem.Str):Prop:=(x==("__debug__":PySem.Str))=false
abbrev ND(sc:PySem.Scope)(x:PySem.Str):Prop:=sc.names.lookup x=some .globalImplicit
abbrev PU(c:PySem.Pos)(es:List PySem.Expr)(E:PySem.Env):Prop:=((PySem.backTo c<|PySem.starEach es E).all (λx=>!x.1)&&(PySem.backToKw c<|PySem.keywordEach [] E).all (λx=>x.1.isSome)&&decide (es.length+([]:List PySem.Keyword).length+(if([]:List PySem.Keyword).isEmpty then 0 else 1)<30))=true
abbrev En(e:PySem.Expr)(es:List PySem.Expr)(E:PySem.Env):Prop:=PySem.starEach (e::es) E=(false,PySem.eval e E)::PySem.starEach es E
abbrev IA(c:PySem.Pos)(es:List PySem.Expr)(E:PySem.Env):Prop:=(PySem.backTo c<|PySem.starEach es E).any (·.1)=false
abbrev gh:=PySem.W.Frag
abbrev aG:=List Int
abbrev G1:=List Nat
abbrev dZ:=List PySem.Str
abbrev xu:=List PySem.Expr
abbrev jw:=List PySem.Value
abbrev iB:=List<|PySem.Addr×PySem.Obj
abbrev v7:=PySem.Value->PySem.Shared->Prop
abbrev AD:=PySem.Str->Option PySem.Value
set_option Elab.async false
set_option maxRecDepth 100000
namespace L2
open PySem PySem.W PySem.Spec PyProof.Rows
variable {K:gh}
abbrev CO:=Sum Int Str
def Nt:CO->Value->Bool|.inl k,v=>Value.isInt k v|.inr x,v=>Value.isStrOf x v
def R1(w:World):CO->Int|.inl k=>hashInt k|.inr x=>hashStr w x
def fF:∀{k:CO}{v:Value},Nt k v=true->(∃i t,k=Sum.inl i/\v=Value.int i t)\/(∃x t,k=Sum.inr x/\v=Value.str x t)
 |.inl i,v,h=>by obtain⟨t,e⟩:=Value.isInt_shape (k:=i) (v:=v) h;exact .inl ⟨i,t,rfl,e⟩
 |.inr x,v,h=>by obtain⟨t,e⟩:=Value.isStrOf_shape (x:=x) (v:=v) h;exact .inr ⟨x,t,rfl,e⟩
def OK(a b:Int):decide ((Sum.inl a:CO)=Sum.inl b)=(a==b):=by
 by_cases e:a=b;·subst e;simp
 ·have h:¬(Sum.inl a:CO)=Sum.inl b:=λq=>e<|Sum.inl.inj q;rw[ah h];exact(rR.mpr e).symm
def OH(a b:Str):decide ((Sum.inr a:CO)=Sum.inr b)=decide (a=b):=by
 by_cases e:a=b;·subst e;simp
 ·have h:¬(Sum.inr a:CO)=Sum.inr b:=λq=>e<|Sum.inr.inj q;rw[ah h,ah e]
def OJ(a:Int)(b:Str):decide ((Sum.inl a:CO)=Sum.inr b)=false:=ah λq=>nomatch q
def OI(a:Str)(b:Int):decide ((Sum.inr a:CO)=Sum.inl b)=false:=ah λq=>nomatch q
def BN(prog:Program)(w:World):PySem.KeyKind prog w CO where
 is:=Nt
 hash:=R1 w
 inj:=λv a b ha hb=>by
  rcases fF ha with⟨i,t,rfl,rfl⟩ |⟨x,t,rfl,rfl⟩
  ·rcases fF hb with⟨j,u,rfl,e⟩ |⟨y,u,rfl,e⟩;·injection e with e1 _;rw[e1]
   ·exact nomatch e
  ·rcases fF hb with⟨j,u,rfl,e⟩ |⟨y,u,rfl,e⟩;·exact nomatch e
   ·injection e with e1 _;rw[e1]
 byValue:=λk v h=>by rcases fF h with⟨i,t,rfl,rfl⟩ |⟨x,t,rfl,rfl⟩<;>rfl
 pyHash:=λhv h=>by
  rcases fF hv with⟨i,t,rfl,rfl⟩ |⟨x,t,rfl,rfl⟩;·exact wpAny_pyHash_int h
  ·exact wpAny_pyHash_str h
 eqBool:=λhu hv h=>by
  rcases fF hu with⟨i,t,rfl,rfl⟩ |⟨x,t,rfl,rfl⟩
  ·rcases fF hv with⟨j,u,rfl,rfl⟩ |⟨y,u,rfl,rfl⟩;·rw[OK]at h;exact wpAny_eqBool_int h
   ·rw[OJ]at h;exact SeqAt.EqAt.int_str i t y u _ _ _ _ h
  ·rcases fF hv with⟨j,u,rfl,rfl⟩ |⟨y,u,rfl,rfl⟩;·rw[OI]at h;exact SeqAt.EqAt.str_int x t j u _ _ _ _ h
   ·rw[OH]at h;exact wpAny_eqBool_str h
 «strs»:=λk x t v h=>by
  rcases fF h with⟨i,u,rfl,e⟩ |⟨y,u,rfl,e⟩;·exact nomatch e
  ·injection e with e1 _;subst e1;cases v<;>rfl
inductive V where
 |TN |bl (b:Bool) |int (i:Int) |str (x:Str) |VO (b:Array UInt8) |Xy (b:UInt64) |ref (a:Addr) |ty (n:String)
 deriving DecidableEq
abbrev gW:=List V
def RelV:V->Value->Prop
 |.TN,u=>u=Value.none|.bl b,u=>u=Value.bool b
 |.int i,u=>∃t,u=Value.int i t|.str x,u=>∃t,u=Value.str x t
 |.VO b,u=>∃t,u=Value.bytes b t|.Xy b,u=>∃t,u=Value.float b t
 |.ref a,u=>u=Value.ref a|.ty n,u=>u=Value.type n
abbrev Vals:gW->jw->Prop:=Paired RelV
def Vals.length(r:Vals xs us):xs.length=us.length:=Paired.length r
theorem Vals.get:∀{xs:gW}{us:jw}{i:Nat}{x:V},Vals xs us->xs[i]?=some x->∃u,us[i]?=some u/\RelV x u
 |_,_,_,_,.nil,e=>by simp at e|_,_,0,_,.cons r _,e=>by simp at e;subst e;exact⟨_,rfl,r⟩
 |_,_,i+1,x,.cons _ t,e=>by obtain⟨u,h1,h2⟩:=Vals.get (i:=i) (x:=x) t (by simpa using e);exact⟨u,by simpa using h1,h2⟩
def Vals.set(r:RelV x u):∀{xs:gW}{us:jw}(i:Nat),Vals xs us->Vals (xs.set i x) (us.set i u)
 |_,_,_,.nil=>.nil|_,_,0,.cons _ t=>.cons r t
 |_,_,i+1,.cons q t=>.cons q<|Vals.set r i t
def Vals.append:∀{xs ys:gW}{us ws:jw},Vals xs us->Vals ys ws->Vals (xs++ys) (us++ws)|_,_,_,_,.nil,s=>s|_,_,_,_,.cons r t,s=>.cons r<|Vals.append t s
def Vals.take:∀{xs:gW}{us:jw}(n:Nat),Vals xs us->Vals (xs.take n) (us.take n)
 |_,_,0,_=>.nil|_,_,_+1,.nil=>.nil
 |_,_,n+1,.cons r t=>.cons r<|Vals.take n t
def Vals.drop:∀{xs:gW}{us:jw}(n:Nat),Vals xs us->Vals (xs.drop n) (us.drop n)
 |_,_,0,r=>r|_,_,_+1,.nil=>.nil
 |_,_,n+1,.cons _ t=>Vals.drop n t
def Ps:Option V->Option Value->Prop
 |some v,some u=>RelV v u|none,none=>True
 |_,_=>False
def KV{κ:Type}:List (κ×V)->List (κ×Value)->Prop:=Paired λ(p:κ×V)(q:κ×Value)=>p.1=q.1/\RelV p.2 q.2
def kV:CO->V|.inl i=>.int i|.inr x=>.str x
inductive HO where
 |lst (xs:gW)
 |tup (xs:gW)
 |dK (kvs:List (CO×V)) |dT (kvs:List (List CO×V))
 |set (S:Int->Bool) (n:Nat)
 |ins (C dx:Addr) (fs:List (Str×V))
 |own (x:Addr)
 |xd (fs:List (Str×V))
 |met (f x:Addr)
 |YU (lo hi:Int)
 |UN (o:Obj) (u:HO)
 |Ws (ps:Array Value)
 |ext (φ:Heap->Prop)
abbrev Hp:=Addr->Option HO
def hU(H:Hp)(a:Addr)(o:HO):Hp:=λb=>if b=a then some o else H b
def cf:hU H a o a=some o:=by unfold hU;rw[am rfl]
def bK{a b:Addr}(h:b≠a):hU H a o b=H b:=by unfold hU;rw[ap h]
def eZ{H:Hp}{a b:Addr}(h:H a=some o)(h':H b=none):a≠b:=by intro e;subst e;rw[h]at h';cases h'
section
variable (P:Program)(w:World)
def TY(H:Hp)(h:Heap)(a:Addr):HO->Prop
 |.lst xs=>xs.length<=sizeLine/\∃(its:jw)(n:Nat),Vals xs its/\h.get? a=some {cls:=.type "list",data:=.seq its.toArray n}|.tup xs=>xs.length<=sizeLine/\∃its:jw,Vals xs its/\IsTup h a its.toArray
 |.dK kvs=>kvs.length<=sizeLine/\(a==sysModules)=false/\∃vs,KV kvs vs/\h.DictOf (BN P w) a vs|.dT kvs=>kvs.length<=sizeLine/\(a==sysModules)=false/\∃xs:List (List CO×Addr×Value),Paired (λ(p:List CO×V)(q:List CO×Addr×Value)=>p.1=q.1/\H q.2.1=some (.tup<|p.1.map kV)/\RelV p.2 q.2.2) kvs xs/\∃o es ep,h.get? a=some o/\o.ExactDict/\o.data=.dict es ep/\es.toList=xs.map (entryOfKey<|tupleKind<|BN P w)/\(xs.map (·.1)).Nodup
 |.set S n=>h.SetOf (intKind P w) a S n|.ins C dx fs=>H dx=some (.own a)/\fs.length<=1000/\dx≠a/\h.get? a=some (instObj C dx)/\∃mA,h.Ns1 dx mA/\(∀f,Ps (fs.lookup f)<|mA f)/\PySem.Within mA (fs.map (·.1))
 |.own _=>∃o,h.get? a=some o|.xd fs=>∃mA,h.Ns1 a mA/\∀f,Ps (fs.lookup f)<|mA f
 |.YU lo hi=>∃t u v,h.get? a=some {cls:=.type "range",data:=.fields #[.int lo t,.int hi u,.int 1 v]}|.UN o u=>h.get? a=some o/\TY H h a u
 |.Ws ps=>h.get? a=some {cls:=.none,data:=.fields ps}|.met f x=>h.get? a=some (methodObj (.ref f)<|.ref x)
 |.ext φ=>φ h/\(∃o,h.get? a=some o)/\∀h1 h2:Heap,φ h1->(∀o,h1.get? a=some o->h2.get? a=some o)->φ h2
def Uo(H:Hp)(h:Heap):Prop:=∀a o,H a=some o->TY P w H h a o
end
def TY.lt(x:TY P w H h a o):a<h.objs.size:=by
 cases o with
 |lst xs=>obtain⟨_,_,_,_,e⟩:=x;exact aQ e
 |tup xs=>obtain⟨_,_,_,p⟩:=x;exact p.lt
 |dK kvs=>obtain⟨_,_,_,_,o,_,_,e,_⟩:=x;exact aQ e
 |dT kvs=>obtain⟨_,_,_,_,o,_,_,e,_⟩:=x;exact aQ e
 |set S n=>obtain⟨o,_,_,_,e,_⟩:=x;exact aQ e
 |ins C dx fs=>obtain⟨_,_,_,e,_⟩:=x;exact aQ e
 |own y=>obtain⟨_,e⟩:=x;exact aQ e
 |xd fs=>obtain⟨_,⟨_,_,_,e,_⟩,_⟩:=x;exact aQ e
 |YU lo hi=>obtain⟨_,_,_,e⟩:=x;exact aQ e
 |UN ob u=>obtain⟨e,_⟩:=x;exact aQ e
 |Ws ps=>exact aQ (show h.get? a=some _ from x)|met f y=>exact aQ (show h.get? a=some _ from x)
 |ext φ=>obtain⟨_,⟨_,e⟩,_⟩:=x;exact aQ e
def Paired.XJ{α β:Type}{F G:α->β->Prop}:∀{l₁:List α}{l₂:List β},Paired F l₁ l₂->(∀a b,F a b->G a b)->Paired G l₁ l₂|_,_,.nil,_=>.nil|_,_,.cons r t,f=>.cons (f _ _ r)<|Paired.XJ t f
def TY.Vc{H':Hp}{h':Heap}(x:TY P w H h a o)(k:∀b u,(b=a\/H b=some (.own a))->h.get? b=some u->h'.get? b=some u)(ho:∀b,H b=some (.own a)->H' b=some (.own a))(ht:∀b xs,H b=some (.tup xs)->H' b=some (.tup xs)):TY P w H' h' a o:=by
 induction o with
 |lst xs=>obtain⟨z,its,n,r,e⟩:=x;exact⟨z,its,n,r,k _ _ (.inl rfl) e⟩
 |tup xs=>obtain⟨z,its,r,ob,e,c⟩:=x;exact⟨z,its,r,ob,k _ _ (.inl rfl) e,c⟩
 |dK kvs=>obtain⟨z,y,vs,r,ob,es,ep,e,c⟩:=x;exact⟨z,y,vs,r,ob,es,ep,k _ _ (.inl rfl) e,c⟩
 |dT kvs=>obtain⟨z,y,xs,r,ob,es,ep,e,c⟩:=x;exact⟨z,y,xs,Paired.XJ r λp q z=>⟨z.1,ht _ _ z.2.1,z.2.2⟩,ob,es,ep,k _ _ (.inl rfl) e,c⟩
 |set S n=>obtain⟨ob,es,ep,t,e,c⟩:=x;exact⟨ob,es,ep,t,k _ _ (.inl rfl) e,c⟩
 |ins C dx fs=>obtain⟨d,z,ne,e,mA,⟨od,es,ep,e2,c⟩,r⟩:=x;exact⟨ho _ d,z,ne,k _ _ (.inl rfl) e,mA,⟨od,es,ep,k _ _ (.inr d) e2,c⟩,r⟩
 |own y=>obtain⟨ob,e⟩:=x;exact⟨ob,k _ _ (.inl rfl) e⟩
 |xd fs=>obtain⟨mA,⟨od,es,ep,e,c⟩,r⟩:=x;exact⟨mA,⟨od,es,ep,k _ _ (.inl rfl) e,c⟩,r⟩
 |YU lo hi=>obtain⟨t,u,v,e⟩:=x;exact⟨t,u,v,k _ _ (.inl rfl) e⟩
 |UN ob u ih=>obtain⟨e,q⟩:=x;exact⟨k _ _ (.inl rfl) e,ih q⟩
 |Ws ps=>have e:h.get? a=some {cls:=.none,data:=.fields ps}:=x;show h'.get? a=some {cls:=.none,data:=.fields ps};exact k a _ (.inl rfl) e|met f y=>have e:h.get? a=some (methodObj (.ref f)<|.ref y):=x;show h'.get? a=some (methodObj (.ref f)<|.ref y);exact k a _ (.inl rfl) e
 |ext φ=>obtain⟨p,⟨o,e⟩,st⟩:=x;exact⟨st _ _ p λo q=>k _ _ (.inl rfl) q,⟨o,k _ _ (.inl rfl) e⟩,st⟩
def Uo.lt{a:Addr}(x:Uo P w H h)(e:H a=some o):a<h.objs.size:=(x a o e).lt
def Uo.fresh{a:Addr}(x:Uo P w H h)(e:h.objs.size<=a):H a=none:=by cases q:H a with|none=>rfl|some u=>exact absurd (aE (x.lt q) e)<|eY _
def Uo.kept{h':Heap}(x:Uo P w H h)(k:∀b u,h.get? b=some u->h'.get? b=some u):Uo P w H h':=λa o e=>(x a o e).Vc (λb u _ q=>k b u q) (λ_ q=>q) λ_ _ q=>q
def Uo.laid{h':Heap}{a:Addr}(x:Uo P w H h)(k:∀b u,h.get? b=some u->h'.get? b=some u)(hp:h.objs.size<=a)(new:TY P w (hU H a o) h' a o):Uo P w (hU H a o) h':=λb u e=>by
 have hn:=x.fresh hp;by_cases hb:b=a;·subst hb;rw[cf]at e;cases e;exact new
 ·rw[bK hb]at e;exact(x b u e).Vc (λc v _ q=>k c v q) (λc q=>by rw[bK<|eZ q hn];exact q) λc xs q=>by rw[bK<|eZ q hn];exact q
def Rd(H:Hp)(a:Addr)(u:HO):Prop:=H a=some u\/∃o,H a=some (.UN o u)
def Rd.ok(r:Rd H a u)(x:Uo P w H h):TY P w H h a u:=by
 rcases r with r |⟨o,r⟩;·exact x a u r
 ·obtain⟨_,q⟩:=x a _ r;exact q
def Rr:Option HO->Prop
 |some (.lst _)=>True|some (.dK _)=>True
 |some (.dT _)=>True|some (.set _ _)=>True
 |some (.ins _ _ _)=>True|some (.ext _)=>True
 |_=>False
def Uo.write{h':Heap}{e:Addr}(ok:Uo P w H h)(mu:Rr (H x))(he:e=x\/H e=some (.own x))(k:∀b u,b≠e->h.get? b=some u->h'.get? b=some u)(Xt:∃u,h'.get? e=some u)(new:TY P w (hU H x o') h' x o'):Uo P w (hU H x o') h':=λb u q=>by
 have VJ:∀c y,H c=some (.own y)->c≠x:=λc y r z=>by subst z;rw[r]at mu;exact mu
 have Y2:∀c xs,H c=some (.tup xs)->c≠x:=λc xs r z=>by subst z;rw[r]at mu;exact mu
 by_cases hb:b=x;·subst hb;rw[cf]at q;cases q;exact new
 ·rw[bK hb]at q;by_cases Xf:b=e
  ·have q':H b=some (.own x):=by
    rcases he with z |z;·exact absurd (Xf.trans z) hb
    ·rw[Xf];exact z
   rw[q]at q';cases q';obtain⟨v,hv⟩:=Xt;exact⟨v,by rw[Xf];exact hv⟩
  ·refine(ok b u q).Vc (λc v hc r=>k c v ?_ r) (λc r=>by rw[bK<|VJ c b r];exact r) λc xs r=>by rw[bK<|Y2 c xs r];exact r
   rcases hc with rfl |hc;·exact Xf
   ·rintro rfl;rcases he with z |z;·exact VJ c b hc z
    ·rw[hc]at z;cases z;exact hb rfl
structure Un(fs ex:List Addr)(H H':Hp)(h h':Heap):Prop where
 keep:∀b o,h.get? b=some o->H b=none->b∉fs->b∉ex->h'.get? b=some o
 slot:∀b o,h.get? b=some o->H b=none->b∈fs->b∉ex->∃sl,h'.get? b=some {o with slots:=sl}
 free:∀b o,h.get? b=some o->H b=none->b∉ex->H' b=none
 there:∀b o,h.get? b=some o->b∉ex->∃o',h'.get? b=some o'
 UY:∀b xs,H b=some (.tup xs)->H' b=some (.tup xs)
 UJ:∀b o u,H b=some (.UN o u)->H' b=some (.UN o u)
 UZ:∀b ps,H b=some (.Ws ps)->∃more,H' b=some (.Ws<|ps++more)
def Un.any{b:Addr}(u:Un fs ex H H1 h h1)(q:h.get? b=some ob)(n:H b=none)(hx:b∉ex):∃sl,h1.get? b=some {ob with slots:=sl}:=by
 by_cases hb:b∈fs;·exact u.slot b ob q n hb hx
 ·exact⟨ob.slots,u.keep b ob q n hb hx⟩
def Un.kept{h:Heap}{h':Heap}(k:∀b u,h.get? b=some u->h'.get? b=some u):Un fs ex H H h h':=⟨λb ob q _ _ _=>k b ob q,λb ob q _ _ _=>⟨ob.slots,k b ob q⟩,λ_ _ _ n _=>n,λb ob q _=>⟨ob,k b ob q⟩,λ_ _ q=>q,λ_ _ _ q=>q,λ_ ps q=>⟨#[],by rw[q];simp⟩⟩
def Un.refl:Un fs ex H H h h:=Un.kept λ_ _ q=>q
def Un.laid{H:Hp}{h:Heap}{h':Heap}{a:Addr}(k:∀b u,h.get? b=some u->h'.get? b=some u)(hp:h.objs.size<=a)(hn:H a=none):Un fs ex H (hU H a o) h h' where
 keep:=λb u q _ _ _=>k b u q
 slot:=λb u q _ _ _=>⟨u.slots,k b u q⟩
 free:=λb u q n _=>by rw[bK<|bU<|aE (aQ q) hp];exact n
 there:=λb u q _=>⟨u,k b u q⟩
 UY:=λb xs q=>by rw[bK<|eZ q hn];exact q
 UJ:=λb u xs q=>by rw[bK<|eZ q hn];exact q
 UZ:=λb ps q=>⟨#[],by rw[bK<|eZ q hn,q];simp⟩
def Un.write{H:Hp}{h:Heap}{h':Heap}{e:Addr}(mu:Rr (H x))(he:e=x\/H e=some (.own x))(k:∀b u,b≠e->h.get? b=some u->h'.get? b=some u)(Xt:∃u,h'.get? e=some u):Un fs ex H (hU H x o) h h':=by
 have hx:∀b,H b=none->b≠x:=λb n z=>by subst z;rw[n]at mu;exact mu
 have hb:∀b,H b=none->b≠e:=λb n z=>by
  subst z;rcases he with r |r;·exact hx b n r
  ·rw[n]at r;cases r
 have hm:∀b u,H b=some u->¬Rr (some u)->b≠x:=λb u q nm z=>by subst z;rw[q]at mu;exact nm mu
 refine⟨λb u q n _ _=>k b u (hb b n) q,λb u q n _ _=>⟨u.slots,k b u (hb b n) q⟩,λb u q n _=>by rw[bK<|hx b n];exact n,λb u q _=>?_,λb xs q=>by rw[bK (hm b _ q λz=>z)];exact q,λb u xs q=>by rw[bK (hm b _ q λz=>z)];exact q,λb ps q=>⟨#[],by rw[bK (hm b _ q λz=>z),q];simp⟩⟩;by_cases Xf:b=e;·subst Xf;exact Xt
 ·exact⟨u,k b u Xf q⟩
def Rn(h:Heap)(H:Hp):List Addr:=(List.range h.objs.size).filter λa=>(H a).isSome
def Ad(h:Heap)(H:Hp):Heap:=hideAll h<|Rn h H
def HD(h:Heap)(H:Hp):(Ad h H).objs.size=h.objs.size:=hideAll_size _ _
def J8{h:Heap}{H:Hp}{b:Addr}(e:h.get? b=some o)(n:H b=none):(Ad h H).get? b=some o:=hideAll_get _ e λhm=>by have q:(H b).isSome=true:=(List.mem_filter.mp hm).2;rw[n]at q;simp at q
def LM{b:Addr}(e:(Ad h H).get? b=some o):h.get? b=some o/\H b=none:=by have e':h.get? b=some o:=of_hideAll (Rn h H) e;refine⟨e',?_⟩;cases q:H b with|none=>rfl|some x=>have hm:b∈Rn h H:=List.mem_filter.mpr ⟨cc.mpr<|aQ e',by simp[q]⟩;have z:(Ad h H).get? b=none:=hideAll_none (Rn h H) hm;rw[z]at e;cases e
def MI(g h:Heap)(L:Addr):iB:=(List.range h.objs.size).filterMap λa=>if a=L\/(g.get? a).isSome=true then none else(h.get? a).map λo=>(a,o)
def rest(g h:Heap)(L d:Addr):iB:=(MI g h L).filter λp=>decide<|p.1≠d
structure Mod(K:gh)(mg:AD)(base:Heap):Prop where
 Y7:K.In base
 glob:base.Ns mainGlobals mg
 blt:∃mb,base.Ns builtinsNs mb/\∀x:Str,x≠"__name__"->mb x=bootBuiltins x
 nolimit:base.NoLimit
 seer:base.NoSeer
structure Cx where
 prog:Program
 w:World
 K:gh
 mg:Str->Option Value
 base:Heap
 A:Around
 N:dZ
 s₀:Shared
 H₀:Hp
 env:Env
 outer:List Env
 stack:List Env
 ex:List Addr
 fn:Str->Bool
 calm:Bool
 pn:iB
 xe:Value->Shared->Prop
abbrev ge(X:Cx){α:Type}(m:Sem α)(Q:α->Shared->Prop)(E:Value->Shared->Prop)(s:Shared):Prop:=wpAny (model X.prog X.w) X.A m Q E s
def Es(l:List Env):List Addr:=l.filterMap (·.frame)
abbrev Cx.fs(X:Cx):List Addr:=Es X.outer
def Q5(sc:Scope)(x:Str):Prop:=sc.names.lookup x=some .local\/sc.names.lookup x=some .cell\/sc.names.lookup x=some .free
def Pw(sc:Scope)(x:Str):Prop:=sc.names.lookup x=some .local\/sc.names.lookup x=some .cell
def Sg(env:Env)(h:Heap)(m:AD)(x:Str)(u:Value):Prop:=(env.kindOf x=some .local/\m x=some u)\/((env.kindOf x=some .cell\/env.kindOf x=some .free)/\∃c,env.cells.lookup x=some c/\h.IsCell c (some u))
structure Cx.Ok(X:Cx):Prop where
 mod:Mod X.K X.mg X.base
 kind:X.env.scope.kind=.function
 glob:X.env.globals=mainGlobals
 blt:X.env.builtins=builtinsNs
 above:X.s₀.heap.objs.size<=X.env.locals
 inj:∀x y c,X.env.cells.lookup x=some c->X.env.cells.lookup y=some c->x=y
 has:∀x,(X.env.kindOf x=some .cell\/X.env.kindOf x=some .free)->∃c,X.env.cells.lookup x=some c
 Yn:∀x c,X.fn x=true->X.env.cells.lookup x=some c->X.s₀.heap.objs.size<=c
 hd:X.calm=true->X.A.handled=none
 frames:X.A.frames=some X.stack
 XC:X.stack=X.outer\/(X.stack=X.env::X.outer/\X.env.frame=some X.env.locals)
 YF:∀b∈X.ex,b≠X.env.locals/\∀x c,X.env.cells.lookup x=some c->c≠b
 bs:∀b o,X.base.get? b=some o->X.s₀.heap.get? b=some o/\X.H₀ b=none
 WY:X.base.objs.size<=X.s₀.heap.objs.size
 V0:∀b o,X.base.get? b=some o->b∉X.ex
 We:∀b∈X.ex,b∉X.fs
 UU:X.s₀.heap.FunFrames X.base X.outer
 Xw:∀b∈X.fs,X.H₀ b=none
structure Inv(X:Cx)(on:iB)(Y:List (Option V))(H:Hp)(s:Shared):Prop where
 ok:X.Ok
 os:s.os=X.s₀.os
 bare:AllBare s.gens
 base:Un X.fs X.ex X.H₀ H X.s₀.heap s.heap
 loc:∃m,s.heap.Ns X.env.locals m/\∀(i:Nat)(x:Str)(v:V),X.N[i]?=some x->Y[i]?=some (some v)->Q5 X.env.scope x->∃u,RelV v u/\Sg X.env s.heap m x u
 cell:∀x c,X.env.cells.lookup x=some c->∃v,s.heap.IsCell c v
 free:H X.env.locals=none
 Ut:∀x c,X.env.cells.lookup x=some c->H c=none
 pin:∀p∈X.pn++on,s.heap.get? p.1=some p.2/\H p.1=none/\p.1≠X.env.locals/\p.1∉X.fs/\∀v,p.2.data≠.cell v
 TV:Uo X.prog X.w H s.heap
 len:Y.length=X.N.length
section
variable {X:Cx}{Y:List (Option V)}
def Cx.Ok.Y4{b:Addr}(ok:X.Ok)(e:X.base.get? b=some o):b∉X.fs:=λhb=>by have:=(ok.UU.mem hb).1;rw[e]at this;cases this
def Inv.bs(I:Inv X on Y H s):∀b o,X.base.get? b=some o->s.heap.get? b=some o/\H b=none:=λb o e=>⟨I.base.keep b o (I.ok.bs b o e).1 (I.ok.bs b o e).2 (I.ok.Y4 e)<|I.ok.V0 b o e,I.base.free b o (I.ok.bs b o e).1 (I.ok.bs b o e).2<|I.ok.V0 b o e⟩
def Inv.bk(I:Inv X on Y H s):∀b o,X.base.get? b=some o->s.heap.get? b=some o:=λb o e=>(I.bs b o e).1
def Inv.mod(I:Inv X on Y H s):Mod X.K X.mg X.base:=I.ok.mod
def Inv.Vb(I:Inv X on Y H s):X.K.In s.heap:=I.ok.mod.Y7.keeps I.bk
def Inv.nolimit(I:Inv X on Y H s):s.heap.NoLimit:=I.ok.mod.nolimit.keeps I.bk
def Inv.lt(I:Inv X on Y H s):X.env.locals<s.heap.objs.size:=let⟨_,hn,_⟩:=I.loc;hn.lt
def Inv.sz(I:Inv X on Y H s):X.s₀.heap.objs.size<=s.heap.objs.size:=bL I.ok.above<|gQ I.lt
def Inv.Y3{a:Addr}(I:Inv X on Y H s)(h:s.heap.objs.size<=a):a∉X.fs:=λhb=>by obtain⟨_,o,ho,_⟩:=I.ok.UU.mem hb;exact absurd (aE (aQ ho)<|bL I.sz h)<|eY _
def Inv.Xi(I:Inv X on Y H s):∀x c,X.env.cells.lookup x=some c->c≠X.env.locals:=λx c e z=>by obtain⟨v,o,ho,hd⟩:=I.cell x c e;obtain⟨m,⟨o',es,ep,Xb,Zv,_⟩,_⟩:=I.loc;rw[z,Xb]at ho;cases ho;rw[Zv]at hd;cases hd
def Inv.UU(I:Inv X on Y H s):s.heap.FunFrames X.base X.outer:=by
 have all:∀(l:List Env),(∀b∈Es l,b∈X.fs)->X.s₀.heap.FunFrames X.base l->s.heap.FunFrames X.base l:=by intro l;induction l with|nil=>intro _ _;trivial|cons env r ih=>intro hs hl;obtain⟨hk,⟨L,o,hf,hn,ho,hd⟩,hr⟩:=hl;have hL:L∈X.fs:=hs L (by unfold Es;rw[kQ,hf];exact bA);obtain⟨sl,e⟩:=I.base.slot L o ho (I.ok.Xw L hL) hL λz=>I.ok.We L z hL;exact⟨hk,⟨L,_,hf,hn,e,hd⟩,ih (λb hb=>hs b<|by unfold Es;rw[kQ,hf];exact aM _ hb) hr⟩
 exact all X.outer (λ_ hb=>hb) I.ok.UU
def Inv.stack(I:Inv X on Y H s):s.heap.FunFrames X.base X.stack:=by
 rcases I.ok.XC with e |⟨e,hf⟩;·rw[e];exact I.UU
 ·rw[e];obtain⟨m,hn,_⟩:=I.loc;refine .cons (by rw[I.ok.kind];decide) hf hn ?_ I.UU;exact Heap.get?_none_of_le<|bL I.ok.WY I.ok.above
def Inv.Vr(I:Inv X on Y H s):∀b∈Es X.stack,b∈X.env.locals::X.fs:=λb hb=>by
 rcases I.ok.XC with e |⟨e,hf⟩;·rw[e]at hb;exact aM _ hb
 ·rw[e]at hb;unfold Es at hb;rw[kQ,hf]at hb;exact hb
def Inv.Vy(I:Inv X on Y H s):∀b∈Es X.stack,H b=none:=λb hb=>by
 rcases aO.mp (I.Vr b hb)with e |hb;·rw[e];exact I.free
 ·obtain⟨_,o,ho,_⟩:=I.ok.UU.mem hb;exact I.base.free b o ho (I.ok.Xw b hb) λz=>I.ok.We b z hb
def Inv.step{t':Nat}{ch:List Addr}{H':Hp}{h':Heap}{g':Array GenState}{d':Drawn}(I:Inv X on Y H s)(Wn:∀b∈ch,(b∈X.ex\/X.s₀.heap.objs.size<=b)/\b≠X.env.locals/\(∀x c,X.env.cells.lookup x=some c->c≠b)/\∀p∈X.pn++on,p.1≠b)(keep:∀b o,b≠X.env.locals->b∉X.fs->b∉ch->s.heap.get? b=some o->H b=none->h'.get? b=some o)(slot:∀b o,b≠X.env.locals->b∈X.fs->b∉ch->s.heap.get? b=some o->H b=none->∃sl,h'.get? b=some {o with slots:=sl})(free:∀b o,b∉ch->s.heap.get? b=some o->H b=none->H' b=none)(there:∀b o,b∉ch->s.heap.get? b=some o->∃o',h'.get? b=some o')(UY:∀b xs,H b=some (.tup xs)->H' b=some (.tup xs))(UJ:∀b o u,H b=some (.UN o u)->H' b=some (.UN o u))(UZ:∀b ps,H b=some (.Ws ps)->∃more,H' b=some (.Ws<|ps++more))(ns:∀m,s.heap.Ns X.env.locals m->h'.Ns X.env.locals m)(TV:Uo X.prog X.w H' h')(hg:AllBare g'):Inv X on Y H' {s with heap:=h',gens:=g',drawn:=d',toks:=t'}:=by
 have neL:∀b o,X.s₀.heap.get? b=some o->b≠X.env.locals:=λb o e=>bU<|aE (aQ e) I.ok.above;have Yu:∀b o,X.s₀.heap.get? b=some o->b∉X.ex->b∉ch:=λb o e hx hb=>by
  rcases(Wn b hb).1 with z |z;·exact hx z
  ·exact absurd (aE (aQ e) z)<|eY _
 have cellK:∀x c,X.env.cells.lookup x=some c->∀v,s.heap.IsCell c v->h'.IsCell c v:=λx c e v ⟨o,ho,hd⟩=>by
  have XI:c∉ch:=λz=>(Wn c z).2.2.1 x c e rfl;by_cases hc:c∈X.fs;·obtain⟨sl,q⟩:=slot c o (I.Xi x c e) hc XI ho<|I.Ut x c e;exact⟨_,q,hd⟩
  ·exact⟨o,keep c o (I.Xi x c e) hc XI ho<|I.Ut x c e,hd⟩
 refine⟨I.ok,I.os,hg,⟨λb o e n hb hx=>?_,λb o e n hb hx=>?_,λb o e n hx=>?_,λb o e hx=>?_,λb xs e=>UY b xs<|I.base.UY b xs e,λb o xs e=>UJ b o xs<|I.base.UJ b o xs e,λb ps e=>?_⟩,?_,λx c e=>?_,?_,λx c e=>?_,λp hp=>?_,TV,I.len⟩;·exact keep b o (neL b o e) hb (Yu b o e hx) (I.base.keep b o e n hb hx)<|I.base.free b o e n hx
 ·obtain⟨sl,e1⟩:=I.base.slot b o e n hb hx;obtain⟨YT,e2⟩:=slot b _ (neL b o e) hb (Yu b o e hx) e1<|I.base.free b o e n hx;exact⟨YT,e2⟩
 ·obtain⟨o',e1⟩:=I.base.there b o e hx;exact free b o' (Yu b o e hx) e1<|I.base.free b o e n hx
 ·obtain⟨o',e1⟩:=I.base.there b o e hx;exact there b o' (Yu b o e hx) e1
 ·obtain⟨m1,e1⟩:=I.base.UZ b ps e;obtain⟨m2,e2⟩:=UZ b _ e1;exact⟨m1++m2,by rw[e2,Array.append_assoc]⟩
 ·obtain⟨m,hn,hl⟩:=I.loc;refine⟨m,ns m hn,λi x v e1 e2 e3=>?_⟩;obtain⟨u,r,l⟩:=hl i x v e1 e2 e3;refine⟨u,r,?_⟩;rcases l with l |⟨k,c,e,z⟩;·exact .inl l
  ·exact .inr ⟨k,c,e,cellK x c e _ z⟩
 ·obtain⟨v,z⟩:=I.cell x c e;exact⟨v,cellK x c e v z⟩
 ·obtain⟨m,⟨o,_,_,ho,_⟩,_⟩:=I.loc;exact free _ o (λz=>(Wn _ z).2.1 rfl) ho I.free
 ·obtain⟨v,o,ho,hd⟩:=I.cell x c e;exact free c o (λz=>(Wn c z).2.2.1 x c e rfl) ho<|I.Ut x c e
 ·obtain⟨e,n,ne,nf,d⟩:=I.pin p hp;have XI:p.1∉ch:=λz=>(Wn p.1 z).2.2.2 p hp rfl;exact⟨keep p.1 p.2 ne nf XI e n,free p.1 p.2 XI e n,ne,nf,d⟩
def Inv.un{t':Nat}(I:Inv X on Y H s)(u:Un X.fs [] H H' s.heap h')(TV:Uo X.prog X.w H' h'):Inv X on Y H' {s with heap:=h',toks:=t'}:=by obtain⟨m,⟨o,es,ep,ho,r⟩,_⟩:=id I.loc;obtain⟨sl,hL⟩:=u.any ho I.free (by simp);exact I.step (g':=s.gens) (d':=s.drawn) (ch:=[]) (λ_ z=>nomatch z) (λb o _ hb _ e n=>u.keep b o e n hb<|by simp) (λb o _ hb _ e n=>u.slot b o e n hb<|by simp) (λb o _ e n=>u.free b o e n<|by simp) (λb o _ e=>u.there b o e<|by simp) u.UY u.UJ u.UZ (λm' hm=>by obtain⟨o',ZG,ZI,Xb,r'⟩:=hm;rw[ho]at Xb;cases Xb;exact⟨_,ZG,ZI,hL,r'⟩) TV I.bare
def Inv.call{t':Nat}{g':Array GenState}{d':Drawn}(I:Inv X on Y H s)(u:Un (Es X.stack) ch H H' s.heap h')(TV:Uo X.prog X.w H' h')(hg:AllBare g')(Wn:∀b∈ch,(b∈X.ex\/X.s₀.heap.objs.size<=b)/\b≠X.env.locals/\(∀x c,X.env.cells.lookup x=some c->c≠b)/\∀p∈X.pn++on,p.1≠b):Inv X on Y H' {s with heap:=h',gens:=g',drawn:=d',toks:=t'}:=by obtain⟨m,⟨o,es,ep,ho,r⟩,_⟩:=id I.loc;obtain⟨sl,hL⟩:=u.any ho I.free λz=>(Wn _ z).2.1 rfl;exact I.step (ch:=ch) Wn (λb o hL hb hc e n=>u.keep b o e n (λz=>(aO.mp<|I.Vr b z).elim hL hb) hc) (λb o _ _ hc e n=>u.any e n hc) (λb o hc e n=>u.free b o e n hc) (λb o hc e=>u.there b o e hc) u.UY u.UJ u.UZ (λm' hm=>by obtain⟨o',ZG,ZI,Xb,r'⟩:=hm;rw[ho]at Xb;cases Xb;exact⟨_,ZG,ZI,hL,r'⟩) TV hg
def Inv.turned{t':Nat}{it:Addr}{h':Heap}(I:Inv X on Y H s)(k:∀b o,b≠it->s.heap.get? b=some o->h'.get? b=some o)(hn:H it=none)(hL:it≠X.env.locals)(h1:it∈X.ex\/X.s₀.heap.objs.size<=it)(h2:∀x c,X.env.cells.lookup x=some c->c≠it)(h3:∀p∈X.pn++on,p.1≠it):Inv X on Y H {s with heap:=h',toks:=t'}:=by
 have nit:∀b u,H b=some u->b≠it:=λb u e z=>by rw[z,hn]at e;cases e
 refine I.step (g':=s.gens) (d':=s.drawn) (ch:=[it]) (λb hb=>?_) (λb o _ _ hc e _=>k b o (λz=>hc<|by simp[z]) e) (λb o _ _ hc e _=>⟨o.slots,k b o (λz=>hc<|by simp[z]) e⟩) (λ_ _ _ _ n=>n) (λb o hc e=>⟨o,k b o (λz=>hc<|by simp[z]) e⟩) (λ_ _ e=>e) (λ_ _ _ e=>e) (λb ps e=>⟨#[],by rw[e];simp⟩) (λm hm=>?_) (λb u e=>?_) I.bare
 ·have e:b=it:=by simpa using hb
  subst e;exact⟨h1,hL,h2,h3⟩
 ·obtain⟨o,es,ep,ho,r⟩:=hm;exact⟨o,es,ep,k _ o (ip hL) ho,r⟩
 ·refine(I.TV b u e).Vc (λc v hc q=>k c v ?_ q) (λ_ q=>q) λ_ _ q=>q;rcases hc with z |z;·rw[z];exact nit b u e
  ·exact nit c _ z
def Inv.tok(I:Inv X on Y H s)(t:Nat):Inv X on Y H {s with toks:=t}:=I.un (h':=s.heap) (t':=t) Un.refl I.TV
def Inv.kept{t':Nat}{h':Heap}(I:Inv X on Y H s)(k:∀b u,s.heap.get? b=some u->h'.get? b=some u):Inv X on Y H {s with heap:=h',toks:=t'}:=I.un (Un.kept k)<|I.TV.kept k
def Inv.laid{a:Addr}{t':Nat}{h':Heap}(I:Inv X on Y H s)(k:∀b u,s.heap.get? b=some u->h'.get? b=some u)(hp:s.heap.objs.size<=a)(new:TY X.prog X.w (hU H a o) h' a o):Inv X on Y (hU H a o) {s with heap:=h',toks:=t'}:=I.un (Un.laid k hp<|I.TV.fresh hp)<|I.TV.laid k hp new
def Inv.write{e:Addr}{t':Nat}{h':Heap}(I:Inv X on Y H s)(mu:Rr (H x))(he:e=x\/H e=some (.own x))(k:∀b u,b≠e->s.heap.get? b=some u->h'.get? b=some u)(Xt:∃u,h'.get? e=some u)(new:TY X.prog X.w (hU H x o) h' x o):Inv X on Y (hU H x o) {s with heap:=h',toks:=t'}:=I.un (Un.write mu he k Xt)<|I.TV.write mu he k Xt new
def Inv.VA{Ua:iB}(I:Inv X on Y H s)(h:∀p∈Ua,s.heap.get? p.1=some p.2/\H p.1=none/\p.1≠X.env.locals/\p.1∉X.fs/\∀v,p.2.data≠.cell v):Inv X Ua Y H s:=⟨I.ok,I.os,I.bare,I.base,I.loc,I.cell,I.free,I.Ut,λp hp=>(lQ.mp hp).elim (λz=>I.pin p<|Tj _ z)<|h p,I.TV,I.len⟩
def Dt{N:dZ}{i j:Nat}(hN:N.Nodup)(a:N[i]?=some x)(b:N[j]?=some x):i=j:=by obtain⟨h1,e1⟩:=aV.mp a;obtain⟨h2,e2⟩:=aV.mp b;exact(List.getElem_inj hN).mp<|e1.trans e2.symm
def AJ{i:Nat}{Q:Unit->Shared->Prop}(I:Inv X on Y H s)(hN:X.N.Nodup)(hi:X.N[i]?=some x)(hx:Pw X.env.scope x)(r:RelV v u)(h:∀s',Inv X on (Y.set i<|some v) H s'->(∃a,Heap.SameBut a s.heap s'.heap/\(a=X.env.locals\/X.env.cells.lookup x=some a))->Q () s')(hf:X.fn x=true\/X.env.scope.names.lookup x=some .local:=by first |exact .inl rfl |exact .inr rfl |assumption):wpAny M A (storeName X.env x u) Q E s:=by
 obtain⟨m,hn,hl⟩:=id I.loc;have Zw:(X.env.scope.kind==.class||(X.env.scope.kind==.module&&X.env.locals !=X.env.globals))=false:=by rw[I.ok.kind];rfl
 have hiσ:i<Y.length:=by rw[I.len];exact(aV.mp hi).1
 have Xi:=I.Xi;have tracked:∀{a:Addr}{h':Heap},(∃o,s.heap.get? a=some o/\H a=none)->Heap.SameBut a s.heap h'->Uo X.prog X.w H h':=λ{a h'}ha hs b ob e=>by
  obtain⟨_,_,Vj⟩:=ha;refine(I.TV b ob e).Vc (λc w' hc q=>(hs.2 c ?_).trans q) (λ_ q=>q) λ_ _ q=>q;rintro rfl;rcases hc with rfl |hc;·rw[Vj]at e;cases e
  ·rw[Vj]at hc;cases hc
 rcases hx with hk |hk
 ·refine wpAny_storeName_local hk hn (λh' hn' hs=>?_) Zw;obtain⟨oL,_,_,hoL,_⟩:=id hn;refine h _ ⟨I.ok,I.os,I.bare,⟨λb o e n hb hx=>?_,λb o e n hb hx=>?_,I.base.free,λb o e hx=>?_,I.base.UY,I.base.UJ,I.base.UZ⟩,⟨_,hn',λj y v' e1 e2 e3=>?_⟩,λy c e=>?_,I.free,I.Ut,λp hp=>?_,tracked ⟨oL,hoL,I.free⟩ hs,by simpa using I.len⟩ ⟨_,hs,.inl rfl⟩;·exact(hs.2 b<|bU<|aE (aQ e) I.ok.above).trans<|I.base.keep b o e n hb hx
  ·obtain⟨sl,e1⟩:=I.base.slot b o e n hb hx;exact⟨sl,(hs.2 b<|bU<|aE (aQ e) I.ok.above).trans e1⟩
  ·obtain⟨o',e1⟩:=I.base.there b o e hx;exact⟨o',(hs.2 b<|bU<|aE (aQ e) I.ok.above).trans e1⟩
  ·by_cases hj:j=i;·subst hj;rw[hi]at e1;cases e1;rw[bI hiσ]at e2;cases e2;exact⟨u,r,.inl ⟨hk,by simp⟩⟩
   ·rw[aS<|ip hj]at e2;obtain⟨u',r',q⟩:=hl j y v' e1 e2 e3;refine⟨u',r',?_⟩;rcases q with⟨k,e⟩ |⟨k,c,e,z⟩;·refine .inl ⟨k,?_⟩;have:y≠x:=λe=>hj<|Dt hN e1<|e▸hi;simp[this,e]
    ·exact .inr ⟨k,c,e,z.sameBut hs<|Xi y c e⟩
  ·obtain⟨w',z⟩:=I.cell y c e;exact⟨w',z.sameBut hs<|Xi y c e⟩
  ·obtain⟨e,n,ne,nf,d⟩:=I.pin p hp;exact⟨(hs.2 p.1 ne).trans e,n,ne,nf,d⟩
 ·have X7:X.fn x=true:=by
   rcases hf with z |z;·exact z
   ·rw[z]at hk;cases hk
  obtain⟨c,hc⟩:=I.ok.has x<|.inl hk;obtain⟨w',z⟩:=I.cell x c hc;refine wpAny_storeName_cell I.ok.kind hk hc z λh' Vp hs=>?_;obtain⟨oc,hoc,Zj⟩:=id z;refine h {s with heap:=h'} ⟨I.ok,I.os,I.bare,⟨λb o e n hb hx=>?_,λb o e n hb hx=>?_,I.base.free,λb o e hx=>?_,I.base.UY,I.base.UJ,I.base.UZ⟩,⟨m,hn.sameBut hs<|ip<|Xi x c hc,λj y v' e1 e2 e3=>?_⟩,λy c' e=>?_,I.free,I.Ut,λp hp=>?_,tracked ⟨oc,hoc,I.Ut x c hc⟩ hs,by simpa using I.len⟩ ⟨c,hs,.inr hc⟩;·exact(hs.2 b<|bU<|aE (aQ e)<|I.ok.Yn x c X7 hc).trans<|I.base.keep b o e n hb hx
  ·obtain⟨sl,e1⟩:=I.base.slot b o e n hb hx;exact⟨sl,(hs.2 b<|bU<|aE (aQ e)<|I.ok.Yn x c X7 hc).trans e1⟩
  ·obtain⟨o',e1⟩:=I.base.there b o e hx;exact⟨o',(hs.2 b<|bU<|aE (aQ e)<|I.ok.Yn x c X7 hc).trans e1⟩
  ·by_cases hj:j=i;·subst hj;rw[hi]at e1;cases e1;rw[bI hiσ]at e2;cases e2;exact⟨u,r,.inr ⟨.inl hk,c,hc,Vp⟩⟩
   ·rw[aS<|ip hj]at e2;obtain⟨u',r',q⟩:=hl j y v' e1 e2 e3;refine⟨u',r',?_⟩;rcases q with q |⟨k,c',e,z'⟩;·exact .inl q
    ·refine .inr ⟨k,c',e,z'.sameBut hs ?_⟩;rintro rfl;exact hj<|Dt hN e1<|I.ok.inj _ _ _ e hc▸hi
  ·by_cases YD:c'=c;·subst YD;exact⟨_,Vp⟩
   ·obtain⟨w2,z2⟩:=I.cell y c' e;exact⟨w2,z2.sameBut hs YD⟩
  ·obtain⟨e,n,ne,nf,d⟩:=I.pin p hp;refine⟨(hs.2 p.1 ?_).trans e,n,ne,nf,d⟩;intro q;rw[q,hoc]at e;have q':oc=p.2:=bS e;exact d w'<|by rw[<-q'];exact Zj
def kg{i:Nat}{Q:Unit->Shared->Prop}(I:Inv X on Y H s)(hN:X.N.Nodup)(hi:X.N[i]?=some x)(hx:Pw X.env.scope x)(r:RelV v u)(h:∀s',Inv X on (Y.set i<|some v) H s'->Q () s')(hf:X.fn x=true\/X.env.scope.names.lookup x=some .local:=by first |exact .inl rfl |exact .inr rfl |assumption):wpAny M A (storeName X.env x u) Q E s:=AJ I hN hi hx r (λs' I' _=>h s' I') hf
def Inv.Ym{s':Shared}(I:Inv X on Y H s)(ho:s'.os=s.os)(u:Un (Es X.stack) ch H H' s.heap s'.heap)(TV:Uo X.prog X.w H' s'.heap)(hg:AllBare s'.gens)(Wn:∀b∈ch,(b∈X.ex\/X.s₀.heap.objs.size<=b)/\b≠X.env.locals/\(∀x c,X.env.cells.lookup x=some c->c≠b)/\∀p∈X.pn++on,p.1≠b):Inv X on Y H' s':=by obtain⟨h',g',d',t',o'⟩:=s';have e:o'=s.os:=ho;subst e;exact I.call (g':=g') (t':=t') (d':=d') u TV hg Wn
end
abbrev XK:=Value->Option Addr->Hp->Prop
abbrev St:=List<|Option V
abbrev VK:=V->Hp->Prop
abbrev TE:=St->Hp->VK->Prop
abbrev TT:=St->Hp->(Bool->Hp->Prop)->Prop
abbrev TA:=St->Hp->(gW->Hp->Prop)->Prop
structure tP where
 nx:St->Hp->Prop
 rt:VK
 bk:St->Hp->Prop:=λ_ _=>False
 ct:St->Hp->Prop:=λ_ _=>False
abbrev TS:=tP->St->Hp->Prop
def EP(X:Cx)(on:iB)(Y:St)(Q:VK)(u:Value)(s':Shared):Prop:=∃v H',Inv X on Y H' s'/\RelV v u/\Q v H'
def TP(X:Cx)(on:iB)(Y:St)(Q:Bool->Hp->Prop)(b:Bool)(s':Shared):Prop:=∃H',Inv X on Y H' s'/\Q b H'
def AP(X:Cx)(on:iB)(Y:St)(Q:gW->Hp->Prop)(us:jw)(s':Shared):Prop:=∃vs H',Inv X on Y H' s'/\Vals vs us/\Q vs H'
def SP(X:Cx)(on:iB)(D:tP)(f:Flow)(s':Shared):Prop:=match f with
 |.next=>∃T0 H',Inv X on T0 H' s'/\D.nx T0 H'|.brk=>∃T0 H',Inv X on T0 H' s'/\D.bk T0 H'
 |.cont=>∃T0 H',Inv X on T0 H' s'/\D.ct T0 H'|.ret u=>∃v T0 H',Inv X on T0 H' s'/\RelV v u/\D.rt v H'
def PE(X:Cx)(e:Expr)(t:TE):Prop:=∀(on:iB)(s:Shared)(Y:St)(H:Hp)(Q:VK),Inv X on Y H s->t Y H Q->ge X (eval e X.env) (EP X on Y Q) X.xe s
def PT(X:Cx)(e:Expr)(t:TT):Prop:=∀(on:iB)(s:Shared)(Y:St)(H:Hp)(Q:Bool->Hp->Prop),Inv X on Y H s->t Y H Q->ge X (isTrue e X.env<|eval e X.env) (TP X on Y Q) X.xe s
def PW(X:Cx)(e:Expr)(t:TT):Prop:=∀(whole:Sem Value)(on:iB)(s:Shared)(Y:St)(H:Hp)(Q:Bool->Hp->Prop),Inv X on Y H s->t Y H Q->ge X (isTrue e X.env whole) (TP X on Y Q) X.xe s
def PA(X:Cx)(es:xu)(t:TA):Prop:=∀(pos:Pos)(on:iB)(s:Shared)(Y:St)(H:Hp)(Q:gW->Hp->Prop),Inv X on Y H s->t Y H Q->ge X (spliced<|backTo pos<|starEach es X.env) (AP X on Y Q) X.xe s
def PS(X:Cx)(st:Stmt)(t:TS):Prop:=∀(on:iB)(s:Shared)(Y:St)(H:Hp)(D:tP),Inv X on Y H s->t D Y H->ge X (exec st X.env) (SP X on D) X.xe s
def Vw(X:Cx)(st:List Stmt)(t:TS):Prop:=∀(on:iB)(s:Shared)(Y:St)(H:Hp)(D:tP),Inv X on Y H s->t D Y H->ge X (execs st X.env) (SP X on D) X.xe s
def fH{α:Type}{t:Sem α}{Q Q':α->Shared->Prop}(h:wpAny M A t Q E s)(hQ:∀a s,Q a s->Q' a s):wpAny M A t Q' E s:=jv h hQ λ_ _ x=>x
section
variable {X:Cx}
def Tp(ha:PE X a ta)(hb:PE X b tb){R:V->V->Hp->Prop}(I:Inv X on Y H s)(h:ta Y H λx H1=>tb Y H1 λy H2=>R x y H2){α:Type}{Q:α->Shared->Prop}{f:Value->Value->Sem α}(hf:∀v u s2 x y H2,Inv X on Y H2 s2->RelV x v->RelV y u->R x y H2->ge X (f v u) Q X.xe s2):ge X (eval a X.env) (λv s₁=>ge X (eval b X.env) (λu s₂=>ge X (f v u) Q X.xe s₂) X.xe s₁) X.xe s:=by refine fH (ha on s Y H _ I h) λv s1 ⟨x,H1,I1,r1,q1⟩=>?_;refine fH (hb on s1 Y H1 _ I1 q1) λu s2 ⟨y,H2,I2,r2,q2⟩=>?_;exact hf v u s2 x y H2 I2 r1 r2 q2
def PZ(i:Nat):TE:=λY H Q=>∃v,Y[i]?=some (some v)/\Q v H
def tC(v:V):TE:=λ_ H Q=>Q v H
def Og{i:Nat}(hN:X.N[i]?=some x)(hv:Q5 X.env.scope x)(hd:FU x:=by decide)(Wz:(x==("__classdict__":Str))=false:=by decide):PE X (.Name x pos) (PZ i):=by
 intro on s Y H Q I h;obtain⟨v,e,h⟩:=h;obtain⟨m,hn,hl⟩:=I.loc;obtain⟨u,r,l⟩:=hl i x v hN e hv;have fin:EP X on Y Q u s:=⟨v,H,I,r,h⟩;rcases l with⟨hk,hm⟩ |⟨hk,c,hc,UM⟩;·exact wpAny_Name (wpAny_loadName_local I.ok.kind hk hn hm fin) hd
 ·rcases hk with hk |hk;·exact wpAny_Name (wpAny_loadName_cell I.ok.kind hk hc UM fin) hd
  ·exact wpAny_Name (wpAny_loadName_free I.ok.kind hk hc UM fin Wz) hd
def Oo{i j pos}:PE X (.Constant (.int i) j pos) (tC<|.int i):=λ_ _ _ H _ I h=>wpAny_Constant_int ⟨.int i,H,I.tok _,⟨_,rfl⟩,h⟩
def Qt{b j pos}:PE X (.Constant (.bool b) j pos) (tC<|.bl b):=λ_ _ _ H _ I h=>Constant_bool ⟨.bl b,H,I,rfl,h⟩
def Om{j pos}:PE X (.Constant .none j pos) (tC .TN):=λ_ _ _ H _ I h=>Constant_none ⟨.TN,H,I,rfl,h⟩
def Oi{x j pos}:PE X (.Constant (.str x) j pos) (tC<|.str x):=λ_ _ _ H _ I h=>Calls.Constant_str ⟨.str x,H,I.tok _,⟨_,rfl⟩,h⟩
def Gl(X:Cx)(x:Str):Prop:=X.env.kindOf x=some .globalImplicit
def GB{Q:v7}(I:Inv X on Y H s)(hg:Gl X x)(hm:X.mg x=some u)(h:Q u s)(hd:FU x:=by decide):ge X (eval (.Name x pos) X.env) Q E s:=Tn I.ok.kind hg (Calls.loadGlobal_global (by rw[I.ok.glob];exact I.mod.glob.keeps I.bk) hm h) hd
def oF{Q:v7}(I:Inv X on Y H s)(hg:Gl X x)(hm:X.mg x=none)(hv:bootBuiltins x=some u)(h:Q u s)(hn:x≠"__name__":=by decide)(hd:FU x:=by decide):ge X (eval (.Name x pos) X.env) Q E s:=by obtain⟨mb,h1,h2⟩:=I.mod.blt;exact Tn I.ok.kind hg (Calls.loadGlobal_builtin (by rw[I.ok.glob];exact I.mod.glob.keeps I.bk) hm (by rw[I.ok.blt];exact h1.keeps I.bk) ((h2 x hn).trans hv) h) hd
def LF(hg:Gl X x)(hm:X.mg x=some u)(r:RelV v u)(hd:FU x:=by decide):PE X (.Name x pos) (tC v):=λ_ _ _ H _ I h=>GB I hg hm ⟨v,H,I,r,h⟩ hd
def Gq(hg:Gl X x)(hm:X.mg x=none)(hv:bootBuiltins x=some u)(r:RelV v u)(hn:x≠"__name__":=by decide)(hd:FU x:=by decide):PE X (.Name x pos) (tC v):=λ_ _ _ H _ I h=>oF I hg hm hv ⟨v,H,I,r,h⟩ hn hd
def PC(X:Cx)(op:CmpOp)(a b:Expr)(t:TE):Prop:=∀(on:iB)(s:Shared)(Y:St)(H:Hp)(Q:VK),Inv X on Y H s->t Y H Q->ge X (eval a X.env) (λv s₁=>ge X (eval b X.env) (λu s₂=>ge X (compareOp op v u) (EP X on Y Q) X.xe s₂) X.xe s₁) X.xe s
def ei(b:Expr){op:CmpOp}(h:op≠.In)(h2:op≠.NotIn:=by decide):behindInMarks op b=false:=by
 have e1:(op==CmpOp.In)=false:=by cases op<;>first |rfl |exact absurd rfl h
 have e2:(op==CmpOp.NotIn)=false:=by cases op<;>first |rfl |exact absurd rfl h2
 cases b<;>simp[behindInMarks,e1,e2]
def tB(t:TE):TT:=λY H Q=>t Y H λx H1=>∃c,x=.bl c/\Q c H1
def RW{op:CmpOp}(h:PC X op a b t)(h1:behindInMarks op b=false:=by first |exact ei _ (by decide) (by decide) |rfl):PT X (.Compare a [op] [b] pos) (tB t):=by intro on s Y H Q I hw;refine wpAny_isTrue_Compare1 (fH (h on s Y H _ I hw) λv s1 h1=>fH h1 λu s2 h2=>fH h2 λc s3 ⟨x,H1,I1,r1,q1⟩=>?_) h1;obtain⟨d,rfl,q⟩:=q1;cases r1;exact fu ⟨H1,I1,q⟩
def N0(h:PE X e t)(he:∀whole,isTrue e X.env whole=(do let v <-whole;standAt e.pos;holding [v] (truthy v)):=by intro _;rfl):PT X e (tB t):=by intro on s Y H Q I hw;refine isTrue_plain (fH (h on s Y H _ I hw) λv s1 ⟨x,H1,I1,r1,q1⟩=>?_)<|he _;obtain⟨d,rfl,q⟩:=q1;cases r1;exact fu ⟨H1,I1,q⟩
variable {tA Yp:TT}{rest:xu}
def RM(t u:TT):TT:=λY H Q=>t Y H λc H1=>if c=true then u Y H1 Q else Q false H1
def S3(t u:TT):TT:=λY H Q=>t Y H λc H1=>if c=true then Q true H1 else u Y H1 Q
def RF(t:TT):TT:=λY H Q=>t Y H λc H1=>Q (!c) H1
def Lp(ha:PT X a tA):PW X (.BoolOp .And [a] pos) tA:=by intro wh on s Y H Q I h;refine isTrue_and (fH (ha on s Y H Q I h) λc s1 e=>?_);cases c with|true=>exact isTrue_and_nil e|false=>exact e
def NY(ha:PT X a tA):PW X (.BoolOp .Or [a] pos) tA:=by intro wh on s Y H Q I h;refine isTrue_or (fH (ha on s Y H Q I h) λc s1 e=>?_);cases c with|false=>exact isTrue_or_nil e|true=>exact e
def Jp(ha:PT X a tA)(hb:PW X (.BoolOp .And (b::rest) pos) Yp):PW X (.BoolOp .And (a::b::rest) pos) (RM tA Yp):=by intro wh on s Y H Q I h;refine isTrue_and (fH (ha on s Y H _ I h) λc s1 ⟨H1,I1,q1⟩=>?_);cases c with|true=>exact hb wh on s1 Y H1 Q I1 q1|false=>exact⟨H1,I1,q1⟩
def M8(ha:PT X a tA)(hb:PW X (.BoolOp .Or (b::rest) pos) Yp):PW X (.BoolOp .Or (a::b::rest) pos) (S3 tA Yp):=by intro wh on s Y H Q I h;refine isTrue_or (fH (ha on s Y H _ I h) λc s1 ⟨H1,I1,q1⟩=>?_);cases c with|true=>exact⟨H1,I1,q1⟩|false=>exact hb wh on s1 Y H1 Q I1 q1
def N1(ha:PT X a tA):PT X (.UnaryOp .Not a pos) (RF tA):=by intro on s Y H Q I h;exact isTrue_not<|ha on s Y H (λc H1=>Q (!c) H1) I h
def Qa(ta tb:TE):TE:=λY H Q=>ta Y H λx H1=>∃c,x=.bl c/\if c=true then tb Y H1 Q else Q (.bl false) H1
def RE(ta tb:TE):TE:=λY H Q=>ta Y H λx H1=>∃c,x=.bl c/\if c=true then Q (.bl true) H1 else tb Y H1 Q
def P3(ta:TE):TE:=λY H Q=>ta Y H λx H1=>∃c,x=.bl c/\Q (.bl (!c)) H1
def Oj{op}(h:PE X a t):PE X (.BoolOp op [a] pos) t:=λon s Y H Q I hw=>BoolOp_one<|h on s Y H Q I hw
def JD(ha:PE X a ta)(hb:PE X (.BoolOp .And (b::rest) pos) tb):PE X (.BoolOp .And (a::b::rest) pos) (Qa ta tb):=by intro on s Y H Q I h;refine BoolOp_and (fH (ha on s Y H _ I h) λv s1 ⟨x,H1,I1,r1,q1⟩=>?_);obtain⟨c,rfl,q1⟩:=q1;cases r1;refine fu ?_;cases c with|true=>exact hb on s1 Y H1 Q I1 q1|false=>exact⟨.bl false,H1,I1,rfl,q1⟩
def Nd(ha:PE X a ta)(hb:PE X (.BoolOp .Or (b::rest) pos) tb):PE X (.BoolOp .Or (a::b::rest) pos) (RE ta tb):=by intro on s Y H Q I h;refine BoolOp_or (fH (ha on s Y H _ I h) λv s1 ⟨x,H1,I1,r1,q1⟩=>?_);obtain⟨c,rfl,q1⟩:=q1;cases r1;refine fu ?_;cases c with|false=>exact hb on s1 Y H1 Q I1 q1|true=>exact⟨.bl true,H1,I1,rfl,q1⟩
def Ol(ha:PE X a ta):PE X (.UnaryOp .Not a pos) (P3 ta):=by intro on s Y H Q I h;refine UnaryOp_ (fH (ha on s Y H _ I h) λv s1 ⟨x,H1,I1,r1,q1⟩=>?_);obtain⟨c,rfl,q1⟩:=q1;cases r1;exact not_of<|fu ⟨.bl (!c),H1,I1,rfl,q1⟩
def S4(t:TT)(ta tb:TE):TE:=λY H Q=>t Y H λc H1=>if c=true then ta Y H1 Q else tb Y H1 Q
def Dp(hc:PT X c tA)(ha:PE X a ta)(hb:PE X b tb):PE X (.IfExp c a b pos) (S4 tA ta tb):=by intro on s Y H Q I h;refine wpAny_IfExp (fH (hc on s Y H _ I h) λd s1 ⟨H1,I1,q1⟩=>?_);cases d with|true=>exact ha on s1 Y H1 Q I1 q1|false=>exact hb on s1 Y H1 Q I1 q1
end
def T9(K:gh)(H:Hp)(a:Addr)(xs:gW):Prop:=Rd H a (.lst xs)\/∃(o:Obj)(its:Array Value)(n:Nat),K.lookup a=some o/\o.cls=.type "list"/\o.dict=none/\o.data=.seq its n/\its.size<=sizeLine/\Vals xs its.toList
def Ud(K:gh)(H:Hp)(a:Addr)(xs:gW):Prop:=Rd H a (.tup xs)\/∃(o:Obj)(its:Array Value)(n:Nat),K.lookup a=some o/\o.cls=.type "tuple"/\o.data=.seq its n/\its.size<=sizeLine/\Vals xs its.toList
def Sc:Value->Option V
 |.none=>some .TN|.bool b=>some<|.bl b
 |.int i _=>some (.int i)|.str x _=>some<|.str x
 |.bytes b _=>some (.VO b)|.float b _=>some<|.Xy b
 |.ref a=>some (.ref a)|.type n=>some<|.ty n
 |_=>none
def RelV.abs(r:RelV x u):Sc u=some x:=by
 cases x with
 |TN=>cases r;rfl
 |bl _=>cases r;rfl
 |int _=>obtain⟨t,rfl⟩:=r;rfl
 |str _=>obtain⟨t,rfl⟩:=r;rfl
 |VO _=>obtain⟨t,rfl⟩:=r;rfl
 |Xy _=>obtain⟨t,rfl⟩:=r;rfl
 |ref _=>cases r;rfl
 |ty _=>cases r;rfl
def RelV.inj(r:RelV x u)(q:RelV y u):x=y:=bS<|r.abs.symm.trans q.abs
def Vals.inj:∀{xs ys:gW}{us:jw},Vals xs us->Vals ys us->xs=ys|_,_,_,.nil,.nil=>rfl|_,_,_,.cons r t,.cons r' t'=>by rw[r.inj r',Vals.inj t t']
section
variable {X:Cx}
def T9.of{H:Hp}{a:Addr}(h:H a=some (.lst xs)):T9 K H a xs:=.inl<|.inl h
def Ud.of{H:Hp}{a:Addr}(h:H a=some (.tup xs)):Ud K H a xs:=.inl<|.inl h
def Inv.list(I:Inv X on Y H s)(h:T9 X.K H a xs):∃its:jw,Vals xs its/\PlainL s.heap a its.toArray/\xs.length<=sizeLine:=by
 rcases h with h |⟨o,its,n,hk,hc,hd,hs,hz,r⟩;·obtain⟨z,its,n,r,e⟩:=h.ok I.TV;exact⟨its,r,⟨_,n,e,rfl,rfl,rfl⟩,z⟩
 ·refine⟨its.toList,r,⟨o,n,I.Vb a o hk,hc,hd,by simpa using hs⟩,?_⟩;have e:=r.length;simp only[rT]at e;lia
def Inv.tuple(I:Inv X on Y H s)(h:Ud X.K H a xs):∃its:jw,Vals xs its/\IsTup s.heap a its.toArray/\xs.length<=sizeLine:=by
 rcases h with h |⟨o,its,n,hk,hc,hs,hz,r⟩;·obtain⟨z,its,r,p⟩:=h.ok I.TV;exact⟨its,r,p,z⟩
 ·refine⟨its.toList,r,⟨o,I.Vb a o hk,hc,n,by simpa using hs⟩,?_⟩;have e:=r.length;simp only[rT]at e;lia
def Inv.UT(I:Inv X on Y H s)(h:T9 X.K H a xs)(h':T9 X.K H a ys):xs=ys:=by
 obtain⟨its,r,⟨o,n,e,_,_,d⟩,_⟩:=I.list h;obtain⟨its',r',⟨o',n',e',_,_,d'⟩,_⟩:=I.list h';rw[e]at e';cases e';rw[d]at d';injection d' with d1 _;have:its=its':=by simpa using bi Array.toList d1
 subst this;exact r.inj r'
def Inv.UH(I:Inv X on Y H s)(h:Ud X.K H a xs)(h':Ud X.K H a ys):xs=ys:=by
 obtain⟨its,r,⟨o,e,_,n,d⟩,_⟩:=I.tuple h;obtain⟨its',r',⟨o',e',_,n',d'⟩,_⟩:=I.tuple h';rw[e]at e';cases e';rw[d]at d';injection d' with d1 _;have:its=its':=by simpa using bi Array.toList d1
 subst this;exact r.inj r'
end
abbrev Cx.UX(X:Cx)(E:v7):Cx:={X with xe:=E}
abbrev Cx.VB(X:Cx):Cx:=X.UX λ_ _=>False
def Cx.Ok.UX{X:Cx}(ok:X.Ok)(E:v7):(X.UX E).Ok:=⟨ok.mod,ok.kind,ok.glob,ok.blt,ok.above,ok.inj,ok.has,ok.Yn,ok.hd,ok.frames,ok.XC,ok.YF,ok.bs,ok.WY,ok.V0,ok.We,ok.UU,ok.Xw⟩
def Cx.Ok.Ur{X:Cx}(ok:(X.UX E).Ok):X.Ok:=⟨ok.mod,ok.kind,ok.glob,ok.blt,ok.above,ok.inj,ok.has,ok.Yn,ok.hd,ok.frames,ok.XC,ok.YF,ok.bs,ok.WY,ok.V0,ok.We,ok.UU,ok.Xw⟩
section
variable {X:Cx}
def Inv.UX(I:Inv X on Y H s)(E:v7):Inv (X.UX E) on Y H s:=⟨I.ok.UX E,I.os,I.bare,I.base,I.loc,I.cell,I.free,I.Ut,I.pin,I.TV,I.len⟩
def Inv.Ur(I:Inv (X.UX E) on Y H s):Inv X on Y H s:=⟨I.ok.Ur,I.os,I.bare,I.base,I.loc,I.cell,I.free,I.Ut,I.pin,I.TV,I.len⟩
def SP.Ur{D:tP}{f:Flow}(h:SP (X.UX E) on D f s'):SP X on D f s':=by
 cases f with
 |next=>obtain⟨T0,H',I,q⟩:=h;exact⟨T0,H',I.Ur,q⟩
 |brk=>obtain⟨T0,H',I,q⟩:=h;exact⟨T0,H',I.Ur,q⟩
 |cont=>obtain⟨T0,H',I,q⟩:=h;exact⟨T0,H',I.Ur,q⟩
 |ret u=>obtain⟨v,T0,H',I,r,q⟩:=h;exact⟨v,T0,H',I.Ur,r,q⟩
def Vw.VB{st:List Stmt}(h:Vw X.VB st t):Vw X st t:=λon s Y H D I hw=>jv (h on s Y H D (I.UX _) hw) (λ_ _ q=>q.Ur) λ_ _ z=>False.elim z
end
section
variable {X:Cx}{st:Stmt}{rest:List Stmt}
def P4:TS:=λD Y H=>D.nx Y H
def RB(t u:TS):TS:=λD Y H=>t {D with nx:=u D} Y H
def Lr:Vw X [] P4:=λ_ _ Y H _ I h=>uK ⟨Y,H,I,h⟩
def xW(h1:PS X st t)(h2:Vw X rest u):Vw X (st::rest) (RB t u):=by
 intro on s Y H D I h;refine wpAny_execs_cons (fH (h1 on s Y H {D with nx:=u D} I h) λf s1 q=>?_);cases f with
 |next=>obtain⟨T0,H',I',q⟩:=q;exact h2 on s1 T0 H' D I' q
 |ret v=>exact q|brk=>exact q
 |cont=>exact q
def Gk(h1:PS X st t):Vw X [st] t:=by
 intro on s Y H D I h;refine wpAny_execs_cons (fH (h1 on s Y H D I h) λf s1 q=>?_);cases f with
 |next=>exact uK q|ret v=>exact q
 |brk=>exact q|cont=>exact q
def Inv.quiet(I:Inv X on Y H s):interactive X.env=false:=by simp[interactive,I.ok.kind]
def P5(te:TE):TS:=λD Y H=>te Y H λ_ H1=>D.nx Y H1
def xa{pos:Pos}(he:PE X e te)(hs:swapsWith e none pos.line X.env=pure false:=by rfl):PS X (.Expr e pos) (P5 te):=by intro on s Y H D I h;exact wpAny_Expr_any (fH (he on s Y H _ I h) λv s1 ⟨x,H1,I1,r1,q1⟩=>⟨Y,H1,I1,q1⟩) I.quiet hs
def RC(te:TE):TS:=λD Y H=>te Y H D.rt
def Jt(he:PE X e te):PS X (.Return (some e) pos) (RC te):=by intro on s Y H D I h;exact wpAny_Return_some (fH (he on s Y H _ I h) λv s1 ⟨x,H1,I1,r1,q1⟩=>⟨x,Y,H1,I1,r1,q1⟩)
def RI(c:TT)(t u:TS):TS:=λD Y H=>c Y H λb H1=>if b=true then t D Y H1 else u D Y H1
def Na{tc:TT}(hc:PT X c tc)(ha:Vw X a t)(hb:Vw X b u):PS X (.If c a b pos) (RI tc t u):=by intro on s Y H D I h;refine wpAny_If (fH (hc on s Y H _ I h) λd s1 ⟨H1,I1,q1⟩=>?_);cases d with|true=>exact ha on s1 Y H1 D I1 q1|false=>exact hb on s1 Y H1 D I1 q1
end
abbrev TG:=V->St->Hp->(St->Hp->Prop)->Prop
abbrev Pq:=gW->St->Hp->(St->Hp->Prop)->Prop
def PG(X:Cx)(target:Expr)(t:TG):Prop:=∀(on:iB)(s:Shared)(Y:St)(H:Hp)(v:V)(u:Value)(Q:St->Hp->Prop),Inv X on Y H s->RelV v u->t v Y H Q->ge X (assign target X.env u) (λ_ s'=>∃T0 H',Inv X on T0 H' s'/\Q T0 H') X.xe s
def Rb(X:Cx)(ts:xu)(t:Pq):Prop:=∀(on:iB)(s:Shared)(Y:St)(H:Hp)(vs:gW)(us:jw)(Q:St->Hp->Prop),Inv X on Y H s->Vals vs us->t vs Y H Q->ge X (assignInOrder ((assignEach ts X.env).map (·.2)) us) (λ_ s'=>∃T0 H',Inv X on T0 H' s'/\Q T0 H') X.xe s
abbrev KG:=V->V->V->Hp->(Hp->Prop)->Prop
def Pu(X:Cx)(t:KG):Prop:=∀(on:iB)(s:Shared)(Y:St)(H:Hp)(o i v:V)(ov iv u:Value)(Q:Hp->Prop),Inv X on Y H s->RelV o ov->RelV i iv->RelV v u->t o i v H Q->ge X (setItem ov iv u) (λ_ s'=>∃H',Inv X on Y H' s'/\Q H') X.xe s
abbrev Q7:=V->V->Hp->VK->Prop
def SL(X:Cx)(op:Operator)(t:Q7):Prop:=∀(on:iB)(s:Shared)(Y:St)(H:Hp)(x y:V)(v u:Value)(Q:VK),Inv X on Y H s->RelV x v->RelV y u->t x y H Q->ge X (inplaceOp op v u) (EP X on Y Q) X.xe s
section
variable {X:Cx}
def Nx(i:Nat):TG:=λv Y H Q=>Q (Y.set i<|some v) H
def oB{i:Nat}(hN:X.N.Nodup)(hi:X.N[i]?=some x)(hx:Pw X.env.scope x)(hf:X.fn x=true\/X.env.scope.names.lookup x=some .local:=by first |exact .inl rfl |exact .inr rfl |assumption):PG X (.Name x pos) (Nx i):=by intro on s Y H v u Q I r h;exact wpAny_assign_Name<|kg I hN hi hx r (λs' I'=>⟨_,H,I',h⟩) hf
def Sa:Pq:=λvs Y H Q=>vs=[]/\Q Y H
def QP(t:TG)(u:Pq):Pq:=λvs Y H Q=>∃v r,vs=v::r/\t v Y H λT0 H'=>u r T0 H' Q
def xc:Rb X [] Sa:=by intro on s Y H vs us Q I r h;obtain⟨e,h⟩:=h;subst e;cases r;exact Tt ⟨Y,H,I,h⟩
def ja{u:Pq}(h1:PG X e t)(h2:Rb X es u)(hs:(assignEach (e::es) X.env).map (·.2)=assign e X.env::(assignEach es X.env).map (·.2):=by rfl):Rb X (e::es) (QP t u):=by intro on s Y H vs us Q I r h;obtain⟨v,vr,e1,h⟩:=h;subst e1;cases r with|cons r rr=>rw[hs];refine kW (fH (h1 on s Y H _ _ _ I r h) λ_ s1 ⟨UV,H1,I1,q1⟩=>?_);exact h2 on s1 UV H1 _ _ Q I1 rr q1
def R7(K:gh)(n:Nat)(t:Pq):TG:=λv Y H Q=>∃a xs,v=.ref a/\Ud K H a xs/\xs.length=n/\t xs Y H Q
def BC{n:Nat}{t:Pq}(hc:X.calm=true)(h:Rb X es t)(hn:(assignEach es X.env).length=n:=by rfl)(Zc:(assignEach es X.env).findIdx? (·.1)=none:=by rfl):PG X (.Tuple es k pos) (R7 X.K n t):=by intro on s Y H v u Q I r hw;obtain⟨a,xs,e1,hq,hl,hw⟩:=hw;subst e1;cases r;obtain⟨its,rv,ht,hz⟩:=I.tuple hq;refine assign_Tuple_tuple (I.ok.hd hc) ht (by simp[hn,<-hl,rv.length]) Zc λh' hx=>?_;have I1:Inv X on Y H {s with heap:=h'}:=I.kept (t':=s.toks) λb o e=>hx b o (bU<|aQ e) e;exact h on _ Y H xs _ Q I1 (by simpa using rv) hw
def R8(to ti:TE)(t:KG):TG:=λv Y H Q=>to Y H λo H1=>ti Y H1 λi H2=>t o i v H2 λH3=>Q Y H3
def Of{t:KG}(ho:PE X o to)(hi:PE X i ti)(hs:Pu X t)(ha:∀v,assign (.Subscript o i pos) X.env v=(do
   let ov <-holding [v] (eval o X.env)
   let iv <-holding [v,ov] (eval i X.env)
   standAt pos
   holding [v,ov,iv] (setItem ov iv v)
   release [v,ov,iv] []):=by intro _;rfl):PG X (.Subscript o i pos) (R8 to ti t):=by
 intro on s Y H v u Q I r h
 rw[ha]
 refine aj<|Ay (fH (ho on s Y H _ I h) λov s1 ⟨x,H1,I1,r1,q1⟩=>?_)
 refine aj<|Ay (fH (hi on s1 Y H1 _ I1 q1) λiv s2 ⟨y,H2,I2,r2,q2⟩=>?_)
 refine aj<|Ax<|aj<|Ay (fH (hs on s2 Y H2 x y v ov iv u _ I2 r1 r2 r q2) λ_ s3 ⟨H3,I3,q3⟩=>?_)
 exact wpAny_release ⟨Y,H3,I3,q3⟩
def P9(te:TE)(g:TG):TS:=λD Y H=>te Y H λx H1=>g x Y H1 D.nx
def EW{pos:Pos}(he:PE X e te)(hg:PG X tg g)(hs:swapsWithSole [tg] e pos.line X.env=pure false:=by rfl)(hw:swappedStores [tg] e X.env=pure none:=by rfl)(h1:(assignEach [tg] X.env).map (·.2)=[assign tg X.env]:=by rfl):PS X (.Assign [tg] e pos) (P9 te g):=by intro on s Y H D I h;refine wpAny_Assign_stores (fH (he on s Y H _ I h) λv s1 ⟨x,H1,I1,r1,q1⟩=>?_) hs hw;rw[h1];exact fH (hg on s1 Y H1 x v _ I1 r1 q1) λ_ s2 q=>q
def ET{i:Nat}{pos:Pos}(hN:X.N.Nodup)(hi:X.N[i]?=some x)(hx:Pw X.env.scope x)(he:PE X e te)(hs:swapsWith e (some<|.Name x pos') pos.line X.env=pure false:=by rfl)(hf:X.fn x=true\/X.env.scope.names.lookup x=some .local:=by first |exact .inl rfl |exact .inr rfl |assumption):PS X (.Assign [.Name x pos'] e pos) (P9 te<|Nx i):=by intro on s Y H D I h;refine wpAny_Assign_Name (fH (he on s Y H _ I h) λv s1 ⟨y,H1,I1,r1,q1⟩=>?_) hs;exact kg I1 hN hi hx r1 (λs2 I2=>⟨_,H1,I2,q1⟩) hf
def RD(i j:Nat)(ta:TA):TS:=λD Y H=>ta Y H λvs H1=>∃v w,vs=[v,w]/\D.nx ((Y.set i<|some v).set j<|some w) H1
def EU{i j:Nat}{pos:Pos}{kt k2 U6}(hc:X.calm=true)(hN:X.N.Nodup)(hi:X.N[i]?=some x)(hj:X.N[j]?=some y)(Vi:i≠j)(hx:X.env.scope.names.lookup x=some .local)(hy:X.env.scope.names.lookup y=some .local)(ha:PA X [a,b] ta)(hw:swappedStores [.Tuple [.Name x px,.Name y py] kt pt] (.Tuple [a,b] k2 U6) X.env=pure (some [x,y]))(hs:swapsWithSole [.Tuple [.Name x px,.Name y py] kt pt] (.Tuple [a,b] k2 U6) pos.line X.env=pure false:=by rfl):PS X (.Assign [.Tuple [.Name x px,.Name y py] kt pt] (.Tuple [a,b] k2 U6) pos) (RD i j ta):=by
 intro on s Y H D I h;rw[exec_Assign_arm];refine aj<|Ax ?_;rw[hs];refine aj<|aR ?_;rw[ap<|by decide];refine aj<|Tuple_ (fH (ha _ on s Y H _ I h) λus s1 ⟨vs,H1,I1,r1,q1⟩=>?_);obtain⟨v,w,e1,q1⟩:=q1;subst e1;obtain⟨u1,u2,rfl,rv,UL⟩:∃u1 u2,us=[u1,u2]/\RelV v u1/\RelV w u2:=by cases r1 with|cons p q=>cases q with|cons p' q'=>cases q';exact⟨_,_,rfl,p,p'⟩
 refine cn ?_ (by show 2<=sizeLine;decide);have I2:Inv X on Y H1 {s1 with heap:=s1.heap.push {cls:=.type "tuple",data:=.seq [u1,u2].toArray}}:=I1.kept (t':=s1.toks) λb o e=>aD _ e;rw[hw];refine aj<|aR ?_;show ge X (do rule "assign.swapped-stores";let items <-unpackItems (.ref s1.heap.objs.size) 2 none;assignInOrder [λv=>bindName X.env y v,λv=>bindName X.env x v] items.reverse;pure Flow.next) _ _ _;refine aj<|MO<|aj (unpackItems_tuple (items:=#[u1,u2]) (I.ok.hd hc) (IsTup.new s1.heap _) λh' U1=>?_);have I3:=I2.kept (h':=h') (t':=s1.toks) λb o e=>U1 b o (bU<|aQ e) e;show wpAny _ _ (assignInOrder [λv=>bindName X.env y v,λv=>bindName X.env x v] [u2,u1]>>=λ_=>pure Flow.next) _ _ _;refine aj<|kW<|wK<|kg I3 hN hj (.inl hy) UL (λs2 I4=>?_)<|.inr hy;refine kW<|wK<|kg I4 hN hi (.inl hx) rv (λs3 I5=>Tt<|aR ?_)<|.inr hx;rw[Ev _ _<|ip Vi]at I5;exact⟨_,H1,I5,q1⟩
def RL(i:Nat)(te:TE)(ti:Q7):TS:=λD Y H=>∃x,Y[i]?=some (some x)/\te Y H λy H1=>ti x y H1 λz H2=>D.nx (Y.set i<|some z) H2
def N7{i:Nat}{ti:Q7}(hN:X.N.Nodup)(hi:X.N[i]?=some x)(hx:Pw X.env.scope x)(he:PE X e te)(ho:SL X op ti)(hf:X.fn x=true\/X.env.scope.names.lookup x=some .local:=by first |exact .inl rfl |exact .inr rfl |assumption):PS X (.AugAssign (.Name x pos') op e pos) (RL i te ti):=by
 intro on s Y H D I h;obtain⟨v,e1,h⟩:=h;obtain⟨m,hn,hl⟩:=I.loc;have vis:Q5 X.env.scope x:=by rcases hx with k |k;exact .inl k;exact .inr<|.inl k
 obtain⟨u,r,l⟩:=hl i x v hi e1 vis;refine wpAny_AugAssign_Name ?_;have go:ge X (eval e X.env) (λw s₂=>ge X (inplaceOp op u w) (λr s₃=>ge X (storeName X.env x r) (λ_=>SP X on D .next) X.xe s₃) X.xe s₂) X.xe s:=by refine fH (he on s Y H _ I h) λw s1 ⟨y,H1,I1,r1,q1⟩=>?_;refine fH (ho on s1 Y H1 v y u w _ I1 r r1 q1) λz s2 ⟨zv,H2,I2,r2,q2⟩=>?_;exact kg I2 hN hi hx r2 (λs3 I3=>⟨_,H2,I3,q2⟩) hf
 rcases l with⟨hk,hm⟩ |⟨hk,c,hc,UM⟩;·exact wpAny_loadName_local I.ok.kind hk hn hm go
 ·rcases hk with hk |hk;·exact wpAny_loadName_cell I.ok.kind hk hc UM go
  ·rcases hx with k |k;·have:X.env.scope.names.lookup x=some .free:=hk;rw[k]at this;cases this
   ·have:X.env.scope.names.lookup x=some .free:=hk;rw[k]at this;cases this
def P8(to ti te:TE)(Wr:V->V->Hp->VK->Prop)(Yo:Q7)(Wq:KG):TS:=λD Y H=>to Y H λo H1=>ti Y H1 λi H2=>Wr o i H2 λx H3=>te Y H3 λy H4=>Yo x y H4 λz H5=>Wq o i z H5 λH6=>D.nx Y H6
def Rc(X:Cx)(t:V->V->Hp->VK->Prop):Prop:=∀(on:iB)(s:Shared)(Y:St)(H:Hp)(o i:V)(ov iv:Value)(Q:VK),Inv X on Y H s->RelV o ov->RelV i iv->t o i H Q->ge X (getItem ov iv) (EP X on Y Q) X.xe s
def Lv{Wr:V->V->Hp->VK->Prop}{Yo:Q7}{Wq:KG}(ho:PE X o to)(hi:PE X i ti)(hg:Rc X Wr)(he:PE X e te)(hp:SL X op Yo)(hs:Pu X Wq)(ha:∀ov iv new,augStore i ov iv new=(do holding [new,ov,iv] (setItem ov iv new);release [new,ov,iv] [];pure .next):=by intros;rfl):PS X (.AugAssign (.Subscript o i YQ) op e pos) (P8 to ti te Wr Yo Wq):=by intro on s Y H D I h;refine wpAny_AugAssign_SubscriptAny (fH (ho on s Y H _ I h) λov s1 ⟨x1,H1,I1,r1,q1⟩=>?_) ha;refine fH (hi on s1 Y H1 _ I1 q1) λiv s2 ⟨x2,H2,I2,r2,q2⟩=>?_;refine fH (hg on s2 Y H2 x1 x2 ov iv _ I2 r1 r2 q2) λold s3 ⟨x3,H3,I3,r3,q3⟩=>?_;refine fH (he on s3 Y H3 _ I3 q3) λv s4 ⟨x4,H4,I4,r4,q4⟩=>?_;refine fH (hp on s4 Y H4 x3 x4 old v _ I4 r3 r4 q4) λnew s5 ⟨x5,H5,I5,r5,q5⟩=>?_;exact fH (hs on s5 Y H5 x1 x2 x5 ov iv new _ I5 r1 r2 r5 q5) λ_ s6 ⟨H6,I6,q6⟩=>⟨Y,H6,I6,q6⟩
end
section
variable {X:Cx}
def NJ(c:TT)(tb:TS):TS:=λD Y H=>∃W:Nat->St->Hp->Prop,(∃m,W m Y H)/\∀m Y H,W m Y H->c Y H λb H1=>if b=true then∃N:St->Hp->Prop,(∀T0 H',N T0 H'->∃m',m'<m/\W m' T0 H')/\tb {D with nx:=N,ct:=N,bk:=D.nx} Y H1 else D.nx Y H1
def Jr{tc:TT}(hp:PassesOwn (model X.prog X.w) X.A X.env X.xe)(hc:PT X c tc)(hb:Vw X body tb):PS X (.While c body [] pos) (NJ tc tb):=by
 intro on s Y H D I h;obtain⟨W,⟨m0,w0⟩,turn⟩:=h;refine wpAny_While<|codeAny_whileLoop (λn s'=>∃T0 H',Inv X on T0 H' s'/\W n T0 H') ?_ m0 ⟨Y,H,I,w0⟩;rintro n s1 ⟨UV,H1,I1,w1⟩;refine jQ hp (fH (hc on s1 UV H1 _ I1<|turn n UV H1 w1) λb s2 ⟨H2,I2,q2⟩=>?_);cases b with
 |true=>
  obtain⟨N,hN,q2⟩:=q2;rw[am rfl];refine jQ hp (fH (hb on s2 UV H2 _ I2 q2) λf s3 q3=>?_);cases f with
  |next=>obtain⟨W1,H3,I3,n3⟩:=q3;obtain⟨m',hm,w3⟩:=hN W1 H3 n3;exact⟨m',hm,W1,H3,I3,w3⟩
  |cont=>obtain⟨W1,H3,I3,n3⟩:=q3;obtain⟨m',hm,w3⟩:=hN W1 H3 n3;exact⟨m',hm,W1,H3,I3,w3⟩
  |brk=>exact q3|ret v=>exact q3
 |false=>rw[ap aK];exact uK ⟨UV,H2,I2,q2⟩
end
structure It where
 go:Nat->Hp->Prop
 YM:Nat->Hp->V->Hp->Prop
 stop:Nat->Hp->Prop
 X0:Prop
def Px(X:Cx):Prop:=∃(ea:Addr)(oe:Obj)(u:HO)(vs:Array Value),X.A.handled=some (.ref ea)/\X.H₀ ea=some (.UN oe u)/\oe.data=.fields vs/\vs[2]?=some .none
def tO(X:Cx)(on:iB)(H:Hp)(b:Addr):Prop:=H b=none/\b≠X.env.locals/\b∉X.fs/\(b∈X.ex\/X.s₀.heap.objs.size<=b)/\(∀x c,X.env.cells.lookup x=some c->c≠b)/\∀p∈X.pn++on,p.1≠b
def Inv.Vu{X:Cx}{H':Hp}{b:Addr}(I:Inv X on Y H s)(hb:s.heap.objs.size<=b)(hn:H' b=none):tO X on H' b:=by
 refine⟨hn,ky<|aE I.lt hb,I.Y3 hb,.inr<|bL I.sz hb,λx c e z=>?_,λp hp z=>?_⟩;·obtain⟨v,q⟩:=I.cell x c e;exact absurd (aE q.lt<|by rw[z];exact hb)<|eY _
 ·exact absurd (aE (aQ (I.pin p hp).1)<|by rw[z];exact hb)<|eY _
structure Av(P:Program)(w:World)(K:gh)(tg:Expr)(J:It)(fp:List Addr)(it:Addr)(tn:Nat->Heap->Prop):Prop where
 mem:it∈fp
 obj:∀i h,tn i h->∀b∈fp,∃o,h.get? b=some o/\∀v,o.data≠.cell v
 keep:∀i h h',tn i h->(∀b∈fp,∀o,h.get? b=some o->h'.get? b=some o)->tn i h'
 item:∀(X:Cx),X.prog=P->X.w=w->X.K=K->(X.calm=true\/(J.X0/\Px X))->∀(i:Nat)(on:iB)(s:Shared)(Y:St)(H:Hp)(E:v7),Inv X on Y H s->(∀b∈fp,tO X on H b)->tn i s.heap->J.go i H->
  wpAny (model P w) X.A (pyNext<|.ref it) (λr s1=>∃u,r=some u/\
   wpAny (model P w) X.A (letOwnedTupleGo tg (.ref it) u) (λ_ s2=>∃x H',Inv X on Y H' s2/\RelV x u/\J.YM i H x H'/\tn (i+1) s2.heap/\∀b∈fp,H' b=none) E s1) E s
 done:∀(X:Cx),X.prog=P->X.w=w->X.K=K->(X.calm=true\/(J.X0/\Px X))->∀(i:Nat)(on:iB)(s:Shared)(Y:St)(H:Hp)(E:v7),Inv X on Y H s->(∀b∈fp,tO X on H b)->tn i s.heap->J.stop i H->
  wpAny (model P w) X.A (pyNext<|.ref it) (λr s1=>r=none/\Inv X on Y H s1) E s
 self:∀(A:Around)(i:Nat)(s:Shared)(Q:v7)(E:v7),tn i s.heap->Q (.ref it) s->wpAny (model P w) A (pyIter<|.ref it) Q E s
abbrev TI:=St->Hp->(It->Hp->Prop)->Prop
def Ra(X:Cx)(on:iB)(Y:St)(tg:Expr)(R:It->Hp->Prop)(Yv:Value)(s2:Shared):Prop:=∃(it:Addr)(fp:List Addr)(tn:Nat->Heap->Prop)(J:It)(H':Hp),Yv=.ref it/\Inv X on Y H' s2/\Av X.prog X.w X.K tg J fp it tn/\tn 0 s2.heap/\(∀b∈fp,tO X on H' b)/\R J H'
def PI(X:Cx)(tg iter:Expr)(wi:TI):Prop:=∀(on:iB)(s:Shared)(Y:St)(H:Hp)(R:It->Hp->Prop),Inv X on Y H s->wi Y H R->ge X (eval iter X.env) (λv s1=>ge X (pyIter v) (Ra X on Y tg R) X.xe s1) X.xe s
def DT{s:Shared}{it:Addr}{Q:Unit->Shared->Prop}(ho:s.heap.get? it=some o)(hc:o.cls=.type n)(hd:o.data=.fields vs)(hn:["enumerate","zip","dict_itemiterator","dict_reverseitemiterator","odict_iterator","itertools.zip_longest","itertools.pairwise"].contains n=false)(hQ:Q () s):wpAny M A (letOwnedTupleGo tg (.ref it) u) Q E s:=by
 unfold letOwnedTupleGo;cases tg<;>first
  |exact aR hQ|(cases u<;>first|exact aR hQ|(refine aj<|wpAny_load ho ?_;rw[hc,hd];show wpAny M A (if(["enumerate","zip","dict_itemiterator","dict_reverseitemiterator","odict_iterator","itertools.zip_longest","itertools.pairwise"].contains n&&vs[0]?==some (rawInt _))=true then _ else _) Q E s;rw[ap<|by intro h;rw[hn,Bool.false_and]at h;cases h];exact aR hQ))
def Sk(K:gh)(a:Addr):It:=⟨λi H=>∃xs x,T9 K H a xs/\xs[i]?=some x,λi H x H'=>H'=H/\∀xs,T9 K H a xs->xs[i]?=some x,λi H=>∃xs,T9 K H a xs/\xs.length<=i,False⟩
def Sj(K:gh)(a:Addr):It:=⟨λi H=>∃xs x,Ud K H a xs/\xs[i]?=some x,λi H x H'=>H'=H/\∀xs,Ud K H a xs->xs[i]?=some x,λi H=>∃xs,Ud K H a xs/\xs.length<=i,False⟩
def Re(lo:Int)(n:Nat):It:=⟨λi _=>i<n,λi H x H'=>H'=H/\x=.int (lo+i),λi _=>n<=i,True⟩
def G2(a it:Addr):Av P w K tg (Sk K a) [it] it (λi h=>h.IsListIter it a i) where
 mem:=by simp
 obj:=λi h st b hb=>by
  have e:b=it:=by simpa using hb
  subst e;obtain⟨o,e,c,d⟩:=st;exact⟨o,e,λv z=>by rw[d]at z;cases z⟩
 keep:=λi h h' st k=>st.at λo e=>k it (by simp) o e
 item:=by intro X hP hw hK hc i on s Y H E I hf st hg;subst hP hw hK;replace hc:=hc.resolve_right λz=>z.1;obtain⟨xs,x,hq,hx⟩:=hg;obtain⟨its,rv,p,hz⟩:=I.list hq;obtain⟨u,hu,ru⟩:=rv.get hx;obtain⟨f0,f1,f2,f3,f4,f5⟩:=hf it (by simp);refine wpAny_pyNext_list_item st p.isList (x:=u) (by simpa using hu) λh' U0 sb=>?_;have I1:Inv X on Y H {s with heap:=h'}:=I.turned (t':=s.toks) (λb o hb e=>(sb.2 b hb).trans e) f0 f1 f3 f4 f5;obtain⟨o,e,c,d⟩:=id U0;exact⟨u,rfl,DT (s:={s with heap:=h'}) e c d (by decide) ⟨x,H,I1,ru,⟨rfl,λys hy=>by rw[I.UT hy hq];exact hx⟩,U0,λb hb=>(hf b hb).1⟩⟩
 done:=by intro X hP hw hK hc i on s Y H E I hf st hg;subst hP hw hK;replace hc:=hc.resolve_right λz=>z.1;obtain⟨xs,hq,hx⟩:=hg;obtain⟨its,rv,p,hz⟩:=I.list hq;obtain⟨f0,f1,f2,f3,f4,f5⟩:=hf it (by simp);have hl:=rv.length;exact wpAny_pyNext_list_end (I.ok.hd hc) st p.isList (by simp;lia) λh' eb=>⟨rfl,I.turned (t':=s.toks) (λb o hb e=>eb b o hb e) f0 f1 f3 f4 f5⟩
 self:=λ_ _ _ _ _ st h=>wpAny_pyIter_listiter st h
def Ey(a it:Addr):Av P w K tg (Sj K a) [it] it (λi h=>h.IsTupleIter it a i) where
 mem:=by simp
 obj:=λi h st b hb=>by
  have e:b=it:=by simpa using hb
  subst e;obtain⟨o,e,c,d⟩:=st;exact⟨o,e,λv z=>by rw[d]at z;cases z⟩
 keep:=λi h h' st k=>st.at λo e=>k it (by simp) o e
 item:=by intro X hP hw hK hc i on s Y H E I hf st hg;subst hP hw hK;replace hc:=hc.resolve_right λz=>z.1;obtain⟨xs,x,hq,hx⟩:=hg;obtain⟨its,rv,p,hz⟩:=I.tuple hq;obtain⟨u,hu,ru⟩:=rv.get hx;obtain⟨f0,f1,f2,f3,f4,f5⟩:=hf it (by simp);refine wpAny_pyNext_tuple_item st (show s.heap.IsTuple a its.toArray from p) (x:=u) (by simpa using hu) λh' U0 sb=>?_;have I1:Inv X on Y H {s with heap:=h'}:=I.turned (t':=s.toks) (λb o hb e=>(sb.2 b hb).trans e) f0 f1 f3 f4 f5;obtain⟨o,e,c,d⟩:=id U0;exact⟨u,rfl,DT (s:={s with heap:=h'}) e c d (by decide) ⟨x,H,I1,ru,⟨rfl,λys hy=>by rw[I.UH hy hq];exact hx⟩,U0,λb hb=>(hf b hb).1⟩⟩
 done:=by intro X hP hw hK hc i on s Y H E I hf st hg;subst hP hw hK;replace hc:=hc.resolve_right λz=>z.1;obtain⟨xs,hq,hx⟩:=hg;obtain⟨its,rv,p,hz⟩:=I.tuple hq;obtain⟨f0,f1,f2,f3,f4,f5⟩:=hf it (by simp);have hl:=rv.length;exact wpAny_pyNext_tuple_end (I.ok.hd hc) st (show s.heap.IsTuple a its.toArray from p) (by simp;lia) λh' eb=>⟨rfl,I.turned (t':=s.toks) (λb o hb e=>eb b o hb e) f0 f1 f3 f4 f5⟩
 self:=λ_ _ _ _ _ st h=>wpAny_pyIter_tupleiter st h
def Ae:entryFor table "proto.unchain"=some Builtin.«proto.unchain»:=Rh<|by kernel_rfl
def sM{A:Around}{s:Shared}{step:Int}{Q:Option Value->Shared->Prop}(hh:A.handled=some (.ref ea))(he:s.heap.get? ea=some oe)(hd:oe.data=.fields vs)(h2:vs[2]?=some .none)(hit:IsRangeIter s.heap it x left step)(X3:left<=0)(hQ:∀h',Heap.ExtBut it s.heap h'->Q none {s with heap:=h'}):wpAny (model prog w) A (pyNext<|.ref it) Q E s:=by
 have hT:s.TypeIs (.ref it) "range_iterator":=⟨_,hit,rfl⟩;unfold pyNext;refine aj<|Az<|e9 (name:=Str.ofString "__next__") hT F.slot_range_iterator_next<|gC F.slot_range_iterator_next hT F.entry_range_iterator_next ?_<|F.args_range_iterator_next_1 _;show wpAny _ _ (field (.ref it) 0>>=_) _ _ s;refine aj<|dY hit rfl (x:=rawInt x) rfl ?_;show wpAny _ _ (field (.ref it) 1>>=_) _ _ s;refine aj<|dY hit rfl (x:=rawInt left) rfl ?_;show wpAny _ _ (field (.ref it) 2>>=_) _ _ s;refine aj<|dY hit rfl (x:=rawInt step) rfl ?_;show wpAny _ _ (if left<=0 then _ else _) _ _ s;rw[am X3];refine aj<|MO<|aj ?_;show wpAny _ _ (newExc (.type "StopIteration") []>>=_) _ _ _;refine aj ?_;simp only[newExc,newTuple];refine aj<|cn ?_ (by size_fits);refine aj (m:=firstArgMember _ _)<|lC (a:=Value.none) (by first |rfl |(simp only[firstArgMember];rfl)) ?_;refine cn ?_ (by size_fits);have Uv:ea<s.heap.objs.size:=aQ he;simp only[raiseNew];refine aj<|wpAny_handled ?_;rw[show A.in1.handled=some (.ref ea)from hh];dsimp only;have ne:(Value.ref ea !=Value.ref (s.heap.push {cls:=.type "tuple",data:=.seq ([]:jw).toArray}).objs.size)=true:=by rw[iX];have:ea≠s.heap.objs.size+1:=bU<|ju Uv;simp[this]
 rw[am ne];have Xu:((s.heap.push {cls:=.type "tuple",data:=.seq ([]:jw).toArray}).push {cls:=.type "StopIteration",data:=.fields (#[.ref s.heap.objs.size,.none,.none,.none,.bool false,Value.none]++ownMembersOf (.type "StopIteration") [])}).get? ea=some oe:=aD _<|aD _ he;refine aj<|Ay<|wpAny_runValue<|codeAny_builtin Ae ?_;unfold Builtin.«proto.unchain»;dsimp only;refine aj<|dY Xu hd h2 ?_;rw[am<|by decide];refine aR ?_;dsimp only;refine aj ?_;simp only[updateField];refine aj<|wpAny_load (aT _ rfl) ?_;dsimp only;rw[am<|by rw[Array.size_append];show 2<6+_;lia];refine wpAny_update (aT _ rfl) ?_;refine wpAny_throw ?_;refine aj<|CG (T:="StopIteration") (b:=true) ⟨_,kB _ (aT _ rfl) rfl,rfl⟩ Tf ?_;refine aR (hQ _ λb o hb q=>?_);have hb2:b<s.heap.objs.size:=aQ q;rw[Em _ _<|by rw[iX];exact ky<|ju hb2];exact aD _<|aD _ q
def Ez(it:Addr)(lo:Int)(n:Nat):Av P w K tg (Re lo n) [it] it (λi h=>IsRangeIter h it (lo+(i:Nat)*1) ((n:Int)-(i:Nat)) 1) where
 mem:=by simp
 obj:=λi h st b hb=>by
  have e:b=it:=by simpa using hb
  subst e;exact⟨_,st,λv z=>by have z':Data.fields _=Data.cell v:=z;cases z'⟩
 keep:=λi h h' st k=>k it (by simp) _ st
 item:=by
  intro X hP hw hK hc i on s Y H E I hf st hg;subst hP hw hK;obtain⟨f0,f1,f2,f3,f4,f5⟩:=hf it (by simp);refine wpAny_pyNext_range_item st (by have:i<n:=hg;lia) λh' U0 sb=>?_;have I1:Inv X on Y H {s with heap:=h',toks:=s.toks+1}:=I.turned (λb o hb e=>(sb.2 b hb).trans e) f0 f1 f3 f4 f5;have e1:lo+(i:Nat)*1+1=lo+((i+1:Nat):Int)*1:=by lia
  have e2:(n:Int)-(i:Nat)-1=(n:Int)-((i+1:Nat):Int):=by lia
  rw[e1,e2]at U0;refine⟨_,rfl,DT (s:={s with heap:=h',toks:=s.toks+1}) (n:="range_iterator") U0 rfl rfl (by decide) ⟨.int<|lo+i,H,I1,⟨s.toks,?_⟩,⟨rfl,rfl⟩,U0,λb hb=>(hf b hb).1⟩⟩;rw[CK]
 done:=by
  intro X hP hw hK hc i on s Y H E I hf st hg;subst hP hw hK;obtain⟨f0,f1,f2,f3,f4,f5⟩:=hf it (by simp);rcases hc with hc |⟨_,ea,oe,u,vs,k1,k2,k3,k4⟩;rotate_left;·obtain⟨ho,_⟩:=(show TY X.prog X.w H s.heap ea (.UN oe u)from I.TV ea _<|I.base.UJ ea oe u k2);exact sM k1 ho k3 k4 st (by have:n<=i:=hg;lia) λh' eb=>⟨rfl,I.turned (t':=s.toks) (λb o hb e=>eb b o hb e) f0 f1 f3 f4 f5⟩
  exact wpAny_pyNext_range_end (I.ok.hd hc) st (by have:n<=i:=hg;lia) λh' eb=>⟨rfl,I.turned (t':=s.toks) (λb o hb e=>eb b o hb e) f0 f1 f3 f4 f5⟩
 self:=λ_ _ _ _ _ st h=>wpAny_pyIter_rangeiter st h
section
variable {X:Cx}
def QL(K:gh)(tl:TE):TI:=λY H R=>tl Y H λx H1=>∃a,x=.ref a/\(∃xs,T9 K H1 a xs)/\R (Sk K a) H1
def R5(K:gh)(tl:TE):TI:=λY H R=>tl Y H λx H1=>∃a,x=.ref a/\(∃xs,Ud K H1 a xs)/\R (Sj K a) H1
def LC(hl:PE X l tl):PI X tg l (QL X.K tl):=by
 intro on s Y H R I h;refine fH (hl on s Y H _ I h) λv s1 ⟨x,H1,I1,r1,q1⟩=>?_;obtain⟨a,e,⟨xs,hq⟩,q⟩:=q1;subst e;cases r1;obtain⟨its,rv,p,hz⟩:=I1.list hq;refine zp p.isList ?_;refine⟨s1.heap.objs.size,[s1.heap.objs.size],_,_,H1,rfl,I1.kept (t':=s1.toks) λb o e=>aD _ e,G2 a _,⟨_,aT _ rfl,rfl,rfl⟩,λb hb=>?_,q⟩;have e:b=s1.heap.objs.size:=by simpa using hb
 subst e;exact I1.Vu (aq _)<|I1.TV.fresh<|aq _
def JB(hl:PE X l tl):PI X tg l (R5 X.K tl):=by
 intro on s Y H R I h;refine fH (hl on s Y H _ I h) λv s1 ⟨x,H1,I1,r1,q1⟩=>?_;obtain⟨a,e,⟨xs,hq⟩,q⟩:=q1;subst e;cases r1;obtain⟨its,rv,p,hz⟩:=I1.tuple hq;refine wJ (show s1.heap.IsTuple a its.toArray from p) ?_;refine⟨s1.heap.objs.size,[s1.heap.objs.size],_,_,H1,rfl,I1.kept (t':=s1.toks) λb o e=>aD _ e,Ey a _,⟨_,aT _ rfl,rfl,rfl⟩,λb hb=>?_,q⟩;have e:b=s1.heap.objs.size:=by simpa using hb
 subst e;exact I1.Vu (aq _)<|I1.TV.fresh<|aq _
def Di{lo hi:Int}{tk:Nat}{R:It->Hp->Prop}(I:Inv X on Y H s)(h1: -(2 ^ 62)<=lo)(h2:lo<2 ^ 62)(h3: -(2 ^ 62)<=hi)(h4:hi<2 ^ 62)(q:R (Re lo (hi-lo).toNat) H):ge X (pyIter<|.ref s.heap.objs.size) (Ra X on Y tg R) E {s with heap:=s.heap.push {cls:=.type "range",data:=.fields #[.int lo t,.int hi u,.int 1 v]},toks:=tk}:=by
 refine wpAny_pyIter_range (IsRange.new ..) (small_one h1 h2 h3 h4) ?_;have I1:Inv X on Y H {s with heap:=s.heap.push {cls:=.type "range",data:=.fields #[.int lo t,.int hi u,.int 1 v]},toks:=tk}:=I.kept λb o e=>aD _ e;refine⟨(s.heap.push {cls:=.type "range",data:=.fields #[.int lo t,.int hi u,.int 1 v]}).objs.size,[(s.heap.push {cls:=.type "range",data:=.fields #[.int lo t,.int hi u,.int 1 v]}).objs.size],_,_,H,rfl,I1.kept (t':=tk) λb o e=>aD _ e,Ez _ lo (hi-lo).toNat,?_,λb hb=>?_,q⟩
 ·have e1:lo+((0:Nat):Int)*1=lo:=by simp
  have e2:(((hi-lo).toNat:Nat):Int)-((0:Nat):Int)=Builtin.Range.rangeSize lo hi 1:=by rw[rangeSize_one];split<;>lia
  show IsRangeIter _ _ (lo+((0:Nat):Int)*1) ((((hi-lo).toNat:Nat):Int)-((0:Nat):Int)) 1;rw[e1,e2];exact aT _ rfl
 ·have e:b=(s.heap.push {cls:=.type "range",data:=.fields #[.int lo t,.int hi u,.int 1 v]}).objs.size:=by simpa using hb
  subst e;exact I1.Vu (aq _)<|I1.TV.fresh<|aq _
def QK(ta:TA):TI:=λY H R=>ta Y H λvs H1=>∃j:Int,vs=[.int j]/\-(2 ^ 62)<=j/\j<2 ^ 62/\R (Re 0 j.toNat) H1
def QJ(ta:TA):TI:=λY H R=>ta Y H λvs H1=>∃i j:Int,vs=[.int i,.int j]/\(-(2 ^ 62)<=i/\i<2 ^ 62/\-(2 ^ 62)<=j/\j<2 ^ 62)/\R (Re i (j-i).toNat) H1
def Hm(hg:Gl X "range")(hm:X.mg "range"=none)(ha:PA X [a] ta)(hs:starEach [a] X.env=[(false,eval a X.env)]:=by rfl):PI X tg (.Call (.Name "range" p) [a] [] pos) (QK ta):=by intro on s Y H R I h;refine Call_<|oF I hg hm boot_range<|dJ (fH (ha pos on s Y H _ I h) λus s1 ⟨vs,H1,I1,r1,q1⟩=>?_) hs rfl;obtain⟨j,e,q1,q2,q⟩:=q1;subst e;cases r1 with|cons r rr=>cases rr;obtain⟨t,rfl⟩:=r;exact call_range_1<|Di I1 (by lia) (by lia) q1 q2<|by simpa using q
def Hl(hg:Gl X "range")(hm:X.mg "range"=none)(ha:PA X [a,b] ta)(hs:starEach [a,b] X.env=[(false,eval a X.env),(false,eval b X.env)]:=by rfl)(Vh:starEach [b] X.env=[(false,eval b X.env)]:=by rfl):PI X tg (.Call (.Name "range" p) [a,b] [] pos) (QJ ta):=by intro on s Y H R I h;refine Call_<|oF I hg hm boot_range<|dJ (fH (ha pos on s Y H _ I h) λus s1 ⟨vs,H1,I1,r1,q1⟩=>?_) (by rw[hs,Vh]) (by rw[Vh];rfl);obtain⟨i,j,e,⟨q1,q2,q3,q4⟩,q⟩:=q1;subst e;cases r1 with|cons r rr=>cases rr with|cons r' rr=>cases rr;obtain⟨t,rfl⟩:=r;obtain⟨t',rfl⟩:=r';exact call_range_2<|Di I1 q1 q2 q3 q4 q
def RJ(wi:TI)(g:TG)(tb:TS):TS:=λD Y H=>wi Y H λJ H1=>∃W:Nat->Nat->St->Hp->Prop,(∃m,W 0 m Y H1)/\∀i m Y H,W i m Y H->(J.stop i H/\D.nx Y H)\/(J.go i H/\∃N:St->Hp->Prop,(∀T0 H',N T0 H'->∃m',m'<m/\W (i+1) m' T0 H')/\∀x H',J.YM i H x H'->g x Y H' λXV H2=>tb {D with nx:=N,ct:=N,bk:=D.nx} XV H2)
def BA(fp:List Addr)(h:Heap):iB:=fp.filterMap λb=>(h.get? b).map λo=>(b,o)
def oD{fp:List Addr}{h:Heap}{b:Addr}(hb:b∈fp)(e:h.get? b=some o):(b,o)∈BA fp h:=List.mem_filterMap.mpr ⟨b,hb,by rw[e];rfl⟩
def Hn{p:Addr×Obj}(hp:p∈BA fp h):p.1∈fp/\h.get? p.1=some p.2:=by
 obtain⟨b,hb,e⟩:=List.mem_filterMap.mp hp;cases q:h.get? b with
 |none=>rw[q]at e;cases e
 |some o=>rw[q]at e;have e':(b,o)=p:=bS e;subst e';exact⟨hb,q⟩
def Inv.pinned{fp:List Addr}(I:Inv X on Y H s)(hf:∀b∈fp,tO X on H b)(ho:∀b∈fp,∃o,s.heap.get? b=some o/\∀v,o.data≠.cell v):Inv X (on++BA fp s.heap) Y H s:=I.VA λp hp=>(lQ.mp hp).elim (λz=>I.pin p<|df _ z) λz=>by obtain⟨hb,e⟩:=Hn z;obtain⟨f0,f1,f2,_⟩:=hf p.1 hb;obtain⟨o,e',d⟩:=ho p.1 hb;rw[e]at e';cases e';exact⟨e,f0,f1,f2,d⟩
def Inv.UB{on pl:iB}(I:Inv X (on++pl) Y H s):Inv X on Y H s:=I.VA λp hp=>I.pin p<|df _<|Tj _ hp
def N6(hp:PassesOwn (model X.prog X.w) X.A X.env X.xe)(hc:X.calm=true)(hi:PI X tg iter wi)(hg:PG X tg g)(hb:Vw X body tb)(hs:∀x,foldedSetIterable iter X.env x=pure x:=by intro _;rfl):PS X (.For tg iter body [] pos) (RJ wi g tb):=by
 intro on s Y H D I h;refine wpAny_For (fH (hi on s Y H _ I h) λv s1 h1=>fH h1 λYv s2 h2=>?_) hs;obtain⟨it,fp,tn,J,H2,e,I2,T,YR,f2,W,⟨m0,w0⟩,turn⟩:=h2;subst e;have stat:∀{H':Hp},(∀b∈fp,H' b=none)->∀b∈fp,tO X on H' b:=λhn b hb=>⟨hn b hb,(f2 b hb).2⟩;refine codeAny_forLoop_any (λn s'=>∃i T0 H',Inv X on T0 H' s'/\tn i s'.heap/\(∀b∈fp,H' b=none)/\W i n T0 H') ?_ m0 ⟨0,Y,H2,I2,YR,λb hb=>(f2 b hb).1,w0⟩;rintro n s3 ⟨i,W1,H3,I3,ZW,fr3,w3⟩;rcases turn i n W1 H3 w3 with⟨stop,qn⟩ |⟨go,N,hN,step⟩;·refine jQ hp (fH (T.done X rfl rfl rfl (.inl hc) i on s3 W1 H3 X.xe I3 (stat fr3) ZW stop) λr s4 ⟨hr,I4⟩=>?_);subst hr;exact uK ⟨W1,H3,I4,qn⟩
 ·refine jQ hp (fH (T.item X rfl rfl rfl (.inl hc) i on s3 W1 H3 X.xe I3 (stat fr3) ZW go) λr s4 ⟨u,hr,h4⟩=>?_);subst hr;refine jQ hp (fH h4 λ_ s5 ⟨x,H5,I5,r5,y5,W0,ZD⟩=>?_);have I5':=I5.pinned (stat ZD)<|T.obj _ _ W0;refine jQ hp (fH (hg _ s5 W1 H5 x u _ I5' r5<|step x H5 y5) λ_ s6 ⟨Wp,H6,I6,q6⟩=>?_);refine jQ hp (fH (hb _ s6 Wp H6 _ I6 q6) λf s7 q7=>?_);have again:∀{WP:St}{H7:Hp},Inv X (on++BA fp s5.heap) WP H7 s7->N WP H7->∃m,m<n/\∃i T0 H',Inv X on T0 H' s7/\tn i s7.heap/\(∀b∈fp,H' b=none)/\W i m T0 H':=λ{WP H7}I7 n7=>by obtain⟨m',hm,w7⟩:=hN WP H7 n7;refine⟨m',hm,i+1,WP,H7,I7.UB,T.keep _ _ _ W0 λb hb o e=>(I7.pin (b,o)<|df _<|df _<|oD hb e).1,λb hb=>?_,w7⟩;obtain⟨o,e,d⟩:=T.obj _ _ W0 b hb;exact(I7.pin (b,o)<|df _<|df _<|oD hb e).2.1
  cases f with
  |next=>obtain⟨WP,H7,I7,n7⟩:=q7;exact again I7 n7
  |cont=>obtain⟨WP,H7,I7,n7⟩:=q7;exact again I7 n7
  |brk=>obtain⟨WP,H7,I7,q7⟩:=q7;exact⟨WP,H7,I7.UB,q7⟩
  |ret v=>obtain⟨x7,WP,H7,I7,r7,q7⟩:=q7;exact⟨x7,WP,H7,I7.UB,r7,q7⟩
end
abbrev R2:=V->V->Hp->VK->Prop
def nV(X:Cx)(f:Value->Value->Sem Value)(r:R2):Prop:=∀(on:iB)(s:Shared)(Y:St)(H:Hp)(x y:V)(v u:Value)(Q:VK),Inv X on Y H s->RelV x v->RelV y u->r x y H Q->ge X (f v u) (EP X on Y Q) X.xe s
def Sd(X:Cx)(f:Value->Sem Value)(r:V->Hp->VK->Prop):Prop:=∀(on:iB)(s:Shared)(Y:St)(H:Hp)(x:V)(v:Value)(Q:VK),Inv X on Y H s->RelV x v->r x H Q->ge X (f v) (EP X on Y Q) X.xe s
def kr(X:Cx)(f:Value)(r:gW->Hp->VK->Prop):Prop:=∀(on:iB)(s:Shared)(Y:St)(H:Hp)(xs:gW)(us:jw)(Q:VK),Inv X on Y H s->Vals xs us->r xs H Q->ge X (call f us) (EP X on Y Q) X.xe s
def Se(X:Cx)(r:V->Hp->(Bool->Hp->Prop)->Prop):Prop:=∀(on:iB)(s:Shared)(Y:St)(H:Hp)(x:V)(v:Value)(Q:Bool->Hp->Prop),Inv X on Y H s->RelV x v->r x H Q->ge X (truthy v) (TP X on Y Q) X.xe s
def Ro(r:R2)(ta tb:TE):TE:=λY H Q=>ta Y H λx H1=>tb Y H1 λy H2=>r x y H2 Q
def S1(r:V->Hp->VK->Prop)(ta:TE):TE:=λY H Q=>ta Y H λx H1=>r x H1 Q
def rI(C:Int->Int->Prop)(g:Int->Int->V):R2:=λx y H Q=>∃i j,x=.int i/\y=.int j/\C i j/\Q (g i j) H
def Jn(g:Int->Int->V):R2:=λx y H Q=>∃i j,x=.int i/\y=.int j/\Q (g i j) H
def rU(g:Int->V):V->Hp->VK->Prop:=λx H Q=>∃i,x=.int i/\Q (g i) H
section
variable {X:Cx}
def Pi(ha:PE X a ta)(hb:PE X b tb){R:V->V->Hp->Prop}(I:Inv X on Y H s)(h:ta Y H λx H1=>tb Y H1 λy H2=>R x y H2){f:Value->Value->Sem Value}(hf:∀v u s2 x y H2,Inv X on Y H2 s2->RelV x v->RelV y u->R x y H2->ge X (f v u) Q X.xe s2):ge X (eval a X.env) (λv s₁=>ge X (eval b X.env) (λu s₂=>ge X (f v u) Q X.xe s₂) X.xe s₁) X.xe s:=by refine fH (ha on s Y H _ I h) λv s1 ⟨x,H1,I1,r1,q1⟩=>?_;refine fH (hb on s1 Y H1 _ I1 q1) λu s2 ⟨y,H2,I2,r2,q2⟩=>?_;exact hf v u s2 x y H2 I2 r1 r2 q2
def x8{r:R2}(ho:nV X (binaryOp op) r)(ha:PE X a ta)(hb:PE X b tb):PE X (.BinOp a op b pos) (Ro r ta tb):=by intro on s Y H Q I h;exact wpAny_BinOp (Pi ha hb I h λv u s2 x y H2 I2 rx ry q=>ho on s2 Y H2 x y v u Q I2 rx ry q)
def Qs{op:UnaryOp}{r:V->Hp->VK->Prop}(ho:Sd X (unaryOp op) r)(ha:PE X a ta):PE X (.UnaryOp op a pos) (S1 r ta):=by intro on s Y H Q I h;exact UnaryOp_ (fH (ha on s Y H _ I h) λv s1 ⟨x,H1,I1,r1,q1⟩=>ho on s1 Y H1 x v Q I1 r1 q1)
def No{f:Value->Value->Sem Value}{C:Int->Int->Prop}{g:Int->Int->Int}(rule:∀(i j:Int)(t u:Tok)(s:Shared)(Q:v7)(E:v7),C i j->Q (.int (g i j) s.toks) {s with toks:=s.toks+1}->ge X (f (.int i t)<|.int j u) Q E s):nV X f (rI C λi j=>.int<|g i j):=by intro on s Y H x y v u Q I rx ry h;obtain⟨i,j,rfl,rfl,hc,q⟩:=h;obtain⟨t,rfl⟩:=rx;obtain⟨t',rfl⟩:=ry;exact rule i j t t' s _ _ hc ⟨.int<|g i j,H,I.tok _,⟨_,rfl⟩,q⟩
def Oz{f:Value->Value->Sem Value}{g:Int->Int->Int}(rule:∀(i j:Int)(t u:Tok)(s:Shared)(Q:v7)(E:v7),Q (.int (g i j) s.toks) {s with toks:=s.toks+1}->ge X (f (.int i t)<|.int j u) Q E s):nV X f (Jn λi j=>.int<|g i j):=by intro on s Y H x y v u Q I rx ry h;obtain⟨i,j,rfl,rfl,q⟩:=h;obtain⟨t,rfl⟩:=rx;obtain⟨t',rfl⟩:=ry;exact rule i j t t' s _ _ ⟨.int<|g i j,H,I.tok _,⟨_,rfl⟩,q⟩
def LL{f:Value->Value->Sem Value}{g:Int->Int->Bool}(rule:∀(i j:Int)(t u:Tok)(s:Shared)(Q:v7)(E:v7),Q (.bool<|g i j) s->ge X (f (.int i t)<|.int j u) Q E s):nV X f (Jn λi j=>.bl<|g i j):=by intro on s Y H x y v u Q I rx ry h;obtain⟨i,j,rfl,rfl,q⟩:=h;obtain⟨t,rfl⟩:=rx;obtain⟨t',rfl⟩:=ry;exact rule i j t t' s _ _ ⟨.bl<|g i j,H,I,rfl,q⟩
def KM(i j:Int):Prop:=0<=j/\j<=1000000/\i.natAbs<2 ^ 64
def Ex(k:Nat):(0:Int)<=2 ^ k:=by rw[two_pow_cast];exact tV _
def Oy:nV X (binaryOp .Add) (Jn λi j=>.int<|i+j):=Oz λ_ _ _ _ _ _ _ q=>add_int q
def Op:nV X (binaryOp .Sub) (Jn λi j=>.int<|i-j):=Oz λ_ _ _ _ _ _ _ q=>sub_int q
def Ov:nV X (binaryOp .Mod) (rI (λ_ j=>0<j) λi j=>.int<|i%j):=No λi j _ _ _ _ _ hc q=>by have h1:(0:Int)<j:=hc;exact mod_int' (by lia)<|by rw[Int.fmod_eq_emod_of_nonneg i<|by lia];exact q
def Ou:nV X (binaryOp .Pow) (rI KM λi j=>.int<|i ^ j.toNat):=No λ_ _ _ _ _ _ _ hc q=>pow_int_small hc.1 hc.2.1 hc.2.2 q
def Os:nV X (binaryOp .LShift) (rI KM λi j=>.int<|i*2 ^ j.toNat):=No λ_ _ _ _ _ _ _ hc q=>lshift_int_small hc.1 hc.2.1 hc.2.2 q
def Oq:nV X (binaryOp .RShift) (rI (λ_ j=>0<=j) λi j=>.int<|i / 2 ^ j.toNat):=No λi j _ _ _ _ _ hc q=>rshift_int hc<|by rw[tW i<|Ex _];exact q
def Ox:nV X (binaryOp .BitAnd) (Jn λi j=>.int<|Builtin.bitAnd i j):=Oz λ_ _ _ _ _ _ _ q=>and_int q
def SZ{f:Value->Sem Value}{g:Int->Int}(rule:∀(i:Int)(t:Tok)(s:Shared)(Q:v7)(E:v7),Q (.int (g i) s.toks) {s with toks:=s.toks+1}->ge X (f<|.int i t) Q E s):Sd X f (rU λi=>.int<|g i):=by intro on s Y H x v Q I rx h;obtain⟨i,rfl,q⟩:=h;obtain⟨t,rfl⟩:=rx;exact rule i t s _ _ ⟨.int<|g i,H,I.tok _,⟨_,rfl⟩,q⟩
def NG:Sd X (unaryOp .USub) (rU λi=>.int (-i)):=SZ λ_ _ _ _ _ q=>neg_int q
end
def Qi:V->V->Bool
 |.TN,.TN=>true |.TN,.int _=>true |.int _,.TN=>true |.TN,.bl _=>true |.bl _,.TN=>true |.TN,.str _=>true |.str _,.TN=>true
 |.int _,.int _=>true |.bl _,.bl _=>true |.str _,.str _=>true |.VO _,.VO _=>true
 |.int _,.str _=>true |.str _,.int _=>true |.bl _,.str _=>true |.str _,.bl _=>true
 |_,_=>false
def S7:R2:=λx y H Q=>Qi x y=true/\Q (.bl<|decide<|x=y) H
def S6:R2:=λx y H Q=>Qi x y=true/\Q (.bl (!decide (x=y))) H
def uB{i:Int}:decide (V.int i=V.int j)=(i==j):=by rw[gL];simp
def Kt{i:Bool}:decide (V.bl i=V.bl j)=(i==j):=by rw[gL];simp
def GS{i:Str}:decide (V.str i=V.str j)=(i==j):=by rw[gL];simp
def GT{i j:Array UInt8}:decide (V.VO i=V.VO j)=(i.toList==j.toList):=by rw[gL];cases i;cases j;simp
section
variable {X:Cx}
def dM{Q:VK}{k':Bool}(I:Inv X on Y H s)(q:Q (.bl k) H)(e:k=k':=by simp):EP X on Y Q (.bool k') s:=by subst e;exact⟨.bl k,H,I,rfl,q⟩
def Nn:nV X (compareOp .Eq) S7:=by
 intro on s Y H x y v u Q I rx ry h;obtain⟨hs,q⟩:=h;cases x with
 |TN=>
  cases rx;cases y with
  |TN=>cases ry;exact PySem.EqNone.eq_none_none<|dM I q
  |bl j=>cases ry;exact PySem.EqNone.eq_none_bool<|dM I q
  |int j=>obtain⟨t',rfl⟩:=ry;exact PySem.EqNone.eq_none_int<|dM I q
  |str j=>obtain⟨t',rfl⟩:=ry;exact PySem.EqNone.eq_none_str<|dM I q
  |_=>exact absurd (show false=true from hs) aK
 |bl i=>
  cases rx;cases y with
  |TN=>cases ry;exact PySem.EqNone.eq_bool_none<|dM I q
  |bl j=>cases ry;exact eq_bool<|dM I q Kt
  |str j=>obtain⟨t',rfl⟩:=ry;exact PySem.EqMixed.eq_bool_str<|dM I q
  |_=>exact absurd (show false=true from hs) aK
 |int i=>
  obtain⟨t,rfl⟩:=rx;cases y with
  |TN=>cases ry;exact PySem.EqNone.eq_int_none<|dM I q
  |int j=>obtain⟨t',rfl⟩:=ry;exact eq_int<|dM I q uB
  |str j=>obtain⟨t',rfl⟩:=ry;exact PySem.EqMixed.eq_int_str<|dM I q
  |_=>exact absurd (show false=true from hs) aK
 |str i=>
  obtain⟨t,rfl⟩:=rx;cases y with
  |TN=>cases ry;exact PySem.EqNone.eq_str_none<|dM I q
  |bl j=>cases ry;exact PySem.EqMixed.eq_str_bool<|dM I q
  |int j=>obtain⟨t',rfl⟩:=ry;exact PySem.EqMixed.eq_str_int<|dM I q
  |str j=>obtain⟨t',rfl⟩:=ry;exact eq_str<|dM I q GS
  |_=>exact absurd (show false=true from hs) aK
 |VO i=>
  obtain⟨t,rfl⟩:=rx;cases y with
  |VO j=>obtain⟨t',rfl⟩:=ry;exact eq_bytes<|dM I q GT
  |_=>exact absurd (show false=true from hs) aK
 |_=>cases y<;>exact absurd (show false=true from hs) aK
def Nj:nV X (compareOp .NotEq) S6:=by
 intro on s Y H x y v u Q I rx ry h;obtain⟨hs,q⟩:=h;cases x with
 |TN=>
  cases rx;cases y with
  |TN=>cases ry;exact PySem.EqNone.ne_none_none<|dM I q
  |bl j=>cases ry;exact PySem.EqNone.ne_none_bool<|dM I q
  |int j=>obtain⟨t',rfl⟩:=ry;exact PySem.EqNone.ne_none_int<|dM I q
  |str j=>obtain⟨t',rfl⟩:=ry;exact PySem.EqNone.ne_none_str<|dM I q
  |_=>exact absurd (show false=true from hs) aK
 |bl i=>
  cases rx;cases y with
  |TN=>cases ry;exact PySem.EqNone.ne_bool_none<|dM I q
  |bl j=>cases ry;exact ne_bool<|dM I q<|bi not Kt
  |str j=>obtain⟨t',rfl⟩:=ry;exact PySem.EqMixed.ne_bool_str<|dM I q
  |_=>exact absurd (show false=true from hs) aK
 |int i=>
  obtain⟨t,rfl⟩:=rx;cases y with
  |TN=>cases ry;exact PySem.EqNone.ne_int_none<|dM I q
  |int j=>obtain⟨t',rfl⟩:=ry;exact ne_int<|dM I q<|bi not uB
  |str j=>obtain⟨t',rfl⟩:=ry;exact PySem.EqMixed.ne_int_str<|dM I q
  |_=>exact absurd (show false=true from hs) aK
 |str i=>
  obtain⟨t,rfl⟩:=rx;cases y with
  |TN=>cases ry;exact PySem.EqNone.ne_str_none<|dM I q
  |bl j=>cases ry;exact PySem.EqMixed.ne_str_bool<|dM I q
  |int j=>obtain⟨t',rfl⟩:=ry;exact PySem.EqMixed.ne_str_int<|dM I q
  |str j=>obtain⟨t',rfl⟩:=ry;exact ne_str<|dM I q<|bi not GS
  |_=>exact absurd (show false=true from hs) aK
 |VO i=>
  obtain⟨t,rfl⟩:=rx;cases y with
  |VO j=>obtain⟨t',rfl⟩:=ry;exact ne_bytes<|dM I q<|bi not GT
  |_=>exact absurd (show false=true from hs) aK
 |_=>cases y<;>exact absurd (show false=true from hs) aK
def Nk:nV X (compareOp .Lt) (Jn λi j=>.bl<|decide<|i<j):=LL λ_ _ _ _ _ _ _ q=>lt_int q
def Qu:nV X (compareOp .LtE) (Jn λi j=>.bl<|decide<|i<=j):=LL λ_ _ _ _ _ _ _ q=>le_int q
def Nl:nV X (compareOp .Gt) (Jn λi j=>.bl<|decide<|j<i):=LL λ_ _ _ _ _ _ _ q=>gt_int q
def Nm:nV X (compareOp .GtE) (Jn λi j=>.bl<|decide<|j<=i):=LL λ_ _ _ _ _ _ _ q=>ge_int q
def JF:nV X (compareOp .Is) (λx y H Q=>y=.TN/\Q (.bl<|decide<|x=.TN) H):=by
 intro on s Y H x y v u Q I rx ry h;obtain⟨rfl,q⟩:=h;cases ry;refine is_none_gen<|dM I q ?_;cases x<;>first
  |(cases rx;rfl)|(obtain⟨t,rfl⟩:=rx;rfl)
def Gr:nV X (compareOp .IsNot) (λx y H Q=>y=.TN/\Q (.bl (!decide (x=.TN))) H):=by
 intro on s Y H x y v u Q I rx ry h;obtain⟨rfl,q⟩:=h;cases ry;refine isnot_none_gen<|dM I q ?_;cases x<;>first
  |(cases rx;rfl)|(obtain⟨t,rfl⟩:=rx;rfl)
def RZ(b:Expr){op:CmpOp}(h:op≠.In:=by decide)(h2:op≠.NotIn:=by decide):behindInMarks op b=false:=by
 have e1:(op==CmpOp.In)=false:=by cases op<;>first |rfl |exact absurd rfl h
 have e2:(op==CmpOp.NotIn)=false:=by cases op<;>first |rfl |exact absurd rfl h2
 cases b<;>simp[behindInMarks,e1,e2]
def rB{op:CmpOp}{r:R2}(ho:nV X (compareOp op) r)(ha:PE X a ta)(hb:PE X b tb)(hm:behindInMarks op b=false):PE X (.Compare a [op] [b] pos) (Ro r ta tb):=by intro on s Y H Q I h;exact wpAny_Compare1 (Pi ha hb I h λv u s2 x y H2 I2 rx ry q=>ho on s2 Y H2 x y v u Q I2 rx ry q) hm
def P0(t:TE):TT:=λY H Q=>t Y H λx H'=>∃k,x=.bl k/\Q k H'
def w9{op:CmpOp}{r:R2}(ho:nV X (compareOp op) r)(ha:PE X a ta)(hb:PE X b tb)(hm:behindInMarks op b=false):PT X (.Compare a [op] [b] pos) (P0<|Ro r ta tb):=by intro on s Y H Q I h;refine wpAny_isTrue_Compare1 (fH (ha on s Y H _ I h) λv s1 ⟨x,H1,I1,r1,q1⟩=>fH (hb on s1 Y H1 _ I1 q1) λu s2 ⟨y,H2,I2,r2,q2⟩=>fH (ho on s2 Y H2 x y v u _ I2 r1 r2 q2) λc s3 ⟨z,H3,I3,r3,k,e,q3⟩=>?_) hm;subst e;cases r3;exact fu ⟨H3,I3,q3⟩
def Q6(K:gh)(x:V)(H:Hp)(k:Bool):Prop:=match x with
 |.TN=>k=false|.bl b=>k=b
 |.int i=>k=(i !=0)|.str y=>y.length<=sizeLine/\k=((y.length:Int) !=0)
 |.VO y=>y.size<=sizeLine/\k=((y.size:Int) !=0)|.ref p=>(∃xs,T9 K H p xs/\k= !xs.isEmpty)\/(∃xs,Ud K H p xs/\k= !xs.isEmpty)\/∃kvs,H p=some (.dK kvs)/\k= !kvs.isEmpty
 |_=>False
def Fd{κ:Type}{kvs:List (κ×V)}{vs:List (κ×Value)}(r:KV kvs vs):(!vs.isEmpty)= !kvs.isEmpty:=by cases r<;>rfl
def yr(r:Vals xs its):(!its.toArray.isEmpty)= !xs.isEmpty:=by cases r<;>simp
def qr:(sizeLine:Nat)<2 ^ 63:=by rw[zq];decide
def NI:Se X (λx H Q=>∃k,Q6 X.K x H k/\Q k H):=by
 intro on s Y H x v Q I rx h;obtain⟨k,e,q⟩:=h;have hl:=qr;have hs:sizeLine=16777216:=zq;cases x with
 |TN=>cases rx;have e':k=false:=e;subst e';exact truthy_none ⟨H,I,q⟩
 |bl b=>cases rx;have e':k=b:=e;subst e';exact fu ⟨H,I,q⟩
 |int i=>obtain⟨t,rfl⟩:=rx;have e':k=(i !=0):=e;subst e';exact PySem.P.truthy_int ⟨H,I,q⟩
 |str y=>obtain⟨t,rfl⟩:=rx;obtain⟨hy,e'⟩:y.length<=sizeLine/\k=((y.length:Int) !=0):=e;subst e';exact PySem.P.truthy_str (by lia) ⟨H,I.tok _,q⟩
 |VO y=>obtain⟨t,rfl⟩:=rx;obtain⟨hy,e'⟩:y.size<=sizeLine/\k=((y.size:Int) !=0):=e;subst e';exact truthy_bytes (by lia) ⟨H,I.tok _,q⟩
 |ref p=>
  cases rx;have e':(∃xs,T9 X.K H p xs/\k= !xs.isEmpty)\/(∃xs,Ud X.K H p xs/\k= !xs.isEmpty)\/∃kvs,H p=some (.dK kvs)/\k= !kvs.isEmpty:=e;rcases e' with⟨xs,hx,e'⟩ |⟨xs,hx,e'⟩ |⟨kvs,hx,e'⟩;·subst e';obtain⟨its,r,pl,hz⟩:=I.list hx;have hlen:=r.length;exact wpAny_truthy_list pl.isList (by simp only[aC];lia) ⟨H,I.tok _,by rw[yr r];exact q⟩
  ·subst e';obtain⟨its,r,pl,hz⟩:=I.tuple hx;have hlen:=r.length;exact truthy_tuple pl (by simp only[aC];lia) ⟨H,I.tok _,by rw[yr r];exact q⟩
  ·subst e';obtain⟨hz,hS,vs,r,m⟩:kvs.length<=sizeLine/\(p==sysModules)=false/\∃vs,KV kvs vs/\s.heap.DictOf (BN X.prog X.w) p vs:=I.TV p _ hx;have hlen:kvs.length=vs.length:=Paired.length r;exact wpAny_truthy_dict hS m (by lia) ⟨H,I.tok _,by rw[Fd r];exact q⟩
 |_=>exact(show False from e).elim
def Jq(ha:PE X a ta)(he:∀whole,isTrue a X.env whole=(do let v <-whole;standAt a.pos;holding [v] (truthy v))):PT X a (λY H Q=>ta Y H λx H'=>∃k,Q6 X.K x H' k/\Q k H'):=by intro on s Y H Q I h;exact isTrue_plain (fH (ha on s Y H _ I h) λv s1 ⟨x,H1,I1,r1,q1⟩=>NI on s1 Y H1 x v Q I1 r1 q1)<|he _
def pW(r:Vals [x] us):∃u,us=[u]/\RelV x u:=by cases r with|cons r1 r2=>cases r2;exact⟨_,rfl,r1⟩
def AF(r:Vals [x,y] us):∃u w',us=[u,w']/\RelV x u/\RelV y w':=by cases r with|cons r1 r2=>cases r2 with|cons r3 r4=>cases r4;exact⟨_,_,rfl,r1,r3⟩
def Kx:kr X (.builtin "abs") (λxs H Q=>∃i,xs=[.int i]/\Q (.int (if i<0 then-i else i)) H):=by intro on s Y H xs us Q I r h;obtain⟨i,rfl,q⟩:=h;obtain⟨u,rfl,t,rfl⟩:=pW r;exact call_abs_int λu tk=>⟨.int (if i<0 then-i else i),H,I.tok _,⟨_,rfl⟩,q⟩
def HS(hc:X.calm=true):kr X (.builtin "max") (λxs H Q=>∃i j,xs=[.int i,.int j]/\Q (.int (if j>i then j else i)) H):=by
 intro on s Y H xs us Q I r h;obtain⟨i,j,rfl,q⟩:=h;obtain⟨u,w',rfl,⟨t,rfl⟩,⟨t',rfl⟩⟩:=AF r;refine max_two_ints (I.ok.hd hc) λh' tk k=>⟨_,H,I.kept k,?_,q⟩;by_cases hj:j>i;·rw[am hj,am hj];exact⟨_,rfl⟩
 ·rw[ap hj,ap hj];exact⟨_,rfl⟩
def HR(hc:X.calm=true):kr X (.builtin "min") (λxs H Q=>∃i j,xs=[.int i,.int j]/\Q (.int (if j<i then j else i)) H):=by
 intro on s Y H xs us Q I r h;obtain⟨i,j,rfl,q⟩:=h;obtain⟨u,w',rfl,⟨t,rfl⟩,⟨t',rfl⟩⟩:=AF r;refine min_two_ints (I.ok.hd hc) λh' tk k=>⟨_,H,I.kept k,?_,q⟩;by_cases hj:j<i;·rw[am hj,am hj];exact⟨_,rfl⟩
 ·rw[ap hj,ap hj];exact⟨_,rfl⟩
def HU:kr X (.type "int") (λxs H Q=>(∃i,xs=[.int i]/\Q (.int i) H)\/∃k,xs=[.bl k]/\Q (.int (if k then 1 else 0)) H):=by
 intro on s Y H xs us Q I r h;rcases h with⟨i,rfl,q⟩ |⟨k,rfl,q⟩;·obtain⟨u,rfl,t,rfl⟩:=pW r;exact call_int_int ⟨.int i,H,I,⟨_,rfl⟩,q⟩
 ·obtain⟨u,rfl,r1⟩:=pW r;cases r1;exact call_int_bool ⟨.int (if k then 1 else 0),H,I.tok _,⟨_,rfl⟩,q⟩
end
structure Xj(h:Heap)(x dx C:Addr)(mA:AD):Prop where
 obj:h.get? x=some (instObj C dx)
 ns:h.Ns1 dx mA
 ne:dx≠x
def Hs{h:Heap}(n:h.Ns1 dx mA):∃od,h.get? dx=some od/\∀name,lookIn name od=some (mA name):=by
 obtain⟨o,es,ep,ho,hd,hk,_,hm⟩:=n;refine⟨o,ho,λname=>?_⟩;have e:=hm name;unfold nsFind findBy at e;rw[<-Array.find?_toList]at e;unfold lookIn;rw[hd];dsimp only;split;·rename_i y q;rw[q]at e;exact bi some e
 ·rename_i q;rw[q]at e;have a:es.toList.any (·.refKey)=false:=by rw[Io];intro y hy;obtain⟨z,t,Zp⟩:=hk y<|Array.mem_toList_iff.mp hy;simp[DictEntry.refKey,Zp]
  have a':¬es.toList.any (·.refKey)=true:=by rw[a];exact aK
  rw[ap a'];exact bi some e
def Xj.look{C:Addr}(I:Xj h x dx C mA):∃od,PySem.W.InstAt h x (instObj C dx) C (some od)/\∀name,lookIn name od=some (mA name):=
 let⟨od,ho,hl⟩:=Hs I.ns
 ⟨od,⟨I.obj,rfl,rfl,ho⟩,hl⟩
section
variable {C:Addr}{fs fs':List (Str×V)}
theorem Mc{a:Addr}(TV:Uo P w H h)(e:H a=some (.ins C dx fs)):∃mA,Xj h a dx C mA/\(∀f,Ps (fs.lookup f)<|mA f)/\PySem.Within mA (fs.map (·.1))/\fs.length<=1000/\H dx=some (.own a):=by obtain⟨d,z,ne,ob,mA,n,r,q⟩:=(show TY P w H h a (.ins C dx fs)from TV a _ e);exact⟨mA,⟨ob,n,ne⟩,r,q,z,d⟩
end
structure ZR(K:gh)(C:Addr):Prop where
 pg:plainGet K C Str.empty=true
 hd:hasDictIn K C=true
 po:plainOver K C=true
 sa:findIn K (.ref C) "__setattr__"=some (some<|.builtin "object.__setattr__")
def ZR.get{C:Addr}(c:ZR K C)(f:Str):plainGet K C f=true:=c.pg
section
variable {X:Cx}
inductive vm(K:gh)(H:Hp):V->Value->Prop where
 |TN:vm K H .TN (.type "NoneType")
 |bl (x:Bool):vm K H (.bl x) (.type "bool")
 |int (i:Int):vm K H (.int i) (.type "int")
 |str (x:Str):vm K H (.str x) (.type "str")
 |Xy (x:UInt64):vm K H (.Xy x) (.type "float")
 |lst {a:Addr} {xs:gW} (e:H a=some (.lst xs)):vm K H (.ref a) (.type "list")
 |UN {a:Addr} {o:Obj} {xs:gW} (e:H a=some (.UN o<|.lst xs)):vm K H (.ref a) (.type "list")
 |tup {a:Addr} {xs:gW} (e:H a=some (.tup xs)):vm K H (.ref a) (.type "tuple")
 |dK {a:Addr} {kvs:List (CO×V)} (e:H a=some (.dK kvs)):vm K H (.ref a) (.type "dict")
 |dT {a:Addr} {kvs:List (List CO×V)} (e:H a=some (.dT kvs)):vm K H (.ref a) (.type "dict")
 |ins {a C dx:Addr} {fs:List (Str×V)} (e:H a=some (.ins C dx fs)) (cl:ZR K C) (ha:findIn K (.ref C) "__class__"=some (some<|.builtin "object.__class__"))
   (hn:specialIn K (.builtin "object.__class__") "__get__"=some (some<|.builtin "getset_descriptor.__get__")) (htk:takesIn K (.builtin "object.__class__")=some true)
   (hm:mroIn K C (.type "object")=some true):vm K H (.ref a) (.ref C)
def HB{Q:v7}{c:Value}(I:Inv X on Y H s)(rx:RelV x u)(ty:vm X.K H x t)(e:kitOne X.K t c=some b)(h:∀tk,Q (.bool b) {s with toks:=tk}):wpAny (model X.prog X.w) A (call (.builtin "isinstance") [u,c]) Q E s:=by
 cases ty with
 |TN=>cases(show u=Value.none from rx);exact dQ kitx_none I.Vb True.intro e (λz=>nomatch z) h
 |bl y=>cases(show u=Value.bool y from rx);exact dQ kitx_bool I.Vb True.intro e (λz=>nomatch z) h
 |int i=>obtain⟨t,q⟩:=(show∃t,u=Value.int i t from rx);cases q;exact dQ kitx_int I.Vb True.intro e (λz=>nomatch z) h
 |str y=>obtain⟨t,q⟩:=(show∃t,u=Value.str y t from rx);cases q;exact dQ kitx_str I.Vb True.intro e (λz=>nomatch z) h
 |Xy y=>obtain⟨t,q⟩:=(show∃t,u=Value.float y t from rx);cases q;exact dQ kitx_float I.Vb True.intro e (λz=>nomatch z) h
 |@lst a xs ea=>cases(show u=Value.ref a from rx);obtain⟨_,_,n,_,h1⟩:=(show TY X.prog X.w H s.heap a (.lst xs)from I.TV a _ ea);exact dQ kitx_list I.Vb ⟨_,h1,rfl⟩ e (λz=>nomatch z) h
 |@UN a ob xs ea=>cases(show u=Value.ref a from rx);obtain⟨_,_,_,n,_,h1⟩:=(show TY X.prog X.w H s.heap a (.UN ob<|.lst xs)from I.TV a _ ea);exact dQ kitx_list I.Vb ⟨_,h1,rfl⟩ e (λz=>nomatch z) h
 |@tup a xs ea=>cases(show u=Value.ref a from rx);obtain⟨_,_,_,p⟩:=(show TY X.prog X.w H s.heap a (.tup xs)from I.TV a _ ea);obtain⟨o,h1,h2,_⟩:=p;exact dQ kitx_tuple I.Vb ⟨o,h1,h2⟩ e (λz=>nomatch z) h
 |@dK a kvs ea=>cases(show u=Value.ref a from rx);obtain⟨_,_,vs,_,p⟩:=(show TY X.prog X.w H s.heap a (.dK kvs)from I.TV a _ ea);obtain⟨o,es,ep,h1,h2,_⟩:=p;exact dQ Ij I.Vb ⟨o,h1,h2.1⟩ e (λz=>nomatch z) h
 |@dT a kvs ea=>cases(show u=Value.ref a from rx);obtain⟨_,_,xs,_,o,es,ep,h1,h2,_⟩:=(show TY X.prog X.w H s.heap a (.dT kvs)from I.TV a _ ea);exact dQ Ij I.Vb ⟨o,h1,h2.1⟩ e (λz=>nomatch z) h
 |@ins a C dx fs ea cl ha hn htk hm=>cases(show u=Value.ref a from rx);obtain⟨mA,O,_⟩:=Mc I.TV ea;obtain⟨od,J,_⟩:=O.look;exact dQ (kitx_own (cl.get _) cl.hd ha hn htk hm) I.Vb J e (λz=>nomatch z) h
end
structure Uj(k:Nat)(A:Around):Prop where
 hd:A.handled=none
 dp:A.depth+k+105<recursionLimit
 un:A.units+16*k+200<cLine
def Uj.mono{j:Nat}(r:Uj k A)(h:j<=k):Uj j A:=⟨r.hd,by have:=r.dp;lia,by have:=r.un;lia⟩
def Uj.deeper{k:Nat}(r:Uj (k+1) A)(env:Env):Uj k (A.deeper env):=⟨r.hd,by have:=r.dp;show A.depth+1+k+105<_;lia,by have:=r.un;show A.units+3+16*k+200<_;lia⟩
def Uj.Wh(r:Uj k A):A.depth+100<recursionLimit:=by have:=r.dp;lia
def Uj.depth(r:Uj k A):A.depth<recursionLimit:=by have:=r.dp;lia
def Uj.units(r:Uj k A):A.units+64<cLine:=by have:=r.un;lia
def RG:TA:=λ_ H Q=>Q [] H
def P6(ta:TE)(tr:TA):TA:=λY H Q=>ta Y H λx H1=>tr Y H1 λxs H2=>Q (x::xs) H2
section
variable {X:Cx}
def fz:PA X [] RG:=λ_ _ _ _ H Q I h=>Calls.spliced_nil ⟨[],H,I,.nil,h⟩
def bY(ha:PE X e te)(hr:PA X es t)(hs:En e es X.env:=by rfl):PA X (e::es) (P6 te t):=by intro pos on s Y H Q I h;rw[hs];show wpAny _ _ (spliced<|(false,eval e X.env)::backTo pos (starEach es X.env)) _ _ s;refine Calls.spliced_cons (fH (ha on s Y H _ I h) λu s1 ⟨x,H1,I1,r1,q1⟩=>?_);exact fH (hr pos on s1 Y H1 _ I1 q1) λus s2 ⟨xs,H2,I2,r2,q2⟩=>⟨x::xs,H2,I2,.cons r1 r2,q2⟩
def RA(t:TA):TE:=λY H Q=>t Y H λxs H1=>xs.length<=sizeLine/\∀p,H1 p=none->Q (.ref p) (hU H1 p<|.tup xs)
def RH(t:TA):TE:=λY H Q=>t Y H λxs H1=>xs.length<=sizeLine/\∀p,H1 p=none->Q (.ref p) (hU H1 p<|.lst xs)
def Oh{x1}(h:PA X es t):PE X (.Tuple es x1 pos) (RA t):=by intro on s Y H Q I hq;refine wpAny_Tuple_spliced (fH (h pos on s Y H _ I hq) λus s1 ⟨xs,H1,I1,r,z,q⟩=>⟨by rw[<-r.length];exact z,?_⟩);have hf:H1 s1.heap.objs.size=none:=I1.TV.fresh<|aq _;refine⟨.ref s1.heap.objs.size,hU H1 s1.heap.objs.size<|.tup xs,I1.laid (t':=s1.toks) (λb u e=>aD _ e) (aq _) ?_,rfl,q _ hf⟩;exact⟨z,us,r,⟨_,aT _ rfl,rfl,_,rfl⟩⟩
def On(h:PA X es t):PE X (.List es pos) (RH t):=by intro on s Y H Q I hq;refine wpAny_List_spliced (fH (h pos on s Y H _ I hq) λus s1 ⟨xs,H1,I1,r,z,q⟩=>⟨by rw[<-r.length];exact z,?_⟩);have hf:H1 s1.heap.objs.size=none:=I1.TV.fresh<|aq _;refine⟨.ref s1.heap.objs.size,hU H1 s1.heap.objs.size<|.lst xs,I1.laid (t':=s1.toks) (λb u e=>aD _ e) (aq _) ?_,rfl,q _ hf⟩;exact⟨z,us,0,r,aT _ rfl⟩
end
abbrev Sp:=gW->Hp->VK->XK->Prop
abbrev PQ:=List Env->Hp->Shared->XK->Value->Shared->Prop
structure MN(P:Program)(w:World)(K:gh)(mg:AD)(base:Heap)(A:Around)(outer:List Env)(s:Shared)(H:Hp):Prop where
 frames:A.frames=some outer
 mod:Mod K mg base
 bs:∀b o,base.get? b=some o->s.heap.get? b=some o/\H b=none
 WY:base.objs.size<=s.heap.objs.size
 UU:s.heap.FunFrames base outer
 Xw:∀b∈Es outer,H b=none
 TV:Uo P w H s.heap
 bare:AllBare s.gens
def CE(outer:List Env)(P:Program)(w:World)(H:Hp)(s:Shared)(Q:VK)(u:Value)(s':Shared):Prop:=∃v H',s'.os=s.os/\AllBare s'.gens/\Un (Es outer) [] H H' s.heap s'.heap/\Uo P w H' s'.heap/\RelV v u/\Q v H'
def CR(CX:PQ)(outer:List Env)(P:Program)(w:World)(H:Hp)(s:Shared)(Q:VK)(E:XK)(r:Result)(s':Shared):Prop:=match r with
 |.ok (.ret u)=>CE outer P w H s Q u s'|.ok _=>False
 |.error e=>CX outer H s E e s'
structure pO(P:Program)(w:World)(K:gh)(mg:AD)(base:Heap)(CX:PQ)(k:Nat)(f:Addr)(fd:FuncData)(ps:dZ)(sp:Sp):Prop where
 len:∀vs H Q E,sp vs H Q E->vs.length=ps.length
 run:∀(A:Around)(outer:List Env)(s:Shared)(H:Hp)(args:Args)(us:jw)(vs:gW)(Q:VK)(E:XK),Uj k A->MN P w K mg base A outer s H->BindsTo s fd args (ps.zip us)->Vals vs us->sp vs H Q E->
  codeAny (model P w) A (.call (.ref f) args) (CR CX outer P w H s Q E) s
section
variable {X:Cx}
def Inv.ZJ(I:Inv X on Y H s):MN X.prog X.w X.K X.mg X.base X.A X.stack s H:=⟨I.ok.frames,I.ok.mod,I.bs,bL I.ok.WY I.sz,I.stack,I.Vy,I.TV,I.bare⟩
def Inv.after(I:Inv X on Y H s)(h:CE X.stack X.prog X.w H s Q u s'):EP X on Y Q u s':=by obtain⟨v,H',os,bare,un,TV,r,q⟩:=h;obtain⟨hh,g,d,t,os'⟩:=s';obtain rfl:os'=s.os:=os;exact⟨v,H',I.call (h':=hh) (g':=g) (d':=d) (t':=t) (ch:=[]) un TV bare λb z=>absurd z<|by simp,r,q⟩
end
def P7(sp:Sp)(Xh:gW)(E:XK)(t:TA):TE:=λY H Q=>t Y H λvs H1=>sp (vs++Xh) H1 Q E
def Binds(K:gh)(fd:FuncData)(ps:dZ)(ds:jw):Prop:=∀(s:Shared)(us:jw),K.In s.heap->(us++ds).length=ps.length->BindsTo s fd ⟨us,[]⟩ (ps.zip<|us++ds)
def Binds.all{ps:dZ}(h:∀us:jw,us.length=ps.length->bindArgs fd ⟨us,[]⟩=pure (ps.zip us)):Binds K fd ps []:=λs us _ hl=>by rw[iV]at hl ⊢;exact .of_eq<|h us hl
def y8(CX:PQ)(X:Cx)(E:XK):Prop:=∀(on:iB)(Y:St)(H:Hp)(s:Shared)(e:Value)(s':Shared),Inv X on Y H s->CX X.stack H s E e s'->X.xe e s'
section
variable {X:Cx}{C:Addr}{ps:dZ}{E:XK}
def NS(F:pO X.prog X.w X.K X.mg X.base CX k f fd ps sp)(hr:Uj k X.A)(hb:Binds X.K fd ps ds)(hd:Vals Xh ds)(hx:y8 CX X E)(I:Inv X on Y H s)(r:Vals vs us)(h:sp (vs++Xh) H Q E):ge X (call (.ref f) us) (EP X on Y Q) X.xe s:=by
 have r2:Vals (vs++Xh) (us++ds):=r.append hd;have hl:(us++ds).length=ps.length:=by rw[<-r2.length];exact F.len _ _ _ _ h
 refine wpAny_call (codeAny_mono (F.run X.A X.stack s H ⟨us,[]⟩ (us++ds) (vs++Xh) Q E hr I.ZJ (hb s us I.Vb hl) r2 h) λr s' hq=>?_);cases r with
 |error e=>exact hx on Y H s e s' I hq
 |ok fl=>
  cases fl with
  |ret u=>exact I.after hq|next=>exact False.elim hq
  |brk=>exact False.elim hq|cont=>exact False.elim hq
def Gp(F:pO X.prog X.w X.K X.mg X.base CX k f fd ps sp)(hr:Uj k X.A)(hg:Gl X x)(hm:X.mg x=some (.ref f))(hk:keepIn X.K (.ref f)=true)(hb:Binds X.K fd ps ds)(hd:Vals Xh ds)(hx:y8 CX X E)(ha:PA X (e::es) t)(V8:FU x:=by decide)(he:En e es X.env:=by rfl)(Wl:IA pos es X.env:=by rfl):PE X (.Call (.Name x p) (e::es) [] pos) (P7 sp Xh E t):=by intro on s Y H Q I h;refine MP<|GB I hg hm ?_ V8;refine callWith_K (h₀:=X.base) I.ok.mod.Y7 hk (fH (ha pos on s Y H _ I h) λus s1 ⟨vs,H1,I1,r,q⟩=>⟨I1.Vb,?_⟩) he Wl;exact NS F hr hb hd hx I1 r q
end
structure aL(N P:dZ)(sc:Scope):Prop where
 kind:sc.kind=.function
 co:sc.isCoroutine=false
 gen:sc.isGenerator=false
 nd:N.Nodup
 pre:N.take P.length=P
 par:∀x∈P,sc.names.lookup x=some .local\/sc.names.lookup x=some .cell
 W5:∀y∈sc.names,y.2≠.free
theorem Bb{kindOf:Str->Option NameKind}:∀{binds:List (Str×Value)}{m:AD},(∀v,(x,v)∉binds)->bindL kindOf binds m x=m x
 |[],_,_=>rfl
 |(n,v)::r,m,h=>by
  unfold bindL;rw[Bb λw hw=>h w<|aM _ hw];split
  ·have:x≠n:=by rintro rfl;exact h v bA
   simp[this]
  ·rfl
theorem Bd{kindOf:Str->Option NameKind}:∀{binds:List (Str×Value)}{m:AD},(∀v,(x,v)∉binds)->bindC kindOf binds m x=m x
 |[],_,_=>rfl
 |(n,v)::r,m,h=>by
  unfold bindC;rw[Bd λw hw=>h w<|aM _ hw];split;·rfl
  ·have:x≠n:=by rintro rfl;exact h v bA
   simp[this]
theorem Bc{kindOf:Str->Option NameKind}:∀{P:dZ}{vs:jw}{i:Nat}{m:AD},P.Nodup->P[i]?=some x->vs[i]?=some v->kindOf x=some .local->bindL kindOf (P.zip vs) m x=some v
 |[],_,_,_,_,h,_,_=>by simp at h|_::_,[],_,_,_,_,h,_=>by simp at h
 |p::P,w::vs,0,m,nd,h1,h2,hk=>by simp at h1 h2;subst h1;subst h2;show bindL kindOf ((p,w)::P.zip vs) m p=_;unfold bindL;rw[Bb λv hv=>(zr.mp nd).1 (qX hv).1,am hk];simp|p::P,w::vs,i+1,m,nd,h1,h2,hk=>by show bindL kindOf ((p,w)::P.zip vs) m x=_;unfold bindL;exact Bc (i:=i) (zr.mp nd).2 (by simpa using h1) (by simpa using h2) hk
theorem Be{kindOf:Str->Option NameKind}:∀{P:dZ}{vs:jw}{i:Nat}{m:AD},P.Nodup->P[i]?=some x->vs[i]?=some v->kindOf x≠some .local->bindC kindOf (P.zip vs) m x=some v
 |[],_,_,_,_,h,_,_=>by simp at h|_::_,[],_,_,_,_,h,_=>by simp at h
 |p::P,w::vs,0,m,nd,h1,h2,hk=>by simp at h1 h2;subst h1;subst h2;show bindC kindOf ((p,w)::P.zip vs) m p=_;unfold bindC;rw[Bd λv hv=>(zr.mp nd).1 (qX hv).1,ap hk];simp|p::P,w::vs,i+1,m,nd,h1,h2,hk=>by show bindC kindOf ((p,w)::P.zip vs) m x=_;unfold bindC;exact Be (i:=i) (zr.mp nd).2 (by simpa using h1) (by simpa using h2) hk
def start(N:dZ)(vs:gW):St:=vs.map some++List.replicate (N.length-vs.length) none
def Ce(CX:PQ)(P:Program)(w:World)(K:gh)(mg:AD)(base:Heap)(N:dZ)(qual:Str)(scope:Scope)(f:Addr)(cd:Value)(A:Around)(outer:List Env)(s:Shared)(H:Hp)(E:XK):Cx where
 prog:=P
 w:=w
 K:=K
 mg:=mg
 base:=base
 A:=A.deeper<|envOfC qual scope s.heap.objs.size f cd
 N:=N
 s₀:=s
 H₀:=H
 env:=envOfC qual scope s.heap.objs.size f cd
 outer:=outer
 stack:=envOfC qual scope s.heap.objs.size f cd::outer
 ex:=[]
 calm:=true
 fn:=λ_=>true
 pn:=[]
 xe:=λe s'=>wpAny (model P w) (A.deeper<|envOfC qual scope s.heap.objs.size f cd) (leaving (envOfC qual scope s.heap.objs.size f cd) e) (λ_ Wt=>CX outer H s E e Wt) (λe' Wt=>CX outer H s E e' Wt) s'
def D9{sc:Scope}{x:Str}(h:sc.names.lookup x=some .cell):∃c,(cellsFrom n sc.names []).lookup x=some c:=by have q:=Sr sc.names n []<|.inl h;exact Option.isSome_iff_exists.mp q
theorem HC{ps:dZ}{A:Around}{vs:gW}{outer:List Env}{E:XK}(S:aL N ps scope)(hd:A.handled=none)(e0:MN P w K mg base A outer s H)(hl:vs.length=ps.length)(r:Vals vs us)(x:InCallC s s.heap.objs.size (bindL (envOfC qual scope s.heap.objs.size f cd).kindOf (ps.zip us) λ_=>none) (cellsFrom (s.heap.objs.size+1) scope.names []) (bindC (envOfC qual scope s.heap.objs.size f cd).kindOf (ps.zip us) λ_=>none) s1):Inv (Ce CX P w K mg base N qual scope f cd A outer s H E) [] (start N vs) H s1:=by
 have Wl:ps.length<=N.length:=by have:=bi List.length S.pre;rw[eT]at this;lia
 obtain⟨h1,tk,rfl,hk⟩:=x.done;have XH:∀b:Addr,b∉(Ce CX P w K mg base N qual scope f cd A outer s H E).ex:=λb z=>absurd (show b∈([]:List Addr)from z)<|by simp
 refine⟨⟨e0.mod,S.kind,rfl,rfl,aq _,λy z c h1 h2=>?_,λy hy=>?_,λy c _ h=>?_,λ_=>hd,Around.frames_deeper e0.frames,.inr ⟨rfl,rfl⟩,λb z=>absurd z<|XH b,e0.bs,e0.WY,λb _ _=>XH b,λb z=>absurd z<|XH b,e0.UU,e0.Xw⟩,
  rfl,e0.bare,Un.kept hk,⟨_,x.toInCall.ns,λi y v h1 h2 h3=>?_⟩,λy c h=>⟨_,x.cell y c h⟩,e0.TV.fresh (aq _),λy c h=>?_,λp hp=>absurd (show p∈([]:iB)from hp) (by simp),e0.TV.kept hk,?_⟩
 ·exact name_of_addr x.apart (io h1)<|io h2
 ·have hy:scope.names.lookup y=some .cell\/scope.names.lookup y=some .free:=hy;rcases hy with hy |hy;·exact D9 hy
  ·exact absurd rfl<|S.W5 _<|io hy
 ·exact gQ<|x.above y c<|io h
 ·have hi:i<vs.length:=by
   unfold start at h2;by_cases hi:i<vs.length;·exact hi
   ·rw[aX<|by simpa using hi]at h2;rw[eU]at h2;split at h2<;>cases h2
  have ha:vs[i]?=some v:=by
   unfold start at h2;rw[bj<|by simpa using hi,aH]at h2;cases e:vs[i]? with
   |none=>rw[e]at h2;cases h2
   |some a=>rw[e]at h2;cases h2;rfl
  obtain⟨u,hu,rv⟩:=r.get ha;have hp:ps[i]?=some y:=by rw[<-S.pre,List.getElem?_take_of_lt<|by lia];exact h1
  have ndP:ps.Nodup:=by rw[<-S.pre];exact S.nd.sublist<|List.take_sublist _ _
  refine⟨u,rv,?_⟩;rcases S.par y (CH hp)with k |k;·exact .inl ⟨k,Bc ndP hp hu k⟩
  ·obtain⟨c,e⟩:=D9 (n:=s.heap.objs.size+1) k;refine .inr ⟨.inl k,c,e,?_⟩;have q:=x.cell y c e;rw[Be ndP hp hu<|by show scope.names.lookup y≠_;rw[k];decide]at q;exact q
 ·exact e0.TV.fresh<|gQ<|x.above y c<|io h
 ·unfold start;show _=N.length;rw[aJ,ae,AA];lia
def QS{f:Addr}{name qual:Str}{body:List Stmt}{scope:Scope}{dV kV doc pm Uc ct:Value}{an:Option Addr}{ps:dZ}{sp:Sp}{params:Arguments}(lk:K.lookup f=some ⟨oc,od,.func<|fnOf name qual params body scope dV kV doc pm an Uc ct,W3⟩)(Wz:codeIn K Uc qual=true)(S:aL N ps scope)(len:∀vs H Q E,sp vs H Q E->vs.length=ps.length)(V9:∀(A:Around)(outer:List Env)(s:Shared)(H:Hp)(vs:gW)(Q:VK)(E:XK),Uj k (A.deeper<|envOfC qual scope s.heap.objs.size f Uc)->sp vs H Q E->∃t,Vw (Ce CX P w K mg base N qual scope f Uc A outer s H E) body t/\t {nx:=λ_ H'=>Q .TN H',rt:=Q} (start N vs) H):pO P w K mg base CX (k+1) f (fnOf name qual params body scope dV kV doc pm an Uc ct) ps sp:=by
 refine⟨len,λA outer s H args us vs Q E hr e0 hb r WT=>?_⟩;have hl:=len _ _ _ _ WT;have KX:K.In s.heap:=e0.mod.Y7.keeps λb o e=>(e0.bs b o e).1;have lim:s.heap.NoLimit:=e0.mod.nolimit.keeps λb o e=>(e0.bs b o e).1;have X4:∀y∈ps.zip us,scope.names.lookup y.1=some .local\/(scope.names.lookup y.1=some .cell/\((cellsFrom (s.heap.objs.size+1) scope.names []).lookup y.1).isSome=true):=λ⟨n,v⟩ hy=>by
  rcases S.par n (qX hy).1 with q |q;·exact .inl q
  ·exact .inr ⟨q,Sr _ _ _<|.inl q⟩
 refine codeAny_call_function hr.depth (KX _ _ lk) rfl S.co S.gen rfl (codeRec_of KX Wz)<|hb _ _ _ _ ?_;refine wpAny_newFunctionEnv_cells S.kind X4 λenv he s1 x=>?_;subst he;refine⟨lim.keeps x.toInCall.keep,codeAny_func ?_⟩;obtain⟨t,ht,hq⟩:=V9 A outer s H vs Q E (hr.deeper _) WT;have I:Inv (Ce CX P w K mg base N qual scope f Uc A outer s H E) [] (start N vs) H s1:=HC S hr.hd e0 hl r x;refine jv (ht [] s1 (start N vs) H _ I hq) (λfl s' hs=>?_) λe s' hs=>hs;have fin:∀{T0:St}{H':Hp}{v:V}{u:Value},Inv (Ce CX P w K mg base N qual scope f Uc A outer s H E) [] T0 H' s'->RelV v u->Q v H'->CE outer P w H s Q u s':=λ{T0 H' v u}J rv q=>⟨v,H',J.os,J.bare,J.base,J.TV,rv,q⟩;cases fl with
 |ret u=>obtain⟨v,T0,H',J,rv,q⟩:=hs;exact fin J rv q
 |next=>obtain⟨T0,H',J,q⟩:=hs;exact fin (v:=V.TN) (u:=Value.none) J rfl q
 |brk=>obtain⟨_,_,_,q⟩:=hs;exact False.elim q
 |cont=>obtain⟨_,_,_,q⟩:=hs;exact False.elim q
section
variable {X:Cx}{id:String}{r:gW->Hp->VK->Prop}
def SI(r:gW->Hp->VK->Prop)(t:TA):TE:=λY H Q=>t Y H λvs H1=>r vs H1 Q
def kn(hc:kr X (.builtin id) r)(hg:Gl X x)(hm:X.mg x=none)(hv:bootBuiltins x=some (.builtin id))(ha:PA X (e::es) t)(hn:x≠"__name__":=by decide)(V8:FU x:=by decide)(he:En e es X.env:=by rfl)(Wl:IA pos es X.env:=by rfl):PE X (.Call (.Name x p) (e::es) [] pos) (SI r t):=by intro on s Y H Q I h;refine MP<|oF I hg hm hv ?_ hn V8;exact PyProof.Rows.callWith_builtin1 (fH (ha pos on s Y H _ I h) λus s1 ⟨vs,H1,I1,r1,q1⟩=>hc on s1 Y H1 vs us Q I1 r1 q1) he Wl
def uY(hc:kr X (.type T) r)(hg:Gl X x)(hm:X.mg x=none)(hv:bootBuiltins x=some (.type T))(ha:PA X (e::es) t)(hn:x≠"__name__":=by decide)(V8:FU x:=by decide)(he:En e es X.env:=by rfl)(Wl:IA pos es X.env:=by rfl):PE X (.Call (.Name x p) (e::es) [] pos) (SI r t):=by intro on s Y H Q I h;refine MP<|oF I hg hm hv ?_ hn V8;exact dJ (fH (ha pos on s Y H _ I h) λus s1 ⟨vs,H1,I1,r1,q1⟩=>hc on s1 Y H1 vs us Q I1 r1 q1) he Wl
end
end L2
namespace HT
open PySem PySem.W PyProof.Rows
variable {K:gh}
section
open PySem.SeqAt
open PySem.AutoSeq1 (wpAny_loadPart')
open PySem.MeetsSeq PySem.MeetsSeq2 PySem.MeetsSeq3
end
def WD{vs ws:jw}{Q:v7}{s:Shared}(ht:IsTup s.heap t vs.toArray)(hb:IsTup s.heap b ws.toArray)(hv:vs≠[])(h1:ws=[]->Q (.ref t) s)(h2:ws≠[]->Q (.ref s.heap.objs.size) {s with heap:=s.heap.push {cls:=.type "tuple",data:=.seq (vs++ws).toArray}})(U8:vs.length+ws.length<=sizeLine):wpAny (model prog w) A (binaryOp .Add (.ref t)<|.ref b) Q E s:=by
 obtain⟨⟨cls,dd,data,sl⟩,ho,hc,n,hd⟩:=id ht;obtain⟨⟨zHN,dd2,data2,ZX⟩,Yy,VM,n2,hd2⟩:=id hb;simp only at hc hd VM hd2;subst hc hd VM hd2;have e:vs.toArray++ws.toArray=(vs++ws).toArray:=by simp
 by_cases hw:ws=[];·exact concat_meets ⟨_,ho,rfl⟩ ⟨_,Yy,rfl⟩ noFill_tuple_add seq_tuple_add Ss Rv (Ri _ _) (tuple_addW1 t b vs.toArray ws.toArray n n2 dd dd2 sl ZX (by simpa using hv)<|by simp[hw]) ⟨ho,Yy,h1 hw⟩
 ·refine concat_meets ⟨_,ho,rfl⟩ ⟨_,Yy,rfl⟩ noFill_tuple_add seq_tuple_add Ss Rv (Ri _ _) (tuple_addW2 t b vs.toArray ws.toArray n n2 dd dd2 sl ZX (by simpa using hv) (by simpa using hw)<|by rw[aC,aC];exact U8) ⟨ho,Yy,?_⟩;rw[e];exact h2 hw
def T4(n d:Nat):Option Int->Nat|none=>d|some v=>if v<0 then(v+(n:Int)).toNat else min v.toNat n
def NR(n d:Nat)(hd:d<=n)(o:Option Int):T4 n d o<=n:=by
 cases o with
 |none=>exact hd
 |some v=>
  show(if v<0 then(v+(n:Int)).toNat else min v.toNat n)<=n;by_cases hv:v<0;·rw[am hv];lia
  ·rw[ap hv];exact Nat.min_le_right _ _
theorem GX(v:Int)(n d:Nat):(if v<0 then max (v+(n:Int)) 0 else min v (n:Int))=((T4 n d (some v):Nat):Int):=by
 show(if v<0 then max (v+(n:Int)) 0 else min v (n:Int))=(((if v<0 then(v+(n:Int)).toNat else min v.toNat n):Nat):Int);by_cases hv:v<0;·simp only[am hv];lia
 ·simp only[ap hv];lia
def FI(lo hi:Option Int)(n:Nat):Builtin.Slice.sliceAdjust lo hi 1 (n:Int)=(((T4 n 0 lo:Nat):Int),((T4 n n hi:Nat):Int)):=by
 have h1:¬((1:Int)<0):=by lia
 unfold Builtin.Slice.sliceAdjust;simp only[h1,tT];refine Prod.ext ?_ ?_;·cases lo with|none=>rfl|some v=>exact GX v n 0
 ·cases hi with|none=>rfl|some v=>exact GX v n n
def EZ(i j:Nat):Builtin.Slice.slicePlaces (i:Int) (j:Int) 1=j-i:=by
 unfold Builtin.Slice.slicePlaces;have h1:(1:Int)>0:=by lia
 simp only[h1,CP,Int.ediv_one];split<;>lia
def xE{o:Option Int}{Q:Option Int->Shared->Prop}(p:IsPart v o)(h:Q o s):wpAny (model prog w) A (Builtin.Slice.slicePartIndex v) Q E s:=by cases p with|none=>exact slicePart_none h|int i t=>exact slicePart_int h
def uV{s:Shared}{lo hi:Option Int}{Q:Int×Int×Nat->Shared->Prop}(hs:s.heap.IsSliceOf sl vl vu .none)(pl:IsPart vl lo)(pu:IsPart vu hi)(h:Q (((T4 n 0 lo:Nat):Int),1,T4 n n hi-T4 n 0 lo) s):wpAny (model prog w) A (Builtin.Slice.sliceApplied (.ref sl)<|pure (n:Int)) Q E s:=by obtain⟨os,WU,hcs,YA⟩:=id hs;unfold Builtin.Slice.sliceApplied Builtin.Slice.sliceFields;refine aj<|aj<|dY WU YA (x:=vl) rfl<|aj<|dY WU YA (x:=vu) rfl<|aj<|dY WU YA (x:=.none) rfl<|aR ?_;refine aj<|slicePart_none ?_;show wpAny _ _ (if((1:Int)==0)=true then _ else _) _ _ s;rw[ap<|by decide];refine aj<|xE pl<|aj<|xE pu<|aj<|aR ?_;show wpAny _ _ (match Builtin.Slice.sliceAdjust lo hi 1 (n:Int)with |(lo,hi)=>pure (lo,(1:Int),Builtin.Slice.slicePlaces lo hi 1)) _ _ s;rw[FI lo hi n];show wpAny _ _ (pure (((T4 n 0 lo:Nat):Int),(1:Int),Builtin.Slice.slicePlaces ((T4 n 0 lo:Nat):Int) ((T4 n n hi:Nat):Int) 1)) _ _ s;rw[EZ];exact aR h
def JA(xs:Array Value)(i k:Nat):((List.range k).filterMap λ(m:Nat)=>xs[((i:Int)+(m:Int)*1).toNat]?).toArray=((xs.toList.drop i).take k).toArray:=by
 have e:(λ(m:Nat)=>xs[((i:Int)+(m:Int)*1).toNat]?)=λm=>xs[i+m]?:=by
  funext m;have:((i:Int)+(m:Int)*1).toNat=i+m:=by lia
  rw[this]
 rw[e];have:=pick_run xs i k;rw[List.filterMap_map]at this;have e2:((λx=>xs[x]?) ∘ λx=>i+x)=λm=>xs[i+m]?:=rfl;rw[e2]at this;rw[this]
def UD{Q:v7}{s:Shared}{lo hi:Option Int}(ht:IsTup s.heap t items)(hs:s.heap.IsSliceOf sl vl vu .none)(pl:IsPart vl lo)(pu:IsPart vu hi)(hw:¬(T4 items.size 0 lo=0/\T4 items.size items.size hi=items.size))(h:Q (.ref s.heap.objs.size) {s with heap:=s.heap.push {cls:=.type "tuple",data:=.seq ((items.toList.drop<|T4 items.size 0 lo).take<|T4 items.size items.size hi-T4 items.size 0 lo).toArray}})(U8:items.size<=sizeLine):wpAny (model prog w) A (getItem (.ref t)<|.ref sl) Q E s:=by
 have VD:sizeOk (.seq ((items.toList.drop<|T4 items.size 0 lo).take<|T4 items.size items.size hi-T4 items.size 0 lo).toArray):=by show((items.toList.drop<|T4 items.size 0 lo).take<|T4 items.size items.size hi-T4 items.size 0 lo).toArray.size<=sizeLine;rw[aC,eT,du,rT];lia
 have hj:T4 items.size items.size hi<=items.size:=NR _ _ (aq _) hi;obtain⟨os,WU,hcs,YA⟩:=id hs;have hTs:s.TypeIs (.ref sl) "slice":=⟨os,WU,hcs⟩;unfold getItem;try with_reducible refine Ay ?_
 first |refine aj (aR ?_) |skip
 refine aj<|wpAny_sequenceKey ht.typeIs (by decide) ?_;refine aj<|e9 (name:=Str.ofString "__getitem__") ht.typeIs Iy<|gC Iy ht.typeIs entry_tuple_getitem ?_<|args_tuple_getitem _ _;show wpAny _ _ (Builtin.Tuple.tupleItemsOf (.ref t)>>=_) _ _ s;refine aj<|tupleItemsOf_ ht ?_;refine aj<|wpAny_typeOf hTs ?_;rw[am<|by decide];refine aj<|uV hs pl pu ?_;have hno:¬((((T4 items.size 0 lo:Nat):Int)==0&&(1:Int)==1&&(T4 items.size items.size hi-T4 items.size 0 lo)==items.size)=true):=by intro q;rw[br,br]at q;have q1:((T4 items.size 0 lo:Nat):Int)=0:=eq_of_beq q.1.1;have q2:T4 items.size items.size hi-T4 items.size 0 lo=items.size:=eq_of_beq q.2;exact hw ⟨by lia,by lia⟩
 show wpAny _ _ (if(((T4 items.size 0 lo:Nat):Int)==0&&(1:Int)==1&&(T4 items.size items.size hi-T4 items.size 0 lo)==items.size)=true then _ else _) _ _ s;rw[ap hno,JA];first
  |exact aj (m:=Builtin.Tuple.tupleExact _) (cn (aR ⟨_,rfl,aR h⟩) VD)|exact aj (m:=Builtin.Tuple.tupleExact _)<|cn (aj<|aR<|aR ⟨_,rfl,aR h⟩) VD
  |exact aj (aj (m:=Builtin.Tuple.tupleExact _)<|cn (aR<|aR ⟨_,rfl,aR h⟩) VD)|exact aj<|aj (m:=Builtin.Tuple.tupleExact _)<|cn (aR ⟨_,rfl,aR h⟩) VD
end HT
namespace L2
open PySem PySem.W PySem.Spec PyProof.Rows
variable {K:gh}
abbrev TO:=St->Hp->(Option Int->Hp->Prop)->Prop
def PO(X:Cx)(e:Option Expr)(t:TO):Prop:=∀(on:iB)(s:Shared)(Y:St)(H:Hp)(Q:Option Int->Hp->Prop),Inv X on Y H s->t Y H Q->ge X (evalPart e X.env) (λu s'=>∃o H',Inv X on Y H' s'/\IsPart u o/\Q o H') X.xe s
def K2:TO:=λ_ H Q=>Q none H
def P1(t:TE):TO:=λY H Q=>t Y H λx H1=>∃i,x=.int i/\Q (some i) H1
def Fe{ns:aG}:∀{us:jw},Vals (ns.map V.int) us->IntsAre us ns:=by
 induction ns with
 |nil=>intro us r;rw[Sw]at r;cases r;exact .nil
 |cons n ns ih=>intro us r;rw[eG]at r;cases r with|cons r1 r2=>obtain⟨t,e⟩:=r1;subst e;exact .cons n t<|ih r2
section
variable {X:Cx}{lo hi:Option Expr}{tl th:TO}
def LB:PO X none K2:=by intro on s Y H Q I h;rw[evalPart_none];exact aR ⟨none,H,I,.none,h⟩
def LA(h:PE X e te):PO X (some e) (P1 te):=by intro on s Y H Q I hw;rw[evalPart_some];refine fH (h on s Y H _ I hw) λu s1 ⟨x,H1,I1,r1,q1⟩=>?_;obtain⟨i,rfl,q⟩:=q1;obtain⟨t,rfl⟩:=r1;exact⟨some i,H1,I1,.int i t,q⟩
def Sf(X:Cx)(r:V->Option Int->Option Int->Hp->VK->Prop):Prop:=∀(on:iB)(s:Shared)(Y:St)(H:Hp)(x:V)(v vl vu:Value)(lo hi:Option Int)(sl:Addr)(Q:VK),Inv X on Y H s->RelV x v->s.heap.IsSliceOf sl vl vu .none->IsPart vl lo->IsPart vu hi->r x lo hi H Q->∃T id,typeLookup (.type T) "__getitem__"=pure (some<|.builtin id)/\s.TypeIs v T/\ge X (getItem v<|.ref sl) (EP X on Y Q) X.xe s
def S2(r:V->Option Int->Option Int->Hp->VK->Prop)(te:TE)(tl th:TO):TE:=λY H Q=>te Y H λx H1=>tl Y H1 λl H2=>th Y H2 λu H3=>r x l u H3 Q
def Do{r:V->Option Int->Option Int->Hp->VK->Prop}(hr:Sf X r)(he:PE X e te)(hl:PO X lo tl)(hu:PO X hi th):PE X (.Subscript e (.Slice lo hi none p2) pos) (S2 r te tl th):=by intro on s Y H Q I h;refine Subscript_ (fH (he on s Y H _ I h) λv s1 ⟨x,H1,I1,r1,q1⟩=>?_);refine wpAny_Slice (fH (hl on s1 Y H1 _ I1 q1) λvl s2 ⟨l,H2,I2,pl,q2⟩=>fH (hu on s2 Y H2 _ I2 q2) λvu s3 ⟨u,H3,I3,pu,q3⟩=>?_);rw[evalPart_none];refine aR ?_;have I4:Inv X on Y H3 {s3 with heap:=s3.heap.push {cls:=.type "slice",data:=.fields #[vl,vu,.none]}}:=I3.kept (t':=s3.toks) λb ob q=>aD _ q;obtain⟨T,id,hT,ht,hg⟩:=hr on {s3 with heap:=s3.heap.push {cls:=.type "slice",data:=.fields #[vl,vu,.none]}} Y H3 x v vl vu l u s3.heap.objs.size Q I4 r1 (Heap.IsSliceOf.new ..) pl pu q3;show ge X (subscriptTail e (.Slice lo hi none p2) v<|.ref s3.heap.objs.size) (EP X on Y Q) X.xe {s3 with heap:=s3.heap.push {cls:=.type "slice",data:=.fields #[vl,vu,.none]}};exact tail_any (ops:=[.ref s3.heap.objs.size,v]) ht hT hg<|by with_unfolding_all rfl
def D7(xs:gW)(lo hi:Option Int):gW:=(xs.drop<|HT.T4 xs.length 0 lo).take<|HT.T4 xs.length xs.length hi-HT.T4 xs.length 0 lo
theorem v5(xs:gW)(lo hi:Option Int):(D7 xs lo hi).length<=xs.length:=by unfold D7;rw[eT,du];lia
def RP(K:gh):V->Option Int->Option Int->Hp->VK->Prop:=λx lo hi H Q=>∃a xs,x=.ref a/\Ud K H a xs/\¬(HT.T4 xs.length 0 lo=0/\HT.T4 xs.length xs.length hi=xs.length)/\∀p,H p=none->Q (.ref p) (hU H p<|.tup<|D7 xs lo hi)
def NL:Sf X (RP X.K):=by
 intro on s Y H x v vl vu lo hi sl Q I rx hs pl pu h;obtain⟨a,xs,rfl,hx,hw,q⟩:=h;cases rx;obtain⟨its,r,ht,hz⟩:=I.tuple hx;have hlen:its.toArray.size=xs.length:=by rw[aC];exact r.length.symm
 refine⟨"tuple",_,PyProof.Rows.slot_tuple_getitem.lookup,ht.typeIs,?_⟩;refine HT.UD ht hs pl pu (by rw[hlen];exact hw) ?_ (by rw[hlen];exact hz);rw[hlen];refine⟨.ref s.heap.objs.size,_,I.laid (t':=s.toks) (o:=.tup<|D7 xs lo hi) (λb ob q=>aD _ q) (aq _) ?_,rfl,q _<|I.TV.fresh<|aq _⟩;exact⟨bL (v5 xs lo hi) hz,_,(r.drop<|HT.T4 xs.length 0 lo).take<|HT.T4 xs.length xs.length hi-HT.T4 xs.length 0 lo,IsTup.new _ _⟩
def Qp(K:gh):R2:=λx y H Q=>∃a b xs ys,x=.ref a/\y=.ref b/\Ud K H a xs/\Ud K H b ys/\xs≠[]/\xs.length+ys.length<=sizeLine/\(ys=[]->Q (.ref a) H)/\(ys≠[]->∀p,H p=none->Q (.ref p) (hU H p<|.tup<|xs++ys))
def Vals.U7(r:Vals xs us):us=[]↔xs=[]:=by cases r with|nil=>simp|cons _ _=>simp
def LK:nV X (binaryOp .Add) (Qp X.K):=by intro on s Y H x y v u Q I rx ry h;obtain⟨a,b,xs,ys,rfl,rfl,ha,hb,hx,hz,q1,q2⟩:=h;cases rx;cases ry;obtain⟨its,r1,p1,_⟩:=I.tuple ha;obtain⟨Vf,r2,p2,_⟩:=I.tuple hb;refine HT.WD p1 p2 (λz=>hx<|r1.U7.mp z) (λz=>⟨.ref a,H,I,rfl,q1<|r2.U7.mp z⟩) (λz=>?_) (by rw[<-r1.length,<-r2.length];exact hz);refine⟨.ref s.heap.objs.size,_,I.laid (t':=s.toks) (o:=.tup<|xs++ys) (λb ob q=>aD _ q) (aq _) ?_,rfl,q2 (λw=>z<|r2.U7.mpr w) _<|I.TV.fresh<|aq _⟩;exact⟨by rw[aJ];exact hz,_,r1.append r2,IsTup.new _ _⟩
end
def CM(n:Nat)(i:Int):Option Nat:=if 0<=i then(if i<n then some i.toNat else none)else if-(n:Int)<=i then some (i+n).toNat else none
def tZ{α:Type}(xs:List α)(i:Int):Option α:=(CM xs.length i).bind λj=>xs[j]?
theorem GD{i:Int}(h:CM n i=some j):seqIndex? i n=some j/\j<n/\-(n:Int)<=i/\i<n:=by
 unfold CM at h;by_cases h0:0<=i
 ·rw[am h0]at h;by_cases h1:i<n;·rw[am h1]at h;have e:i.toNat=j:=bS h;exact⟨by rw[Rt h0 h1,e],by lia,by lia,h1⟩
  ·rw[ap h1]at h;cases h
 ·rw[ap h0]at h;by_cases h1: -(n:Int)<=i;·rw[am h1]at h;have e:(i+n).toNat=j:=bS h;exact⟨by rw[Pz (by lia) h1,e],by lia,h1,by lia⟩
  ·rw[ap h1]at h;cases h
def Cv{i:Int}{α:Type}{xs:List α}{v:α}(h:tZ xs i=some v):∃j,seqIndex? i xs.length=some j/\xs[j]?=some v/\j<xs.length/\-(xs.length:Int)<=i/\i<xs.length:=by
 unfold tZ at h;cases e:CM xs.length i with
 |none=>rw[e]at h;cases h
 |some j=>rw[e]at h;obtain⟨h1,h2,h3,h4⟩:=GD e;exact⟨j,h1,h,h2,h3,h4⟩
def MG{j:Nat}{α:Type}{xs:List α}{v:α}(h:xs[j]?=some v):tZ xs (j:Int)=some v:=by
 have hj:j<xs.length:=(aV.mp h).1;have e:CM xs.length (j:Int)=some j:=by unfold CM;rw[am<|by lia,am<|by lia];simp
 unfold tZ;rw[e];exact h
def KC{α:Type}(xs:List α)(v:α):tZ (xs++[v]) (-1)=some v:=by
 have hl:(xs++[v]).length=xs.length+1:=by simp
 have e:CM (xs++[v]).length (-1)=some xs.length:=by unfold CM;rw[hl,ap<|by decide,am<|by lia];congr 1;lia
 unfold tZ;rw[e];show(xs++[v])[xs.length]?=some v;simp
def Cw(b:Expr):Prop:=∀o i,subscripted b false o i=operate [o,i] (getItem o i)
def Sh(X:Cx)(r:R2):Prop:=∀(value slice:Expr)(on:iB)(s:Shared)(Y:St)(H:Hp)(x y:V)(v u:Value)(Q:VK),Inv X on Y H s->RelV x v->RelV y u->r x y H Q->subscripted slice false v u=operate [v,u] (getItem v u)->ge X (subscriptTail value slice v u) (EP X on Y Q) X.xe s
def SN(X:Cx)(id:String)(r:V->gW->Hp->VK->Prop):Prop:=∀(on:iB)(s:Shared)(Y:St)(H:Hp)(x:V)(xs:gW)(v:Value)(us:jw)(Q:VK),Inv X on Y H s->RelV x v->Vals xs us->r x xs H Q->ge X (call (.builtin id)<|v::us) (EP X on Y Q) X.xe s
section
variable {X:Cx}
def Nf{r:R2}(hr:Sh X r)(ha:PE X a ta)(hb:PE X b tb)(hs:Cw b):PE X (.Subscript a b pos) (Ro r ta tb):=by intro on s Y H Q I h;exact Subscript_ (Pi ha hb I h λv u s2 x y H2 I2 rx ry q=>hr a b on s2 Y H2 x y v u Q I2 rx ry q<|hs _ _)
def Qo(K:gh):R2:=λx y H Q=>∃p xs i v,x=.ref p/\y=.int i/\T9 K H p xs/\tZ xs i=some v/\Q v H
def RU(K:gh):R2:=λx y H Q=>∃p xs i v,x=.ref p/\y=.int i/\Ud K H p xs/\tZ xs i=some v/\Q v H
def L5:Sh X (Qo X.K):=by
 intro value slice on s Y H x y v u Q I rx ry h hs;obtain⟨p,xs,i,z,rfl,rfl,hq,he,q⟩:=h;cases rx;obtain⟨t,rfl⟩:=ry;obtain⟨its,r,pl,hz⟩:=I.list hq;obtain⟨j,h1,h2,h3,h4,h5⟩:=Cv he;obtain⟨w,ew,UL⟩:=r.get h2;have hl:=r.length;have hn:=qr;have fin:EP X on Y Q w s:=⟨z,H,I,UL,q⟩;by_cases h0:0<=i
 ·have hj:i.toNat=j:=by rw[Rt h0 h5]at h1;exact bS h1
  exact item_listR pl.isList h0 (by lia) (by rw[hj];simpa using ew) fin hs
 ·have hj:(i+(its.toArray.size:Int)).toNat=j:=by rw[Pz (by lia) h4]at h1;rw[aC,<-hl];exact bS h1
  exact subscriptTail_builtinR (x:=w) pl.isList.typeIs slot_list_getitem.lookup (wpAny_getItem_list_neg (Q:=λr s'=>r=w/\EP X on Y Q r s') pl.isList (by lia) (by rw[aC]<;>lia) (by lia) (by rw[hj];simpa using ew) ⟨rfl,fin⟩) hs
def OM:Sh X (RU X.K):=by intro value slice on s Y H x y v u Q I rx ry h hs;obtain⟨p,xs,i,z,rfl,rfl,hq,he,q⟩:=h;cases rx;obtain⟨t,rfl⟩:=ry;obtain⟨its,r,pl,hz⟩:=I.tuple hq;obtain⟨j,h1,h2,h3,h4,h5⟩:=Cv he;obtain⟨w,ew,UL⟩:=r.get h2;have hl:=r.length;have hn:=qr;have fin:EP X on Y Q w s:=⟨z,H,I,UL,q⟩;exact subscriptTail_builtinR (x:=w) pl.typeIs slot_tuple_getitem.lookup (getItem_tuple (j:=j) (Q:=λr s'=>r=w/\EP X on Y Q r s') pl (by lia) (by lia) (by rw[aC,<-hl];exact h1) (by simpa using ew) ⟨rfl,fin⟩) hs
def E7(its:jw)(n j:Nat)(u:Value):Obj.mapSeq (·.setIfInBounds j u) {cls:=.type "list",data:=.seq its.toArray n}={cls:=.type "list",data:=.seq (its.set j u).toArray n}:=by simp[Obj.mapSeq]
def Inv.lst{p:Addr}(I:Inv X on Y H s)(h:H p=some (.lst xs)):∃(its:jw)(n:Nat),Vals xs its/\s.heap.get? p=some {cls:=.type "list",data:=.seq its.toArray n}/\xs.length<=sizeLine:=by obtain⟨z,its,n,r,e⟩:=I.TV p _ h;exact⟨its,n,r,e,z⟩
def Inv.W6{p:Addr}{its its':jw}{f:Obj->Obj}(I:Inv X on Y H s)(h:H p=some (.lst xs))(ho:s.heap.get? p=some {cls:=.type "list",data:=.seq its.toArray n})(hf:f {cls:=.type "list",data:=.seq its.toArray n}={cls:=.type "list",data:=.seq its'.toArray n'})(r:Vals ys its')(hz:ys.length<=sizeLine)(t:Nat):Inv X on Y (hU H p<|.lst ys) {s with heap:=s.heap.update p f,toks:=t}:=by
 have e:(s.heap.update p f).get? p=some {cls:=.type "list",data:=.seq its'.toArray n'}:=by rw[kB f ho<|by rw[hf]<;>rfl,hf]
 refine I.write (x:=p) (e:=p) (by rw[h];trivial) (.inl rfl) (λb u hb q=>(Em _ _<|ip hb).trans q) ⟨_,e⟩ ?_;exact⟨hz,its',n',r,e⟩
def Qn:V->V->V->Hp->(Hp->Prop)->Prop:=λo i v H Q=>∃p xs k j,o=.ref p/\i=.int k/\H p=some (.lst xs)/\CM xs.length k=some j/\Q (hU H p<|.lst<|xs.set j v)
def C5:Pu X Qn:=by
 intro on s Y H o i v ov iv u Q I ro ri rv h;obtain⟨p,xs,k,j,rfl,rfl,hp,hj,q⟩:=h;cases ro;obtain⟨t,rfl⟩:=ri;obtain⟨its,n,r,ho,hz⟩:=I.lst hp;obtain⟨h1,h2,h3,h4⟩:=GD hj;have hl:=r.length;have hn:=qr;have I':Inv X on Y (hU H p<|.lst<|xs.set j v) {s with heap:=s.heap.update p (Obj.mapSeq (·.setIfInBounds j u))}:=I.W6 hp ho (E7 its n j u) (r.set rv j) (by rw[cy];exact hz) s.toks;by_cases h0:0<=k
 ·have hk:k.toNat=j:=by rw[Rt h0 h4]at h1;exact bS h1
  exact ki_setAt ho h0 (by lia) (by rw[aC,<-hl];exact h4)<|by rw[hk];exact⟨_,I',q⟩
 ·have hk:(k+(its.toArray.size:Int)).toNat=j:=by rw[Pz (by lia) h3]at h1;rw[aC,<-hl];exact bS h1
  exact ki_setBack ho (by lia) (by rw[aC,<-hl];exact h3) (by lia)<|by rw[hk];exact⟨_,I',q⟩
theorem Bp(lo hi:Option Int)(n:Nat):(sliceBounds lo hi none n).1=((HT.T4 n 0 lo:Nat):Int)/\(sliceBounds lo hi none n).2.1=((HT.T4 n n hi:Nat):Int)/\(sliceBounds lo hi none n).2.2=1:=by
 refine⟨?_,?_,rfl⟩
 ·cases lo with
  |none=>simp[sliceBounds,HT.T4]
  |some i=>
   simp only[sliceBounds,HT.T4,Option.getD_none,show(1:Int)>0 by decide,CP];by_cases h:i<0;·simp only[h,CP]<;>lia
   ·simp only[h,tT]<;>lia
 ·cases hi with
  |none=>simp[sliceBounds,HT.T4]
  |some i=>
   simp only[sliceBounds,HT.T4,Option.getD_none,show(1:Int)>0 by decide,CP];by_cases h:i<0;·simp only[h,CP]<;>lia
   ·simp only[h,tT]<;>lia
def zy(its:jw)(lo hi:Option Int):slicePick its.toArray lo hi none=((its.drop<|HT.T4 its.length 0 lo).take<|HT.T4 its.length its.length hi-HT.T4 its.length 0 lo).toArray:=by obtain⟨h1,h2,h3⟩:=Bp lo hi its.toArray.size;unfold slicePick;rw[h1,h2,h3];simp only[sliceRange_one,pick_run,aC]<;>rfl
def RQ(K:gh):V->Option Int->Option Int->Hp->VK->Prop:=λx lo hi H Q=>∃a xs,x=.ref a/\T9 K H a xs/\∀p,H p=none->Q (.ref p) (hU H p<|.lst<|D7 xs lo hi)
def K8:Sf X (RQ X.K):=by intro on s Y H x v vl vu lo hi sl Q I rx hs pl pu h;obtain⟨a,xs,rfl,hx,q⟩:=h;cases rx;obtain⟨its,r,ht,hz⟩:=I.list hx;have hlen:=r.length;refine⟨"list",_,slot_list_getitem.lookup,ht.isList.typeIs,?_⟩;refine wpAny_getItem_list_slice ht.isList hs pl pu .none (by simp) ?_ (by rw[aC]<;>lia);rw[zy,<-hlen];refine⟨.ref s.heap.objs.size,_,I.laid (t':=s.toks) (o:=.lst<|D7 xs lo hi) (λb ob q=>aD _ q) (aq _) ?_,rfl,q _<|I.TV.fresh<|aq _⟩;exact⟨bL (v5 xs lo hi) hz,_,0,(r.drop<|HT.T4 xs.length 0 lo).take<|HT.T4 xs.length xs.length hi-HT.T4 xs.length 0 lo,aT _ rfl⟩
def Ci:kr X (.builtin "len") (λxs H Q=>∃p ys,xs=[.ref p]/\(T9 X.K H p ys\/Ud X.K H p ys)/\Q (.int ys.length) H):=by
 intro on s Y H xs us Q I r h;obtain⟨p,ys,rfl,hq,q⟩:=h;obtain⟨u,rfl,rx⟩:=pW r;cases rx;have hn:=qr;rcases hq with hq |hq;·obtain⟨its,r',pl,hz⟩:=I.list hq;have hlen:=r'.length;exact Calls.call_len_list pl.isList (by simp only[aC]<;>lia) ⟨.int ys.length,H,I.tok _,⟨s.toks+1,by rw[aC,hlen]⟩,q⟩
 ·obtain⟨its,r',pl,hz⟩:=I.tuple hq;have hlen:=r'.length;exact len_tuple pl (by simp only[aC]<;>lia) ⟨.int ys.length,H,I.tok _,⟨s.toks+1,by rw[aC,hlen]⟩,q⟩
def Ch:kr X (.type "list") (λxs H Q=>∃p ys,xs=[.ref p]/\(T9 X.K H p ys\/Ud X.K H p ys)/\∀l,H l=none->Q (.ref l) (hU H l<|.lst ys)):=by
 intro on s Y H xs us Q I r h;obtain⟨p,ys,rfl,hq,q⟩:=h;obtain⟨u,rfl,rx⟩:=pW r;cases rx;have fin:∀(its:jw),Vals ys its->ys.length<=sizeLine->∀(h':Heap)(c':Nat),(∀b o',s.heap.get? b=some o'->h'.get? b=some o')->h'.get? s.heap.objs.size=some {cls:=.type "list",dict:=none,data:=.seq its.toArray c',slots:=#[]}->EP X on Y Q (.ref s.heap.objs.size) {s with heap:=h'}:=λits r' hz h' c' kp e=>⟨.ref s.heap.objs.size,_,I.laid (t':=s.toks) kp (aq _) (show TY X.prog X.w _ h' _ (.lst ys)from⟨hz,its,c',r',e⟩),rfl,q _<|I.TV.fresh<|aq _⟩;rcases hq with hq |hq;·obtain⟨its,r',pl,hz⟩:=I.list hq;have hlen:=r'.length;obtain⟨o,ho,hc,n,hd⟩:=pl.isList;exact call_list_seq p (.inl rfl) ho hc hd (λh' c' kp e=>fin its r' hz h' c' kp e)<|by simp only[aC]<;>lia
 ·obtain⟨its,r',pl,hz⟩:=I.tuple hq;have hlen:=r'.length;obtain⟨o,ho,hc,n,hd⟩:=pl;exact call_list_seq p (.inr rfl) ho hc hd (λh' c' kp e=>fin its r' hz h' c' kp e)<|by simp only[aC]<;>lia
def Ai:kr X (.type "tuple") (λxs H Q=>∃p ys,xs=[.ref p]/\((T9 X.K H p ys/\∀l,H l=none->Q (.ref l) (hU H l<|.tup ys))\/(Ud X.K H p ys/\Q (.ref p) H))):=by
 intro on s Y H xs us Q I r h;obtain⟨p,ys,rfl,h⟩:=h;obtain⟨u,rfl,rx⟩:=pW r;cases rx;rcases h with⟨hq,q⟩ |⟨hq,q⟩;·obtain⟨its,r',pl,hz⟩:=I.list hq;have hlen:=r'.length;refine call_tuple_list pl.isList (λh' kp=>?_) (by simp only[aC]<;>lia);have I1:Inv X on Y H {s with heap:=h'}:=I.kept (t':=s.toks) kp;have I2:Inv X on Y (hU H h'.objs.size<|.tup ys) {s with heap:=h'.push {cls:=.type "tuple",data:=.seq its.toArray}}:=I1.laid (t':=s.toks) (λb o e=>aD _ e) (aq _) (show TY X.prog X.w _ _ _ (.tup ys)from⟨hz,its,r',IsTup.new _ _⟩);exact⟨.ref h'.objs.size,_,I2,rfl,q _<|I1.TV.fresh<|aq _⟩
 ·obtain⟨its,r',pl,hz⟩:=I.tuple hq;exact call_tuple_same pl ⟨.ref p,H,I,rfl,q⟩
def Ry(K:gh)(T:String)(x:V)(H:Hp):Prop:=match x with
 |.str _=>T="str"|.int _=>T="int"
 |.ref p=>(T="list"/\∃xs,T9 K H p xs)\/(T="tuple"/\∃o,K.lookup p=some o/\o.cls=.type "tuple"/\o.dict=none)\/(T="dict"/\((∃kvs,H p=some (.dK kvs))\/∃kvs,H p=some (.dT kvs)))\/(T="set"/\∃S n,H p=some (.set S n))|_=>False
def IG(I:Inv X on Y H s)(r:RelV x v)(ty:Ry X.K T x H):s.TypeIs v T/\∀a,v=.ref a->∃ob,s.heap.get? a=some ob/\ob.dict=none:=by
 cases x with
 |str z=>obtain⟨t,rfl⟩:=r;cases(show T="str"from ty);exact⟨typeIs_str s z t,λ_ e=>nomatch e⟩
 |int i=>obtain⟨t,rfl⟩:=r;cases(show T="int"from ty);exact⟨MQ s i t,λ_ e=>nomatch e⟩
 |ref p=>
  cases r;rcases ty with⟨rfl,xs,hq⟩ |⟨rfl,o,hk,hc,hd⟩ |⟨rfl,hk⟩ |⟨rfl,S,n,hk⟩;·obtain⟨its,_,pl,_⟩:=I.list hq;refine⟨pl.isList.typeIs,λa e=>?_⟩;cases e;obtain⟨o,n,e,c,hd,_⟩:=pl;exact⟨o,e,hd⟩
  ·refine⟨⟨o,I.Vb p o hk,hc⟩,λa e=>?_⟩;cases e;exact⟨o,I.Vb _ o hk,hd⟩
  ·have z:∃o,s.heap.get? p=some o/\o.ExactDict:=by
    rcases hk with⟨kvs,hk⟩ |⟨kvs,hk⟩;·obtain⟨_,_,_,_,o,_,_,e,ex,_⟩:=I.TV p _ hk;exact⟨o,e,ex⟩
    ·obtain⟨_,_,_,_,o,_,_,e,ex,_⟩:=I.TV p _ hk;exact⟨o,e,ex⟩
   obtain⟨o,e,ex⟩:=z;refine⟨⟨o,e,ex.1⟩,λa e2=>?_⟩;cases e2;exact⟨o,e,ex.2.1⟩
  ·obtain⟨o,_,_,_,e,ex,_⟩:=I.TV p _ hk;refine⟨⟨o,e,ex.1⟩,λa e2=>?_⟩;cases e2;exact⟨o,e,ex.2.1⟩
 |_=>exact False.elim ty
def RK(K:gh)(T:String)(r:V->gW->Hp->VK->Prop)(to:TE):TE:=λY H Q=>to Y H λx H1=>Ry K T x H1/\r x [] H1 Q
def S5(K:gh)(T:String)(r:V->gW->Hp->VK->Prop)(to:TE)(t:TA):TE:=λY H Q=>to Y H λx H1=>Ry K T x H1/\t Y H1 λxs H2=>r x xs H2 Q
variable {id:String}{r:V->gW->Hp->VK->Prop}
def BE{apos:Pos}{TX:Pos}(pa:PlainAttrs T)(slot:Slot T name id)(Zb:typeOf (.builtin id)=pure (.type "method_descriptor"))(hm:SN X id r)(ho:PE X o to)(Wa:attributeBase o name X.env (eval o X.env)=eval o X.env:=by rfl)(Ug:(apos.endLine==TX.line)=true:=by rfl):PE X (.Call (.Attribute o name apos) [] [] TX) (RK X.K T r to):=by intro on s Y H Q I h;refine wpAny_Call_method0_late Wa Ug (fH (ho on s Y H _ I h) λv s1 ⟨x,H1,I1,r1,ty,q1⟩=>?_);obtain⟨h1,h2⟩:=IG I1 r1 ty;exact⟨T,id,pa,slot,Zb,h1,h2,Calls.callWith_builtin rfl<|PySem.evalArgs_none<|hm on s1 Y H1 x [] v [] Q I1 r1 .nil q1⟩
def Ng{apos:Pos}(pa:PlainAttrs T)(slot:Slot T name id)(Zb:typeOf (.builtin id)=pure (.type "method_descriptor"))(hm:SN X id r)(ho:PE X o to)(ha:PA X (e::es) t)(Wa:attributeBase o name X.env (eval o X.env)=eval o X.env:=by rfl)(V7:((backTo TX<|starEach (e::es) X.env).all (λx=>!x.1)&&(backToKw TX<|keywordEach [] X.env).all (λx=>x.1.isSome)&&decide ((e::es).length+([]:List Keyword).length+(if([]:List Keyword).isEmpty then 0 else 1)<30))=true:=by rfl)(Ug:(apos.endLine==TX.line)=true:=by rfl)(hs:En e es X.env:=by rfl)(W9:IA TX es X.env:=by rfl):PE X (.Call (.Attribute o name apos) (e::es) [] TX) (S5 X.K T r to t):=by intro on s Y H Q I h;refine wpAny_Call_method_late Wa V7 Ug rfl (fH (ho on s Y H _ I h) λv s1 ⟨x,H1,I1,r1,ty,q1⟩=>?_);obtain⟨h1,h2⟩:=IG I1 r1 ty;refine⟨T,id,pa,slot,Zb,h1,h2,?_⟩;have hA:=ha TX on s1 Y H1 _ I1 q1;rw[hs]at hA ⊢;refine Calls.callWith_builtin (by show(false||(backTo TX<|starEach es X.env).any (·.1))=false;rw[W9]<;>rfl)<|Calls.evalArgs_plain ?_;exact fH hA λus s2 ⟨vs,H2,I2,r2,q2⟩=>hm on s2 Y H2 x vs v us Q I2 r1 r2 q2
end
def Rs(X:Cx)(id:String)(r:V->gW->Hp->VK->Prop):Prop:=∀(on:iB)(s:Shared)(Y:St)(H:Hp)(x:V)(xs:gW)(v:Value)(us:jw)(Q:VK),Inv X on Y H s->RelV x v->Vals xs us->r x xs H Q->ge X (call (.builtin id)<|v::us) (EP X on Y Q) X.xe s
def Vals.one:∀{x:V}{us:jw},Vals [x] us->∃u,us=[u]/\RelV x u|_,_,.cons r .nil=>⟨_,rfl,r⟩
def Vals.two:∀{x y:V}{us:jw},Vals [x,y] us->∃u v,us=[u,v]/\RelV x u/\RelV y v|_,_,_,.cons r (.cons q .nil)=>⟨_,_,rfl,r,q⟩
def Vals.zero:∀{us:jw},Vals [] us->us=[]|_,.nil=>rfl
def Vals.dropLast(h:Vals xs us):Vals xs.dropLast us.dropLast:=by induction h with|nil=>exact .nil|cons r t ih=>cases t with|nil=>exact .nil|cons q t'=>exact .cons r ih
def Vals.reverse(h:Vals xs us):Vals xs.reverse us.reverse:=by induction h with|nil=>exact .nil|cons r t ih=>rw[nE,nE];exact Vals.append ih<|.cons r .nil
def Vals.rep(h:Vals xs us):∀k:Nat,Vals (List.replicate k xs).flatten (List.replicate k us).flatten|0=>.nil|k+1=>by rw[dk,dk,gS,gS];exact Vals.append h<|Vals.rep h k
theorem Fg{α:Type}(l:List α):l.eraseIdx (l.length-1)=l.dropLast:=by
 induction l with
 |nil=>rfl
 |cons a r ih=>
  cases r with
  |nil=>rfl
  |cons b r=>
   have e:(a::b::r).length-1=((b::r).length-1)+1:=by have h1:(a::b::r).length=r.length+2:=rfl;have h2:(b::r).length=r.length+1:=rfl;lia
   rw[e,List.eraseIdx_cons_succ,ih];all_goals rfl
theorem A4(its:jw):∀(k:Nat)(acc:jw),List.foldl (λx1 x2=>x1++x2) acc.toArray (List.replicate k its.toArray)=(acc++(List.replicate k its).flatten).toArray
 |0,acc=>by simp
 |k+1,acc=>by
  have e:acc.toArray++its.toArray=(acc++its).toArray:=by simp
  have e2:(acc++its)++(List.replicate k its).flatten=acc++(List.replicate (k+1) its).flatten:=by rw[dk,gS,ff]
  rw[<-e2,<-A4 its k (acc++its),<-e,dk,List.foldl_cons]
section
variable {X:Cx}
def Inv.Wu{its its':jw}{t':Nat}{l:Addr}{f:Array Value->Array Value}(I:Inv X on Y H s)(hH:H l=some (.lst xs))(e:s.heap.get? l=some {cls:=.type "list",data:=.seq its.toArray n})(hf:f its.toArray=its'.toArray)(hv:Vals ys its')(hz:ys.length<=sizeLine):Inv X on Y (hU H l<|.lst ys) {s with heap:=s.heap.update l<|Obj.mapSeq f,toks:=t'}:=by have q:=PySem.IsL.update e f;rw[hf]at q;refine I.write (x:=l) (e:=l) (by rw[hH];exact trivial) (.inl rfl) (λb' u hb hu=>(Em s.heap (Obj.mapSeq f)<|ip hb).trans hu) ⟨_,q⟩ ?_;exact⟨hz,its',_,hv,q⟩
def Inv.W7{t':Nat}(I:Inv X on Y H s)(hv:Vals ys its)(hz:ys.length<=sizeLine):Inv X on Y (hU H s.heap.objs.size<|.lst ys) {s with heap:=s.heap.push {cls:=.type "list",data:=.seq its.toArray},toks:=t'}:=I.laid (λ_ _ q=>aD _ q) (aq _) ⟨hz,its,0,hv,aT _ rfl⟩
def Inv.fresh(I:Inv X on Y H s):H s.heap.objs.size=none:=I.TV.fresh<|aq _
def Inv.Ve{l:Addr}(I:Inv X on Y H s)(hH:H l=some (.lst xs)):xs.length<=sizeLine/\∃(its:jw)(n:Nat),Vals xs its/\xs.length=its.length/\s.heap.get? l=some {cls:=.type "list",data:=.seq its.toArray n}:=by obtain⟨z,its,n,r,e⟩:=I.TV l _ hH;exact⟨z,its,n,r,r.length,e⟩
def Ds{n:Nat}(h:n<=sizeLine):Builtin.List.listTooLong n=false:=by unfold Builtin.List.listTooLong;exact ah<|by lia
end
section
variable {X:Cx}
def Ll:V->gW->Hp->VK->Prop:=λx vs H Q=>∃l xs y,x=.ref l/\vs=[y]/\H l=some (.lst xs)/\xs.length<sizeLine/\Q .TN (hU H l<|.lst<|xs++[y])
def AZ:Rs X "list.append" Ll:=by intro on s Y H x vs v us Q I rx rv h;obtain⟨l,xs,y,rfl,rfl,hH,hz,q⟩:=h;cases rx;obtain⟨u,rfl,ru⟩:=rv.one;obtain⟨z,its,n,r,hl,e⟩:=I.Ve hH;refine sr F.slot_list_append ⟨_,e,rfl⟩ F.entry_list_append (F.args_list_append_2 _ _) (PySem.list_append l its.toArray n u<|by rw[aC];lia) ⟨e,?_⟩;refine⟨.TN,_,I.Wu (its':=its++[u]) hH e (by simp) (r.append<|.cons ru .nil) ?_,rfl,q⟩;rw[aJ,cj];lia
def Lk:V->gW->Hp->VK->Prop:=λx vs H Q=>∃l b xs zs,x=.ref l/\vs=[.ref b]/\H l=some (.lst xs)/\H b=some (.lst zs)/\xs.length+zs.length<=sizeLine/\Q .TN (hU H l<|.lst<|xs++zs)
def PL:Rs X "list.extend" Lk:=by
 intro on s Y H x vs v us Q I rx rv h;obtain⟨l,b,xs,zs,rfl,rfl,hH,hB,hz,q⟩:=h;cases rx;obtain⟨u,rfl,ru⟩:=rv.one;cases ru;obtain⟨z,its,n,r,hl,e⟩:=I.Ve hH;obtain⟨z2,Vf,n2,r2,hl2,e2⟩:=I.Ve hB;have U8:its.toArray.size+Vf.toArray.size<=sizeLine:=by rw[aC,aC];lia
 have V6:¬(!its.toArray.isEmpty&&Builtin.List.listTooLong (its.toArray.size+Vf.toArray.size))=true:=by rw[Ds U8,tY];exact aK
 refine sr F.slot_list_extend ⟨_,e,rfl⟩ F.entry_list_extend (F.args_list_extend_2 _ _) (AutoSeq1.list_extend_list_list_0 l its.toArray n b Vf.toArray n2 V6 (by rw[aC];lia)<|by lia) ⟨e,e2,?_⟩;refine⟨.TN,_,I.Wu (its':=its++Vf) hH e (by simp) (r.append r2) ?_,rfl,q⟩;rw[aJ];lia
def RT:V->gW->Hp->VK->Prop:=λx vs H Q=>∃l xs y,x=.ref l/\vs=[]/\H l=some (.lst xs)/\xs[xs.length-1]?=some y/\Q y (hU H l<|.lst xs.dropLast)
def BL:Rs X "list.pop" RT:=by
 intro on s Y H x vs v us Q I rx rv h;obtain⟨l,xs,y,rfl,rfl,hH,hy,q⟩:=h;cases rx;have hus:=rv.zero;subst hus;obtain⟨z,its,n,r,hl,e⟩:=I.Ve hH;obtain⟨u,hu,ru⟩:=r.get hy;have XR:its.toArray[its.toArray.size-1]?=some u:=by show its.toArray[its.length-1]?=some u;rw[<-SY,<-hl];exact hu
 refine sr F.slot_list_pop ⟨_,e,rfl⟩ F.entry_list_pop (F.args_list_pop_1 _) (MeetsSeq.list_pop_last l its.toArray n u XR<|by rw[aC];lia) ⟨e,?_⟩;refine⟨y,_,I.Wu (its':=its.dropLast) hH e ?_ r.dropLast ?_,ru,q⟩;·show its.toArray.eraseIdxIfInBounds (its.toArray.size-1)=its.dropLast.toArray;rw[aC,List.eraseIdxIfInBounds_toArray,Fg]
 ·rw[gR];lia
def RV:R2:=λx y H Q=>∃l b xs zs,x=.ref l/\y=.ref b/\H l=some (.lst xs)/\H b=some (.lst zs)/\xs.length+zs.length<=sizeLine/\∀p,H p=none->Q (.ref p) (hU H p<|.lst<|xs++zs)
def Ow:nV X (binaryOp .Add) RV:=by
 intro on s Y H x y v u Q I rx ry h;obtain⟨l,b,xs,zs,rfl,rfl,hH,hB,hz,q⟩:=h;cases rx;cases ry;obtain⟨z,its,n,r,hl,e⟩:=I.Ve hH;obtain⟨z2,Vf,n2,r2,hl2,e2⟩:=I.Ve hB;refine PySem.P.add_list e e2 ?_ (by rw[aC,aC];lia);have ea:its.toArray++Vf.toArray=(its++Vf).toArray:=by simp
 rw[ea];exact⟨.ref _,_,I.W7 (t':=s.toks) (r.append r2)<|by rw[aJ];lia,rfl,q _ I.fresh⟩
def RS:R2:=λx y H Q=>∃l k xs,x=.ref l/\y=.int k/\H l=some (.lst xs)/\-(2 ^ 63)<=k/\k<2 ^ 63/\xs.length*k.toNat<=sizeLine/\∀p,H p=none->Q (.ref p) (hU H p<|.lst (List.replicate k.toNat xs).flatten)
def L1{α:Type}(xs:List α)(k:Nat):(List.replicate k xs).flatten.length=k*xs.length:=by induction k with|zero=>simp|succ k ih=>rw[dk,gS,aJ,ih,Ik,sy]
def Ot:nV X (binaryOp .Mult) RS:=by
 intro on s Y H x y v u Q I rx ry h;obtain⟨l,k,xs,rfl,rfl,hH,h1,h2,hz,q⟩:=h;cases rx;obtain⟨t,rfl⟩:=ry;obtain⟨z,its,n,r,hl,e⟩:=I.Ve hH;have hlen:its.toArray.size*k.toNat<=sizeLine:=by rw[aC,<-hl];exact hz
 have Zy:¬its.toArray.size*k.toNat>(2 ^ 63-1) / 8:=by
  have:(sizeLine:Nat)<=(2 ^ 63-1) / 8:=by decide
  lia
 have Zt:¬(!Builtin.List.listFitsIndex k)=true:=by rw[fitsIndex_both h1 h2];exact aK
 have V6:¬Builtin.List.listTooLong (its.toArray.size*k.toNat)=true:=by rw[Ds hlen];exact aK
 have Zl:List.foldl (λx1 x2=>x1++x2) #[] (List.replicate (if its.toArray.isEmpty=true then 0 else k.toNat) its.toArray)=(List.replicate k.toNat its).flatten.toArray:=by
  have f0:∀m:Nat,List.foldl (λx1 x2=>x1++x2) #[] (List.replicate m its.toArray)=(List.replicate m its).flatten.toArray:=λm=>by have:=A4 its m [];rw[MS]at this;exact this
  rw[f0];cases its with|nil=>simp|cons a r'=>rw[ap<|by simp]
 refine Ts (T:="list") (U:="int") (by decide) ⟨_,e,rfl⟩ (λs'=>MQ s' k t) noFill_list_mul F.fills_int_mul F.slot_int_rmul repeat_list F.slot_int_index.lookup<|sr F.slot_int_rmul (MQ s k t) F.entry_int_rmul (F.args_int_rmul_2 _ _) (int___rmul___int_list k t l its.toArray n) ⟨e,rfl,⟨_,e,rfl⟩,sr F.slot_list_mul ⟨_,e,rfl⟩ F.entry_list_mul (F.args_list_mul_2 _ _) (AutoListH.list___mul___list_int_3 l its.toArray n k t Zt Zy V6) ⟨e,?_⟩⟩;rw[Zl];exact⟨.ref _,_,I.W7 (t':=s.toks) (r.rep k.toNat)<|by rw[L1,zg];exact hz,rfl,q _ I.fresh⟩
end
end L2
namespace Att
open PySem PySem.W PySem.Calls PyProof.Rows
variable {K:gh}
def ww{P:Params}:∀(ns:aG)(vs:jw),WellAll P h vs (ns.map WData.int)->IntsAre vs ns:=by
 intro ns;induction ns with
 |nil=>intro vs w;rw[Sw]at w;cases w;exact .nil
 |cons n ns ih=>intro vs w;rw[eG]at w;cases w with|cons a b=>cases a;exact .cons _ _<|ih _ b
def He{l:OpenLaw}(hn:l.most=some n){P:Params}{args:List WData}(Wx:l.row.toRowW.claim.pre args=true)(Y9:WellAll P h vals args):∃a vs ns,vals=[Value.ref a]/\args=[WData.list<|ns.map WData.int]/\h.get? a=some {cls:=.type "list",data:=.seq vs.toArray}/\IntsAre vs ns/\ns.length<=n:=by
 have XT:WShape.hasAll [] args [.list .int]=true:=(pre_splitW Wx).1;have hc:l.pre.holds [] {args:=args}=true:=(pre_splitW Wx).2;obtain⟨d,r,rfl,h1,h2⟩:=hasAllW_cons XT;obtain rfl:=hasAllW_nil h2;obtain⟨xs,rfl,h3⟩:=hasW_list h1;obtain⟨ns,rfl⟩:=items_int h3;have hlen:ns.length<=n:=by
  unfold OpenLaw.pre at hc;have h4:(WTm.not<|.lt (.lit<|.int (n:Int))<|.len<|.arg 0).holds [] {args:=[.list<|ns.map .int]}=true:=by have h4:=(holds_andW hc).1;rw[hn]at h4;exact h4
  have h5:=condW_of h4<|w_not<|w_lt w_lit<|w_len_list<|w_arg rfl;rw[ae]at h5;refine Nat.le_of_not_lt λq=>?_;have q':(n:Int)<((ns.length:Nat):Int):=by lia
  first
   |(rw[av q']at h5;exact absurd h5<|by decide)|(simp at h5;lia)
 cases Y9 with|cons w1 w2=>cases w2;cases w1 with|list ho Wb=>exact⟨_,_,ns,rfl,rfl,ho,ww ns _ Wb,hlen⟩
def Hi(l:OpenLaw)(args:List WData):l.row.toRowW.claim.post args (.bool true) args=true:=postW_of (r:=l.row.toRowW) (X:=(true==true)) (show WShape.has [] (.bool true) .bool=true by first |rfl |decide |simp[WShape.has,WShape.arms,WShape.armsAll]) (show(WTm.eq .res<|.lit<|.bool true).value [] {args:=args,res:=some<|.bool true,after:=args}=some (.bool<|true==true)from w_eq_bool (w_res rfl) w_lit) rfl
def Vk{l:OpenLaw}{XP:(Str->Option Value)->Heap->Prop}{YP:World->Heap->Prop}{d:DefRec}(hn:l.most=some n)(X8:d.params.defaults=[])(call:∀(w:World)(s₀ s₁:Shared)(mg mb:AD)(fa:Addr)(o:Obj)(pm cd doc:Value)(a:Addr)(vs:jw)(ns:aG),Ground q loose [] XP w s₀ mg mb s₁.heap->YP w s₁.heap->s₁.heap.get? fa=some o->o.data=.func (docDef d.name d.params d.body d.scope pm cd doc)->s₁.heap.CodeRec cd d.name->mg d.name=some (.ref fa)->s₁.heap.get? a=some {cls:=.type "list",data:=.seq vs.toArray}->IntsAre vs ns->ns.length<=n->s₁.gens=#[]->codeAny (model l.prog w) callerA (.call (.ref fa) ⟨[.ref a],[]⟩) (λr s'=>r=.ok (.ret<|.bool true)/\OldK s₁.heap s'.heap/\s'.os=s₁.os/\AllBare s'.gens) s₁):WalkO q loose XP YP l.row.toRowW d [] (λf vs=>PySem.call f vs):=by intro w s₀ s₁ mg mb G Y fa o pm cd doc dV kV ho hd Wz hD hmg hg args vals as Wx zGL hrd Y9 hlo;obtain rfl:dV=.none:=Dflts.none hD X8;obtain rfl:kV=.none:=Dflts.noKw hD;obtain⟨a,vs,ns,rfl,rfl,Xa,hints,hlen⟩:=He hn Wx Y9;refine enter_call (codeAny_mono (call w s₀ s₁ mg mb fa o pm cd doc a vs ns G Y ho (fd_plain hd) Wz hmg Xa hints hlen hg) λr s' hq=>?_);obtain⟨rfl,h2,h3,h4⟩:=hq;exact⟨.inl ⟨.bool true,.bool true,[],rfl,λ_=>rfl,.bool true,Hi l _,λ_=>⟨List.Pairwise.nil,λ_ hm=>(nomatch hm)⟩⟩,h2,h3,h4⟩
section
variable {K:Frag}
def R0(h:Heap)(L d:Addr):iB:=(List.range h.objs.size).filterMap λa=>if a=L\/a=d then none else(h.get? a).map λo=>(a,o)
end
end Att
namespace L2
open PySem PySem.W PySem.Spec PyProof.Rows
variable {K:gh}
def AE:∀{vs:jw}{ns:aG},IntsAre vs ns->Vals (ns.map V.int) vs|_,_,.nil=>.nil|_,_,.cons n t h=>.cons ⟨t,rfl⟩<|AE h
def Pv(H:Hp):Prop:=∀b,H b=none\/∃o xs,H b=some (.UN o<|.lst xs)
def JW{a:Addr}{x:Str}{s₁:Shared}{vs:jw}(KX:K.In s₁.heap)(X1:s₁.heap.Ns mainGlobals mg)(hb:s₁.heap.Ns builtinsNs mb)(hbb:∀x:Str,x≠"__name__"->mb x=bootBuiltins x)(Zn:s₁.heap.NoLimit)(VE:s₁.heap.NoSeer)(hg:s₁.gens=#[])(ha:s₁.heap.get? a=some {cls:=.type "list",data:=.seq vs.toArray})(hi:IntsAre vs ns)(hl:ns.length<=sizeLine)(hr:Uj k callerA)(F:∀base:Heap,K.In base->base.Ns mainGlobals mg->pO P w K mg base CX k fa fd [x] sp)(Ya:∀(s:Shared)(u:Value),BindsTo s fd ⟨[u],[]⟩ [(x,u)])(WT:∀H:Hp,Pv H->T9 K H a (ns.map V.int)->sp [.ref a] H (λv _=>v=.bl true) λ_ _ _=>False)(ZC:∀H e s',CX [] H s₁ (λ_ _ _=>False) e s'->False):
  codeAny (model P w) callerA (.call (.ref fa) ⟨[.ref a],[]⟩) (λr s'=>r=.ok (.ret<|.bool true)/\OldK s₁.heap s'.heap/\s'.os=s₁.os/\AllBare s'.gens) s₁:=by
 have rv:=AE hi
 have Y6:=hi.length
 have core:∀H:Hp,Pv H->T9 K H a (ns.map V.int)->Uo P w H s₁.heap->(∀b,H b≠none->b=a)->(H a≠none->K.lookup a=none)->
   codeAny (model P w) callerA (.call (.ref fa) ⟨[.ref a],[]⟩) (λr s'=>r=.ok (.ret<|.bool true)/\OldK s₁.heap s'.heap/\s'.os=s₁.os/\AllBare s'.gens) s₁:=by
  intro H hO hS TV hA hK
  have Va:∀{b:Addr}{o:Obj},s₁.heap.get? b=some o->H b=none->(Ad s₁.heap H).get? b=some o:=λe n=>J8 e n
  have XH:∀{b:Addr}{o:Obj}{es:Array DictEntry}{ep:Nat},s₁.heap.get? b=some o->o.data=.dict es ep->H b=none:=λ{b o es ep}e d=>by
   cases q:H b with
   |none=>rfl
   |some u=>
    have e':b=a:=hA b<|by rw[q];simp
    subst e'
    rw[ha]at e;cases e
    have d':Data.seq vs.toArray _=Data.dict es ep:=d
    cases d'
  have WQ:∀{b:Addr}{m:AD},s₁.heap.Ns b m->(Ad s₁.heap H).Ns b m:=λ{b m} ⟨o,es,ep,e,d,r⟩=>⟨o,es,ep,Va e<|XH e d,d,r⟩
  have hKb:K.In (Ad s₁.heap H):=λb o e=>Va (KX b o e) (by
   cases q:H b with
   |none=>rfl
   |some u=>
    have e':b=a:=hA b<|by rw[q];simp
    subst e'
    rw[hK (by rw[q];simp)]at e;cases e)
  have Yb:(Ad s₁.heap H).NoSeer:={
   statics:=let⟨mc,a1,b1⟩:=VE.statics;⟨mc,WQ a1,b1⟩
   mods:=let⟨mc,a1,b1⟩:=VE.mods;⟨mc,WQ a1,b1⟩
   imp:=let⟨mc,a1,b1⟩:=VE.imp;⟨mc,WQ a1,b1⟩
   main:=let⟨VR,bm,ob,a1,b1,c1,d1,e1⟩:=VE.main;⟨VR,bm,ob,WQ a1,b1,Va c1 (by
    cases q:H bm with
    |none=>rfl
    |some u=>
     have e':bm=a:=hA bm<|by rw[q];simp
     subst e'
     rw[ha]at c1;cases c1
     injection d1 with d2
     exact absurd d2 (by decide)),d1,e1⟩}
  have hM:Mod K mg (Ad s₁.heap H):=⟨hKb,WQ X1,⟨mb,WQ hb,hbb⟩,let⟨mc,h1,h2⟩:=Zn;⟨mc,WQ h1,h2⟩,Yb⟩
  have e0:MN P w K mg (Ad s₁.heap H) callerA [] s₁ H:=⟨rfl,hM,λb o e=>LM e,nD<|HD _ _,trivial,λb hb=>absurd (show b∈([]:List Addr)from hb)<|by simp,TV,.of_eq hg⟩
  refine codeAny_mono ((F _ hKb<|WQ X1).run callerA [] s₁ H ⟨[.ref a],[]⟩ [.ref a] [.ref a] _ _ hr e0 (Ya s₁<|.ref a) (.cons rfl .nil)<|WT H hO hS) λr s' h=>?_
  cases r with
  |error e=>exact(ZC H e s' h).elim
  |ok fl=>
   cases fl with
   |next=>exact False.elim h
   |brk=>exact False.elim h
   |cont=>exact False.elim h
   |ret u=>
    obtain⟨v,H',os,bare,un,Zi,r',q⟩:=h
    have q':v=.bl true:=q
    subst q'
    obtain rfl:u=Value.bool true:=r'
    refine⟨rfl,OldK.of_keep λb o e=>?_,os,bare⟩
    cases q:H b with
    |none=>exact un.keep b o e q (by intro z;exact absurd (show b∈([]:List Addr)from z)<|by simp)<|by simp
    |some u=>
     rcases hO b with z |⟨ob,xs,z⟩
     ·rw[q]at z;cases z
     ·have z2:=un.UJ b ob _ z
      obtain⟨e1,_⟩:=TV b _ z
      obtain⟨e2,_⟩:=Zi b _ z2
      rw[e]at e1;cases e1
      exact e2
 cases hk:K.lookup a with
 |some o=>
  have e:=KX a o hk
  rw[ha]at e
  cases e
  refine core (λ_=>none) (λ_=>.inl rfl) (.inr ⟨_,vs.toArray,_,hk,rfl,rfl,rfl,by rw[aC,Y6];exact hl,by simpa using rv⟩) (λb u z=>by have z':(none:Option HO)=some u:=z;cases z') (λb z=>absurd rfl z) λz=>absurd rfl z
 |none=>
  refine core (λb=>if b=a then some (.UN {cls:=.type "list",data:=.seq vs.toArray}<|.lst<|ns.map V.int)else none) (λb=>?_) (.inl<|.inr ⟨{cls:=.type "list",data:=.seq vs.toArray},am rfl⟩) (λb u z=>?_) (λb z=>?_) λ_=>hk
  ·by_cases hb:b=a
   ·exact .inr ⟨_,_,am hb⟩
   ·exact .inl<|ap hb
  ·by_cases hb:b=a
   ·have z':=(am hb).symm.trans z
    cases z'
    subst hb
    exact⟨ha,by rw[ae];exact hl,vs,_,rv,ha⟩
   ·have z':=(ap hb).symm.trans z
    cases z'
  ·by_cases hb:b=a
   ·exact hb
   ·exact absurd (ap hb) z
def Wo{q:Program}{l:PySem.W.OpenLaw}{XP:(Str->Option Value)->Heap->Prop}{YP:World->Heap->Prop}{d:DefRec}{K:Params->gh}{CX:World->PQ}{sp:World->Sp}(hq:importsNone q=true)(hn:l.most=some n)(hn2:n<=sizeLine)(X8:d.params.defaults=[])(hr:Uj k callerA)(hY:∀(w:World)(h:Heap),YP w h->(K w.params).In h)(F:∀(w:World)(mg:AD)(fa:Addr)(h:Heap),(K w.params).In h->h.Ns mainGlobals mg->mg d.name=some (.ref fa)->∃fd:FuncData,(∀(s:Shared)(u:Value),BindsTo s fd ⟨[u],[]⟩ [(x,u)])/\∀base:Heap,(K w.params).In base->base.Ns mainGlobals mg->pO l.prog w (K w.params) mg base (CX w) k fa fd [x] (sp w))(WT:∀(w:World)(H:Hp)(a:Addr)(ns:aG),ns.length<=n->Pv H->T9 (K w.params) H a (ns.map V.int)->sp w [.ref a] H (λv _=>v=.bl true) λ_ _ _=>False)(ZC:∀(w:World)(H:Hp)(s:Shared)(e:Value)(s':Shared),CX w [] H s (λ_ _ _=>False) e s'->False):PySem.W.WalkO q loose XP YP l.row.toRowW d [] (λf vs=>PySem.call f vs):=by refine Att.Vk hn X8 λw s₀ s₁ mg mb fa o pm cd doc a vs ns G Y ho hd Wz hmg Xa hints hlen hg=>?_;have KX:=hY w _ Y;obtain⟨fd,hb,hF⟩:=F w mg fa _ KX G.T.g hmg;exact JW KX G.T.g G.T.b G.T.builtins G.T.nolimit (G.T.seer hq) hg Xa hints (bL hlen hn2) hr hF hb (λH hO hS=>WT w H a ns hlen hO hS) λH e s'=>ZC w H s₁ e s'
def jg(s:Stmt):Arguments:=match s with|.FunctionDef _ a _ _ _ _ _ _ _ _=>a|_=>{posonlyargs:=[],args:=[],vararg:=none,kwonlyargs:=[],kw_defaults:=[],kwarg:=none,defaults:=[]}
def eo(s:Stmt):List Stmt:=match s with|.FunctionDef _ _ b _ _ _ _ _ _ _=>b|_=>[]
def ay(s:Stmt):Scope:=match s with|.FunctionDef _ _ _ _ _ _ sc _ _ _=>sc|_=>{kind:=.function,names:=[],isGenerator:=false,isCoroutine:=false}
abbrev Aw:PQ:=λ_ _ _ _ _ _=>False
abbrev E0:XK:=λ_ _ _=>False
def Nh{X:Cx}:y8 Aw X E0:=λ_ _ _ _ _ _ _ h=>h.elim
structure WH(K:gh)(x qual:Str)(st:Stmt)(f:Addr)(fd:FuncData):Prop where
 ex:∃(oc:Value)(od:Option Addr)(kV doc pm:Value)(an:Option Addr)(Uc ct:Value)(W3:Array (Option Value)),
  fd=fnOf x qual (jg st) (eo st) (ay st) .none kV doc pm an Uc ct/\K.lookup f=some ⟨oc,od,.func fd,W3⟩/\codeIn K Uc qual=true
 kp:keepIn K (.ref f)=true
def WH.ok{st:Stmt}{ps:dZ}{sp:Sp}(F:WH K x qual st f fd)(S:aL N ps (ay st))(len:∀vs H Q E,sp vs H Q E->vs.length=ps.length)(V9:∀(Uc:Value)(A:Around)(outer:List Env)(s:Shared)(H:Hp)(vs:gW)(Q:VK)(E:XK),Uj k (A.deeper<|envOfC qual (ay st) s.heap.objs.size f Uc)->sp vs H Q E->∃t,Vw (Ce Aw P w K mg base N qual (ay st) f Uc A outer s H E).VB (eo st) t/\t {nx:=λ_ H'=>Q .TN H',rt:=Q} (start N vs) H):pO P w K mg base Aw (k+1) f fd ps sp:=by obtain⟨oc,od,kV,doc,pm,an,Uc,ct,W3,rfl,lk,Wz⟩:=F.ex;refine QS lk Wz S len λA outer s H vs Q E hr WT=>?_;obtain⟨t,h,q⟩:=V9 Uc A outer s H vs Q E hr WT;exact⟨t,h.VB,q⟩
def WH.binds{st:Stmt}{ps:dZ}(F:WH K x qual st f fd)(h:∀(kV doc pm:Value)(an:Option Addr)(Uc ct:Value)(us:jw),us.length=ps.length->bindArgs (fnOf x qual (jg st) (eo st) (ay st) .none kV doc pm an Uc ct) ⟨us,[]⟩=pure (ps.zip us)):Binds K fd ps []:=by obtain⟨oc,od,kV,doc,pm,an,Uc,ct,W3,rfl,lk,Wz⟩:=F.ex;exact .all<|h kV doc pm an Uc ct
def OZ{x qual:Str}{st:Stmt}{f:Addr}{an:Option Addr}{kV doc pm Uc ct:Value}(l:K.lookup f=some ⟨oc,od,.func<|fnOf x qual (jg st) (eo st) (ay st) .none kV doc pm an Uc ct,W3⟩)(c:codeIn K Uc qual=true)(k:keepIn K (.ref f)=true):WH K x qual st f (fnOf x qual (jg st) (eo st) (ay st) .none kV doc pm an Uc ct):=⟨⟨oc,od,kV,doc,pm,an,Uc,ct,W3,rfl,l,c⟩,k⟩
def TR(H H':Hp):Prop:=∀b o,H b=some o->H' b=some o
def TR.refl(H:Hp):TR H H:=λ_ _ h=>h
def TR.trans(a:TR H H1)(b:TR H1 H2):TR H H2:=λc o h=>b c o<|a c o h
def TR.free{l:Addr}(e:TR H H')(h:H' l=Option.none):H l=Option.none:=by cases q:H l with|none=>rfl|some o=>rw[e l o q]at h;cases h
def TR.seq(e:TR H H')(h:T9 K H a xs):T9 K H' a xs:=by
 rcases h with(h |⟨o,h⟩) |h;·exact .inl<|.inl<|e _ _ h
 ·exact .inl<|.inr ⟨o,e _ _ h⟩
 ·exact .inr h
end L2
namespace L2.EV
open PySem PySem.W PySem.Spec PyProof.Rows
variable {K:gh}
inductive D where
 |TN |bl (b:Bool) |int (i:Int) |str (x:Str) |tup (xs:List D) |lst (xs:List D) |UC (ns:aG) |exc (C:Addr) |VN (C ea:Addr) |UK (kvs:List (aG×Int)) |adr (p:Addr) |Wj (q:Addr)
abbrev bX:=List D
def Ny(a C:Addr):Heap->Prop:=λh=>∃ob vs,h.get? a=some ob/\ob.cls=.ref C/\ob.data=.fields vs/\vs[2]?=some .none
def QY(o:Obj)(xs:List (aG×Addr×Int)):Prop:=o.ExactDict/\∃(es:Array DictEntry)(ep:Nat)(ys:List (aG×Addr×Value)),o.data=.dict es ep/\(∀(P:Program)(w:World),es.toList=ys.map (entryOfKey<|tupleKind<|intKind P w))/\Paired (λ(x:aG×Addr×Int)(y:aG×Addr×Value)=>y.1=x.1/\y.2.1=x.2.1/\RelV (.int x.2.2) y.2.2) xs ys/\(ys.map (·.1)).Nodup
def D5(a:Addr)(xs:List (aG×Addr×Int)):Heap->Prop:=λh=>xs.length<=sizeLine/\(a==sysModules)=false/\∃o,h.get? a=some o/\QY o xs
def VP(F:Hp)(kvs:List (aG×Int))(xs:List (aG×Addr×Int)):Prop:=kvs=xs.map (λx=>(x.1,x.2.2))/\∀x∈xs,F x.2.1=some (.tup<|x.1.map V.int)
def VP.mono{kvs:List (aG×Int)}{xs:List (aG×Addr×Int)}(h:TR F F')(r:VP F kvs xs):VP F' kvs xs:=⟨r.1,λx hx=>h _ _<|r.2 x hx⟩
mutual
inductive Rep(K:gh)(F:Hp):V->D->Prop where
 |TN:Rep K F .TN .TN
 |bl (b:Bool):Rep K F (.bl b) (.bl b)
 |int (i:Int):Rep K F (.int i) (.int i)
 |str (x:Str):Rep K F (.str x) (.str x)
 |tup {a:Addr} {vs:gW} {ds:bX}:F a=some (.tup vs)->TF K F vs ds->Rep K F (.ref a) (.tup ds)
 |lst {a:Addr} {vs:gW} {ds:bX}:F a=some (.lst vs)->TF K F vs ds->Rep K F (.ref a) (.lst ds)
 |UC {a:Addr} {ns:aG}:T9 K F a (ns.map V.int)->Rep K F (.ref a) (.UC ns)
 |exc {a C:Addr} {ob:Obj}:F a=some (.UN ob<|.ext<|Ny a C)->Rep K F (.ref a) (.exc C)
 |VN {a C:Addr} {ob:Obj}:F a=some (.UN ob<|.ext<|Ny a C)->Rep K F (.ref a) (.VN C a)
 |UK {a:Addr} {ob:Obj} {kvs:List (aG×Int)} {xs:List (aG×Addr×Int)}:F a=some (.UN ob<|.ext<|D5 a xs)->VP F kvs xs->Rep K F (.ref a) (.UK kvs)
 |adr (a:Addr):Rep K F (.ref a) (.adr a)
 |Wj {a q:Addr}:F a=some (.dK [(Sum.inr "xs",.ref q)])->Rep K F (.ref a) (.Wj q)
inductive TF(K:gh)(F:Hp):gW->bX->Prop where
 |nil:TF K F [] []
 |cons {v:V} {d:D} {vs:gW} {ds:bX}:Rep K F v d->TF K F vs ds->TF K F (v::vs) (d::ds)
end
mutual
def Rep.mono(h:TR F F'):∀{v:V}{d:D},Rep K F v d->Rep K F' v d
 |_,_,.TN=>.TN|_,_,.bl b=>.bl b
 |_,_,.int i=>.int i|_,_,.str x=>.str x
 |_,_,.tup e r=>.tup (h _ _ e) (TF.mono h r)|_,_,.lst e r=>.lst (h _ _ e)<|TF.mono h r
 |_,_,.UC e=>.UC (h.seq e)|_,_,.exc e=>.exc<|h _ _ e
 |_,_,.VN e=>.VN (h _ _ e)|_,_,.UK e r=>.UK (h _ _ e)<|r.mono h
 |_,_,.adr a=>.adr a|_,_,.Wj e=>.Wj<|h _ _ e
def TF.mono(h:TR F F'):∀{vs:gW}{ds:bX},TF K F vs ds->TF K F' vs ds|_,_,.nil=>.nil|_,_,.cons r t=>.cons (Rep.mono h r)<|TF.mono h t
end
def TF.length:∀{vs:gW}{ds:bX},TF K F vs ds->vs.length=ds.length|_,_,.nil=>rfl|_,_,.cons _ t=>bi Nat.succ<|TF.length t
def TF.get:∀{vs:gW}{ds:bX}{i:Nat}{d:D},TF K F vs ds->ds[i]?=some d->∃v,vs[i]?=some v/\Rep K F v d
 |_,_,_,_,.nil,e=>by simp at e|_,_,0,_,.cons r _,e=>by simp at e;subst e;exact⟨_,rfl,r⟩
 |_,_,i+1,d,.cons _ t,e=>by let⟨v,h1,h2⟩:=TF.get t e;exact⟨v,by simpa using h1,h2⟩
def TF.append:∀{vs us:gW}{ds es:bX},TF K F vs ds->TF K F us es->TF K F (vs++us) (ds++es)|_,_,_,_,.nil,s=>s|_,_,_,_,.cons r t,s=>.cons r<|TF.append t s
def TF.take:∀{vs:gW}{ds:bX}(n:Nat),TF K F vs ds->TF K F (vs.take n) (ds.take n)
 |_,_,0,_=>.nil|_,_,_+1,.nil=>.nil
 |_,_,n+1,.cons r t=>.cons r<|TF.take n t
def TF.drop:∀{vs:gW}{ds:bX}(n:Nat),TF K F vs ds->TF K F (vs.drop n) (ds.drop n)
 |_,_,0,r=>r|_,_,_+1,.nil=>.nil
 |_,_,n+1,.cons _ t=>TF.drop n t
def TF.set(r:Rep K F v d):∀{vs:gW}{ds:bX}(i:Nat),TF K F vs ds->TF K F (vs.set i v) (ds.set i d)
 |_,_,_,.nil=>.nil|_,_,0,.cons _ t=>.cons r t
 |_,_,i+1,.cons q t=>.cons q<|TF.set r i t
def TF.dropLast(h:TF K F vs ds):TF K F vs.dropLast ds.dropLast:=by rw[SU,SU,h.length];exact h.take _
def TF.reverse:∀{vs:gW}{ds:bX},TF K F vs ds->TF K F vs.reverse ds.reverse|_,_,.nil=>.nil|_,_,.cons r t=>by rw[nE,nE];exact TF.append (TF.reverse t)<|.cons r .nil
def TF.rep(h:TF K F vs ds):∀k:Nat,TF K F (List.replicate k vs).flatten (List.replicate k ds).flatten|0=>.nil|k+1=>by rw[dk,dk,gS,gS];exact TF.append h<|TF.rep h k
def TF.ints:∀ns:aG,TF K F (ns.map V.int) (ns.map D.int)|[]=>.nil|n::ns=>.cons (.int n)<|TF.ints ns
structure B0 where
 F:Hp
 H:Hp
structure Ext(B:B0)(F H:Hp):Prop where
 sub:TR F H
 sh:TR B.H H
 sf:TR B.F F
 nw:∀a,F a≠none->B.F a≠none\/B.H a=none
inductive Sl where
 |un |val (d:D) |own (xs:bX) |U5 (kvs:List (aG×Int))
abbrev FT(N:List Str)(ds:List D):List Sl:=ds.map Sl.val++List.replicate (N.length-ds.length) Sl.un
abbrev To(x:D)(N:List Str)(ds:List D):List Sl:=.val x::ds.map Sl.val++List.replicate (N.length-(ds.length+1)) Sl.un
structure YL(B:B0)(F H:Hp)(Y:St)(U:List Sl):Prop where
 ZL:∀(i:Nat)kvs,U[i]?=some (.U5 kvs)->∃a es,Y[i]?=some (some<|.ref a)/\H a=some (.ext<|D5 a es)/\F a=none/\B.H a=none/\VP F kvs es
 Yh:∀(i j:Nat)xs ys a,U[i]?=some (.U5 xs)->U[j]?=some (.U5 ys)->Y[i]?=some (some<|.ref a)->Y[j]?=some (some<|.ref a)->i=j
def YL.to{H':Hp}{T0:St}{U TW:List Sl}(k:YL B F H Y U)(hF:TR F F')(hH:∀a φ,H a=some (.ext φ)->F a=none->B.H a=none->H' a=some (.ext φ)/\F' a=none)(hρ:∀(i:Nat)kvs,TW[i]?=some (.U5 kvs)->U[i]?=some (.U5 kvs)/\T0[i]?=Y[i]?):YL B F' H' T0 TW:=by refine⟨λi kvs e=>?_,λi j xs ys a e1 e2 e3 e4=>?_⟩;let⟨q,z⟩:=hρ i kvs e;let⟨a,es,h1,h2,h3,h4,h5⟩:=k.ZL i kvs q;let⟨g1,g2⟩:=hH a _ h2 h3 h4;exact⟨a,es,z.trans h1,g1,g2,h4,h5.mono hF⟩;let⟨q1,z1⟩:=hρ i xs e1;let⟨q2,z2⟩:=hρ j ys e2;exact k.Yh i j xs ys a q1 q2 (z1▸e3)<|z2▸e4
def Br{Y:St}{U:List Sl}{v:Option V}{s:Sl}(hs:∀kvs,s≠.U5 kvs)(j:Nat)(kvs:List (aG×Int))(h:(U.set i s)[j]?=some (.U5 kvs)):U[j]?=some (.U5 kvs)/\(Y.set i v)[j]?=Y[j]?:=by
 by_cases e:i=j;subst e;rw[dv]at h;cases z:U[i]? with
 |none=>rw[z]at h;cases h
 |some w=>rw[z]at h;exact absurd (bS h)<|hs kvs
 rw[aS e]at h ⊢;exact⟨h,rfl⟩
def xI{Y:St}{U:List Sl}{s:Sl}(hs:∀kvs,s≠.U5 kvs)(j:Nat)(kvs:List (aG×Int))(h:(U.set i s)[j]?=some (.U5 kvs)):U[j]?=some (.U5 kvs)/\Y[j]?=Y[j]?:=⟨(Br (Y:=[]) (v:=none) hs j kvs h).1,rfl⟩
structure Ok(K:gh)(B:B0)(F H:Hp)(Y:St)(U:List Sl):Prop extends Ext B F H where
 len:Y.length=U.length
 vals:∀(i:Nat)d,U[i]?=some (.val d)->∃v,Y[i]?=some (some v)/\Rep K F v d
 Us:∀(i:Nat)xs,U[i]?=some (.own xs)->∃a vs,Y[i]?=some (some<|.ref a)/\H a=some (.lst vs)/\F a=none/\B.H a=none/\TF K F vs xs
 dist:∀(i j:Nat)xs ys a,U[i]?=some (.own xs)->U[j]?=some (.own ys)->Y[i]?=some (some<|.ref a)->Y[j]?=some (some<|.ref a)->i=j
 UK:YL B F H Y U
def bh{H:Hp}{p:Addr}(h:H p=none):TR H (hU H p o):=λb u q=>by rwa[bK<|eZ q h]
def IE(h:TR F H):TR (hU F p o) (hU H p o):=λb u q=>by by_cases hb:b=p;subst hb;rw[cf]at q ⊢;exact q;rw[bK hb]at q ⊢;exact h b u q
section
variable {U:List Sl}
def Ext.refl(h:TR F H):Ext ⟨F,H⟩ F H:=⟨h,.refl _,.refl _,λa q=>.inl q⟩
def Ext.trans(x:Ext B F H)(y:Ext ⟨F,H⟩ F' H'):Ext B F' H':=⟨y.sub,x.sh.trans y.sh,x.sf.trans y.sf,λa q=>by rcases y.nw a q with z |z;exact x.nw a z;exact .inr<|x.sh.free z⟩
def Ext.kf{a:Addr}(y:Ext B F' H')(h1:B.F a=none)(h2:B.H a=some o):F' a=none:=by
 cases q:F' a with
 |none=>rfl
 |some u=>
  rcases y.nw a (by rw[q];exactλz=>nomatch z)with z |z
  exact absurd h1 z;exact nomatch h2.symm.trans z
def Ext.grow{p:Addr}(x:Ext B F H)(hp:H p=none):Ext B (hU F p o) (hU H p o):=⟨IE x.sub,x.sh.trans<|bh hp,x.sf.trans<|bh<|x.sub.free hp,λa q=>by by_cases h:a=p;subst h;exact .inr<|x.sh.free hp;rw[bK h]at q;exact x.nw a q⟩
def Ok.ext(k:Ok K B F H Y U)(y:Ext ⟨F,H⟩ F' H'):Ok K B F' H' Y U:=by refine⟨k.toExt.trans y,k.len,λi d e=>?_,λi xs e=>?_,k.dist,k.UK.to y.sf (λa φ e1 e2 e3=>⟨y.sh _ _ e1,?_⟩) λ_ _ e=>⟨e,rfl⟩⟩;rotate_left 2;exact y.kf e2 e1;let⟨v,h1,h2⟩:=k.vals i d e;exact⟨v,h1,h2.mono y.sf⟩;let⟨a,vs,h1,h2,h3,h4,h5⟩:=k.Us i xs e;refine⟨a,vs,h1,y.sh _ _ h2,?_,h4,h5.mono y.sf⟩;exact y.kf h3 h2
def Ok.Yc{p:Addr}(k:Ok K B F H Y U)(hp:H p=none):Ok K B F (hU H p o) Y U:=k.ext ⟨k.sub.trans<|bh hp,bh hp,.refl _,λa q=>.inl q⟩
def Ub(Y:St)(U:List Sl)(p:Addr):Prop:=∀(i:Nat)xs,U[i]?=some (.own xs)->Y[i]?≠some (some<|.ref p)
def Ok.noOwn{p:Addr}(k:Ok K B F H Y U)(hp:H p=none):Ub Y U p:=λi xs e q=>by let⟨a,vs,h1,h2,_⟩:=k.Us i xs e;rw[h1]at q;cases q;rw[hp]at h2;cases h2
def Ok.freeze{p:Addr}(k:Ok K B F H Y U)(hp:H p=some (.lst vs))(hf:F p=none)(hb:B.H p=none)(hn:Ub Y U p):Ok K B (hU F p<|.lst vs) H Y U:=by
 have sf:TR F (hU F p<|.lst vs):=bh hf;refine⟨⟨λb u q=>?_,k.sh,k.sf.trans sf,λa q=>?_⟩,k.len,λi d e=>?_,λi xs e=>?_,k.dist,k.UK.to sf (λa φ e1 e2 _=>⟨e1,by rwa[bK λz=>by subst z;rw[hp]at e1;cases e1]⟩) λ_ _ e=>⟨e,rfl⟩⟩;by_cases h:b=p;subst h;rw[cf]at q;cases q;exact hp;rw[bK h]at q;exact k.sub b u q;by_cases h:a=p;subst h;exact .inr hb;rw[bK h]at q;exact k.nw a q;let⟨v,h1,h2⟩:=k.vals i d e;exact⟨v,h1,h2.mono sf⟩;let⟨a,ws,h1,h2,h3,h4,h5⟩:=k.Us i xs e;have ne:a≠p:=λz=>by subst z;exact hn i xs e h1
 exact⟨a,ws,h1,h2,by rwa[bK ne],h4,h5.mono sf⟩
def Ok.TM(k:Ok K B F H Y U)(i:Nat)(r:Rep K F v d):Ok K B F H (Y.set i<|some v) (U.set i<|.val d):=by
 refine⟨k.toExt,by rw[cy,cy,k.len],λj e q=>?_,λj xs q=>?_,λj l xs ys a q1 q2 q3 q4=>?_,k.UK.to (.refl _) (λ_ _ e1 e2 _=>⟨e1,e2⟩) (Br λ_ z=>nomatch z)⟩;by_cases h:i=j;subst h;rw[dv]at q;cases z:U[i]? with
 |none=>rw[z]at q;cases q
 |some w=>
  rw[z]at q;cases q;have hi:i<Y.length:=by rw[k.len];exact(aV.mp z).1
  exact⟨v,by rw[bI hi],r⟩
 rw[aS h]at q ⊢;exact k.vals j e q;by_cases h:i=j;subst h;rw[dv]at q;cases z:U[i]? with
 |none=>rw[z]at q;cases q
 |some w=>rw[z]at q;cases q
 rw[aS h]at q ⊢;exact k.Us j xs q;have n1:i≠j:=by
  rintro rfl;rw[dv]at q1;cases z:U[i]? with
  |none=>rw[z]at q1;cases q1
  |some w=>rw[z]at q1;cases q1
 have n2:i≠l:=by
  rintro rfl;rw[dv]at q2;cases z:U[i]? with
  |none=>rw[z]at q2;cases q2
  |some w=>rw[z]at q2;cases q2
 rw[aS n1]at q1 q3;rw[aS n2]at q2 q4;exact k.dist j l xs ys a q1 q2 q3 q4
def Ok.UR{p:Addr}(k:Ok K B F H Y U)(i:Nat)(hp:H p=some (.lst vs))(hf:F p=none)(hb:B.H p=none)(hn:Ub Y U p)(r:TF K F vs ds):Ok K B F H (Y.set i<|some<|.ref p) (U.set i<|.own ds):=by
 refine⟨k.toExt,by rw[cy,cy,k.len],λj e q=>?_,λj xs q=>?_,λj l xs ys a q1 q2 q3 q4=>?_,k.UK.to (.refl _) (λ_ _ e1 e2 _=>⟨e1,e2⟩) (Br λ_ z=>nomatch z)⟩;by_cases h:i=j;subst h;rw[dv]at q;cases z:U[i]? with
 |none=>rw[z]at q;cases q
 |some w=>rw[z]at q;cases q
 rw[aS h]at q ⊢;exact k.vals j e q;by_cases h:i=j;subst h;rw[dv]at q;cases z:U[i]? with
 |none=>rw[z]at q;cases q
 |some w=>
  rw[z]at q;cases q;have hi:i<Y.length:=by rw[k.len];exact(aV.mp z).1
  exact⟨p,vs,by rw[bI hi],hp,hf,hb,r⟩
 rw[aS h]at q ⊢;exact k.Us j xs q;by_cases n1:i=j;by_cases n2:i=l;exact n1.symm.trans n2;subst n1;rw[aS n2]at q2 q4;have hi:i<Y.length:=by have:=(aV.mp q3).1;rw[cy]at this;exact this
 rw[bI hi]at q3;cases q3;exact absurd q4<|hn l ys q2;by_cases n2:i=l;subst n2;rw[aS n1]at q1 q3;have hi:i<Y.length:=by have:=(aV.mp q4).1;rw[cy]at this;exact this
 rw[bI hi]at q4;cases q4;exact absurd q3<|hn j xs q1;rw[aS n1]at q1 q3;rw[aS n2]at q2 q4;exact k.dist j l xs ys a q1 q2 q3 q4
def Ok.Uu{vs:gW}{i:Nat}(k:Ok K B F H Y U)(hi:U[i]?=some (.own xs))(hs:Y[i]?=some (some<|.ref p))(r:TF K F ws ds):Ok K B F (hU H p<|.lst ws) Y (U.set i<|.own ds):=by
 let⟨a,us,h1,h2,h3,h4,h5⟩:=k.Us i xs hi;rw[h1]at hs;cases hs;have Uv:=(aV.mp hi).1;refine⟨⟨λb u q=>?_,λb u q=>?_,k.sf,k.nw⟩,by rw[cy,k.len],λj e q=>?_,λj ys q=>?_,λj l ys zs b q1 q2 q3 q4=>?_,k.UK.to (.refl _) (λb φ e1 e2 _=>⟨by rwa[bK λz=>by subst z;rw[h2]at e1;cases e1],e2⟩) (xI λ_ z=>nomatch z)⟩;have ne:b≠p:=λz=>by subst z;rw[h3]at q;cases q
 rw[bK ne];exact k.sub b u q;have ne:b≠p:=λz=>by subst z;rw[h4]at q;cases q
 rw[bK ne];exact k.sh b u q;by_cases h:i=j;subst h;rw[bI Uv]at q;cases q;rw[aS h]at q;exact k.vals j e q;by_cases h:i=j;subst h;rw[bI Uv]at q;cases q;exact⟨p,ws,h1,cf,h3,h4,r⟩;rw[aS h]at q;let⟨b,YN,g1,g2,g3,g4,g5⟩:=k.Us j ys q;have ne:b≠p:=λz=>by subst z;exact h<|k.dist i j xs ys b hi q h1 g1
 exact⟨b,YN,g1,by rwa[bK ne],g3,g4,g5⟩;have own:∀(m:Nat)ys,(U.set i<|.own ds)[m]?=some (.own ys)->∃zs,U[m]?=some (.own zs):=λm ys q=>by by_cases h:i=m;subst h;exact⟨xs,hi⟩;rw[aS h]at q;exact⟨ys,q⟩
 let⟨y1,z1⟩:=own j ys q1;let⟨y2,z2⟩:=own l zs q2;exact k.dist j l _ _ b z1 z2 q3 q4
def Ok.Wc{i:Nat}(k:Ok K B F H Y U)(hi:U[i]?=some (.own xs)):∃F',TR F F'/\Ok K B F' H Y (U.set i<|.val<|.lst xs):=by
 let⟨a,us,h1,h2,h3,h4,h5⟩:=k.Us i xs hi;have Uv:=(aV.mp hi).1;have sf:TR F (hU F a<|.lst us):=bh h3;have VJ:∀j ys,(U.set i<|.val<|.lst xs)[j]?=some (.own ys)->i≠j/\U[j]?=some (.own ys):=λj ys q=>by by_cases h:i=j;subst h;rw[bI Uv]at q;cases q;rw[aS h]at q;exact⟨h,q⟩
 refine⟨hU F a<|.lst us,sf,⟨λb u q=>?_,k.sh,k.sf.trans sf,λb q=>?_⟩,by rw[cy,k.len],λj e q=>?_,λj ys q=>?_,λj l ys zs b q1 q2 q3 q4=>?_,k.UK.to sf (λb φ e1 e2 _=>⟨e1,by rwa[bK λz=>by subst z;rw[h2]at e1;cases e1]⟩) (xI λ_ z=>nomatch z)⟩;by_cases h:b=a;subst h;rw[cf]at q;cases q;exact h2;rw[bK h]at q;exact k.sub b u q;by_cases h:b=a;subst h;exact .inr h4;rw[bK h]at q;exact k.nw b q;by_cases h:i=j;subst h;rw[bI Uv]at q;cases q;exact⟨_,h1,.lst cf<|h5.mono sf⟩;rw[aS h]at q;let⟨v,g1,g2⟩:=k.vals j e q;exact⟨v,g1,g2.mono sf⟩;let⟨h,q⟩:=VJ j ys q;let⟨b,YN,g1,g2,g3,g4,g5⟩:=k.Us j ys q;have ne:b≠a:=λz=>by subst z;exact h<|k.dist i j xs ys b hi q h1 g1
 exact⟨b,YN,g1,g2,by rwa[bK ne],g4,g5.mono sf⟩;exact k.dist j l _ _ b (VJ j ys q1).2 (VJ l zs q2).2 q3 q4
def Ok.drop(k:Ok K B F H Y U)(i:Nat):Ok K B F H Y (U.set i .un):=by
 have keep:∀(j:Nat)s,(U.set i .un)[j]?=some s->s≠.un->U[j]?=some s:=λj s q hn=>by
  by_cases h:i=j;subst h;rw[dv]at q;cases z:U[i]? with
  |none=>rw[z]at q;cases q
  |some w=>rw[z]at q;cases q;exact absurd rfl hn
  rw[aS h]at q;exact q
 refine⟨k.toExt,by rw[cy,k.len],λj d q=>k.vals j d (keep j _ q λz=>nomatch z),λj xs q=>k.Us j xs (keep j _ q λz=>nomatch z),λj l xs ys a q1 q2=>k.dist j l xs ys a (keep j _ q1 λz=>nomatch z) (keep l _ q2 λz=>nomatch z),k.UK.to (.refl _) (λ_ _ e1 e2 _=>⟨e1,e2⟩) (xI λ_ z=>nomatch z)⟩
end
set_option autoImplicit true
structure wE(X:Cx)(e:Expr)(Y:St)(H:Hp)(Q:VK):Prop where
 go:∀(on:iB)(s:Shared),Inv X on Y H s->ge X (eval e X.env) (EP X on Y Q) X.xe s
instance zD1 {X:Cx} {e:Expr} {Y:St} {H:Hp} {Q:VK}:CoeFun (wE X e Y H Q) (λ_=>∀(on:iB)(s:Shared),Inv X on Y H s->ge X (eval e X.env) (EP X on Y Q) X.xe s):=⟨wE.go⟩
structure wT(X:Cx)(e:Expr)(Y:St)(H:Hp)(Q:(Bool->Hp->Prop)):Prop where
 go:∀(on:iB)(s:Shared),Inv X on Y H s->ge X (isTrue e X.env<|eval e X.env) (TP X on Y Q) X.xe s
instance zDW {X:Cx} {e:Expr} {Y:St} {H:Hp} {Q:Bool->Hp->Prop}:CoeFun (wT X e Y H Q) (λ_=>∀(on:iB)(s:Shared),Inv X on Y H s->ge X (isTrue e X.env<|eval e X.env) (TP X on Y Q) X.xe s):=⟨wT.go⟩
structure wW(X:Cx)(e:Expr)(Y:St)(H:Hp)(Q:(Bool->Hp->Prop)):Prop where
 go:∀(whole:Sem Value)(on:iB)(s:Shared),Inv X on Y H s->ge X (isTrue e X.env whole) (TP X on Y Q) X.xe s
instance zDV {X:Cx} {e:Expr} {Y:St} {H:Hp} {Q:Bool->Hp->Prop}:CoeFun (wW X e Y H Q) (λ_=>∀(whole:Sem Value)(on:iB)(s:Shared),Inv X on Y H s->ge X (isTrue e X.env whole) (TP X on Y Q) X.xe s):=⟨wW.go⟩
structure wA(X:Cx)(es:xu)(Y:St)(H:Hp)(Q:(gW->Hp->Prop)):Prop where
 go:∀(pos:Pos)(on:iB)(s:Shared),Inv X on Y H s->ge X (spliced<|backTo pos<|starEach es X.env) (AP X on Y Q) X.xe s
instance zD2 {X:Cx} {es:xu} {Y:St} {H:Hp} {Q:gW->Hp->Prop}:CoeFun (wA X es Y H Q) (λ_=>∀(pos:Pos)(on:iB)(s:Shared),Inv X on Y H s->ge X (spliced<|backTo pos<|starEach es X.env) (AP X on Y Q) X.xe s):=⟨wA.go⟩
structure wS(X:Cx)(st:Stmt)(D:tP)(Y:St)(H:Hp):Prop where
 go:∀(on:iB)(s:Shared),Inv X on Y H s->ge X (exec st X.env) (SP X on D) X.xe s
instance zDX {X:Cx} {st:Stmt} {D:tP} {Y:St} {H:Hp}:CoeFun (wS X st D Y H) (λ_=>∀(on:iB)(s:Shared),Inv X on Y H s->ge X (exec st X.env) (SP X on D) X.xe s):=⟨wS.go⟩
structure wSs(X:Cx)(st:List Stmt)(D:tP)(Y:St)(H:Hp):Prop where
 go:∀(on:iB)(s:Shared),Inv X on Y H s->ge X (execs st X.env) (SP X on D) X.xe s
instance ZS {X:Cx} {st:List Stmt} {D:tP} {Y:St} {H:Hp}:CoeFun (wSs X st D Y H) (λ_=>∀(on:iB)(s:Shared),Inv X on Y H s->ge X (execs st X.env) (SP X on D) X.xe s):=⟨wSs.go⟩
structure wO(X:Cx)(e:Option Expr)(Y:St)(H:Hp)(Q:(Option Int->Hp->Prop)):Prop where
 go:∀(on:iB)(s:Shared),Inv X on Y H s->ge X (evalPart e X.env) (λu s'=>∃o H',Inv X on Y H' s'/\IsPart u o/\Q o H') X.xe s
instance zDY {X:Cx} {e:Option Expr} {Y:St} {H:Hp} {Q:Option Int->Hp->Prop}:CoeFun (wO X e Y H Q) (λ_=>∀(on:iB)(s:Shared),Inv X on Y H s->ge X (evalPart e X.env) (λu s'=>∃o H',Inv X on Y H' s'/\IsPart u o/\Q o H') X.xe s):=⟨wO.go⟩
structure wG(X:Cx)(e:Expr)(v:V)(Y:St)(H:Hp)(Q:(St->Hp->Prop)):Prop where
 go:∀(on:iB)(s:Shared)(u:Value),Inv X on Y H s->RelV v u->ge X (assign e X.env u) (λ_ s'=>∃T0 H',Inv X on T0 H' s'/\Q T0 H') X.xe s
instance zD0 {X:Cx} {e:Expr} {v:V} {Y:St} {H:Hp} {Q:St->Hp->Prop}:CoeFun (wG X e v Y H Q) (λ_=>∀(on:iB)(s:Shared)(u:Value),Inv X on Y H s->RelV v u->ge X (assign e X.env u) (λ_ s'=>∃T0 H',Inv X on T0 H' s'/\Q T0 H') X.xe s):=⟨wG.go⟩
section
variable {X:Cx}{st:Stmt}{oe:Option Expr}
def bJ:PE X e (wE X e):=λon s _ _ _ I h=>h on s I
def wc:PT X e (wT X e):=λon s _ _ _ I h=>h on s I
def Lm:PW X e (wW X e):=λwh on s _ _ _ I h=>h wh on s I
def E2:PA X es (wA X es):=λpos on s _ _ _ I h=>h pos on s I
def Ls:PS X st (wS X st):=λon s _ _ _ I h=>h on s I
def pJ:Vw X VW (wSs X VW):=λon s _ _ _ I h=>h on s I
def Lz:PO X oe (wO X oe):=λon s _ _ _ I h=>h on s I
def JC:PG X e (wG X e):=λon s _ _ _ u _ I r h=>h on s u I r
end
abbrev fx:=List Sl
def Tz(X:Cx)(U:fx)(e:Expr)(d:D):Prop:=∀(B:B0)(F H:Hp)(Y:St)(Q:VK),Ok X.K B F H Y U->(∀v F' H',Ext ⟨F,H⟩ F' H'->Rep X.K F' v d->Q v H')->wE X e Y H Q
def T1(X:Cx)(U:fx)(e:Expr)(xs:bX):Prop:=∀(B:B0)(F H:Hp)(Y:St)(Q:VK),Ok X.K B F H Y U->(∀p vs F' H',Ext ⟨F,H⟩ F' H'->H p=none->H' p=some (.lst vs)->F' p=none->TF X.K F' vs xs->Q (.ref p) H')->wE X e Y H Q
def Wi(K:gh)(k:Bool)(H:Hp)(a:Addr)(vs:gW):Prop:=if k=true then T9 K H a vs else Ud K H a vs
def UA(X:Cx)(U:fx)(e:Expr)(k:Bool)(xs:bX):Prop:=∀(B:B0)(F H:Hp)(Y:St)(Q:VK),Ok X.K B F H Y U->(∀a vs F' H',Ext ⟨F,H⟩ F' H'->Wi X.K k H' a vs->TF X.K F' vs xs->Q (.ref a) H')->wE X e Y H Q
def TC(X:Cx)(U:fx)(e:Expr)(b:Bool):Prop:=∀(B:B0)(F H:Hp)(Y:St)(Q:Bool->Hp->Prop),Ok X.K B F H Y U->(∀F' H',Ext ⟨F,H⟩ F' H'->Q b H')->wT X e Y H Q
def Uq(X:Cx)(U:fx)(e:Expr)(b:Bool):Prop:=∀(B:B0)(F H:Hp)(Y:St)(Q:Bool->Hp->Prop),Ok X.K B F H Y U->(∀F' H',Ext ⟨F,H⟩ F' H'->Q b H')->wW X e Y H Q
def Pl(e:Expr):Prop:=∀(es:xu)(env:Env),starEach (e::es) env=(false,eval e env)::starEach es env
def WG:xu->Prop|[]=>True|e::es=>Pl e/\WG es
def WG.any{env:Env}:∀{es:xu},WG es->(backTo pos<|starEach es env).any (·.1)=false|[],_=>rfl|e::es,h=>by rw[h.1 es env];show(false||(backTo pos<|starEach es env).any (·.1))=false;rw[WG.any h.2];rfl
def MM(X:Cx)(U:fx)(es:xu)(ds:bX):Prop:=WG es/\∀(B:B0)(F H:Hp)(Y:St)(Q:gW->Hp->Prop),Ok X.K B F H Y U->(∀vs F' H',Ext ⟨F,H⟩ F' H'->TF X.K F' vs ds->Q vs H')->wA X es Y H Q
def PP(X:Cx)(U:fx)(e:Option Expr)(o:Option Int):Prop:=∀(B:B0)(F H:Hp)(Y:St)(Q:Option Int->Hp->Prop),Ok X.K B F H Y U->(∀F' H',Ext ⟨F,H⟩ F' H'->Q o H')->wO X e Y H Q
inductive Out where
 |nx (U:fx) |rt (d:D)
def Vv(K:gh)(B:B0)(F₀:Hp)(E:tP):Out->Prop|.nx U=>∀F H Y,Ok K B F H Y U->TR F₀ F->E.nx Y H|.rt d=>∀v F H,Ext B F H->Rep K F v d->E.rt v H
def Vv.later(h:Vv K B F₀ E o)(s:TR F₀ F₁):Vv K B F₁ E o:=by
 cases o with
 |nx U=>exactλF H Y k s'=>h F H Y k<|s.trans s'
 |rt d=>exact h
def Up(X:Cx)(U:fx)(st:Stmt)(o:Out):Prop:=∀(B:B0)(F H:Hp)(Y:St)(E:tP),Ok X.K B F H Y U->Vv X.K B F E o->wS X st E Y H
def TB(X:Cx)(U:fx)(VW:List Stmt)(o:Out):Prop:=∀(B:B0)(F H:Hp)(Y:St)(E:tP),Ok X.K B F H Y U->Vv X.K B F E o->wSs X VW E Y H
abbrev Go(X:Cx)(N:List Str)(st:Stmt)(C:List D->D->Prop):Prop:=∀ds d,C ds d->TB X (FT N ds) (eo st) (.rt d)
def Vn(X:Cx)(U:fx)(tg:Expr)(d:D)(TW:fx):Prop:=∀(B:B0)(F H:Hp)(Y:St)(v:V)(Q:St->Hp->Prop),Ok X.K B F H Y U->Rep X.K F v d->(∀F' H' T0,Ok X.K B F' H' T0 TW->TR F F'->Q T0 H')->wG X tg v Y H Q
def Uw(X:Cx)(U:fx)(tg:Expr)(d:D)(TW:fx):Prop:=∀(B:B0)(F H:Hp)(Y:St)(v:V)(Q:St->Hp->Prop),Ok X.K B F H Y U->Rep X.K F v d->(∀T0,Ok X.K B F H T0 TW->(∀p,Ub Y U p->Ub T0 TW p)->Q T0 H)->wG X tg v Y H Q
def Ext.t{H:Hp}(x:Ext ⟨F,H⟩ F' H')(y:Ext ⟨F',H'⟩ F2 H2):Ext ⟨F,H⟩ F2 H2:=x.trans y
section
variable {X:Cx}
def Tz.of(h:PE X e t)(r:∀(B:B0)(F H:Hp)(Y:St)(Q:VK),Ok X.K B F H Y U->(∀v F' H',Ext ⟨F,H⟩ F' H'->Rep X.K F' v d->Q v H')->t Y H Q):Tz X U e d:=λB F H Y Q k q=>.mk λon s I=>h on s Y H Q I<|r B F H Y Q k q
def T1.of(h:PE X e t)(r:∀(B:B0)(F H:Hp)(Y:St)(Q:VK),Ok X.K B F H Y U->(∀p vs F' H',Ext ⟨F,H⟩ F' H'->H p=none->H' p=some (.lst vs)->F' p=none->TF X.K F' vs xs->Q (.ref p) H')->t Y H Q):T1 X U e xs:=λB F H Y Q k q=>.mk λon s I=>h on s Y H Q I<|r B F H Y Q k q
def UA.of(h:PE X e t)(r:∀(B:B0)(F H:Hp)(Y:St)(Q:VK),Ok X.K B F H Y U->(∀a vs F' H',Ext ⟨F,H⟩ F' H'->Wi X.K k H' a vs->TF X.K F' vs xs->Q (.ref a) H')->t Y H Q):UA X U e k xs:=λB F H Y Q k q=>.mk λon s I=>h on s Y H Q I<|r B F H Y Q k q
def TC.of{t:TT}(h:PT X e t)(r:∀(B:B0)(F H:Hp)(Y:St)(Q:Bool->Hp->Prop),Ok X.K B F H Y U->(∀F' H',Ext ⟨F,H⟩ F' H'->Q b H')->t Y H Q):TC X U e b:=λB F H Y Q k q=>.mk λon s I=>h on s Y H Q I<|r B F H Y Q k q
def Uq.of{t:TT}(h:PW X e t)(r:∀(B:B0)(F H:Hp)(Y:St)(Q:Bool->Hp->Prop),Ok X.K B F H Y U->(∀F' H',Ext ⟨F,H⟩ F' H'->Q b H')->t Y H Q):Uq X U e b:=λB F H Y Q k q=>.mk λwh on s I=>h wh on s Y H Q I<|r B F H Y Q k q
def Up.of{st:Stmt}(h:PS X st t)(r:∀(B:B0)(F H:Hp)(Y:St)(E:tP),Ok X.K B F H Y U->Vv X.K B F E o->t E Y H):Up X U st o:=λB F H Y E k q=>.mk λon s I=>h on s Y H E I<|r B F H Y E k q
def TB.of(h:Vw X VW t)(r:∀(B:B0)(F H:Hp)(Y:St)(E:tP),Ok X.K B F H Y U->Vv X.K B F E o->t E Y H):TB X U VW o:=λB F H Y E k q=>.mk λon s I=>h on s Y H E I<|r B F H Y E k q
def Vn.of(h:PG X e t)(r:∀(B:B0)(F H:Hp)(Y:St)(v:V)(Q:St->Hp->Prop),Ok X.K B F H Y U->Rep X.K F v d->(∀F' H' T0,Ok X.K B F' H' T0 TW->TR F F'->Q T0 H')->t v Y H Q):Vn X U e d TW:=λB F H Y v Q k rv q=>.mk λon s u I ru=>h on s Y H v u Q I ru<|r B F H Y v Q k rv q
def Uw.of(h:PG X e t)(r:∀(B:B0)(F H:Hp)(Y:St)(v:V)(Q:St->Hp->Prop),Ok X.K B F H Y U->Rep X.K F v d->(∀T0,Ok X.K B F H T0 TW->(∀p,Ub Y U p->Ub T0 TW p)->Q T0 H)->t v Y H Q):Uw X U e d TW:=λB F H Y v Q k rv q=>.mk λon s u I ru=>h on s Y H v u Q I ru<|r B F H Y v Q k rv q
def Ub.TM(h:Ub Y U p)(i:Nat)(v:Option V)(d:D):Ub (Y.set i v) (U.set i<|.val d) p:=λj xs e q=>by
 by_cases hj:i=j;subst hj;rw[dv]at e;cases z:U[i]? with
 |none=>rw[z]at e;cases e
 |some w=>rw[z]at e;cases e
 rw[aS hj]at e q;exact h j xs e q
def Ext.freeze{H:Hp}{p:Addr}(x:Ext ⟨F,H⟩ F' H')(h0:H p=none)(hp:H' p=some (.lst vs))(hf:F' p=none):Ext ⟨F,H⟩ (hU F' p<|.lst vs) H':=⟨λb u q=>by
  by_cases h:b=p;subst h;rw[cf]at q;cases q;exact hp;rw[bK h]at q;exact x.sub b u q,x.sh,x.sf.trans<|bh hf,λa q=>by
  by_cases h:a=p;subst h;exact .inr h0;rw[bK h]at q;exact x.nw a q⟩
def T1.Ux(h:T1 X U e xs):Tz X U e (.lst xs):=λB F H Y Q k q=>h B F H Y Q k λp vs F' H' x h0 hp hf r=>q _ _ _ (x.freeze h0 hp hf)<|.lst cf<|r.mono<|bh hf
def Wi.mono(s:TR H H')(h:Wi K k H a vs):Wi K k H' a vs:=by cases k with|true=>exact s.seq h|false=>rcases h with(h |⟨o,h⟩) |h;exact .inl<|.inl<|s _ _ h;exact .inl<|.inr ⟨o,s _ _ h⟩;exact .inr h
def Tz.ql(h:Tz X U e (.lst xs)):UA X U e true xs:=λB F H Y Q k q=>h B F H Y Q k λv F' H' x r=>by cases r with|lst hf rl=>exact q _ _ _ _ x (T9.of<|x.sub _ _ hf) rl
def Tz.qt(h:Tz X U e (.tup xs)):UA X U e false xs:=λB F H Y Q k q=>h B F H Y Q k λv F' H' x r=>by cases r with|tup hf rl=>exact q _ _ _ _ x (Ud.of<|x.sub _ _ hf) rl
def Tz.qs(h:Tz X U e (.UC ns)):UA X U e true (ns.map D.int):=λB F H Y Q k q=>h B F H Y Q k λv F' H' x r=>by cases r with|UC hs=>exact q _ _ _ _ x (x.sub.seq hs)<|TF.ints ns
def T1.toQ(h:T1 X U e xs):UA X U e true xs:=h.Ux.ql
structure At(X:Cx)(N:dZ)(sc:Scope):Prop where
 eN:X.N=N
 eS:X.env.scope=sc
 calm:X.calm=true
 nd:X.N.Nodup
 VB:X.xe=λ_ _=>False
 un:X.A.units+64<cLine
 dp:X.A.depth+100<recursionLimit
 tree:X.prog.given.tree=none
 fr:∃env l,X.stack=env::l/\env.scope.isGenerator=false/\env.scope.isCoroutine=false/\env.builtins=builtinsNs/\env.globals=mainGlobals
structure WK(X:Cx)(N:dZ)(sc:Scope):Prop where
 eN:X.N=N
 eS:X.env.scope=sc
 nd:X.N.Nodup
 VB:X.xe=λ_ _=>False
 un:X.A.units+64<cLine
 dp:X.A.depth+100<recursionLimit
 tree:X.prog.given.tree=none
 fr:∃env l,X.stack=env::l/\env.scope.isGenerator=false/\env.scope.isCoroutine=false/\env.builtins=builtinsNs/\env.globals=mainGlobals
def At.z{X:Cx}(t:At X N sc):WK X N sc:=⟨t.eN,t.eS,t.nd,t.VB,t.un,t.dp,t.tree,t.fr⟩
def WK.at{X:Cx}(t:WK X N sc)(h:X.calm=true):At X N sc:=⟨t.eN,t.eS,h,t.nd,t.VB,t.un,t.dp,t.tree,t.fr⟩
def Rf(A:Around)(H:Hp):Prop:=∃(ea:Addr)(oe:Obj)(u:HO)(vs:Array Value),A.handled=some (.ref ea)/\H ea=some (.UN oe u)/\oe.data=.fields vs/\vs[2]?=some .none
class VI (X:Cx):Prop where
 fn:∀x,X.fn x=true
def At.pass(a:At X N sc):PassesOwn (model X.prog X.w) X.A X.env X.xe:=by rw[a.VB];exact PassesOwn.never
def oO(sc:Scope)(x:Str):Bool:=match sc.names.lookup x with
 |some .local=>true|some .cell=>true
 |some .free=>true|_=>false
def vC(sc:Scope)(x:Str):Bool:=match sc.names.lookup x with
 |some .local=>true|some .cell=>true
 |_=>false
def NE{x:Str}(h:oO sc x=true):Q5 sc x:=by
 unfold oO at h;cases e:sc.names.lookup x with
 |none=>rw[e]at h;cases h
 |some k=>rw[e]at h;cases k<;>first |exact .inl e |exact .inr (.inl e) |exact .inr (.inr e) |cases h
def OD{x:Str}(h:vC sc x=true):Pw sc x:=by
 unfold vC at h;cases e:sc.names.lookup x with
 |none=>rw[e]at h;cases h
 |some k=>rw[e]at h;cases k<;>first |exact .inl e |exact .inr e |cases h
def ji(x:Str):Bool:=!(x==("__debug__":Str))&& !(x==("__classdict__":Str))
def NZ{i:Nat}(t:At X N sc)(hN:N[i]?=some x)(hv:oO sc x=true)(hx:ji x=true):PE X (.Name x pos) (PZ i):=by unfold ji at hx;rw[br,Bool.not_eq_true',Bool.not_eq_true']at hx;exact Og (by rwa[t.eN]) (by rw[t.eS];exact NE hv) hx.1 hx.2
def aa{U:fx}(t:At X N sc)(i:Nat)(hr:U[i]?=some (.val d):=by rfl)(hN:N[i]?=some x:=by rfl)(hv:oO sc x=true:=by rfl)(hx:ji x=true:=by rfl):Tz X U (.Name x pos) d:=.of (NZ t hN hv hx) λB F H Y Q k q=>by let⟨v,h1,h2⟩:=k.vals i d hr;exact⟨v,h1,q v F H (.refl k.sub) h2⟩
def eE{U:fx}(t:At X N sc)(i:Nat)(hr:U[i]?=some (.own xs))(hN:N[i]?=some x:=by rfl)(hv:oO sc x=true:=by rfl)(hx:ji x=true:=by rfl):UA X U (.Name x pos) true xs:=.of (NZ t hN hv hx) λB F H Y Q k q=>by obtain⟨p,vs,h1,h2,h3,h4,h5⟩:=k.Us i xs hr;exact⟨_,h1,q p vs F H (.refl k.sub) (T9.of h2) h5⟩
def af:Tz X U (.Constant (.int i) j pos) (.int i):=.of Oo λB F H Y Q k q=>q _ F H (.refl k.sub)<|.int i
def sP:Tz X U (.Constant (.bool b) j pos) (.bl b):=.of Qt λB F H Y Q k q=>q _ F H (.refl k.sub)<|.bl b
def iK:Tz X U (.Constant .none j pos) .TN:=.of Om λB F H Y Q k q=>q _ F H (.refl k.sub) .TN
def m6:Tz X U (.Constant (.str x) j pos) (.str x):=.of Oi λB F H Y Q k q=>q _ F H (.refl k.sub)<|.str x
def two(ha:Tz X U a da)(hb:Tz X U b db){R:V->V->Hp->Prop}(k:Ok X.K B F H Y U)(h:∀x y F' H',Ext ⟨F,H⟩ F' H'->Rep X.K F' x da->Rep X.K F' y db->R x y H'):wE X a Y H λx H1=>wE X b Y H1 λy H2=>R x y H2:=ha B F H Y _ k λx F1 H1 x1 r1=>hb B F1 H1 Y _ (k.ext x1) λy F2 H2 x2 r2=>h x y F2 H2 (x1.t x2) (r1.mono x2.sf) r2
def oI{i j m:Int}{C:Int->Int->Prop}{g:Int->Int->Int}(ho:nV X (binaryOp op) (rI C λi j=>.int<|g i j))(ha:Tz X U a (.int i))(hb:Tz X U b (.int j))(hc:C i j)(hm:g i j=m):Tz X U (.BinOp a op b pos) (.int m):=.of (x8 ho bJ bJ) λB F H Y Q k q=>two ha hb k λx y F' H' x' rx ry=>by cases rx;cases ry;subst hm;exact⟨i,j,rfl,rfl,hc,q _ F' H' x'<|.int _⟩
def yS{i j m:Int}{g:Int->Int->Int}(ho:nV X (binaryOp op) (Jn λi j=>.int<|g i j))(ha:Tz X U a (.int i))(hb:Tz X U b (.int j))(hm:g i j=m):Tz X U (.BinOp a op b pos) (.int m):=.of (x8 ho bJ bJ) λB F H Y Q k q=>two ha hb k λx y F' H' x' rx ry=>by cases rx;cases ry;subst hm;exact⟨i,j,rfl,rfl,q _ F' H' x'<|.int _⟩
def cp(ha:Tz X U a (.int i))(hb:Tz X U b (.int j)):Tz X U (.BinOp a .Add b pos) (.int<|i+j):=yS Oy ha hb rfl
def dD(ha:Tz X U a (.int i))(hb:Tz X U b (.int j)):Tz X U (.BinOp a .Sub b pos) (.int<|i-j):=yS Op ha hb rfl
def LJ:nV X (binaryOp .Mult) (rI IntMulOk λi j=>.int<|i*j):=No λ_ _ _ _ _ _ _ hc q=>mul_int q hc
def At.VY(t:At X N sc)(I:Inv X on Y H s):PylongRoom (model X.prog X.w) X.A s:=by let⟨env,l,h1,h2,h3,h4,h5⟩:=t.fr;exact PylongRoom.of I.nolimit t.dp<|SeerAt.of (I.ok.mod.seer.keeps I.bk) t.tree (by rw[I.ok.frames,h1]) h2 h3 h4 h5
def Gs(t:At X N sc):nV X (binaryOp .FloorDiv) (rI (λ_ j=>j≠0) λi j=>.int<|i.fdiv j):=by intro on s Y H x y v u Q I rx ry h;obtain⟨i,j,rfl,rfl,hc,q⟩:=h;obtain⟨t1,rfl⟩:=rx;obtain⟨t2,rfl⟩:=ry;exact floordiv_int hc ⟨.int<|i.fdiv j,H,I.tok _,⟨_,rfl⟩,q⟩<|.inr<|t.VY I
def bc(ha:Tz X U a (.int i))(hb:Tz X U b (.int j))(hc:IntMulOk i j):Tz X U (.BinOp a .Mult b pos) (.int<|i*j):=oI LJ ha hb hc rfl
def tj(t:At X N sc)(ha:Tz X U a (.int i))(hb:Tz X U b (.int j))(h0:j≠0):Tz X U (.BinOp a .FloorDiv b pos) (.int<|i.fdiv j):=oI (Gs t) ha hb h0 rfl
def gv(t:At X N sc)(ha:Tz X U a (.int i))(hb:Tz X U b (.int j))(h0:0<j:=by decide):Tz X U (.BinOp a .FloorDiv b pos) (.int<|i / j):=oI (Gs t) ha hb (by lia)<|tW i<|by lia
def bN(ha:Tz X U a (.int i))(hb:Tz X U b (.int j))(h0:0<j:=by decide):Tz X U (.BinOp a .Mod b pos) (.int<|i%j):=oI Ov ha hb h0 rfl
def Kf(ha:Tz X U a (.int i))(hb:Tz X U b (.int j))(h0:KM i j):Tz X U (.BinOp a .Pow b pos) (.int<|i ^ j.toNat):=oI Ou ha hb h0 rfl
def dy(ha:Tz X U a (.int i)):Tz X U (.UnaryOp .USub a pos) (.int (-i)):=.of (Qs NG bJ) λB F H Y Q k q=>ha B F H Y _ k λx F' H' x' rx=>by cases rx;exact⟨i,rfl,q _ F' H' x'<|.int _⟩
def B9{i j:Int}{op:CmpOp}{g:Int->Int->Bool}(ho:nV X (compareOp op) (Jn λi j=>.bl<|g i j))(ha:Tz X U a (.int i))(hb:Tz X U b (.int j))(hm:behindInMarks op b=false):Tz X U (.Compare a [op] [b] pos) (.bl<|g i j):=.of (rB ho bJ bJ hm) λB F H Y Q k q=>two ha hb k λx y F' H' x' rx ry=>by cases rx;cases ry;exact⟨i,j,rfl,rfl,q _ F' H' x'<|.bl _⟩
def GJ(ha:Tz X U a (.int i))(hb:Tz X U b (.int j)):Tz X U (.Compare a [.Lt] [b] pos) (.bl<|decide<|i<j):=B9 Nk ha hb<|ei _<|by decide
def GL(ha:Tz X U a (.int i))(hb:Tz X U b (.int j)):Tz X U (.Compare a [.Gt] [b] pos) (.bl<|decide<|j<i):=B9 Nl ha hb<|ei _<|by decide
def QX(ha:Tz X U a (.int i))(hb:Tz X U b (.int j)):Tz X U (.Compare a [.GtE] [b] pos) (.bl<|decide<|j<=i):=B9 Nm ha hb<|ei _<|by decide
end
mutual
def ke:D->PyData
 |.TN=>.none|.bl b=>.bool b
 |.int i=>.int i|.str x=>.str x
 |.tup xs=>.tuple (TZ xs)|.lst xs=>.list<|TZ xs
 |.UC ns=>.list (ns.map PyData.int)|.exc _=>.dict []
 |.VN _ _=>.dict []|.UK _=>.dict []
 |.adr _=>.dict []|.Wj _=>.dict []
def TZ:bX->List PyData|[]=>[]|d::ds=>ke d::TZ ds
end
def IL(xs:bX):TZ xs=xs.map ke:=by induction xs with|nil=>rfl|cons d ds ih=>rw[TZ,ih,eG]
def lH(ns:aG):TZ (ns.map D.int)=ns.map PyData.int:=by rw[IL,cX];rfl
section
variable {X:Cx}
theorem AV{s:Shared}:∀{ns:aG}{us:jw},Vals (ns.map V.int) us->∃as,ReadsAll s.heap us (ns.map PyData.int) as
 |[],_,r=>by cases r;exact⟨_,.nil⟩
 |n::ns,_,r=>by rw[eG]at r;cases r with|cons r1 r2=>obtain⟨as,h⟩:=AV r2;obtain⟨t,rfl⟩:=r1;exact⟨_,.cons (Reads.int n t) h⟩
mutual
def Rep.reads(I:Inv X on Y H s)(sub:TR F H):∀{v:V}{d:D}{u:Value},Rep X.K F v d->RelV v u->(ke d).canLay0=true->∃as,Reads s.heap u (ke d) as
 |_,_,u,.TN,r,hs=>by cases(r);exact⟨_,Reads.none⟩
 |_,_,u,.bl b,r,hs=>by cases(r);exact⟨_,Reads.bool b⟩
 |_,_,u,.int i,r,hs=>by let⟨t,e⟩:=(r);cases e;exact⟨_,Reads.int i t⟩
 |_,_,u,.str x,r,hs=>by let⟨t,e⟩:=(r);cases e;exact⟨_,Reads.str x t⟩
 |_,_,u,.tup h rl,r,hs=>by cases(r);let⟨its,rv,p,_⟩:=I.tuple<|Ud.of<|sub _ _ h;let⟨o,e,c,n,dt⟩:=p;let⟨as,ra⟩:=TF.reads I sub rl rv (by simpa[ke,PyData.canLay0]using hs);exact⟨_,Reads.tuple e c dt ra⟩
 |_,_,u,.lst h rl,r,hs=>by cases(r);let⟨its,rv,p,_⟩:=I.list<|T9.of<|sub _ _ h;let⟨o,e,c,n,dt⟩:=p.isList;let⟨as,ra⟩:=TF.reads I sub rl rv (by simpa[ke,PyData.canLay0]using hs);exact⟨_,Reads.list e c dt ra⟩
 |_,_,u,.exc h,r,hs=>by simp[ke,PyData.canLay0]at hs|_,_,u,.VN h,r,hs=>by simp[ke,PyData.canLay0]at hs
 |_,_,u,.UK h _,r,hs=>by simp[ke,PyData.canLay0]at hs|_,_,u,.adr _,r,hs=>by simp[ke,PyData.canLay0]at hs
 |_,_,u,.Wj _,r,hs=>by simp[ke,PyData.canLay0]at hs|_,_,u,.UC h,r,hs=>by cases(r);let⟨its,rv,p,_⟩:=I.list<|sub.seq h;let⟨o,e,c,n,dt⟩:=p.isList;let⟨as,ra⟩:=AV (s:=s) rv;exact⟨_,Reads.list e c dt ra⟩
def TF.reads(I:Inv X on Y H s)(sub:TR F H):∀{vs:gW}{ds:bX}{us:jw},TF X.K F vs ds->Vals vs us->PyData.canLayAll0 (TZ ds)=true->∃as,ReadsAll s.heap us (TZ ds) as
 |_,_,_,.nil,r,hs=>by cases r;exact⟨_,.nil⟩
 |_,_,_,.cons r1 r2,r,hs=>by cases r with|cons q1 q2=>rw[TZ,PyData.canLayAll0,br]at hs;have Vh:=hs;let⟨as,h1⟩:=Rep.reads I sub r1 q1 Vh.1;let⟨bs,h2⟩:=TF.reads I sub r2 q2 Vh.2;exact⟨_,.cons h1 h2⟩
end
def Wi.reads(I:Inv X on Y H s)(sub:TR F H)(h:Wi X.K k H a vs)(r:TF X.K F vs xs)(hs:(if k=true then PyData.list (TZ xs)else .tuple<|TZ xs).canLay0=true):∃as,Reads s.heap (.ref a) (if k=true then PyData.list (TZ xs)else .tuple<|TZ xs) as:=by cases k with|true=>let⟨its,rv,p,_⟩:=I.list<|h;let⟨o,e,c,n,dt⟩:=p.isList;let⟨as,ra⟩:=TF.reads I sub r rv (by simpa[PyData.canLay0]using hs);exact⟨_,Reads.list e c dt ra⟩|false=>let⟨its,rv,p,_⟩:=I.tuple<|h;let⟨o,e,c,n,dt⟩:=p;let⟨as,ra⟩:=TF.reads I sub r rv (by simpa[PyData.canLay0]using hs);exact⟨_,Reads.tuple e c dt ra⟩
end
def VU(X:Cx)(H:Hp)(v:V)(p:PyData):Prop:=p.canLay0=true->∀(H':Hp),TR H H'->∀(on:iB)(Y:St)(s:Shared)(u:Value),Inv X on Y H' s->RelV v u->∃as,Reads s.heap u p as
def KU(X:Cx)(U:fx)(e:Expr)(p:PyData):Prop:=∀(B:B0)(F H:Hp)(Y:St)(Q:VK),Ok X.K B F H Y U->(∀v F' H',Ext ⟨F,H⟩ F' H'->VU X H' v p->Q v H')->wE X e Y H Q
section
variable {X:Cx}
def Tz.p(h:Tz X U e d):KU X U e (ke d):=λB F H Y Q k q=>h B F H Y Q k λv F' H' x r=>q v F' H' x λhs H2 s2 on Y s u I ru=>r.reads I (x.sub.trans s2) ru hs
def UA.p(h:UA X U e k xs):KU X U e (if k=true then PyData.list (TZ xs)else .tuple<|TZ xs):=λB F H Y Q k' q=>h B F H Y Q k' λa vs F' H' x hs r=>q _ F' H' x λhc H2 s2 on Y s u I ru=>by cases(ru);exact Wi.reads I (x.sub.trans s2) (hs.mono s2) r hc
def M6{p q:PyData}(t:At X N sc)(sp:SeqAt.shaped p=true)(sq:SeqAt.shaped q=true):nV X (compareOp .Eq) (λx y H Q=>VU X H x p/\VU X H y q/\Q (.bl<|p.eqv q) H):=by intro on s Y H x y v u Q I rx ry h;let⟨h1,h2,h3⟩:=h;let⟨as,r1⟩:=h1 (pQ sp) H (.refl _) on Y s v I rx;let⟨bs,r2⟩:=h2 (pQ sq) H (.refl _) on Y s u I ry;exact eq_dataH r1 r2 sp sq t.un ⟨.bl _,H,I,rfl,h3⟩
def Qm{p q:PyData}(t:At X N sc)(sp:SeqAt.shaped p=true)(sq:SeqAt.shaped q=true):nV X (compareOp .NotEq) (λx y H Q=>VU X H x p/\VU X H y q/\Q (.bl (!p.eqv q)) H):=by intro on s Y H x y v u Q I rx ry h;let⟨h1,h2,h3⟩:=h;let⟨as,r1⟩:=h1 (pQ sp) H (.refl _) on Y s v I rx;let⟨bs,r2⟩:=h2 (pQ sq) H (.refl _) on Y s u I ry;exact ne_dataH r1 r2 sp sq t.un ⟨.bl _,H,I,rfl,h3⟩
def VU.mono(h:VU X H v p)(s:TR H H'):VU X H' v p:=λhc H2 s2=>h hc H2<|s.trans s2
def K0(ha:KU X U a p)(hb:KU X U b q){R:V->V->Hp->Prop}(k:Ok X.K B F H Y U)(h:∀x y F' H',Ext ⟨F,H⟩ F' H'->VU X H' x p->VU X H' y q->R x y H'):wE X a Y H λx H1=>wE X b Y H1 λy H2=>R x y H2:=ha B F H Y _ k λx F1 H1 x1 r1=>hb B F1 H1 Y _ (k.ext x1) λy F2 H2 x2 r2=>h x y F2 H2 (x1.t x2) (r1.mono x2.sh) r2
def u9{r:Bool}(t:At X N sc)(ha:KU X U a p)(hb:KU X U b q)(sp:SeqAt.shaped p=true)(sq:SeqAt.shaped q=true)(hr:p.eqv q=r):Tz X U (.Compare a [.Eq] [b] pos) (.bl r):=.of (rB (M6 t sp sq) bJ bJ<|ei _<|by decide) λB F H Y Q k q=>K0 ha hb k λx y F' H' x' rx ry=>⟨rx,ry,by rw[hr];exact q _ F' H' x'<|.bl r⟩
def jd(t:At X N sc)(ha:Tz X U a (.int i))(hb:Tz X U b (.int j)):Tz X U (.Compare a [.Eq] [b] pos) (.bl<|decide<|i=j):=.of (rB Nn bJ bJ<|ei _<|by decide) λB F H Y Q k q=>two ha hb k λx y F' H' x' rx ry=>by
  cases rx;cases ry;refine⟨rfl,?_⟩;have e:decide (V.int i=V.int j)=decide (i=j):=by rw[uB,AC]
  rw[e];exact q _ F' H' x'<|.bl _
def Kj(t:At X N sc)(ha:Tz X U a (.int i))(hb:Tz X U b (.int j)):Tz X U (.Compare a [.NotEq] [b] pos) (.bl (!decide (i=j))):=.of (rB Nj bJ bJ<|ei _<|by decide) λB F H Y Q k q=>two ha hb k λx y F' H' x' rx ry=>by
  cases rx;cases ry;refine⟨rfl,?_⟩;have e:decide (V.int i=V.int j)=decide (i=j):=by rw[uB,AC]
  rw[e];exact q _ F' H' x'<|.bl _
def TF.at{i:Int}(r:TF K F vs xs)(h:tZ xs i=some d):∃v,tZ vs i=some v/\Rep K F v d:=by
 unfold tZ at h ⊢;rw[r.length];cases e:CM xs.length i with
 |none=>rw[e]at h;cases h
 |some j=>rw[e]at h;let⟨v,h1,h2⟩:=r.get h;exact⟨v,h1,h2⟩
def qe(ha:UA X U a k xs)(hb:Tz X U b db){R:V->V->Hp->Prop}(k':Ok X.K B F H Y U)(h:∀l vs y F' H',Ext ⟨F,H⟩ F' H'->Wi X.K k H' l vs->TF X.K F' vs xs->Rep X.K F' y db->R (.ref l) y H'):wE X a Y H λx H1=>wE X b Y H1 λy H2=>R x y H2:=ha B F H Y _ k' λl vs F1 H1 x1 s1 r1=>hb B F1 H1 Y _ (k'.ext x1) λy F2 H2 x2 r2=>h l vs y F2 H2 (x1.t x2) (s1.mono x2.sh) (r1.mono x2.sf) r2
def aF(ha:UA X U a k xs)(hb:Tz X U b (.int i))(h:tZ xs i=some d:=by rfl)(hs:Cw b:=by intro _ _;rfl):Tz X U (.Subscript a b pos) d:=by
 cases k with
 |true=>exact .of (Nf L5 bJ bJ hs) λB F H Y Q k' q=>qe ha hb k' λl vs y F' H' x' sl rl ry=>by cases ry;let⟨v,h1,h2⟩:=rl.at h;exact⟨l,vs,i,v,rfl,rfl,sl,h1,q v F' H' x' h2⟩
 |false=>exact .of (Nf OM bJ bJ hs) λB F H Y Q k' q=>qe ha hb k' λl vs y F' H' x' sl rl ry=>by cases ry;let⟨v,h1,h2⟩:=rl.at h;exact⟨l,vs,i,v,rfl,rfl,sl,h1,q v F' H' x' h2⟩
def rH:PP X U none none:=λB F H Y Q k q=>.mk λon s I=>LB on s Y H Q I<|q F H<|.refl k.sub
def rG(h:Tz X U e (.int i)):PP X U (some e) (some i):=λB F H Y Q k q=>.mk λon s I=>LA bJ on s Y H Q I (h B F H Y _ k λv F' H' x r=>by cases r;exact⟨i,rfl,q F' H' x⟩)
def HP(xs:bX)(lo hi:Option Int):bX:=(xs.drop<|HT.T4 xs.length 0 lo).take<|HT.T4 xs.length xs.length hi-HT.T4 xs.length 0 lo
def TF.cut(r:TF K F vs xs)(lo hi:Option Int):TF K F (D7 vs lo hi) (HP xs lo hi):=by unfold D7 HP;rw[r.length];exact(r.drop _).take _
def xk{lo hi:Option Expr}{l h:Option Int}(ha:UA X U a true xs)(hl:PP X U lo l)(hh:PP X U hi h):T1 X U (.Subscript a (.Slice lo hi none p2) pos) (HP xs l h):=.of (Do K8 bJ Lz Lz) λB F H Y Q k q=>ha B F H Y _ k λp vs F1 H1 x1 s1 r1=>hl B F1 H1 Y _ (k.ext x1) λF2 H2 x2=>hh B F2 H2 Y _ (k.ext<|x1.t x2) λF3 H3 x3=>by have x:=x1.t<|x2.t x3;refine⟨p,vs,rfl,(s1.mono x2.sh).mono x3.sh,λl' Wy=>?_⟩;exact q l' _ F3 _ ⟨x.sub.trans<|bh Wy,x.sh.trans<|bh Wy,x.sf,x.nw⟩ (x.sh.free Wy) cf (x.sub.free Wy)<|((r1.mono x2.sf).mono x3.sf).cut l h
def Mj{lo hi:Option Expr}{l h:Option Int}(ha:UA X U a false xs)(hl:PP X U lo l)(hh:PP X U hi h)(hw:¬(HT.T4 xs.length 0 l=0/\HT.T4 xs.length xs.length h=xs.length)):Tz X U (.Subscript a (.Slice lo hi none p2) pos) (.tup<|HP xs l h):=.of (Do NL bJ Lz Lz) λB F H Y Q k q=>ha B F H Y _ k λp vs F1 H1 x1 s1 r1=>hl B F1 H1 Y _ (k.ext x1) λF2 H2 x2=>hh B F2 H2 Y _ (k.ext<|x1.t x2) λF3 H3 x3=>by have x:=x1.t<|x2.t x3;have r3:=(r1.mono x2.sf).mono x3.sf;refine⟨p,vs,rfl,(s1.mono x2.sh).mono x3.sh,by rwa[r3.length],λl' Wy=>?_⟩;exact q _ _ _ (x.grow Wy)<|.tup cf<|(r3.cut l h).mono<|bh<|x.sub.free Wy
def ai:MM X U [] []:=⟨trivial,λB F H Y Q k q=>.mk λpos on s I=>fz pos on s Y H Q I<|q [] F H (.refl k.sub) .nil⟩
def ac(h1:Tz X U e d)(h2:MM X U es ds)(hs:Pl e:=by intro _ _;rfl):MM X U (e::es) (d::ds):=⟨⟨hs,h2.1⟩,λB F H Y Q k q=>.mk λpos on s I=>bY bJ E2 (hs _ _) pos on s Y H Q I (h1 B F H Y _ k λv F1 H1 x1 r1=>h2.2 B F1 H1 Y _ (k.ext x1) λvs F2 H2 x2 r2=>q _ F2 H2 (x1.t x2)<|.cons (r1.mono x2.sf) r2)⟩
def bw(h:MM X U es ds)(hl:ds.length<=sizeLine:=by exact bP rfl):Tz X U (.Tuple es x1 pos) (.tup ds):=.of (Oh E2) λB F H Y Q k q=>h.2 B F H Y _ k λvs F' H' x r=>⟨by rwa[r.length],λp hp=>q _ _ _ (x.grow hp)<|.tup cf<|r.mono<|bh<|x.sub.free hp⟩
def fk(h:MM X U es ds)(hl:ds.length<=sizeLine:=by exact bP rfl):T1 X U (.List es pos) ds:=.of (On E2) λB F H Y Q k q=>h.2 B F H Y _ k λvs F' H' x r=>⟨by rwa[r.length],λp hp=>q p vs F' _ ⟨x.sub.trans<|bh hp,x.sh.trans<|bh hp,x.sf,x.nw⟩ (x.sh.free hp) cf (x.sub.free hp) r⟩
def yU(ha:Tz X U a (.lst xs))(hb:Tz X U b (.lst ys))(hz:xs.length+ys.length<=sizeLine):T1 X U (.BinOp a .Add b pos) (xs++ys):=.of (x8 Ow bJ bJ) λB F H Y Q k q=>two ha hb k λx y F' H' x' rx ry=>by cases rx with|lst h1 r1=>cases ry with|lst h2 r2=>refine⟨_,_,_,_,rfl,rfl,x'.sub _ _ h1,x'.sub _ _ h2,by rwa[r1.length,r2.length],λp hp=>?_⟩;exact q p _ F' _ ⟨x'.sub.trans<|bh hp,x'.sh.trans<|bh hp,x'.sf,x'.nw⟩ (x'.sh.free hp) cf (x'.sub.free hp)<|r1.append r2
def Pb(ha:Tz X U a (.lst xs))(hb:Tz X U b (.int n))(h1: -(2 ^ 63)<=n)(h2:n<2 ^ 63)(hz:xs.length*n.toNat<=sizeLine):T1 X U (.BinOp a .Mult b pos) (List.replicate n.toNat xs).flatten:=.of (x8 Ot bJ bJ) λB F H Y Q k q=>two ha hb k λx y F' H' x' rx ry=>by cases rx with|lst g1 r1=>cases ry;refine⟨_,n,_,rfl,rfl,x'.sub _ _ g1,h1,h2,by rwa[r1.length],λp hp=>?_⟩;exact q p _ F' _ ⟨x'.sub.trans<|bh hp,x'.sh.trans<|bh hp,x'.sf,x'.nw⟩ (x'.sh.free hp) cf (x'.sub.free hp)<|r1.rep _
def rF(ha:TC X U a r):Uq X U (.BoolOp .And [a] pos) r:=.of (Lp wc) λB F H Y Q k q=>ha B F H Y Q k q
def oG(ha:TC X U a r):Uq X U (.BoolOp .Or [a] pos) r:=.of (NY wc) λB F H Y Q k q=>ha B F H Y Q k q
def mX{rest:xu}(ha:TC X U a true)(hb:Uq X U (.BoolOp .And (b::rest) pos) r):Uq X U (.BoolOp .And (a::b::rest) pos) r:=.of (Jp wc Lm) λB F H Y Q k q=>ha B F H Y _ k λF1 H1 x1=>by rw[am rfl];exact hb B F1 H1 Y _ (k.ext x1) λF2 H2 x2=>q F2 H2<|x1.t x2
def rE{rest:xu}(ha:TC X U a false):Uq X U (.BoolOp .And (a::b::rest) pos) false:=.of (Jp wc Lm) λB F H Y Q k q=>ha B F H Y _ k λF1 H1 x1=>by rw[ap aK];exact q F1 H1 x1
def jD{rest:xu}(ha:TC X U a false)(hb:Uq X U (.BoolOp .Or (b::rest) pos) r):Uq X U (.BoolOp .Or (a::b::rest) pos) r:=.of (M8 wc Lm) λB F H Y Q k q=>ha B F H Y _ k λF1 H1 x1=>by rw[ap aK];exact hb B F1 H1 Y _ (k.ext x1) λF2 H2 x2=>q F2 H2<|x1.t x2
def yP{rest:xu}(ha:TC X U a true):Uq X U (.BoolOp .Or (a::b::rest) pos) true:=.of (M8 wc Lm) λB F H Y Q k q=>ha B F H Y _ k λF1 H1 x1=>by rw[am rfl];exact q F1 H1 x1
def Uq.toT(h:Uq X U e r):TC X U e r:=λB F H Y Q k q=>.mk λon s I=>h B F H Y Q k q _ on s I
def fj(ha:TC X U a r):TC X U (.UnaryOp .Not a pos) (!r):=.of (N1 wc) λB F H Y Q k q=>ha B F H Y _ k q
def u8{op:BoolOp}(h:Tz X U a d):Tz X U (.BoolOp op [a] pos) d:=.of (Oj bJ) λB F H Y Q k q=>h B F H Y Q k q
def oJ{rest:xu}(ha:Tz X U a (.bl true))(hb:Tz X U (.BoolOp .And (b::rest) pos) d):Tz X U (.BoolOp .And (a::b::rest) pos) d:=.of (JD bJ bJ) λB F H Y Q k q=>ha B F H Y _ k λv F1 H1 x1 r=>by cases r;exact⟨true,rfl,by rw[am rfl];exact hb B F1 H1 Y _ (k.ext x1) λv F2 H2 x2 r2=>q v F2 H2 (x1.t x2) r2⟩
def xl{rest:xu}(ha:Tz X U a (.bl false)):Tz X U (.BoolOp .And (a::b::rest) pos) (.bl false):=.of (JD bJ bJ) λB F H Y Q k q=>ha B F H Y _ k λv F1 H1 x1 r=>by cases r;exact⟨false,rfl,by rw[ap aK];exact q _ F1 H1 x1<|.bl false⟩
def Ff{rest:xu}(ha:Tz X U a (.bl false))(hb:Tz X U (.BoolOp .Or (b::rest) pos) d):Tz X U (.BoolOp .Or (a::b::rest) pos) d:=.of (Nd bJ bJ) λB F H Y Q k q=>ha B F H Y _ k λv F1 H1 x1 r=>by cases r;exact⟨false,rfl,by rw[ap aK];exact hb B F1 H1 Y _ (k.ext x1) λv F2 H2 x2 r2=>q v F2 H2 (x1.t x2) r2⟩
def Kg{rest:xu}(ha:Tz X U a (.bl true)):Tz X U (.BoolOp .Or (a::b::rest) pos) (.bl true):=.of (Nd bJ bJ) λB F H Y Q k q=>ha B F H Y _ k λv F1 H1 x1 r=>by cases r;exact⟨true,rfl,by rw[am rfl];exact q _ F1 H1 x1<|.bl true⟩
def GI(ha:Tz X U a (.bl r)):Tz X U (.UnaryOp .Not a pos) (.bl (!r)):=.of (Ol bJ) λB F H Y Q k q=>ha B F H Y _ k λv F1 H1 x1 rv=>by cases rv;exact⟨r,rfl,q _ F1 H1 x1<|.bl _⟩
def kF(hc:TC X U c true)(ha:Tz X U a d):Tz X U (.IfExp c a b pos) d:=.of (Dp wc bJ bJ) λB F H Y Q k q=>hc B F H Y _ k λF1 H1 x1=>by rw[am rfl];exact ha B F1 H1 Y _ (k.ext x1) λv F2 H2 x2 r2=>q v F2 H2 (x1.t x2) r2
def iL(hc:TC X U c false)(hb:Tz X U b d):Tz X U (.IfExp c a b pos) d:=.of (Dp wc bJ bJ) λB F H Y Q k q=>hc B F H Y _ k λF1 H1 x1=>by rw[ap aK];exact hb B F1 H1 Y _ (k.ext x1) λv F2 H2 x2 r2=>q v F2 H2 (x1.t x2) r2
def O7(ha:Tz X U e (.int i))(he:∀whole,isTrue e X.env whole=(do let v <-whole;standAt e.pos;holding [v] (truthy v)):=by intro _;rfl):TC X U e (i !=0):=.of (Jq bJ he) λB F H Y Q k q=>ha B F H Y _ k λv F1 H1 x1 r=>by cases r;exact⟨_,rfl,q F1 H1 x1⟩
def dC(ha:Tz X U e (.bl r))(he:∀whole,isTrue e X.env whole=(do let v <-whole;standAt e.pos;holding [v] (truthy v)):=by intro _;rfl):TC X U e r:=.of (N0 bJ he) λB F H Y Q k q=>ha B F H Y _ k λv F1 H1 x1 rv=>by cases rv;exact⟨r,rfl,q F1 H1 x1⟩
end
section
variable {X:Cx}
def qC{op:CmpOp}{r:R2}(ho:nV X (compareOp op) r)(ha:Tz X U a da)(hb:Tz X U b db)(hm:behindInMarks op b=false)(hr:∀(F H:Hp)x y(Q:VK),Rep X.K F x da->Rep X.K F y db->Q (.bl k) H->r x y H Q):TC X U (.Compare a [op] [b] pos) k:=.of (w9 ho bJ bJ hm) λB F H Y Q k' q=>two ha hb k' λx y F' H' x' rx ry=>hr F' H' x y _ rx ry ⟨k,rfl,q F' H' x'⟩
def iC(ha:Tz X U a (.int i))(hb:Tz X U b (.int j)):TC X U (.Compare a [.Lt] [b] pos) (decide<|i<j):=qC Nk ha hb (ei _<|by decide) λF H x y Q rx ry q=>by cases rx;cases ry;exact⟨i,j,rfl,rfl,q⟩
def Nz(ha:Tz X U a (.int i))(hb:Tz X U b (.int j)):TC X U (.Compare a [.LtE] [b] pos) (decide<|i<=j):=qC Qu ha hb (ei _<|by decide) λF H x y Q rx ry q=>by cases rx;cases ry;exact⟨i,j,rfl,rfl,q⟩
def qB(ha:Tz X U a (.int i))(hb:Tz X U b (.int j)):TC X U (.Compare a [.Gt] [b] pos) (decide<|j<i):=qC Nl ha hb (ei _<|by decide) λF H x y Q rx ry q=>by cases rx;cases ry;exact⟨i,j,rfl,rfl,q⟩
def GN(ha:Tz X U a (.int i))(hb:Tz X U b (.int j)):TC X U (.Compare a [.GtE] [b] pos) (decide<|j<=i):=qC Nm ha hb (ei _<|by decide) λF H x y Q rx ry q=>by cases rx;cases ry;exact⟨i,j,rfl,rfl,q⟩
def D4{i:Int}:decide (V.int i=V.int j)=decide (i=j):=by rw[uB,AC]
def c6(ha:Tz X U a (.int i))(hb:Tz X U b (.int j)):TC X U (.Compare a [.Eq] [b] pos) (decide<|i=j):=qC Nn ha hb (ei _<|by decide) λF H x y Q rx ry q=>by cases rx;cases ry;exact⟨rfl,by rwa[D4]⟩
def qA(ha:Tz X U a (.int i))(hb:Tz X U b (.int j)):TC X U (.Compare a [.NotEq] [b] pos) (!decide (i=j)):=qC Nj ha hb (ei _<|by decide) λF H x y Q rx ry q=>by cases rx;cases ry;exact⟨rfl,by rwa[D4]⟩
def tq{r:Bool}(t:At X N sc)(ha:KU X U a p)(hb:KU X U b q)(sp:SeqAt.shaped p=true)(sq:SeqAt.shaped q=true)(hr:p.eqv q=r):TC X U (.Compare a [.Eq] [b] pos) r:=.of (w9 (M6 t sp sq) bJ bJ<|ei _<|by decide) λB F H Y Q k q=>K0 ha hb k λx y F' H' x' rx ry=>⟨rx,ry,r,by rw[hr],q F' H' x'⟩
def je{r:Bool}(t:At X N sc)(ha:KU X U a p)(hb:KU X U b q)(sp:SeqAt.shaped p=true)(sq:SeqAt.shaped q=true)(hr:(!p.eqv q)=r):TC X U (.Compare a [.NotEq] [b] pos) r:=.of (w9 (Qm t sp sq) bJ bJ<|ei _<|by decide) λB F H Y Q k q=>K0 ha hb k λx y F' H' x' rx ry=>⟨rx,ry,r,by rw[hr],q F' H' x'⟩
structure so(X:Cx)(sc:Scope)(x:Str)(u:Value):Prop where
 g:ND sc x
 m:X.mg x=none
 v:bootBuiltins x=some u
 n:x≠"__name__"
 d:FU x
def ik(t:At X N sc)(h:ND sc x):Gl X x:=by show X.env.scope.names.lookup x=_;rwa[t.eS]
def yR{id:String}(t:At X N sc){r:gW->Hp->VK->Prop}(bl:so X sc x (.builtin id))(hc:kr X (.builtin id) r)(ha:MM X U (e::es) ds)(hr:∀(F H:Hp)vs(Q:VK),TR F H->TF X.K F vs ds->(∀v F' H',Ext ⟨F,H⟩ F' H'->Rep X.K F' v d->Q v H')->r vs H Q):Tz X U (.Call (.Name x p) (e::es) [] pos) d:=.of (kn hc (ik t bl.g) bl.m bl.v E2 bl.n bl.d (ha.1.1 _ _)<|WG.any ha.1.2) λB F H Y Q k q=>ha.2 B F H Y _ k λvs F' H' x' rv=>hr F' H' vs Q x'.sub rv λv F2 H2 x2 r2=>q v F2 H2 (x'.t x2) r2
def HI(t:At X N sc){r:gW->Hp->VK->Prop}(bl:so X sc x (.type T))(hc:kr X (.type T) r)(ha:MM X U (e::es) ds)(hr:∀(F H:Hp)vs(Q:VK),TR F H->TF X.K F vs ds->(∀v F' H',Ext ⟨F,H⟩ F' H'->Rep X.K F' v d->Q v H')->r vs H Q):Tz X U (.Call (.Name x p) (e::es) [] pos) d:=.of (uY hc (ik t bl.g) bl.m bl.v E2 bl.n bl.d (ha.1.1 _ _)<|WG.any ha.1.2) λB F H Y Q k q=>ha.2 B F H Y _ k λvs F' H' x' rv=>hr F' H' vs Q x'.sub rv λv F2 H2 x2 r2=>q v F2 H2 (x'.t x2) r2
def TF.one(h:TF K F vs [d]):∃v,vs=[v]/\Rep K F v d:=by cases h with|cons r t=>cases t;exact⟨_,rfl,r⟩
def TF.two(h:TF K F vs [d,e]):∃v u,vs=[v,u]/\Rep K F v d/\Rep K F u e:=by cases h with|cons r t=>obtain⟨u,rfl,q⟩:=t.one;exact⟨_,_,rfl,r,q⟩
def bF(t:At X N sc)(bl:so X sc x (.builtin "len"))(ha:UA X U e k xs)(U2:Pl e:=by intro _ _;rfl):Tz X U (.Call (.Name x p) [e] [] pos) (.int xs.length):=.of (kn Ci (ik t bl.g) bl.m bl.v (bY bJ fz<|U2 _ _) bl.n bl.d (U2 _ _) rfl) λB F H Y Q k' q=>ha B F H Y _ k' λl vs F' H' x' sl rl=>by
  refine⟨l,vs,rfl,?_,?_⟩;cases k with|true=>exact .inl sl|false=>exact .inr sl
  rw[rl.length];exact q _ F' H' x'<|.int _
def tm(t:At X N sc)(bl:so X sc x (.builtin "abs"))(ha:Tz X U e (.int i))(U2:Pl e:=by intro _ _;rfl):Tz X U (.Call (.Name x p) [e] [] pos) (.int i.natAbs):=yR t bl Kx (ac ha ai U2) λF H vs Q sub r q=>by
  obtain⟨v,rfl,rv⟩:=r.one;cases rv;have e:(if i<0 then-i else i)=i.natAbs:=by split<;>lia
  exact⟨i,rfl,by rw[e];exact q _ F H (.refl sub)<|.int _⟩
def Mg(t:At X N sc)(bl:so X sc x (.builtin "max"))(ha:Tz X U a (.int i))(hb:Tz X U b (.int j))(hpa:Pl a:=by intro _ _;rfl)(Xr:Pl b:=by intro _ _;rfl):Tz X U (.Call (.Name x p) [a,b] [] pos) (.int<|max i j):=yR t bl (HS t.calm) (ac ha (ac hb ai Xr) hpa) λF H vs Q sub r q=>by
  obtain⟨v,u,rfl,rv,ru⟩:=r.two;cases rv;cases ru;have e:(if j>i then j else i)=max i j:=by split<;>lia
  exact⟨i,j,rfl,by rw[e];exact q _ F H (.refl sub)<|.int _⟩
def Mf(t:At X N sc)(bl:so X sc x (.builtin "min"))(ha:Tz X U a (.int i))(hb:Tz X U b (.int j))(hpa:Pl a:=by intro _ _;rfl)(Xr:Pl b:=by intro _ _;rfl):Tz X U (.Call (.Name x p) [a,b] [] pos) (.int<|min i j):=yR t bl (HR t.calm) (ac ha (ac hb ai Xr) hpa) λF H vs Q sub r q=>by
  obtain⟨v,u,rfl,rv,ru⟩:=r.two;cases rv;cases ru;have e:(if j<i then j else i)=min i j:=by split<;>lia
  exact⟨i,j,rfl,by rw[e];exact q _ F H (.refl sub)<|.int _⟩
def B8(t:At X N sc)(bl:so X sc x (.type "int"))(ha:Tz X U e (.bl k))(U2:Pl e:=by intro _ _;rfl):Tz X U (.Call (.Name x p) [e] [] pos) (.int (if k then 1 else 0)):=HI t bl HU (ac ha ai U2) λF H vs Q sub r q=>by obtain⟨v,rfl,rv⟩:=r.one;cases rv;exact .inr ⟨k,rfl,q _ F H (.refl sub)<|.int _⟩
def rL(t:At X N sc)(bl:so X sc x (.type "list"))(ha:UA X U e k xs)(U2:Pl e:=by intro _ _;rfl):T1 X U (.Call (.Name x p) [e] [] pos) xs:=.of (uY Ch (ik t bl.g) bl.m bl.v (bY bJ fz<|U2 _ _) bl.n bl.d (U2 _ _) rfl) λB F H Y Q k' q=>ha B F H Y _ k' λl vs F' H' x' sl rl=>by
  refine⟨l,vs,rfl,?_,λp hp=>?_⟩;cases k with|true=>exact .inl sl|false=>exact .inr sl
  exact q p vs F' _ ⟨x'.sub.trans<|bh hp,x'.sh.trans<|bh hp,x'.sf,x'.nw⟩ (x'.sh.free hp) cf (x'.sub.free hp) rl
def ma(t:At X N sc)(bl:so X sc x (.type "tuple"))(ha:UA X U e true xs)(U2:Pl e:=by intro _ _;rfl):Tz X U (.Call (.Name x p) [e] [] pos) (.tup xs):=.of (uY Ai (ik t bl.g) bl.m bl.v (bY bJ fz<|U2 _ _) bl.n bl.d (U2 _ _) rfl) λB F H Y Q k' q=>ha B F H Y _ k' λl vs F' H' x' sl rl=>by refine⟨l,vs,rfl,.inl ⟨sl,λp hp=>?_⟩⟩;exact q _ _ _ (x'.grow hp)<|.tup cf<|rl.mono<|bh<|x'.sub.free hp
def Rm:D->Value|.TN=>.type "NoneType" |.bl _=>.type "bool" |.int _=>.type "int" |.str _=>.type "str" |.tup _=>.type "tuple" |.lst _=>.type "list" |.UC _=>.type "list" |.exc C=>.ref C |.VN C _=>.ref C |.UK _=>.type "dict" |.adr _=>.type "dict" |.Wj _=>.type "dict"
def Rz(sub:TR F H)(r:Rep X.K F v d)(hd:∀ns,d≠.UC ns)(hx:∀C ea,d≠.exc C/\d≠.VN C ea/\d≠.adr C:=by intro _ _;exact And.intro (λh=>by cases h)<|And.intro (λh=>by cases h) λh=>by cases h)(hq:∀kvs,d≠.UK kvs:=by intro _ h;cases h):vm X.K H v (Rm d):=by
 cases r with
 |TN=>exact .TN|bl b=>exact .bl b
 |int i=>exact .int i|str x=>exact .str x
 |tup h _=>exact .tup (sub _ _ h)|lst h _=>exact .lst<|sub _ _ h
 |UC h=>exact absurd rfl (hd _)|exc h=>exact absurd rfl (hx _ 0).1
 |VN h=>exact absurd rfl (hx _ _).2.1|adr a=>exact absurd rfl (hx a 0).2.2
 |Wj h=>exact .dK (sub _ _ h)|UK h _=>exact absurd rfl<|hq _
def OT{d:D}(hx:∀C ea,d≠.exc C/\d≠.VN C ea/\d≠.adr C)(hd:∀ns,d≠.UC ns)(hq:∀kvs,d≠.UK kvs)(hk:kitOne X.K (Rm d) (.type T)=some k):kr X (.builtin "isinstance") (λxs H Q=>∃x F,xs=[x,.ty T]/\TR F H/\Rep X.K F x d/\Q (.bl k) H):=by intro on s Y H xs us Q I r h;obtain⟨v,F,rfl,sub,rv,q⟩:=h;obtain⟨u,w,rfl,ru,UL⟩:=AF r;cases(UL);exact HB I ru (Rz sub rv hd hx hq) hk λtk=>⟨.bl k,H,I.tok tk,rfl,q⟩
def oH(t:At X N sc)(bl:so X sc x (.builtin "isinstance"))(bt:so X sc y (.type T))(ha:Tz X U a d)(hk:kitOne X.K (Rm d) (.type T)=some k)(hd:∀ns,d≠.UC ns:=by intro _ h;cases h)(hpa:Pl a:=by intro _ _;rfl)(hx:∀C ea,d≠.exc C/\d≠.VN C ea/\d≠.adr C:=by intro _ _;exact And.intro (λh=>by cases h)<|And.intro (λh=>by cases h) λh=>by cases h)(hq:∀kvs,d≠.UK kvs:=by intro _ h;cases h):Tz X U (.Call (.Name x p) [a,.Name y py] [] pos) (.bl k):=.of (kn (OT hx hd hq hk) (ik t bl.g) bl.m bl.v (bY bJ (bY (Gq (v:=.ty T) (ik t bt.g) bt.m bt.v rfl bt.n bt.d) fz)<|hpa _ _) bl.n bl.d (hpa _ _) rfl) λB F H Y Q k' q=>ha B F H Y _ k' λv F' H' x' r=>⟨v,F',rfl,x'.sub,r,q _ F' H' x'<|.bl k⟩
def TF.ZO:∀{bs:List Bool}{vs:gW},TF K F vs (bs.map D.bl)->vs=bs.map V.bl
 |[],_,h=>by cases h;rfl
 |b::bs,_,h=>by cases h with|cons r t=>cases r;rw[eG,TF.ZO t]
theorem y0:∀{bs:List Bool}{us:jw},Vals (bs.map V.bl) us->LSm.BoolsAre us bs
 |[],_,r=>by cases r;exact .nil
 |b::bs,_,r=>by rw[eG]at r;cases r with|cons r1 r2=>cases(r1);exact .cons b<|y0 r2
def HX(hc:X.calm=true):kr X (.builtin "all") (λxs H Q=>∃(l:Addr)(bs:List Bool),xs=[.ref l]/\T9 X.K H l (bs.map V.bl)/\Q (.bl<|bs.all id) H):=by
 intro on s Y H xs us Q I r h;obtain⟨l,bs,rfl,sl,q⟩:=h;obtain⟨u,rfl,ru⟩:=pW r;cases(ru);obtain⟨vs,rv,pl,hz⟩:=I.list sl;have hb:=y0 rv;have hl:=pl.isList;have Uv:l<s.heap.objs.size:=by let⟨_,e,_⟩:=hl;exact aQ e
 refine call_all_walk<|zp hl ?_;refine⟨s.heap.objs.size,[s.heap.objs.size,l],[s.heap.objs.size],vs.toArray.size,_,_,λi=>(bs[i]?).getD true,rfl,Walks.list (A:=X.A.in1) (I.ok.hd hc) _ l (bU Uv) vs.toArray,⟨⟨_,aT _ rfl,rfl,rfl⟩,hl.push _⟩,λi v s' Q' E' hP hQ=>?_,λh' tk hk=>?_⟩;obtain⟨b,e,rfl⟩:=hb.get i v (by simpa using hP);simp only[e,KN]at hQ;exact fu hQ;have e:((List.range vs.toArray.size).all λi=>(bs[i]?).getD true)=bs.all id:=by rw[aC,hb.length];exact LSm.range_all bs
 rw[e];exact⟨.bl _,H,I.kept<|LSm.kept_iter hk,rfl,q⟩
def HW(hc:X.calm=true):kr X (.builtin "any") (λxs H Q=>∃(l:Addr)(bs:List Bool),xs=[.ref l]/\T9 X.K H l (bs.map V.bl)/\Q (.bl<|bs.any id) H):=by
 intro on s Y H xs us Q I r h;obtain⟨l,bs,rfl,sl,q⟩:=h;obtain⟨u,rfl,ru⟩:=pW r;cases(ru);let⟨vs,rv,pl,hz⟩:=I.list sl;have hb:=y0 rv;have hl:=pl.isList;have Uv:l<s.heap.objs.size:=by let⟨_,e,_⟩:=hl;exact aQ e
 refine call_any_walk<|zp hl ?_;refine⟨s.heap.objs.size,[s.heap.objs.size,l],[s.heap.objs.size],vs.toArray.size,_,_,λi=>(bs[i]?).getD false,rfl,Walks.list (A:=X.A.in1) (I.ok.hd hc) _ l (bU Uv) vs.toArray,⟨⟨_,aT _ rfl,rfl,rfl⟩,hl.push _⟩,λi v s' Q' E' hP hQ=>?_,λh' tk hk=>?_⟩;obtain⟨b,e,rfl⟩:=hb.get i v (by simpa using hP);simp only[e,KN]at hQ;exact fu hQ;have e:((List.range vs.toArray.size).any λi=>(bs[i]?).getD false)=bs.any id:=by rw[aC,hb.length];exact LSm.range_any bs
 rw[e];exact⟨.bl _,H,I.kept<|LSm.kept_iter hk,rfl,q⟩
def Km(t:At X N sc){bs:List Bool}(bl:so X sc x (.builtin "all"))(ha:UA X U e true (bs.map D.bl))(U2:Pl e:=by intro _ _;rfl):Tz X U (.Call (.Name x p) [e] [] pos) (.bl<|bs.all id):=.of (kn (HX t.calm) (ik t bl.g) bl.m bl.v (bY bJ fz<|U2 _ _) bl.n bl.d (U2 _ _) rfl) λB F H Y Q k' q=>ha B F H Y _ k' λl vs F' H' x' sl rl=>by have e:=rl.ZO;subst e;exact⟨l,bs,rfl,sl,q _ F' H' x'<|.bl _⟩
def O6(t:At X N sc){bs:List Bool}(bl:so X sc x (.builtin "any"))(ha:UA X U e true (bs.map D.bl))(U2:Pl e:=by intro _ _;rfl):Tz X U (.Call (.Name x p) [e] [] pos) (.bl<|bs.any id):=.of (kn (HW t.calm) (ik t bl.g) bl.m bl.v (bY bJ fz<|U2 _ _) bl.n bl.d (U2 _ _) rfl) λB F H Y Q k' q=>ha B F H Y _ k' λl vs F' H' x' sl rl=>by have e:=rl.ZO;subst e;exact⟨l,bs,rfl,sl,q _ F' H' x'<|.bl _⟩
def K7(K:gh)(C:bX->D->Prop):Sp:=λvs H Q _=>∃F ds d,TR F H/\TF K F vs ds/\C ds d/\∀v F' H',Ext ⟨F,H⟩ F' H'->Rep K F' v d->Q v H'
def Callee(X:Cx)(x:Str)(C:bX->D->Prop):Prop:=∃(f:Addr)(fd:FuncData)(ps:dZ)(k:Nat),pO X.prog X.w X.K X.mg X.base Aw k f fd ps (K7 X.K C)/\Uj k X.A/\X.mg x=some (.ref f)/\keepIn X.K (.ref f)=true/\Binds X.K fd ps []
def au(t:At X N sc){C:bX->D->Prop}(h:Callee X x C)(ha:MM X U (e::es) ds)(hC:C ds d)(hg:ND sc x:=by rfl)(V8:FU x:=by rfl):Tz X U (.Call (.Name x p) (e::es) [] pos) d:=by obtain⟨f,fd,ps,k,F,hr,hm,hk,hb⟩:=h;have pz:y8 Aw X E0:=Nh;refine .of (Gp F hr (ik t hg) hm hk hb .nil pz E2 V8 (ha.1.1 _ _)<|WG.any ha.1.2) λB F' H Y Q k' q=>ha.2 B F' H Y _ k' λvs F1 H1 x1 r1=>?_;refine⟨F1,ds,d,x1.sub,by rwa[iV],hC,λv F2 H2 x2 r2=>q v F2 H2 (x1.t x2) r2⟩
def dE(sc:Scope):Env:={scope:=sc,locals:=0,globals:=0,cells:=[],qual:="",func:=none,code:=.none,frame:=none,builtins:=0}
def nZ{env Wf:Env}(h:env.scope=Wf.scope):swappedStores ts v env=swappedStores ts v Wf:=by unfold swappedStores Env.blockKind Env.kindOf;rw[h]
def IP{tg:Option Expr}{env Wf:Env}(h:env.scope=Wf.scope):swapsWith v tg n env=swapsWith v tg n Wf:=by unfold swapsWith Env.blockKind Env.kindOf;rw[h]
variable {st:Stmt}{rest:List Stmt}
def bM:TB X U [] (.nx U):=.of Lr λB F H Y E k q=>q F H Y k<|.refl _
def ao(h1:Up X U st (.nx TW))(h2:TB X TW rest o):TB X U (st::rest) o:=.of (xW Ls pJ) λB F H Y E k q=>h1 B F H Y _ k λF1 H1 UV k1 s1=>h2 B F1 H1 UV E k1<|q.later s1
def eF(h1:Up X U st (.rt d)):TB X U (st::rest) (.rt d):=.of (xW Ls pJ) λB F H Y E k q=>h1 B F H Y _ k q
def aA(h1:Up X U st o):TB X U [st] o:=.of (Gk Ls) λB F H Y E k q=>h1 B F H Y E k q
def fB{U:fx}(i:Nat)(hi:U[i]?=some (.own xs))(h:TB X (U.set i<|.val<|.lst xs) rest o):TB X U rest o:=λB F H Y E k q=>by let⟨F',sf,k'⟩:=k.Wc hi;exact h B F' H Y E k'<|q.later sf
def aW(h:Tz X U e d):Up X U (.Return (some e) pos) (.rt d):=.of (Jt bJ) λB F H Y E k q=>h B F H Y _ k λv F' H' x r=>q v F' H' (k.toExt.trans x) r
def eV(hc:TC X U c true)(h:TB X U ss o):Up X U (.If c ss us pos) o:=.of (Na wc pJ pJ) λB F H Y E k q=>hc B F H Y _ k λF1 H1 x1=>by rw[am rfl];exact h B F1 H1 Y E (k.ext x1)<|q.later x1.sf
def c9(hc:TC X U c false)(h:TB X U us o):Up X U (.If c ss us pos) o:=.of (Na wc pJ pJ) λB F H Y E k q=>hc B F H Y _ k λF1 H1 x1=>by rw[ap aK];exact h B F1 H1 Y E (k.ext x1)<|q.later x1.sf
def Nw{x:Str}[VI X]:X.fn x=true\/X.env.scope.names.lookup x=some .local:=.inl<|VI.fn x
def At.loc{x:Str}(t:At X N sc)(hx:vC sc x=true):Pw X.env.scope x:=by rw[t.eS];exact OD hx
def At.ix{i:Nat}(t:At X N sc)(h:N[i]?=some x):X.N[i]?=some x:=by rwa[t.eN]
def bC{pos:Pos}[VI X](t:At X N sc)(i:Nat)(h:Tz X U e d)(hi:N[i]?=some x:=by rfl)(hx:vC sc x=true:=by rfl)(hs:swapsWith e (some<|.Name x pos') pos.line X.env=pure false:=by rfl):Up X U (.Assign [.Name x pos'] e pos) (.nx<|U.set i<|.val d):=.of (ET t.nd (t.ix hi) (t.loc hx) bJ hs Nw) λB F H Y E k q=>h B F H Y _ k λv F' H' x' r=>q F' H' _ ((k.ext x').TM i r) x'.sf
def n9{pos:Pos}[VI X](t:At X N sc)(i:Nat)(h:T1 X U e xs)(hi:N[i]?=some x:=by rfl)(hx:vC sc x=true:=by rfl)(hs:swapsWith e (some<|.Name x pos') pos.line X.env=pure false:=by rfl):Up X U (.Assign [.Name x pos'] e pos) (.nx<|U.set i<|.own xs):=.of (ET t.nd (t.ix hi) (t.loc hx) bJ hs Nw) λB F H Y E k q=>h B F H Y _ k λp vs F' H' x' h0 hp hf r=>q F' H' _ ((k.ext x').UR i hp hf (k.sh.free h0) (k.noOwn h0) r) x'.sf
def Jf{U:fx}[VI X](t:At X N sc)(i:Nat){g:Int->Int->Int}{C:Int->Int->Prop}(ho:nV X (inplaceOp op) (rI C λi j=>.int<|g i j))(hr:U[i]?=some (.val<|.int n))(h:Tz X U e (.int m))(hc:C n m)(hi:N[i]?=some x:=by rfl)(hx:vC sc x=true:=by rfl):Up X U (.AugAssign (.Name x pos') op e pos) (.nx<|U.set i<|.val<|.int<|g n m):=.of (N7 t.nd (t.ix hi) (t.loc hx) bJ (ho) Nw) λB F H Y E k q=>by let⟨v,h1,h2⟩:=k.vals i _ hr;cases h2;exact⟨_,h1,h B F H Y _ k λv F' H' x' r=>by cases r;exact⟨n,m,rfl,rfl,hc,q F' H' _ ((k.ext x').TM i<|.int _) x'.sf⟩⟩
def DQ:nV X (inplaceOp .Add) (rI (λ_ _=>True) λi j=>.int<|i+j):=No λ_ _ _ _ _ _ _ _ q=>iadd_int q
def yt:nV X (inplaceOp .Sub) (rI (λ_ _=>True) λi j=>.int<|i-j):=No λ_ _ _ _ _ _ _ _ q=>isub_int q
def J3:nV X (inplaceOp .Mult) (rI IntMulOk λi j=>.int<|i*j):=No λ_ _ _ _ _ _ _ hc q=>imul_int q hc
def Je{U:fx}[VI X](t:At X N sc)(i:Nat)(hr:U[i]?=some (.val<|.int n))(h:Tz X U e (.int m))(hi:N[i]?=some x:=by rfl)(hx:vC sc x=true:=by rfl):Up X U (.AugAssign (.Name x pos') .Sub e pos) (.nx<|U.set i<|.val<|.int<|n-m):=Jf t i yt hr h trivial hi hx
def De{U:fx}[VI X](t:At X N sc)(i:Nat)(hr:U[i]?=some (.val<|.int n))(h:Tz X U e (.int m))(hc:IntMulOk n m)(hi:N[i]?=some x:=by rfl)(hx:vC sc x=true:=by rfl):Up X U (.AugAssign (.Name x pos') .Mult e pos) (.nx<|U.set i<|.val<|.int<|n*m):=Jf t i J3 hr h hc hi hx
def qj{pos:Pos}(t:At X N sc)(i j:Nat)(h1:Tz X U a u)(h2:Tz X U b v)(Vi:i≠j)(hi:N[i]?=some x:=by rfl)(hj:N[j]?=some y:=by rfl)(hx:sc.names.lookup x=some .local:=by rfl)(hy:sc.names.lookup y=some .local:=by rfl)(hw:swappedStores [.Tuple [.Name x px,.Name y py] kt pt] (.Tuple [a,b] k2 U6) (dE sc)=pure (some [x,y]):=by rfl)(hs:swapsWithSole [.Tuple [.Name x px,.Name y py] kt pt] (.Tuple [a,b] k2 U6) pos.line X.env=pure false:=by rfl)(W8:En a [b] X.env:=by rfl)(Vh:En b [] X.env:=by rfl):Up X U (.Assign [.Tuple [.Name x px,.Name y py] kt pt] (.Tuple [a,b] k2 U6) pos) (.nx<|(U.set i<|.val u).set j<|.val v):=.of (EU t.calm t.nd (t.ix hi) (t.ix hj) Vi (by rwa[t.eS]) (by rwa[t.eS]) (bY bJ (bY bJ fz Vh) W8) ((nZ<|t.eS).trans hw) hs) λB F H Y E k q=>h1 B F H Y _ k λv1 F1 H1 x1 r1=>h2 B F1 H1 Y _ (k.ext x1) λv2 F2 H2 x2 r2=>⟨v1,v2,rfl,q F2 H2 _ (((k.ext<|x1.t x2).TM i<|r1.mono x2.sf).TM j r2) (x1.t x2).sf⟩
def aZ[VI X](t:At X N sc)(i:Nat)(hi:N[i]?=some x:=by rfl)(hx:vC sc x=true:=by rfl):Vn X U (.Name x pos) d (U.set i<|.val d):=.of (oB t.nd (t.ix hi) (t.loc hx) Nw) λB F H Y v Q k r q=>q F H _ (k.TM i r)<|.refl _
def xn[VI X](t:At X N sc)(i j:Nat)(hi:N[i]?=some x:=by rfl)(hj:N[j]?=some y:=by rfl)(hx:vC sc x=true:=by rfl)(hy:vC sc y=true:=by rfl):Vn X U (.Tuple [.Name x px,.Name y py] kt pos) (.tup [u,v]) ((U.set i<|.val u).set j<|.val v):=.of (BC t.calm<|ja (oB t.nd (t.ix hi) (t.loc hx) Nw)<|ja (oB t.nd (t.ix hj) (t.loc hy) Nw) xc) λB F H Y w Q k r q=>by cases r with|tup h rl=>obtain⟨v1,v2,rfl,r1,r2⟩:=rl.two;exact⟨_,_,rfl,Ud.of<|k.sub _ _ h,rfl,_,_,rfl,_,_,rfl,rfl,q F H _ ((k.TM i r1).TM j r2)<|.refl _⟩
def bE(t:At X N sc)(i:Nat)(hi:N[i]?=some x:=by rfl)(hx:sc.names.lookup x=some .local:=by rfl):Uw X U (.Name x pos) d (U.set i<|.val d):=.of (oB t.nd (t.ix hi) (by rw[t.eS];exact .inl hx)<|by rw[t.eS];exact .inr hx) λB F H Y v Q k r q=>q _ (k.TM i r) λp h=>h.TM i _ d
def DZ(t:At X N sc)(i j:Nat)(hi:N[i]?=some x:=by rfl)(hj:N[j]?=some y:=by rfl)(hx:sc.names.lookup x=some .local:=by rfl)(hy:sc.names.lookup y=some .local:=by rfl):Uw X U (.Tuple [.Name x px,.Name y py] kt pos) (.tup [u,v]) ((U.set i<|.val u).set j<|.val v):=.of (BC t.calm<|ja (oB t.nd (t.ix hi) (by rw[t.eS];exact .inl hx)<|by rw[t.eS];exact .inr hx)<|ja (oB t.nd (t.ix hj) (by rw[t.eS];exact .inl hy)<|by rw[t.eS];exact .inr hy) xc) λB F H Y w Q k r q=>by cases r with|tup h rl=>obtain⟨v1,v2,rfl,r1,r2⟩:=rl.two;exact⟨_,_,rfl,Ud.of<|k.sub _ _ h,rfl,_,_,rfl,_,_,rfl,rfl,q _ ((k.TM i r1).TM j r2) λp h=>(h.TM i _ u).TM j _ v⟩
def kj{pos:Pos}(t:At X N sc)(h:Tz X U e d)(hg:Vn X U tg d TW)(hs:swapsWithSole [tg] e pos.line X.env=pure false:=by rfl)(hw:swappedStores [tg] e (dE sc)=pure none:=by rfl)(h1:(assignEach [tg] X.env).map (·.2)=[assign tg X.env]:=by rfl):Up X U (.Assign [tg] e pos) (.nx TW):=.of (EW bJ JC hs ((nZ<|t.eS).trans hw) h1) λB F H Y E k q=>h B F H Y _ k λv F1 H1 x1 r1=>hg B F1 H1 Y v _ (k.ext x1) r1 λF2 H2 XV k2 s2=>q F2 H2 XV k2<|x1.sf.trans s2
def oC{i:Nat}{Q:VK}{U:fx}(t:At X N sc)(hr:U[i]?=some (.own xs))(hN:N[i]?=some x)(hv:oO sc x=true)(hx:ji x=true)(k:Ok X.K B F H Y U)(h:∀p vs,Y[i]?=some (some<|.ref p)->H p=some (.lst vs)->TF X.K F vs xs->Q (.ref p) H):wE X (.Name x pos) Y H Q:=.mk λon s I=>by obtain⟨p,vs,h1,h2,h3,h4,h5⟩:=k.Us i xs hr;exact NZ t hN hv hx on s Y H Q I ⟨_,h1,h p vs h1 h2 h5⟩
def ul{apos TX:Pos}{U:fx}{pos:Pos}(t:At X N sc)(i:Nat)(hr:U[i]?=some (.own xs))(h:Tz X U e d)(hz:xs.length<sizeLine)(hN:N[i]?=some y:=by rfl)(hv:oO sc y=true:=by rfl)(hx:ji y=true:=by rfl)(hs:En e [] X.env:=by rfl)(Ug:(apos.endLine==TX.line)=true:=by rfl)(Wl:IA TX [] X.env:=by rfl)(V7:PU TX [e] X.env:=by rfl)(Ww:swapsWith (.Call (.Attribute (.Name y p) "append" apos) [e] [] TX) none pos.line X.env=pure false:=by rfl):Up X U (.Expr (.Call (.Attribute (.Name y p) "append" apos) [e] [] TX) pos) (.nx<|U.set i<|.own<|xs++[d]):=.of (xa (Ng fI PySem.F.slot_list_append PySem.F.type_list_append AZ bJ (bY bJ fz hs) rfl V7 Ug hs Wl) Ww) λB F H Y E k q=>oC t hr hN hv hx k λl vs h1 h2 h3=>⟨.inl ⟨rfl,_,T9.of h2⟩,h B F H Y _ k λv F' H' x' r=>by have k':=k.ext x';refine⟨l,vs,v,rfl,rfl,x'.sh _ _ h2,by rwa[h3.length],?_⟩;exact q F' _ _ (k'.Uu (vs:=vs) hr h1<|(h3.mono x'.sf).append<|.cons r .nil) x'.sf⟩
def M5{apos TX:Pos}{U:fx}{pos:Pos}(t:At X N sc)(i:Nat)(hr:U[i]?=some (.own xs))(hz:xs≠[])(hN:N[i]?=some y:=by rfl)(hv:oO sc y=true:=by rfl)(hx:ji y=true:=by rfl)(Ug:(apos.endLine==TX.line)=true:=by rfl)(Ww:swapsWith (.Call (.Attribute (.Name y p) "pop" apos) [] [] TX) none pos.line X.env=pure false:=by rfl):Up X U (.Expr (.Call (.Attribute (.Name y p) "pop" apos) [] [] TX) pos) (.nx<|U.set i<|.own xs.dropLast):=.of (xa (BE fI nX nW BL bJ rfl Ug) Ww) λB F H Y E k q=>oC t hr hN hv hx k λl vs h1 h2 h3=>⟨.inl ⟨rfl,_,T9.of h2⟩,by have Uy:vs≠[]:=λz=>hz<|aw (by rw[<-h3.length,z];rfl);obtain⟨w,hw⟩:∃w,vs[vs.length-1]?=some w:=⟨vs[vs.length-1]'(by have:=az.mpr Uy;lia),ar _⟩;exact⟨l,vs,w,rfl,rfl,h2,hw,q F _ _ (k.Uu (vs:=vs) hr h1 h3.dropLast)<|.refl _⟩⟩
def Cb{U:fx}(t:At X N sc)(i:Nat)(hr:U[i]?=some (.own xs))(h:Tz X U b (.int n))(hj:CM xs.length n=some j)(hN:N[i]?=some y:=by rfl)(hv:oO sc y=true:=by rfl)(hx:ji y=true:=by rfl)(ha:∀v,assign (.Subscript (.Name y p) b pos) X.env v=(do
   let ov <-holding [v] (eval (.Name y p) X.env)
   let iv <-holding [v,ov] (eval b X.env)
   standAt pos
   holding [v,ov,iv] (setItem ov iv v)
   release [v,ov,iv] []):=by intro _;rfl):Vn X U (.Subscript (.Name y p) b pos) d (U.set i (.own (xs.set j d))):=
 .of (Of bJ bJ C5 ha) λB F H Y v Q k r q=>
  oC t hr hN hv hx k λl vs h1 h2 h3=>h B F H Y _ k λw F' H' x' UL=>by
   cases UL
   refine⟨l,vs,n,j,rfl,rfl,x'.sh _ _ h2,by rwa[h3.length],?_⟩
   exact q F' _ _ ((k.ext x').Uu (vs:=vs) hr h1<|(h3.mono x'.sf).set (r.mono x'.sf) j) x'.sf
def HE:Rc X (Qo X.K):=by
 intro on s Y H o i ov iv Q I ro ri h;obtain⟨p,xs,n,z,rfl,rfl,hq,he,q⟩:=h;cases ro;obtain⟨t,rfl⟩:=ri;let⟨its,r,pl,hz⟩:=I.list hq;let⟨j,h1,h2,h3,h4,h5⟩:=Cv he;let⟨w,ew,UL⟩:=r.get h2;have hl:=r.length;have hn:=qr;have fin:EP X on Y Q w s:=⟨z,H,I,UL,q⟩;by_cases h0:0<=n;have hj:n.toNat=j:=by rw[Rt h0 h5]at h1;exact bS h1
 exact wpAny_getItem_list pl.isList h0 (by lia) (by rw[hj];simpa using ew) fin;have hj:(n+its.toArray.size).toNat=j:=by rw[Pz (by lia) h4]at h1;rw[aC,<-hl];exact bS h1
 exact wpAny_getItem_list_neg pl.isList (by lia) (by rw[aC]<;>lia) (by lia) (by rw[hj];simpa using ew) fin
def rn{j:Nat}{U:fx}(t:At X N sc)(i:Nat){g:Int->Int->Int}{C:Int->Int->Prop}(ho:nV X (inplaceOp op) (rI C λi j=>.int<|g i j))(hr:U[i]?=some (.own xs))(hb:Tz X U b (.int n))(hj:CM xs.length n=some j)(hu:xs[j]?=some (.int u))(he:Tz X U e (.int m))(hc:C u m)(hN:N[i]?=some y:=by rfl)(hv:oO sc y=true:=by rfl)(hx:ji y=true:=by rfl)(ha:∀ov iv new,augStore b ov iv new=(do holding [new,ov,iv] (setItem ov iv new);release [new,ov,iv] [];pure .next):=by intros;rfl):Up X U (.AugAssign (.Subscript (.Name y p) b YQ) op e pos) (.nx<|U.set i<|.own<|xs.set j<|.int<|g u m):=.of (Lv bJ bJ HE bJ (ho) C5 ha) λB F H Y E k q=>oC t hr hN hv hx k λl vs h1 h2 h3=>hb B F H Y _ k λw F1 H1 x1 UL=>by
   cases UL;have h21:=x1.sh _ _ h2;have hat:tZ xs n=some (.int u):=by unfold tZ;rwa[hj]
   let⟨w,hw1,hw2⟩:=(h3.mono x1.sf).at hat;cases hw2;refine⟨l,vs,n,_,rfl,rfl,T9.of h21,hw1,he B F1 H1 Y _ (k.ext x1) λw F2 H2 x2 rw2=>?_⟩;cases rw2;refine⟨u,m,rfl,rfl,hc,l,vs,n,j,rfl,rfl,x2.sh _ _ h21,by rwa[h3.length],?_⟩;exact q F2 _ _ ((k.ext<|x1.t x2).Uu (vs:=vs) hr h1<|((h3.mono x1.sf).mono x2.sf).set (.int _) j) (x1.t x2).sf
end
structure wI(X:Cx)(tg e:Expr)(Y:St)(H:Hp)(R:It->Hp->Prop):Prop where
 go:∀(on:iB)(s:Shared),Inv X on Y H s->ge X (eval e X.env) (λv s1=>ge X (pyIter v) (Ra X on Y tg R) X.xe s1) X.xe s
instance zDZ {X:Cx} {tg e:Expr} {Y:St} {H:Hp} {R:It->Hp->Prop}:CoeFun (wI X tg e Y H R) (λ_=>∀(on:iB)(s:Shared),Inv X on Y H s->ge X (eval e X.env) (λv s1=>ge X (pyIter v) (Ra X on Y tg R) X.xe s1) X.xe s):=⟨wI.go⟩
def RY{X:Cx}:PI X tg e (wI X tg e):=λon s _ _ _ I h=>h on s I
def wF(K:gh)(J:It)(F:Hp)(ds:bX):Prop:=∀(i:Nat)(F2 H2:Hp),TR F F2->TR F2 H2->(∀d,ds[i]?=some d->J.go i H2/\∀x H',J.YM i H2 x H'->∃F',Ext ⟨F2,H2⟩ F' H'/\Rep K F' x d)/\(ds.length<=i->J.stop i H2)
def UG(X:Cx)(U:fx)(tg e:Expr)(ds:bX):Prop:=∀(B:B0)(F H:Hp)(Y:St)(R:It->Hp->Prop),Ok X.K B F H Y U->(∀J F' H',Ext ⟨F,H⟩ F' H'->wF X.K J F' ds->R J H')->wI X tg e Y H R
section
variable {X:Cx}
def UG.of(h:PI X tg e t)(r:∀(B:B0)(F H:Hp)(Y:St)(R:It->Hp->Prop),Ok X.K B F H Y U->(∀J F' H',Ext ⟨F,H⟩ F' H'->wF X.K J F' ds->R J H')->t Y H R):UG X U tg e ds:=λB F H Y R k q=>.mk λon s I=>h on s Y H R I<|r B F H Y R k q
def L6(hs:∀H,TR F H->T9 K H l vs)(r:TF K F vs ds):wF K (Sk K l) F ds:=λi F2 H2 s1 s2=>⟨λd hd=>by let⟨v,hv,rv⟩:=r.get hd;have sq:=hs H2<|s1.trans s2;refine⟨⟨vs,v,sq,hv⟩,λx H' y=>?_⟩;obtain⟨rfl,y⟩:=y;have e:=y vs sq;rw[hv]at e;cases e;exact⟨F2,.refl s2,rv.mono s1⟩,λh=>⟨vs,hs H2<|s1.trans s2,by rwa[r.length]⟩⟩
def JZ(hs:∀H,TR F H->Ud K H l vs)(r:TF K F vs ds):wF K (Sj K l) F ds:=λi F2 H2 s1 s2=>⟨λd hd=>by let⟨v,hv,rv⟩:=r.get hd;have sq:=hs H2<|s1.trans s2;refine⟨⟨vs,v,sq,hv⟩,λx H' y=>?_⟩;obtain⟨rfl,y⟩:=y;have e:=y vs sq;rw[hv]at e;cases e;exact⟨F2,.refl s2,rv.mono s1⟩,λh=>⟨vs,hs H2<|s1.trans s2,by rwa[r.length]⟩⟩
def m7(h:Tz X U e (.lst ds)):UG X U tg e ds:=.of (LC bJ) λB F H Y R k q=>h B F H Y _ k λv F' H' x r=>by cases r with|lst hf rl=>exact⟨_,rfl,⟨_,T9.of<|x.sub _ _ hf⟩,q _ F' H' x<|L6 (λH2 s2=>T9.of<|s2 _ _ hf) rl⟩
def oK(h:Tz X U e (.tup ds)):UG X U tg e ds:=.of (JB bJ) λB F H Y R k q=>h B F H Y _ k λv F' H' x r=>by cases r with|tup hf rl=>exact⟨_,rfl,⟨_,Ud.of<|x.sub _ _ hf⟩,q _ F' H' x<|JZ (λH2 s2=>Ud.of<|s2 _ _ hf) rl⟩
def dO(lo:Int)(n:Nat):bX:=(List.range n).map λ(i:Nat)=>D.int<|lo+(i:Int)
def J0{lo:Int}:wF K (Re lo n) F (dO lo n):=λi F2 H2 s1 s2=>⟨λd hd=>by
  unfold dO at hd;rw[aH]at hd;have hi:i<n:=by by_cases h:i<n;exact h;rw[bQ<|by simpa using h]at hd;cases hd
  rw[cq hi]at hd;cases hd;refine⟨hi,λx H' y=>?_⟩;obtain⟨rfl,rfl⟩:=y;exact⟨F2,.refl s2,.int _⟩,λh=>by
   have h':n<=i:=by simpa[dO]using h
   exact h'⟩
def fZ(t:At X N sc)(bl:so X sc "range" (.type "range"))(h:Tz X U a (.int j))(h1: -(2 ^ 62)<=j)(h2:j<2 ^ 62)(hs:Pl a:=by intro _ _;rfl):UG X U tg (.Call (.Name "range" p) [a] [] pos) (dO 0 j.toNat):=.of (Hm (ik t bl.g) bl.m (bY bJ fz<|hs _ _)<|hs _ _) λB F H Y R k q=>h B F H Y _ k λv F' H' x r=>by cases r;exact⟨j,rfl,h1,h2,q _ F' H' x J0⟩
def Ba(t:At X N sc)(bl:so X sc "range" (.type "range"))(ha:Tz X U a (.int i))(hb:Tz X U b (.int j))(hc: -(2 ^ 62)<=i/\i<2 ^ 62/\-(2 ^ 62)<=j/\j<2 ^ 62)(XW:Pl a:=by intro _ _;rfl)(Xp:Pl b:=by intro _ _;rfl):UG X U tg (.Call (.Name "range" p) [a,b] [] pos) (dO i (j-i).toNat):=.of (Hl (ik t bl.g) bl.m (bY bJ (bY bJ fz<|Xp _ _)<|XW _ _) (by rw[XW,Xp];rfl)<|Xp _ _) λB F H Y R k q=>ha B F H Y _ k λv F1 H1 x1 r1=>hb B F1 H1 Y _ (k.ext x1) λw F2 H2 x2 r2=>by cases r1;cases r2;exact⟨i,j,rfl,hc,q _ F2 H2 (x1.t x2) J0⟩
inductive T5(X:Cx)(tg:Expr)(body:List Stmt):bX->fx->Out->Prop where
 |nil {U:fx}:T5 X tg body [] U (.nx U)
 |cons {d:D} {ds:bX} {U Uf ρ2:fx} {o:Out}:Vn X U tg d Uf->TB X Uf body (.nx ρ2)->T5 X tg body ds ρ2 o->T5 X tg body (d::ds) U o
 |ret {d r:D} {ds:bX} {U Uf:fx}:Vn X U tg d Uf->TB X Uf body (.rt r)->T5 X tg body (d::ds) U (.rt r)
def rM{i:Nat}{α:Type}{xs ys:List α}{x:α}(h:xs.drop i=x::ys):xs[i]?=some x/\xs.drop (i+1)=ys/\i<xs.length:=by
 have hi:i<xs.length:=by by_cases q:i<xs.length;exact q;rw[zm<|by lia]at h;cases h
 have e:=gD hi;rw[h]at e;injection e with e1 e2;exact⟨by rw[ar hi,e1],e2.symm,hi⟩
theorem jx(t:At X N sc)(hi:UG X U tg e ds)(h:T5 X tg body ds U o)(hs:∀x,foldedSetIterable e X.env x=pure x:=by intro _;rfl):Up X U (.For tg e body [] pos) o:=.of (N6 t.pass t.calm RY JC pJ hs) λB F H Y E k q=>hi B F H Y _ k λJ F1 H1 x1 J1=>by
  refine⟨λi m Y H=>∃TW F',Ok X.K B F' H Y TW/\TR F1 F'/\T5 X tg body (ds.drop i) TW o/\m=ds.length-i,⟨ds.length,U,F1,k.ext x1,.refl _,by simpa using h,by simp⟩,?_⟩;rintro i m Y H ⟨TW,F',k',sf,run,rfl⟩;have J2:=J1 i F' H sf k'.sub;generalize e1:ds.drop i=rest at run;cases run with
  |nil=>
   have hl:ds.length<=i:=by have:=bi List.length e1;rw[du,qY]at this;lia
   exact .inl ⟨J2.2 hl,(q.later<|x1.sf.trans sf) F' H Y k'<|.refl _⟩
  |@cons d0 YG ρ0 Uf ρ2 o0 g b r=>obtain⟨hd,hr,Uv⟩:=rM e1;obtain⟨go,yl⟩:=J2.1 _ hd;refine .inr ⟨go,λT0 H'=>∃WI,Ok X.K B WI H' T0 ρ2/\TR F1 WI,λT0 H' ⟨WI,Y8,Wt⟩=>⟨ds.length-(i+1),by lia,_,WI,Y8,Wt,by rwa[hr],rfl⟩,λx H' y=>?_⟩;obtain⟨F2,x2,rx⟩:=yl x H' y;refine g B F2 H' Y x _ (k'.ext x2) rx λF3 H3 W1 k3 s3=>b B F3 H3 W1 _ k3 λF4 H4 σ4 k4 s4=>⟨F4,k4,sf.trans<|x2.sf.trans<|s3.trans s4⟩
  |ret g b=>obtain⟨hd,hr,Uv⟩:=rM e1;obtain⟨go,yl⟩:=J2.1 _ hd;refine .inr ⟨go,λ_ _=>False,λT0 H' z=>z.elim,λx H' y=>?_⟩;obtain⟨F2,x2,rx⟩:=yl x H' y;exact g B F2 H' Y x _ (k'.ext x2) rx λF3 H3 W1 k3 s3=>b B F3 H3 W1 _ k3 q
def T5.of(body:List Stmt)(R:Nat->fx):∀(ds:bX)(i:Nat),(∀(j:Nat)d,ds[j]?=some d->∃Uf,Vn X (R<|i+j) tg d Uf/\TB X Uf body (.nx<|R<|i+j+1))->T5 X tg body ds (R i) (.nx<|R<|i+ds.length)
 |[],i,_=>.nil
 |d::ds,i,h=>by
  let⟨Uf,h1,h2⟩:=h 0 d rfl;refine .cons h1 h2 ?_;have r:=T5.of body R ds (i+1) λj e he=>by have:=h (j+1) e he;rwa[show i+1+j=i+(j+1)by lia]
  rwa[show i+(d::ds).length=i+1+ds.length by simp;lia]
inductive Ui(X:Cx)(c:Expr)(body:List Stmt):Nat->fx->Out->Prop where
 |stop {U:fx}:TC X U c false->Ui X c body 0 U (.nx U)
 |step {n:Nat} {U Uf:fx} {o:Out}:TC X U c true->TB X U body (.nx Uf)->Ui X c body n Uf o->Ui X c body (n+1) U o
 |ret {U:fx} {r:D}:TC X U c true->TB X U body (.rt r)->Ui X c body 0 U (.rt r)
def gs(t:At X N sc)(h:∃n,Ui X c body n U o):Up X U (.While c body [] pos) o:=.of (Jr t.pass wc pJ) λB F H Y E k q=>by
  let⟨n,h⟩:=h;refine⟨λm Y H=>∃TW F',Ok X.K B F' H Y TW/\TR F F'/\Ui X c body m TW o,⟨n,U,F,k,.refl _,h⟩,?_⟩;rintro m Y H ⟨TW,F',k',sf,run⟩;cases run with
  |stop hc=>refine hc B F' H Y _ k' λF1 H1 x1=>?_;rw[ap aK];exact q F1 H1 Y (k'.ext x1)<|sf.trans x1.sf
  |@step n0 ρ0 Uf o0 hc hb r=>refine hc B F' H Y _ k' λF1 H1 x1=>?_;rw[am rfl];exact⟨λT0 H'=>∃WI,Ok X.K B WI H' T0 Uf/\TR F WI,λT0 H' ⟨WI,Y8,Wt⟩=>⟨_,kz _,_,WI,Y8,Wt,r⟩,hb B F1 H1 Y _ (k'.ext x1) λF2 H2 XV k2 s2=>⟨F2,k2,sf.trans<|x1.sf.trans s2⟩⟩
  |ret hc hb=>refine hc B F' H Y _ k' λF1 H1 x1=>?_;rw[am rfl];exact⟨λ_ _=>False,λT0 H' z=>z.elim,hb B F1 H1 Y _ (k'.ext x1) q⟩
structure DefX(P:Program)(w:World)(K:gh)(mg:AD)(base:Heap)(k:Nat)(N:dZ)(sc:Scope)(X:Cx):Prop where
 at':At X N sc
 prog:X.prog=P
 w':X.w=w
 k':X.K=K
 VR:X.mg=mg
 VH:X.base=base
 room:Uj k X.A
 T6:VI X
 XC:X.stack=X.env::X.outer/\X.env.frame=some X.env.locals
abbrev c7(P:Program)(w:World)(K:PySem.W.Frag)(mg:Str->Option Value)(base:Heap)(k:Nat)(N:List Str)(st:Stmt)(X:Cx):Prop:=DefX P w K mg base k N (ay st) X
def x9(sub:TR F H)(r:TF K F vs ds)(n:Nat):Ok K ⟨F,H⟩ F H (vs.map some++List.replicate n none) (ds.map Sl.val++List.replicate n Sl.un):=by
 have hl:=r.length;have own:∀(i:Nat)xs,(ds.map Sl.val++List.replicate n Sl.un)[i]?≠some (.own xs):=λi xs h=>by
  by_cases hi:i<ds.length;rw[bj<|by simpa using hi,aH]at h;cases e:ds[i]? with
  |none=>rw[e]at h;cases h
  |some d=>rw[e]at h;cases h
  rw[aX<|by simpa using hi,eU]at h;split at h<;>cases h
 have XG:∀(i:Nat)xs,(ds.map Sl.val++List.replicate n Sl.un)[i]?≠some (.U5 xs):=λi xs h=>by
  by_cases hi:i<ds.length;rw[bj<|by simpa using hi,aH]at h;cases e:ds[i]? with
  |none=>rw[e]at h;cases h
  |some d=>rw[e]at h;cases h
  rw[aX<|by simpa using hi,eU]at h;split at h<;>cases h
 refine⟨.refl sub,by simp[hl],λi d h=>?_,λi xs h=>absurd h<|own i xs,λi j xs ys a h=>absurd h<|own i xs,⟨λi kvs h=>absurd h<|XG i kvs,λi j xs ys a h=>absurd h<|XG i xs⟩⟩;by_cases hi:i<ds.length;rw[bj<|by simpa using hi,aH]at h;cases e:ds[i]? with
 |none=>rw[e]at h;cases h
 |some d'=>rw[e]at h;cases h;let⟨v,hv,rv⟩:=r.get e;exact⟨v,by rw[bj<|by rw[ae];lia,aH,hv];rfl,rv⟩
 rw[aX<|by simpa using hi,eU]at h;split at h<;>cases h
def QT{P:Program}(Vg:P.given.tree=none){w:World}{K:gh}{mg:AD}{base:Heap}{x qual:Str}{st:Stmt}{f:Addr}{fd:FuncData}{N ps:dZ}{k:Nat}{C:bX->D->Prop}(F:WH K x qual st f fd)(S:aL N ps (ay st))(len:∀ds d,C ds d->ds.length=ps.length)(body:∀X,DefX P w K mg base k N (ay st) X->Go X N st C):pO P w K mg base Aw (k+1) f fd ps (K7 K C):=by
 refine F.ok S (λvs H Q E h=>?_) λUc A outer s H vs Q E hr h=>?_;obtain⟨F',ds,d,sub,r,hC,q⟩:=h;rw[r.length];exact len ds d hC;obtain⟨F',ds,d,sub,r,hC,q⟩:=h;refine⟨_,pJ,?_⟩;have hx:DefX P w K mg base k N (ay st) (Ce Aw P w K mg base N qual (ay st) f Uc A outer s H E).VB:=⟨⟨rfl,rfl,rfl,S.nd,rfl,hr.units,hr.Wh,Vg,⟨_,_,rfl,S.gen,S.co,rfl,rfl⟩⟩,rfl,rfl,rfl,rfl,rfl,hr,⟨λ_=>rfl⟩,rfl,rfl⟩;have hk:Ok K ⟨F',H⟩ F' H (start N vs) (FT N ds):=by unfold start;rw[r.length];exact x9 sub r _
 exact(body _ hx ds d hC) ⟨F',H⟩ F' H _ _ hk λv F2 H2 x2 r2=>q v F2 H2 x2 r2
def DefX.callee{ps:dZ}{x:Str}{C:bX->D->Prop}(h:DefX P w K mg base k N sc X)(F:pO P w K mg base Aw j f fd ps (K7 K C))(hj:j<=k)(hm:mg x=some (.ref f))(hk:keepIn K (.ref f)=true)(hb:Binds K fd ps []):Callee X x C:=by obtain⟨h0,rfl,rfl,rfl,rfl,rfl,hr,_⟩:=h;exact⟨f,fd,ps,j,F,hr.mono hj,hm,hk,hb⟩
end
def v9(scope sc:Scope):Scope:={scope with names:=scope.names.map λ(n,k)=>if(k==.free&&sc.kind==.function&&sc.names.lookup n==some .cell)then(n,.cell)else(n,k)}
def Bz{sc:Scope}{env:Env}(h:env.scope=sc):relabel scope env=v9 scope sc:=by subst h;rfl
theorem Cg(env:Env):∀(names:List (Str×NameKind))(cs:List (Str×Addr)),(∀n,(n,NameKind.free)∈names->∃c,env.cells.lookup n=some c)->(∀n c,cs.lookup n=some c->env.cells.lookup n=some c)->∃cl:List (Str×Addr),(forIn (m:=Sem) names cs λ(x:Str×NameKind)r=>if x.2==.free then do let c <-cellOf env x.1;pure (ForInStep.yield<|(x.1,c)::r)else pure<|ForInStep.yield r)=pure cl/\(∀n c,cl.lookup n=some c->env.cells.lookup n=some c)/\(∀n,(n,NameKind.free)∈names->∃c,cl.lookup n=some c)/\(∀n c,cs.lookup n=some c->∃c',cl.lookup n=some c')
 |[],cs,_,h=>⟨cs,rfl,h,(λn hn=>nomatch hn),λn c e=>⟨c,e⟩⟩
 |(n,k)::r,cs,hf,h=>by
  rw[List.forIn_cons];by_cases hk:k=.free;subst hk;obtain⟨c,hc⟩:=hf n bA;have UM:cellOf env n=pure c:=by unfold cellOf;rw[hc]
  have h':∀m c',((n,c)::cs).lookup m=some c'->env.cells.lookup m=some c':=λm c' e=>by
   rw[dW]at e;cases hm:m==n with
   |true=>rw[hm]at e;cases e;rwa[eq_of_beq hm]
   |false=>rw[hm]at e;exact h m c' e
  obtain⟨cl,e1,e2,e3,e4⟩:=Cg env r ((n,c)::cs) (λm hm=>hf m<|aM _ hm) h';refine⟨cl,?_,e2,λm hm=>?_,λm c' e=>?_⟩;rwa[UM];rcases aO.mp hm with z |z;cases z;exact e4 n c (by rw[dW,beq_self_eq_true]);exact e3 m z;by_cases hm:m=n;subst hm;exact e4 m c (by rw[dW,beq_self_eq_true]);exact e4 m c' (by rwa[dW,rR.mpr hm]);obtain⟨cl,e1,e2,e3,e4⟩:=Cg env r cs (λm hm=>hf m<|aM _ hm) h;refine⟨cl,?_,e2,λm hm=>?_,e4⟩;rw[rR.mpr hk,ap aK];exact e1;rcases aO.mp hm with z |z;cases z;exact absurd rfl hk;exact e3 m z
def Fn{scope:Scope}{env:Env}(hf:∀n,(n,NameKind.free)∈scope.names->∃c,env.cells.lookup n=some c):∃cl:List (Str×Addr),closureFor scope env=pure cl/\(∀n c,cl.lookup n=some c->env.cells.lookup n=some c)/\(∀n,(n,NameKind.free)∈scope.names->∃c,cl.lookup n=some c):=by obtain⟨cl,e1,e2,e3,_⟩:=Cg env scope.names [] hf λn c e=>nomatch e;refine⟨cl,?_,e2,e3⟩;show(forIn scope.names ([]:List (Str×Addr)) (λ(x:Str×NameKind)r=>if x.2==.free then do let c <-cellOf env x.1;pure (ForInStep.yield<|(x.1,c)::r)else pure<|ForInStep.yield r)>>=λs=>pure s)=pure cl;rw[e1];rfl
structure qW(N:dZ)(sc:Scope)(N':dZ)(scope:Scope):Prop where
 kind:scope.kind=.function
 cells:∀y∈scope.names,y.2=.cell->scope.names.lookup y.1=some .cell
 names:∀y∈scope.names,y.2=.local->scope.names.lookup y.1=some .local
 free:∀y∈scope.names,y.2=.free->sc.names.lookup y.1=some .cell
 Yd:sc.kind=.function
 nd:N'.Nodup
 old:∀(i:Nat)x,i<N.length->N'[i]?=some x->oO (v9 scope sc) x=true->N[i]?=some x/\scope.names.lookup x=some .free
 len:N.length<=N'.length
def Dq(scope:Scope)(x:Str):Bool:=match scope.names.lookup x with|some .cell=>true|_=>false
structure FC(names:List (Str×NameKind))(cells:List (Str×Addr))(n:Nat)(cl:List (Str×Addr))(h:Heap):Prop where
 look:∀m c,cl.lookup m=some c->(cells.lookup m=some c/\¬(m,NameKind.cell)∈names)\/(n<=c/\(m,NameKind.cell)∈names/\h.IsCell c none)
 has:∀m,((m,NameKind.cell)∈names\/∃c,cells.lookup m=some c)->∃c,cl.lookup m=some c
 inj:∀x y c,n<=c->cl.lookup x=some c->cl.lookup y=some c->x=y
theorem qy:∀(names:List (Str×NameKind))(cells:List (Str×Addr))(s:Shared)(Q:List (Str×Addr)->Shared->Prop),(∀m c,cells.lookup m=some c->c<s.heap.objs.size)->
  (∀cl h,(∀b o,s.heap.get? b=some o->h.get? b=some o)->FC names cells s.heap.objs.size cl h->Q cl {s with heap:=h})->
  wpAny M A (forIn names cells λx __s=>match x with
   |(name,kind)=>if(kind==NameKind.cell)=true then do
     let a <-alloc {cls:=Value.type "cell",data:=Data.cell none}
     pure (ForInStep.yield<|(name,a)::__s)
    else pure (ForInStep.yield __s)) Q E s
 |[],cells,s,Q,hb,q=>by
  refine aR<|q cells s.heap (λ_ _ e=>e) ⟨λm c e=>.inl ⟨e,λz=>nomatch z⟩,λm hm=>hm.elim (λz=>nomatch z) id,λx y c hc e _=>absurd (hb x c e)<|wL hc⟩
 |(name,kind)::rest,cells,s,Q,hb,q=>by
  rw[List.forIn_cons]
  by_cases hk:kind=.cell
  subst hk
  refine aj<|aj (wpAny_alloc<|aR ?_)
  have U8:(s.heap.push {cls:=Value.type "cell",data:=Data.cell none}).objs.size=s.heap.objs.size+1:=by rw[iX]
  refine qy rest _ _ _ (λm c e=>?_) λcl h kp f=>q cl h (λb o e=>kp b o<|aD _ e) ⟨λm c e=>?_,λm hm=>f.has m ?_,λx y c hc ex ey=>?_⟩
  rw[U8]
  rw[dW]at e
  split at e
  cases e;exact kz _
  exact ju<|hb m c e
  have f':=f.look m c e
  rcases f' with⟨e1,e2⟩ |⟨e1,e2,e3⟩
  rw[dW]at e1
  split at e1
  rename_i hm
  cases e1
  have Zm:m=name:=by simpa using hm
  subst Zm
  exact .inr ⟨aq _,by simp,⟨_,kp _ _<|aT _ rfl,rfl⟩⟩
  rename_i hm
  have Zm:m≠name:=by simpa using hm
  exact .inl ⟨e1,λz=>by
   rcases aO.mp z with z |z
   exact Zm<|bi Prod.fst z
   exact e2 z⟩
  have e1':s.heap.objs.size+1<=c:=by rwa[<-U8]
  exact .inr ⟨by lia,by simp[e2],e3⟩
  rcases hm with hm |⟨c,hc⟩
  rcases aO.mp hm with z |z
  right
  have:m=name:=bi Prod.fst z
  subst this
  exact⟨s.heap.objs.size,by rw[dW];simp⟩
  exact .inl z
  right
  rw[dW]
  split
  exact⟨_,rfl⟩
  exact⟨c,hc⟩
  by_cases Vp:s.heap.objs.size+1<=c
  exact f.inj x y c (by rwa[U8]) ex ey
  have one:∀z,cl.lookup z=some c->z=name:=λz ez=>by
   rcases f.look z c ez with⟨e1,_⟩ |⟨e1,_⟩
   rw[dW]at e1
   split at e1
   rename_i hm;simpa using hm
   exact absurd (hb z c e1)<|wL hc
   exact absurd (bL (nD U8.symm) e1) Vp
  rw[one x ex,one y ey]
  have Xs:(kind==NameKind.cell)=false:=by simpa using hk
  have mem:∀m,(m,NameKind.cell)∈(name,kind)::rest↔(m,NameKind.cell)∈rest:=λm=>by
   constructor
   intro z
   rcases aO.mp z with z |z
   exact absurd (bi Prod.snd z).symm hk
   exact z
   intro z;simp[z]
  refine aj ?_
  show wpAny M A (if(kind==NameKind.cell)=true then _ else _) _ _ s
  rw[Xs,ap aK]
  refine aR (qy rest cells s Q hb λcl h kp f=>q cl h kp ⟨λm c e=>?_,λm hm=>f.has m ?_,f.inj⟩)
  rw[mem];exact f.look m c e
  rw[mem]at hm;exact hm
def Du{s:Shared}{scope:Scope}{env:Env}{cl:List (Str×Addr)}{Q:Env->Shared->Prop}(hb:∀m c,cl.lookup m=some c->c<s.heap.objs.size)(h:∀Yk h',(∀b o,s.heap.get? b=some o->h'.get? b=some o)->(∃m,h'.Ns s.heap.objs.size m)->FC scope.names cl s.heap.objs.size Yk h'->Q {scope:=scope,locals:=s.heap.objs.size,globals:=env.globals,cells:=Yk,qual:=env.qual,func:=none,code:=env.code,frame:=env.frame,builtins:=env.builtins} {s with heap:=h'}):wpAny M A (newFunctionEnv scope env.globals cl [] env.qual none .none<|some env) Q E s:=by
 refine aj<|wpAny_alloc ?_;have U8:(s.heap.push {cls:=Value.type "dict",data:=Data.dict #[]}).objs.size=s.heap.objs.size+1:=by rw[iX]
 refine aj (qy scope.names cl _ _ (λm c e=>?_) λYk h' kp f=>?_);show c<(s.heap.push {cls:=Value.type "dict",data:=Data.dict #[]}).objs.size;rw[U8];exact ju<|hb m c e;refine aj<|aR<|aR ?_;obtain⟨o,es,ep,g1,g2,g3,g4⟩:=Heap.Ns.new s.heap<|.type "dict";refine h Yk h' (λb o e=>kp b o<|aD _ e) ⟨_,o,es,ep,kp _ _ g1,g2,g3,g4⟩ ⟨λm c e=>?_,f.has,λx y c hc ex ey=>?_⟩;rcases f.look m c e with z |⟨z1,z2,z3⟩;exact .inl z;have z1':s.heap.objs.size+1<=c:=bL (nD U8.symm) z1;exact .inr ⟨Nat.le_of_succ_le z1',z2,z3⟩;by_cases Vp:s.heap.objs.size+1<=c;exact f.inj x y c (bL (nD U8) Vp) ex ey;rcases f.look x c ex with⟨z,_⟩ |⟨z,_⟩;exact absurd (hb x c z)<|wL hc;have z':s.heap.objs.size+1<=c:=bL (nD U8.symm) z;exact absurd z' Vp
structure UW(X X':Cx)(N':dZ)(Xl:Scope)(ow:Str->Bool):Prop where
 UP:WK X' N' Xl
 cal:X'.calm=X.calm
 prog:X'.prog=X.prog
 w':X'.w=X.w
 k':X'.K=X.K
 VR:X'.mg=X.mg
 VH:X'.base=X.base
 a':X'.A=X.A
 fn':∀x,ow x=true->X'.fn x=true
structure Vo(X X':Cx)(N':dZ)(Xl:Scope)(ow:Str->Bool):Prop where
 at':At X' N' Xl
 prog:X'.prog=X.prog
 w':X'.w=X.w
 k':X'.K=X.K
 VR:X'.mg=X.mg
 VH:X'.base=X.base
 a':X'.A=X.A
 fn':∀x,ow x=true->X'.fn x=true
section
variable {X:Cx}{ow:Str->Bool}
def UW.calm(h:UW X X' N' Xl ow)(hc:X.calm=true):Vo X X' N' Xl ow:=⟨h.UP.at<|h.cal.trans hc,h.prog,h.w',h.k',h.VR,h.VH,h.a',h.fn'⟩
def Vo.callee{C:bX->D->Prop}(h:Vo X X' N' Xl ow)(c:Callee X x C):Callee X' x C:=by let⟨f,fd,ps,k,F,hr,hm,hk,hb⟩:=c;refine⟨f,fd,ps,k,?_,?_,?_,?_,?_⟩;rwa[h.prog,h.w',h.k',h.VR,h.VH];rwa[h.a'];rwa[h.VR];rwa[h.k'];rwa[h.k']
end
inductive TU(X:Cx)(tg elt:Expr)(ifs:xu):bX->fx->bX->Prop where
 |nil {U:fx}:TU X tg elt ifs [] U []
 |take {d r:D} {ds rs:bX} {U Uf:fx}:Uw X U tg d Uf->(ifs=[]\/∃c,ifs=[c]/\TC X Uf c true)->Tz X Uf elt r->TU X tg elt ifs ds Uf rs->TU X tg elt ifs (d::ds) U (r::rs)
 |skip {d:D} {ds rs:bX} {U Uf:fx} {c:Expr}:Uw X U tg d Uf->ifs=[c]->TC X Uf c false->TU X tg elt ifs ds Uf rs->TU X tg elt ifs (d::ds) U rs
section
variable {R:Result->Shared->Prop}
def Cf{env:Env}(I:Nat->Shared->Prop)(turn:∀n s,I n s->wpAny (model prog w) A (pyNext it) (λr s₁=>match r with
   |none=>R (.ok .next) s₁
   |some v=>wpAny (model prog w) A (letOwnedTupleGo target it v) (λ_ s₀=>wpAny (model prog w) A (assign target env v) (λ_ s₂=>
     wpAny (model prog w) A (forIn ifs true λc r=>if r=true then do let ok <-isTrue c env (eval c env);pure (ForInStep.yield ok)else pure<|ForInStep.yield r) (λok s₃=>
      if ok=true then wpAny (model prog w) A (eval elt env) (λx s₄=>
       wpAny (model prog w) A (call (.builtin "list.append") [acc,x]) (λ_ s₅=>∃m,m<n/\I m s₅) (λ_ _=>False) s₄) (λ_ _=>False) s₃
      else∃m,m<n/\I m s₃) (λ_ _=>False) s₂) (λ_ _=>False) s₀) (λ_ _=>False) s₁) (λ_ _=>False) s)
  n (h:I n s):
  codeAny (model prog w) A (.compLoop (.ListComp elt [⟨target,iter,ifs,0⟩] scope pos) 0 it acc env) R s:=by
 refine codeAny_loop rfl I (λn s hI=>?_) n h
 refine wpAny_noted ?_
 rw[compTurn_list]
 refine aj<|Ax<|aj (jv (turn n s hI) (λr s₁ h₁=>?_) λ_ _ h'=>h'.elim)
 cases r with
 |none=>exact aR h₁
 |some v=>
  refine aj (jv h₁ (λ_ s₀ h₀=>aj (jv h₀ (λ_ s₂ h₂=>aj (jv h₂ (λok s₃ h₃=>?_) λ_ _ h'=>h'.elim)) λ_ _ h'=>h'.elim)) λ_ _ h'=>h'.elim)
  cases ok with
  |false=>exact aR ⟨rfl,h₃⟩
  |true=>
   exact aj<|aj (jv h₃ (λx s₄ h₄=>aj (jv h₄ (λ_ s₅ h₅=>aR<|aR ⟨rfl,h₅⟩) λ_ _ h'=>h'.elim)) λ_ _ h'=>h'.elim)
end
def Ok.WC{p:Addr}(k:Ok K B F H Y U)(hf:F p=none)(hb:B.H p=none)(hn:Ub Y U p)(hl:∃vs,H p=some (.lst vs)):Ok K B F (hU H p o) Y U:=by
 refine⟨⟨λb u q=>?_,λb u q=>?_,k.sf,k.nw⟩,k.len,k.vals,λi xs e=>?_,k.dist,k.UK.to (.refl _) (λb φ e1 e2 _=>⟨by rwa[bK λz=>by subst z;let⟨vs,hl⟩:=hl;rw[hl]at e1;cases e1],e2⟩) λ_ _ e=>⟨e,rfl⟩⟩;have ne:b≠p:=λz=>by subst z;rw[hf]at q;cases q
 rw[bK ne];exact k.sub b u q;have ne:b≠p:=λz=>by subst z;rw[hb]at q;cases q
 rw[bK ne];exact k.sh b u q;let⟨a,vs,h1,h2,h3,h4,h5⟩:=k.Us i xs e;have ne:a≠p:=λz=>by subst z;exact hn i xs e h1
 exact⟨a,vs,h1,by rwa[bK ne],h3,h4,h5⟩
def Ok.more(k:Ok K B F H Y U)(n:Nat):Ok K B F H (Y++List.replicate n none) (U++List.replicate n .un):=by
 have get:∀(i:Nat)s,(U++List.replicate n Sl.un)[i]?=some s->s≠.un->U[i]?=some s/\(Y++List.replicate n none)[i]?=Y[i]?:=λi s h hn=>by by_cases hi:i<U.length;rw[bj hi]at h;exact⟨h,bj<|by rwa[k.len]⟩;rw[aX<|by lia,eU]at h;split at h;cases h;exact absurd rfl hn;cases h
 refine⟨k.toExt,by simp[k.len],λi d h=>?_,λi xs h=>?_,λi j xs ys a h1 h2 h3 h4=>?_,k.UK.to (.refl _) (λ_ _ e1 e2 _=>⟨e1,e2⟩) λi kvs h=>get i _ h λz=>nomatch z⟩;let⟨e1,e2⟩:=get i _ h λz=>nomatch z;rw[e2];exact k.vals i d e1;let⟨e1,e2⟩:=get i _ h λz=>nomatch z;rw[e2];exact k.Us i xs e1;let⟨e1,e2⟩:=get i _ h1 λz=>nomatch z;let⟨g1,g2⟩:=get j _ h2 λz=>nomatch z;rw[e2]at h3;rw[g2]at h4;exact k.dist i j xs ys a e1 g1 h3 h4
def l7{x:Str}{names:List (Str×NameKind)}{k:NameKind}(h:names.lookup x=some k):(x,k)∈names:=io h
def xU{scope sc:Scope}{x:Str}(hf:sc.kind=.function)(fr:∀y∈scope.names,y.2=.free->sc.names.lookup y.1=some .cell){k:NameKind}(h:(v9 scope sc).names.lookup x=some k):∃k',scope.names.lookup x=some k'/\(k'=.free->k=.cell)/\(k'≠.free->k=k'):=by
 have go:∀names:List (Str×NameKind),(∀y∈names,y.2=.free->sc.names.lookup y.1=some .cell)->(names.map λ(n,k)=>if(k==NameKind.free&&sc.kind==.function&&sc.names.lookup n==some .cell)then(n,NameKind.cell)else(n,k)).lookup x=some k->∃k',names.lookup x=some k'/\(k'=.free->k=.cell)/\(k'≠.free->k=k'):=by
  intro names;induction names with
  |nil=>intro _ h;cases h
  |cons y r ih=>
   intro fr h;let⟨n,kk⟩:=y;have hr:=ih λy hy=>fr y<|aM _ hy;by_cases Zo:kk=.free;subst Zo;have e:(if(NameKind.free==NameKind.free&&sc.kind==.function&&sc.names.lookup n==some .cell)=true then(n,NameKind.cell)else(n,NameKind.free))=(n,NameKind.cell):=by have Vp:sc.names.lookup n=some .cell:=fr (n,.free) bA rfl;rw[Vp,hf];rfl
   rw[eG]at h;simp only[e]at h;rw[dW]at h ⊢;cases hx:x==n with
   |true=>rw[hx]at h;cases h;exact⟨.free,rfl,λ_=>rfl,λz=>absurd rfl z⟩
   |false=>rw[hx]at h;exact hr h
   have e:(if(kk==NameKind.free&&sc.kind==.function&&sc.names.lookup n==some .cell)=true then(n,NameKind.cell)else(n,kk))=(n,kk):=by rw[rR.mpr Zo];rfl
   rw[eG]at h;simp only[e]at h;rw[dW]at h ⊢;cases hx:x==n with
   |true=>rw[hx]at h;cases h;exact⟨_,rfl,λz=>absurd z Zo,λ_=>rfl⟩
   |false=>rw[hx]at h;exact hr h
 exact go scope.names fr h
def Rq(X:Cx)(N':dZ)(scope:Scope)(cl:List (Str×Addr))(C:Addr)(s3:Shared)(H3:Hp)(fp:List Addr):Cx:={X with N:=N',s₀:=s3,H₀:=H3,env:=compEnvC scope cl C X.env,outer:=X.stack,stack:=X.stack,ex:=fp,fn:=Dq scope,pn:=[],xe:=λ_ _=>False}
section
variable {X:Cx}{tn:Nat->Heap->Prop}{J:It}
def Pf{cl VT:List (Str×Addr)}(t:WK X N sc)(S:qW N sc N' scope)(I3:Inv X on Y H3 s3)(VG:∀n c,VT.lookup n=some c->X.env.cells.lookup n=some c)(VM:∀n,(n,NameKind.free)∈scope.names->∃c,VT.lookup n=some c)(CN:FC scope.names VT s3.heap.objs.size cl h₁)(fo:∀b∈fp,tO X on H3 b)(fl:∀b∈fp,b<s3.heap.objs.size):(Rq X N' scope cl s3.heap.objs.size s3 H3 fp).Ok:=by
 refine⟨I3.ok.mod,?_,I3.ok.glob,I3.ok.blt,aq _,λx y c h1 h2=>?_,λx hx=>?_,(λx c hf h=>?_),I3.ok.hd,I3.ok.frames,.inl rfl,λb hb=>⟨?_,λx c h=>?_⟩,I3.bs,bL I3.ok.WY I3.sz,λb o h hb=>?_,λb hb h=>?_,I3.stack,I3.Vy⟩;exact S.kind;by_cases hc:s3.heap.objs.size<=c;exact CN.inj x y c hc h1 h2;have old:∀z,cl.lookup z=some c->X.env.cells.lookup z=some c:=λz ez=>by rcases CN.look z c ez with⟨e,_⟩ |⟨e,_⟩;exact VG z c e;exact absurd e hc
 exact I3.ok.inj x y c (old x h1)<|old y h2;have U1:(relabel scope X.env).names.lookup x=some .cell\/(relabel scope X.env).names.lookup x=some .free:=hx;rw[Bz t.eS]at U1;have hk:∃k,(k=NameKind.cell\/k=.free)/\(v9 scope sc).names.lookup x=some k:=by rcases U1 with h |h;exact⟨_,.inl rfl,h⟩;exact⟨_,.inr rfl,h⟩
 let⟨k,hk,h⟩:=hk;let⟨k',h1,h2,h3⟩:=xU S.Yd S.free h;by_cases hf:k'=.free;subst hf;exact CN.has x<|.inr<|VM x<|l7 h1;have e:=h3 hf;rcases hk with hk |hk;have e':=e.symm.trans hk;subst e';exact CN.has x<|.inl<|l7 h1;exact absurd (e.symm.trans hk) hf;have hm:(x,NameKind.cell)∈scope.names:=by
  have Xd:Dq scope x=true:=hf;unfold Dq at Xd;cases e:scope.names.lookup x with
  |none=>rw[e]at Xd;cases Xd
  |some kk=>rw[e]at Xd;cases kk<;>first |exact l7 e |cases Xd
 rcases CN.look x c h with⟨_,e⟩ |⟨e,_⟩;exact absurd hm e;exact e;exact bU<|fl b hb;rcases CN.look x c h with⟨e,_⟩ |⟨e,_⟩;exact(fo b hb).2.2.2.2.1 x c<|VG x c e;exactλz=>absurd (fl b hb) (by rw[<-z];exact wL e);rcases(fo b hb).2.2.2.1 with z |z;exact I3.ok.V0 b o h z;have h1:=aQ h;exact absurd (aE h1<|bL I3.ok.WY z)<|eY _;have h':b∈Es X.stack:=h;rcases aO.mp (I3.Vr b h')with z |z;exact(fo b hb).2.1 z;exact(fo b hb).2.2.1 z
def Mv{tk:Nat}{cl VT:List (Str×Addr)}(t:WK X N sc)(S:qW N sc N' scope)(I3:Inv X on Y H3 s3)(VG:∀n c,VT.lookup n=some c->X.env.cells.lookup n=some c)(VM:∀n,(n,NameKind.free)∈scope.names->∃c,VT.lookup n=some c)(CN:FC scope.names VT s3.heap.objs.size cl h₁)(fo:∀b∈fp,tO X on H3 b)(fl:∀b∈fp,b<s3.heap.objs.size)(X1:∃m,h₁.Ns s3.heap.objs.size m)(kp:∀b o,s3.heap.get? b=some o->h₁.get? b=some o):Inv (Rq X N' scope cl s3.heap.objs.size s3 H3 fp) [] (Y++List.replicate (N'.length-N.length) none) H3 {s3 with heap:=h₁,toks:=tk}:=by
 obtain⟨m,hm⟩:=X1;have hlen:Y.length=N.length:=by rw[I3.len,t.eN]
 refine⟨Pf t S I3 VG VM CN fo fl,rfl,I3.bare,Un.kept kp,⟨m,hm,λi x v h1 h2 h3=>?_⟩,λx c h=>?_,I3.TV.fresh<|aq _,λx c h=>(CN.look x c h).elim (λz=>I3.Ut x c<|VG x c z.1) λz=>I3.TV.fresh z.1,(λp hp=>nomatch hp),I3.TV.kept kp,?_⟩;have hi:i<Y.length:=by by_cases hi:i<Y.length;exact hi;rw[aX<|by lia,eU]at h2;split at h2<;>cases h2
 rw[bj hi]at h2;have h3':Q5 (v9 scope sc) x:=by rw[<-Bz t.eS];exact h3
 have hv:oO (v9 scope sc) x=true:=by unfold oO;rcases h3' with z |z |z<;>rw[z]
 obtain⟨e1,e2⟩:=S.old i x (by lia) h1 hv;have UM:=S.free _ (l7 e2) rfl;obtain⟨m0,hn0,hl0⟩:=I3.loc;obtain⟨u,ru,lk⟩:=hl0 i x v (by rwa[t.eN]) h2 (by rw[t.eS];exact .inr<|.inl UM);refine⟨u,ru,?_⟩;have hkx:X.env.kindOf x=some .cell:=by show X.env.scope.names.lookup x=_;rwa[t.eS]
 rcases lk with⟨k,_⟩ |⟨_,c,hc,YD⟩;rw[hkx]at k;cases k;obtain⟨c',Vp⟩:=CN.has x<|.inr<|VM x<|l7 e2;have ho:VT.lookup x=some c':=by rcases CN.look x c' Vp with⟨z,_⟩ |⟨_,z,_⟩;exact z;have z':=S.cells _ z rfl;rw[e2]at z';cases z'
 have e:=bS<|(VG x c' ho).symm.trans hc;subst e;refine .inr ⟨?_,c',Vp,?_⟩;show(relabel scope X.env).names.lookup x=_\/(relabel scope X.env).names.lookup x=_;rw[Bz t.eS];rcases h3' with z |z |z;obtain⟨k',g1,g2,g3⟩:=xU S.Yd S.free z;by_cases Xs:k'=.free;have:=g2 Xs;cases this;have e:=g3 Xs;subst e;rw[e2]at g1;cases g1;exact .inl z;exact .inr z;obtain⟨oc,ho,hd⟩:=YD;exact⟨oc,kp _ _ ho,hd⟩;rcases CN.look x c h with⟨z,_⟩ |⟨_,_,z⟩;obtain⟨v,oc,ho,hd⟩:=I3.cell x c<|VG x c z;exact⟨v,oc,kp _ _ ho,hd⟩;exact⟨_,z⟩;show(Y++List.replicate (N'.length-N.length) none).length=N'.length;have:=S.len;rw[aJ,AA,hlen];lia
end
def Rg(X:Cx)(on:iB)(Y:St)(F2 H2:Hp)(rs:bX)(D' C:Addr)(s':Shared):Prop:=∃(F' H':Hp)(vs:gW)(m:AD),Inv X on Y H' s'/\s'.heap.Ns C m/\H' C=none/\C≠X.env.locals/\X.s₀.heap.objs.size<=C/\(∀x c,X.env.cells.lookup x=some c->c≠C)/\(∀p∈X.pn++on,p.1≠C)/\Ext ⟨F2,H2⟩ F' H'/\H2 D'=none/\H' D'=some (.lst vs)/\F' D'=none/\TF X.K F' vs rs/\D'≠C
section
variable {X:Cx}{tn:Nat->Heap->Prop}{J:It}
theorem HQ{s3:Shared}{DD C:Addr}{h₁:Heap}{tk:Nat}{cl VT:List (Str×Addr)}(t:WK X N sc)(md:X.calm=true\/(J.X0/\Rf X.A H2))(S:qW N sc N' scope)(hC:s3.heap.objs.size=C)(ZA:DD≠C)(I3:Inv X on Y (hU H2 DD<|.lst []) s3)(WB:H2 DD=none)(Xx:∀b∈fp,tO X on (hU H2 DD<|.lst []) b)(fl3:∀b∈fp,b<s3.heap.objs.size)(T:Av X.prog X.w X.K tg J fp it tn)(tn3:tn 0 s3.heap)(Xc:∃m,h₁.Ns s3.heap.objs.size m)(kp4:∀b o,s3.heap.get? b=some o->h₁.get? b=some o)(k2:Ok X.K B F2 H2 Y U)(JO:wF X.K J F2 ds)(hz:ds.length<sizeLine)(VG:∀n c,VT.lookup n=some c->X.env.cells.lookup n=some c)(VM:∀n,(n,NameKind.free)∈scope.names->∃c,VT.lookup n=some c)(CN:FC scope.names VT s3.heap.objs.size cl h₁)(run:∀X',UW X X' N' (v9 scope sc) (Dq scope)->TU X' tg elt ifs ds (U++List.replicate (N'.length-N.length) .un) rs){RR:Value->Addr->Result->Shared->Prop}(Zz:∀D' C s',Rg X on Y F2 H2 rs D' C s'->RR (.ref D') C (.ok .next) s'):codeAny (model X.prog X.w) X.A (.compStart (.ListComp elt [⟨tg,iter,ifs,0⟩] scope pos) 0 (.ref it) (.ref DD)<|compEnvC scope cl C X.env) (RR (.ref DD) C) {s3 with heap:=h₁,toks:=tk}:=by
 have I4:Inv (Rq X N' scope cl C s3 (hU H2 DD<|.lst []) fp) [] (Y++List.replicate (N'.length-N.length) none) (hU H2 DD<|.lst []) {s3 with heap:=h₁,toks:=tk}:=by have q:=Mv (tk:=tk) t S I3 VG VM CN Xx fl3 Xc kp4;rwa[hC]at q
 generalize WW:Rq X N' scope cl C s3 (hU H2 DD<|.lst []) fp=X' at I4;have cx:UW X X' N' (v9 scope sc) (Dq scope):=by subst WW;exact⟨⟨rfl,Bz t.eS,S.nd,rfl,t.un,t.dp,t.tree,t.fr⟩,rfl,rfl,rfl,rfl,rfl,rfl,rfl,λx hx=>hx⟩
 have md':X'.calm=true\/(J.X0/\Px X'):=by
  rcases md with z |⟨z,ea,oe,u,vs,k1,k2,k3,k4⟩;exact .inl<|cx.cal.trans z;refine .inr ⟨z,ea,oe,u,vs,by rwa[cx.a'],?_,k3,k4⟩;have e:X'.H₀=hU H2 DD (.lst []):=by subst WW;rfl
  rwa[e,bK<|eZ k2 WB]
 have run':=run X' cx;have eP:=cx.prog;have eW:=cx.w';have eA:=cx.a';have eK:=cx.k';have Wg:X'.env=compEnvC scope cl C X.env:=by subst WW;rfl
 have eX:=cx.UP.VB;have Yf:X'.ex=fp:=by subst WW;rfl
 have ePn:X'.pn=[]:=by subst WW;rfl
 have k4:Ok X.K B F2 (hU H2 DD<|.lst []) (Y++List.replicate (N'.length-N.length) none) (U++List.replicate (N'.length-N.length) .un):=(k2.Yc WB).more _;have no4:Ub (Y++List.replicate (N'.length-N.length) none) (U++List.replicate (N'.length-N.length) .un) DD:=(k2.more _).noOwn WB;have bD:=k2.sh.free WB;have fD:=k2.sub.free WB;have ZE:∀{H':Hp},(∀b∈fp,H' b=none)->∀b∈fp,tO X' [] H' b:=λ{H'}hn b hb=>by refine⟨hn b hb,?_,?_,.inl<|by rwa[Yf],λx c h=>?_,λp hp=>?_⟩;exact(I4.ok.YF b<|by rwa[Yf]).1;exact I4.ok.We b (by rwa[Yf]);exact(I4.ok.YF b<|by rwa[Yf]).2 x c h;rw[ePn]at hp;exact nomatch hp
 have fin:∀(T0:St)(F' H':Hp)vs(s':Shared),Inv X' [] T0 H' s'->Ext ⟨F2,H2⟩ F' H'->H' DD=some (.lst vs)->F' DD=none->TF X.K F' vs rs->RR (.ref DD) C (.ok .next) s':=λT0 F' H' vs s' I' x' h1 h2 h3=>by
  refine Zz DD C s' ?_;have base:=I'.base;have WU:=I'.os;have X6:=I'.TV;have Vj:=I'.free;obtain⟨m,hm,_⟩:=I'.loc;rw[Wg]at Vj hm;rw[Yf]at base;have e1:X'.fs=Es X.stack:=by subst WW;rfl
  have e2:X'.H₀=hU H2 DD (.lst []):=by subst WW;rfl
  have e3:X'.s₀=s3:=by subst WW;rfl
  rw[e1,e2,e3]at base;rw[e3]at WU;rw[eP,eW]at X6;refine⟨F',H',vs,m,I3.Ym WU base X6 I'.bare λb hb=>⟨(Xx b hb).2.2.2.1,(Xx b hb).2.1,(Xx b hb).2.2.2.2.1,(Xx b hb).2.2.2.2.2⟩,hm,Vj,?_,?_,λx c h z=>?_,λp hp z=>?_,x',WB,h1,h2,h3,ZA⟩;have:=I3.lt;rw[hC]at this;exactλz=>absurd (z▸this)<|eY _;have:=I3.sz;rw[hC]at this;exact this;obtain⟨v,q⟩:=I3.cell x c h;have:=q.lt;rw[hC,z]at this;exact absurd this<|eY _;have:=aQ (I3.pin p hp).1;rw[hC,z]at this;exact absurd this<|eY _
 have ZU:=T.keep 0 _ _ tn3 λb hb o e=>kp4 b o e;have loop:∀s4:Shared,s4={s3 with heap:=h₁,toks:=tk}->codeAny (model X.prog X.w) X.A (.compLoop (.ListComp elt [⟨tg,iter,ifs,0⟩] scope pos) 0 (.ref it) (.ref DD)<|compEnvC scope cl C X.env) (RR (.ref DD) C) s4:=by
  rintro s4 rfl;obtain⟨P,hP⟩:∃P:Nat->Shared->Prop,P=λn s'=>∃(i:Nat)(T0:St)(F' H':Hp)(TW:fx)(vs:gW)(r0 r1:bX),Inv X' [] T0 H' s'/\tn i s'.heap/\(∀b∈fp,H' b=none)/\Ok X.K B F' H' T0 TW/\Ext ⟨F2,H2⟩ F' H'/\H' DD=some (.lst vs)/\F' DD=none/\Ub T0 TW DD/\TF X.K F' vs r0/\TU X' tg elt ifs (ds.drop i) TW r1/\r0++r1=rs/\r0.length<=i/\i<=ds.length/\n=ds.length+1-i:=⟨_,rfl⟩;refine Cf P ?_ (ds.length+1)<|hP▸⟨0,_,F2,_,_,[],[],rs,I4,ZU,λb hb=>(Xx b hb).1,k4,⟨k2.sub.trans<|bh WB,bh WB,.refl _,λa h=>.inl h⟩,cf,fD,no4,.nil,by simpa using run',rfl,cQ _,cQ _,by simp⟩;intro n s' hs;rw[hP]at hs;obtain⟨i,T0,F',H',TW,vs,r0,r1,I',ZT,fpi,k',x',hH,hF,no',rv,cr,er,hr0,hi,rfl⟩:=hs;have JO':=JO i F' H' x'.sf k'.sub;have TI:=T.item X' eP eW eK md' i [] s' T0 H' (λ_ _=>False) I' (ZE fpi) ZT;have TD:=T.done X' eP eW eK md' i [] s' T0 H' (λ_ _=>False) I' (ZE fpi) ZT;rw[eA]at TI TD;generalize e1:ds.drop i=rest at cr
  have stepI:∀{TT:Shared->Prop}{d:D}{Uf:fx}(hd:ds[i]?=some d)(g:Uw X' TW tg d Uf)(K:∀(Ua:iB)(s5:Shared)(UF:St)(F5 H5:Hp),Inv X' Ua UF H5 s5->Ok X.K B F5 H5 UF Uf->Ext ⟨F2,H2⟩ F5 H5->H5 DD=some (.lst vs)->F5 DD=none->Ub UF Uf DD->TF X.K F5 vs r0->(∀(s6:Shared)(Wp:St)(H6:Hp),Inv X' Ua Wp H6 s6->Inv X' [] Wp H6 s6/\tn (i+1) s6.heap/\∀b∈fp,H6 b=none)->TT s5),ge X (pyNext<|.ref it) (λr s₁=>match r with
   |none=>RR (.ref DD) C (.ok .next) s₁
   |some v=>ge X (letOwnedTupleGo tg (.ref it) v) (λ_ s₀=>ge X (assign tg (compEnvC scope cl C X.env) v) (λ_=>TT) (λ_ _=>False) s₀) (λ_ _=>False) s₁) (λ_ _=>False) s':=by
   intro TT d Uf hd g K
   obtain⟨go,yl⟩:=JO'.1 _ hd
   refine fH (TI go) λr s4 ⟨u,hr,h4⟩=>?_
   subst hr
   refine fH h4 λ_ s5 ⟨x,H5,I5,r5,y5,W0,ZD⟩=>?_
   obtain⟨F5,x5,rx⟩:=yl x H5 y5
   have gg:=g B F5 H5 T0 x (λWp H6=>H6=H5/\Ok X.K B F5 H5 Wp Uf/\Ub Wp Uf DD) (by rw[eK];exact k'.ext x5) (by rwa[eK]) (λWp k6 n6=>⟨rfl,by rw[eK]at k6;exact k6,n6 DD no'⟩) _ s5 u (I5.pinned (ZE ZD)<|T.obj _ _ W0) r5
   unfold ge at gg;rw[eP,eW,eA,Wg,eX]at gg
   refine fH gg λ_ s6 ⟨Wp,H6,I6,e6,k6,n6⟩=>?_
   subst e6
   refine K _ s6 Wp F5 H6 I6 k6 (x'.t x5) (x5.sh _ _ hH) ?_ n6 (rv.mono x5.sf) λs7 WP H7 I7=>⟨I7.UB,T.keep _ _ _ W0 λb hb o e=>(I7.pin (b,o)<|df _<|df _<|oD hb e).1,λb hb=>?_⟩
   exact x5.kf hF hH
   obtain⟨o,e,d⟩:=T.obj _ _ W0 b hb
   exact(I7.pin (b,o)<|df _<|df _<|oD hb e).2.1
  have Ye:∀{d r:D}{VX Wk:bX}{Uf:fx}(Uv:i<ds.length)(Xe:ds.drop (i+1)=VX)(ev:Tz X' Uf elt r)(Yi:TU X' tg elt ifs VX Uf Wk)(ZH:r0++(r::Wk)=rs)(Ua:iB)(s5:Shared)(UF:St)(F5 H5:Hp),Inv X' Ua UF H5 s5->Ok X.K B F5 H5 UF Uf->Ext ⟨F2,H2⟩ F5 H5->H5 DD=some (.lst vs)->F5 DD=none->Ub UF Uf DD->TF X.K F5 vs r0->(∀(s6:Shared)(Wp:St)(H6:Hp),Inv X' Ua Wp H6 s6->Inv X' [] Wp H6 s6/\tn (i+1) s6.heap/\∀b∈fp,H6 b=none)->ge X (eval elt<|compEnvC scope cl C X.env) (λx s₄=>ge X (call (.builtin "list.append") [.ref DD,x]) (λ_ s₅=>∃m,m<ds.length+1-i/\P m s₅) (λ_ _=>False) s₄) (λ_ _=>False) s5:=by
   subst hP;intro d r VX Wk Uf Uv Xe ev Yi ZH Ua s5 UF F5 H5 I5 k5 x5 h5 f5 n5 W2 back;have ee:=ev B F5 H5 UF (λv H6=>∃F6,Ext ⟨F5,H5⟩ F6 H6/\Rep X.K F6 v r) (by rwa[eK]) (λv F6 H6 x6 r6=>⟨F6,x6,by rw[eK]at r6;exact r6⟩) Ua s5 I5;unfold ge at ee;rw[eP,eW,eA,Wg,eX]at ee;refine fH ee λu s6 ⟨v,H6,I6,ru,F6,x6,r6⟩=>?_;have h6:=x6.sh _ _ h5;have f6:=x6.kf f5 h5;have hlen:vs.length<sizeLine:=by have:=W2.length;lia
   have app:=AZ Ua s6 UF H6 (.ref DD) [v] (.ref DD) [u] (λz H7=>H7=hU H6 DD (.lst<|vs++[v])) I6 rfl (.cons ru .nil) ⟨DD,vs,v,rfl,rfl,h6,hlen,rfl⟩;unfold ge at app;rw[eP,eW,eA,eX]at app;refine fH app λ_ s7 ⟨z,H7,I7,_,e7⟩=>?_;subst e7;obtain⟨I8,t8,f8⟩:=back s7 UF _ I7;have x7:=x5.t x6;refine⟨ds.length+1-(i+1),by lia,i+1,UF,F6,_,Uf,vs++[v],r0++[r],Wk,I8,t8,f8,(k5.ext x6).WC f6 bD n5 ⟨_,h6⟩,⟨λb w q=>?_,λb w q=>?_,x7.sf,x7.nw⟩,cf,f6,n5,(W2.mono x6.sf).append<|.cons r6 .nil,by rwa[Xe],by rwa[ff],by rw[aJ,cj];lia,Uv,rfl⟩;have ne:b≠DD:=λz=>by subst z;rw[f6]at q;cases q
   rw[bK ne];exact x6.sub b w q;have ne:b≠DD:=λz=>by subst z;have q':H2 b=some w:=q;rw[WB]at q';cases q'
   rw[bK ne];exact x7.sh b w q
  cases cr with
  |nil=>
   have hl:ds.length<=i:=by have:=bi List.length e1;rw[du,qY]at this;lia
   refine fH (TD<|JO'.2 hl) λr s4 ⟨hr,I4'⟩=>?_;subst hr;rw[iV]at er;subst er;exact fin T0 F' H' vs s4 I4' x' hH hF rv
  |@take d r YG rs0 ρ0 Uf g ci ev Yi=>obtain⟨hd,Xe,Uv⟩:=rM e1;refine stepI hd g λUa s5 UF F5 H5 I5 k5 x5 h5 f5 n5 W2 back=>?_;rcases ci with rfl |⟨c,rfl,et⟩;refine wpAny_tests_nil ?_;rw[am rfl];exact Ye (d:=d) Uv Xe ev Yi er Ua s5 UF F5 H5 I5 k5 x5 h5 f5 n5 W2 back;have tt:=et B F5 H5 UF (λb H6=>b=true/\∃F6,Ext ⟨F5,H5⟩ F6 H6) (by rwa[eK]) (λF6 H6 x6=>⟨rfl,F6,x6⟩) Ua s5 I5;unfold ge at tt;rw[eP,eW,eA,Wg,eX]at tt;refine wpAny_tests_one (fH tt λb s6 ⟨H6,I6,eb,F6,x6⟩=>?_);subst eb;rw[am rfl];have f6:=x6.kf f5 h5;exact Ye (d:=d) Uv Xe ev Yi er Ua s6 UF F6 H6 I6 (k5.ext x6) (x5.t x6) (x6.sh _ _ h5) f6 n5 (W2.mono x6.sf) back
  |@skip d YG rs0 ρ0 Uf c g hc et Yi=>obtain⟨hd,Xe,Uv⟩:=rM e1;subst hc;refine stepI hd g λUa s5 UF F5 H5 I5 k5 x5 h5 f5 n5 W2 back=>?_;have tt:=et B F5 H5 UF (λb H6=>b=false/\∃F6,Ext ⟨F5,H5⟩ F6 H6) (by rwa[eK]) (λF6 H6 x6=>⟨rfl,F6,x6⟩) Ua s5 I5;unfold ge at tt;rw[eP,eW,eA,Wg,eX]at tt;refine wpAny_tests_one (fH tt λb s6 ⟨H6,I6,eb,F6,x6⟩=>?_);subst eb;rw[ap aK];obtain⟨I8,t8,f8⟩:=back s6 UF _ I6;subst hP;exact⟨ds.length+1-(i+1),by lia,i+1,UF,F6,H6,Uf,vs,r0,_,I8,t8,f8,k5.ext x6,x5.t x6,x6.sh _ _ h5,x6.kf f5 h5,n5,W2.mono x6.sf,by rwa[Xe],er,by lia,Uv,rfl⟩
 exact codeAny_compStart_list (loop _ rfl)<|T.self _ 0 _ _ _ ZU<|loop _ rfl
def D8{cl:List (Str×Addr)}(t:WK X N sc)(md:X.calm=true\/(J.X0/\Rf X.A H2))(S:qW N sc N' scope)(I2:Inv X on Y H2 s2)(T:Av X.prog X.w X.K tg J fp it tn)(t0:tn 0 s2.heap)(fo2:∀b∈fp,tO X on H2 b)(k2:Ok X.K B F2 H2 Y U)(JO:wF X.K J F2 ds)(hz:ds.length<sizeLine)(VG:∀n c,cl.lookup n=some c->X.env.cells.lookup n=some c)(VM:∀n,(n,NameKind.free)∈scope.names->∃c,cl.lookup n=some c)(run:∀X',UW X X' N' (v9 scope sc) (Dq scope)->TU X' tg elt ifs ds (U++List.replicate (N'.length-N.length) .un) rs){RR:Value->Addr->Result->Shared->Prop}(Zz:∀D' C s',Rg X on Y F2 H2 rs D' C s'->RR (.ref D') C (.ok .next) s'):ge X (newList []) (λacc s₃=>ge X (newFunctionEnv scope X.env.globals cl [] X.env.qual none .none<|some X.env) (λYl s₄=>codeAny (model X.prog X.w) X.A (.compStart (.ListComp elt [⟨tg,iter,ifs,0⟩] scope pos) 0 (.ref it) acc {Yl with scope:=relabel scope X.env}) (RR acc Yl.locals) s₄) E s₃) E s2:=by
 have Zx:∀m c,cl.lookup m=some c->c<(s2.heap.push {cls:=.type "list",data:=.seq [].toArray}).objs.size:=λm c e=>by let⟨v,q⟩:=I2.cell m c<|VG m c e;rw[iX];exact ju q.lt
 refine cn (Du Zx λYk h₁ kp₁ Xc CN=>?_);have I3:=I2.W7 (t':=s2.toks) .nil<|cQ _;have U8:(s2.heap.push {cls:=.type "list",data:=.seq [].toArray}).objs.size=s2.heap.objs.size+1:=by rw[iX]
 have ZV:∀b∈fp,b<s2.heap.objs.size:=λb hb=>by let⟨o,e,_⟩:=T.obj 0 _ t0 b hb;exact aQ e
 refine HQ t md S rfl (by rw[U8];exact bU<|kz _) I3 (I2.TV.fresh<|aq _) (λb hb=>?_) (λb hb=>?_) T (T.keep 0 _ _ t0 λb hb o e=>aD _ e) Xc kp₁ k2 JO hz VG VM CN run Zz
 let⟨f0,f1⟩:=fo2 b hb;exact⟨by rwa[bK<|bU<|ZV b hb],f1⟩;rw[U8];exact ju<|ZV b hb
end
section
variable {X:Cx}
def GW(t:WK X N sc)(S:qW N sc N' scope)(I:Inv X on Y H s):∃cl:List (Str×Addr),closureFor scope X.env=pure cl/\(∀n c,cl.lookup n=some c->X.env.cells.lookup n=some c)/\(∀n,(n,NameKind.free)∈scope.names->∃c,cl.lookup n=some c):=Fn λn hn=>I.ok.has n<|.inl<|by show X.env.scope.names.lookup n=_;rw[t.eS];exact S.free _ hn rfl
def fG(t:At X N sc)(N':dZ)(S:qW N sc N' scope)(hi:UG X U tg iter ds)(hz:ds.length<sizeLine)(run:∀X',Vo X X' N' (v9 scope sc) (Dq scope)->TU X' tg elt ifs ds (U++List.replicate (N'.length-N.length) .un) rs)(hs:∀x,foldedSetIterable iter X.env x=pure x:=by intro _;rfl):T1 X U (.ListComp elt [⟨tg,iter,ifs,0⟩] scope pos) rs:=λB F H Y Q k q=>.mk λon s I=>by obtain⟨cl,e1,e2,e3⟩:=GW t.z S I;rw[eval_ListComp];refine wpAny_comprehension_free (use:=none) rfl hs e1 S.kind S.names (fH (hi B F H Y (λJ H1=>∃F1,Ext ⟨F,H⟩ F1 H1/\wF X.K J F1 ds) k (λJ F' H' x j=>⟨F',x,j⟩) on s I) λv s1 h=>fH h λYv s2 h2=>?_);obtain⟨it,fp,tn,J,H',e,I2,T,t0,fo,F1,x1,JO⟩:=h2;subst e;refine D8 (RR:=λacc C=>compPost (model X.prog X.w) X.A X.xe none (EP X on Y Q) acc C) t.z (.inl t.calm) S I2 T t0 fo (k.ext x1) JO hz e2 e3 (λX' c0=>run X'<|c0.calm t.calm) ?_;rintro D' C s' ⟨F',Xz,vs,m,IX,hm,h0,hL,Zd,YC,Zg,x',X9,hd,hf,rv,ZA⟩;refine⟨m,hm,λh'' sb=>?_⟩;have IX':Inv X on Y Xz {s' with heap:=h''}:=IX.turned (t':=s'.toks) (it:=C) (λb o hb e=>sb.extBut b o hb e) h0 hL (.inr Zd) YC Zg;exact⟨.ref D',Xz,IX',rfl,q D' vs F' Xz (x1.t x') (x1.sh.free X9) hd hf rv⟩
def rc{XD:Pos}[VI X](t:At X N sc)(i:Nat)(N':dZ)(S:qW N sc N' scope)(hi:UG X U tg iter ds)(hz:ds.length<sizeLine)(run:∀X',Vo X X' N' (v9 scope sc) (Dq scope)->TU X' tg elt ifs ds (U++List.replicate (N'.length-N.length) .un) rs)(Ww:swapsWith (.ListComp elt [⟨tg,iter,ifs,0⟩] scope pos) (some<|.Name y py) XD.line (dE sc)=pure true:=by rfl)(hN:N[i]?=some y:=by rfl)(hy:vC sc y=true:=by rfl)(hs:∀x,foldedSetIterable iter X.env x=pure x:=by intro _;rfl):Up X U (.Assign [.Name y py] (.ListComp elt [⟨tg,iter,ifs,0⟩] scope pos) XD) (.nx<|U.set i<|.own rs):=λB F H Y E k q=>.mk λon s I=>by
 let⟨cl,e1,e2,e3⟩:=GW t.z S I;rw[exec_Assign_Name_used _ _ _ _<|(IP<|t.eS).trans Ww];refine aj<|Ax<|aj ?_;refine aj (jv (wpAny_comprehension_free (use:=some<|assign (.Name y py) X.env) (Q:=λ_ s'=>SP X on E .next s') rfl hs e1 S.kind S.names (fH (hi B F H Y (λJ H1=>∃F1,Ext ⟨F,H⟩ F1 H1/\wF X.K J F1 ds) k (λJ F' H' x j=>⟨F',x,j⟩) on s I) λv s1 h=>fH h λYv s2 h2=>?_)) (λ_ s' hq=>aR<|aR hq) λ_ _ e=>e);let⟨it,fp,tn,J,H',e,I2,T,t0,fo,F1,x1,JO⟩:=h2;subst e;refine D8 (RR:=λacc C=>compPost (model X.prog X.w) X.A X.xe (some<|assign (.Name y py) X.env) (λ_ s'=>SP X on E .next s') acc C) t.z (.inl t.calm) S I2 T t0 fo (k.ext x1) JO hz e2 e3 (λX' c0=>run X'<|c0.calm t.calm) ?_;rintro D' C s' ⟨F',Xz,vs,m,IX,hm,h0,hL,Zd,YC,Zg,x',X9,hd,hf,rv,ZA⟩;refine wpAny_assign_Name<|AJ (v:=.ref D') IX t.nd (t.ix hN) (t.loc hy) rfl (λWt I'' XU=>?_) Nw;let⟨a,sb,ha⟩:=XU;have hCa:C≠a:=by rcases ha with z |z;rwa[z];exact ip<|YC y a z
 refine⟨m,hm.sameBut sb hCa,λh'' XF=>?_⟩;have I3:=I''.turned (t':=Wt.toks) (it:=C) (λb o hb e=>XF.extBut b o hb e) h0 hL (.inr Zd) YC Zg;have hH:=x1.sh.free X9;exact⟨_,Xz,I3,q F' Xz _ ((k.ext<|x1.t x').UR i hd hf (k.sh.free hH) (k.noOwn hH) rv) (x1.t x').sf⟩
def TU.all{X:Cx}(R:D->fx)(f:D->D):∀(ds:bX)(U:fx),(∀d∈ds,Uw X U tg d<|R d)->(∀d∈ds,∀e∈ds,Uw X (R d) tg e<|R e)->(∀d∈ds,Tz X (R d) elt<|f d)->TU X tg elt [] ds U (ds.map f)|[],_,_,_,_=>.nil|d::ds,U,h1,h2,h3=>.take (h1 d bA) (.inl rfl) (h3 d bA) (TU.all R f ds (R d) (λe he=>h2 d bA e<|aM _ he) (λa ha e he=>h2 a (aM _ ha) e<|aM _ he) λe he=>h3 e<|aM _ he)
end
def QZ(N:dZ)(sc:Scope)(N':dZ)(scope:Scope):Bool:=
 decide (scope.kind=.function)&&scope.names.all (λy=>decide<|y.2=.cell->scope.names.lookup y.1=some .cell)&&scope.names.all (λy=>decide<|y.2=.local->scope.names.lookup y.1=some .local)&&scope.names.all (λy=>decide<|y.2=.free->sc.names.lookup y.1=some .cell)&&decide (sc.kind=.function)&&decide N'.Nodup&&(List.range N.length).all (λi=>match N'[i]? with
   |some x=>!(oO (v9 scope sc) x)||(decide (N[i]?=some x)&&decide (scope.names.lookup x=some .free))
   |none=>true)&&decide (N.length<=N'.length)
def Ah{scope:Scope}(h:QZ N sc N' scope=true):qW N sc N' scope:=by unfold QZ at h;simp only[br,uM,cz]at h;let⟨⟨⟨⟨⟨⟨⟨h1,h2⟩,h3⟩,h4⟩,h5⟩,h6⟩,h7⟩,h8⟩:=h;refine⟨h1,h2,h3,h4,h5,h6,λi x hi hx hv=>?_,h8⟩;have q:=h7 i<|cc.mpr hi;rw[hx]at q;simp only[hv,Ew,Rk,br,uM]at q;exact q
def Fq{X:Cx}{x:Str}(hm:X.mg x=none)(g:ND sc x:=by rfl)(v:bootBuiltins x=some u:=by rfl)(n:x≠"__name__":=by decide)(d:FU x:=by rfl):so X sc x u:=⟨g,hm,v,n,d⟩
abbrev aU(f:aG):D:=.tup<|f.map D.int
abbrev ba(f:aG):D:=.lst<|f.map D.int
def xr{xs:aG}{i:Int}{n:Nat}(h0:0<=i)(hn:i.toNat=n)(h:n<xs.length):tZ (xs.map D.int) i=some (.int xs[n]):=by
 have e:i=((n:Nat):Int):=by lia
 subst e;exact MG<|by rw[aH,ar h];rfl
def qx{n:Nat}{i:Int}{j:Nat}(h0:0<=i)(hn:i.toNat=j)(h:j<n):CM n i=some j:=by unfold CM;rw[am h0,am<|by lia,hn]
def DX(xs ys:aG):PyData.eqvAll (xs.map PyData.int) (ys.map PyData.int)=decide (xs=ys):=by
 induction xs generalizing ys with
 |nil=>cases ys<;>simp[PyData.eqvAll]
 |cons x xs ih=>cases ys with|nil=>simp[PyData.eqvAll]|cons y ys=>simp only[eG,PyData.eqvAll,PyData.eqv,ih];by_cases h1:x=y<;>by_cases h2:xs=ys<;>simp[h1,h2]
def mZ(xs ys:aG):(ke<|aU xs).eqv (ke<|aU ys)=decide (xs=ys):=by show(PyData.tuple<|TZ<|xs.map D.int).eqv (.tuple<|TZ<|ys.map D.int)=_;rw[lH,lH];simp only[PyData.eqv];exact DX xs ys
def Ca(xs ys:aG):(PyData.list<|TZ<|xs.map D.int).eqv (.list<|TZ<|ys.map D.int)=decide (xs=ys):=by rw[lH,lH];simp only[PyData.eqv];exact DX xs ys
def Ea(xs:aG):PyData.canLayAll0 (xs.map PyData.int)=true:=canLayAll0_ints xs
def dH(xs:aG):SeqAt.shaped (ke<|aU xs)=true:=by
 show SeqAt.shaped (.tuple<|TZ<|xs.map D.int)=true;rw[lH];have h1:=PySem.W.depthAll_ints xs;have h2:PyData.depth (.tuple<|xs.map PyData.int)<=64:=by simp only[PyData.depth];lia
 show(PyData.canLay0 (.tuple<|xs.map PyData.int)&&decide (PyData.depth (.tuple<|xs.map PyData.int)<=64))=true;rw[br];exact⟨by simp only[PyData.canLay0];exact Ea xs,av h2⟩
def fO(xs:aG):SeqAt.shaped (PyData.list<|TZ<|xs.map D.int)=true:=by rw[lH];exact shaped_ints xs
inductive UO:fx->fx->Prop where
 |nil:UO [] []
 |keep {s:Sl} {a b:fx}:UO a b->UO (s::a) (s::b)
 |forget {s:Sl} {a b:fx}:UO a b->UO (s::a) (.un::b)
def UO.len:∀{a b:fx},UO a b->a.length=b.length
 |_,_,.nil=>rfl|_,_,.keep h=>bi Nat.succ h.len
 |_,_,.forget h=>bi Nat.succ h.len
def UO.get:∀{a b:fx},UO a b->∀(i:Nat)(s:Sl),b[i]?=some s->s≠.un->a[i]?=some s
 |_,_,.nil,_,_,h,_=>by simp at h|_,_,.keep h,0,s,e,_=>by simpa using e
 |_,_,.keep h,i+1,s,e,hn=>by simpa using h.get i s (by simpa using e) hn|_,_,.forget h,0,s,e,hn=>by simp at e;exact absurd e.symm hn
 |_,_,.forget h,i+1,s,e,hn=>by simpa using h.get i s (by simpa using e) hn
def Ok.weak(k:Ok K B F H Y a)(w:UO a b):Ok K B F H Y b:=⟨k.toExt,k.len.trans w.len,λi d h=>k.vals i d (w.get i _ h λz=>nomatch z),λi xs h=>k.Us i xs (w.get i _ h λz=>nomatch z),λi j xs ys p h1 h2=>k.dist i j xs ys p (w.get i _ h1 λz=>nomatch z) (w.get j _ h2 λz=>nomatch z),k.UK.to (.refl _) (λ_ _ e1 e2 _=>⟨e1,e2⟩) λi kvs h=>⟨w.get i _ h (λz=>nomatch z),rfl⟩⟩
section
variable {X:Cx}
def TB.weak(h:TB X U VW (.nx Uf))(w:UO Uf ρ2):TB X U VW (.nx ρ2):=λB F H Y E k q=>h B F H Y E k λF' H' T0 k' s'=>q F' H' T0 (k'.weak w) s'
end
section
variable {X:Cx}
def TC.eq{b':Bool}(h:TC X U e b)(q:b=b'):TC X U e b':=q▸h
def Tz.eq{d':D}(h:Tz X U e d)(q:d=d'):Tz X U e d':=q▸h
def T1.eq{d':bX}(h:T1 X U e d)(q:d=d'):T1 X U e d':=q▸h
def UA.eq{d':bX}(h:UA X U e k d)(q:d=d'):UA X U e k d':=q▸h
def UG.eq{d':bX}(h:UG X U tg e d)(q:d=d'):UG X U tg e d':=q▸h
def TB.eq{o':Out}(h:TB X U VW o)(q:o=o'):TB X U VW o':=q▸h
def Up.eq{st:Stmt}{o':Out}(h:Up X U st o)(q:o=o'):Up X U st o':=q▸h
end
def T5.YO{X:Cx}{ds:bX}(R:Nat->fx)(h:∀(j:Nat)d,ds[j]?=some d->∃Uf,Vn X (R j) tg d Uf/\TB X Uf body (.nx<|R<|j+1)):T5 X tg body ds (R 0) (.nx<|R ds.length):=by
 have q:=T5.of (X:=X) (tg:=tg) body R ds 0 λj d e=>by let⟨Uf,h1,h2⟩:=h j d e;exact⟨Uf,by simpa using h1,by simpa using h2⟩
 simpa using q
def T5.Ue{X:Cx}{ds:bX}{U TW:fx}(R:Nat->fx)(h:∀(j:Nat)d,ds[j]?=some d->∃Uf,Vn X (R j) tg d Uf/\TB X Uf body (.nx<|R<|j+1))(e0:R 0=U)(e1:R ds.length=TW):T5 X tg body ds U (.nx TW):=by subst e0;subst e1;exact T5.YO R h
theorem yx{X:Cx}(R:Nat->Nat->fx)(h1:∀a b:Nat,TC X (R a b) c<|decide<|0<b)(h2:∀a b:Nat,0<b->TB X (R a b) body (.nx<|R b<|a%b)):∀(n a b:Nat),b<=n->∃m,Ui X c body m (R a b) (.nx<|R (Nat.gcd a b) 0)
 |n,a,0,_=>⟨0,by rw[Nat.gcd_zero_right];exact .stop<|by have:=h1 a 0;simpa using this⟩|0,a,b+1,h=>by lia
 |n+1,a,b+1,h=>by
  let⟨m,q⟩:=yx R h1 h2 n (b+1) (a%(b+1)) (by have:=Nat.mod_lt a (show 0<b+1 by lia);lia);refine⟨m+1,.step (by have:=h1 a<|b+1;simpa using this) (h2 a (b+1)<|Nat.succ_pos b) ?_⟩;have e:Nat.gcd a (b+1)=Nat.gcd (b+1) (a%(b+1)):=by rw[zk a<|b+1,Nat.gcd_rec (b+1) a,zk]
  rwa[e]
def rC{j:Int}(h1: -(2 ^ 64)<j)(h2:j<2 ^ 64):IntMulOk i j:=.of_right<|intBits_le_64 h1 h2
def de{i j:Int}(h1: -(2 ^ 64)<i)(h2:i<2 ^ 64):IntMulOk i j:=.of_left<|intBits_le_64 h1 h2
def oN(xs:aG)(lo hi:Option Int):aG:=(xs.drop<|HT.T4 xs.length 0 lo).take<|HT.T4 xs.length xs.length hi-HT.T4 xs.length 0 lo
def uC(xs:aG)(lo hi:Option Int):HP (xs.map D.int) lo hi=(oN xs lo hi).map D.int:=by unfold HP oN;rw[ae,List.map_take,List.map_drop]
def Jm(k:Nat)(n:Int):(List.replicate k [D.int n]).flatten=(List.replicate k n).map D.int:=by induction k with|zero=>rfl|succ k ih=>rw[dk,gS,ih,dk,eG];rfl
def TU.gen{X:Cx}{α:Type}(g f:α->D)(R:α->fx):∀(xs:List α)(U:fx),(∀x∈xs,Uw X U tg (g x)<|R x)->(∀x∈xs,∀y∈xs,Uw X (R x) tg (g y)<|R y)->(∀x∈xs,Tz X (R x) elt<|f x)->TU X tg elt [] (xs.map g) U (xs.map f)|[],_,_,_,_=>.nil|x::xs,U,h1,h2,h3=>.take (h1 x bA) (.inl rfl) (h3 x bA) (TU.gen g f R xs (R x) (λe he=>h2 x bA e<|aM _ he) (λa ha e he=>h2 a (aM _ ha) e<|aM _ he) λe he=>h3 e<|aM _ he)
def TU.ints{X:Cx}{xs:aG}(f:Int->Int)(R:Int->fx)(h1:∀x∈xs,Uw X U tg (.int x)<|R x)(h2:∀x∈xs,∀y∈xs,Uw X (R x) tg (.int y)<|R y)(h3:∀x∈xs,Tz X (R x) elt<|.int<|f x):TU X tg elt [] (xs.map D.int) U ((xs.map f).map D.int):=by rw[cX];exact TU.gen D.int (λx=>.int<|f x) R xs U h1 h2 h3
def Nr:(sizeLine:Nat)=16777216:=zq
open AutoSeq1 (wpAny_loadPart')
def we{Q:v7}{s:Shared}(hit:s.heap.IsTupleIter it t i)(ht:s.heap.IsTuple t items)(hx:items[i]?=some x)(hQ:∀h',h'.IsTupleIter it t (i+1)->Heap.SameBut it s.heap h'->Q x {s with heap:=h'}):wpAny (model prog w) A (Builtin.SmallTypes.nextOf<|.ref it) Q E s:=by let⟨o,ho,hc,hd⟩:=id hit;let⟨ol,Zh,_,nl,YB⟩:=ht;refine aj<|e9 hit.typeIs lF<|gC lF hit.typeIs SX ?_<|SB _;show wpAny _ _ (field (.ref it) 0>>=_) _ _ s;refine aj<|dY ho hd (x:=.ref t) rfl ?_;rw[ap (show¬((Value.ref t==Value.none)=true)from aK)];refine aj<|dY ho hd rfl ?_;refine aj<|wpAny_seqItems Zh YB ?_;simp only[fK,hx];refine aj<|wH ho hd (by simp)<|aR ⟨x,rfl,aR<|hQ _ ?_<|mC ..⟩;exact⟨_,kB _ ho<|FN<|nU hd _,(Obj.cls_mapFields ..).trans hc,by rw[nU hd];simp[rawInt]⟩
def qm{A:Around}{E:v7}{s:Shared}(hh:A.handled=none)(hit:s.heap.IsTupleIter it t i)(ht:s.heap.IsTuple t items)(hx:items[i]?=none)(hE:∀h' e,Heap.ExtBut it s.heap h'->(∃o,h'.get? e=some o/\o.cls=.type "StopIteration")->E (.ref e) {s with heap:=h'}):wpAny (model prog w) A (Builtin.SmallTypes.nextOf<|.ref it) Q E s:=by
 let⟨o,ho,hc,hd⟩:=id hit;let⟨ol,Zh,_,nl,YB⟩:=ht;refine aj<|e9 hit.typeIs lF<|gC lF hit.typeIs SX ?_<|SB _;show wpAny _ _ (field (.ref it) 0>>=_) _ _ s;refine aj<|dY ho hd (x:=.ref t) rfl ?_;rw[ap (show¬((Value.ref t==Value.none)=true)from aK)];refine aj<|dY ho hd rfl ?_;refine aj<|wpAny_seqItems Zh YB ?_;simp only[fK,hx];refine aj<|MO<|aj<|wH ho hd (by simp) ?_;refine aj ?_;simp only[newExc,newTuple];refine aj<|cn ?_ (by size_fits);refine aj<|lC (by first |rfl |(simp;rfl)) ?_;refine cn ?_ (by size_fits);simp only[raiseNew];refine aj<|wpAny_handled ?_;first |rw[show A.in1.handled=none from hh] |rw[hh]
 refine aj<|aR<|wpAny_throw ?_;exact hE _ _ (((mC ..).extBut.push _).push _) ⟨_,aT _ rfl,rfl⟩
def HM{A:Around}(hh:A.handled=none)(it t:Addr)(Uy:t≠it)(items:Array Value):Draws prog w A it [it,t] items.size (λi v=>items[i]?=some v) (λi h=>h.IsTupleIter it t i/\h.IsTuple t items) where
 live:=λ_ _ st=>let⟨o,ho,_⟩:=st.1;⟨o,ho⟩
 frame:=λ_ _ _ st hk=>⟨st.1.at λo e=>hk it (by simp) o e,let⟨o,e,r⟩:=st.2;⟨o,hk t (by simp) o e,r⟩⟩
 item:=λi s Q E hi st hQ=>by refine we st.1 st.2 (x:=items[i]) (by simp[hi]) λh' Zr Xq=>?_;exact hQ _ h' s.toks (by simp[hi]) ⟨Zr,let⟨o,e,r⟩:=st.2;⟨o,Xq.extBut t o Uy e,r⟩⟩ Xq
 done:=λs Q E st hE=>qm hh st.1 st.2 (by simp) hE
def Dz(l:Addr)(items:Array Value)(n:Nat)(U5:Option Addr)(sl:Array (Option Value)):Meets (Builtin.«enumerate.__new__» ⟨[.type "enumerate",.ref l],[]⟩) (λ_ R s=>s.heap.get? l=some {cls:=.type "tuple",dict:=U5,data:=.seq items n,slots:=sl}/\R (.ok<|.ret<|.ref (s.heap.push {cls:=.type "tuple_iterator",data:=.fields #[.ref l,.int 0 0]}).objs.size) {s with heap:=(s.heap.push {cls:=.type "tuple_iterator",data:=.fields #[.ref l,.int 0 0]}).push {cls:=.type "enumerate",data:=.fields #[.none,.bool false,.ref s.heap.objs.size,rawInt 0,.none,.none]}}):=.of_wp λprog w A R s h=>by
  obtain⟨hp,g,d,tk,os⟩:=s;obtain⟨hl,h⟩:=h;have zF5:=sub_enumerate;have hL:Heap.IsTuple (Shared.heap ⟨hp,g,d,tk,os⟩) l items:=⟨_,hl,rfl,n,rfl⟩
  wp_walk using jR hl
  refine wpAny_stack_any λst=>aR ?_;split;rename_i c _ _ _ _ _;cases(c==Value.type "enumerate")
  wp_walk using jR hl,wJ hL
  exact⟨_,rfl,h⟩
  wp_walk using jR hl,wJ hL
  exact⟨_,rfl,h⟩
  wp_walk using jR hl,wJ hL
  exact⟨_,rfl,h⟩
def Fp{Q:v7}{s:Shared}(hL:s.heap.IsTuple l items)(h:∀h',IsEnum h' (s.heap.objs.size+1) s.heap.objs.size 0 .none->h'.IsTupleIter s.heap.objs.size l 0->h'.objs.size=s.heap.objs.size+2->(∀b o,s.heap.get? b=some o->h'.get? b=some o)->Q (.ref<|s.heap.objs.size+1) {s with heap:=h'}):wpAny (model prog w) A (call (.type "enumerate") [.ref l]) Q E s:=by
 let⟨⟨c,U5,dt,sl⟩,hl,hc,n,hd⟩:=hL;replace hc:c=.type "tuple":=hc;replace hd:dt=.seq items n:=hd;subst hc hd;refine callType_new F.called_enumerate rfl (F.typeCall_enumerate_1 _) (F.newCall_enumerate_1 _) (λobj=>F.args_object_init_2 obj _) F.entry_enumerate_new (Dz l items n U5 sl) ⟨hl,?_⟩;have hz:(s.heap.push {cls:=.type "tuple_iterator",data:=.fields #[.ref l,.int 0 0]}).objs.size=s.heap.objs.size+1:=iX ..;rw[hz];have he:IsEnum ((s.heap.push {cls:=.type "tuple_iterator",data:=.fields #[.ref l,.int 0 0]}).push {cls:=.type "enumerate",data:=.fields #[.none,.bool false,.ref s.heap.objs.size,rawInt 0,.none,.none]}) (s.heap.objs.size+1) s.heap.objs.size 0 .none:=by have:=aT (s.heap.push {cls:=.type "tuple_iterator",data:=.fields #[.ref l,.int 0 0]}) (o:={cls:=.type "enumerate",data:=.fields #[.none,.bool false,.ref s.heap.objs.size,rawInt 0,.none,.none]}) rfl;rw[hz]at this;exact this
 refine⟨⟨_,he,rfl⟩,h _ he ⟨_,aD _<|aT _ rfl,rfl,rfl⟩ (by rw[iX,hz]) λb o x=>aD _<|aD _ x⟩
def Sm(K:gh)(a:Addr):It:=⟨λi H=>∃xs x,Ud K H a xs/\xs[i]?=some x,λi H x H'=>∃p,H p=none/\x=.ref p/\∀xs,Ud K H a xs->∃v,xs[i]?=some v/\H'=hU H p (.tup [.int i,v]),λi H=>∃xs,Ud K H a xs/\xs.length<=i,False⟩
section
variable {X:Cx}
def Inv.XA{h':Heap}{t':Nat}{e it:Addr}(I:Inv X on Y H s)(k:∀b o,b≠e->b≠it->s.heap.get? b=some o->h'.get? b=some o)(fe:tO X on H e)(fi:tO X on H it):Inv X on Y H {s with heap:=h',toks:=t'}:=by let⟨e0,e1,e2,e3,e4,e5⟩:=fe;let⟨i0,i1,i2,i3,i4,i5⟩:=fi;refine I.step (ch:=[e,it]) (λb hb=>?_) (λb o _ _ hc q _=>k b o (λz=>hc<|by simp[z]) (λz=>hc<|by simp[z]) q) (λb o _ _ hc q _=>⟨o.slots,k b o (λz=>hc<|by simp[z]) (λz=>hc<|by simp[z]) q⟩) (λ_ _ _ _ n=>n) (λb o hc q=>⟨o,k b o (λz=>hc<|by simp[z]) (λz=>hc<|by simp[z]) q⟩) (λ_ _ q=>q) (λ_ _ _ q=>q) (λb ps q=>⟨#[],by rw[q];simp⟩) (λm hm=>?_) (λb u q=>?_) I.bare;rcases aO.mp hb with rfl |hb;exact⟨e3,e1,e4,e5⟩;rw[eQ.mp hb];exact⟨i3,i1,i4,i5⟩;let⟨o,es,ep,ho,r⟩:=hm;exact⟨o,es,ep,k _ o (ip e1) (ip i1) ho,r⟩;have ne:∀c v,H c=some v->c≠e/\c≠it:=λc v q=>⟨(λz=>by rw[z,e0]at q;cases q),(λz=>by rw[z,i0]at q;cases q)⟩;refine(I.TV b u q).Vc (λc v hc r=>?_) (λ_ r=>r) λ_ _ r=>r;rcases hc with z |z;subst z;exact k c v (ne c _ q).1 (ne c _ q).2 r;exact k c v (ne c _ z).1 (ne c _ z).2 r
end
section
variable {X:Cx}
def Inv.WN{p:Addr}(I:Inv X on Y H s)(hp:H p=none)(h1:X.s₀.heap.objs.size<=p)(h2:p≠X.env.locals)(h3:∀x c,X.env.cells.lookup x=some c->c≠p)(h4:∀q∈X.pn++on,q.1≠p)(new:TY X.prog X.w (hU H p o) s.heap p o):Inv X on Y (hU H p o) s:=by have old:∀b ob,X.s₀.heap.get? b=some ob->b≠p:=λb ob e=>bU<|aE (aQ e) h1;refine⟨I.ok,I.os,I.bare,⟨I.base.keep,I.base.slot,λb ob e n hx=>by rw[bK<|old b ob e];exact I.base.free b ob e n hx,I.base.there,λb xs e=>?_,λb ob u e=>?_,λb ps e=>?_⟩,I.loc,I.cell,by rw[bK<|ip h2];exact I.free,λx c e=>by rw[bK<|h3 x c e];exact I.Ut x c e,λq hq=>?_,λb u e=>?_,I.len⟩;have q:=I.base.UY b xs e;rwa[bK<|eZ q hp];have q:=I.base.UJ b ob u e;rwa[bK<|eZ q hp];let⟨more,q⟩:=I.base.UZ b ps e;exact⟨more,by rwa[bK<|eZ q hp]⟩;let⟨a,b,c⟩:=I.pin q hq;exact⟨a,by rwa[bK<|h4 q hq],c⟩;by_cases hb:b=p;subst hb;rw[cf]at e;cases e;exact new;rw[bK hb]at e;exact(I.TV b u e).Vc (λ_ _ _ q=>q) (λc q=>by rwa[bK<|eZ q hp]) λc xs q=>by rwa[bK<|eZ q hp]
end
def G3(a e it:Addr)(Uy:e≠it):Av P w K (.Tuple es x1 pos) (Sm K a) [e,it] e (λi h=>(∃old,IsEnum h e it i old)/\h.IsTupleIter it a i) where
 mem:=by simp
 obj:=λi h st b hb=>by obtain⟨⟨old,he⟩,o,ho,c,d⟩:=st;rcases aO.mp hb with rfl |hb;exact⟨_,he,λv z=>by cases z⟩;rw[eQ.mp hb];exact⟨o,ho,λv z=>by rw[d]at z;cases z⟩
 keep:=λi h h' st k=>by obtain⟨⟨old,he⟩,hi⟩:=st;exact⟨⟨old,k e (by simp) _ he⟩,hi.at λo q=>k it (by simp) o q⟩
 item:=by
  intro X hP hw hK hc i on s Y H E I hf st hg;subst hP hw hK;replace hc:=hc.resolve_right λz=>z.1;obtain⟨⟨old,he⟩,hit⟩:=st;obtain⟨xs,x,hq,hx⟩:=hg;obtain⟨its,rv,p,hz⟩:=I.tuple hq;obtain⟨u,hu,ru⟩:=rv.get hx;have fe:=hf e (by simp);have fi:=hf it (by simp);have Uv:=(aV.mp hu).1;obtain⟨oa,Zk,hca,na,hda⟩:=id p;have hae:e≠a:=λz=>by subst z;rw[he]at Zk;cases Zk;injection hca with z2;exact absurd z2<|by decide
  have hai:a≠it:=λz=>by subst z;obtain⟨oi,Yx,hci,_⟩:=hit;rw[Zk]at Yx;cases Yx;rw[hca]at hci;injection hci with z2;exact absurd z2<|by decide
  refine wpAny_pyNext_enum_itemD (HM (prog:=X.prog) (w:=X.w) (A:=X.A.in1) (I.ok.hd hc) it a hai its.toArray) he ⟨hit,p⟩ Uv Uy (by simp[hae,Uy]) λy h' tk hy ho Zc hT U8 hk=>?_;have ey:y=u:=by
   have:its[i]?=some y:=by simpa using hy
   rw[hu]at this;exact(bS this).symm
  subst ey;refine⟨_,rfl,wpAny_letOwnedTupleGo_enum ho λh2 he2 sb=>?_⟩;have hTe:=ky<|aQ he;have hTi:s.heap.objs.size≠it:=by obtain⟨oi,Yx,_⟩:=id hit;exact ky<|aQ Yx
  have XF:Heap.SameBut e h' h2:=sb;have kk:∀b o,b≠e->b≠it->s.heap.get? b=some o->h2.get? b=some o:=λb o h1 Xv q=>XF.extBut b o h1<|hk b o h1 Xv q;have I1:Inv X on Y H {s with heap:=h2,toks:=tk+1}:=Inv.XA I kk fe fi;have XZ:=I.TV.fresh<|aq _;have I2:Inv X on Y (hU H s.heap.objs.size<|.tup [.int i,x]) {s with heap:=h2,toks:=tk+1}:=by refine Inv.WN I1 XZ I.sz (ky I.lt) (λz c h=>?_) (λq Zf z=>?_) ⟨bP rfl,[.int i tk,y],.cons ⟨tk,rfl⟩<|.cons ru .nil,⟨_,XF.extBut _ _ hTe hT,rfl,0,rfl⟩⟩;obtain⟨v,hv⟩:=I.cell z c h;exact bU hv.lt;have:=aQ (I.pin q Zf).1;rw[z]at this;exact absurd this<|eY _
  refine⟨.ref s.heap.objs.size,_,I2,rfl,⟨s.heap.objs.size,XZ,rfl,λys hys=>⟨x,by rwa[I.UH hys hq],rfl⟩⟩,⟨⟨_,by simpa using he2⟩,Zc.1.at λo q=>XF.extBut it o (ip Uy) q⟩,λb hb=>?_⟩;have bT:b≠s.heap.objs.size:=by rcases aO.mp hb with rfl |hb;exact ip hTe;rw[eQ.mp hb];exact ip hTi
  rw[bK bT];exact(hf b hb).1
 done:=by intro X hP hw hK hc i on s Y H E I hf st hg;subst hP hw hK;replace hc:=hc.resolve_right λz=>z.1;obtain⟨⟨old,he⟩,hit⟩:=st;obtain⟨xs,hq,hx⟩:=hg;obtain⟨its,rv,p,hz⟩:=I.tuple hq;obtain⟨f0,f1,f2,f3,f4,f5⟩:=hf it (by simp);have hl:=rv.length;have hT:s.TypeIs (.ref e) "enumerate":=⟨_,he,rfl⟩;refine aj<|Az<|e9 hT F.slot_enumerate_next<|gC F.slot_enumerate_next hT F.entry_enumerate_next ?_<|F.args_enumerate_next_1 _;show wpAny _ _ (field (.ref e) 2>>=_) _ _ _;refine aj<|dY he rfl rfl ?_;refine aj (qm (I.ok.hd hc) hit p (by simp;lia) λh' x Xu U1=>?_);obtain⟨o,ho,Vp⟩:=U1;refine aj<|CG ⟨o,ho,Vp⟩ Tf ?_;exact aR ⟨rfl,I.turned (λb o hb e=>Xu b o hb e) f0 f1 f3 f4 f5⟩
 self:=λ_ _ s Q E st h=>by obtain⟨⟨old,he⟩,hit⟩:=st;exact wpAny_pyIter_enum he h
section
variable {X:Cx}
def QM(K:gh)(ta:TA):TI:=λY H R=>ta Y H λvs H1=>∃a,vs=[.ref a]/\(∃xs,Ud K H1 a xs)/\R (Sm K a) H1
def LD(hg:Gl X "enumerate")(hm:X.mg "enumerate"=none)(hl:PA X [a] ta)(hs:Pl a):PI X (.Tuple es x1 tp) (.Call (.Name "enumerate" p) [a] [] pos) (QM X.K ta):=by refineλon s Y H R I h=>Call_<|oF I hg hm (show bootBuiltins "enumerate"=some (.type "enumerate")by decide)<|dJ (fH (hl pos on s Y H _ I h) λus s1 ⟨vs,H1,I1,r1,q1⟩=>?_) (hs _ _) rfl;obtain⟨l,rfl,⟨xs,hq⟩,q⟩:=q1;obtain⟨u,rfl,ru⟩:=pW r1;cases(ru);obtain⟨its,rv,pt,hz⟩:=I1.tuple hq;refine Fp pt λh' he hi U8 kp=>?_;refine wpAny_pyIter_enum he ?_;have fr:∀b,s1.heap.objs.size<=b->tO X on H1 b:=λb hb=>I1.Vu hb<|I1.TV.fresh hb;refine⟨s1.heap.objs.size+1,[s1.heap.objs.size+1,s1.heap.objs.size],_,_,H1,rfl,I1.kept (t':=s1.toks) kp,G3 l _ _<|ky<|kz _,⟨⟨_,he⟩,hi⟩,λb hb=>?_,q⟩;rcases aO.mp hb with rfl |hb;exact fr _ (by lia);rw[eQ.mp hb];exact fr _<|aq _
def A8(ds:bX):bX:=(List.range ds.length).map λ(i:Nat)=>.tup [.int (i:Int),ds.getD i .TN]
def A7{i:Nat}(h:(A8 ds)[i]?=some d):∃e,ds[i]?=some e/\d=.tup [.int (i:Int),e]:=by unfold A8 at h;rw[aH]at h;by_cases hi:i<ds.length;rw[cq hi]at h;cases h;exact⟨ds[i],ar hi,by show D.tup [D.int (i:Int),ds.getD i .TN]=_;rw[ag,ar hi];rfl⟩;rw[bQ<|by simpa using hi]at h;cases h
def A6:(A8 ds).length=ds.length:=by simp[A8]
def OO{F:Hp}{l:Addr}(hf:F l=some (.tup vs))(r:TF K F vs ds):wF K (Sm K l) F (A8 ds):=λi F2 H2 s1 s2=>⟨λd hd=>by obtain⟨e,he,rfl⟩:=A7 hd;let⟨v,hv,rv⟩:=r.get he;have sq:Ud K H2 l vs:=Ud.of<|s2 _ _<|s1 _ _ hf;refine⟨⟨vs,v,sq,hv⟩,λx H' y=>?_⟩;obtain⟨p,hp,rfl,y⟩:=y;obtain⟨v',hv',rfl⟩:=y vs sq;rw[hv]at hv';cases hv';exact⟨_,(Ext.refl s2).grow hp,.tup cf<|.cons (.int _)<|.cons ((rv.mono s1).mono<|bh<|s2.free hp) .nil⟩,λh=>⟨vs,Ud.of<|s2 _ _<|s1 _ _ hf,by rw[r.length];rw[A6]at h;exact h⟩⟩
def Mt(t:At X N sc)(bl:so X sc "enumerate" (.type "enumerate"))(h:Tz X U a (.tup ds))(hs:Pl a:=by intro _ _;rfl):UG X U (.Tuple es x1 tp) (.Call (.Name "enumerate" p) [a] [] pos) (A8 ds):=.of (LD (ik t bl.g) bl.m (bY bJ fz<|hs _ _) hs) λB F H Y R k q=>h B F H Y _ k λv F' H' x r=>by cases r with|tup hf rl=>exact⟨_,rfl,⟨_,Ud.of<|x.sub _ _ hf⟩,q _ F' H' x<|OO hf rl⟩
end
def S8(h base:Heap)(e C:Addr)(fl:Value):Prop:=∃(oe:Obj)(vs:Array Value)(T:Addr)(oT:Obj)(ts:Array Value),h.get? e=some oe/\oe.cls=.ref C/\oe.data=.fields vs/\vs[1]?=some (.ref T)/\vs[2]?=some .none/\base.get? T=none/\T≠e/\h.get? T=some oT/\oT.data=.fields ts/\ts[3]?=some fl
def Sn(base:Heap)(l:List Env)(e C:Addr)(fl:Value)(h:Heap):Prop:=base.StaysIn h/\base.get? e=none/\h.FunFrames base l/\S8 h base e C fl
structure Te(P:Program)(w:World)(l:List Env)(H:Hp)(s:Shared)(H':Hp)(C:Addr)(e:Value)(s':Shared):Prop where
 ex:∃(ea:Addr)(B:Heap),e=.ref ea/\Sn B l ea C .none s'.heap/\Uo P w H' B/\
  (∀b o,s.heap.get? b=some o->H b=none->b∉Es l->B.get? b=some o)/\(∀b o,s.heap.get? b=some o->b∉Es l->∃o',B.get? b=some o')
 os:s'.os=s.os
 bare:AllBare s'.gens
 slot:∀b o,s.heap.get? b=some o->H b=none->b∈Es l->∃sl,s'.heap.get? b=some {o with slots:=sl}
 free:∀b o,s.heap.get? b=some o->H b=none->H' b=none
 UY:∀b xs,H b=some (.tup xs)->H' b=some (.tup xs)
 UJ:∀b o u,H b=some (.UN o u)->H' b=some (.UN o u)
 UZ:∀b ps,H b=some (.Ws ps)->∃more,H' b=some (.Ws<|ps++more)
inductive FJ(X:Cx)(m:Bool)(H:Hp)(s:Shared)(H':Hp)(C:Addr)(e:Value)(s':Shared):Prop where
 |fly:Te X.prog X.w X.stack H s H' C e s'->FJ X m H s H' C e s'
 |made {ea:Addr} {vs:jw}:m=true->H'=H->e=.ref ea->Heap.MadeExcOf s.heap s'.heap ea (.ref C) vs->s'.os=s.os->s'.gens=s.gens->FJ X m H s H' C e s'
def XP(X:Cx)(m:Bool)(on:iB)(B:B0)(F:Hp)(TW:fx)(C:Addr)(e:Value)(s':Shared):Prop:=∃(UV:St)(H1:Hp)(s1:Shared)(F' H':Hp),Inv X on UV H1 s1/\Ok X.K B F' H' UV TW/\TR F F'/\FJ X m H1 s1 H' C e s'
section
variable {X:Cx}{C:Addr}{st:Stmt}{rest:List Stmt}
def At.no(t:At X N sc){P:Prop}(h:X.xe v s):P:=by rw[t.VB]at h;exact h.elim
end
section
variable {X:Cx}{hs:List ExceptHandler}{h₀:ExceptHandler}{C:Addr}
def Qk(t:At X N sc)(h:TB X U body o):Up X U (.Try body (h₀::hs) [] [] pos) o:=λB F H Y E k q=>.mk λon s I=>by
 refine wpAny_Try_except (jv (h B F H Y E k q on s I) (λf s1 z=>?_) λ_ _ z=>t.no z);cases f with
 |next=>exact uK z|brk=>exact z
 |cont=>exact z|ret u=>exact z
end
structure SH(X:Cx)(es:xu)(vs:gW)(Y:St)(H:Hp)(Q:St->Hp->Prop):Prop where
 go:∀(on:iB)(s:Shared)(us:jw),Inv X on Y H s->Vals vs us->ge X (assignInOrder ((assignEach es X.env).map (·.2)) us) (λ_ s'=>∃T0 H',Inv X on T0 H' s'/\Q T0 H') X.xe s
def Nc{X:Cx}:Rb X es (SH X es):=λon s _ _ _ us _ I r h=>h.go on s us I r
def ML(X:Cx)(U:fx)(es:xu)(ds:bX)(TW:fx):Prop:=((∀env,(assignEach es env).length=ds.length)/\∀env,(assignEach es env).findIdx? (·.1)=none)/\∀(B:B0)(F H:Hp)(Y:St)(vs:gW)(Q:St->Hp->Prop),Ok X.K B F H Y U->TF X.K F vs ds->(∀F' H' T0,Ok X.K B F' H' T0 TW->TR F F'->Q T0 H')->SH X es vs Y H Q
def Ta(e:Expr):Prop:=∀(es:xu)(env:Env),assignEach (e::es) env=(false,assign e env)::assignEach es env
section
variable {X:Cx}
def gJ:ML X U [] [] U:=⟨⟨λ_=>rfl,λ_=>rfl⟩,λB F H Y vs Q k r q=>.mk λon s us I ru=>by cases r;exact xc on s Y H [] us Q I ru ⟨rfl,q F H Y k<|.refl _⟩⟩
def bq(h1:Vn X U e d Uf)(h2:ML X Uf es ds TW)(hs:Ta e:=by intro _ _;rfl):ML X U (e::es) (d::ds) TW:=⟨⟨λenv=>by rw[hs es env,dG,dG,h2.1.1 env],λenv=>by
  rw[hs es env,List.findIdx?_cons]
  simp[h2.1.2 env]⟩,λB F H Y vs Q k r q=>.mk λon s us I ru=>by
 cases r with
 |cons r1 r2=>
  refine ja JC Nc (by rw[hs es X.env];rfl) on s Y H _ us Q I ru ⟨_,_,rfl,?_⟩
  exact h1 B F H Y _ _ k r1 λF1 H1 UV k1 s1=>h2.2 B F1 H1 UV _ _ k1 (r2.mono s1) λF2 H2 XV k2 s2=>q F2 H2 XV k2 (s1.trans s2)⟩
def jf(t:At X N sc)(h:ML X U es ds TW):Vn X U (.Tuple es k pos) (.tup ds) TW:=.of (BC (n:=ds.length) t.calm Nc (h.1.1 _)<|h.1.2 _) λB F H Y v Q k r q=>by cases r with|tup hf rl=>exact⟨_,_,rfl,Ud.of<|k.sub _ _ hf,rl.length,h.2 B F H Y _ Q k rl q⟩
end
section
variable {X:Cx}{C:Addr}
def ij:D->Bool|.TN=>true|_=>false
def w8(r:Rep K F v d):decide (v=.TN)=ij d:=by cases r<;>rfl
def Kl(ha:Tz X U a d):Tz X U (.Compare a [.Is] [.Constant .none j p'] pos) (.bl<|ij d):=.of (rB JF bJ bJ<|ei _<|by decide) λB F H Y Q k q=>two ha iK k λx y F' H' x' rx ry=>by cases ry;exact⟨rfl,by rw[w8 rx];exact q _ F' H' x'<|.bl _⟩
def B6(ha:Tz X U a d):Tz X U (.Compare a [.IsNot] [.Constant .none j p'] pos) (.bl (!ij d)):=.of (rB Gr bJ bJ<|ei _<|by decide) λB F H Y Q k q=>two ha iK k λx y F' H' x' rx ry=>by cases ry;exact⟨rfl,by rw[w8 rx];exact q _ F' H' x'<|.bl _⟩
def hR(ha:Tz X U a d):TC X U (.Compare a [.Is] [.Constant .none j p'] pos) (ij d):=qC JF ha iK (ei _<|by decide) λF H x y Q rx ry q=>by cases ry;exact⟨rfl,by rwa[w8 rx]⟩
def rJ(ha:Tz X U a d):TC X U (.Compare a [.IsNot] [.Constant .none j p'] pos) (!ij d):=qC Gr ha iK (ei _<|by decide) λF H x y Q rx ry q=>by cases ry;exact⟨rfl,by rwa[w8 rx]⟩
end
open AutoSeq1 (wpAny_loadPart')
def T3:Slot "reversed" "__next__" "reversed.__next__":=.of (by rw[uL,kw];kernel_rfl) rfl rfl rfl (by first |exact .inl rfl |exact .inr rfl)<|by rw[pP];kernel_rfl
def sC:Slot "reversed" "__iter__" "reversed.__iter__":=.of (by rw[uL,kw];kernel_rfl) rfl rfl rfl (by first |exact .inl rfl |exact .inr rfl)<|by rw[pP];kernel_rfl
def zw:Slot "reversed" "__init__" "object.__init__":=.of (by rw[uL,kw];kernel_rfl) rfl rfl rfl (by first |exact .inl rfl |exact .inr rfl)<|by rw[pP];kernel_rfl
def qD:entryFor table "reversed.__next__"=some Builtin.«reversed.__next__»:=Rh<|by kernel_rfl
def yT:entryFor table "reversed.__iter__"=some Builtin.«dict_keyiterator.__iter__»:=entryFor_alias (by kernel_rfl) (by first |rfl |decide |(unfold String.splitOn;simp+decide [String.splitOnAux])) rfl<|by kernel_rfl
def sR(a:Value):argsOk "reversed.__next__" ⟨[a],[]⟩:=by kernel_rfl
def Au(a:Value):argsOk "reversed.__iter__" ⟨[a],[]⟩:=by kernel_rfl
def Gx:mroOf (.type "reversed")=pure [.type "reversed",.type "object"]:=by rw[mroOf_type];kernel_rfl
def LP:typeLookup (.type "reversed") "__new__"=pure (some<|.builtin "reversed.__new__"):=by rw[uL,kw];kernel_rfl
def Fo:TypeCalled "reversed" "reversed.__new__" "object.__init__":=⟨by decide,by decide,⟨_,_,Gx⟩,madeBy_type Gx LP<|by decide,by decide,by rw[pP];kernel_rfl,zw⟩
def Bj(a:Value):checkTypeCall "reversed" ⟨[a],[]⟩=pure ():=by kernel_rfl
def Dw(a:Value):checkBuiltinCall "reversed.__new__" ⟨[.type "reversed",a],[]⟩=pure ():=by kernel_rfl
def Af:entryFor table "reversed.__new__"=some Builtin.«reversed.__new__»:=Rh<|by kernel_rfl
def K3:isSubtype (.type "reversed") (.type "reversed")=pure true:=by rw[pP];kernel_rfl
def G4:typeLookup (.type "tuple") "__reversed__"=pure none:=by rw[uL,kw];kernel_rfl
def EA:isSubtype (.type "tuple") (.type "dict")=pure false:=by rw[pP];kernel_rfl
def E4(a:Value):Builtin.SmallTypes.newClass "reversed" ⟨[.type "reversed",a],[]⟩=pure (.type "reversed",[a]):=by unfold Builtin.SmallTypes.newClass;simp only[isType,K3,pure_bind,Ew,tX,tT]
def FK(h:Heap)(e a:Addr)(j:Int):Prop:=∃o,h.get? e=some o/\o.cls=.type "reversed"/\o.data=.fields #[.ref a,rawInt j]
def Hr(l:Addr)(items:Array Value)(hz:(items.size:Int)<2 ^ 63):Meets (Builtin.«reversed.__new__» ⟨[.type "reversed",.ref l],[]⟩) (λ_ R s=>IsTup s.heap l items/\∀t',R (.ok<|.ret<|.ref s.heap.objs.size) {s with heap:=s.heap.push {cls:=.type "reversed",data:=.fields #[.ref l,rawInt<|(items.size:Int)-1]},toks:=t'}):=.of_wp λprog w A R s h=>by
  let⟨hp,g,d,tk,os⟩:=s;let⟨hl,h⟩:=h;have hT:(⟨hp,g,d,tk,os⟩:Shared).TypeIs (.ref l) "tuple":=hl.typeIs;unfold Builtin.«reversed.__new__»;refine aj<|lC (E4 _) ?_;try dsimp only
  refine aj<|lC (by first |rfl |kernel_rfl) ?_;refine aj<|lC (by first |rfl |kernel_rfl) ?_;try dsimp only
  refine aj<|Sq hT G4 ?_;try dsimp only
  refine aj<|aj (CG hT EA ?_);simp only[tX,tT];refine aj<|Sq hT slot_tuple_getitem.lookup ?_;try dsimp only
  rw[am<|by decide];refine aR ?_;simp only[Ew,tX,tT];refine aj<|len_tuple hl hz ?_;refine aj<|lC (by rfl) ?_;try dsimp only
  refine aj ?_;show wpAny _ _ (newObj (.type "reversed")<|.fields #[.ref l,rawInt<|items.size-1]) _ _ _;exact cn<|aR ⟨_,rfl,h _⟩
def Kw{items:Array Value}{Q:v7}{s:Shared}(hz:(items.size:Int)<2 ^ 63)(hl:IsTup s.heap l items)(h:∀t',Q (.ref s.heap.objs.size) {s with heap:=s.heap.push {cls:=.type "reversed",data:=.fields #[.ref l,rawInt<|(items.size:Int)-1]},toks:=t'}):wpAny (model prog w) A (call (.type "reversed") [.ref l]) Q E s:=by refine callType_new Fo rfl (Bj _) (Dw _) (λobj=>F.args_object_init_2 obj _) Af (Hr l items hz) ⟨hl,λt'=>?_⟩;exact⟨⟨_,aT _ rfl,rfl⟩,h t'⟩
theorem z4{j:Nat}{items:Array Value}{s:Shared}{Q:Option Value->Shared->Prop}(hz:(items.size:Int)<2 ^ 63)(hit:FK s.heap e a (j:Int))(hl:IsTup s.heap a items)(hx:items[j]?=some x)(hQ:∀h' t',FK h' e a ((j:Int)-1)->Heap.SameBut e s.heap h'->Q (some x) {s with heap:=h',toks:=t'}):wpAny (model prog w) A (pyNext<|.ref e) Q E s:=by
 let⟨o,ho,hc,hd⟩:=id hit;have hT:s.TypeIs (.ref e) "reversed":=⟨o,ho,hc⟩;have hjs:j<items.size:=(Array.getElem?_eq_some_iff.mp hx).1;unfold pyNext;refine aj<|Az<|e9 hT T3<|gC T3 hT qD ?_<|sR _;unfold Builtin.«reversed.__next__»;refine aj<|lC rfl ?_;try dsimp only
 refine aj<|dY ho hd rfl ?_;refine aj<|dY ho hd rfl ?_;show wpAny _ _ (if(j:Int)<0 then _ else _) _ _ s;rw[ap<|by lia];refine aj<|Sq hl.typeIs slot_tuple_getitem.lookup ?_;simp only[Option.isNone_some,tX,tT];refine aj<|wpAny_mkInt ?_;refine aj<|Az<|getItem_tuple hl (by lia) (by lia) (by unfold seqIndex?;simp;lia) hx ?_;refine aj<|dY ho hd rfl ?_;show wpAny _ _ (setField (.ref e) 1 (rawInt<|j-1)>>=_) _ _ _;refine aj<|wH ho hd (by simp)<|aR ⟨x,rfl,aR<|hQ _ _ ?_<|mC ..⟩;exact⟨_,kB _ ho<|FN<|nU hd _,(Obj.cls_mapFields ..).trans hc,by rw[nU hd];simp[rawInt]⟩
def BJ{j:Int}{A:Around}{s:Shared}{Q:Option Value->Shared->Prop}(hh:A.handled=none)(hj:j<0)(hit:FK s.heap e a j)(hQ:∀h',Heap.ExtBut e s.heap h'->Q none {s with heap:=h'}):wpAny (model prog w) A (pyNext<|.ref e) Q E s:=by
 let⟨o,ho,hc,hd⟩:=id hit;have hT:s.TypeIs (.ref e) "reversed":=⟨o,ho,hc⟩;unfold pyNext;refine aj<|Az<|e9 hT T3<|gC T3 hT qD ?_<|sR _;unfold Builtin.«reversed.__next__»;refine aj<|lC rfl ?_;try dsimp only
 refine aj<|dY ho hd rfl ?_;refine aj<|dY ho hd rfl ?_;show wpAny _ _ (if j<0 then _ else _) _ _ s;rw[am hj];refine aj<|MO ?_;refine aj ?_;show wpAny _ _ (do setField (.ref e) 1 (rawInt (-1));setField (.ref e) 0 .none) _ _ s;refine aj<|wH ho hd (by simp) ?_;have hd1:=nU hd (·.setIfInBounds 1 (rawInt (-1)));refine wH (kB (Obj.mapFields (·.setIfInBounds 1 (rawInt (-1)))) ho<|FN hd1) hd1 (by simp) ?_;refine aj ?_;show wpAny _ _ (newExc (.type "StopIteration") []>>=_) _ _ _;refine aj ?_;simp only[newExc,newTuple];refine aj<|cn ?_ (by size_fits);refine aj<|lC (by first |rfl |(simp only[firstArgMember];rfl)) ?_;refine cn ?_ (by size_fits);simp only[raiseNew];refine aj<|wpAny_handled ?_;first |rw[show A.in1.handled=none from hh] |rw[hh]
 refine aj<|aR<|wpAny_throw ?_;refine aj<|CG ⟨_,aT _ rfl,rfl⟩ Tf ?_;exact aR<|hQ _<|(((mC ..).trans<|mC ..).extBut.push _).push _
def DO{Q:v7}{s:Shared}(hit:FK s.heap e a j)(h:Q (.ref e) s):wpAny (model prog w) A (pyIter<|.ref e) Q E s:=by let⟨o,ho,hc,hd⟩:=hit;have hT:s.TypeIs (.ref e) "reversed":=⟨o,ho,hc⟩;exact wpAny_pyIter_slot hT sC<|gC sC hT yT (aR ⟨_,rfl,"reversed",_,hT,T3.lookup,h⟩)<|Au _
def Si(K:gh)(a:Addr)(n:Nat):It:=⟨λi H=>∃xs x,Ud K H a xs/\xs.length=n/\xs.reverse[i]?=some x,λi H x H'=>H'=H/\∀xs,Ud K H a xs->xs.reverse[i]?=some x,λi H=>∃xs,Ud K H a xs/\xs.length=n/\n<=i,False⟩
def Jl{i:Nat}{α:Type}{xs:List α}{x:α}(h:xs.reverse[i]?=some x):i<xs.length/\xs[xs.length-1-i]?=some x:=by
 have hi:i<xs.length:=by have:=(aV.mp h).1;simpa using this
 rw[SS hi]at h;exact⟨hi,h⟩
theorem IJ(a e:Addr)(n:Nat):Av P w K tg (Si K a n) [e] e (λi h=>FK h e a<|(n:Int)-1-(i:Int)) where
 mem:=by simp
 obj:=λi h st b hb=>by let⟨o,ho,hc,hd⟩:=st;rw[eQ.mp hb];exact⟨o,ho,λv z=>by rw[hd]at z;cases z⟩
 keep:=λi h h' st k=>by let⟨o,ho,r⟩:=st;exact⟨o,k e (by simp) o ho,r⟩
 item:=by
  intro X hP hw hK hc i on s Y H E I hf st hg;subst hP hw hK;replace hc:=hc.resolve_right λz=>z.1;let⟨xs,x,hq,hlen,hx⟩:=hg;let⟨its,rv,p,hz⟩:=I.tuple hq;let⟨hi,U1⟩:=Jl hx;let⟨u,hu,ru⟩:=rv.get U1;let⟨f0,f1,f2,f3,f4,f5⟩:=hf e (by simp);have hl:=rv.length;have h63:=qr;have ej:n-1-i=((xs.length-1-i:Nat):Int):=by lia
  rw[ej]at st;refine z4 (by rw[aC];lia) st p (by simpa using hu) λh' tk U0 sb=>?_;have I1:Inv X on Y H {s with heap:=h',toks:=tk}:=I.turned (λb o hb q=>(sb.2 b hb).trans q) f0 f1 f3 f4 f5;let⟨o,e1,c,d⟩:=id U0;have YR:FK h' e a (n-1-((i+1:Nat):Int)):=by
   have:((xs.length-1-i:Nat):Int)-1=n-1-((i+1:Nat):Int):=by lia
   rw[<-this];exact U0
  exact⟨u,rfl,DT e1 c d rfl ⟨x,H,I1,ru,⟨rfl,λys hy=>by rw[I.UH hy hq];exact hx⟩,YR,λb hb=>(hf b hb).1⟩⟩
 done:=by intro X hP hw hK hc i on s Y H E I hf st hg;subst hP hw hK;replace hc:=hc.resolve_right λz=>z.1;let⟨xs,hq,hlen,hx⟩:=hg;let⟨f0,f1,f2,f3,f4,f5⟩:=hf e (by simp);exact BJ (I.ok.hd hc) (by lia) st λh' eb=>⟨rfl,I.turned (λb o hb q=>eb b o hb q) f0 f1 f3 f4 f5⟩
 self:=λ_ _ s Q E st h=>DO st h
section
variable {X:Cx}
def R6(K:gh)(ta:TA):TI:=λY H R=>ta Y H λvs H1=>∃a xs,vs=[.ref a]/\Ud K H1 a xs/\R (Si K a xs.length) H1
def Oe(hg:Gl X "reversed")(hm:X.mg "reversed"=none)(hl:PA X [a] ta)(hs:Pl a):PI X tg (.Call (.Name "reversed" p) [a] [] pos) (R6 X.K ta):=by
 refineλon s Y H R I h=>Call_<|oF I hg hm (show bootBuiltins "reversed"=some (.type "reversed")by decide)<|dJ (fH (hl pos on s Y H _ I h) λus s1 ⟨vs,H1,I1,r1,q1⟩=>?_) (hs _ _) rfl;obtain⟨l,xs,rfl,hq,q⟩:=q1;obtain⟨u,rfl,ru⟩:=pW r1;cases(show u=Value.ref l from ru);let⟨its,rv,pt,hz⟩:=I1.tuple hq;have hlen:=rv.length;have h63:=qr;refine Kw (by rw[aC];lia) pt λt'=>?_;have kp:∀b o,s1.heap.get? b=some o->(s1.heap.push {cls:=.type "reversed",data:=.fields #[.ref l,rawInt<|its.toArray.size-1]}).get? b=some o:=λb o q=>aD _ q;have I2:Inv X on Y H1 {s1 with heap:=s1.heap.push {cls:=.type "reversed",data:=.fields #[.ref l,rawInt<|its.toArray.size-1]},toks:=t'}:=I1.kept kp;have st:FK (s1.heap.push {cls:=.type "reversed",data:=.fields #[.ref l,rawInt<|its.toArray.size-1]}) s1.heap.objs.size l (its.toArray.size-1):=⟨_,aT _ rfl,rfl,rfl⟩;refine DO st<|⟨s1.heap.objs.size,[s1.heap.objs.size],_,_,H1,rfl,I2,IJ l _ xs.length,?_,λb hb=>?_,q⟩;have:its.toArray.size-1=xs.length-1-((0:Nat):Int):=by rw[aC];lia
 rw[<-this];exact st;rw[eQ.mp hb];exact I1.Vu (aq _)<|I1.TV.fresh<|aq _
def ON{F:Hp}{l:Addr}(hf:F l=some (.tup vs))(r:TF K F vs ds):wF K (Si K l vs.length) F ds.reverse:=λi F2 H2 s1 s2=>⟨λd hd=>by let⟨v,hv,rv⟩:=r.reverse.get hd;have sq:Ud K H2 l vs:=Ud.of<|s2 _ _<|s1 _ _ hf;refine⟨⟨vs,v,sq,rfl,hv⟩,λx H' y=>?_⟩;obtain⟨rfl,y⟩:=y;have e:=y vs sq;rw[hv]at e;cases e;exact⟨F2,.refl s2,rv.mono s1⟩,λh=>⟨vs,Ud.of<|s2 _ _<|s1 _ _ hf,rfl,by rw[r.length];rw[dr]at h;exact h⟩⟩
def Pd(t:At X N sc)(bl:so X sc "reversed" (.type "reversed"))(h:Tz X U a (.tup ds))(hs:Pl a:=by intro _ _;rfl):UG X U tg (.Call (.Name "reversed" p) [a] [] pos) ds.reverse:=.of (Oe (ik t bl.g) bl.m (bY bJ fz<|hs _ _) hs) λB F H Y R k q=>h B F H Y _ k λv F' H' x r=>by cases r with|tup hf rl=>exact⟨_,_,rfl,Ud.of<|x.sub _ _ hf,q _ F' H' x<|ON hf rl⟩
end
section
variable {X:Cx}{C:Addr}{st:Stmt}{rest:List Stmt}
def LI:nV X (binaryOp .Sub) (λx y H Q=>∃k j:Bool,x=.bl k/\y=.bl j/\Q (.int<|b2i k-b2i j) H):=by intro on s Y H x y v u Q I rx ry h;obtain⟨k,j,rfl,rfl,q⟩:=h;cases rx;cases ry;exact sub_bool ⟨.int<|b2i k-b2i j,H,I.tok _,⟨_,rfl⟩,q⟩
def Me(ha:Tz X U a (.bl k))(hb:Tz X U b (.bl j)):Tz X U (.BinOp a .Sub b pos) (.int<|b2i k-b2i j):=.of (x8 LI bJ bJ) λB F H Y Q k' q=>two ha hb k' λx y F' H' x' rx ry=>by cases rx;cases ry;exact⟨k,j,rfl,rfl,q _ F' H' x'<|.int _⟩
def Jc{xs:bX}{apos TX:Pos}{U:fx}{pos:Pos}[VI X](t:At X N sc)(i j:Nat)(hr:U[i]?=some (.own<|xs++[d]))(Vi:i≠j)(hN:N[i]?=some y:=by rfl)(hv:oO sc y=true:=by rfl)(hx:ji y=true:=by rfl)(hj:N[j]?=some x:=by rfl)(hl:vC sc x=true:=by rfl)(Ug:(apos.endLine==TX.line)=true:=by rfl)(hs:swapsWith (.Call (.Attribute (.Name y p) "pop" apos) [] [] TX) (some<|.Name x pos') pos.line X.env=pure false:=by rfl):Up X U (.Assign [.Name x pos'] (.Call (.Attribute (.Name y p) "pop" apos) [] [] TX) pos) (.nx<|(U.set i<|.own xs).set j<|.val d):=.of (ET (i:=j) t.nd (t.ix hj) (t.loc hl) (BE fI nX nW BL bJ rfl Ug) hs Nw) λB F H Y E k q=>oC t hr hN hv hx k λl vs h1 h2 h3=>⟨.inl ⟨rfl,_,T9.of h2⟩,by
   let⟨w,hw,UL⟩:=h3.get (i:=xs.length) (d:=d) (by simp);have X2:vs.length-1=xs.length:=by rw[h3.length];simp
   refine⟨l,vs,w,rfl,rfl,h2,by rw[X2];exact hw,?_⟩;exact q F _ _ ((k.Uu (vs:=vs) (ds:=xs) hr h1 (by have:=h3.dropLast;rwa[CI]at this)).TM j UL) (.refl _)⟩
end
end L2.EV
namespace HT
open PySem PySem.W PyProof.Rows PySem.Spec
variable {K:gh}{ds:bX}
def VZ(xs:Array Value):((List.range xs.size).filterMap λ(m:Nat)=>xs[((xs.size:Int)-1+(m:Int)*(-1)).toNat]?).toArray=xs.toList.reverse.toArray:=by
 have Yj:∀(f g:Nat->Option Value)(l:G1),(∀m∈l,f m=g m)->l.filterMap f=l.filterMap g:=by intro f g l;induction l with|nil=>intro _;rfl|cons m l ih=>intro h;have h1:=ih λm hm=>h m<|aM _ hm;rw[kQ,kQ,h m<|bA ..,h1]
 have h2:∀(n:Nat)(r:jw),r.length=n->(List.range r.length).filterMap (λm=>r[m]?)=r:=by
  intro n;induction n with
  |zero=>intro r hr;rw[aw hr];rfl
  |succ n ih=>
   intro r hr;rcases bR r with e |⟨ys,y,e⟩;subst e;simp at hr;rw[dj]at e;subst e;have hl:ys.length=n:=by simpa using hr
   rw[aJ,cj,lP,List.filterMap_append];rw[Yj (λm=>(ys++[y])[m]?) (λm=>ys[m]?) (List.range ys.length) λm hm=>bj<|cc.mp hm,ih ys hl];congr 1;simp
 have key:∀l:jw,(List.range l.length).filterMap (λ(m:Nat)=>l[((l.length:Int)-1+(m:Int)*(-1)).toNat]?)=l.reverse:=by
  intro l;have h1:=Yj (λ(m:Nat)=>l[((l.length:Int)-1+(m:Int)*(-1)).toNat]?) (λm=>l.reverse[m]?) (List.range l.length) λm hm=>by show l[((l.length:Int)-1+(m:Int)*(-1)).toNat]?=l.reverse[m]?;rw[SS<|cc.mp hm];congr 1;lia
  rw[h1];have:=h2 _ l.reverse rfl;rwa[dr]at this
 have:=key xs.toList;rw[rT]at this;have e:(λ(m:Nat)=>xs.toList[((xs.size:Int)-1+(m:Int)*(-1)).toNat]?)=λ(m:Nat)=>xs[((xs.size:Int)-1+(m:Int)*(-1)).toNat]?:=by funext m;exact SY
 rw[e]at this;rw[this]
end HT
namespace L2.EV
open PySem PySem.W PySem.Spec PyProof.Rows
variable {K:gh}{ds:bX}
def Rp(K:gh)(C:bX->bX->Prop):Sp:=λvs H Q _=>∃F ds xs,TR F H/\TF K F vs ds/\C ds xs/\∀p us F' H',Ext ⟨F,H⟩ F' H'->H p=none->H' p=some (.lst us)->F' p=none->TF K F' us xs->Q (.ref p) H'
def UQ(X:Cx)(x:Str)(C:bX->bX->Prop):Prop:=∃(f:Addr)(fd:FuncData)(ps:dZ)(k:Nat),pO X.prog X.w X.K X.mg X.base Aw k f fd ps (Rp X.K C)/\Uj k X.A/\X.mg x=some (.ref f)/\keepIn X.K (.ref f)=true/\Binds X.K fd ps []
def Bg(X:Cx)(U:fx)(VW:List Stmt)(xs:bX):Prop:=∀(B:B0)(F H:Hp)(Y:St)(E:tP),Ok X.K B F H Y U->(∀p us F' H',Ext B F' H'->B.H p=none->H' p=some (.lst us)->F' p=none->TF X.K F' us xs->E.rt (.ref p) H')->wSs X VW E Y H
section
variable {X:Cx}{st:Stmt}{rest:List Stmt}
def Ms(t:At X N sc){C:bX->bX->Prop}(h:UQ X x C)(ha:MM X U (e::es) ds)(hC:C ds xs)(hg:ND sc x:=by rfl)(V8:FU x:=by rfl):T1 X U (.Call (.Name x p) (e::es) [] pos) xs:=by let⟨f,fd,ps,k,F,hr,hm,hk,hb⟩:=h;have pz:y8 Aw X E0:=Nh;refine .of (Gp F hr (ik t hg) hm hk hb .nil pz E2 V8 (ha.1.1 _ _)<|WG.any ha.1.2) λB F' H Y Q k' q=>ha.2 B F' H Y _ k' λvs F1 H1 x1 r1=>?_;exact⟨F1,ds,xs,x1.sub,by rw[iV];exact r1,hC,λp us F2 H2 x2 h0 hp hf r2=>q p us F2 H2 (x1.t x2) (x1.sh.free h0) hp hf r2⟩
def DV(h1:Up X U st (.nx TW))(h2:Bg X TW rest xs):Bg X U (st::rest) xs:=λB F H Y E k q=>(.mk λon s I=>xW Ls pJ on s Y H E I (h1 B F H Y _ k λF1 H1 UV k1 s1=>h2 B F1 H1 UV E k1 q))
def Mp{U:fx}(t:At X N sc)(i:Nat)(hr:U[i]?=some (.own xs))(hN:N[i]?=some x:=by rfl)(hv:oO sc x=true:=by rfl)(hx:ji x=true:=by rfl):Bg X U [.Return (some<|.Name x pos') pos] xs:=λB F H Y E k q=>by
 let⟨a,vs,h1,h2,h3,h4,h5⟩:=k.Us i xs hr;exact .mk λon s I=>Gk (Jt bJ) on s Y H E I (oC t hr hN hv hx k λb us g1 g2 g3=>by
  have e:a=b:=by rw[h1]at g1;exact V.ref.inj<|bS<|bS g1
  subst e;exact q a us F H k.toExt (by first |exact h4 |exact h3) g2 (by first |exact h3 |exact h4) g3)
def O1{P:Program}(Vg:P.given.tree=none){w:World}{K:gh}{mg:AD}{base:Heap}{x qual:Str}{st:Stmt}{f:Addr}{fd:FuncData}{N ps:dZ}{k:Nat}{C:bX->bX->Prop}(F:WH K x qual st f fd)(S:aL N ps (ay st))(len:∀ds xs,C ds xs->ds.length=ps.length)(body:∀X,DefX P w K mg base k N (ay st) X->∀ds xs,C ds xs->Bg X (FT N ds) (eo st) xs):pO P w K mg base Aw (k+1) f fd ps (Rp K C):=by
 refine F.ok S (λvs H Q E h=>?_) λUc A outer s H vs Q E hr h=>?_;let⟨F',ds,d,sub,r,hC,q⟩:=h;rw[r.length];exact len ds d hC;let⟨F',ds,d,sub,r,hC,q⟩:=h;refine⟨_,pJ,?_⟩;have hx:DefX P w K mg base k N (ay st) (Ce Aw P w K mg base N qual (ay st) f Uc A outer s H E).VB:=⟨⟨rfl,rfl,rfl,S.nd,rfl,hr.units,hr.Wh,Vg,⟨_,_,rfl,S.gen,S.co,rfl,rfl⟩⟩,rfl,rfl,rfl,rfl,rfl,hr,⟨λ_=>rfl⟩,rfl,rfl⟩;have hk:Ok K ⟨F',H⟩ F' H (start N vs) (FT N ds):=by unfold start;rw[r.length];exact x9 sub r _
 exact(body _ hx ds d hC) ⟨F',H⟩ F' H _ _ hk λp us F2 H2 x2 h0 hp hf r2=>q p us F2 H2 x2 h0 hp hf r2
def DefX.WE{ps:dZ}{x:Str}{C:bX->bX->Prop}(h:DefX P w K mg base k N sc X)(F:pO P w K mg base Aw j f fd ps (Rp K C))(hj:j<=k)(hm:mg x=some (.ref f))(hk:keepIn K (.ref f)=true)(hb:Binds K fd ps []):UQ X x C:=by obtain⟨h0,rfl,rfl,rfl,rfl,rfl,hr,_⟩:=h;exact⟨f,fd,ps,j,F,hr.mono hj,hm,hk,hb⟩
end
def del(F:Hp)(p:Addr):Hp:=λa=>if a=p then none else F a
def Cd{p a:Addr}(h:a≠p):del F p a=F a:=by unfold del;rw[ap h]
def Ks:del F p p=none:=by unfold del;rw[am rfl]
def Ext.XQ{H:Hp}{p:Addr}(x1:Ext ⟨F,H⟩ F1 H1)(hf:F1 p=none)(x2:Ext ⟨hU F1 p<|.lst us,H1⟩ F2 H2):Ext ⟨F,H⟩ (del F2 p) H2 where
 sub:=λa o q=>by by_cases h:a=p;subst h;rw[Ks]at q;cases q;rw[Cd h]at q;exact x2.sub a o q
 sh:=x1.sh.trans x2.sh
 sf:=λa o q=>by
  have q1:F1 a=some o:=x1.sf a o q;have h:a≠p:=λz=>by subst z;rw[hf]at q1;cases q1
  rw[Cd h];exact x2.sf a o<|by show hU F1 p (.lst us) a=some o;rw[bK h];exact q1
 nw:=λa q=>by
  have h:a≠p:=λz=>by subst z;exact q Ks
  rw[Cd h]at q;rcases x2.nw a q with z |z;have z':hU F1 p (.lst us) a≠none:=z;rw[bK h]at z';exact x1.nw a z';exact .inr<|x1.sh.free z
end L2.EV
namespace L2
open PySem PySem.W PySem.Spec PyProof.Rows
variable {K:gh}{ds:bX}
def MK(lo st:Int)(n:Nat):It:=⟨λi _=>i<n,λi H x H'=>H'=H/\x=.int (lo+(i:Nat)*st),λi _=>n<=i,True⟩
def CU(it:Addr)(lo st:Int)(n:Nat):Av P w K tg (MK lo st n) [it] it (λi h=>IsRangeIter h it (lo+(i:Nat)*st) ((n:Int)-(i:Nat)) st) where
 mem:=by simp
 obj:=λi h st b hb=>by
  cases by simpa using hb
  exact⟨_,st,λv z=>by have z':Data.fields _=Data.cell v:=z;cases z'⟩
 keep:=λi h h' st k=>k it (by simp) _ st
 item:=by
  intro X hP hw hK hc i on s Y H E I hf U0 hg;subst hP hw hK;let⟨f0,f1,f2,f3,f4,f5⟩:=hf it (by simp);refine wpAny_pyNext_range_item U0 (by have:i<n:=hg;lia) λh' U0 sb=>?_;have I1:Inv X on Y H {s with heap:=h',toks:=s.toks+1}:=I.turned (λb o hb e=>(sb.2 b hb).trans e) f0 f1 f3 f4 f5;have e1:lo+(i:Nat)*st+st=lo+((i+1:Nat):Int)*st:=by rw[MV,Int.add_mul];lia
  have e2:(n:Int)-(i:Nat)-1=(n:Int)-((i+1:Nat):Int):=by lia
  rw[e1,e2]at U0;exact⟨_,rfl,DT (s:={s with heap:=h',toks:=s.toks+1}) (n:="range_iterator") U0 rfl rfl (by decide) ⟨.int<|lo+(i:Nat)*st,H,I1,⟨s.toks,rfl⟩,⟨rfl,rfl⟩,U0,λb hb=>(hf b hb).1⟩⟩
 done:=by intro X hP hw hK hc i on s Y H E I hf U0 hg;subst hP hw hK;let⟨f0,f1,f2,f3,f4,f5⟩:=hf it (by simp);rcases hc with hc |⟨_,ea,oe,u,vs,k1,k2,k3,k4⟩;rotate_left;let⟨ho,_⟩:=(show TY X.prog X.w H s.heap ea (.UN oe u)from I.TV ea _<|I.base.UJ ea oe u k2);exact sM k1 ho k3 k4 U0 (by have:n<=i:=hg;lia) λh' eb=>⟨rfl,I.turned (t':=s.toks) (λb o hb e=>eb b o hb e) f0 f1 f3 f4 f5⟩;exact wpAny_pyNext_range_end (I.ok.hd hc) U0 (by have:n<=i:=hg;lia) λh' eb=>⟨rfl,I.turned (t':=s.toks) (λb o hb e=>eb b o hb e) f0 f1 f3 f4 f5⟩
 self:=λ_ _ _ _ _ st h=>wpAny_pyIter_rangeiter st h
end L2
namespace L2.EV
open PySem PySem.W PySem.Spec PyProof.Rows
variable {K:gh}{ds:bX}
abbrev Td:=List<|aG×Int
abbrev Tc:=List<|aG×Addr×Int
def WJ(H:Hp)(a:Addr)(xs:Tc):Prop:=H a=some (.ext<|D5 a xs)\/∃ob,H a=some (.UN ob<|.ext<|D5 a xs)
theorem items_int:∀{ks:aG}{us:jw},Vals (ks.map V.int) us->ItemsAre (intKind P w) ks us
 |[],_,r=>by rw[Sw]at r;cases r;exact .nil
 |k::ks,_,r=>by rw[eG]at r;cases r with|cons h t=>obtain⟨tk,rfl⟩:=(show∃t,_=Value.int k t from h);exact .cons (by show Value.isInt k (.int k tk)=true;simp[Value.isInt])<|items_int t
section
variable {X:Cx}
def WJ.is(I:Inv X on Y H s)(h:WJ H a xs):D5 a xs s.heap:=by rcases h with e |⟨ob,e⟩;exact(show TY X.prog X.w H s.heap a (.ext<|D5 a xs)from I.TV a _ e).1;exact(show TY X.prog X.w H s.heap a (.UN ob<|.ext<|D5 a xs)from I.TV a _ e).2.1
end
section
variable {X:Cx}{st:Stmt}{rest:List Stmt}
def Qe(K:gh)(C:bX->Td->Prop):Sp:=λvs H Q _=>∃F ds kvs,TR F H/\TF K F vs ds/\C ds kvs/\∀p us F' H',Ext ⟨F,H⟩ F' H'->H p=none->H' p=some (.ext<|D5 p us)->F' p=none->VP F' kvs us->Q (.ref p) H'
end
def Py(K:gh)(a:Addr)(ns:aG):Prop:=∃(o:Obj)(its:Array Value)(n:Nat),K.lookup a=some o/\o.cls=.type "tuple"/\o.data=.seq its n/\its.size<=sizeLine/\Vals (ns.map V.int) its.toList
section
variable {X:Cx}
def Ke(ha:Tz X U a (.int i))(hb:Tz X U b (.int j))(h0:KM i j):Tz X U (.BinOp a .LShift b pos) (.int<|i*2 ^ j.toNat):=oI Os ha hb h0 rfl
def Kq{x:Str}(t:At X N sc)(hm:X.mg x=some (.ref l))(hk:Py X.K l ns)(hg:ND sc x:=by rfl)(V8:FU x:=by rfl):UG X U tg (.Name x pos) (ns.map D.int):=.of (JB<|LF (v:=.ref l) (ik t hg) hm rfl V8) λB F H Y R k q=>⟨l,rfl,⟨_,.inr hk⟩,q _ F H (.refl k.sub)<|JZ (λH2 s2=>.inr hk)<|TF.ints ns⟩
def Cj(t:At X N sc):kr X (.builtin "divmod") (λxs H Q=>∃i j,xs=[.int i,.int j]/\j≠0/\∀p,H p=none->Q (.ref p) (hU H p<|.tup [.int<|i.fdiv j,.int<|i.fmod j])):=by intro on s Y H xs us Q I r h;obtain⟨i,j,rfl,h1,q⟩:=h;obtain⟨u,w',rfl,⟨t1,rfl⟩,⟨t2,rfl⟩⟩:=AF r;refine divmod_int h1 ?_<|.inr<|t.VY I;have hn:H s.heap.objs.size=none:=I.TV.fresh<|aq _;refine⟨.ref s.heap.objs.size,_,?_,rfl,q _ hn⟩;refine I.laid (λb o e=>aD _ e) (aq _) ⟨by simp only[dG,qY];rw[zq];decide,[.int (i.fdiv j) s.toks,.int (i.fmod j)<|s.toks+1],.cons ⟨_,rfl⟩<|.cons ⟨_,rfl⟩ .nil,?_⟩;exact⟨_,aT s.heap rfl,rfl,0,rfl⟩
end
section
variable {X:Cx}
def Dd{xs:bX}{n:Int}{apos TX:Pos}{U:fx}{pos:Pos}[VI X](t:At X N sc)(i:Nat)(bl:so X sc x (.builtin "divmod"))(hr:U[i]?=some (.own<|xs++[.int n]))(hb:Tz X (U.set i<|.own xs) b (.int m))(h0:m≠0)(hg:Vn X (U.set i<|.own xs) tg (.tup [.int<|n.fdiv m,.int<|n.fmod m]) TW)(hN:N[i]?=some y:=by rfl)(hv:oO sc y=true:=by rfl)(hx:ji y=true:=by rfl)(Ug:(apos.endLine==TX.line)=true:=by rfl)(Xr:Pl b:=by intro _ _;rfl)(hs:swapsWithSole [tg] (.Call (.Name x p1) [.Call (.Attribute (.Name y p) "pop" apos) [] [] TX,b] [] Yg) pos.line X.env=pure false:=by rfl)(hw:swappedStores [tg] (.Call (.Name x p1) [.Call (.Attribute (.Name y p) "pop" apos) [] [] TX,b] [] Yg) (dE sc)=pure none:=by rfl)(h1:(assignEach [tg] X.env).map (·.2)=[assign tg X.env]:=by rfl):Up X U (.Assign [tg] (.Call (.Name x p1) [.Call (.Attribute (.Name y p) "pop" apos) [] [] TX,b] [] Yg) pos) (.nx TW):=.of (EW (kn (Cj t) (ik t bl.g) bl.m bl.v (bY (BE fI nX nW BL bJ rfl Ug) (bY bJ fz<|Xr _ _) rfl) bl.n bl.d rfl<|by show List.any _ _=_;rw[Xr];rfl) JC hs ((nZ (show X.env.scope=(dE sc).scope from t.eS)).trans hw) h1) λB F H Y E k q=>oC t hr hN hv hx k λl vs g1 g2 g3=>⟨.inl ⟨rfl,_,T9.of g2⟩,by
   let⟨w,Za,UL⟩:=g3.get (i:=xs.length) (d:=.int n) (by simp);have X2:vs.length-1=xs.length:=by rw[g3.length];simp
   cases UL;refine⟨l,vs,_,rfl,rfl,g2,by rw[X2];exact Za,?_⟩;have k2:=k.Uu (vs:=vs) (ds:=xs) hr g1 (by have:=g3.dropLast;rwa[CI]at this);refine hb B F _ Y _ k2 λv F1 H1 x1 r1=>?_;cases r1;refine⟨n,m,rfl,h0,λp hp=>?_⟩;have x2:=x1.grow (o:=.tup [.int (n.fdiv m),.int (n.fmod m)]) hp;exact hg B _ _ Y (.ref p) _ (k2.ext x2) (.tup cf (.cons (.int _) (.cons (.int _) .nil))) λF2 H2 XV k3 s2=>q F2 H2 XV k3 (x2.sf.trans s2)⟩
end
def zx(its:jw):slicePick its.toArray none none (some (-1))=its.reverse.toArray:=by
 unfold slicePick;have e1:sliceBounds none none (some (-1)) its.toArray.size=((its.toArray.size:Int)-1,-1,-1):=rfl;rw[e1];have e2:sliceRange ((its.toArray.size:Int)-1) (-1) (-1)=(List.range its.toArray.size).map λ(k:Nat)=>((its.toArray.size:Int)-1+(k:Int)*(-1)).toNat:=by
  have e3:(if(-1:Int)>0 then(if(its.toArray.size:Int)-1< -1 then(-1-((its.toArray.size:Int)-1)+ -1-1) / -1 else 0)else(if(its.toArray.size:Int)-1> -1 then((its.toArray.size:Int)-1- -1- -1-1) / (- -1)else 0)).toNat=its.toArray.size:=by rw[ap<|by decide];by_cases h:(its.toArray.size:Int)-1> -1;rw[am h];have:(- -1:Int)=1:=rfl;rw[this,Int.ediv_one];lia;rw[ap h];lia
  show(List.range<|Int.toNat _).map _=_;rw[e3];exact fP λk _=>by congr 1;lia
 rw[e2,List.filterMap_map];have:=HT.VZ its.toArray;rw[<-this];rfl
def GF:∀{us:jw}{ns:aG},IntsAre us ns->∀(i:Nat)(v:Value),us[i]?=some v->∃(n:Int)(tk:Tok),ns[i]?=some n/\v=.int n tk
 |_,_,.nil,i,v,h=>by simp at h
 |_,_,.cons n t r,0,v,h=>by
  have:v=.int n t:=by simpa using h.symm
  exact⟨n,t,rfl,this⟩
 |_,_,.cons n t r,i+1,v,h=>GF r i v<|by simpa using h
def TF.V5:∀{ns:aG}{vs:gW},TF K F vs (ns.map D.int)->vs=ns.map V.int
 |[],_,h=>by cases h;rfl
 |b::bs,_,h=>by cases h with|cons r t=>cases r;rw[eG,TF.V5 t]
section
variable {X:Cx}
def GO(ha:UA X U a true xs)(hc:Tz X U c (.int (-1))):T1 X U (.Subscript a (.Slice none none (some c) p2) pos) xs.reverse:=λB F H Y Q k q=>.mk λon s I=>by refine Subscript_ (fH (ha B F H Y (λv H1=>∃p vs F1,v=.ref p/\Ext ⟨F,H⟩ F1 H1/\Wi X.K true H1 p vs/\TF X.K F1 vs xs) k (λp vs F1 H1 x1 s1 r1=>⟨p,vs,F1,rfl,x1,s1,r1⟩) on s I) λv s1 z=>?_);obtain⟨x,H1,I1,r1,p,vs,F1,hx,x1,sq,rp⟩:=z;subst hx;cases r1;refine wpAny_Slice ?_;rw[evalPart_none];refine aR<|aR ?_;rw[evalPart_some];refine fH (hc B F1 H1 Y (λv H2=>∃F2,Ext ⟨F1,H1⟩ F2 H2/\v=.int (-1)) (k.ext x1) (λv F2 H2 x2 r=>by cases r;exact⟨F2,x2,rfl⟩) on s1 I1) λu s2 z=>?_;obtain⟨y,H2,I2,r2,F2,x2,hy⟩:=z;subst hy;obtain⟨tk,rfl⟩:=r2;have I4:Inv X on Y H2 {s2 with heap:=s2.heap.push {cls:=.type "slice",data:=.fields #[.none,.none,.int (-1) tk]}}:=I2.kept (t':=s2.toks) λb ob q=>aD _ q;obtain⟨its,r,ht,hz⟩:=I4.list<|Wi.mono x2.sh sq;have hlen:=r.length;refine tail_any (ops:=[.ref p,.ref s2.heap.objs.size]) ht.isList.typeIs slot_list_getitem.lookup (wpAny_getItem_list_slice ht.isList (Heap.IsSliceOf.new ..) .none .none (.int (-1) tk) (by decide) ?_<|by rw[aC]<;>lia) rfl;rw[zx];have xx:=x1.t x2;have hp:=I4.TV.fresh<|aq _;refine⟨.ref _,_,I4.laid (t':=s2.toks) (o:=.lst vs.reverse) (λb ob q=>aD _ q) (aq _) ?_,rfl,q _ vs.reverse F2 _ ⟨xx.sub.trans<|bh hp,xx.sh.trans<|bh hp,xx.sf,xx.nw⟩ (xx.sh.free hp) cf (xx.sub.free hp) (rp.mono x2.sf).reverse⟩;exact⟨by rwa[dr],_,0,r.reverse,aT _ rfl⟩
def HV(hc:X.calm=true):kr X (.builtin "any") (λxs H Q=>∃(l:Addr)(ns:aG),xs=[.ref l]/\T9 X.K H l (ns.map V.int)/\Q (.bl (ns.any (· !=0))) H):=by
 intro on s Y H xs us Q I r h;obtain⟨l,ns,rfl,sl,q⟩:=h;obtain⟨u,rfl,ru⟩:=pW r;cases(ru);let⟨vs,rv,pl,hz⟩:=I.list sl;have hb:=Fe rv;have hl:=pl.isList;have Uv:l<s.heap.objs.size:=by let⟨_,e,_⟩:=hl;exact aQ e
 refine call_any_walk<|zp hl ?_;refine⟨s.heap.objs.size,[s.heap.objs.size,l],[s.heap.objs.size],vs.toArray.size,_,_,λi=>((ns.map (· !=0))[i]?).getD false,rfl,Walks.list (A:=X.A.in1) (I.ok.hd hc) _ l (bU Uv) vs.toArray,⟨⟨_,aT _ rfl,rfl,rfl⟩,hl.push _⟩,λi v s' Q' E' hP hQ=>?_,λh' tk hk=>?_⟩;obtain⟨b,tk,e,rfl⟩:=GF hb i v (by simpa using hP);simp only[aH,e,Option.map_some,KN]at hQ;first |exact truthy_int hQ |exact PyProof.Rows.truthy_int hQ |exact PySem.Spec.truthy_int hQ |exact PySem.truthy_int hQ
 have e:((List.range vs.toArray.size).any λi=>((ns.map (· !=0))[i]?).getD false)=ns.any (· !=0):=by have h1:=LSm.range_any (ns.map (· !=0));rw[ae]at h1;rw[aC,hb.length,h1,List.any_map];rfl
 rw[e];exact⟨.bl _,H,I.kept<|LSm.kept_iter hk,rfl,q⟩
def GM{ns:aG}(t:At X N sc)(bl:so X sc x (.builtin "any"))(ha:UA X U e true (ns.map D.int))(U2:Pl e:=by intro _ _;rfl):Tz X U (.Call (.Name x p) [e] [] pos) (.bl (ns.any (· !=0))):=.of (kn (HV t.calm) (ik t bl.g) bl.m bl.v (bY bJ fz<|U2 _ _) bl.n bl.d (U2 _ _) rfl) λB F H Y Q k' q=>ha B F H Y _ k' λl vs F' H' x' sl rl=>by have e:=rl.V5;subst e;exact⟨l,ns,rfl,sl,q _ F' H' x'<|.bl _⟩
end
section
variable {X:Cx}
def Gd{pos:Pos}(t:At X N sc)(i j:Nat)(h1:T1 X U a us)(h2:Tz X U b v)(Vi:i≠j)(hi:N[i]?=some x:=by rfl)(hj:N[j]?=some y:=by rfl)(hx:sc.names.lookup x=some .local:=by rfl)(hy:sc.names.lookup y=some .local:=by rfl)(hw:swappedStores [.Tuple [.Name x px,.Name y py] kt pt] (.Tuple [a,b] k2 U6) (dE sc)=pure (some [x,y]):=by rfl)(hs:swapsWithSole [.Tuple [.Name x px,.Name y py] kt pt] (.Tuple [a,b] k2 U6) pos.line X.env=pure false:=by rfl)(W8:En a [b] X.env:=by rfl)(Vh:En b [] X.env:=by rfl):Up X U (.Assign [.Tuple [.Name x px,.Name y py] kt pt] (.Tuple [a,b] k2 U6) pos) (.nx<|(U.set i<|.own us).set j<|.val v):=.of (EU (i:=i) (j:=j) t.calm t.nd (t.ix hi) (t.ix hj) Vi (by rw[t.eS];exact hx) (by rw[t.eS];exact hy) (bY bJ (bY bJ fz Vh) W8) ((nZ (show X.env.scope=(dE sc).scope from t.eS)).trans hw) hs) λB F H Y E k q=>h1 B F H Y _ k λp vs F1 H1 x1 h0 hp hf r=>h2 B F1 H1 Y _ (k.ext x1) λv2 F2 H2 x2 r2=>by have Zu:F2 p=none:=x2.kf hf hp;exact⟨.ref p,v2,rfl,q F2 H2 _ (((k.ext<|x1.t x2).UR i (x2.sh _ _ hp) Zu (k.sh.free h0) (k.noOwn h0)<|r.mono x2.sf).TM j r2) (x1.t x2).sf⟩
def Gc{pos:Pos}(t:At X N sc)(i j:Nat)(h1:T1 X U a us)(h2:T1 X U b ws)(Vi:i≠j)(hi:N[i]?=some x:=by rfl)(hj:N[j]?=some y:=by rfl)(hx:sc.names.lookup x=some .local:=by rfl)(hy:sc.names.lookup y=some .local:=by rfl)(hw:swappedStores [.Tuple [.Name x px,.Name y py] kt pt] (.Tuple [a,b] k2 U6) (dE sc)=pure (some [x,y]):=by rfl)(hs:swapsWithSole [.Tuple [.Name x px,.Name y py] kt pt] (.Tuple [a,b] k2 U6) pos.line X.env=pure false:=by rfl)(W8:En a [b] X.env:=by rfl)(Vh:En b [] X.env:=by rfl):Up X U (.Assign [.Tuple [.Name x px,.Name y py] kt pt] (.Tuple [a,b] k2 U6) pos) (.nx<|(U.set i<|.own us).set j<|.own ws):=.of (EU (i:=i) (j:=j) t.calm t.nd (t.ix hi) (t.ix hj) Vi (by rw[t.eS];exact hx) (by rw[t.eS];exact hy) (bY bJ (bY bJ fz Vh) W8) ((nZ (show X.env.scope=(dE sc).scope from t.eS)).trans hw) hs) λB F H Y E k q=>h1 B F H Y _ k λp vs F1 H1 x1 h0 hp hf r=>h2 B F1 H1 Y _ (k.ext x1) λp2 vs2 F2 H2 x2 g0 gp gf r2=>by
   have Zu:F2 p=none:=x2.kf hf hp;have Uy:p≠p2:=λe=>by subst e;rw[hp]at g0;cases g0
   have g00:H p2=none:=x1.sh.free g0;have no2:Ub (Y.set i<|some<|.ref p) (U.set i<|.own us) p2:=λm xs e z=>by by_cases him:i=m;subst him;rw[uO]at z;rw[am rfl]at z;split at z;cases z;exact Uy rfl;cases z;rw[aS him]at e z;exact k.noOwn g00 m xs e z
   exact⟨.ref p,.ref p2,rfl,q F2 H2 _ (((k.ext<|x1.t x2).UR i (x2.sh _ _ hp) Zu (k.sh.free h0) (k.noOwn h0)<|r.mono x2.sf).UR j gp gf (k.sh.free g00) no2 r2) (x1.t x2).sf⟩
end
end L2.EV
namespace HT
open PySem PySem.W PySem.Spec PyProof.Rows
variable {K:gh}{ds:bX}
end HT
namespace L2
open PySem PySem.W PySem.Spec PyProof.Rows
variable {K:gh}{ds:bX}
end L2
namespace L2.EV
open PySem PySem.W PySem.Spec PyProof.Rows
variable {K:gh}{ds:bX}
abbrev Tb:=List<|Addr×bX
theorem Ft(x:Int)(k:Nat):Builtin.bitAnd x (2 ^ k-1)=x%2 ^ k:=by
 have e:((2:Int) ^ k-1)=((2 ^ k-1:Nat):Int):=by have:1<=2 ^ k:=FO;rw[MU this,zu];rfl
 have hp:(0:Int)<=2 ^ k-1:=by rw[e];exact tV _
 have et:((2:Int) ^ k-1).toNat=2 ^ k-1:=by rw[e];exact fK _
 have ek:((2 ^ k:Nat):Int)=(2:Int) ^ k:=by rw[zu];rfl
 by_cases hx:0<=x;rw[bitAnd_pp hx hp,et,KO,Int.natCast_emod,ek,kR hx];rw[bitAnd_np hx hp,et,Nat.and_comm,KO,Int.natCast_emod,ek];unfold Builtin.bitNot;rw[kR<|by lia];have XY:(0:Int)<2 ^ k:=by rw[<-ek];exact Int.natCast_pos.mpr<|Nat.two_pow_pos k
 generalize(2:Int) ^ k=m at*;have h1:=bx (-x-1)<|Int.ne_of_gt XY;have h2:=bp (-x-1) XY;have h3:=Int.mul_ediv_add_emod (-x-1) m;have h4:x=m-1-(-x-1)%m+m*(-((-x-1) / m)-1):=by
  have:m*(-((-x-1) / m)-1)=-(m*((-x-1) / m))-m:=by rw[Int.mul_sub,pT,CK]
  lia
 have h5:x%m=(m-1-(-x-1)%m)%m:=by
  conv=>lhs;rw[h4]
  rw[PF]
 have h6:(m-1-(-x-1)%m)%m=m-1-(-x-1)%m:=Int.emod_eq_of_lt (by lia) (by lia);rw[h5,h6]
section
variable {X:Cx}
def O5(ha:Tz X U a (.int i))(hb:Tz X U b (.int j))(h0:0<=j):Tz X U (.BinOp a .RShift b pos) (.int<|i / 2 ^ j.toNat):=oI Oq ha hb h0 rfl
def Mh{k:Nat}(ha:Tz X U a (.int i))(hb:Tz X U b (.int<|2 ^ k-1)):Tz X U (.BinOp a .BitAnd b pos) (.int<|i%2 ^ k):=yS Ox ha hb<|Ft i k
def Ml(ha:Tz X U a (.tup xs))(hb:Tz X U b (.tup ys))(hx:xs≠[])(hy:ys≠[])(hz:xs.length+ys.length<=sizeLine):Tz X U (.BinOp a .Add b pos) (.tup<|xs++ys):=.of (x8 LK bJ bJ) λB F H Y Q k q=>two ha hb k λx y F' H' x' rx ry=>by cases rx with|tup h1 r1=>cases ry with|tup h2 r2=>refine⟨_,_,_,_,rfl,rfl,Ud.of<|x'.sub _ _ h1,Ud.of<|x'.sub _ _ h2,λz=>hx<|aw<|by rw[<-r1.length,z];rfl,by rwa[r1.length,r2.length],λz=>absurd (aw<|by rw[<-r2.length,z];rfl) hy,λ_ p hp=>?_⟩;exact q _ _ _ (x'.grow hp)<|.tup cf<|(r1.append r2).mono<|bh<|x'.sub.free hp
end
section
variable {X:Cx}
def NX{p:PyData}(t:At X N sc){qs:List PyData}(sp:p.canLay0=true)(sd:p.depth<=62)(sq:PyData.canLayAll0 qs=true):nV X (compareOp .In) (λx y H Q=>VU X H x p/\VU X H y (.tuple qs)/\Q (.bl (qs.any λy=>PyData.eqv y p)) H):=by intro on s Y H x y v u Q I rx ry h;let⟨h1,h2,h3⟩:=h;let⟨as,r1⟩:=h1 sp H (.refl _) on Y s v I rx;let⟨bs,r2⟩:=h2 (by simpa[PyData.canLay0]using sq) H (.refl _) on Y s u I ry;refine SeqAt.in_tuple_reads r2 r1 sq sp ?_ ⟨.bl _,H,I,rfl,h3⟩;have hu:=t.un;have:min (PyData.depthAll qs) p.depth<=p.depth:=Nat.min_le_right _ _;lia
def O8{r:Bool}(t:At X N sc)(ha:Tz X U a d)(hb:Tz X U b (.tup xs))(sp:(ke d).canLay0=true)(sd:(ke d).depth<=62)(sq:PyData.canLayAll0 (TZ xs)=true)(he:((TZ xs).any λy=>PyData.eqv y<|ke d)=r)(hm:behindInMarks .In b=false:=by rfl):TC X U (.Compare a [.In] [b] pos) r:=.of (w9 (NX t sp sd sq) bJ bJ hm) λB F H Y Q k q=>K0 (Tz.p ha) (Tz.p hb) k λx y F' H' x' rx ry=>⟨rx,ry,r,by rw[he],q F' H' x'⟩
end
mutual
inductive GP(K:gh):Value->PyData->Prop where
 |int (i:Int) (t:Tok):GP K (.int i t) (.int i)
 |str (x:Str) (t:Tok):GP K (.str x t) (.str x)
 |tup {a:Addr} {o:Obj} {its:Array Value} {n:Nat} {ps:List PyData}:K.lookup a=some o->o.cls=.type "tuple"->o.data=.seq its n->WZ K its.toList ps->GP K (.ref a) (.tuple ps)
inductive WZ(K:gh):jw->List PyData->Prop where
 |nil:WZ K [] []
 |cons {v:Value} {vs:jw} {p:PyData} {ps:List PyData}:GP K v p->WZ K vs ps->WZ K (v::vs) (p::ps)
end
mutual
def GP.reads(i:K.In h):∀{v:Value}{p:PyData},GP K v p->∃as,Reads h v p as
 |_,_,.int i t=>⟨_,.int i t⟩|_,_,.str x t=>⟨_,.str x t⟩
 |_,_,.tup e c d r=>by let⟨as,ra⟩:=WZ.reads i r;exact⟨_,.tuple (i _ _ e) c d ra⟩
def WZ.reads(i:K.In h):∀{vs:jw}{ps:List PyData},WZ K vs ps->∃as,ReadsAll h vs ps as|_,_,.nil=>⟨_,.nil⟩|_,_,.cons a b=>by let⟨as,ra⟩:=GP.reads i a;let⟨bs,rb⟩:=WZ.reads i b;exact⟨_,.cons ra rb⟩
end
section
variable {X:Cx}
def Pk:D->Bool|.TN=>true |.bl _=>true |.int _=>true |.str _=>true |.tup _=>true |.lst _=>true |.UK _=>true |_=>false
def L7(hk:kitOne X.K (.type "dict") (.type T)=some k):kr X (.builtin "isinstance") (λxs H Q=>∃x F kvs,xs=[x,.ty T]/\TR F H/\Rep X.K F x (.UK kvs)/\Q (.bl k) H):=by
 intro on s Y H xs us Q I r h;obtain⟨v,F,kvs,rfl,sub,rv,q⟩:=h;obtain⟨u,w,rfl,ru,UL⟩:=AF r;cases(UL);cases rv with|@UK a ob _ zs hf _=>
 cases(ru);let⟨_,_,o,h1,h2,_⟩:=WJ.is I (.inr ⟨ob,sub _ _ hf⟩:WJ H a zs);exact dQ Ij I.Vb ⟨o,h1,h2.1⟩ hk (λz=>nomatch z) λtk=>⟨.bl k,H,I.tok tk,rfl,q⟩
def B7(t:At X N sc)(bl:so X sc x (.builtin "isinstance"))(bt:so X sc y (.type T))(ha:Tz X U a d)(hp:Pk d=true)(hk:kitOne X.K (Rm d) (.type T)=some k)(hpa:Pl a:=by intro _ _;rfl):Tz X U (.Call (.Name x p) [a,.Name y py] [] pos) (.bl k):=by
 cases d with
 |UK kvs=>exact .of (kn (L7 hk) (ik t bl.g) bl.m bl.v (bY bJ (bY (Gq (v:=.ty T) (ik t bt.g) bt.m bt.v rfl bt.n bt.d) fz)<|hpa _ _) bl.n bl.d (hpa _ _) rfl) λB F H Y Q k' q=>ha B F H Y _ k' λv F' H' x' r=>⟨v,F',kvs,rfl,x'.sub,r,q _ F' H' x'<|.bl k⟩
 |TN=>exact oH t bl bt ha hk (hpa:=hpa)|bl _=>exact oH t bl bt ha hk (hpa:=hpa)
 |int _=>exact oH t bl bt ha hk (hpa:=hpa)|str _=>exact oH t bl bt ha hk (hpa:=hpa)
 |tup _=>exact oH t bl bt ha hk (hpa:=hpa)|lst _=>exact oH t bl bt ha hk (hpa:=hpa)
 |UC _=>cases hp
 |exc _=>cases hp
 |VN _ _=>cases hp
 |adr _=>cases hp
 |Wj _=>cases hp
def QG:D->Bool|.tup _=>true |_=>false
def R4:D->Bool|.bl _=>true |_=>false
def QH:D->Bool|.int _=>true |.bl _=>true |_=>false
def qz(t:At X N sc)(bl:so X sc x (.builtin "isinstance"))(bt:so X sc y (.type "tuple"))(ha:Tz X U a d)(hp:Pk d=true)(hpa:Pl a:=by intro _ _;rfl):Tz X U (.Call (.Name x p) [a,.Name y py] [] pos) (.bl<|QG d):=B7 t bl bt ha hp (by cases d<;>first |rfl |cases hp) hpa
def Mi(t:At X N sc)(bl:so X sc x (.builtin "isinstance"))(bt:so X sc y (.type "bool"))(ha:Tz X U a d)(hp:Pk d=true)(hpa:Pl a:=by intro _ _;rfl):Tz X U (.Call (.Name x p) [a,.Name y py] [] pos) (.bl<|R4 d):=B7 t bl bt ha hp (by cases d<;>first |rfl |cases hp) hpa
def Kk(t:At X N sc)(bl:so X sc x (.builtin "isinstance"))(bt:so X sc y (.type "int"))(ha:Tz X U a d)(hp:Pk d=true)(hpa:Pl a:=by intro _ _;rfl):Tz X U (.Call (.Name x p) [a,.Name y py] [] pos) (.bl<|QH d):=B7 t bl bt ha hp (by cases d<;>first |rfl |cases hp) hpa
end
section
variable {X:Cx}
def e8{xs:bX}(n:Nat)(h:xs[n]?=some d):tZ xs (n:Int)=some d:=by unfold tZ;rwa[qx (by lia) (by lia)<|(aV.mp h).1]
def Ki(n:Nat)(ha:Tz X U a (.tup xs))(hb:Tz X U b (.int i))(hi:i=(n:Int))(h:xs[n]?=some d)(hs:Cw b:=by intro _ _;rfl):Tz X U (.Subscript a b pos) d:=aF ha.qt hb (by subst hi;exact e8 n h) hs
theorem ME{i:Int}{ys:bX}(hi:i=-1\/i=((ys++[d]).length:Int)-1):tZ (ys++[d]) i=some d:=by
 unfold tZ;have hl:(ys++[d]).length=ys.length+1:=by simp
 rcases hi with rfl |rfl;have:CM (ys++[d]).length (-1)=some ys.length:=by unfold CM;simp[hl];lia
 rw[this];simp;rw[qx (j:=ys.length) (by lia) (by lia)<|by lia];simp
end
section
variable {X:Cx}{rest:List Stmt}
def mY(ha:Tz X U a (.bl u))(hb:u=true->Tz X U b (.bl v)):Tz X U (.BoolOp .And [a,b] pos) (.bl<|u&&v):=by cases u with|true=>exact oJ ha (u8<|hb rfl)|false=>exact xl ha
def Kh(ha:Tz X U a (.bl u))(hb:u=false->Tz X U b (.bl v)):Tz X U (.BoolOp .Or [a,b] pos) (.bl<|u||v):=by cases u with|true=>exact Kg ha|false=>exact Ff ha<|u8<|hb rfl
def Mn(ha:Tz X U a (.bl u))(hb:u=true->Tz X U b (.bl v))(hc:u=true->v=true->Tz X U c (.bl w)):Tz X U (.BoolOp .And [a,b,c] pos) (.bl<|u&&(v&&w)):=by cases u with|true=>exact oJ ha (show Tz X U (.BoolOp .And [b,c] pos) (.bl<|v&&w)from mY (hb rfl)<|hc rfl)|false=>exact xl ha
def me(ha:TC X U a u)(hb:u=false->TC X U b v):TC X U (.BoolOp .Or [a,b] pos) (u||v):=by cases u with|true=>exact Uq.toT (yP ha)|false=>exact Uq.toT<|jD ha<|oG<|hb rfl
def lv(ha:TC X U a u)(hb:u=true->TC X U b v):TC X U (.BoolOp .And [a,b] pos) (u&&v):=by cases u with|true=>exact Uq.toT (mX ha<|rF<|hb rfl)|false=>exact Uq.toT<|rE ha
def Mo(ha:TC X U a u)(hb:u=true->TC X U b v)(hc:u=true->v=true->TC X U c w):TC X U (.BoolOp .And [a,b,c] pos) (u&&(v&&w)):=by
 cases u with
 |true=>cases v with|true=>exact Uq.toT (mX ha<|mX (hb rfl)<|rF<|hc rfl rfl)|false=>exact Uq.toT<|mX ha<|rE<|hb rfl
 |false=>exact Uq.toT<|rE ha
def NA(hc:TC X U c u)(h1:u=true->TB X U body (.rt d))(h2:u=false->TB X U rest (.rt d)):TB X U (.If c body [] pos::rest) (.rt d):=by cases u with|true=>exact eF (eV hc<|h1 rfl)|false=>exact ao (c9 hc bM)<|h2 rfl
end
def all_map(g:D->Bool)(xs:bX):(xs.map g).all id=xs.all g:=by rw[List.all_map];rfl
def Ui.scan{X:Cx}{Y:Type}(R:Y->fx)(I F:Y->Prop)(μ:Y->Nat)(st:∀s,I s->(TC X (R s) c false/\F s)\/(TC X (R s) c true/\(TB X (R s) body (.rt d0)\/∃s',TB X (R s) body (.nx<|R s')/\I s'/\μ s'<μ s))):∀(n:Nat)(s:Y),μ s<=n->I s->∃m o,Ui X c body m (R s) o/\(o=.rt d0\/∃s',o=.nx (R s')/\F s')|n,s,hn,hI=>by rcases st s hI with⟨h1,h2⟩ |⟨h1,h2 |⟨s',h2,h3,h4⟩⟩;exact⟨0,_,.stop h1,.inr ⟨s,rfl,h2⟩⟩;exact⟨0,_,.ret h1 h2,.inl rfl⟩;cases n with|zero=>lia|succ n=>let⟨m,o,hr,ho⟩:=Ui.scan R I F μ st n s' (by lia) h3;exact⟨m+1,o,.step h1 h2 hr,ho⟩
def rK{X:Cx}{rest:List Stmt}{Y:Type}(t:At X N sc)(R:Y->fx)(I F:Y->Prop)(μ:Y->Nat)(s0:Y)(h0:I s0)(st:∀s,I s->(TC X (R s) c false/\F s)\/(TC X (R s) c true/\(TB X (R s) body (.rt d0)\/∃s',TB X (R s) body (.nx<|R s')/\I s'/\μ s'<μ s)))(fin:∀s,F s->TB X (R s) rest (.rt d0)):TB X (R s0) (.While c body [] pos::rest) (.rt d0):=by let⟨m,o,hr,ho⟩:=Ui.scan R I F μ st (μ s0) s0 (aq _) h0;have run:=gs (pos:=pos) t ⟨m,hr⟩;rcases ho with rfl |⟨s',rfl,hf⟩;exact eF run;exact ao run<|fin s' hf
def mod_lt{x:Int}{xs:bX}(h:xs≠[]):(x%(xs.length:Int)).toNat<xs.length:=by have:0<xs.length:=az.mpr h;have:=bp x (show 0<(xs.length:Int)by lia);have:=bx x (show(xs.length:Int)≠0 by lia);lia
def uZ:fillsNumberSlot (.type "tuple") "mul"=pure false:=PySem.fillsNumberSlot_seq (id:="tuple.__mul__") (r:=some<|.builtin "tuple.__rmul__") PySem.F.slot_tuple_mul.lookup (by decide) PySem.F.slot_tuple_rmul.lookup<|by decide
def By:seqRepeat? (.type "tuple")=pure (some<|.builtin "tuple.__mul__"):=by unfold seqRepeat?;rw[PySem.seqSlot_of (T:="tuple") (name:="__mul__") (id:="tuple.__mul__") PySem.F.slot_tuple_mul.lookup<|by decide,PySem.seqSlot_of (T:="tuple") (name:="__rmul__") (id:="tuple.__rmul__") PySem.F.slot_tuple_rmul.lookup<|by decide];rfl
def EN(a:Int)(t:Tok)(l:Addr)(U5:Option Addr)(items:Array Value)(n:Nat)(sl:Array (Option Value)):Meets (Builtin.«int.__rmul__» ⟨[.int a t,.ref l],[]⟩) (λ_ R s=>s.heap.get? l=some {cls:=.type "tuple",dict:=U5,data:=.seq items n,slots:=sl}/\R (.ok<|.ret Value.notImplemented) s):=.of_wp λprog w A R s h=>by let⟨hp,g,d,tk,os⟩:=s;let⟨hl,h⟩:=h;wp_walk;exact⟨_,rfl,h⟩
structure LS where
 cs:Type
 ds:Type
 ov:cs->Addr->Option HO
 dom:∀c c' a,ov c a=none->ov c' a=none
 rep:gh->Hp->cs->ds->Prop
 mono:∀{K:gh}{F F':Hp}{c:cs}{s:ds},TR F F'->rep K F c s->rep K F' c s
structure S9 where
 C:Addr
 p:Addr
 dx:Addr
 q:Addr
 l:Addr
 toks:dZ
end L2.EV
namespace L2
open PySem PySem.W PySem.Spec PyProof.Rows
variable {K:gh}{ds:bX}
section
variable {X:Cx}
def Hg{lo hi:Int}{tk:Nat}{R:It->Hp->Prop}(I:Inv X on Y H s)(h1: -(2 ^ 62)<=lo)(h2:lo<2 ^ 62)(h3: -(2 ^ 62)<=hi)(h4:hi<2 ^ 62)(q:R (MK lo (-1) (lo-hi).toNat) H):ge X (pyIter<|.ref s.heap.objs.size) (Ra X on Y tg R) E {s with heap:=s.heap.push {cls:=.type "range",data:=.fields #[.int lo t,.int hi u,.int (-1) v]},toks:=tk}:=by
 refine wpAny_pyIter_range (IsRange.new ..) (small_down h1 h2 h3 h4) ?_;have I1:Inv X on Y H {s with heap:=s.heap.push {cls:=.type "range",data:=.fields #[.int lo t,.int hi u,.int (-1) v]},toks:=tk}:=I.kept λb o e=>aD _ e;refine⟨(s.heap.push {cls:=.type "range",data:=.fields #[.int lo t,.int hi u,.int (-1) v]}).objs.size,[(s.heap.push {cls:=.type "range",data:=.fields #[.int lo t,.int hi u,.int (-1) v]}).objs.size],_,_,H,rfl,I1.kept (t':=tk) λb o e=>aD _ e,CU _ lo (-1) (lo-hi).toNat,?_,λb hb=>?_,q⟩;have e1:lo+((0:Nat):Int)*(-1)=lo:=by simp
 have e2:(((lo-hi).toNat:Nat):Int)-((0:Nat):Int)=Builtin.Range.rangeSize lo hi (-1):=by rw[rangeSize_downNat];simp
 rw[e1,e2];exact aT _ rfl;have e:b=(s.heap.push {cls:=.type "range",data:=.fields #[.int lo t,.int hi u,.int (-1) v]}).objs.size:=by simpa using hb
 subst e;exact I1.Vu (aq _)<|I1.TV.fresh<|aq _
def QI(ta:TA):TI:=λY H R=>ta Y H λvs H1=>∃i j:Int,vs=[.int i,.int j,.int (-1)]/\(-(2 ^ 62)<=i/\i<2 ^ 62/\-(2 ^ 62)<=j/\j<2 ^ 62)/\R (MK i (-1) (i-j).toNat) H1
def Hk(hg:Gl X "range")(hm:X.mg "range"=none)(ha:PA X [a,b,c] ta)(hs:starEach [a,b,c] X.env=(false,eval a X.env)::starEach [b,c] X.env:=by rfl)(Vh:(backTo pos<|starEach [b,c] X.env).any (·.1)=false:=by rfl):PI X tg (.Call (.Name "range" p) [a,b,c] [] pos) (QI ta):=by refineλon s Y H R I h=>Call_<|oF I hg hm boot_range<|dJ (fH (ha pos on s Y H _ I h) λus s1 ⟨vs,H1,I1,r1,q1⟩=>?_) hs Vh;obtain⟨i,j,e,⟨q1,q2,q3,q4⟩,q⟩:=q1;subst e;cases r1 with|cons r rr=>cases rr with|cons r' rr=>cases rr with|cons r'' rr=>cases rr;obtain⟨t,rfl⟩:=r;obtain⟨t',rfl⟩:=r';obtain⟨t'',rfl⟩:=r'';exact call_range_3 (by decide) (Hg I1 q1 q2 q3 q4 q)<|Or.inl<|PyProof.noPylong_small<|by lia
end
end L2
namespace L2.EV
open PySem PySem.W PySem.Spec PyProof.Rows
variable {K:gh}{ds:bX}
section
variable {X:Cx}
def pK(i:Int)(n:Nat):bX:=(List.range n).map λ(k:Nat)=>D.int<|i-(k:Int)
def OQ:wF K (MK i (-1) n) F (pK i n):=λk F2 H2 s1 s2=>⟨λd hd=>by
  unfold pK at hd;rw[aH]at hd;have hi:k<n:=by by_cases h:k<n;exact h;rw[bQ<|by simpa using h]at hd;cases hd
  rw[cq hi]at hd;cases hd;refine⟨hi,λx H' y=>?_⟩;obtain⟨rfl,rfl⟩:=y;have e:i+(k:Nat)*(-1)=i-(k:Int):=by lia
  rw[e];exact⟨F2,.refl s2,.int _⟩,λh=>by
   have h':n<=k:=by simpa[pK]using h
   exact h'⟩
def A9(t:At X N sc)(bl:so X sc "range" (.type "range"))(ha:Tz X U a (.int i))(hb:Tz X U b (.int j))(hc:Tz X U c (.int (-1)))(h: -(2 ^ 62)<=i/\i<2 ^ 62/\-(2 ^ 62)<=j/\j<2 ^ 62)(XW:Pl a:=by intro _ _;rfl)(Xp:Pl b:=by intro _ _;rfl)(hsc:Pl c:=by intro _ _;rfl):UG X U tg (.Call (.Name "range" p) [a,b,c] [] pos) (pK i (i-j).toNat):=.of (Hk (ik t bl.g) bl.m (bY bJ (bY bJ (bY bJ fz<|hsc _ _)<|Xp _ _)<|XW _ _) (XW _ _)<|by rw[Xp,hsc];rfl) λB F H Y R k q=>ha B F H Y _ k λv F1 H1 x1 r1=>hb B F1 H1 Y _ (k.ext x1) λw F2 H2 x2 r2=>hc B F2 H2 Y _ (k.ext<|x1.t x2) λu F3 H3 x3 r3=>by cases r1;cases r2;cases r3;exact⟨i,j,rfl,h,q _ F3 H3 (x1.t<|x2.t x3) OQ⟩
end
section
variable {X:Cx}
def Bu{pos:Pos}(h:Tz X U e d)(Ww:swapsWith e none pos.line X.env=pure false:=by rfl):Up X U (.Expr e pos) (.nx U):=λB F H Y E k q=>.mk λon s I=>xa bJ Ww on s Y H E I (h B F H Y _ k λv F' H' x' r=>q F' H' Y (k.ext x') x'.sf)
end
def O0{P:Program}(Vg:P.given.tree=none){w:World}{K:gh}{mg:AD}{base:Heap}{x qual:Str}{st:Stmt}{f:Addr}{fd:FuncData}{N ps:dZ}{k:Nat}{C:bX->D->Prop}(F:WH K x qual st f fd)(S:aL N ps (ay st))(len:∀ds d,C ds d->ds.length=ps.length)(body:∀X,DefX P w K mg base k N (ay st) X->∀ds d,C ds d->TB X (FT N ds) (eo st) (.rt d)\/(d=.TN/\∃TW,TB X (FT N ds) (eo st)<|.nx TW)):pO P w K mg base Aw (k+1) f fd ps (K7 K C):=by
 refine F.ok S (λvs H Q E h=>?_) λUc A outer s H vs Q E hr h=>?_;let⟨F',ds,d,sub,r,hC,q⟩:=h;rw[r.length];exact len ds d hC;let⟨F',ds,d,sub,r,hC,q⟩:=h;refine⟨_,pJ,?_⟩;have hx:DefX P w K mg base k N (ay st) (Ce Aw P w K mg base N qual (ay st) f Uc A outer s H E).VB:=⟨⟨rfl,rfl,rfl,S.nd,rfl,hr.units,hr.Wh,Vg,⟨_,_,rfl,S.gen,S.co,rfl,rfl⟩⟩,rfl,rfl,rfl,rfl,rfl,hr,⟨λ_=>rfl⟩,rfl,rfl⟩;have hk:Ok K ⟨F',H⟩ F' H (start N vs) (FT N ds):=by unfold start;rw[r.length];exact x9 sub r _
 rcases body _ hx ds d hC with hb |⟨rfl,TW,hb⟩;exact hb ⟨F',H⟩ F' H _ _ hk λv F2 H2 x2 r2=>q v F2 H2 x2 r2;exact hb ⟨F',H⟩ F' H _ _ hk λF2 H2 XV k2 s2=>q .TN F2 H2 k2.toExt .TN
def S(cs:G1):Str:=⟨cs.toArray⟩
def al(c:Nat):Bool:=PySem.Unicode.isAlnum c
abbrev Tq:=List<|aG×Addr×Value
abbrev Tr:=List<|aG×Str
structure Kd(K:gh)(x:Str)(st:Stmt)(f:Addr)(fd:FuncData):Prop where
 a:nsIn K mainGlobals x=some (some<|.ref f)
 F:WH K x x st f fd
structure Bn(K:gh)(mg:AD)(x:Str)(f:Addr)(fd:FuncData)(ps:dZ):Prop where
 m:mg x=some (.ref f)
 k:keepIn K (.ref f)=true
 b:Binds K fd ps []
section
variable {st:Stmt}{ps:dZ}
def kd{an:Option Addr}{kV doc pm Uc ct:Value}{x:Str}(a:nsIn K mainGlobals x=some (some<|.ref f))(l:K.lookup f=some ⟨oc,od,.func<|fnOf x x (jg st) (eo st) (ay st) .none kV doc pm an Uc ct,W3⟩)(c:codeIn K Uc x=true)(k:keepIn K (.ref f)=true):Kd K x st f (fnOf x x (jg st) (eo st) (ay st) .none kV doc pm an Uc ct):=⟨a,OZ l c k⟩
def Kd.b1(d:Kd K x st f fd)(X:K.In h)(G:h.Ns mainGlobals mg)(S:aL N [p] (ay st))(hb:∀(kV doc pm:Value)(an:Option Addr)(Uc ct a:Value),bindArgs (fnOf x x (jg st) (eo st) (ay st) .none kV doc pm an Uc ct) ⟨[a],[]⟩=pure ([p].zip [a]):=by intros;rfl):Bn K mg x f fd [p]:=⟨pL X G d.a,d.F.kp,d.F.binds λkV doc pm an Uc ct us hl=>match us,hl with |[a],_=>hb kV doc pm an Uc ct a⟩
def Kd.b2(d:Kd K x st f fd)(X:K.In h)(G:h.Ns mainGlobals mg)(S:aL N [p,q] (ay st))(hb:∀(kV doc pm:Value)(an:Option Addr)(Uc ct a b:Value),bindArgs (fnOf x x (jg st) (eo st) (ay st) .none kV doc pm an Uc ct) ⟨[a,b],[]⟩=pure ([p,q].zip [a,b]):=by intros;rfl):Bn K mg x f fd [p,q]:=⟨pL X G d.a,d.F.kp,d.F.binds λkV doc pm an Uc ct us hl=>match us,hl with |[a,b],_=>hb kV doc pm an Uc ct a b⟩
def Kd.b3(d:Kd K x st f fd)(X:K.In h)(G:h.Ns mainGlobals mg)(S:aL N [p,q,r] (ay st))(hb:∀(kV doc pm:Value)(an:Option Addr)(Uc ct a b c:Value),bindArgs (fnOf x x (jg st) (eo st) (ay st) .none kV doc pm an Uc ct) ⟨[a,b,c],[]⟩=pure ([p,q,r].zip [a,b,c]):=by intros;rfl):Bn K mg x f fd [p,q,r]:=⟨pL X G d.a,d.F.kp,d.F.binds λkV doc pm an Uc ct us hl=>match us,hl with |[a,b,c],_=>hb kV doc pm an Uc ct a b c⟩
def DefX.ca{X:Cx}{C:bX->D->Prop}(h:DefX P w K mg base k N sc X)(F:pO P w K mg base Aw j f fd ps (K7 K C))(b:Bn K mg x f fd ps)(hj:j<=k:=by decide):EV.Callee X x C:=h.callee F hj b.m b.k b.b
def DefX.caN{X:Cx}{C:bX->bX->Prop}(h:DefX P w K mg base k N sc X)(F:pO P w K mg base Aw j f fd ps (Rp K C))(b:Bn K mg x f fd ps)(hj:j<=k:=by decide):EV.UQ X x C:=h.WE F hj b.m b.k b.b
end
def DefX.bt{X:Cx}{x:Str}(h:DefX P w K mg base k N sc X)(m:mg x=none)(g:ND sc x:=by rfl)(v:bootBuiltins x=some u:=by rfl)(n:x≠"__name__":=by decide)(d:FU x:=by rfl):so X sc x u:=⟨g,by rw[h.VR];exact m,v,n,d⟩
def gr{N P:dZ}{sc:Scope}(h:sc.kind=.function/\sc.isCoroutine=false/\sc.isGenerator=false/\N.Nodup/\N.take P.length=P/\(∀x∈P,sc.names.lookup x=some .local\/sc.names.lookup x=some .cell)/\∀y∈sc.names,y.2≠.free):aL N P sc:=⟨h.1,h.2.1,h.2.2.1,h.2.2.2.1,h.2.2.2.2.1,h.2.2.2.2.2.1,h.2.2.2.2.2.2⟩
def Iz(n a b:Nat)(h1:a<n)(h2:b<n):ZipApart (n+4) (n+2) (n+3) n (n+1) a b:=by constructor<;>exactλz=>by have:∀x y:Nat,x=y->x<=y/\y<=x:=λ_ _ e=>⟨nD e,nD e.symm⟩;have:=this _ _ z;lia
def SO(K:gh)(a b:Addr):It:=⟨λi H=>∃xs ys x y,T9 K H a xs/\T9 K H b ys/\xs[i]?=some x/\ys[i]?=some y,λi H v H'=>∃p,H p=none/\v=.ref p/\∀xs ys,T9 K H a xs->T9 K H b ys->∃x y,xs[i]?=some x/\ys[i]?=some y/\H'=hU H p (.tup [x,y]),λi H=>∃xs ys,T9 K H a xs/\T9 K H b ys/\(xs.length<=i\/ys.length<=i),False⟩
def Inv.WM{X:Cx}{on:iB}{Y:St}{H:Hp}{s:Shared}{h':Heap}{t':Nat}{ch:List Addr}(I:Inv X on Y H s)(k:∀b o,b∉ch->s.heap.get? b=some o->h'.get? b=some o)(f:∀b∈ch,tO X on H b):Inv X on Y H {s with heap:=h',toks:=t'}:=by
 refine I.step (g':=s.gens) (d':=s.drawn) (ch:=ch) (λb hb=>⟨(f b hb).2.2.2.1,(f b hb).2.1,(f b hb).2.2.2.2.1,(f b hb).2.2.2.2.2⟩) (λb o _ _ hc q _=>k b o hc q) (λb o _ _ hc q _=>⟨o.slots,k b o hc q⟩) (λ_ _ _ _ n=>n) (λb o hc q=>⟨o,k b o hc q⟩) (λ_ _ q=>q) (λ_ _ _ q=>q) (λb ps q=>⟨#[],by rw[q];simp⟩) (λm hm=>?_) (λb u q=>?_) I.bare;let⟨o,es,ep,ho,r⟩:=hm;exact⟨o,es,ep,k _ o (λz=>(f _ z).2.1 rfl) ho,r⟩;have ne:∀c v,H c=some v->c∉ch:=λc v q z=>by rw[(f c z).1]at q;cases q
 refine(I.TV b u q).Vc (λc v hc r=>?_) (λ_ r=>r) λ_ _ r=>r;rcases hc with z |z;subst z;exact k c v (ne c _ q) r;exact k c v (ne c _ z) r
def II{P:Program}{w:World}{K:gh}{es:xu}{x1:Nat}{pos:Pos}(a b n:Nat)(ha:a<n)(hb:b<n):Av P w K (.Tuple es x1 pos) (SO K a b) [n+4,n+2,n+3,n,n+1] (n+4) (λi h=>IsZip h (n+4) (n+2) (n+3) .none/\IsPair h (n+2) (.ref n) (.ref<|n+1)/\(∃u v,IsPair h (n+3) u v)/\h.IsListIter n a i/\h.IsListIter (n+1) b i) where
 mem:=by simp
 obj:=λi h st c hc=>by let⟨h1,h2,⟨u,v,h3⟩,⟨o4,h4,c4,d4⟩,⟨o5,h5,c5,d5⟩⟩:=st;simp only[aO,wM,nA]at hc;rcases hc with rfl |rfl |rfl |rfl |rfl;exact⟨_,h1,λv z=>by cases z⟩;exact⟨_,h2,λv z=>by cases z⟩;exact⟨_,h3,λv z=>by cases z⟩;exact⟨_,h4,λv z=>by rw[d4]at z;cases z⟩;exact⟨_,h5,λv z=>by rw[d5]at z;cases z⟩
 keep:=λi h h' st k=>by let⟨h1,h2,⟨u,v,h3⟩,h4,h5⟩:=st;exact⟨k _ (by simp) _ h1,k _ (by simp) _ h2,⟨u,v,k _ (by simp) _ h3⟩,h4.at λo q=>k _ (by simp) o q,h5.at λo q=>k _ (by simp) o q⟩
 item:=by
  intro X hP hw hK hc i on s Y H E I hf st hg;subst hP hw hK;let⟨h1,h2,⟨u,v,h3⟩,h4,h5⟩:=st;let⟨xs,ys,x,y,qa,qb,hx,hy⟩:=hg;let⟨as,ra,pa,_⟩:=I.list qa;let⟨bs,rb,pb,_⟩:=I.list qb;let⟨x',U1,rx⟩:=ra.get hx;let⟨y',XR,ry⟩:=rb.get hy;have D:=Iz n a b ha hb;refine wpAny_pyNext_zip_item D h1 h2 h3 h4 h5 pa.isList pb.isList (by simpa using U1) (by simpa using XR) λh' a1 a2 a3 a4 a5 a6 hk=>?_;refine⟨_,rfl,wpAny_letOwnedTupleGo_zip a1 λXv hz' sb=>?_⟩;have lt:∀{c o},s.heap.get? c=some o->s.heap.objs.size≠c:=λe=>ky<|aQ e;have kk:∀c o,c∉[n+4,n+2,n+3,n,n+1]->s.heap.get? c=some o->Xv.get? c=some o:=λc o hc e=>sb.extBut _ _ (λz=>hc<|by simp[z])<|hk c o (λz=>hc<|by simp[z]) (λz=>hc<|by simp[z]) (λz=>hc<|by simp[z]) (λz=>hc<|by simp[z]) e;have I1:Inv X on Y H {s with heap:=Xv}:=Inv.WM (t':=s.toks) I kk hf;have XZ:H s.heap.objs.size=none:=I.TV.fresh<|aq _;have hT2:IsPair Xv s.heap.objs.size x' y':=sb.extBut _ _ (lt h1) a5;have I2:Inv X on Y (hU H s.heap.objs.size<|.tup [x,y]) {s with heap:=Xv}:=by refine Inv.WN I1 XZ I.sz (ky I.lt) (λz c h=>?_) (λq Zf z=>?_) ⟨bP rfl,[x',y'],.cons rx<|.cons ry .nil,⟨_,hT2,rfl,0,rfl⟩⟩;let⟨v,hv⟩:=I.cell z c h;exact bU hv.lt;have:=aQ (I.pin q Zf).1;rw[z]at this;exact absurd this<|eY _
  refine⟨.ref s.heap.objs.size,_,I2,rfl,⟨s.heap.objs.size,XZ,rfl,λus ws q1 q2=>⟨x,y,by rw[I.UT q1 qa];exact hx,by rw[I.UT q2 qb];exact hy,rfl⟩⟩,⟨hz',sb.extBut _ _ D.TIz<|hk _ _ D.TIz D.TITO D.TIi1 D.TIi2 h2,⟨_,_,sb.extBut _ _ D.TOz a2⟩,a3.extBut sb.extBut D.i1z,a4.extBut sb.extBut D.i2z⟩,λc hc=>?_⟩;have bT:c≠s.heap.objs.size:=λz=>by let⟨o4,e4,_⟩:=h4;let⟨o5,e5,_⟩:=h5;simp only[aO,wM,nA]at hc;rcases hc with rfl |rfl |rfl |rfl |rfl;exact lt h1 z.symm;exact lt h2 z.symm;exact lt h3 z.symm;exact lt e4 z.symm;exact lt e5 z.symm
  rw[bK bT];exact(hf c hc).1
 done:=by intro X hP hw hK hc i on s Y H E I hf st hg;subst hP hw hK;replace hc:=hc.resolve_right λz=>z.1;let⟨h1,h2,⟨u,v,h3⟩,h4,h5⟩:=st;let⟨xs,ys,qa,qb,hx⟩:=hg;let⟨as,ra,pa,_⟩:=I.list qa;let⟨bs,rb,pb,_⟩:=I.list qb;have la:=ra.length;have lb:=rb.length;refine wpAny_pyNext_zip_end (I.ok.hd hc) (Iz n a b ha hb) h1 h2 h3 h4 h5 pa.isList pb.isList ?_ λh' hk=>⟨rfl,Inv.WM (t':=s.toks) I (λc o hc e=>hk c o (λz=>hc<|by simp[z]) (λz=>hc<|by simp[z]) (λz=>hc<|by simp[z]) (λz=>hc<|by simp[z]) e) hf⟩;rcases hx with z |z;exact .inl (by simp;lia);exact .inr<|by simp;lia
 self:=λ_ _ s Q E st h=>wpAny_pyIter_zip st.1 h
section
variable {X:Cx}
def Od(hg:Gl X "zip")(hm:X.mg "zip"=none)(hl:PA X [a,b] ta)(hs:Pl a)(hb:Pl b):PI X (.Tuple el x1 tp) (.Call (.Name "zip" p) [a,b] [] pos) (λY H R=>ta Y H λvs H1=>∃l m,vs=[.ref l,.ref m]/\(∃xs,T9 X.K H1 l xs)/\(∃xs,T9 X.K H1 m xs)/\R (SO X.K l m) H1):=by
 refineλon s Y H R I h=>Call_<|oF I hg hm (show bootBuiltins "zip"=some (.type "zip")by decide)<|dJ (fH (hl pos on s Y H _ I h) λus s1 ⟨vs,H1,I1,r1,q1⟩=>?_) (hs _ _) (by rw[hb];rfl);obtain⟨l,m,rfl,⟨xs,qa⟩,⟨ys,qb⟩,q⟩:=q1;obtain⟨u,u',rfl,ru,ru'⟩:=AF r1;cases(show u=Value.ref l from ru);cases(show u'=Value.ref m from ru');let⟨as,ra,pa,_⟩:=I1.list qa;let⟨bs,rb,pb,_⟩:=I1.list qb;refine call_zip_2 pa.isList pb.isList λh' a1 a2 a3 a4 a5 a6 kp=>?_;refine wpAny_pyIter_zip a1 ?_;have lt:∀{c:Addr}{v:Array Value},s1.heap.IsList c v->c<s1.heap.objs.size:=λ⟨_,e,_⟩=>aQ e;refine⟨_,_,_,_,H1,rfl,I1.kept (t':=s1.toks) kp,II l m s1.heap.objs.size (lt pa.isList)<|lt pb.isList,⟨a1,a2,⟨_,_,a3⟩,a4,a5⟩,λc hc=>?_,q⟩;have:s1.heap.objs.size<=c:=by simp only[aO,wM,nA]at hc;rcases hc with rfl |rfl |rfl |rfl |rfl;exact kA _ _;exact kA _ _;exact kA _ _;exact aq _;exact kA _ _
 exact I1.Vu this<|I1.TV.fresh this
def v6:bX->bX->bX|d::ds,e::es=>.tup [d,e]::v6 ds es|_,_=>[]
def CT:∀{dd ee:bX}{i:Nat}{d:D},(v6 dd ee)[i]?=some d->∃x y,dd[i]?=some x/\ee[i]?=some y/\d=.tup [x,y]
 |[],_,_,_,h=>by simp[v6]at h|_::_,[],_,_,h=>by simp[v6]at h
 |x::ds,y::es,0,_,h=>by simp[v6]at h;exact⟨x,y,rfl,rfl,h.symm⟩|x::ds,y::es,i+1,_,h=>by simp[v6]at h;simpa using CT h
def CS:∀ds es:bX,(v6 ds es).length=min ds.length es.length
 |[],_=>by simp[v6]|_::_,[]=>by simp[v6]
 |_::ds,_::es=>by simp[v6,CS ds es]<;>lia
def Pc{U:fx}{a:Expr}{b:Expr}{pos:Pos}{N:dZ}{sc:Scope}{ds:bX}{es:bX}(t:At X N sc){el:xu}{x1:Nat}{tp p:Pos}(bl:so X sc "zip" (.type "zip"))(h:Tz X U a (.lst ds))(g:Tz X U b (.lst es))(hs:Pl a:=by intro _ _;rfl)(hb:Pl b:=by intro _ _;rfl):UG X U (.Tuple el x1 tp) (.Call (.Name "zip" p) [a,b] [] pos) (v6 ds es):=.of (Od (ik t bl.g) bl.m (bY bJ (bY bJ fz<|hb _ _)<|hs _ _) hs hb) λB F H Y R k q=>two h g k λu v F' H' x ru rv=>by
  cases ru with
  |lst h1 r1=>cases rv with
   |lst h2 r2=>
   refine⟨_,_,rfl,⟨_,T9.of<|x.sub _ _ h1⟩,⟨_,T9.of<|x.sub _ _ h2⟩,q _ F' H' x λi F2 H2 s1 s2=>?_⟩
   have q1:T9 X.K H2 _ _:=T9.of<|s2 _ _<|s1 _ _ h1
   have q2:T9 X.K H2 _ _:=T9.of<|s2 _ _<|s1 _ _ h2
   refine⟨λd hd=>?_,λhl=>⟨_,_,q1,q2,by rw[r1.length,r2.length];rw[CS]at hl;lia⟩⟩
   obtain⟨x,y,hx,hy,rfl⟩:=CT hd
   let⟨vx,hvx,rx⟩:=r1.get hx
   let⟨vy,hvy,ry⟩:=r2.get hy
   refine⟨⟨_,_,vx,vy,q1,q2,hvx,hvy⟩,λx H' z=>?_⟩
   obtain⟨p,hp,rfl,z⟩:=z
   obtain⟨vx',vy',e1,e2,rfl⟩:=z _ _ q1 q2
   rw[hvx]at e1;cases e1
   rw[hvy]at e2;cases e2
   have m:=bh (o:=.tup [vx,vy])<|s2.free hp
   exact⟨_,(Ext.refl s2).grow hp,.tup cf<|.cons ((rx.mono s1).mono m)<|.cons ((ry.mono s1).mono m) .nil⟩
end
section
variable {st:Stmt}{ps:dZ}
def Kd.b4(d:Kd K x st f fd)(X:K.In h)(G:h.Ns mainGlobals mg)(S:aL N [p,q,r,o] (ay st))(hb:∀(kV doc pm:Value)(an:Option Addr)(Uc ct a b c e:Value),bindArgs (fnOf x x (jg st) (eo st) (ay st) .none kV doc pm an Uc ct) ⟨[a,b,c,e],[]⟩=pure ([p,q,r,o].zip [a,b,c,e]):=by intros;rfl):Bn K mg x f fd [p,q,r,o]:=⟨pL X G d.a,d.F.kp,d.F.binds λkV doc pm an Uc ct us hl=>match us,hl with |[a,b,c,e],_=>hb kV doc pm an Uc ct a b c e⟩
end
section
variable {X:Cx}
def Jg{xs:bX}{apos TX:Pos}{U:fx}{pos:Pos}[VI X](t:At X N sc)(i:Nat)(hr:U[i]?=some (.own<|xs++[d]))(hg:Vn X (U.set i<|.own xs) tg d TW)(hN:N[i]?=some y:=by rfl)(hv:oO sc y=true:=by rfl)(hx:ji y=true:=by rfl)(Ug:(apos.endLine==TX.line)=true:=by rfl)(hs:swapsWithSole [tg] (.Call (.Attribute (.Name y p) "pop" apos) [] [] TX) pos.line X.env=pure false:=by rfl)(hw:swappedStores [tg] (.Call (.Attribute (.Name y p) "pop" apos) [] [] TX) (dE sc)=pure none:=by rfl)(h1:(assignEach [tg] X.env).map (·.2)=[assign tg X.env]:=by rfl):Up X U (.Assign [tg] (.Call (.Attribute (.Name y p) "pop" apos) [] [] TX) pos) (.nx TW):=.of (EW (BE fI nX nW BL bJ rfl Ug) JC hs ((nZ (show X.env.scope=(dE sc).scope from t.eS)).trans hw) h1) λB F H Y E k q=>oC t hr hN hv hx k λl vs g1 g2 g3=>⟨.inl ⟨rfl,_,T9.of g2⟩,by
   let⟨w,Za,UL⟩:=g3.get (i:=xs.length) (d:=d) (by simp);have X2:vs.length-1=xs.length:=by rw[g3.length];simp
   refine⟨l,vs,w,rfl,rfl,g2,by rw[X2];exact Za,?_⟩;exact hg B F _ Y w _ (k.Uu (vs:=vs) (ds:=xs) hr g1 (by have:=g3.dropLast;rwa[CI]at this)) UL λF2 H2 XV k3 s2=>q F2 H2 XV k3 s2⟩
end
section
variable {X:Cx}
def P2(i j l:Nat)(ta:TA):TS:=λD Y H=>ta Y H λvs H1=>∃v w u,vs=[v,w,u]/\D.nx (((Y.set i<|some v).set j<|some w).set l<|some u) H1
def Lu{i j l:Nat}{pos:Pos}{kt k2 U6}(hc:X.calm=true)(hN:X.N.Nodup)(hi:X.N[i]?=some x)(hj:X.N[j]?=some y)(hl:X.N[l]?=some z)(Vi:i≠j)(Zs:i≠l)(X5:j≠l)(hx:X.env.scope.names.lookup x=some .local)(hy:X.env.scope.names.lookup y=some .local)(hz:X.env.scope.names.lookup z=some .local)(ha:PA X [a,b,c] ta)(hw:swappedStores [.Tuple [.Name x px,.Name y py,.Name z pz] kt pt] (.Tuple [a,b,c] k2 U6) X.env=pure (some [x,y,z]))(hs:swapsWithSole [.Tuple [.Name x px,.Name y py,.Name z pz] kt pt] (.Tuple [a,b,c] k2 U6) pos.line X.env=pure false:=by rfl):PS X (.Assign [.Tuple [.Name x px,.Name y py,.Name z pz] kt pt] (.Tuple [a,b,c] k2 U6) pos) (P2 i j l ta):=by
 intro on s Y H D I h;rw[exec_Assign_arm];refine aj<|Ax ?_;rw[hs];refine aj<|aR ?_;rw[ap<|by decide];refine aj<|Tuple_ (fH (ha _ on s Y H _ I h) λus s1 ⟨vs,H1,I1,r1,q1⟩=>?_);obtain⟨v,w,u,e1,q1⟩:=q1;subst e1;obtain⟨u1,u2,u3,rfl,rv,UL,ru⟩:∃u1 u2 u3,us=[u1,u2,u3]/\RelV v u1/\RelV w u2/\RelV u u3:=by cases r1 with|cons p q=>cases q with|cons p' q'=>cases q' with|cons p2 q2=>cases q2;exact⟨_,_,_,rfl,p,p',p2⟩
 refine cn ?_ (by show 3<=sizeLine;decide);have I2:Inv X on Y H1 {s1 with heap:=s1.heap.push {cls:=.type "tuple",data:=.seq [u1,u2,u3].toArray}}:=I1.kept (t':=s1.toks) λb o e=>aD _ e;rw[hw];refine aj<|aR ?_;show ge X (do rule "assign.swapped-stores";let items <-unpackItems (.ref s1.heap.objs.size) 3 none;assignInOrder [λv=>bindName X.env z v,λv=>bindName X.env y v,λv=>bindName X.env x v] items.reverse;pure Flow.next) _ _ _;refine aj<|MO<|aj (unpackItems_tuple (items:=#[u1,u2,u3]) (I.ok.hd hc) (IsTup.new s1.heap _) λh' U1=>?_);have I3:=I2.kept (h':=h') (t':=s1.toks) λb o e=>U1 b o (bU<|aQ e) e;show wpAny _ _ (assignInOrder [λv=>bindName X.env z v,λv=>bindName X.env y v,λv=>bindName X.env x v] [u3,u2,u1]>>=λ_=>pure Flow.next) _ _ _;refine aj<|kW<|wK<|kg I3 hN hl (.inl hz) ru (λs2 I4=>?_)<|.inr hz;refine kW<|wK<|kg I4 hN hj (.inl hy) UL (λs3 I5=>?_)<|.inr hy;refine kW<|wK<|kg I5 hN hi (.inl hx) rv (λs4 I6=>Tt<|aR ?_)<|.inr hx;rw[Ev _ _<|ip Vi,Ev _ _<|ip Zs,Ev _ _<|ip X5]at I6;exact⟨_,H1,I6,q1⟩
end
section
variable {X:Cx}
def NQ{pos:Pos}(t:At X N sc)(i j l:Nat)(h1:Tz X U a u)(h2:Tz X U b v)(h3:Tz X U c r)(Vi:i≠j)(Zs:i≠l)(X5:j≠l)(hi:N[i]?=some x:=by rfl)(hj:N[j]?=some y:=by rfl)(hl:N[l]?=some z:=by rfl)(hx:sc.names.lookup x=some .local:=by rfl)(hy:sc.names.lookup y=some .local:=by rfl)(hz:sc.names.lookup z=some .local:=by rfl)(hw:swappedStores [.Tuple [.Name x px,.Name y py,.Name z pz] kt pt] (.Tuple [a,b,c] k2 U6) (dE sc)=pure (some [x,y,z]):=by rfl)(hs:swapsWithSole [.Tuple [.Name x px,.Name y py,.Name z pz] kt pt] (.Tuple [a,b,c] k2 U6) pos.line X.env=pure false:=by rfl)(W8:starEach [a,b,c] X.env=(false,eval a X.env)::starEach [b,c] X.env:=by rfl)(Vh:En b [c] X.env:=by rfl)(hs3:En c [] X.env:=by rfl):Up X U (.Assign [.Tuple [.Name x px,.Name y py,.Name z pz] kt pt] (.Tuple [a,b,c] k2 U6) pos) (.nx<|((U.set i<|.val u).set j<|.val v).set l<|.val r):=.of (Lu (i:=i) (j:=j) (l:=l) t.calm t.nd (t.ix hi) (t.ix hj) (t.ix hl) Vi Zs X5 (by rw[t.eS];exact hx) (by rw[t.eS];exact hy) (by rw[t.eS];exact hz) (bY bJ (bY bJ (bY bJ fz hs3) Vh) W8) ((nZ (show X.env.scope=(dE sc).scope from t.eS)).trans hw) hs) λB F H Y E k q=>h1 B F H Y _ k λv1 F1 H1 x1 r1=>h2 B F1 H1 Y _ (k.ext x1) λv2 F2 H2 x2 r2=>h3 B F2 H2 Y _ (k.ext<|x1.t x2) λv3 F3 H3 x3 r3=>⟨v1,v2,v3,rfl,q F3 H3 _ ((((k.ext<|(x1.t x2).t x3).TM i<|r1.mono<|x2.sf.trans x3.sf).TM j<|r2.mono x3.sf).TM l r3) ((x1.t x2).t x3).sf⟩
end
section
variable {X:Cx}
def Lj:V->gW->Hp->VK->Prop:=λx vs H Q=>∃l xs i y,x=.ref l/\vs=[.int i,y]/\0<=i/\i<2 ^ 31/\H l=some (.lst xs)/\xs.length<sizeLine/\Q .TN (hU H l<|.lst<|xs.take i.toNat++y::xs.drop i.toNat)
def Ho:Rs X "list.insert" Lj:=by
 intro on s Y H x vs v us Q I rx rv h;obtain⟨l,xs,i,y,rfl,rfl,h0,h1,hH,hz,q⟩:=h;cases rx;obtain⟨u1,u,rfl,r1,ru⟩:=rv.two;obtain⟨t,rfl⟩:=r1;obtain⟨z,its,n,r,hl,e⟩:=I.Ve hH;refine sr F.slot_list_insert ⟨_,e,rfl⟩ F.entry_list_insert (F.args_list_insert_3 _ _ _) (PySem.AutoListH.list_insert_list_int_val_1 l its.toArray n i t u ?_<|by rw[aC];lia) ⟨e,?_⟩
 ·have:Builtin.List.listFitsIndex i=true:=by unfold Builtin.List.listFitsIndex;simp;lia
  rw[this];decide
 refine⟨.TN,_,I.Wu (its':=its.take i.toNat++u::its.drop i.toNat) hH e ?_ ((r.take _).append<|.cons ru<|r.drop _) ?_,rfl,q⟩
 ·rw[ap<|by lia];apply Array.toList_inj.mp;have e1:=r.length;simp;by_cases hb:i.toNat<=its.length;·rw[Nat.min_eq_left hb,zl (l:=its.drop i.toNat)<|by rw[du];exact aq _]
  ·rw[Nat.min_eq_right<|by lia,zl (show its.length<=its.length from aq _),zl (show its.length<=i.toNat by lia),zm (show its.length<=its.length from aq _),zm (show its.length<=i.toNat by lia),List.take_nil]
 ·rw[aJ,dG,eT,du];have:=r.length;lia
def Jd{apos TX:Pos}{U:fx}{pos:Pos}(t:At X N sc)(i:Nat)(hr:U[i]?=some (.own xs))(ha:Tz X U a (.int n))(h0:0<=n)(h1:n<2 ^ 31)(h:Tz X U e d)(hz:xs.length<sizeLine)(hN:N[i]?=some y:=by rfl)(hv:oO sc y=true:=by rfl)(hx:ji y=true:=by rfl)(hs:En a [e] X.env:=by rfl)(Vh:En e [] X.env:=by rfl)(Ug:(apos.endLine==TX.line)=true:=by rfl)(Wl:(backTo TX<|starEach [e] X.env).any (·.1)=false:=by rfl)(V7:PU TX [a,e] X.env:=by rfl)(Ww:swapsWith (.Call (.Attribute (.Name y p) "insert" apos) [a,e] [] TX) none pos.line X.env=pure false:=by rfl):Up X U (.Expr (.Call (.Attribute (.Name y p) "insert" apos) [a,e] [] TX) pos) (.nx<|U.set i<|.own<|xs.take n.toNat++d::xs.drop n.toNat):=.of (xa (Ng fI PySem.F.slot_list_insert PySem.F.type_list_insert Ho bJ (bY bJ (bY bJ fz Vh) hs) rfl V7 Ug hs Wl) Ww) λB F H Y E k q=>oC t hr hN hv hx k λl vs g1 g2 g3=>⟨.inl ⟨rfl,_,T9.of g2⟩,ha B F H Y _ k λv1 F1 H1 x1 r1=>h B F1 H1 Y _ (k.ext x1) λv F' H' x2 r=>by have x':=x1.t x2;have k':=k.ext x';have g2':=x'.sh _ _ g2;refine⟨l,vs,n,v,rfl,by cases r1;rfl,h0,h1,g2',by rw[g3.length];exact hz,?_⟩;exact q F' _ _ (k'.Uu (vs:=vs) hr g1<|((g3.mono x'.sf).take n.toNat).append<|.cons r<|(g3.mono x'.sf).drop n.toNat) x'.sf⟩
end
def E5(t:Tok)(l:Addr)(U5:Option Addr)(v w:Value)(n:Nat)(sl:Array (Option Value)):Meets (Builtin.«tuple.__mul__» ⟨[.ref l,.int 2 t],[]⟩) (λ_ R s=>s.heap.get? l=some {cls:=.type "tuple",dict:=U5,data:=.seq #[v,w] n,slots:=sl}/\R (.ok<|.ret<|.ref s.heap.objs.size) {s with heap:=s.heap.push {cls:=.type "tuple",data:=.seq #[v,w,v,w]}}):=.of_wp λprog w A R s h=>by obtain⟨hp,g,d,tk,os⟩:=s;obtain⟨hl,h⟩:=h;wp_walk;exact⟨_,rfl,h⟩
section
variable {X:Cx}
def JE:nV X (binaryOp .Mult) (λx y H Q=>∃l v w,x=.ref l/\y=.int 2/\Ud X.K H l [v,w]/\∀p,H p=none->Q (.ref p) (hU H p<|.tup [v,w,v,w])):=by intro on s Y H x y v u Q I rx ry h;obtain⟨l,v0,v1,rfl,rfl,hl,h⟩:=h;cases(show v=Value.ref l from rx);obtain⟨t,rfl⟩:=(show∃t,u=Value.int 2 t from ry);obtain⟨its,rv,⟨o,e,c,n,dt⟩,_⟩:=I.tuple hl;obtain⟨w0,w1,rfl,r0,r1⟩:=rv.two;obtain⟨cl,di,da,sl⟩:=o;cases(show cl=_ from c);cases(show da=_ from dt);have T:s.TypeIs (.ref l) "tuple":=⟨_,e,rfl⟩;refine Ts (T:="tuple") (U:="int") (by decide) T (λs'=>MQ s' 2 t) uZ PySem.F.fills_int_mul SQ By PySem.F.slot_int_index.lookup<|sr SQ (MQ s 2 t) PySem.F.entry_int_rmul (PySem.F.args_int_rmul_2 _ _) (EN 2 t l di #[w0,w1] n sl) ⟨e,rfl,T,?_⟩;refine sr PySem.F.slot_tuple_mul T PySem.F.entry_tuple_mul (PySem.F.args_tuple_mul_2 _ _) (E5 t l di w0 w1 n sl) ⟨e,.ref s.heap.objs.size,hU H s.heap.objs.size<|.tup [v0,v1,v0,v1],?_,rfl,h _<|I.TV.fresh<|aq _⟩;exact I.laid (t':=s.toks) (λb o e=>aD _ e) (aq _) ⟨bP rfl,[w0,w1,w0,w1],.cons r0<|.cons r1<|.cons r0<|.cons r1 .nil,⟨_,aT _ rfl,rfl,_,rfl⟩⟩
def Kc(ha:Tz X U a (.tup [d,e]))(hb:Tz X U b (.int 2)):Tz X U (.BinOp a .Mult b pos) (.tup [d,e,d,e]):=.of (x8 JE bJ bJ) λB F H Y Q kk q=>two ha hb kk λx y F' H' x' rx ry=>by cases ry;cases rx with|@tup l vs _ hf rl=>obtain⟨v,w,rfl,rv,UL⟩:=rl.two;exact⟨l,v,w,rfl,rfl,Ud.of<|x'.sub _ _ hf,λp hp=>q _ _ _ (x'.grow hp)<|.tup cf<|.cons (rv.mono<|bh<|x'.sub.free hp)<|.cons (UL.mono<|bh<|x'.sub.free hp)<|.cons (rv.mono<|bh<|x'.sub.free hp)<|.cons (UL.mono<|bh<|x'.sub.free hp) .nil⟩
def DY{pw:Pos}(t:At X N sc)(i j l m:Nat)(hi:N[i]?=some x:=by rfl)(hj:N[j]?=some y:=by rfl)(hl:N[l]?=some z:=by rfl)(hm:N[m]?=some w:=by rfl)(hx:sc.names.lookup x=some .local:=by rfl)(hy:sc.names.lookup y=some .local:=by rfl)(hz:sc.names.lookup z=some .local:=by rfl)(hw:sc.names.lookup w=some .local:=by rfl):Uw X U (.Tuple [.Name x px,.Name y py,.Name z pz,.Name w pw] kt pos) (.tup [u,v,r,q]) ((((U.set i<|.val u).set j<|.val v).set l<|.val r).set m<|.val q):=
 have g:∀{i:Nat}{x:Str}{p:Pos},N[i]?=some x->sc.names.lookup x=some .local->PG X (.Name x p) _:=λ{i x p}hi hx=>oB (i:=i) t.nd (t.ix hi) (by rw[t.eS];exact .inl hx)<|by rw[t.eS];exact .inr hx
 .of (BC t.calm<|ja (g hi hx)<|ja (g hj hy)<|ja (g hl hz)<|ja (g hm hw) xc) λB F H Y w Q k r q=>by
  cases r with
  |tup h rl=>
   cases rl with
   |cons r1 rl=>
    cases rl with|cons r2 rl=>
    obtain⟨v3,v4,rfl,r3,r4⟩:=rl.two;exact⟨_,_,rfl,Ud.of<|k.sub _ _ h,rfl,_,_,rfl,_,_,rfl,_,_,rfl,_,_,rfl,rfl,q _ ((((k.TM i r1).TM j r2).TM l r3).TM m r4) λp h=>(((h.TM i _ _).TM j _ _).TM l _ _).TM m _ _⟩
end
mutual
inductive TD:D->Prop where
 |TN:TD .TN
 |bl {b:Bool}:TD (.bl b)
 |int {i:Int}:TD (.int i)
 |str {x:Str}:TD (.str x)
 |tup {xs:bX}:TL xs->TD (.tup xs)
inductive TL:bX->Prop where
 |nil:TL []
 |cons {d:D} {ds:bX}:TD d->TL ds->TL (d::ds)
end
def TL.all:∀{xs:bX},(∀d∈xs,TD d)->TL xs|[],_=>.nil|d::ds,h=>.cons (h d<|by simp) (TL.all λx hx=>h x<|aM _ hx)
mutual
def Rep.del{F:Hp}{p:Addr}(h:F p=some (.lst us)):∀{v:V}{d:D},Rep K F v d->TD d->Rep K (del F p) v d
 |_,_,.TN,_=>.TN|_,_,.bl b,_=>.bl b
 |_,_,.int i,_=>.int i|_,_,.str x,_=>.str x
 |_,_,.tup e r,t=>.tup (by rw[Cd λz=>by rw[z,h]at e;cases e];exact e) (TF.del h r<|by cases t with |tup t=>exact t)|_,_,.lst e r,t=>nomatch t
 |_,_,.UC e,t=>nomatch t|_,_,.exc e,t=>nomatch t
 |_,_,.VN e,t=>nomatch t|_,_,.UK e r,t=>nomatch t
 |_,_,.adr a,t=>nomatch t|_,_,.Wj e,t=>nomatch t
def TF.del{F:Hp}{p:Addr}(h:F p=some (.lst us)):∀{vs:gW}{ds:bX},TF K F vs ds->TL ds->TF K (del F p) vs ds|_,_,.nil,_=>.nil|_,_,.cons r t,z=>.cons (Rep.del h r<|by cases z with |cons a _=>exact a)<|TF.del h t<|by cases z with |cons _ b=>exact b
end
section
variable {X:Cx}
def Ok.WS{i:Nat}(k:Ok K B F H Y U)(hi:U[i]?=some (.own xs)):∃a us,F a=none/\Ok K B (hU F a<|.lst us) H Y (U.set i<|.val<|.lst xs):=by
 obtain⟨a,us,h1,h2,h3,h4,h5⟩:=k.Us i xs hi;refine⟨a,us,h3,?_⟩;have k2:=(k.drop i).freeze h2 h3 h4 λj ys e q=>by
  by_cases h:i=j;·subst h;rw[bI (aV.mp hi).1]at e;cases e
  ·rw[aS h]at e;exact h<|k.dist i j xs ys a hi e h1 q
 have k3:=k2.TM i<|.lst cf<|h5.mono<|bh h3;rw[List.set_set,show Y.set i (some<|.ref a)=Y from List.ext_getElem? λj=>by
  by_cases h:i=j;·subst h;rw[bI (aV.mp h1).1,h1]
  ·rw[aS h]]at k3
 exact k3
def Kn{U:fx}(i:Nat)(hi:U[i]?=some (.own xs))(h:TC X (U.set i<|.val<|.lst xs) e b):TC X U e b:=λB F H Y Q k q=>by obtain⟨a,us,hf,k'⟩:=k.WS hi;exact h B _ H Y Q k' λF' H' x=>q _ H'<|Ext.XQ (.refl k.sub) hf x
def yQ{U:fx}(hd:TD d)(i:Nat)(hi:U[i]?=some (.own xs))(h:Tz X (U.set i<|.val<|.lst xs) e d):Tz X U e d:=λB F H Y Q k q=>by obtain⟨a,us,hf,k'⟩:=k.WS hi;exact h B _ H Y Q k' λv F' H' x r=>q v _ H' (Ext.XQ (.refl k.sub) hf x)<|r.del (us:=us) (x.sf _ _ cf) hd
end
end L2.EV
set_option maxHeartbeats 4000000
namespace My
open PySem PySem.W L2 L2.EV
variable {K:gh}
def top(i:Nat):Stmt:=PySem.Challenge.pw_planestacks_k58_regions_asked.main.body.getD i<|.Pass ⟨0,0,0,0⟩
abbrev mL:Stmt:=top 1
abbrev qG:dZ:=["thing"]
def n8:aL qG ["thing"] (ay mL):=gr<|by decide
abbrev oo:Stmt:=top 9
abbrev tH:dZ:=["thing"]
def vP:aL tH ["thing"] (ay oo):=gr<|by decide
abbrev q9:Stmt:=top 10
abbrev vp:dZ:=["number"]
def xK:aL vp ["number"] (ay q9):=gr<|by decide
abbrev ia:Stmt:=top 11
abbrev jI:dZ:=["a","b"]
def mI:aL jI ["a","b"] (ay ia):=gr<|by decide
abbrev jY:Stmt:=top 13
abbrev ni:dZ:=["thing","top","bottom"]
def p9:aL ni ["thing"] (ay jY):=gr<|by decide
abbrev ou:Stmt:=top 14
abbrev tK:dZ:=["top","bottom","shared"]
def vS:aL tK ["top","bottom"] (ay ou):=gr<|by decide
abbrev Bt:Stmt:=top 15
abbrev FL:dZ:=["a","b"]
def Ga:aL FL ["a","b"] (ay Bt):=gr<|by decide
abbrev wZ:Stmt:=top 16
abbrev CA:dZ:=["a","b"]
def C9:aL CA ["a","b"] (ay wZ):=gr<|by decide
abbrev wX:Stmt:=top 17
abbrev Cy:dZ:=["a","b"]
def C7:aL Cy ["a","b"] (ay wX):=gr<|by decide
abbrev w5:Stmt:=top 18
abbrev CB:dZ:=["a","b"]
def Da:aL CB ["a","b"] (ay w5):=gr<|by decide
abbrev uk:Stmt:=top 20
abbrev zc:dZ:=["thing"]
def AR:aL zc ["thing"] (ay uk):=gr<|by decide
abbrev jU:Stmt:=top 21
abbrev m8:dZ:=["parts","nought","many"]
def p0:aL m8 ["parts","nought"] (ay jU):=gr<|by decide
abbrev ui:Stmt:=top 22
abbrev y9:dZ:=["numbers"]
def AO:aL y9 ["numbers"] (ay ui):=gr<|by decide
abbrev kY:Stmt:=top 23
abbrev oQ:dZ:=["f"]
def sE:aL oQ ["f"] (ay kY):=gr<|by decide
abbrev wY:Stmt:=top 24
abbrev Cz:dZ:=["f"]
def C8:aL Cz ["f"] (ay wY):=gr<|by decide
abbrev re:Stmt:=top 25
abbrev vt:dZ:=["f","shared","number"]
def xM:aL vt ["f"] (ay re):=gr<|by decide
abbrev mP:Stmt:=top 26
abbrev qK:dZ:=["f","low"]
def ud:aL qK ["f"] (ay mP):=gr<|by decide
abbrev hW:Stmt:=top 27
abbrev jE:dZ:=["f","g","rest","numbers","number","left","start","k"]
def mE:aL jE ["f","g"] (ay hW):=gr<|by decide
abbrev gX:Stmt:=top 28
abbrev mj:dZ:=["numbers","at","top","bottom","value","scale","number"]
def pF:aL mj ["numbers","at"] (ay gX):=gr<|by decide
abbrev iD:Stmt:=top 29
abbrev kH:dZ:=["f","at"]
def nJ:aL kH ["f","at"] (ay iD):=gr<|by decide
abbrev k9:Stmt:=top 32
abbrev oV:dZ:=["number","prime","a","b","first","second","many"]
def sI:aL oV ["number","prime"] (ay k9):=gr<|by decide
abbrev k7:Stmt:=top 33
abbrev oS:dZ:=["numbers","prime","scale"]
def sG:aL oS ["numbers","prime"] (ay k7):=gr<|by decide
abbrev jX:Stmt:=top 34
abbrev nh:dZ:=["f","g","prime","rest","many","top","start","k"]
def p8:aL nh ["f","g","prime"] (ay jX):=gr<|by decide
abbrev iE:Stmt:=top 35
abbrev kI:dZ:=["f","g","prime"]
def nK:aL kI ["f","g","prime"] (ay iE):=gr<|by decide
abbrev uj:Stmt:=top 36
abbrev za:dZ:=["numbers","last","prime","rests"]
def AQ:aL za ["numbers","last","prime"] (ay uj):=gr<|by decide
abbrev mN:Stmt:=top 37
abbrev qI:dZ:=["f","g","prime","shared","row","divides"]
def ub:aL qI ["f","g","prime"] (ay mN):=gr<|by decide
abbrev gt:Stmt:=top 38
abbrev iN:dZ:=["f","g","bits","shared"]
def kT:aL iN ["f","g"] (ay gt):=gr<|by decide
abbrev mM:Stmt:=top 40
abbrev qH:dZ:=["rest","g","shared"]
def ua:aL qH ["rest","g"] (ay mM):=gr<|by decide
abbrev nO:Stmt:=top 41
abbrev vA:dZ:=["f","g","quotient","rest","up","down","shift","power","number"]
def xP:aL vA ["f","g"] (ay nO):=gr<|by decide
abbrev rd:Stmt:=top 42
abbrev vq:dZ:=["f","g"]
def xL:aL vq ["f","g"] (ay rd):=gr<|by decide
abbrev gF:Stmt:=top 43
abbrev jj:dZ:=["f","g"]
def lS:aL jj ["f","g"] (ay gF):=gr<|by decide
abbrev kX:Stmt:=top 44
abbrev oP:dZ:=["f","g","shared"]
def sD:aL oP ["f","g"] (ay kX):=gr<|by decide
abbrev oy:Stmt:=top 45
abbrev tM:dZ:=["f","low"]
def vU:aL tM ["f"] (ay oy):=gr<|by decide
abbrev q8:Stmt:=top 47
abbrev vo:dZ:=["place"]
def xJ:aL vo ["place"] (ay q8):=gr<|by decide
abbrev oj:Stmt:=top 48
abbrev tF:dZ:=["span","wide","h","low","high","first","last","bottom","begins","cut","sign"]
def vM:aL tF ["span","wide"] (ay oj):=gr<|by decide
abbrev jW:Stmt:=top 49
abbrev nc:dZ:=["a","b","low","high","shared"]
def p7:aL nc ["a","b"] (ay jW):=gr<|by decide
abbrev k8:Stmt:=top 50
abbrev oU:dZ:=["a","b","wide"]
def sH:aL oU ["a","b"] (ay k8):=gr<|by decide
abbrev h9:Stmt:=top 51
abbrev jH:dZ:=["a","b"]
def mH:aL jH ["a","b"] (ay h9):=gr<|by decide
abbrev kZ:Stmt:=top 53
abbrev oR:dZ:=["one","other"]
def sF:aL oR ["one","other"] (ay kZ):=gr<|by decide
abbrev og:Stmt:=top 54
abbrev tD:dZ:=["one","other"]
def vK:aL tD ["one","other"] (ay og):=gr<|by decide
abbrev mO:Stmt:=top 55
abbrev qJ:dZ:=["one","other"]
def uc:aL qJ ["one","other"] (ay mO):=gr<|by decide
abbrev rj:Stmt:=top 57
abbrev vz:dZ:=["low","low_in","place","order"]
def xO:aL vz ["low","low_in","place"] (ay rj):=gr<|by decide
abbrev ot:Stmt:=top 58
abbrev tJ:dZ:=["high","high_in","place","order"]
def vR:aL tJ ["high","high_in","place"] (ay ot):=gr<|by decide
abbrev mQ:Stmt:=top 59
abbrev qL:dZ:=["region","place"]
def ue:aL qL ["region","place"] (ay mQ):=gr<|by decide
abbrev jV:Stmt:=top 60
abbrev m9:dZ:=["one","other"]
def p6:aL m9 ["one","other"] (ay jV):=gr<|by decide
abbrev ox:Stmt:=top 61
abbrev tL:dZ:=["end","belongs"]
def vT:aL tL ["end","belongs"] (ay ox):=gr<|by decide
abbrev om:Stmt:=top 62
abbrev tG:dZ:=["region","low","low_in","high","high_in"]
def vO:aL tG ["region"] (ay om):=gr<|by decide
abbrev jZ:Stmt:=top 63
abbrev nj:dZ:=["region","low","low_in","high","high_in"]
def qc:aL nj ["region"] (ay jZ):=gr<|by decide
abbrev hX:Stmt:=top 65
abbrev jF:dZ:=["numbers","shifted","start","k"]
def mF:aL jF ["numbers"] (ay hX):=gr<|by decide
abbrev fW:Stmt:=top 66
abbrev jJ:dZ:=["q","signs"]
def mJ:aL jJ ["q"] (ay fW):=gr<|by decide
abbrev iF:Stmt:=top 67
abbrev kJ:dZ:=["h","low","high","bottom","start","wide","moved","scale","power"]
def nL:aL kJ ["h","low","high"] (ay iF):=gr<|by decide
abbrev hZ:Stmt:=top 71
abbrev jG:dZ:=["h","low","high","start","end","found","waiting","q","changes","left","right","part","cut"]
def mG:aL jG ["h","low","high"] (ay hZ):=gr<|by decide
abbrev fg:Stmt:=top 73
abbrev fR:dZ:=["f","low","high","end"]
def kh:aL fR ["f","low","high"] (ay fg):=gr<|by decide
abbrev fv:Stmt:=top 74
abbrev gw:dZ:=["f","low","high"]
def kU:aL gw ["f","low","high"] (ay fv):=gr<|by decide
abbrev iG:Stmt:=top 75
abbrev kK:dZ:=["f","low","high"]
def nM:aL kK ["f","low","high"] (ay iG):=gr<|by decide
abbrev rh:Stmt:=top 77
abbrev vw:dZ:=["thing","f","low","high"]
def xN:aL vw ["thing"] (ay rh):=gr<|by decide
abbrev oq:Stmt:=top 78
abbrev tI:dZ:=["thing"]
def vQ:aL tI ["thing"] (ay oq):=gr<|by decide
abbrev fC:Stmt:=top 79
abbrev gK:dZ:=["thing"]
def lU:aL gK ["thing"] (ay fC):=gr<|by decide
abbrev oh:Stmt:=top 80
abbrev tE:dZ:=["one","other"]
def vL:aL tE ["one","other"] (ay oh):=gr<|by decide
abbrev mT:Stmt:=top 82
abbrev qO:dZ:=["_law_script","_law_k","_law_state","_law_cell_here"]
def uh:aL qO ["_law_script","_law_k"] (ay mT):=gr<|by decide
abbrev i6:Stmt:=top 83
abbrev mm:dZ:=["_law_cell_here","_law_many","_law_found","_law_state","_law_digits","_law_k"]
def pG:aL mm ["_law_cell_here","_law_many"] (ay i6):=gr<|by decide
abbrev oz:Stmt:=top 84
abbrev tN:dZ:=["_law_top","_law_bottom","_law_high","_law_low_here"]
def vV:aL tN ["_law_top","_law_bottom"] (ay oz):=gr<|by decide
abbrev mR:Stmt:=top 85
abbrev qM:dZ:=["_law_parts","_law_found"]
def uf:aL qM ["_law_parts"] (ay mR):=gr<|by decide
abbrev lh:Stmt:=top 86
abbrev oW:dZ:=["_law_one","_law_other","_law_found","_law_i","_law_j"]
def sJ:aL oW ["_law_one","_law_other"] (ay lh):=gr<|by decide
abbrev mS:Stmt:=top 87
abbrev qN:dZ:=["_law_x"]
def ug:aL qN ["_law_x"] (ay mS):=gr<|by decide
abbrev gH:Stmt:=top 88
abbrev jm:dZ:=["_law_d","_law_root"]
def lW:aL jm ["_law_d"] (ay gH):=gr<|by decide
abbrev gG:Stmt:=top 89
abbrev jk:dZ:=["_law_d","_law_sign_here","_law_x","_law_root","_law_plain","_law_f"]
def lV:aL jk ["_law_d","_law_sign_here","_law_x"] (ay gG):=gr<|by decide
abbrev j4:Stmt:=top 90
abbrev nr:dZ:=["_law_one","_law_other"]
def qi:aL nr ["_law_one","_law_other"] (ay j4):=gr<|by decide
abbrev j3:Stmt:=top 91
abbrev nq:dZ:=["_law_x","_law_top","_law_bottom","_law_d"]
def qh:aL nq ["_law_x"] (ay j3):=gr<|by decide
abbrev lj:Stmt:=top 92
abbrev oX:dZ:=["_law_number_here","_law_x","_law_sign_here","_law_square","_law_plain","_law_f","_law_wide"]
def sK:aL oX ["_law_number_here","_law_x"] (ay lj):=gr<|by decide
abbrev j0:Stmt:=top 93
abbrev nn:dZ:=["_law_xs","_law_found","_law_x","_law_number_here","_law_at"]
def qd:aL nn ["_law_xs"] (ay j0):=gr<|by decide
abbrev i7:Stmt:=top 94
abbrev mo:dZ:=["_law_numbers_here","_law_at","_law_x"]
def pH:aL mo ["_law_numbers_here","_law_at","_law_x"] (ay i7):=gr<|by decide
abbrev iH:Stmt:=top 95
abbrev kL:dZ:=["_law_numbers_here","_law_at","_law_x"]
def nN:aL kL ["_law_numbers_here","_law_at","_law_x"] (ay iH):=gr<|by decide
abbrev j1:Stmt:=top 96
abbrev np:dZ:=["_law_numbers_here","_law_truths","_law_x","_law_parts","_law_at","_law_start","_law_ends"]
def qg:aL np ["_law_numbers_here","_law_truths","_law_x"] (ay j1):=gr<|by decide
abbrev i8:Stmt:=top 97
abbrev mq:dZ:=["_law_numbers_here","_law_truths","_law_number_here","_law_many"]
def pI:aL mq ["_law_numbers_here","_law_truths","_law_number_here"] (ay i8):=gr<|by decide
abbrev ib:Stmt:=top 98
abbrev jK:dZ:=["_law_told","_law_numbers_here","_law_at","_law_last","_law_number_here"]
def mK:aL jK ["_law_told","_law_numbers_here","_law_at","_law_last"] (ay ib):=gr<|by decide
abbrev gI:Stmt:=top 99
abbrev jn:dZ:=["_law_region_here","_law_numbers_here","_law_truths","_law_some"]
def lX:aL jn ["_law_region_here","_law_numbers_here","_law_truths"] (ay gI):=gr<|by decide
abbrev fQ:Stmt:=top 100
abbrev iu:dZ:=["_law_region_here","_law_numbers_here","_law_truths","_law_xs","_law_asked","_law_k","_law_found"]
def ki:aL iu ["_law_region_here","_law_numbers_here","_law_truths","_law_xs"] (ay fQ):=gr<|by decide
abbrev xQ:Stmt:=top 101
abbrev KI:dZ:=["_law_script","_law_k","_law_xs","_law_numbers_here","_law_truths","_law_region_here","_law_other","_law_at"]
def NP:aL KI ["_law_script"] (ay xQ):=gr<|by decide
def gl(f:aG):Nat:=f.foldl (λg x=>Nat.gcd g x.natAbs) 0
def B4(f:aG)(x:Int):gl (f++[x])=Nat.gcd (gl f) x.natAbs:=by unfold gl;rw[Im];rfl
def eM(ds:bX)(d:D):Prop:=∃a b:Int,ds=[.int a,.int b]/\d=.int ((Nat.gcd a.natAbs b.natAbs:Nat):Int)
def s8:∀ds d,eM ds d->ds.length=2:=by rintro _ _ ⟨a,b,rfl,_⟩;rfl
section
variable {X:Cx}
def vh(h:c7 P w K mg base k jI ia X)(US:mg "abs"=none):Go X jI ia eM:=by rintro ds d ⟨a,b,rfl,rfl⟩;have t:=h.at';haveI:=h.T6;have bl:=h.bt US;refine ao (qj t 0 1 (tm t bl<|aa t 0) (tm t bl<|aa t 1)<|by decide) ?_;refine ao (gs t<|yx (λa b=>[.val<|.int a,.val<|.int b]) (λa b=>?_) (λa b hb=>?_) _ a.natAbs b.natAbs<|aq _)<|aA<|aW<|aa t 0;refine TC.eq (O7<|aa t 1) ?_;by_cases hb:b=0;subst hb;rfl;rw[av<|by lia];simpa using hb;exact aA<|qj t 0 1 (aa t 1) (Tz.eq (bN (aa t 0) (aa t 1)<|by lia) rfl)<|by decide
def oY(ds:bX)(d:D):Prop:=∃f:aG,ds=[aU f]/\f.length<1000/\d=aU (f.map λx=>-x)
def yg:∀ds d,oY ds d->ds.length=1:=by rintro _ _ ⟨a,rfl,_⟩;rfl
def fV{n:Nat}(h:n<1000):n<sizeLine:=Nat.lt_trans h<|by decide
def Co(h:c7 P w K mg base k oQ kY X)(TQ:mg "tuple"=none):Go X oQ kY oY:=by rintro ds d ⟨f,rfl,hf,rfl⟩;have t:=h.at';haveI:=h.T6;have bl:=h.bt TQ;refine aA<|aW<|ma t bl<|UA.eq (T1.toQ (fG (rs:=(f.map D.int).map λd=>match d with |.int i=>.int (-i) |d=>d) t ["f","number"] (Ah rfl) (oK<|aa t 0) (by rw[ae];exact fV hf) λX' cx=>?_)) ?_;have t':=cx.at';refine TU.all (λd=>[.val<|aU f,.val d]) _ _ _ (λd hd=>bE t' 1) (λd hd e he=>bE t' 1) λd hd=>?_;obtain⟨i,_,rfl⟩:=dq.mp hd;exact dy<|aa t' 1 rfl;rw[cX,cX];rfl
end
def gz(f:aG):aG:=f.map λx=>x.fdiv (gl f:Int)
def rP(ds:bX)(d:D):Prop:=∃f:aG,ds=[aU f]/\f.length<1000/\(f≠[]->gl f≠0)/\d=aU (gz f)
def DH:∀ds d,rP ds d->ds.length=1:=by rintro _ _ ⟨a,rfl,_⟩;rfl
def ak(xs:aG):Int:=(xs.getLast?).getD 0
def a9(f:aG):aG:=if ak (gz f)<0 then(gz f).map λx=>-x else gz f
def iS(ds:bX)(d:D):Prop:=∃f:aG,ds=[aU f]/\f.length<1000/\(f≠[]->gl f≠0)/\d=aU (a9 f)
def z8:∀ds d,iS ds d->ds.length=1:=by rintro _ _ ⟨a,rfl,_⟩;rfl
def uS{i:Nat}{α:Type}{xs:List α}{x:α}(h:xs[i]?=some x):xs.take (i+1)=xs.take i++[x]:=by rw[List.take_add_one,h];rfl
section
variable {X:Cx}
def H8(h:c7 P w K mg base k vt re X)(TQ:mg "tuple"=none)(c1:Callee X "common_divisor" eM):Go X vt re rP:=by
 rintro ds d ⟨f,rfl,hf,hg,rfl⟩;have t:=h.at';haveI:=h.T6;have bl:=h.bt TQ;refine ao (bC t 1 af) ?_;refine ao (TW:=[.val<|aU f,.val<|.int (gl f:Int),.un]) (jx t (oK<|aa t 0) ?_) ?_
 ·refine T5.Ue (λi=>[.val<|aU f,.val<|.int (gl (f.take i):Int),.un]) (λj d hj=>?_) rfl ?_;rotate_left;·rw[ae,pD]
  ·rw[aH]at hj;cases e:f[j]? with
   |none=>rw[e]at hj;cases hj
   |some x=>rw[e]at hj;cases hj;refine⟨_,aZ t 2,TB.weak (aA<|bC t 1<|au t c1 (ac (aa t 2)<|ac (aa t 1) ai) ⟨x,_,rfl,rfl⟩) ?_⟩;rw[uS e,B4,zk];exact .keep<|.keep<|.forget .nil
 ·refine aA<|aW<|ma t bl<|UA.eq (T1.toQ (fG (rs:=(f.map D.int).map λd=>match d with |.int i=>.int (i.fdiv (gl f:Int)) |d=>d) t ["f","shared","","number"] (Ah rfl) (oK<|aa t 0) (by rw[ae];exact fV hf) λX' cx=>?_)) ?_;·have t':=cx.at';refine TU.all (λd=>[.val<|aU f,.val<|.int (gl f:Int),.un,.val d]) _ _ _ (λd hd=>bE t' 3) (λd hd e he=>bE t' 3) λd hd=>?_;obtain⟨i,hi,rfl⟩:=dq.mp hd;have h0:=hg<|List.ne_nil_of_mem hi;exact tj t' (aa t' 3 rfl) (aa t' 1 rfl)<|by lia
  ·unfold gz;rw[cX,cX];rfl
def eB{xs:aG}(h:xs≠[]):tZ (xs.map D.int) (-1)=some (.int<|ak xs):=by rcases bR xs with e |⟨ys,y,e⟩;exact absurd e h;subst e;have q:=KC (ys.map D.int)<|.int y;rw[dj,bO,List.map_singleton,q];simp[ak]
def nR(f:aG):(gz f).length=f.length:=ae _
def Eg(h:c7 P w K mg base k qK mP X)(c1:Callee X "put_low" rP)(c2:Callee X "other_sign" oY):Go X qK mP iS:=by rintro ds d ⟨f,rfl,hf,hg,rfl⟩;have t:=h.at';haveI:=h.T6;refine ao (bC t 1<|au t c1 (ac (aa t 0) ai) ⟨f,rfl,hf,hg,rfl⟩)<|aA<|aW ?_;have ne:∀{YZ YY YX:Pos}{x1:Nat},TC X [.val<|aU f,.val<|aU<|gz f] (.Compare (.Name "low" YZ) [.NotEq] [.Tuple [] x1 YY] YX) (!decide (gz f=[])):=λ{_ _ _ _}=>je t (Tz.p<|aa t 1) (Tz.p (d:=aU [])<|bw ai) (dH _) (dH _) (by rw[mZ]);by_cases h0:gz f=[];refine iL (Uq.toT<|rE<|TC.eq ne<|by rw[h0];rfl)<|Tz.eq (aa t 1) ?_;unfold a9;rw[h0];rfl;by_cases h1:ak (gz f)<0;refine kF (Uq.toT<|mX (TC.eq ne<|by rw[ah h0];rfl)<|rF<|TC.eq (iC (aF (Tz.qt<|aa t 1) (dy af)<|eB h0) af)<|av h1)<|Tz.eq (au t c2 (ac (aa t 1) ai) ⟨gz f,rfl,by rwa[nR],rfl⟩) ?_;unfold a9;rw[am h1];refine iL (Uq.toT<|mX (TC.eq ne<|by rw[ah h0];rfl)<|rF<|TC.eq (iC (aF (Tz.qt<|aa t 1) (dy af)<|eB h0) af)<|ah h1)<|Tz.eq (aa t 1) ?_;unfold a9;rw[ap h1]
end
def yZ(s:Int)(xs:aG):Int:=xs.foldl (λs x=>(s*69621+x)%2147483647) s
def sQ(ns:aG)(j:Int):Int:=if j<ns.length then ns.getD j.toNat 0 else yZ (48271*(j*j+7*j+11)%2147483647)<|oN ns none<|some 3
def qV(ds:bX)(d:D):Prop:=∃(ns:aG)(j:Int),ds=[.UC ns,.int j]/\0<=j/\j<1000/\d=.int (sQ ns j)
def Ac:∀ds d,qV ds d->ds.length=2:=by rintro _ _ ⟨a,b,rfl,_⟩;rfl
def PH(s0:Int):Nat->Int|0=>s0|i+1=>(PH s0 i*(PH s0 i%65521+40487)+7*(i:Int)+5)%1999999973
def Pe(d0:Int):Nat->Int|0=>d0|i+1=>Pe d0 i / 1000000
def OS(s0 d0:Int)(i:Nat):Int:=if Pe d0 i>0 then Pe d0 i%1000000 else PH s0<|i+1
def t9(c:Int):Int:=(c%1999999973+31)*765432101%1999999973
def sj(c:Int):Int:=if c<0\/c≥10 ^ 18 then c.natAbs else 0
def nQ(c:Int)(n:Nat):aG:=(List.range n).map<|OS (t9 c)<|sj c
def AY(c:Int)(n:Nat):(nQ c n).length=n:=by simp[nQ]
def ms(ds:bX)(d:D):Prop:=∃(c:Int)(n:Nat),ds=[.int c,.int n]/\n<1000/\d=ba (nQ c n)
def u5:∀ds d,ms ds d->ds.length=2:=by rintro _ _ ⟨a,b,rfl,_⟩;rfl
def iR{i:Nat}(h:(dO 0 n)[i]?=some d):i<n/\d=.int (i:Int):=by unfold dO at h;rw[aH]at h;by_cases hi:i<n;rw[cq hi]at h;cases h;exact⟨hi,by show D.int (0+(i:Int))=_;rw[iQ]⟩;rw[bQ<|by simpa using hi]at h;cases h
section
variable {X:Cx}
theorem Ek(h:c7 P w K mg base k qO mT X)(TH:mg "len"=none):Go X qO mT qV:=by
 rintro ds d ⟨ns,j,rfl,h0,h1,rfl⟩;have t:=h.at';haveI:=h.T6;have bl:=h.bt TH;by_cases hj:j<ns.length;refine eF<|eV (TC.eq (iC (aa t 1)<|bF t bl<|Tz.qs<|aa t 0) ?_)<|aA<|aW<|aF (Tz.qs<|aa t 0) (aa t 1) ?_;rw[ae];exact av hj;have hn:j.toNat<ns.length:=by lia
 rw[xr h0 rfl hn];unfold sQ;rw[am hj,ag,ar hn];rfl;refine ao (c9 (TC.eq (iC (aa t 1)<|bF t bl<|Tz.qs<|aa t 0) ?_) bM) ?_;rw[ae];exact ah hj;refine ao (bC t 2<|bN (bc af (cp (cp (bc (aa t 1) (aa t 1)<|de (by lia)<|by lia)<|bc af (aa t 1)<|de (by decide)<|by decide) af)<|de (by decide)<|by decide) af) ?_;refine ao (TW:=[.val<|.UC ns,.val<|.int j,.val<|.int<|sQ ns j,.un]) (jx t (m7<|Tz.eq (T1.Ux<|xk (Tz.qs<|aa t 0) rH<|rG af)<|by rw[uC]) ?_)<|aA<|aW<|aa t 2;refine T5.Ue (λi=>[.val<|.UC ns,.val<|.int j,.val<|.int<|yZ (48271*(j*j+7*j+11)%2147483647)<|(oN ns none<|some 3).take i,.un]) (λi d hi=>?_) rfl ?_;rw[aH]at hi;cases e:(oN ns none<|some 3)[i]? with
 |none=>rw[e]at hi;cases hi
 |some x=>
  rw[e]at hi;cases hi;refine⟨_,aZ t 3,TB.weak (aA<|bC t 2<|bN (cp (bc (aa t 2) af<|rC (by decide)<|by decide)<|aa t 3) af) ?_⟩;have e2:yZ (48271*(j*j+7*j+11)%2147483647) ((oN ns none<|some 3).take<|i+1)=(yZ (48271*(j*j+7*j+11)%2147483647) ((oN ns none<|some 3).take i)*69621+x)%2147483647:=by rw[uS e];unfold yZ;rw[Im];rfl
  rw[e2];exact .keep<|.keep<|.keep<|.forget .nil
 rw[ae,pD];unfold sQ;rw[ap hj]
theorem y4(h:c7 P w K mg base k mm i6 X)(TK:mg "range"=none)(US:mg "abs"=none)(Vd:mg "int"=none):Go X mm i6 ms:=by
 rintro ds d ⟨c,n,rfl,hn,rfl⟩;have t:=h.at';haveI:=h.T6;have b1:=h.bt TK;have b2:=h.bt US;have b3:=h.bt Vd;refine ao (n9 t 2<|fk ai) ?_;refine ao (bC t 3<|bN (bc (cp (bN (aa t 0) af<|by decide) af) af<|rC (by decide)<|by decide) af) ?_;refine ao (bC t 4 af) ?_;refine ao (TW:=[.val<|.int c,.val<|.int n,.own [],.val<|.int<|t9 c,.val<|.int<|sj c,.un]) ?_ ?_;by_cases h1:c<0;refine eV (Uq.toT<|yP<|TC.eq (iC (aa t 0) af)<|av h1)<|TB.eq (aA<|bC t 4<|tm t b2<|aa t 0) ?_;have e:sj c=c.natAbs:=by unfold sj;rw[am<|.inl h1]
 rw[e];rfl;by_cases h2:c≥10 ^ 18;refine eV (Uq.toT<|jD (TC.eq (iC (aa t 0) af)<|ah h1)<|oG<|TC.eq (GN (aa t 0)<|Kf af af ⟨by decide,by decide,by decide⟩)<|av h2)<|TB.eq (aA<|bC t 4<|tm t b2<|aa t 0) ?_;have e:sj c=c.natAbs:=by unfold sj;rw[am<|.inr h2]
 rw[e];rfl;refine c9 (Uq.toT<|jD (TC.eq (iC (aa t 0) af)<|ah h1)<|oG<|TC.eq (GN (aa t 0)<|Kf af af ⟨by decide,by decide,by decide⟩)<|ah h2)<|TB.eq bM ?_;have e:sj c=0:=by unfold sj;rw[ap<|by rintro(z |z);exact h1 z;exact h2 z]
 rw[e];rfl;refine ao (jx t (fZ t b1 (aa t 1) (by lia)<|by lia)<|T5.Ue (TW:=[.val<|.int c,.val<|.int n,.own<|(nQ c n).map D.int,.val<|.int<|PH (t9 c) n,.val<|.int<|Pe (sj c) n,.un]) (λi=>[.val<|.int c,.val<|.int n,.own<|(nQ c i).map D.int,.val<|.int<|PH (t9 c) i,.val<|.int<|Pe (sj c) i,.un]) (λi d hi=>?_) rfl ?_)<|fB 2 rfl<|aA<|aW<|aa t 2;obtain⟨VS,rfl⟩:=iR hi;refine⟨_,aZ t 5,TB.weak (ao (bC t 3<|bN (cp (cp (bc (aa t 3) (cp (bN (aa t 3) af<|by decide) af)<|rC (by lia)<|by lia)<|bc af (aa t 5)<|de (by decide)<|by decide) af) af)<|ao (ul t 2 rfl (d:=.int<|OS (t9 c) (sj c) i) (aF (T1.toQ<|fk<|ac (aa t 3)<|ac (bN (aa t 4) af) ai) (B8 t b3<|GL (aa t 4) af) ?_) ?_)<|aA<|bC t 4<|gv t (aa t 4) af) ?_⟩;by_cases hd:0<Pe (sj c) i;have e:OS (t9 c) (sj c) i=Pe (sj c) i%1000000:=by unfold OS;rw[am hd]
 rw[e,av hd];rfl;have e:OS (t9 c) (sj c) i=PH (t9 c) (i+1):=by unfold OS;rw[ap hd]
 rw[e,ah hd];rfl;rw[ae,AY];exact fV (by lia);have e:nQ c (i+1)=nQ c i++[OS (t9 c) (sj c) i]:=by unfold nQ;rw[lP,bO];rfl
 rw[e,bO];exact .keep<|.keep<|.keep<|.keep<|.keep<|.forget .nil;have e:(dO 0 (n:Int).toNat).length=n:=by simp[dO]
 rw[e]
end
def c8(xs:aG):aG:=(xs.reverse.dropWhile (·==0)).reverse
def nF(xs:aG):c8 (xs++[0])=c8 xs:=by simp[c8]
def q0{a:Int}(xs:aG)(h:a≠0):c8 (xs++[a])=xs++[a]:=by simp[c8,h]
def iZ(xs:aG):(c8 xs).length<=xs.length:=by unfold c8;rw[dr];have:=(Sz (l:=xs.reverse) (p:=λx=>x==0)).length_le;rw[dr]at this;exact this
def K1(xs:aG):c8 xs=[]\/∃ys a,c8 xs=ys++[a]/\a≠0:=by induction h:xs.length generalizing xs with|zero=>left;rw[aw h];rfl|succ n ih=>rcases bR xs with e |⟨ys,y,e⟩;subst e;left;rfl;rw[dj]at e;subst e;by_cases hy:y=0;subst hy;rw[nF];exact ih ys (by simpa using h);right;exact⟨ys,y,q0 ys hy,hy⟩
def G6{X:Cx}(R:aG->fx)(h1:TC X (R []) c false)(h2:∀ys a,(ys++[a]).length<1000->TC X (R<|ys++[a]) c (decide<|a=0))(h3:∀ys a,TB X (R<|ys++[a]) body<|.nx<|R ys):∀(n:Nat)(ys:aG),ys.length=n->ys.length<1000->∃m,Ui X c body m (R ys) (.nx<|R<|c8 ys):=by
 intro n;induction n with
 |zero=>intro ys h _;rw[aw h];exact⟨0,.stop h1⟩
 |succ n ih=>
  intro ys h hl;rcases bR ys with e |⟨zs,a,e⟩;subst e;exact⟨0,.stop h1⟩;rw[dj]at e;subst e;by_cases ha:a=0;subst ha;rw[nF];have hz:zs.length=n:=by simpa using h
  let⟨m,q⟩:=ih zs hz (by lia);exact⟨m+1,.step (TC.eq (h2 zs 0 hl) rfl) (h3 zs 0) q⟩;rw[q0 zs ha];exact⟨0,.stop<|TC.eq (h2 zs a hl)<|ah ha⟩
def qT(ds:bX)(d:D):Prop:=∃xs:aG,ds=[ba xs]/\xs.length<1000/\d=aU (c8 xs)
def Aa:∀ds d,qT ds d->ds.length=1:=by rintro _ _ ⟨a,rfl,_⟩;rfl
def Ix(f g:aG)(i:Nat)(acc:aG):Nat->aG|0=>acc|j+1=>(Ix f g i acc j).set (i+j)<|(Ix f g i acc j).getD (i+j) 0+f.getD i 0*g.getD j 0
def rW(f g:aG):Nat->aG|0=>List.replicate (f.length+g.length) 0|i+1=>Ix f g i (rW f g i) g.length
def xj(f g:aG)(i:Nat)(acc:aG):∀j,(Ix f g i acc j).length=acc.length|0=>rfl|j+1=>by rw[Ix,cy,xj]
def qk(f g:aG):∀i,(rW f g i).length=f.length+g.length|0=>by rw[rW,AA]|i+1=>by rw[rW,xj,qk]
def a8(f g:aG):aG:=c8<|rW f g f.length
def EB(f g:aG):(a8 f g).length<=f.length+g.length:=by have:=iZ<|rW f g f.length;rw[qk]at this;exact this
def lB(ds:bX)(d:D):Prop:=∃f g:aG,ds=[aU f,aU g]/\f.length<100/\g.length<100/\(∀y∈g,-(2 ^ 63)<y/\y<2 ^ 63)/\d=aU (a8 f g)
def ym:∀ds d,lB ds d->ds.length=2:=by rintro _ _ ⟨a,b,rfl,_⟩;rfl
def mW{xs:aG}{j:Nat}(h:j<xs.length):xs.getD j 0=xs[j]:=by rw[ag,ar h];rfl
def mi{xs:aG}{n:Nat}(h:n<xs.length):tZ (xs.map D.int) (n:Int)=some (.int<|xs.getD n 0):=by rw[xr (by lia) (fK n) h,mW h]
section
variable {X:Cx}
def Ei(h:c7 P w K mg base k qM mR X)(Um:mg "list"=none)(TQ:mg "tuple"=none)(TH:mg "len"=none):Go X qM mR qT:=by
 rintro ds d ⟨xs,rfl,hl,rfl⟩;have t:=h.at';haveI:=h.T6;have b1:=h.bt Um;have b2:=h.bt TQ;have b3:=h.bt TH;show TB X [.val<|ba xs,.un] _ _;refine ao (n9 t 1<|rL t b1<|Tz.ql<|aa t 0) ?_;refine ao (gs t<|G6 (λys=>[.val<|ba xs,.own<|ys.map D.int]) ?_ (λys a hy=>?_) (λys a=>?_) _ xs rfl hl)<|aA<|aW<|ma t b2<|eE t 1 rfl;·exact Uq.toT<|rE<|je t (UA.p<|eE t 1 rfl) (Tz.p<|T1.Ux<|fk ai) (fO []) (fO [])<|by have:=Ca [] [];exact bi not this
 ·refine Uq.toT<|mX (je t (UA.p<|eE t 1 rfl) (Tz.p<|T1.Ux<|fk ai) (fO<|ys++[a]) (fO [])<|by have:=Ca (ys++[a]) [];rw[ah<|by simp]at this;exact bi not this)<|rF<|c6 (aF (d:=.int a) (eE t 1 rfl) (dD (bF t b3<|eE t 1 rfl) af) ?_) af;rw[ae,xr (n:=ys.length) (by simp) (by simp)<|by simp];simp
 ·refine TB.eq (aA<|M5 t 1 rfl<|by simp) ?_;rw[bO];have e:(ys.map D.int++[a].map D.int).dropLast=ys.map D.int:=by simp
  rw[e];rfl
def Ct(h:c7 P w K mg base k oW lh X)(TK:mg "range"=none)(TH:mg "len"=none)(c1:Callee X "_law_trim" qT):Go X oW lh lB:=by
 rintro ds d ⟨f,g,rfl,hf,hg,hb,rfl⟩;have t:=h.at';haveI:=h.T6;have b1:=h.bt TK;have b2:=h.bt TH;show TB X [.val<|aU f,.val<|aU g,.un,.un,.un] _ _;refine ao (n9 (xs:=(List.replicate (f.length+g.length) 0).map D.int) t 2<|T1.eq (Pb (n:=(f.length:Int)+g.length) (T1.Ux<|fk<|ac af ai) (Tz.eq (cp (bF t b2<|Tz.qt<|aa t 0)<|bF t b2<|Tz.qt<|aa t 1)<|by rw[ae,ae]) (by lia) (by lia) ?_) ?_) ?_
 ·have e:((f.length:Int)+g.length).toNat=f.length+g.length:=by lia
  rw[e];have:=Nr;simp;lia
 ·have e:((f.length:Int)+g.length).toNat=f.length+g.length:=by lia
  rw[e,Jm]
 refine ao (TW:=[.val<|aU f,.val<|aU g,.own<|(rW f g f.length).map D.int,.un,.un]) (jx t (fZ t b1 (bF t b2<|Tz.qt<|aa t 0) (by lia)<|by rw[ae];lia)<|T5.Ue (λi=>[.val<|aU f,.val<|aU g,.own<|(rW f g i).map D.int,.un,.un]) (λi d hi=>?_) rfl ?_) ?_
 ·obtain⟨VS,rfl⟩:=iR hi;have VF:i<f.length:=by simpa using VS
  refine⟨_,aZ t 3,TB.weak (Uf:=[.val<|aU f,.val<|aU g,.own<|(rW f g<|i+1).map D.int,.val<|.int i,.un]) (aA<|jx t (fZ t b1 (bF t b2<|Tz.qt<|aa t 1) (by lia)<|by rw[ae];lia)<|T5.Ue (λj=>[.val<|aU f,.val<|aU g,.own<|(Ix f g i (rW f g i) j).map D.int,.val<|.int i,.un]) (λj d hj=>?_) rfl ?_)<|.keep<|.keep<|.keep<|.forget<|.keep .nil⟩
  ·obtain⟨Zq,rfl⟩:=iR hj;have hj':j<g.length:=by simpa using Zq
   have hl:(Ix f g i (rW f g i) j).length=f.length+g.length:=by rw[xj,qk]
   have hy: -(2 ^ 63)<g.getD j 0/\g.getD j 0<2 ^ 63:=by rw[mW hj'];exact hb _<|dX _
   have e1:((i:Int)+(j:Int))=((i+j:Nat):Int):=by lia
   refine⟨_,aZ t 4,TB.weak (aA<|kj t (cp (i:=(Ix f g i (rW f g i) j).getD (i+j) 0) (aF (eE t 2 rfl) (cp (aa t 3)<|aa t 4) ?_)<|bc (i:=f.getD i 0) (j:=g.getD j 0) (aF (Tz.qt<|aa t 0) (aa t 3)<|mi VF) (aF (Tz.qt<|aa t 1) (aa t 4)<|mi hj')<|rC (by lia)<|by lia)<|Cb (j:=i+j) t 2 rfl (cp (aa t 3)<|aa t 4) ?_) ?_⟩;·rw[e1];exact mi<|by lia
   ·rw[ae];exact qx (by lia) (by lia)<|by lia
   ·rw[Ix,sA];exact .keep<|.keep<|.keep<|.keep<|.forget .nil
  ·have e:(dO 0 ((g.map D.int).length:Int).toNat).length=g.length:=by simp[dO]
   rw[e];rfl
 ·have e:(dO 0 ((f.map D.int).length:Int).toNat).length=f.length:=by simp[dO]
  rw[e]
 ·refine fB 2 rfl<|aA<|aW<|au t c1 (ac (aa t 2) ai) ⟨rW f g f.length,rfl,by rw[qk];lia,rfl⟩
end
def ya{x:Int}(h:x∈c8 xs):x∈xs:=by unfold c8 at h;rw[List.mem_reverse]at h;have:=(Sz (p:=λx=>x==0)).mem h;exact List.mem_reverse.mp this
def aY(f:aG):Prop:=f=[]\/∃ys a,f=ys++[a]/\a≠0
def Bh(ds:bX)(d:D):Prop:=∃(ns:aG),ds=[.UC ns]/\ns.length<=63/\d=.bl true
def L3:∀ds d,Bh ds d->ds.length=1:=by rintro _ _ ⟨a,rfl,_⟩;rfl
def JU(ns:aG)(h:ns.length<=63):Bh [.UC ns] (.bl true):=⟨ns,rfl,h,rfl⟩
def IK(xs:aG):xs.take (c8 xs).length=c8 xs:=by induction h:xs.length generalizing xs with|zero=>rw[aw h];rfl|succ n ih=>rcases bR xs with e |⟨ys,y,e⟩;subst e;rfl;rw[dj]at e;subst e;by_cases hy:y=0;subst hy;rw[nF];have q:=ih ys (by simpa using h);have l:=iZ ys;rwa[List.take_append_of_le_length l];rw[q0 ys hy,pD]
theorem D6{X:Cx}(R:Nat->fx)(xs:aG)(h1:TC X (R 0) c false)(h2:∀m(h:m<xs.length),TC X (R<|m+1) c<|decide<|xs[m]=0)(h3:∀m,TB X (R<|m+1) body<|.nx<|R m):∀m,m<=xs.length->∃n,Ui X c body n (R m) (.nx<|R (c8<|xs.take m).length)
 |0,_=>⟨0,.stop h1⟩
 |m+1,hm=>by
  have Uv:=hm;have e:=uS<|ar Uv;by_cases hz:xs[m]=0;let⟨n,q⟩:=D6 R xs h1 h2 h3 m (by lia);refine⟨n+1,.step (TC.eq (h2 m Uv)<|av hz) (h3 m) ?_⟩;rwa[e,hz,nF];refine⟨0,?_⟩;rw[e,q0 _ hz];have el:(xs.take m++[xs[m]]).length=m+1:=by rw[<-e,eT];lia
  rw[el];exact .stop<|TC.eq (h2 m Uv)<|ah hz
def nt(ds:bX)(d:D):Prop:=∃xs:aG,ds=[ba xs,.int 0]/\xs.length<1000/\d=aU (c8 xs)
def wj:∀ds d,nt ds d->ds.length=2:=by rintro _ _ ⟨a,rfl,_⟩;rfl
def nT(ds:bX)(d:D):Prop:=∃xs:aG,ds=[ba xs]/\xs.length<1000/\d=aU (c8 xs)
def E9:∀ds d,nT ds d->ds.length=1:=by rintro _ _ ⟨a,rfl,_⟩;rfl
def fN(f:aG):aG:=(List.range<|f.length-1).map λ(i:Nat)=>(1+(i:Int))*f.getD (1+i) 0
def CD(ds:bX)(d:D):Prop:=∃f:aG,ds=[aU f]/\f.length<1000/\d=aU (fN f)
def Hv:∀ds d,CD ds d->ds.length=1:=by rintro _ _ ⟨a,rfl,_⟩;rfl
section
variable {X:Cx}
theorem Aj(h:c7 P w K mg base k m8 jU X)(TH:mg "len"=none)(TQ:mg "tuple"=none):Go X m8 jU nt:=by
 rintro ds d ⟨xs,rfl,hl,rfl⟩;have t:=h.at';haveI:=h.T6;have b1:=h.bt TH;have b2:=h.bt TQ;refine ao (bC t 2<|Tz.eq (bF t b1<|Tz.ql<|aa t 0)<|by rw[ae]) ?_;refine ao (gs t<|D6 (λm=>[.val<|ba xs,.val<|.int 0,.val<|.int m]) xs ?_ (λm hm=>?_) (λm=>?_) xs.length<|aq _)<|aA<|aW<|Tz.eq (ma t b2<|T1.toQ<|xk (Tz.ql<|aa t 0) rH<|rG<|aa t 2) ?_;exact Uq.toT<|rE<|TC.eq (qB (aa t 2) af) rfl;refine Uq.toT<|mX (TC.eq (qB (aa t 2) af)<|av<|by lia)<|rF<|c6 (aF (Tz.ql<|aa t 0) (dD (aa t 2) af) ?_)<|aa t 1;exact xr (by lia) (by lia) hm;refine TB.eq (aA<|Je t 2 rfl af) ?_;have e:((m+1:Nat):Int)-1=m:=by lia
 show Out.nx [_,_,.val<|.int<|((m+1:Nat):Int)-1]=_;rw[e];rw[pD,uC];have e:oN xs none (some ((c8 xs).length:Int))=c8 xs:=by
  have l:=iZ xs;unfold oN;have e1:HT.T4 xs.length 0 none=0:=by simp[HT.T4]
  have e2:HT.T4 xs.length xs.length (some ((c8 xs).length:Int))=(c8 xs).length:=by simp only[HT.T4];split<;>lia
  rw[e1,e2,PD,kx];exact IK xs
 rw[e]
def Ky(h:c7 P w K mg base k y9 ui X)(c1:Callee X "without_end" nt):Go X y9 ui nT:=by rintro ds d ⟨xs,rfl,hl,rfl⟩;have t:=h.at';exact aA<|aW<|au t c1 (ac (aa t 0)<|ac af ai) ⟨xs,rfl,hl,rfl⟩
theorem MB(h:c7 P w K mg base k Cz wY X)(TQ:mg "tuple"=none)(TK:mg "range"=none)(TH:mg "len"=none):Go X Cz wY CD:=by rintro ds d ⟨f,rfl,hf,rfl⟩;have t:=h.at';have b1:=h.bt TQ;have b2:=h.bt TK;have b3:=h.bt TH;refine aA<|aW<|Tz.eq (ma t b1<|T1.toQ (fG (rs:=(List.range<|f.length-1).map λ(i:Nat)=>D.int<|(1+(i:Int))*f.getD (1+i) 0) t ["f","power"] (Ah rfl) (UG.eq (Ba t b2 af (bF t b3<|Tz.qt<|aa t 0)<|by rw[ae];lia) (show _=dO 1 (f.length-1)by rw[ae];congr 1;lia)) (by simp[dO];exact fV<|by lia) λX' cx=>?_)) (by show D.tup _=D.tup _;unfold fN;rw[cX];rfl);exact TU.gen (λ(i:Nat)=>D.int<|1+i) _ (λi=>[.val<|aU f,.val<|.int<|1+i]) _ _ (λx hx=>bE cx.at' 1) (λx hx y hy=>bE cx.at' 1) λx hx=>by have U1:=cc.mp hx;exact bc (aa cx.at' 1 rfl) (aF (Tz.qt<|aa cx.at' 0 rfl) (aa cx.at' 1 rfl)<|by rw[show(1+x)=((1+x:Nat):Int)by lia];exact mi<|by lia)<|de (by lia)<|by lia
end
def AG:∀n,c8 (List.replicate n (0:Int))=[]|0=>rfl|n+1=>by rw[List.replicate_succ',nF,AG]
def uQ(g:aG):a8 [] g=[]:=by unfold a8;rw[qY,rW];exact AG _
def m5{S:aG}(h:aY S)(Uy:S≠[]):gl S≠0:=by rcases h with e |⟨ys,a,e,ha⟩;exact absurd e Uy;subst e;rw[B4];intro z;have:=(Nat.gcd_eq_zero_iff.mp z).2;lia
end My
namespace My
open PySem PySem.W L2 L2.EV PyProof.Rows
variable {K:gh}
def bZ(q:Rat):D:=aU [q.num,(q.den:Int)]
def GZ{x:Int}(h:x.natAbs<2 ^ k):Builtin.Int.intBits x<=k:=by
 unfold Builtin.Int.intBits;split;exact cQ _;rename_i h0;have:x.natAbs≠0:=by intro z;apply h0;simp at z ⊢;lia
 exact(Nat.log2_lt this).mpr h
def dz{x y:Int}{k:Nat}(hk:k<=1000000)(hx:x.natAbs<2 ^ k)(hy:y.natAbs<2 ^ k):IntMulOk x y:=.of_bits (bL (GZ hx)<|bL hk<|by decide)<|bL (GZ hy)<|bL hk<|by decide
def fb(k:Nat)(q:Rat):Prop:=q.num.natAbs<2 ^ k/\q.den<2 ^ k
def fb.up{k:Nat}{q:Rat}(h:fb j q)(hk:j<=k):fb k q:=⟨aE h.1<|aN (by decide) hk,aE h.2<|aN (by decide) hk⟩
def HG{a b:Int}(hb:b≠0):(b.sign:Int)=if b<0 then-1 else 1:=by split;rename_i h;exact ce h;exact dF<|by lia
def yy{a b:Int}(hb:b≠0):let g:Int:=((Nat.gcd a.natAbs b.natAbs:Nat):Int)
  let s:Int:=if b<0 then-g else g
  s≠0/\a.fdiv s=(Rat.divInt a b).num/\b.fdiv s=((Rat.divInt a b).den:Int):=by
 intro g s
 have hg:0<Nat.gcd a.natAbs b.natAbs:=lD _<|by lia
 have da:g ∣ a:=SV.mp<|by rw[aB];exact eR _ _
 have db:g ∣ b:=SV.mp<|by rw[aB];exact fc _ _
 let⟨c,hc⟩:=da
 let⟨d,hd⟩:=db
 have e1:(Rat.divInt a b).num=b.sign*a / g:=by
  rw[Rat.num_divInt]
  show _=b.sign*a / ((Nat.gcd a.natAbs b.natAbs:Nat):Int)
  rw[zk];rfl
 have e2:((Rat.divInt a b).den:Int)=b.natAbs / g:=by
  rw[Rat.den_divInt,ap hb]
  show((b.natAbs / Nat.gcd b.natAbs a.natAbs:Nat):Int)=b.natAbs / ((Nat.gcd a.natAbs b.natAbs:Nat):Int)
  rw[zk];exact Int.natCast_ediv _ _
 have Xg:g≠0:=by lia
 rw[e1,e2]
 by_cases hn:b<0
 have hs:s=-g:=am hn
 have sg:=ce hn
 have ab:b.natAbs=-b:=by lia
 rw[hs,sg,ab]
 refine⟨by lia,?_,?_⟩
 rw[hc,show g*c=(-g)*(-c)by rw[zt],bv _<|by lia,show-1*(-g* -c)=g*(-c)by rw[zt,pT,MT],lE _ Xg]
 rw[hd,show-(g*d)=g*(-d)by rw[pT],lE _ Xg,show g*d=(-g)*(-d)by rw[zt],bv _<|by lia]
 have hs:s=g:=ap hn
 have sg:b.sign=1:=dF<|by lia
 have ab:b.natAbs=b:=by lia
 rw[hs,sg,ab,cY]
 refine⟨Xg,?_,?_⟩
 rw[hc,bv _ Xg,lE _ Xg]
 rw[hd,bv _ Xg,lE _ Xg]
def jN(ds:bX)(d:D):Prop:=∃a b:Int,ds=[.int a,.int b]/\b≠0/\d=bZ (Rat.divInt a b)
def BX:∀ds d,jN ds d->ds.length=2:=by rintro _ _ ⟨a,b,rfl,_⟩;rfl
def FM(ds:bX)(d:D):Prop:=∃(p q:Rat)(k:Nat),ds=[bZ p,bZ q]/\fb k p/\fb k q/\k<=1000000/\d=bZ (p+q)
def CF(ds:bX)(d:D):Prop:=∃(p q:Rat)(k:Nat),ds=[bZ p,bZ q]/\fb k p/\fb k q/\k<=1000000/\d=bZ (p-q)
def CC(ds:bX)(d:D):Prop:=∃(p q:Rat)(k:Nat),ds=[bZ p,bZ q]/\fb k p/\fb k q/\k<=1000000/\d=bZ (p*q)
def JQ:∀ds d,FM ds d->ds.length=2:=by rintro _ _ ⟨p,q,k,rfl,_⟩;rfl
def Hw:∀ds d,CF ds d->ds.length=2:=by rintro _ _ ⟨p,q,k,rfl,_⟩;rfl
def Hu:∀ds d,CC ds d->ds.length=2:=by rintro _ _ ⟨p,q,k,rfl,_⟩;rfl
def rQ(ds:bX)(d:D):Prop:=∃(p q:Rat)(k:Nat),ds=[bZ p,bZ q]/\fb k p/\fb k q/\k<=1000000/\d=.bl (decide<|p<q)
def Hx:∀ds d,rQ ds d->ds.length=2:=by rintro _ _ ⟨p,q,k,rfl,_⟩;rfl
def pC(ds:bX)(d:D):Prop:=∃a b:Int,ds=[.int a,.int b]/\b≠0/\d=bZ (Rat.divInt a b)
def B1:∀ds d,pC ds d->ds.length=2:=by rintro _ _ ⟨a,b,rfl,_⟩;rfl
def va(a:Int)(n:Nat):mkRat a n=Rat.divInt a (n:Int):=(Rat.divInt_ofNat a n).symm
def El(p q:Rat):Rat.divInt (p.num*q.den+q.num*p.den) ((p.den:Int)*q.den)=p+q:=by rw[Rat.add_def',va];congr 1
def IT(p q:Rat):Rat.divInt (p.num*q.den-q.num*p.den) ((p.den:Int)*q.den)=p-q:=by rw[Rat.sub_def',va];congr 1
def Dx(p q:Rat):Rat.divInt (p.num*q.num) ((p.den:Int)*q.den)=p*q:=by rw[Rat.mul_def',va];congr 1
def iM(p:Rat):(p.den:Int)≠0:=by have:=p.den_nz;lia
def UP(p:Rat):tZ ([p.num,(p.den:Int)].map D.int) 0=some (.int p.num):=rfl
def tz(p:Rat):tZ ([p.num,(p.den:Int)].map D.int) 1=some (.int (p.den:Int)):=rfl
def vc{b:Int}(hb:b≠0):(Rat.divInt a b).num.natAbs<=a.natAbs/\(Rat.divInt a b).den<=b.natAbs:=by constructor;rw[Rat.num_divInt];refine bL (Int.natAbs_ediv_le_natAbs _ _) ?_;rw[cZ,HG (a:=a) hb];split<;>simp;rw[Rat.den_divInt,ap hb];exact Nat.div_le_self _ _
def xY(k:Nat):0<2 ^ k:=gN<|by decide
def hG{x y:Nat}(hx:x<2 ^ a)(hy:y<2 ^ b):x*y<2 ^ (a+b):=by rw[jT];exact bz (eC x<|gQ hy)<|NC hx<|xY b
def A5{a b:Int}(hb:b≠0)(h1:a.natAbs<2 ^ k)(h2:b.natAbs<2 ^ k):fb k (Rat.divInt a b):=⟨bz (vc hb).1 h1,bz (vc hb).2 h2⟩
def O4{p q:Rat}(hp:fb a p)(hq:fb b q):fb (a+b+1) (p+q):=by rw[<-El];have e1:=hG hp.1 hq.2;have e2:=hG hq.1 hp.2;have e3:=hG hp.2 hq.2;rw[sy b a]at e2;refine A5 (bo (iM p)<|iM q) ?_ ?_;refine bz (Int.natAbs_add_le _ _) ?_;rw[cZ,cZ,aB,aB];lia;rw[cZ,aB,aB];lia
def O2{p:Rat}(hp:fb a p):fb a (-p):=⟨by rw[Rat.neg_num,CJ];exact hp.1,hp.2⟩
def Kb{p q:Rat}(hp:fb a p)(hq:fb b q):fb (a+b+1) (p-q):=by rw[Rat.sub_eq_add_neg];exact O4 hp<|O2 hq
def O3{p q:Rat}(hp:fb a p)(hq:fb b q):fb (a+b) (p*q):=by rw[<-Dx];refine A5 (bo (iM p)<|iM q) ?_ ?_;rw[cZ];exact hG hp.1 hq.1;rw[cZ,aB,aB];exact hG hp.2 hq.2
def QQ{p q:Rat}:([p.num,(p.den:Int)]=[q.num,(q.den:Int)])↔p=q:=by
 constructor;intro h;have h1:p.num=q.num:=by injection h
 have h2:(p.den:Int)=q.den:=by injection h with _ h;injection h
 exact Rat.ext h1 (by lia);rintro rfl;rfl
def O9(p q:Rat):(ke<|bZ p).eqv (ke<|bZ q)=decide (p=q):=by unfold bZ;rw[mZ];exact cw.mpr QQ
def Kp(x y:Bool):(PyData.bool x).eqv (.bool y)=decide (x=y):=by cases x<;>cases y<;>rfl
section
variable {X:Cx}
def Ko(t:At X N sc){p q:Rat}(ha:Tz X U a (bZ p))(hb:Tz X U b (bZ q)):TC X U (.Compare a [.Eq] [b] pos) (decide<|p=q):=tq t (Tz.p ha) (Tz.p hb) (dH _) (dH _)<|by rw[O9]
end
section
variable {X:Cx}
def FD(h:c7 P w K mg base k tK ou X)(c1:Callee X "common_divisor" eM):Go X tK ou jN:=by
 rintro ds d ⟨a,b,rfl,hb,rfl⟩;have t:=h.at';haveI:=h.T6;obtain⟨h0,h1,h2⟩:=yy (a:=a) hb;show TB X [.val<|.int a,.val<|.int b,.un] _ _;refine ao (c9 (TC.eq (c6 (aa t 1) af)<|ah hb) bM) ?_;refine ao (bC t 2<|au t c1 (ac (aa t 0)<|ac (aa t 1) ai) ⟨a,b,rfl,rfl⟩) ?_;refine ao (TW:=[.val<|.int a,.val<|.int b,.val<|.int (if b<0 then-((Nat.gcd a.natAbs b.natAbs:Nat):Int)else((Nat.gcd a.natAbs b.natAbs:Nat):Int))]) ?_ ?_
 ·by_cases hn:b<0;·refine eV (TC.eq (iC (aa t 1) af)<|av hn)<|TB.eq (aA<|bC t 2<|dy<|aa t 2) ?_;rw[am hn];rfl
  ·refine c9 (TC.eq (iC (aa t 1) af)<|ah hn)<|TB.eq bM ?_;rw[ap hn];rfl
 ·refine aA<|aW<|Tz.eq (bw<|ac (tj t (aa t 0) (aa t 2) h0)<|ac (tj t (aa t 1) (aa t 2) h0) ai) ?_;rw[h1,h2];rfl
def Pm(h:c7 P w K mg base k FL Bt X)(c1:Callee X "fraction" jN):Go X FL Bt FM:=by rintro ds d ⟨p,q,n,rfl,hp,hq,hn,rfl⟩;have t:=h.at';show TB X [.val<|bZ p,.val<|bZ q] _ _;refine aA<|aW<|au t c1 (ac (cp (bc (aF (Tz.qt<|aa t 0) af<|UP p) (aF (Tz.qt<|aa t 1) af<|tz q)<|dz hn hp.1<|by rw[aB];exact hq.2)<|bc (aF (Tz.qt<|aa t 1) af<|UP q) (aF (Tz.qt<|aa t 0) af<|tz p)<|dz hn hq.1<|by rw[aB];exact hp.2)<|ac (bc (aF (Tz.qt<|aa t 0) af<|tz p) (aF (Tz.qt<|aa t 1) af<|tz q)<|dz hn (by rw[aB];exact hp.2)<|by rw[aB];exact hq.2) ai) ⟨_,_,rfl,bo (iM p)<|iM q,by rw[El]⟩
def MC(h:c7 P w K mg base k CA wZ X)(c1:Callee X "fraction" jN):Go X CA wZ CF:=by rintro ds d ⟨p,q,n,rfl,hp,hq,hn,rfl⟩;have t:=h.at';show TB X [.val<|bZ p,.val<|bZ q] _ _;refine aA<|aW<|au t c1 (ac (dD (bc (aF (Tz.qt<|aa t 0) af<|UP p) (aF (Tz.qt<|aa t 1) af<|tz q)<|dz hn hp.1<|by rw[aB];exact hq.2)<|bc (aF (Tz.qt<|aa t 1) af<|UP q) (aF (Tz.qt<|aa t 0) af<|tz p)<|dz hn hq.1<|by rw[aB];exact hp.2)<|ac (bc (aF (Tz.qt<|aa t 0) af<|tz p) (aF (Tz.qt<|aa t 1) af<|tz q)<|dz hn (by rw[aB];exact hp.2)<|by rw[aB];exact hq.2) ai) ⟨_,_,rfl,bo (iM p)<|iM q,by rw[IT]⟩
def MA(h:c7 P w K mg base k Cy wX X)(c1:Callee X "fraction" jN):Go X Cy wX CC:=by rintro ds d ⟨p,q,n,rfl,hp,hq,hn,rfl⟩;have t:=h.at';show TB X [.val<|bZ p,.val<|bZ q] _ _;refine aA<|aW<|au t c1 (ac (bc (aF (Tz.qt<|aa t 0) af<|UP p) (aF (Tz.qt<|aa t 1) af<|UP q)<|dz hn hp.1 hq.1)<|ac (bc (aF (Tz.qt<|aa t 0) af<|tz p) (aF (Tz.qt<|aa t 1) af<|tz q)<|dz hn (by rw[aB];exact hp.2)<|by rw[aB];exact hq.2) ai) ⟨_,_,rfl,bo (iM p)<|iM q,by rw[Dx]⟩
def MD(h:c7 P w K mg base k CB w5 X):Go X CB w5 rQ:=by rintro ds d ⟨p,q,n,rfl,hp,hq,hn,rfl⟩;have t:=h.at';show TB X [.val<|bZ p,.val<|bZ q] _ _;refine aA<|aW<|Tz.eq (GJ (bc (aF (Tz.qt<|aa t 0) af<|UP p) (aF (Tz.qt<|aa t 1) af<|tz q)<|dz hn hp.1<|by rw[aB];exact hq.2)<|bc (aF (Tz.qt<|aa t 1) af<|UP q) (aF (Tz.qt<|aa t 0) af<|tz p)<|dz hn hq.1<|by rw[aB];exact hp.2) ?_;congr 1;exact cw.mpr (Rat.lt_iff p q).symm
def FG(h:c7 P w K mg base k tN oz X)(US:mg "abs"=none):Go X tN oz pC:=by
 rintro ds d ⟨a,b,rfl,hb,rfl⟩;have t:=h.at';haveI:=h.T6;have bl:=h.bt US;obtain⟨h0,h1,h2⟩:=yy (a:=a) hb;show TB X [.val<|.int a,.val<|.int b,.un,.un] _ _;refine ao (qj t 2 3 (tm t bl<|aa t 0) (tm t bl<|aa t 1)<|by decide) ?_;refine ao (gs t<|yx (λx y=>[.val<|.int a,.val<|.int b,.val<|.int (x:Int),.val<|.int (y:Int)]) (λx y=>?_) (λx y hy=>?_) _ a.natAbs b.natAbs<|aq _) ?_
 ·refine TC.eq (qB (aa t 3) af) ?_;by_cases hy:y=0;·subst hy;rfl
  ·rw[av<|by lia];simp;lia
 ·exact aA<|qj t 2 3 (aa t 3) (Tz.eq (bN (i:=(x:Int)) (j:=(y:Int)) (aa t 2) (aa t 3)<|by lia) rfl)<|by decide
 refine ao (TW:=[.val<|.int a,.val<|.int b,.val<|.int (if b<0 then-((Nat.gcd a.natAbs b.natAbs:Nat):Int)else((Nat.gcd a.natAbs b.natAbs:Nat):Int)),.val<|.int 0]) ?_ ?_
 ·by_cases hn:b<0;·refine eV (TC.eq (iC (aa t 1) af)<|av hn)<|TB.eq (aA<|bC t 2<|dD af<|aa t 2) ?_;rw[am hn,zn];rfl
  ·refine c9 (TC.eq (iC (aa t 1) af)<|ah hn)<|TB.eq bM ?_;rw[ap hn];rfl
 ·refine aA<|aW<|Tz.eq (bw<|ac (tj t (aa t 0) (aa t 2) h0)<|ac (tj t (aa t 1) (aa t 2) h0) ai) ?_;rw[h1,h2];rfl
end
def eh(g:aG)(n:Nat)(S:Nat->Int):Nat->Int:=λi=>S i*ak g*ak g-(if n+1-g.length<=i then S n*ak g*g.getD (i-(n+1-g.length)) 0 else 0)
def cu(g:aG):Nat->(Nat->Int)->Nat->Int|0,S=>S|n+1,S=>if n+1<g.length then S else cu g n<|eh g n S
def Eo(g:aG)(a:Int):Int:=((ak g).natAbs:Int).fdiv ((Nat.gcd a.natAbs (ak g).natAbs:Nat):Int)
def Et(g:aG)(a:Int):Int:=((ak g).sign*a).fdiv ((Nat.gcd a.natAbs (ak g).natAbs:Nat):Int)
def t5(g:aG)(n:Nat)(S:Nat->Int):Nat->Int:=λi=>Eo g (S n)*S i-(if n+1-g.length<=i then Et g (S n)*g.getD (i-(n+1-g.length)) 0 else 0)
def Fi(g:aG):Nat->(Nat->Int)->Nat->Int|0,S=>S|n+1,S=>if n+1<g.length then S else Fi g n<|t5 g n S
theorem IF{g:aG}(hl:ak g≠0)(a:Int):∃c:Int,0<c/\ak g*ak g=c*Eo g a/\a*ak g=c*Et g a:=by
 have hh:0<Nat.gcd a.natAbs (ak g).natAbs:=lD _<|by lia
 let⟨u,hu⟩:=fc a.natAbs (ak g).natAbs
 let⟨v,hv⟩:=eR a.natAbs (ak g).natAbs
 unfold Eo Et
 generalize Nat.gcd a.natAbs (ak g).natAbs=h at hh hu hv
 generalize ak g=l at hl hu
 have e1:(l.natAbs:Int).fdiv h=u:=by
  rw[hu,dR,bv _<|by lia]
 have e2:(l.sign*a).fdiv h=l.sign*(a.sign*v):=by
  have e:a=a.sign*(h*v):=by
   rw[<-dR,<-hv];exact(rS a).symm
  have:l.sign*a=h*(l.sign*(a.sign*v)):=by
   conv=>lhs;rw[e]
   grind
  rw[this,bv _<|by lia]
 rw[e1,e2]
 have el:l=l.sign*(h*u):=by
  rw[<-dR,<-hu];exact(rS l).symm
 have ea:a=a.sign*(h*v):=by
  rw[<-dR,<-hv];exact(rS a).symm
 have es:l.sign*l.sign=1:=by
  rcases FS hl with z |z
  rw[ce z];rfl
  rw[dF z];rfl
 have hu0:0<u:=by
  rcases FP u with z |z
  subst z;lia
  exact z
 refine⟨h*(h*u),uP (by lia)<|uP (by lia)<|by lia,?_,?_⟩
 generalize hs:l.sign=s at el es
 rw[el]
 calc s*(h*u)*(s*(h*u))=(s*s)*((h*u)*(h*u)):=by grind
  _=_:=by rw[es];grind
 generalize hs:l.sign=s at el es
 generalize ht:a.sign=r at ea
 rw[el,ea];grind
def IU{g:aG}(hl:ak g≠0)(n:Nat)(S:Nat->Int):∃c:Int,0<c/\∀i,eh g n S i=c*t5 g n S i:=by let⟨c,hc,e1,e2⟩:=IF hl<|S n;refine⟨c,hc,λi=>?_⟩;unfold eh t5;rw[gd,e1];split;rw[e2];grind;grind
def NF{g:aG}(hl:ak g≠0)(a:Int):Eo g a*a-Et g a*ak g=0:=by
 let⟨c,hc,e1,e2⟩:=IF hl a;have:c*(Eo g a*a-Et g a*ak g)=0:=by
  have h1:c*(Eo g a*a)=a*ak g*ak g:=by rw[<-gd,<-e1];grind
  have h2:c*(Et g a*ak g)=a*ak g*ak g:=by rw[<-gd,<-e2]
  rw[Int.mul_sub,h1,h2];lia
 rcases iW.mp this with z |z;lia;exact z
theorem fq(g:aG)(c:Int):∀(n:Nat)(S:Nat->Int),cu g n (λi=>c*S i)=λi=>c*cu g n S i
 |0,S=>rfl|n+1,S=>by show(if n+1<g.length then _ else cu g n (eh g n λi=>c*S i))=λi=>c*(if n+1<g.length then S else cu g n<|eh g n S) i;split;rfl;rw[<-fq g c n];congr 1;funext i;unfold eh;split<;>grind
theorem DM(g:aG):∀(n:Nat)(S T:Nat->Int),cu g n (λi=>S i+T i)=λi=>cu g n S i+cu g n T i
 |0,S,T=>rfl|n+1,S,T=>by show(if n+1<g.length then _ else cu g n (eh g n λi=>S i+T i))=λi=>(if n+1<g.length then S else cu g n<|eh g n S) i+(if n+1<g.length then T else cu g n<|eh g n T) i;split;rfl;rw[<-DM g n];congr 1;funext i;unfold eh;split<;>grind
def Hy(g:aG)(n:Nat):cu g n (λ_=>0)=λ_=>0:=by have:=fq g 0 n λ_=>0;simpa using this
theorem DL{g:aG}(hl:ak g≠0):∀(n:Nat)(S:Nat->Int),∃c:Int,0<c/\∀i,cu g n S i=c*Fi g n S i|0,S=>⟨1,by decide,λi=>(cY _).symm⟩|n+1,S=>by by_cases h:n+1<g.length;refine⟨1,by decide,λi=>?_⟩;unfold cu Fi;rw[am h,am h];exact(cY _).symm;let⟨c,hc,e⟩:=IU hl n S;let⟨c',Vp,e'⟩:=DL hl n<|t5 g n S;refine⟨c*c',uP hc Vp,λi=>?_⟩;unfold cu Fi;rw[ap h,ap h,show eh g n S=λi=>c*t5 g n S i from funext e,fq];show c*cu g n (t5 g n S) i=_;rw[e' i,gd]
theorem A1{g:aG}{n:Nat}(hl:ak g≠0){F:Nat->Int}(hF:∀i,n<=i->F i=0):∀k,∃c:Int,0<c/\∀i,cu g (n+k) F i=c*cu g n F i
 |0=>⟨1,by decide,λi=>(cY _).symm⟩
 |k+1=>by
  let⟨c,hc,e⟩:=A1 hl hF k;by_cases h:n+k+1<g.length;refine⟨1,by decide,λi=>?_⟩;have e1:cu g (n+(k+1)) F=F:=by show(if n+k+1<g.length then F else _)=F;rw[am h]
  have e2:cu g n F=F:=by cases n with|zero=>rfl|succ n=>show(if n+1<g.length then F else _)=F;rw[am<|by lia]
  rw[e1,e2,cY];refine⟨ak g*ak g*c,uP (by rcases FS hl with z |z;exact Int.mul_pos_of_neg_of_neg z z;exact uP z z) hc,λi=>?_⟩
  have e1:cu g (n+(k+1)) F=cu g (n+k) (eh g (n+k) F):=by show(if n+k+1<g.length then F else cu g (n+k)<|eh g (n+k) F)=_;rw[ap h]
  have e2:eh g (n+k) F=λi=>ak g*ak g*F i:=by funext i;unfold eh;rw[hF (n+k)<|by lia];split<;>grind
  rw[e1,e2,fq];show ak g*ak g*cu g (n+k) F i=_;rw[e i];grind
def bn{g:aG}{i:Nat}(h:g.length<=i):g.getD i 0=0:=by rw[ag,bQ h];rfl
def bW{g:aG}(h:g≠[]):g.getD (g.length-1) 0=ak g:=by rcases bR g with e |⟨ys,y,e⟩;exact absurd e h;subst e;simp[ak,ag]
theorem yp{g:aG}(hl:ak g≠0)(j:Nat):∀n,j+g.length<=n->cu g n (λi=>if j<=i then g.getD (i-j) 0 else 0)=λ_=>0
 |0,h=>by have hg:g=[]:=aw (by lia);subst hg;exact absurd rfl hl
 |n+1,h=>by
  have hg:g≠[]:=λz=>by subst z;exact hl rfl
  have hp:=az.mpr hg;have gl:=bW hg;show(if n+1<g.length then _ else cu g n<|eh g n _)=_;rw[ap<|by lia];by_cases e:n+1=j+g.length;have:eh g n (λi=>if j<=i then g.getD (i-j) 0 else 0)=λ_=>0:=by
   funext i;unfold eh;have e1:n+1-g.length=j:=by lia
   simp only[];rw[e1,am (show j<=n by lia),show n-j=g.length-1 by lia,gl];split<;>grind
  rw[this,Hy];have:eh g n (λi=>if j<=i then g.getD (i-j) 0 else 0)=λi=>ak g*ak g*(if j<=i then g.getD (i-j) 0 else 0):=by funext i;unfold eh;simp only[];rw[am (show j<=n by lia),bn (i:=n-j)<|by lia];split<;>grind
  rw[this,fq,yp hl j n<|by lia];funext i;grind
def mU(g:aG)(φ:Nat->Int)(p:Nat):Nat->Int|0=>0|i+1=>mU g φ p i+g.getD i 0*(if i<=p then φ (p-i)else 0)
theorem xb(g:aG)(φ ψ:Nat->Int)(p:Nat):∀i,mU g (λk=>φ k+ψ k) p i=mU g φ p i+mU g ψ p i|0=>rfl|i+1=>by show mU g _ p i+_=(mU g φ p i+_)+(mU g ψ p i+_);rw[xb g φ ψ p i];split<;>grind
def lY(g:aG)(c:Int)(φ:Nat->Int)(p:Nat):∀i,mU g (λk=>c*φ k) p i=c*mU g φ p i|0=>(bV c).symm|i+1=>by show mU g _ p i+_=c*(mU g φ p i+_);rw[lY g c φ p i];split<;>grind
theorem rz(g:aG)(j p:Nat):∀i,mU g (λk=>if k=j then 1 else 0) p i=if j<=p/\p-j<i then g.getD (p-j) 0 else 0
 |0=>by rw[ap<|by lia];rfl
 |i+1=>by
  show mU g _ p i+g.getD i 0*(if i<=p then(if p-i=j then 1 else 0)else 0)=_;rw[rz g j p i];by_cases h:i<=p/\p-i=j;rw[ap<|by lia,am<|by lia,am<|by lia,am<|by lia,show p-j=i by lia];grind;have e:(if i<=p then(if p-i=j then(1:Int)else 0)else 0)=0:=by split;rw[ap<|by lia];rfl
  rw[e];by_cases h2:j<=p/\p-j<i;rw[am h2,am<|by lia];grind;rw[ap h2,ap<|by lia];grind
def C6(xs:aG)(j:Nat)(v:Int)(p:Nat):(xs.set j v).getD p 0=if p=j/\j<xs.length then v else xs.getD p 0:=by rw[ag,uO,ag];by_cases h:j=p;subst h;by_cases h2:j<xs.length;rw[am rfl,am h2,am ⟨rfl,h2⟩];rfl;rw[am rfl,ap h2,ap<|by lia,bQ<|by lia];rw[ap h,ap<|by lia]
theorem B3(f h:aG)(i:Nat)(acc:aG):∀(p j:Nat),i+j<=acc.length->(Ix f h i acc j).getD p 0=acc.getD p 0+(if i<=p/\p-i<j then f.getD i 0*h.getD (p-i) 0 else 0)|p,0,_=>by rw[ap<|by lia,sB];rfl|p,j+1,hj=>by show((Ix f h i acc j).set (i+j) _).getD p 0=_;rw[C6,xj];by_cases e:p=i+j;subst e;rw[am ⟨rfl,by lia⟩,B3 f h i acc (i+j) j<|by lia,ap<|by lia,am<|by lia,show i+j-i=j by lia];grind;rw[ap<|by lia,B3 f h i acc p j<|by lia];by_cases z:i<=p/\p-i<j;rw[am z,am<|by lia];rw[ap z,ap<|by lia]
theorem Dr(f h:aG)(p:Nat):∀i,i<=f.length->(rW f h i).getD p 0=mU f (λk=>h.getD k 0) p i|0,_=>by show(List.replicate _ 0).getD p 0=0;rw[ag,eU];split<;>rfl|i+1,hi=>by show(Ix f h i (rW f h i) h.length).getD p 0=mU f _ p i+f.getD i 0*(if i<=p then h.getD (p-i) 0 else 0);rw[B3 f h i _ p h.length<|by rw[qk];lia,Dr f h p i<|by lia];by_cases z:i<=p;rw[am z];by_cases z2:p-i<h.length;rw[am ⟨z,z2⟩];rw[ap<|by lia,bn (i:=p-i)<|by lia];grind;rw[ap z,ap<|by lia];grind
def lG(xs:aG)(i:Nat):(c8 xs).getD i 0=xs.getD i 0:=by
 have key:∀ys:aG,∀i,(ys.dropWhile (·==0)).reverse.getD i 0=ys.reverse.getD i 0:=by
  intro ys;induction ys with
  |nil=>intro i;rfl
  |cons y ys ih=>
   intro i;by_cases hy:y=0;subst hy;have:(0::ys).dropWhile (·==0)=ys.dropWhile (·==0):=by simp[List.dropWhile]
   rw[this,ih i,nE];rw[ag,ag];by_cases hi:i<ys.reverse.length;rw[bj hi];rw[aX<|by lia,bQ<|by lia];cases z:i-ys.reverse.length with|zero=>rfl|succ n=>rfl
   have:(y::ys).dropWhile (·==0)=y::ys:=by rw[List.dropWhile_cons_of_neg<|by simpa using hy]
   rw[this]
 have:=key xs.reverse i;rw[Th]at this;exact this
def uR(f h:aG)(p:Nat):(a8 f h).getD p 0=mU f (λk=>h.getD k 0) p f.length:=by unfold a8;rw[lG,Dr f h p f.length<|aq _]
def Jh{g:aG}(hf:aY f)(h:∀i,f.getD i 0=g.getD i 0):f.length<=g.length:=by rcases hf with e |⟨ys,a,e,ha⟩;subst e;exact cQ _;rcases fy g.length f.length with z |z;have h1:=h ys.length;subst e;rw[bn (g:=g)<|by simp at z;lia]at h1;rw[ag,aX<|aq _,gc]at h1;exact absurd h1 ha;exact z
def oA(hf:aY f)(hg:aY g)(h:∀i,f.getD i 0=g.getD i 0):f=g:=by have h1:=Jh hf h;have h2:=Jh hg λi=>(h i).symm;refine wQ (by lia) λi h3 h4=>?_;have:=h i;rw[mW h3,mW h4]at this;exact this
def fT(xs:aG):aY (c8 xs):=K1 xs
def jb{φ:Int->Int}(h0:φ 0=0)(f:aG)(i:Nat):(f.map φ).getD i 0=φ (f.getD i 0):=by rw[ag,aH,ag];cases f[i]? with|none=>exact h0.symm|some x=>rfl
def Bs{c:Int}(h:aY f)(hc:c≠0):aY (f.map λx=>c*x):=by rcases h with e |⟨ys,a,e,ha⟩;left;subst e;rfl;right;subst e;exact⟨ys.map λx=>c*x,c*a,by rw[bO];rfl,bo hc ha⟩
def J9{c:Int}(hc:0<c)(f:aG):(gl (f.map λx=>c*x):Int)=c*(gl f:Int):=by
 have key:∀(f:aG)a,((f.map λx=>c*x).foldl (λg x=>Nat.gcd g x.natAbs)<|c.natAbs*a)=c.natAbs*f.foldl (λg x=>Nat.gcd g x.natAbs) a:=by intro f;induction f with|nil=>intro a;rfl|cons x f ih=>intro a;simp;rw[cZ,Nat.gcd_mul_left,ih]
 have:=key f 0;rw[Nat.mul_zero]at this;unfold gl;rw[this,dR];have:c.natAbs=c:=by lia
 rw[this]
def A0{c:Int}(hc:0<c)(f:aG):gz (f.map λx=>c*x)=gz f:=by unfold gz;rw[cX,J9 hc];refine fP λx _=>?_;exact Int.mul_fdiv_mul_of_pos x (gl f:Int) hc
def nG(g:aG)(s:Nat)(dn:Int)(r:aG):Nat->aG|0=>r|i+1=>(nG g s dn r i).set (s+i)<|(nG g s dn r i).getD (s+i) 0-dn*g.getD i 0
def lI(g:aG)(s:Nat)(dn:Int)(r:aG):∀i,(nG g s dn r i).length=r.length|0=>rfl|i+1=>by rw[nG,cy,lI]
theorem uU(g:aG)(s:Nat)(dn:Int)(r:aG):∀(p i:Nat),s+i<=r.length->(nG g s dn r i).getD p 0=r.getD p 0-(if s<=p/\p-s<i then dn*g.getD (p-s) 0 else 0)|p,0,_=>by rw[ap<|by lia,Int.sub_zero];rfl|p,i+1,h=>by show((nG g s dn r i).set (s+i) _).getD p 0=_;rw[C6,lI];by_cases e:p=s+i;subst e;rw[am ⟨rfl,by lia⟩,uU g s dn r (s+i) i<|by lia,ap<|by lia,am<|by lia,show s+i-s=i by lia];lia;rw[ap<|by lia,uU g s dn r p i<|by lia];by_cases z:s<=p/\p-s<i;rw[am z,am<|by lia];rw[ap z,ap<|by lia]
def gj(g r:aG):aG:=(nG g (r.length-g.length) (Et g<|ak r) (r.map λx=>Eo g (ak r)*x) g.length).dropLast
def lw(g:aG):Nat->aG->aG|0,r=>r|n+1,r=>if n+1<g.length then r else lw g n<|gj g r
def Dk(g:aG):Nat->aG->aG->aG|0,q,_=>q|n+1,q,r=>if n+1<g.length then q else Dk g n (Et g (ak r)::q.map λx=>Eo g (ak r)*x)<|gj g r
def jB(g r:aG):(gj g r).length=r.length-1:=by unfold gj;rw[gR,lI,ae]
def Ag(xs:aG)(p:Nat):xs.dropLast.getD p 0=if p<xs.length-1 then xs.getD p 0 else 0:=by rw[ag,List.getElem?_dropLast,ag];split<;>rfl
def lu{g:aG}(hl:ak g≠0):g≠[]:=λz=>by subst z;exact hl rfl
theorem xC{g r:aG}{n:Nat}(hl:ak g≠0)(hr:r.length=n+1)(hg:g.length<=n+1):(λp=>(gj g r).getD p 0)=t5 g n λp=>r.getD p 0:=by
 funext p;have hp:=az.mpr<|lu hl;have XX:r≠[]:=λz=>by subst z;simp at hr
 have e1:r.getD n 0=ak r:=by have:=bW XX;rwa[hr]at this
 unfold gj t5;simp only[];rw[Ag,lI,ae,hr,uU _ _ _ _ _ _<|by rw[ae];lia,jb<|bV _,e1];rcases gO p n with z |z |z;rw[am<|by lia];by_cases y:n+1-g.length<=p;rw[am ⟨y,by lia⟩,am y];rw[ap<|by lia,ap y];subst z;rw[ap<|by lia,am<|by lia,show p-(p+1-g.length)=g.length-1 by lia,bW<|lu hl,e1];exact(NF hl _).symm;rw[ap<|by lia,am<|by lia,bn<|by lia,bn<|by lia];grind
theorem D3{g:aG}(hl:ak g≠0):∀(n:Nat)(r:aG),r.length=n->(λp=>(lw g n r).getD p 0)=Fi g n λp=>r.getD p 0
 |0,r,_=>rfl|n+1,r,hr=>by unfold lw Fi;by_cases h:n+1<g.length;rw[am h,am h];rw[ap h,ap h,D3 hl n (gj g r)<|by rw[jB];lia,xC hl hr<|by lia]
def yW(g:aG):∀(n:Nat)(r:aG),r.length=n->(lw g n r).length<=n|0,r,h=>by rw[lw];lia|n+1,r,h=>by unfold lw;split;lia;have:=yW g n (gj g r) (by rw[jB];lia);lia
theorem Dj(g:aG):∀(n:Nat)(q r:aG),(Dk g n q r).length<=n+q.length|0,q,r=>by rw[Dk];lia|n+1,q,r=>by unfold Dk;split;lia;have:=Dj g n (Et g (ak r)::q.map λx=>Eo g (ak r)*x)<|gj g r;simp at this;lia
def eI(f g:aG):aG:=gz<|c8<|lw g f.length f
def cv(g:aG)(φ:Nat->Int)(m p:Nat):Int:=mU g (λk=>if k<m then φ k else 0) p g.length
def xo(g:aG)(φ:Nat->Int)(p:Nat):cv g φ 0 p=0:=by
 unfold cv;have h:=lY g 0 (λ_=>0) p g.length;have e:(λk=>if k<0 then φ k else 0)=λk=>0*(λ_=>0) k:=by funext k;rw[ap<|by lia];rfl
 rw[e,h];grind
def xq(g:aG)(φ:Nat->Int)(m p:Nat):cv g φ (m+1) p=cv g φ m p+φ m*(if m<=p then g.getD (p-m) 0 else 0):=by
 unfold cv;have e1:(λk=>if k<m+1 then φ k else 0)=λk=>(if k<m then φ k else 0)+φ m*(if k=m then 1 else 0):=by funext k;by_cases z:k<m;rw[am z,am<|by lia,ap<|by lia];grind;by_cases z2:k=m;subst z2;rw[am<|by lia,ap<|by lia,am rfl];grind;rw[ap z,ap<|by lia,ap z2];grind
 rw[e1,xb,lY,rz];by_cases z:m<=p;rw[am z];by_cases z2:p-m<g.length;rw[am ⟨z,z2⟩];rw[ap<|by lia,bn<|by lia];rw[ap z,ap<|by lia]
theorem Ku(g:aG)(φ:Nat->Int)(p:Nat):∀m,m+g.length<=p+1->cv g φ m p=0|0,_=>xo g φ p|m+1,h=>by rw[xq,Ku g φ p m<|by lia,bn<|by lia];split<;>grind
def GU(f g:aG)(p:Nat):∀m,cv g (λk=>f.getD k 0) m p=mU f (λk=>g.getD k 0) p m|0=>xo g _ p|m+1=>by rw[xq,GU f g p m];rfl
def CW(f g:aG)(p:Nat):(a8 f g).getD p 0=cv g (λk=>f.getD k 0) f.length p:=by rw[uR,GU]
def xy(f g:aG):a8 f g=a8 g f:=by refine oA (fT _) (fT _) λi=>?_;rw[CW f g,uR g f];unfold cv;congr 1;funext k;by_cases z:k<f.length;rw[am z];rw[ap z,bn<|by lia]
def HN{g r:aG}{n:Nat}(h:n<g.length):lw g n r=r:=by cases n with|zero=>rfl|succ n=>unfold lw;rw[am h]
def T2(F G:Nat->Int):Prop:=∃a b:Int,a≠0/\b≠0/\∀i,a*F i=b*G i
abbrev co(f:aG):Nat->Int:=λi=>f.getD i 0
def T2.refl(F:Nat->Int):T2 F F:=⟨1,1,by decide,by decide,λ_=>rfl⟩
def T2.symm{F G:Nat->Int}(h:T2 F G):T2 G F:=by let⟨a,b,ha,hb,e⟩:=h;exact⟨b,a,hb,ha,λi=>(e i).symm⟩
def T2.trans{F G H:Nat->Int}(h:T2 F G)(k:T2 G H):T2 F H:=by
 let⟨a,b,ha,hb,e⟩:=h
 let⟨c,d,hc,hd,e'⟩:=k
 refine⟨c*a,b*d,bo hc ha,bo hb hd,λi=>?_⟩
 have e1:=e i
 have e2:=e' i
 calc c*a*F i=c*(a*F i):=by grind
  _=c*(b*G i):=by rw[e1]
  _=b*(c*G i):=by grind
  _=b*(d*H i):=by rw[e2]
  _=b*d*H i:=by grind
def T2.scale{c:Int}{F G:Nat->Int}(hc:c≠0)(h:∀i,F i=c*G i):T2 F G:=⟨1,c,by decide,hc,λi=>by rw[h i,cY]⟩
def wU{a b:Int}(hf:aY f)(hg:aY g)(ha:a≠0)(hb:b≠0)(h:∀i,a*f.getD i 0=b*g.getD i 0):(f.map λx=>a*x)=g.map λx=>b*x:=oA (Bs hf ha) (Bs hg hb) λi=>by rw[jb<|bV a,jb<|bV b,h i]
def t6(hf:aY f)(hg:aY g)(h:T2 (co f) (co g)):f.length=g.length:=by let⟨a,b,ha,hb,e⟩:=h;have:=bi List.length<|wU hf hg ha hb e;simpa using this
def LW{f:aG}:gz (f.map λx=>-x)=(gz f).map λx=>-x:=by
 have e:gl (f.map λx=>-x)=gl f:=by unfold gl;rw[List.foldl_map];congr 1;funext g x;rw[CJ]
 unfold gz;rw[e,cX,cX];refine fP λx hx=>?_;show(-x).fdiv (gl f:Int)=-(x.fdiv (gl f:Int));have hd:(gl f:Int) ∣ x:=by
  have key:∀(f:aG)a,(f.foldl (λg x=>Nat.gcd g x.natAbs) a ∣ a)/\∀x∈f,f.foldl (λg x=>Nat.gcd g x.natAbs) a ∣ x.natAbs:=by intro f;induction f with|nil=>intro a;exact⟨Il a,λx hx=>by cases hx⟩|cons y f ih=>intro a;let⟨h1,h2⟩:=ih<|Nat.gcd a y.natAbs;refine⟨iY h1<|eR _ _,λx hx=>?_⟩;rcases aO.mp hx with rfl |hx;exact iY h1<|fc _ _;exact h2 x hx
  exact dP.mpr<|(key f 0).2 x hx
 let⟨k,hk⟩:=hd;by_cases h0:(gl f:Int)=0;rw[hk,h0,zo];rfl;rw[hk,bv _ h0,show-((gl f:Int)*k)=(gl f:Int)*(-k)by grind,bv _ h0]
def lN(f:aG)(φ:Int->Int)(h0:φ 0=0):ak (f.map φ)=φ (ak f):=by rcases bR f with e |⟨ys,y,e⟩;subst e;exact h0.symm;rw[dj]at e;subst e;simp[ak]
def yb(h:aY f)(Uy:f≠[]):ak (gz f)≠0:=by
 rcases h with e |⟨ys,a,e,ha⟩;exact absurd e Uy;subst e;have hd:((gl (ys++[a]):Nat):Int) ∣ a:=by rw[B4];exact dP.mpr<|fc _ _
 have hg:((gl (ys++[a]):Nat):Int)≠0:=by have:=m5 (.inr ⟨ys,a,rfl,ha⟩) (by simp);lia
 unfold gz;rw[bO];let⟨k,hk⟩:=hd;generalize((gl (ys++[a]):Nat):Int)=G at hk hg;have:ak (List.map (λx=>x.fdiv G) ys++List.map (λx=>x.fdiv G) [a])=a.fdiv G:=by simp[ak]
 rw[this,hk,bv _ hg];intro z;rw[z,bV]at hk;exact ha hk
def Hj(h:aY f):a9 (f.map λx=>-x)=a9 f:=by
 unfold a9;rw[LW,lN _ (λx=>-x)<|by rfl];by_cases Uy:f=[];subst Uy;rfl;have h0:=yb h Uy;by_cases z:ak (gz f)<0;rw[am z,ap<|by lia];rw[ap z,am<|by lia,cX];have:((λx:Int=>-x) ∘ λx:Int=>-x)=id:=by funext x;show- -x=x;lia
 rw[this,List.map_id]
def vX{c:Int}(h:aY f)(hc:c≠0):a9 (f.map λx=>c*x)=a9 f:=by
 rcases FS hc with z |z;have e:(f.map λx=>c*x)=(f.map λx=>-x).map λx=>(-c)*x:=by rw[cX];refine fP λx _=>?_;show c*x=-c* -x;grind
 rw[e];have:a9 ((f.map λx=>-x).map λx=>(-c)*x)=a9 (f.map λx=>-x):=by unfold a9;rw[A0<|by lia]
 rw[this,Hj h];unfold a9;rw[A0 z]
def lM(hf:aY f)(hg:aY g)(h:T2 (co f) (co g)):a9 f=a9 g:=by let⟨a,b,ha,hb,e⟩:=h;rw[<-vX hf ha,<-vX hg hb,wU hf hg ha hb e]
def JR(g:aG)(n:Nat){F G:Nat->Int}(h:T2 F G):T2 (cu g n F) (cu g n G):=by let⟨a,b,ha,hb,e⟩:=h;refine⟨a,b,ha,hb,λi=>?_⟩;have h1:=gx (fq g a n F) i;have h2:=gx (fq g b n G) i;rw[<-h1,<-h2,show(λi=>a*F i)=λi=>b*G i from funext e]
theorem oE{g:aG}{b:Int}(hb:b≠0):∀(n:Nat)(S:Nat->Int),∃c:Int,c≠0/\∀i,cu (g.map λx=>b*x) n S i=c*cu g n S i
 |0,S=>⟨1,by decide,λi=>(cY _).symm⟩
 |n+1,S=>by
  unfold cu;rw[ae];by_cases h:n+1<g.length;exact⟨1,by decide,λi=>by rw[am h,am h,cY]⟩;have e:eh (g.map λx=>b*x) n S=λi=>(b*b)*eh g n S i:=by funext i;unfold eh;rw[lN g (λx=>b*x)<|bV b,ae,jb<|bV b];split<;>grind
  obtain⟨c,hc,ec⟩:=oE hb n λi=>(b*b)*eh g n S i;refine⟨c*(b*b),bo hc<|bo hb hb,λi=>?_⟩;rw[ap h,ap h,e,ec i,fq];show c*(b*b*_)=_;grind
def yc(f:aG)(h:aY f):T2 (co f) (co<|gz f):=by
 by_cases Uy:f=[];subst Uy;exact T2.refl _;have hg:=m5 h Uy;refine T2.scale (c:=(gl f:Int)) (by lia) λi=>?_;show f.getD i 0=(gl f:Int)*(gz f).getD i 0;unfold gz;rw[jb<|by exact Int.zero_fdiv _];by_cases hi:i<f.length;have hx:f.getD i 0∈f:=by rw[mW hi];exact dX _
 have hd:(gl f:Int) ∣ f.getD i 0:=by
  have key:∀(f:aG)a,(f.foldl (λg x=>Nat.gcd g x.natAbs) a ∣ a)/\∀x∈f,f.foldl (λg x=>Nat.gcd g x.natAbs) a ∣ x.natAbs:=by intro f;induction f with|nil=>intro a;exact⟨Il a,λx hx=>by cases hx⟩|cons y f ih=>intro a;let⟨h1,h2⟩:=ih<|Nat.gcd a y.natAbs;refine⟨iY h1<|eR _ _,λx hx=>?_⟩;rcases aO.mp hx with rfl |hx;exact iY h1<|fc _ _;exact h2 x hx
  exact dP.mpr<|(key f 0).2 _ hx
 let⟨k,hk⟩:=hd;rw[hk,bv _<|by lia];rw[bn<|by lia,Int.zero_fdiv,bV]
def Gz(h:aY f):aY (gz f):=by by_cases Uy:f=[];subst Uy;exact .inl rfl;right;have h0:=yb h Uy;rcases bR (gz f)with e |⟨ys,y,e⟩;exfalso;apply Uy;apply aw;rw[<-nR,e];rfl;rw[dj]at e;refine⟨ys,y,e,?_⟩;rw[e]at h0;simpa[ak]using h0
def iJ(f g:aG):aY (eI f g):=Gz<|fT _
def uW{g:aG}(hl:ak g≠0):T2 (co<|eI f g) (cu g f.length<|co f):=by have h1:=(yc _<|fT<|lw g f.length f).symm;let⟨c,hc,e⟩:=DL hl f.length<|co f;refine h1.trans ?_;refine⟨c,1,by lia,by decide,λi=>?_⟩;show c*(c8<|lw g f.length f).getD i 0=_;rw[cY,e i,lG,show(lw g f.length f).getD i 0=Fi g f.length (λp=>f.getD p 0) i from gx (D3 hl _ f rfl) i]
def lK{g:aG}(hl:ak g≠0)(k:Nat):T2 (co<|eI f g) (cu g (f.length+k)<|co f):=by let⟨c,hc,e⟩:=A1 hl (n:=f.length) (λi hi=>bn hi) k;exact(uW hl).trans (T2.scale (by lia) e).symm
def yq{g:aG}{b:Int}:ak (g.map λx=>b*x)=b*ak g:=lN g (λx=>b*x)<|bV b
def IY(hf:aY f)(hg:aY g)(h:T2 (co f) (co g))(hl:ak f≠0):ak g≠0:=by let⟨a,b,ha,hb,e⟩:=h;have:=wU hf hg ha hb e;intro z;have h1:=bi ak this;rw[yq,yq,z,bV]at h1;exact bo ha hl h1
def Df(hf:T2 (co f) (co f'))(rg:aY g)(WO:aY g')(hg:T2 (co g) (co g'))(hl:ak g≠0):T2 (co<|eI f g) (co<|eI f' g'):=by have Wy:=IY rg WO hg hl;let⟨a,b,ha,hb,e⟩:=hg;have eg:=wU rg WO ha hb e;have s1:=lK (f:=f) hl f'.length;have s2:=lK (f:=f') Wy f.length;let⟨c1,h1,e1⟩:=oE (g:=g) ha (f.length+f'.length)<|co f;let⟨c2,h2,e2⟩:=oE (g:=g') hb (f.length+f'.length)<|co f;have m:T2 (cu g (f.length+f'.length)<|co f) (cu g' (f.length+f'.length)<|co f):=⟨c1,c2,h1,h2,λi=>by rw[<-e1 i,<-e2 i,eg]⟩;rw[sy]at s2;exact s1.trans<|m.trans<|(JR g' _ hf).trans s2.symm
def gq:Nat->aG->aG->aG|0,f,_=>f|n+1,f,g=>if g=[]then f else gq n g<|eI f g
theorem yV{g:aG}:∀(n:Nat)(r:aG),r.length=n->g≠[]->(lw g n r).length<g.length\/(lw g n r).length<g.length|0,r,hr,hg=>.inl (by show r.length<_;have:=az.mpr hg;lia)|n+1,r,hr,hg=>by unfold lw;by_cases h:n+1<g.length;rw[am h];exact .inl (by lia);rw[ap h];exact yV n _ (by rw[jB];lia) hg
def km{g:aG}(hg:g≠[]):(eI f g).length<g.length:=by unfold eI;rw[nR];have h1:=iZ<|lw g f.length f;have h2:=yV f.length f rfl hg;lia
def bG(h:aY g)(hg:g≠[]):ak g≠0:=by rcases h with e |⟨ys,a,e,ha⟩;exact absurd e hg;subst e;simpa[ak]using ha
def vH:∀(n:Nat)(f g:aG),g.length<=n->gq (n+1) f g=gq n f g|0,f,g,h=>by have:g=[]:=aw (by lia);subst this;rfl|n+1,f,g,h=>by show(if g=[]then f else gq (n+1) g<|eI f g)=(if g=[]then f else gq n g<|eI f g);by_cases hg:g=[];rw[am hg,am hg];rw[ap hg,ap hg];have:=km (f:=f) hg;exact vH n g (eI f g)<|by lia
def vI{n:Nat}{g:aG}(h:g.length<=n):∀k,gq (n+k) f g=gq n f g|0=>rfl|k+1=>by rw[<-Nat.add_assoc,vH (n+k) f g<|by lia,vI h k]
def AM:∀(n:Nat)(f g:aG),aY f->aY g->aY (gq n f g)|0,f,g,hf,_=>hf|n+1,f,g,hf,hg=>by rw[gq];split;exact hf;exact AM n g (eI f g) hg<|iJ f g
def xG:∀(n:Nat)(f f' g g':aG),aY g->aY g'->T2 (co f) (co f')->T2 (co g) (co g')->T2 (co<|gq n f g) (co<|gq n f' g')|0,f,f',g,g',_,_,hf,_=>hf|n+1,f,f',g,g',rg,WO,hf,hg=>by have hl:=t6 rg WO hg;rw[gq,gq];by_cases z:g=[];have z':=aw (by rw[<-hl,z];rfl);rwa[am z,am z'];have z':g'≠[]:=λy=>z<|aw (by rw[hl,y];rfl);rw[ap z,ap z'];exact xG n g g' _ _ (iJ _ _) (iJ _ _) hg<|Df hf rg WO hg<|bG rg z
def sh(f g:aG):aG:=gq g.length f g
def jC(f:aG):sh f []=f:=rfl
def gE{g:aG}(hg:g≠[]):sh f g=sh g (eI f g):=by have hr:=km (f:=f) hg;obtain⟨k,hk⟩:∃k,g.length=k+1:=⟨g.length-1,by have:=az.mpr hg;lia⟩;unfold sh;rw[hk];show(if g=[]then f else gq k g<|eI f g)=_;rw[ap hg];obtain⟨j,hj⟩:∃j,k=(eI f g).length+j:=⟨k-(eI f g).length,by lia⟩;rw[hj,vI (aq _) j]
def pE(hf:aY f)(hg:aY g):aY (sh f g):=AM _ _ _ hf hg
def xH(rg:aY g)(WO:aY g')(hf:T2 (co f) (co f'))(hg:T2 (co g) (co g')):T2 (co<|sh f g) (co<|sh f' g'):=by unfold sh;rw[<-t6 rg WO hg];exact xG _ _ _ _ _ rg WO hf hg
def xS(g:aG):eI [] g=[]:=rfl
def ER{g:aG}(hf:aY f)(h:f.length<g.length):eI f g=gz f:=by unfold eI;rw[HN h,oA (fT f) hf<|lG f]
def xz(rf:aY f)(rg:aY g)(hg:g≠[])(h:f.length<g.length):T2 (co<|sh f g) (co<|sh g f):=by rw[gE hg,ER rf h];exact xH (Gz rf) rf (T2.refl _) (yc f rf).symm
def ux{g:aG}{n:Nat}(h:n<g.length)(S:Nat->Int):cu g n S=S:=by cases n with|zero=>rfl|succ n=>unfold cu;rw[am h]
def AU{f g:aG}(hl:ak g≠0)(hf:f≠[])(h:f.length=g.length):T2 (co<|eI f g) (λi=>ak g*f.getD i 0-ak f*g.getD i 0):=by
 refine(uW hl).trans (T2.scale hl λi=>?_);obtain⟨n,hn⟩:∃n,f.length=n+1:=⟨f.length-1,by have:=az.mpr hf;lia⟩;have e1:co f n=ak f:=by have:=bW hf;rwa[hn]at this
 rw[hn];unfold cu;rw[ap<|by lia,ux<|by lia];unfold eh;rw[am<|by lia,show n+1-g.length=0 by lia,kx,e1];show f.getD i 0*ak g*ak g-_=_;grind
def K9{F:Nat->Int}(h:T2 (co []) F):∀i,F i=0:=by let⟨a,b,ha,hb,e⟩:=h;intro i;have:=e i;have z:a*co [] i=0:=bV a;rw[z]at this;rcases iW.mp this.symm with y |y;exact absurd y hb;exact y
def IQ(rf:aY f)(rg:aY g):T2 (co<|sh f g) (co<|sh g f):=by
 by_cases hg:g=[];subst hg;by_cases hf:f=[];subst hf;exact T2.refl _;rw[jC,gE hf,xS,jC];exact T2.refl _;by_cases hf:f=[];subst hf;rw[jC,gE hg,xS,jC];exact T2.refl _;rcases gO f.length g.length with h |h |h;exact xz rf rg hg h;have lf:=bG rf hf;have lg:=bG rg hg;have s1:=AU lg hf h;have s2:=AU lf hg h.symm;have s3:T2 (λi=>ak f*g.getD i 0-ak g*f.getD i 0) (λi=>ak g*f.getD i 0-ak f*g.getD i 0):=T2.scale (c:=-1) (by decide) λi=>by grind
 have YV:T2 (co<|eI f g) (co<|eI g f):=s1.trans<|s3.symm.trans s2.symm;have hlen:=t6 (iJ f g) (iJ g f) YV;rw[gE hg,gE hf];by_cases hr:eI f g=[];have Ze:eI g f=[]:=aw (by rw[<-hlen,hr];rfl);rw[hr,Ze,jC,jC];rw[hr]at s1;have z:=K9 s1;exact⟨ak f,ak g,lf,lg,λi=>by have:=z i;show ak f*g.getD i 0=ak g*f.getD i 0;lia⟩;have Ze:eI g f≠[]:=λy=>hr<|aw (by rw[hlen,y];rfl);rw[gE hr,gE Ze];have lr:=bG (iJ f g) hr;refine xH (iJ _ _) (iJ _ _) YV ?_;refine T2.trans ?_<|Df (T2.refl<|co f) (iJ f g) (iJ g f) YV lr;generalize eI f g=r at s1 lr hr;have a1:=lK (f:=g) lr<|f.length+r.length;have a2:=lK (f:=f) lr<|g.length+r.length;rw[show f.length+(g.length+r.length)=g.length+(f.length+r.length)by lia]at a2;generalize hN:g.length+(f.length+r.length)=N at a1 a2;refine a1.trans<|T2.trans ?_ a2.symm;let⟨a,b,ha,hb,e⟩:=s1;have k0:cu r N (co r)=λ_=>0:=by
  have:=yp lr 0 N (by lia);have e0:(λi=>if 0<=i then r.getD (i-0) 0 else 0)=co r:=by funext i;rw[am<|cQ _];rfl
  rwa[e0]at this
 have k1:∀i,cu r N (λi=>ak g*f.getD i 0-ak f*g.getD i 0) i=0:=by intro i;have h1:=gx (fq r a N<|co r) i;have h2:=gx (fq r b N λi=>ak g*f.getD i 0-ak f*g.getD i 0) i;rw[show(λi=>a*co r i)=λi=>b*(ak g*f.getD i 0-ak f*g.getD i 0)from funext e,h2,k0]at h1;have h3:b*cu r N (λi=>ak g*f.getD i 0-ak f*g.getD i 0) i=a*0:=h1;rw[bV]at h3;rcases iW.mp h3 with y |y;exact absurd y hb;exact y
 refine⟨ak f,ak g,lf,lg,λi=>?_⟩;have h1:=gx (fq r (ak g) N<|co f) i;have h2:=gx (fq r (ak f) N<|co g) i;have h3:=gx (DM r N (λi=>ak f*co g i) λi=>ak g*f.getD i 0-ak f*g.getD i 0) i;have e2:(λi=>ak f*co g i+(ak g*f.getD i 0-ak f*g.getD i 0))=λi=>ak g*co f i:=by funext i;show ak f*g.getD i 0+(ak g*f.getD i 0-ak f*g.getD i 0)=ak g*f.getD i 0;lia
 rw[e2,h1]at h3;have h4:ak g*cu r N (co f) i=cu r N (λi=>ak f*co g i) i+cu r N (λi=>ak g*f.getD i 0-ak f*g.getD i 0) i:=h3;rw[k1 i,sB,h2]at h4;exact h4.symm;exact(xz rg rf hf h).symm
abbrev cm(m:aG)(S:Nat->Int):Nat->Int:=λp=>mU m S p m.length
def uD(f m:aG):co (a8 f m)=cm m (co f):=by funext p;show(a8 f m).getD p 0=_;rw[xy,uR]
def GV(m:aG)(c:Int)(S:Nat->Int):cm m (λi=>c*S i)=λi=>c*cm m S i:=funext λp=>lY m c S p m.length
def Pg(m:aG){F G:Nat->Int}(h:T2 F G):T2 (cm m F) (cm m G):=by let⟨a,b,ha,hb,e⟩:=h;refine⟨a,b,ha,hb,λi=>?_⟩;have h1:=gx (GV m a F) i;have h2:=gx (GV m b G) i;rw[<-h1,<-h2,show(λi=>a*F i)=λi=>b*G i from funext e]
theorem uX(m:aG)(s:Nat)(φ:Nat->Int)(p:Nat):∀k,mU m (λi=>if s<=i then φ (i-s)else 0) p k=if s<=p then mU m φ (p-s) k else 0
 |0=>by split<;>rfl
 |k+1=>by
  show mU m _ p k+m.getD k 0*(if k<=p then(if s<=p-k then φ (p-k-s)else 0)else 0)=if s<=p then mU m φ (p-s) k+m.getD k 0*(if k<=p-s then φ (p-s-k)else 0)else 0;rw[uX m s φ p k];by_cases h:s<=p;rw[am h,am h];congr 1;congr 1;by_cases h2:k<=p-s;rw[am h2,am<|by lia,am<|by lia,show p-k-s=p-s-k by lia];rw[ap h2];split;rw[ap<|by lia];rfl;rw[ap h,ap h];have:(if k<=p then(if s<=p-k then φ (p-k-s)else 0)else 0)=0:=by split;rw[ap<|by lia];rfl
  rw[this];grind
def um(m:aG)(S:Nat->Int)(p n:Nat)(hS:∀i,n<i->S i=0):∀k,k+n<=p->mU m S p k=0|0,_=>rfl|k+1,h=>by show mU m S p k+m.getD k 0*(if k<=p then S (p-k)else 0)=0;rw[um m S p n hS k<|by lia,am<|by lia,hS (p-k)<|by lia];grind
def Fl{m:aG}(hm:m≠[])(S:Nat->Int)(n:Nat)(hS:∀i,n<i->S i=0):cm m S (n+(m.length-1))=ak m*S n:=by obtain⟨k,hk⟩:∃k,m.length=k+1:=⟨m.length-1,by have:=az.mpr hm;lia⟩;show mU m S (n+(m.length-1)) m.length=_;have e:=bW hm;rw[hk]at e ⊢;show mU m S (n+k) k+m.getD k 0*(if k<=n+k then S (n+k-k)else 0)=_;rw[um m S (n+k) n hS k<|by lia,am<|by lia,show n+k-k=n by lia,iQ];show m.getD k 0*S n=_;rw[show m.getD k 0=ak m from e]
theorem jz(rf:aY f)(rm:aY m)(hf:f≠[])(hm:m≠[]):(a8 f m).length=f.length+(m.length-1)/\ak (a8 f m)=ak m*ak f:=by
 have lf:=bG rf hf;have lm:=bG rm hm;obtain⟨n,hn⟩:∃n,f.length=n+1:=⟨f.length-1,by have:=az.mpr hf;lia⟩;have top:=Fl hm (co f) n λi hi=>bn (by lia);rw[<-uD]at top;have e1:co f n=ak f:=by have:=bW hf;rwa[hn]at this
 rw[e1]at top;have zGG:f.length+(m.length-1)<=(a8 f m).length:=by rcases fy (n+(m.length-1)) (a8 f m).length with z |z;lia;have:=bn z;exact absurd ((show(a8 f m).getD (n+(m.length-1)) 0=_ from top).symm.trans this)<|bo lm lf
 have hup:(a8 f m).length<=f.length+(m.length-1):=by
  have hmp:=az.mpr hm;have h1:=EB f m;rcases fy (f.length+(m.length-1)) (a8 f m).length with z |z;exfalso;have e:(a8 f m).length=f.length+m.length:=by lia
  have ne:a8 f m≠[]:=λy=>by rw[y]at z;simp at z
  have g1:=bW ne;have l1:=bG (fT _:aY (a8 f m)) ne;rw[e]at g1;have g2:(a8 f m).getD (f.length+m.length-1) 0=0:=by show co (a8 f m) _=0;rw[uD];exact um m (co f) _ n (λi hi=>bn<|by lia) m.length<|by lia
  rw[g2]at g1;exact l1 g1.symm;exact z
 have hE:(a8 f m).length=f.length+(m.length-1):=by lia
 refine⟨hE,?_⟩;have ne:a8 f m≠[]:=λy=>by rw[y]at hE;simp at hE;lia
 have g1:=bW ne;rw[hE,hn,show n+1+(m.length-1)-1=n+(m.length-1)by lia]at g1;exact g1.symm.trans top
theorem G7{g:aG}{n:Nat}(hg:g≠[])(hn:g.length<=n+1){S:Nat->Int}(hS:∀i,n+1<=i->S i=0):∀i,n<=i->eh g n S i=0:=by intro i hi;have hp:=az.mpr hg;unfold eh;rw[am<|by lia];rcases FQ hi with e |e;subst e;rw[show n-(n+1-g.length)=g.length-1 by lia,bW hg];grind;rw[hS i<|by lia,bn<|by lia];grind
theorem EC(rg:aY g)(rm:aY m)(hg:g≠[])(hm:m≠[])(n:Nat)(S:Nat->Int)(hS:∀i,n<i->S i=0):eh (a8 g m) (n+(m.length-1)) (cm m S)=λi=>(ak m*ak m)*cm m (eh g n S) i:=by
 let⟨tl,tt⟩:=jz rg rm hg hm;have hmp:=az.mpr hm;funext i;have e1:cm m (eh g n S) i=ak g*ak g*cm m S i-(S n*ak g)*(if n+1-g.length<=i then cm m (co g) (i-(n+1-g.length))else 0):=by
  have h0:eh g n S=λi=>(ak g*ak g)*S i+(-(S n*ak g))*(if n+1-g.length<=i then co g (i-(n+1-g.length))else 0):=by funext i;unfold eh;split<;>grind
  rw[h0];show mU m _ i m.length=_;rw[xb m (λi=>(ak g*ak g)*S i) λi=>(-(S n*ak g))*(if n+1-g.length<=i then co g (i-(n+1-g.length))else 0),lY,lY m (-(S n*ak g)),uX m (n+1-g.length)<|co g];grind
 rw[e1];unfold eh;rw[tl,tt,show n+(m.length-1)+1-(g.length+(m.length-1))=n+1-g.length by lia,Fl hm S n hS];have e2:∀p,(a8 g m).getD p 0=cm m (co g) p:=λp=>gx (uD g m) p;rw[e2];split<;>grind
theorem yo(rg:aY g)(rm:aY m)(hg:g≠[])(hm:m≠[]):∀(n:Nat)(S:Nat->Int),(∀i,n<=i->S i=0)->∃c:Int,c≠0/\∀i,cu (a8 g m) (n+(m.length-1)) (cm m S) i=c*cm m (cu g n S) i
 |0,S,hS=>by let⟨tl,tt⟩:=jz rg rm hg hm;have WV:=az.mpr hg;exact⟨1,by decide,λi=>by rw[ux<|by lia,cY];rfl⟩
 |n+1,S,hS=>by
  let⟨tl,tt⟩:=jz rg rm hg hm;have lm:=bG rm hm;by_cases h:n+1<g.length;exact⟨1,by decide,λi=>by rw[ux<|by lia,ux h,cY]⟩;let⟨c,hc,e⟩:=yo rg rm hg hm n (eh g n S)<|G7 hg (by lia) hS;refine⟨ak m*ak m*c,bo (bo lm lm) hc,λi=>?_⟩;have a1:cu (a8 g m) (n+1+(m.length-1)) (cm m S)=cu (a8 g m) (n+(m.length-1)) (eh (a8 g m) (n+(m.length-1))<|cm m S):=by rw[show n+1+(m.length-1)=n+(m.length-1)+1 by lia];show(if n+(m.length-1)+1<(a8 g m).length then _ else _)=_;rw[ap<|by lia]
  have a2:cu g (n+1) S=cu g n (eh g n S):=by show(if n+1<g.length then _ else _)=_;rw[ap h]
  rw[a1,a2,EC rg rm hg hm n S λi hi=>hS i hi,fq];show ak m*ak m*cu (a8 g m) (n+(m.length-1)) (cm m<|eh g n S) i=_;rw[e i];grind
def EQ(rg:aY g)(rm:aY m)(hg:g≠[])(hm:m≠[]):T2 (co<|eI (a8 f m)<|a8 g m) (co<|a8 (eI f g) m):=by
 let⟨tl,tt⟩:=jz rg rm hg hm;have lg:=bG rg hg;have lm:=bG rm hm;have lt:ak (a8 g m)≠0:=by rw[tt];exact bo lm lg
 have a1:=lK (f:=a8 f m) lt<|f.length+(m.length-1);have a2:=lK (f:=f) lg (a8 f m).length;let⟨c,hc,e⟩:=yo rg rm hg hm (f.length+(a8 f m).length) (co f) λi hi=>bn (by lia);rw[show(a8 f m).length+(f.length+(m.length-1))=f.length+(a8 f m).length+(m.length-1)by lia,uD]at a1;rw[uD];exact a1.trans<|(T2.scale hc e).trans<|Pg m a2.symm
theorem C3(rm:aY m)(hm:m≠[]):∀(n:Nat)(f g:aG),g.length<=n->aY g->T2 (co<|sh (a8 f m)<|a8 g m) (co<|a8 (sh f g) m)
 |0,f,g,h,rg=>by have:g=[]:=aw (by lia);subst this;rw[uQ,jC,jC];exact T2.refl _
 |n+1,f,g,h,rg=>by
  by_cases hg:g=[];subst hg;rw[uQ,jC,jC];exact T2.refl _;let⟨tl,tt⟩:=jz rg rm hg hm;have WV:=az.mpr hg;have tn:a8 g m≠[]:=λy=>by rw[y]at tl;simp at tl;lia
  rw[gE tn,gE hg];have hr:=km (f:=f) hg;refine T2.trans ?_<|C3 rm hm n g (eI f g) (by lia)<|iJ f g;exact xH (iJ _ _) (fT _) (T2.refl _)<|EQ rg rm hg hm
def rO(ds:bX)(d:D):Prop:=∃a:Int,ds=[.int a]/\d=.int a.sign
def DF:∀ds d,rO ds d->ds.length=1:=by rintro _ _ ⟨a,rfl,_⟩;rfl
def qP(ds:bX)(d:D):Prop:=∃r g:aG,ds=[ba r,aU g]/\r≠[]/\ak g≠0/\d=.tup [.int<|Eo g<|ak r,.int<|Et g<|ak r]
def z5:∀ds d,qP ds d->ds.length=2:=by rintro _ _ ⟨a,b,rfl,_⟩;rfl
def BB(k:Nat)(f:aG):Prop:=∀x∈f,x.natAbs<2 ^ k
def KL(f g:aG):Prop:=f.length<200/\g.length<200/\ak g≠0/\∃a b,BB a f/\BB b g/\a+(f.length+1-g.length)*(2*b+1)+b<=1000000
def vG(ds:bX)(d:D):Prop:=∃f g:aG,ds=[aU f,aU g]/\KL f g/\d=.tup [aU<|c8<|Dk g f.length [] f,aU<|c8<|lw g f.length f]
def DK:∀ds d,vG ds d->ds.length=2:=by rintro _ _ ⟨a,b,rfl,_⟩;rfl
def vD(ds:bX)(d:D):Prop:=∃f g:aG,ds=[aU f,aU g]/\KL f g/\d=aU (eI f g)
def DG:∀ds d,vD ds d->ds.length=2:=by rintro _ _ ⟨a,b,rfl,_⟩;rfl
def BB.mono{j:Nat}(h:BB k f)(q:k<=j):BB j f:=λx hx=>aE (h x hx)<|aN (by decide) q
def BB.get(h:BB k f)(i:Nat):(f.getD i 0).natAbs<2 ^ k:=by by_cases hi:i<f.length;rw[mW hi];exact h _<|dX _;rw[bn<|by lia];exact gN<|by decide
def BB.of_get{f:aG}(h:∀p,(f.getD p 0).natAbs<2 ^ k):BB k f:=λx hx=>by obtain⟨i,hi,rfl⟩:=List.mem_iff_getElem.mp hx;have:=h i;rwa[mW hi]at this
def BB.last(h:BB k f):(ak f).natAbs<2 ^ k:=by by_cases hf:f=[];subst hf;exact gN (by decide);rw[<-bW hf];exact h.get _
def BB.trim(h:BB k f):BB k (c8 f):=λx hx=>h x<|ya hx
def rX{x y:Int}(hx:x.natAbs<2 ^ p)(hy:y.natAbs<2 ^ q)(hp:p<=1000000)(hq:q<=1000000):IntMulOk x y:=dz (k:=max p q) (by lia) (aE hx<|aN (by decide)<|by lia)<|aE hy<|aN (by decide)<|by lia
def cA{x y:Int}(hx:x.natAbs<2 ^ p)(hy:y.natAbs<2 ^ q):(x*y).natAbs<2 ^ (p+q):=by rw[cZ];exact hG hx hy
theorem m4{x y:Int}(hx:x.natAbs<2 ^ p)(hy:y.natAbs<2 ^ p):(x-y).natAbs<2 ^ (p+1):=by rw[sw];lia
theorem Bi{g:aG}(hl:ak g≠0)(a:Int):(Eo g a).natAbs<=(ak g).natAbs/\(Et g a).natAbs<=a.natAbs:=by
 have hh:0<Nat.gcd a.natAbs (ak g).natAbs:=lD _ (by lia);let⟨u,hu⟩:=fc a.natAbs (ak g).natAbs;let⟨v,hv⟩:=eR a.natAbs (ak g).natAbs;unfold Eo Et;generalize Nat.gcd a.natAbs (ak g).natAbs=h at hh hu hv;generalize ak g=l at hl hu;have e1:(l.natAbs:Int).fdiv h=u:=by rw[hu,dR,bv _<|by lia]
 have e2:(l.sign*a).fdiv h=l.sign*(a.sign*v):=by
  have e:a=a.sign*(h*v):=by rw[<-dR,<-hv];exact(rS a).symm
  have:l.sign*a=h*(l.sign*(a.sign*v)):=by
   conv=>lhs;rw[e]
   grind
  rw[this,bv _<|by lia]
 rw[e1,e2,cZ,cZ,aB,aB];have s1:∀z:Int,z.sign.natAbs<=1:=λz=>by rcases gV z 0 with y |y |y;rw[ce y];decide;rw[y];decide;rw[dF y];decide
 have u1:u<=h*u:=zi u hh;have v1:v<=h*v:=zi v hh;have v2:a.sign.natAbs*v<=1*v:=fA v<|s1 a;have v3:l.sign.natAbs*(a.sign.natAbs*v)<=1*(a.sign.natAbs*v):=fA _<|s1 l;lia
def AK{g r:aG}{n:Nat}(hl:ak g≠0)(hr:r.length=n+1)(hg:g.length<=n+1)(hb:BB b g)(hc:BB c r):BB (c+b+1) (gj g r):=by refine BB.of_get λp=>?_;rw[show(gj g r).getD p 0=t5 g n (λp=>r.getD p 0) p from gx (xC hl hr hg) p];simp;let⟨u1,u2⟩:=Bi hl<|r.getD n 0;have h1:=bz u1 hb.last;have h2:=bz u2<|hc.get n;have h3:=cA h1<|hc.get p;rw[sy b c]at h3;refine m4 h3 ?_;split;exact cA h2<|hb.get _;exact gN<|by decide
theorem GR{g:aG}(hl:ak g≠0)(hb:BB b g):∀(n c:Nat)(r:aG),r.length=n->BB c r->BB (c+(n+1-g.length)*(b+1)) (lw g n r)|0,c,r,hr,hc=>hc.mono (kA _ _)|n+1,c,r,hr,hc=>by unfold lw;by_cases h:n+1<g.length;rw[am h];exact hc.mono<|kA _ _;rw[ap h];have ih:=GR hl hb n (c+b+1) (gj g r) (by rw[jB];lia)<|AK hl hr (by lia) hb hc;refine ih.mono ?_;rw[show n+1+1-g.length=(n+1-g.length)+1 by lia,Ik];lia
def E8(h:BB k f):BB k (gz f):=λx hx=>by
 obtain⟨y,hy,rfl⟩:=dq.mp hx;have h1:=h y hy;by_cases z:(gl f:Int)=0;rw[z,Int.fdiv_zero];exact gN (by decide);refine bz ?_ h1;have hd:(gl f:Int) ∣ y:=by
  have key:∀(f:aG)a,(f.foldl (λg x=>Nat.gcd g x.natAbs) a ∣ a)/\∀x∈f,f.foldl (λg x=>Nat.gcd g x.natAbs) a ∣ x.natAbs:=by intro f;induction f with|nil=>intro a;exact⟨Il a,λx hx=>by cases hx⟩|cons y f ih=>intro a;let⟨h1,h2⟩:=ih<|Nat.gcd a y.natAbs;refine⟨iY h1<|eR _ _,λx hx=>?_⟩;rcases aO.mp hx with rfl |hx;exact iY h1<|fc _ _;exact h2 x hx
  exact dP.mpr<|(key f 0).2 _ hy
 let⟨q,hq⟩:=hd;rw[hq,bv _ z,cZ];exact zi _<|by lia
def Li{g:aG}(hl:ak g≠0)(ha:BB a f)(hb:BB b g):BB (a+(f.length+1-g.length)*(b+1)) (eI f g):=E8 (GR hl hb f.length a f rfl ha).trim
theorem D2{X:Cx}(g:aG)(R:aG->aG->fx)(hl:ak g≠0)(hb:BB b g)(h1:∀q r,r.length<200->TC X (R q r) c (decide<|g.length<=r.length))(h2:∀q r e,q.length+r.length<200->g.length<=r.length->r≠[]->BB e r->BB e q->e+(2*b+1)+b<=1000000->TB X (R q r) body (.nx<|R (Et g (ak r)::q.map λx=>Eo g (ak r)*x)<|gj g r)):∀(n:Nat)(q r:aG)(e:Nat),r.length=n->q.length+r.length<200->BB e r->BB e q->e+(n+1-g.length)*(2*b+1)+b<=1000000->∃m,Ui X c body m (R q r) (.nx<|R (Dk g n q r)<|lw g n r)
 |0,q,r,e,hr,hq,_,_,_=>⟨0,.stop<|TC.eq (h1 q r<|by lia)<|ah<|by have:=az.mpr<|lu hl;lia⟩
 |n+1,q,r,e,hr,hq,er,eq,eb=>by
  unfold Dk lw;by_cases h:n+1<g.length;rw[am h,am h];exact⟨0,.stop<|TC.eq (h1 q r<|by lia)<|ah<|by lia⟩;rw[ap h,ap h];rw[show n+1+1-g.length=(n+1-g.length)+1 by lia,Ik]at eb;generalize hk:(n+1-g.length)*(2*b+1)=kk at eb;have ZH:BB (e+(2*b+1)) (gj g r):=(AK hl hr (by lia) hb er).mono (by lia);let⟨u1,u2⟩:=Bi hl<|ak r;have eq':BB (e+(2*b+1)) (Et g (ak r)::q.map λx=>Eo g (ak r)*x):=by intro x hx;rcases aO.mp hx with rfl |hx;exact bz u2<|aE er.last<|aN (by decide) (by lia);obtain⟨y,hy,rfl⟩:=dq.mp hx;exact aE (cA (bz u1 hb.last)<|eq y hy)<|aN (by decide)<|by lia
  let⟨m,w⟩:=D2 g R hl hb h1 h2 n (Et g (ak r)::q.map λx=>Eo g (ak r)*x) (gj g r) (e+(2*b+1)) (by rw[jB];lia) (by rw[jB,dG,ae];lia) ZH eq' (by rw[hk];lia);exact⟨m+1,.step (TC.eq (h1 q r<|by lia)<|av<|by lia) (h2 q r e hq (by lia) (λz=>by subst z;simp at hr) er eq<|by lia) w⟩
section
variable {X:Cx}
def HZ(h:c7 P w K mg base k vp q9 X):Go X vp q9 rO:=by rintro ds d ⟨a,rfl,rfl⟩;have t:=h.at';refine aA<|aW<|Tz.eq (Me (GL (aa t 0) af)<|GJ (aa t 0) af) ?_;rcases gV a 0 with z |z |z;rw[av z,ah<|by lia,ce z];rfl;subst z;rfl;rw[ah (show¬a<0 by lia),av z,dF z];rfl
theorem Ed(h:c7 P w K mg base k qH mM X)(US:mg "abs"=none)(cG:Callee X "common_divisor" eM)(cS:Callee X "sign_of" rO):Go X qH mM qP:=by
 rintro ds d ⟨r,g,rfl,hr,hl,rfl⟩;have t:=h.at';haveI:=h.T6;have b1:=h.bt US;have hg:=lu hl;have hh:0<Nat.gcd (ak r).natAbs (ak g).natAbs:=lD _ (by lia);refine ao (bC t 2<|au t cG (ac (aF (Tz.ql<|aa t 0) (dy af)<|eB hr)<|ac (aF (Tz.qt<|aa t 1) (dy af)<|eB hg) ai) ⟨_,_,rfl,rfl⟩) ?_;refine aA<|aW<|bw<|ac (tj t (tm t b1<|aF (Tz.qt<|aa t 1) (dy af)<|eB hg) (aa t 2)<|by lia)<|ac (tj t (bc (au t cS (ac (aF (Tz.qt<|aa t 1) (dy af)<|eB hg) ai) ⟨_,rfl,rfl⟩) (aF (Tz.ql<|aa t 0) (dy af)<|eB hr) ?_) (aa t 2)<|by lia) ai;have:(ak g).sign=-1\/(ak g).sign=0\/(ak g).sign=1:=by rcases gV (ak g) 0 with z |z |z;left;exact ce z;right;left;rw[z];rfl;right;right;exact dF z
 exact de (by lia)<|by lia
theorem Ib(h:c7 P w K mg base k vA nO X)(Um:mg "list"=none)(TH:mg "len"=none)(WR:mg "enumerate"=none)(cS:Callee X "step_down" qP)(cR:Callee X "row_of" nT):Go X vA nO vG:=by
 rintro ds d ⟨f,g,rfl,⟨hf,hgl,hl,a,b,ha,hb,hab⟩,rfl⟩;have t:=h.at';haveI:=h.T6;have b1:so X (ay nO) "enumerate" (.type "enumerate"):=Fq (by rwa[h.VR]) rfl rfl;have b2:=h.bt TH;have b3:=h.bt Um;have hg:=lu hl;refine ao (c9 (tq t (Tz.p<|aa t 1) (Tz.p (d:=aU [])<|bw ai) (dH _) (dH _)<|by rw[mZ,ah hg]) bM) ?_;refine ao (qj t 2 3 (T1.Ux<|fk ai) (T1.Ux<|rL t b3<|Tz.qt<|aa t 0)<|by decide) ?_;refine ao (gs t<|D2 g (hl:=hl) (hb:=hb) (λq r=>[.val<|aU f,.val<|aU g,.val<|ba q,.val<|ba r,.un,.un,.un,.un,.un]) (λq r hr=>?_) (λq r e hq hr Uy er eq ee=>?_) f.length [] f a rfl (by simpa using hf) ha (λx hx=>by cases hx) hab) ?_
 ·refine TC.eq (GN (bF t b2<|Tz.ql<|aa t 3)<|bF t b2<|Tz.qt<|aa t 1) ?_;rw[ae,ae];by_cases z:g.length<=r.length;·rw[av z,av<|by lia]
  ·rw[ah z,ah<|by lia]
 ·let⟨us0,YG⟩:=Bi hl<|ak r;have us:=bz us0 hb.last;have dsm:=bz YG er.last;generalize hu:Eo g (ak r)=u at us;generalize hd:Et g (ak r)=dn at dsm;refine TB.weak (Uf:=[.val<|aU f,.val<|aU g,.val<|ba (dn::q.map λx=>u*x),.val<|ba<|gj g r,.val<|.int u,.val<|.int dn,.val<|.int ((r.length-g.length:Nat):Int),.un,.un]) ?_<|.keep<|.keep<|.keep<|.keep<|.forget<|.forget<|.forget<|.keep<|.keep .nil;refine ao (kj t (au t cS (ac (aa t 3)<|ac (aa t 1) ai) ⟨r,g,rfl,Uy,hl,by rw[hu,hd]⟩)<|jf t<|bq (aZ t 4)<|bq (aZ t 5) gJ) ?_;refine ao (bC t 6<|Tz.eq (dD (bF t b2<|Tz.ql<|aa t 3)<|bF t b2<|Tz.qt<|aa t 1) (show _=D.int ((r.length-g.length:Nat):Int)by rw[ae,ae];congr 1;lia)) ?_;refine ao (rc (rs:=(r.map λx=>u*x).map D.int) t 3 ["f","g","quotient","rest","up","down","shift","power","","number"] (Ah rfl) (m7<|aa t 3) (by rw[ae];exact fV<|by lia) λX' cx=>?_) ?_;·have t':=cx.at';exact TU.ints (λx=>u*x) (λx=>[.val<|aU f,.val<|aU g,.val<|ba q,.val<|ba r,.val<|.int u,.val<|.int dn,.val<|.int ((r.length-g.length:Nat):Int),.un,.un,.val<|.int x]) (λd hd=>bE t' 9) (λd hd e he=>bE t' 9) λd hd=>bc (aa t' 4 rfl) (aa t' 9 rfl)<|rX us (er d hd) (by lia)<|by lia
  refine ao (TW:=[.val<|aU f,.val<|aU g,.val<|ba q,.own<|(nG g (r.length-g.length) dn (r.map λx=>u*x) g.length).map D.int,.val<|.int u,.val<|.int dn,.val<|.int ((r.length-g.length:Nat):Int),.un,.un]) (jx t (Mt t b1<|aa t 1)<|T5.Ue (λi=>[.val<|aU f,.val<|aU g,.val<|ba q,.own<|(nG g (r.length-g.length) dn (r.map λx=>u*x) i).map D.int,.val<|.int u,.val<|.int dn,.val<|.int ((r.length-g.length:Nat):Int),.un,.un]) (λi d hi=>?_) rfl ?_) ?_
  ·obtain⟨e',he,rfl⟩:=A7 hi;rw[aH]at he;cases hy:g[i]? with
   |none=>rw[hy]at he;cases he
   |some y=>
   rw[hy]at he;cases he;have VF:i<g.length:=(aV.mp hy).1;have ey:g.getD i 0=y:=by rw[ag,hy];rfl
   have hyb:=hb y<|CH hy;have hlen:(nG g (r.length-g.length) dn (r.map λx=>u*x) i).length=r.length:=by rw[lI,ae]
   have Uv:r.length-g.length+i<(nG g (r.length-g.length) dn (r.map λx=>u*x) i).length:=by lia
   refine⟨_,xn t 7 8,TB.weak (aA<|rn (j:=r.length-g.length+i) (u:=(nG g (r.length-g.length) dn (r.map λx=>u*x) i).getD (r.length-g.length+i) 0) t 3 yt rfl (cp (aa t 6)<|aa t 7) ?_ ?_ (bc (aa t 5) (aa t 8)<|rX dsm hyb (by lia)<|by lia) trivial) ?_⟩;·rw[ae];exact qx (by lia) (by lia)<|by lia
   ·rw[aH,ag,ar Uv];rfl
   ·rw[nG,sA,ey];exact .keep<|.keep<|.keep<|.keep<|.keep<|.keep<|.keep<|.forget<|.forget .nil
  ·rw[A6,ae]
  refine ao (TW:=[.val<|aU f,.val<|aU g,.val<|ba q,.own<|(gj g r).map D.int,.val<|.int u,.val<|.int dn,.val<|.int ((r.length-g.length:Nat):Int),.un,.un]) (Up.eq (M5 t 3 rfl λz=>Uy<|aw<|by have:=bi List.length z;rw[ae,lI,ae]at this;exact this) ?_) ?_;·unfold gj;rw[List.map_dropLast,hu,hd];rfl
  refine ao (bC t 2<|Tz.eq (T1.Ux<|yU (T1.Ux<|fk<|ac (aa t 5) ai) (Tz.eq (T1.Ux (fG t ["f","g","quotient","rest","up","down","shift","power","","number"] (Ah rfl) (m7<|aa t 2) (by rw[ae];exact fV<|by lia) λX' cx=>?_)) rfl) ?_)<|rfl)<|fB 3 rfl bM;·have t':=cx.at';exact TU.ints (λx=>u*x) (λx=>[.val<|aU f,.val<|aU g,.val<|ba q,.own<|(gj g r).map D.int,.val<|.int u,.val<|.int dn,.val<|.int ((r.length-g.length:Nat):Int),.un,.un,.val<|.int x]) (λd hd=>bE t' 9) (λd hd e he=>bE t' 9) λd hd=>bc (aa t' 4 rfl) (aa t' 9 rfl)<|rX us (eq d hd) (by lia)<|by lia
  ·have:=Nr;rw[ae,ae];show 1+q.length<=_;lia
 ·have l1:=Dj g f.length [] f;have l2:=yW g f.length f rfl;exact aA<|aW<|bw<|ac (au t cR (ac (aa t 2) ai) ⟨Dk g f.length [] f,rfl,by simp at l1;lia,rfl⟩)<|ac (au t cR (ac (aa t 3) ai) ⟨lw g f.length f,rfl,by lia,rfl⟩) ai
def H0(h:c7 P w K mg base k vq rd X)(cL:Callee X "put_low" rP)(cD:Callee X "divided" vG):Go X vq rd vD:=by rintro ds d ⟨f,g,rfl,TV,rfl⟩;have t:=h.at';have l2:=yW g f.length f rfl;have l3:=iZ<|lw g f.length f;have l4:=TV.1;exact aA<|aW<|au t cL (ac (aF (Tz.qt<|au t cD (ac (aa t 0)<|ac (aa t 1) ai) ⟨f,g,rfl,TV,rfl⟩) af) ai) ⟨c8<|lw g f.length f,rfl,by lia,m5<|fT _,rfl⟩
end
def lR(h:aY f):aY (fN f):=by rcases h with e |⟨ys,a,e,ha⟩;subst e;exact .inl rfl;subst e;rcases FP ys.length with z |z;have:ys=[]:=aw z;subst this;exact .inl rfl;right;obtain⟨n,hn⟩:∃n,ys.length=n+1:=⟨ys.length-1,by lia⟩;refine⟨(List.range n).map λ(i:Nat)=>(1+i)*(ys++[a]).getD (1+i) 0,(1+n)*a,?_,bo (by lia) ha⟩;unfold fN;rw[show(ys++[a]).length-1=n+1 by simp[hn],lP,bO];congr 1;show[(1+n)*(ys++[a]).getD (1+n) 0]=_;rw[show 1+n=ys.length by lia,ag,aX<|aq _,gc];rfl
def AL(f:aG):(fN f).length=f.length-1:=by unfold fN;rw[ae,fJ]
end My
namespace My
variable {K:gh}
def PJ:Nat->Int×Int|0=>(1,0)|n+1=>(2*(PJ n).1+3*(PJ n).2,(PJ n).1+2*(PJ n).2)
abbrev pA(n:Nat):Int:=(PJ n).1
abbrev pB(n:Nat):Int:=(PJ n).2
def BG(n:Nat):pA (n+1)=2*pA n+3*pB n:=rfl
def BF(n:Nat):pB (n+1)=pA n+2*pB n:=rfl
theorem uo(m:Nat):∀n,pA (m+n)=pA m*pA n+3*(pB m*pB n)/\pB (m+n)=pA m*pB n+pB m*pA n|0=>by have e1:pA 0=1:=rfl;have e2:pB 0=0:=rfl;rw[Nat.add_zero,e1,e2];constructor<;>grind|n+1=>by let⟨h1,h2⟩:=uo m n;rw[<-Nat.add_assoc,BG,BF,BG,BF,h1,h2];constructor<;>grind
def xf:∀n,pA n*pA n-3*(pB n*pB n)=1|0=>rfl|n+1=>by have h:=xf n;rw[BG,BF];grind
def Vm(q:Int)(n:Nat)(e:Int):Prop:=q ∣ pA n-e/\q ∣ pB n
def Vm.add(h:Vm q m e)(g:Vm q n d):Vm q (m+n) (e*d):=by
 let⟨⟨a,ha⟩,⟨b,hb⟩⟩:=h;let⟨⟨c,hc⟩,⟨f,hf⟩⟩:=g;let⟨h1,h2⟩:=uo m n;have ea:pA m=e+q*a:=by lia
 have ec:pA n=d+q*c:=by lia
 unfold Vm;rw[h1,h2,ea,ec,hb,hf];exact⟨⟨e*c+a*d+q*a*c+3*(q*b*f),by grind⟩,⟨(e+q*a)*f+b*(d+q*c),by grind⟩⟩
def Vm.zero(q:Int):Vm q 0 1:=⟨⟨0,by show(1:Int)-1=q*0;lia⟩,⟨0,by show(0:Int)=q*0;lia⟩⟩
def Vm.mul(h:Vm q n 1):∀t,Vm q (n*t) 1|0=>Vm.zero q|t+1=>by have:=(Vm.mul h t).add h;rwa[Sv]
def ye(M:Nat)(n:Nat):Nat->Nat:=Nat.rec (motive:=λ_=>Nat->Nat) (λs=>s) (λ_ ih s=>Nat.rec (motive:=λ_=>Nat) (ih 0) (λk _=>ih<|k+1)<|(s*s+(M-2))%M) n
def Ht(M n s:Nat):ye M (n+1) s=ye M n ((s*s+(M-2))%M):=by show Nat.rec (motive:=λ_=>Nat) (ye M n 0) (λk _=>ye M n<|k+1) ((s*s+(M-2))%M)=_;cases(s*s+(M-2))%M<;>rfl
theorem GA{M:Nat}(hM:2<=M):∀(n k s:Nat),(M:Int) ∣ 2*pA (2 ^ k)-(s:Int)->(M:Int) ∣ 2*pA (2 ^ (k+n))-(ye M n s:Int)
 |0,k,s,h=>h
 |n+1,k,s,h=>by
  rw[Ht];have key:(M:Int) ∣ 2*pA (2 ^ (k+1))-(((s*s+(M-2))%M:Nat):Int):=by
   let⟨u,hu⟩:=h;have e1:2 ^ (k+1)=2 ^ k+2 ^ k:=by rw[sw];lia
   have e2:=(uo (2 ^ k)<|2 ^ k).1;have e3:=xf<|2 ^ k;rw[e1,e2];generalize pA (2 ^ k)=A at*;generalize pB (2 ^ k)=B at*;have e4:=Nat.div_add_mod (s*s+(M-2)) M;generalize(s*s+(M-2))%M=r at*;generalize(s*s+(M-2)) / M=w at*;have e5:((M*w+r:Nat):Int)=((s*s+(M-2):Nat):Int):=by rw[e4]
   have e6:M*w+r=s*s+M-2:=by rw[MV,MV,dR,dR,MU hM]at e5;lia
   exact⟨2*A*u+u*s+w-1,by grind⟩
  have:=GA hM n (k+1) _ key;rwa[show k+(n+1)=k+1+n by lia]
theorem SK:∀(n m:Nat)(f:Nat->Nat),(∀i,i<m->f i<n)->(∀i j,i<j->j<m->f i≠f j)->m<=n
 |0,m,f,h,_=>by rcases FP m with e |e;lia;have:=h 0 e;lia
 |n+1,0,f,_,_=>cQ _
 |n+1,m+1,f,h,inj=>by
  have:=SK n m (λi=>if f i=n then f m else f i) (λi hi=>by
   have h1:=h i (by lia);have h2:=h m (by lia);have h3:=inj i m (by lia) (by lia);split<;>lia) (λi j Vi hj=>by
   have h1:=inj i j Vi (by lia);have h2:=inj i m (by lia) (by lia);have h3:=inj j m (by lia) (by lia);split<;>split<;>lia)
  lia
theorem JG:∀(n:Nat),0<n->∃k m,n=2 ^ k*(2*m+1):=by intro n;induction n using Nat.strongRecOn with|ind n ih=>intro hn;by_cases h:n%2=1;exact⟨0,n / 2,by lia⟩;let⟨k,m,e⟩:=ih (n / 2) (by lia) (by lia);exact⟨k+1,m,by rw[sw,zg (2 ^ k) 2,Eu,<-e];lia⟩
def AS{q x y:Int}(h:x%q=y%q):q ∣ x-y:=mB<|by rw[Int.sub_emod,h,Int.sub_self];simp
theorem qp{p:Nat}(hp:3<=p)(h:ye (2 ^ p-1) (p-2) 4=0):∀q:Nat,1<q->q ∣ 2 ^ p-1->¬q*q<=2 ^ p-1:=by
 intro q hq hd hle;have hP:8<=2 ^ p:=by have:2 ^ 3<=2 ^ p:=aN (by decide) hp;exact this
 have zF9:q%2=1:=by
  rcases(by lia:q%2=1\/q%2=0)with e |e;exact e;let⟨c,hc⟩:=hd;have h2:2 ^ p=2*2 ^ (p-1):=by rw[<-Nat.pow_succ'];congr 1;lia
  have h3:q=2*(q / 2):=by lia
  rw[h3,Eu]at hc;lia
 have hs:=GA (M:=2 ^ p-1) (by lia) (p-2) 0 4 ⟨0,by rw[bV];rfl⟩;rw[h,Su]at hs;have hdI:=Int.ofNat_dvd.mpr hd;have hA2:(q:Int) ∣ 2*pA (2 ^ (p-2)):=by have:=Int.dvd_trans hdI hs;simpa using this
 have hm:Vm q (2 ^ (p-1)) (-1):=by
  have e1:2 ^ (p-1)=2 ^ (p-2)+2 ^ (p-2):=by rw[show p-1=(p-2)+1 by lia,sw];lia
  let⟨h1,h2⟩:=uo (2 ^ (p-2))<|2 ^ (p-2);have e3:=xf<|2 ^ (p-2);let⟨u,hu⟩:=hA2;unfold Vm;rw[e1,h1,h2];generalize pA (2 ^ (p-2))=A at*;generalize pB (2 ^ (p-2))=B at*;refine⟨⟨A*u,by grind⟩,⟨B*u,by grind⟩⟩
 have two:¬(q:Int) ∣ 2:=λz=>by
  let⟨c,hc⟩:=z;have:c=1\/c=2\/c<=0\/3<=c:=by lia
  rcases Int.lt_or_le c 1 with l |l;have:q*c<=0:=Int.mul_nonpos_of_nonneg_of_nonpos (by lia) (by lia);lia;have:q*1<=q*c:=Int.mul_le_mul_of_nonneg_left l (by lia);lia
 have none:∀n,0<n->n<2 ^ p->¬Vm q n 1:=by
  intro n h0 hn h1;let⟨k,m,e⟩:=JG n h0;have hk:k<p:=by rcases fy k p with z |z;exact z;have a:=aN (show 0<2 by decide) z;have b:2 ^ k*1<=2 ^ k*(2*m+1):=eC _ (by lia);lia
  have g1:=h1.mul<|2 ^ (p-1-k);have g2:n*2 ^ (p-1-k)=2 ^ (p-1)*2*m+2 ^ (p-1):=by
   have:2 ^ k*2 ^ (p-1-k)=2 ^ (p-1):=by rw[<-jT];congr 1;lia
   rw[e,zg<|2 ^ k,Eu,this];rw[KY,Nat.one_mul,zg,Eu]
  have g3:Vm q (2 ^ (p-1)*2) 1:=by have:=hm.add hm;rwa[Nat.mul_two]
  have g4:=(g3.mul m).add hm;rw[<-g2]at g4;let⟨⟨a,ha⟩,_⟩:=g1;let⟨⟨b,hb⟩,_⟩:=g4;exact two ⟨b-a,by grind⟩
 have Yw:0<(q:Int):=by lia
 have fin:=SK (q*q) (2 ^ p) (λi=>(pA i%q).toNat*q+(pB i%q).toNat) (λi _=>by
  have a1:=bx (pA i) (show(q:Int)≠0 by lia);have a2:=bp (pA i) Yw;have b1:=bx (pB i) (show(q:Int)≠0 by lia);have b2:=bp (pB i) Yw;have c1:(pA i%q).toNat+1<=q:=by lia
  have c3:=fA q c1;rw[KY]at c3;lia) (λi j Vi hj e=>by
  have a1:=bx (pA i) (show(q:Int)≠0 by lia);have b1:=bx (pB i) (show(q:Int)≠0 by lia);have b2:=bp (pB i) Yw;have a3:=bx (pA j) (show(q:Int)≠0 by lia);have b3:=bx (pB j) (show(q:Int)≠0 by lia);have b4:=bp (pB j) Yw;have e':(pA i%(q:Int)).toNat*q+(pB i%(q:Int)).toNat=(pA j%(q:Int)).toNat*q+(pB j%(q:Int)).toNat:=e;have eb:(pB i%(q:Int)).toNat=(pB j%(q:Int)).toNat:=by have:=bi (·%q) e';simp only[Nat.mul_add_mod_self_right]at this;rw[Nat.mod_eq_of_lt<|by lia,Nat.mod_eq_of_lt<|by lia]at this;exact this
  have ea:(pA i%(q:Int)).toNat=(pA j%(q:Int)).toNat:=by rw[eb]at e';exact Nat.eq_of_mul_eq_mul_right (by lia)<|Nat.add_right_cancel e'
  have dA:=AS (show pA j%(q:Int)=pA i%(q:Int)by lia);have dB:=AS (show pB j%(q:Int)=pB i%(q:Int)by lia);refine none (j-i) (by lia) (by lia) ?_;let⟨h1,h2⟩:=uo i (j-i);rw[show i+(j-i)=j by lia]at h1 h2;have o:=xf i;let⟨u,hu⟩:=dA;let⟨v,hv⟩:=dB;unfold Vm;generalize pA i=a at*;generalize pB i=b at*;generalize pA (j-i)=c at*;generalize pB (j-i)=d at*;generalize pA j=x at*;generalize pB j=y at*;refine⟨⟨a*u-3*(b*v),by grind⟩,⟨a*v-b*u,by grind⟩⟩)
 lia
end My
set_option exponentiation.threshold 5000
namespace My
variable {K:gh}
def Qz:ye (2 ^ 61-1) (61-2) 4=0:=rfl
def OF:ye (2 ^ 127-1) (127-2) 4=0:=rfl
def OE:ye (2 ^ 521-1) (521-2) 4=0:=rfl
def LZ:ye (2 ^ 1279-1) (1279-2) 4=0:=rfl
def LY:ye (2 ^ 4423-1) (4423-2) 4=0:=rfl
end My
namespace My
variable {K:gh}
structure Uz(P:Nat):Prop where
 two:2<=P
 no:∀d,d ∣ P->d=1\/d=P
def xX{P:Nat}(h2:2<=P)(h:∀q:Nat,1<q->q ∣ P->¬q*q<=P):Uz P:=⟨h2,λd hd=>by
 rcases fy 1 d with h1 |h1;right;let⟨e,he⟩:=hd;rcases fy 1 e with g1 |g1;exfalso;rcases Nat.le_total d e with l |l;exact h d h1 ⟨e,he⟩ (by rw[he];exact eC _ l);exact h e g1 ⟨d,by rw[he,zg]⟩ (by rw[he];exact fA _ l);have:e=0\/e=1:=by lia
 rcases this with z |z;rw[z]at he;lia;rw[z]at he;lia;have:d=0\/d=1:=by lia
 rcases this with z |z;subst z;let⟨e,he⟩:=hd;lia;exact .inl z⟩
def N8:Uz (2 ^ 61-1):=xX (by decide)<|qp (by decide) Qz
def Lx:Uz (2 ^ 127-1):=xX (by decide)<|qp (by decide) OF
def Pj{p:Nat}(h:3<=p):2<=2 ^ p-1:=by have:2 ^ 3<=2 ^ p:=aN (by decide) h;lia
def Lw:Uz (2 ^ 521-1):=xX (Pj<|by decide)<|qp (by decide) OE
def Jv:Uz (2 ^ 1279-1):=xX (Pj<|by decide)<|qp (by decide) LZ
def Ju:Uz (2 ^ 4423-1):=xX (Pj<|by decide)<|qp (by decide) LY
def Uz.Y5{a b:Nat}(h:Uz P)(hd:P ∣ a*b):P ∣ a\/P ∣ b:=by rcases h.no (Nat.gcd P a) (eR P a)with e |e;exact .inr<|Nat.Coprime.dvd_of_dvd_mul_left e hd;left;have:=fc P a;rw[e]at this;exact this
def Uz.mul{a b:Int}(h:Uz P)(hd:(P:Int) ∣ a*b):(P:Int) ∣ a\/(P:Int) ∣ b:=by
 have h1:P ∣ a.natAbs*b.natAbs:=by rw[<-cZ];exact dP.mp hd
 rcases h.Y5 h1 with q |q;exact .inl<|dP.mpr q;exact .inr<|dP.mpr q
def Uz.Ul(h:Uz P)(ha:¬(P:Int) ∣ a)(hb:¬(P:Int) ∣ b):¬(P:Int) ∣ a*b:=λz=>(h.mul z).elim ha hb
def yu:Nat->Int->Int->Int->Int->Int|0,_,_,_,v=>v|n+1,a,b,u,v=>if 1<b then yu n b (a-a / b*b) v (u-a / b*v)else v
theorem J4{x:Int}:∀(n:Nat)(a b u v:Int),b.toNat<=n->0<=b->P ∣ a-u*x->P ∣ b-v*x->Int.gcd a b=1->P ∣ 1-yu n a b u v*x\/(b=0/\a.natAbs=1)
 |0,a,b,u,v,hn,h0,_,hb,hg=>by
  have e:b=0:=by lia
  right;refine⟨e,?_⟩;rw[e,Int.gcd_zero_right]at hg;exact hg
 |n+1,a,b,u,v,hn,h0,ha,hb,hg=>by
  unfold yu;by_cases h1:1<b;rw[am h1];have er:a-a / b*b=a%b:=by have:=gy a b;rw[gU]at this;lia
  have r0:=bx a (show b≠0 by lia);have r1:=bp a (show 0<b by lia);have ih:=J4 n b (a-a / b*b) v (u-a / b*v) (by lia) (by lia) hb (by
   let⟨c,hc⟩:=ha;let⟨d,hd⟩:=hb;exact⟨c-a / b*d,by grind⟩) (by
   rwa[Int.gcd_sub_mul_right_right,Int.gcd_comm])
  rcases ih with q |⟨q1,q2⟩;exact .inl q;lia;rw[ap h1];have:b=0\/b=1:=by lia
  rcases this with e |e;right;refine⟨e,?_⟩;rw[e,Int.gcd_zero_right]at hg;exact hg;left;rw[e]at hb;exact hb
end My
set_option exponentiation.threshold 256
namespace My
open PySem PySem.W L2 L2.EV PyProof.Rows
variable {K:gh}
def Fs(φ:Nat->Int):Prop:=∃N,∀i,N<=i->φ i=0
def Dv(s:aG)(F:Nat->Int):Prop:=∃(c:Int)(φ:Nat->Int),c≠0/\Fs φ/\∀i,c*F i=cm s φ i
def Fm(s:aG)(φ ψ:Nat->Int)(i:Nat):cm s (λk=>φ k+ψ k) i=cm s φ i+cm s ψ i:=xb s φ ψ i s.length
def kG(s:aG)(c:Int)(φ:Nat->Int)(i:Nat):cm s (λk=>c*φ k) i=c*cm s φ i:=lY s c φ i s.length
def yY(s:aG)(k:Nat)(φ:Nat->Int)(i:Nat):cm s (λi=>if k<=i then φ (i-k)else 0) i=if k<=i then cm s φ (i-k)else 0:=uX s k φ i s.length
def Fs.add{φ ψ:Nat->Int}(h:Fs φ)(g:Fs ψ):Fs (λk=>φ k+ψ k):=by let⟨N,hN⟩:=h;let⟨M,hM⟩:=g;exact⟨max N M,λi hi=>by show φ i+ψ i=0;rw[hN i<|by lia,hM i<|by lia];rfl⟩
def Fs.Vz{φ:Nat->Int}(h:Fs φ)(c:Int):Fs (λk=>c*φ k):=by let⟨N,hN⟩:=h;exact⟨N,λi hi=>by show c*φ i=0;rw[hN i hi,bV]⟩
def Fs.shift{φ:Nat->Int}(h:Fs φ)(k:Nat):Fs (λi=>if k<=i then φ (i-k)else 0):=by let⟨N,hN⟩:=h;refine⟨N+k,λi hi=>?_⟩;show(if k<=i then φ (i-k)else 0)=0;rw[am<|by lia,hN _<|by lia]
def Dv.add{F G:Nat->Int}(h:Dv s F)(g:Dv s G):Dv s (λi=>F i+G i):=by let⟨c,φ,hc,fφ,e⟩:=h;let⟨d,ψ,hd,fψ,e'⟩:=g;refine⟨c*d,λk=>d*φ k+c*ψ k,bo hc hd,(fφ.Vz d).add<|fψ.Vz c,λi=>?_⟩;rw[Fm,kG,kG,<-e i,<-e' i];grind
def Dv.Vz{F:Nat->Int}(h:Dv s F)(a:Int):Dv s (λi=>a*F i):=by let⟨c,φ,hc,fφ,e⟩:=h;refine⟨c,λk=>a*φ k,hc,fφ.Vz a,λi=>?_⟩;rw[kG,<-e i];grind
def Dv.WL{a:Int}{F:Nat->Int}(ha:a≠0)(h:Dv s (λi=>a*F i)):Dv s F:=by let⟨c,φ,hc,fφ,e⟩:=h;refine⟨c*a,φ,bo hc ha,fφ,λi=>?_⟩;rw[<-e i,gd]
def Dv.shift{F:Nat->Int}(h:Dv s F)(k:Nat):Dv s (λi=>if k<=i then F (i-k)else 0):=by let⟨c,φ,hc,fφ,e⟩:=h;refine⟨c,λi=>if k<=i then φ (i-k)else 0,hc,fφ.shift k,λi=>?_⟩;rw[yY];show c*(if k<=i then F (i-k)else 0)=_;split;exact e _;rw[bV]
def Dv.eq{F G:Nat->Int}(h:Dv s F)(e:∀i,F i=G i):Dv s G:=by rwa[<-funext e]
def Dv.sim{F G:Nat->Int}(h:Dv s F)(g:T2 F G):Dv s G:=by let⟨a,b,ha,hb,e⟩:=g;exact Dv.WL hb<|(h.Vz a).eq e
def Dv.zero(s:aG):Dv s (λ_=>0):=⟨1,λ_=>0,by decide,⟨0,λ_ _=>rfl⟩,λi=>by have:=kG s 0 (λ_=>0) i;simp only[zo]at this;rw[this];rfl⟩
def Dv.self(s:aG):Dv s (co s):=⟨1,λk=>if k=0 then 1 else 0,by decide,⟨1,λi hi=>ap<|by lia⟩,λi=>by show 1*s.getD i 0=mU s (λk=>if k=0 then 1 else 0) i s.length;rw[rz,cY];by_cases h:i<s.length;rw[am ⟨cQ _,by lia⟩,kx];rw[ap<|by lia,bn<|by lia]⟩
def Dv.step{g:aG}(hl:ak g≠0)(hg:Dv s (co g)){S:Nat->Int}(h:Dv s (eh g n S)):Dv s S:=by have h1:=(hg.shift<|n+1-g.length).Vz<|S n*ak g;refine Dv.WL (bo hl hl) ((h.add h1).eq λi=>?_);show(S i*ak g*ak g-(if n+1-g.length<=i then S n*ak g*g.getD (i-(n+1-g.length)) 0 else 0))+S n*ak g*(if n+1-g.length<=i then g.getD (i-(n+1-g.length)) 0 else 0)=_;split<;>grind
def Dv.left{g:aG}(hl:ak g≠0)(hg:Dv s (co g)):∀(n:Nat)(S:Nat->Int),Dv s (cu g n S)->Dv s S
 |0,S,h=>h
 |n+1,S,h=>by
  by_cases q:n+1<g.length;have e:cu g (n+1) S=S:=by show(if n+1<g.length then S else _)=S;rw[am q]
  rw[e]at h;exact h;have e:cu g (n+1) S=cu g n (eh g n S):=by show(if n+1<g.length then S else _)=_;rw[ap q]
  rw[e]at h;exact Dv.step hl hg<|Dv.left hl hg n _ h
theorem I9:∀(n:Nat)(f g:aG),g.length<=n->aY g->Dv (sh f g) (co f)/\Dv (sh f g) (co g)
 |n,f,[],_,_=>⟨Dv.self f,Dv.zero f⟩|0,f,a::g,h,_=>by simp at h
 |n+1,f,a::g,h,rg=>by
  have hg:(a::g)≠[]:=by simp
  have hl:=bG rg hg;have hr:=km (f:=f) hg;let⟨h1,h2⟩:=I9 n (a::g) (eI f<|a::g) (by lia)<|iJ _ _;rw[gE hg];exact⟨Dv.left hl h1 f.length _<|h2.sim<|uW hl,h1⟩
def Ph(s:aG){φ:Nat->Int}(h:∀i,P ∣ φ i)(i:Nat):P ∣ cm s φ i:=by
 have key:∀k,P ∣ mU s φ i k:=by intro k;induction k with|zero=>exact⟨0,by show(0:Int)=P*0;lia⟩|succ k ih=>refine Int.dvd_add ih ?_;split;exact Int.dvd_mul_of_dvd_right<|h _;rw[bV];exact⟨0,by lia⟩
 exact key _
def Vx{s:aG}{j t:Nat}{φ:Nat->Int}(hj:j<s.length)(hs:∀k,j<k->P ∣ s.getD k 0)(hφ:∀k,t<k->P ∣ φ k):P ∣ cm s φ (j+t)-s.getD j 0*φ t:=by
 have key:∀k,P ∣ mU s φ (j+t) k-(if j<k then s.getD j 0*φ t else 0):=by intro k;induction k with|zero=>exact⟨0,by show(0:Int)-_=P*0;rw[ap<|by lia];lia⟩|succ k ih=>show P ∣ mU s φ (j+t) k+s.getD k 0*(if k<=j+t then φ (j+t-k)else 0)-(if j<k+1 then s.getD j 0*φ t else 0);rcases gO k j with q |q |q;rw[ap<|by lia]at ih;rw[ap (show¬j<k+1 by lia),am<|by lia];let⟨a,ha⟩:=ih;let⟨b,hb⟩:=hφ (j+t-k) (by lia);exact⟨a+s.getD k 0*b,by rw[hb];grind⟩;subst q;rw[ap<|by lia]at ih;rw[am<|by lia,am<|by lia,show k+t-k=t by lia];let⟨a,ha⟩:=ih;exact⟨a,by grind⟩;rw[am q]at ih;rw[am (show j<k+1 by lia)];let⟨a,ha⟩:=ih;let⟨b,hb⟩:=hs k q;exact⟨a+b*(if k<=j+t then φ (j+t-k)else 0),by rw[hb];grind⟩
 have:=key s.length;rw[am hj]at this;exact this
def uy{φ:Nat->Int}:∀(N:Nat),(∀i,N<=i->P ∣ φ i)->(∀i,P ∣ φ i)\/∃t,¬P ∣ φ t/\∀k,t<k->P ∣ φ k
 |0,h=>.inl λi=>h i<|cQ _
 |N+1,h=>by
  by_cases q:P ∣ φ N;exact uy N λi hi=>by rcases FQ hi with e |e;rwa[<-e];exact h i e
  exact .inr ⟨N,q,λk hk=>h k hk⟩
def Fs.dvd{φ:Nat->Int}(h:Fs φ)(P:Int):∃N,∀i,N<=i->P ∣ φ i:=by let⟨N,hN⟩:=h;exact⟨N,λi hi=>by rw[hN i hi];exact⟨0,by lia⟩⟩
def QO{s:aG}(hP:Uz P){φ:Nat->Int}(fφ:Fs φ)(hs:∃k,¬(P:Int) ∣ s.getD k 0)(h:∀i,(P:Int) ∣ cm s φ i):∀i,(P:Int) ∣ φ i:=by
 let⟨N,hN⟩:=fφ.dvd P;rcases uy N hN with q |⟨t,ht,hk⟩;exact q;exfalso;have Xq:∀i,s.length<=i->(P:Int) ∣ s.getD i 0:=λi hi=>by rw[bn hi];exact⟨0,by lia⟩
 rcases uy s.length Xq with q |⟨j,hj,hjk⟩;let⟨k,Xs⟩:=hs;exact Xs<|q k;have X5:j<s.length:=by rcases fy j s.length with z |z;exact z;exact absurd (Xq j z) hj
 let⟨a,ha⟩:=Vx X5 hjk hk;let⟨b,hb⟩:=h<|j+t;exact hP.Ul hj ht ⟨b-a,by grind⟩
theorem Cc{s:aG}(hP:Uz P)(hs:∃k,¬(P:Int) ∣ s.getD k 0){F:Nat->Int}:∀(n:Nat)(c:Int)(φ:Nat->Int),c.natAbs<=n->c≠0->Fs φ->(∀i,c*F i=cm s φ i)->∃(c:Int)(φ:Nat->Int),¬(P:Int) ∣ c/\Fs φ/\∀i,c*F i=cm s φ i
 |0,c,φ,h,h0,_,_=>by lia
 |n+1,c,φ,h,h0,fφ,e=>by
  by_cases q:(P:Int) ∣ c;let⟨d,hd⟩:=q;have hφ:=QO hP fφ hs λi=>⟨d*F i,by rw[<-e i,hd,gd]⟩;have p2:=hP.two;have X9:d≠0:=λz=>h0 (by rw[hd,z,bV]);have Uv:d.natAbs<c.natAbs:=by
   rw[hd,cZ,aB];have:1<=d.natAbs:=by lia
   have:=fA d.natAbs p2;lia
  have eφ:∀i,φ i=P*(φ i / P):=λi=>(Tl<|hφ i).symm;let⟨N,hN⟩:=fφ;refine Cc hP hs n d (λi=>φ i / P) (by lia) X9 ⟨N,λi hi=>by show φ i / (P:Int)=0;rw[hN i hi];simp⟩ λi=>?_;have h1:=e i;rw[show φ=λi=>P*(φ i / P)from funext eφ,kG,hd,gd]at h1;exact Int.eq_of_mul_eq_mul_left (by lia) h1;exact⟨c,φ,q,fφ,e⟩
def UE(P:Int)(s:aG)(F:Nat->Int):Prop:=∃(c:Int)(φ:Nat->Int),¬P ∣ c/\Fs φ/\∀i,P ∣ c*F i-cm s φ i
def UE.add(hP:Uz P){F G:Nat->Int}(h:UE P s F)(g:UE P s G):UE P s (λi=>F i+G i):=by let⟨c,φ,hc,fφ,e⟩:=h;let⟨d,ψ,hd,fψ,e'⟩:=g;refine⟨c*d,λk=>d*φ k+c*ψ k,hP.Ul hc hd,(fφ.Vz d).add<|fψ.Vz c,λi=>?_⟩;rw[Fm,kG,kG];let⟨a,ha⟩:=e i;let⟨b,hb⟩:=e' i;exact⟨d*a+c*b,by grind⟩
def UE.Vz{F:Nat->Int}(h:UE P s F)(a:Int):UE P s (λi=>a*F i):=by let⟨c,φ,hc,fφ,e⟩:=h;refine⟨c,λk=>a*φ k,hc,fφ.Vz a,λi=>?_⟩;rw[kG];let⟨b,hb⟩:=e i;exact⟨a*b,by grind⟩
def UE.shift{F:Nat->Int}(h:UE P s F)(k:Nat):UE P s (λi=>if k<=i then F (i-k)else 0):=by let⟨c,φ,hc,fφ,e⟩:=h;refine⟨c,λi=>if k<=i then φ (i-k)else 0,hc,fφ.shift k,λi=>?_⟩;rw[yY];show P ∣ c*(if k<=i then F (i-k)else 0)-_;split;exact e _;exact⟨0,by lia⟩
def UE.mod{F G:Nat->Int}(h:UE P s F)(g:∀i,P ∣ F i-G i):UE P s G:=by let⟨c,φ,hc,fφ,e⟩:=h;refine⟨c,φ,hc,fφ,λi=>?_⟩;let⟨a,ha⟩:=e i;let⟨b,hb⟩:=g i;exact⟨a-c*b,by grind⟩
def UE.len{d:aG}(hP:Uz P)(hs:¬(P:Int) ∣ ak s)(hn:d≠[])(hd:¬(P:Int) ∣ ak d)(h:UE P s (co d)):s.length<=d.length:=by
 let⟨c,φ,hc,fφ,e⟩:=h;rcases fy d.length s.length with q |q;exfalso;have XS:s≠[]:=λz=>by rw[z]at q;simp at q
 let⟨N,hN⟩:=fφ.dvd P;rcases uy N hN with z |⟨t,ht,hk⟩;let⟨a,ha⟩:=e<|d.length-1;let⟨b,hb⟩:=Ph s z<|d.length-1;have el:co d (d.length-1)=ak d:=bW hn;rw[el]at ha;exact hP.Ul hc hd ⟨a+b,by grind⟩;have el:=bW XS;have hsl:s.length-1<s.length:=by lia
 let⟨a,ha⟩:=Vx hsl (λk hk=>by rw[bn<|by lia];exact⟨0,by lia⟩) hk;let⟨b,hb⟩:=e<|s.length-1+t;have ez:co d (s.length-1+t)=0:=bn (by lia);rw[ez]at hb;rw[el]at ha;exact hP.Ul hs ht ⟨-(a+b),by grind⟩;exact q
theorem Dm{s s':aG}{a b:Int}(h:∀i,a*s'.getD i 0=b*s.getD i 0)(φ:Nat->Int)(p:Nat):∀k,a*mU s' φ p k=b*mU s φ p k|0=>by show a*0=b*0;lia|k+1=>by show a*(mU s' φ p k+s'.getD k 0*(if k<=p then φ (p-k)else 0))=b*(mU s φ p k+s.getD k 0*(if k<=p then φ (p-k)else 0));have h1:=Dm h φ p k;have h2:=h k;generalize(if k<=p then φ (p-k)else 0)=y;rw[KZ,KZ,h1,<-gd,<-gd,h2]
def Dv.list{s:aG}{F:Nat->Int}(h:Dv s' F)(hl:s'.length=s.length)(hs:T2 (co s') (co s)):Dv s F:=by
 let⟨c,φ,hc,fφ,e⟩:=h;let⟨a,b,ha,hb,q⟩:=hs;refine⟨c*a,λk=>b*φ k,bo hc ha,fφ.Vz b,λi=>?_⟩;rw[kG];have h1:=Dm q φ i s.length;have h2:=e i;have h3:a*cm s' φ i=b*cm s φ i:=by show a*mU s' φ i s'.length=b*mU s φ i s.length;rwa[hl]
 rw[<-h3,<-h2];grind
def OX(f:aG)(h:∀x∈f,d ∣ x.natAbs):d ∣ gl f:=by
 have key:∀(l:aG)a,d ∣ a->(∀x∈l,d ∣ x.natAbs)->d ∣ l.foldl (λg x=>Nat.gcd g x.natAbs) a:=by intro l;induction l with|nil=>intro a ha _;exact ha|cons b l ih=>intro a ha hl;exact ih _ (Nat.dvd_gcd ha<|hl b<|by simp) λx hx=>hl x<|by simp[hx]
 exact key f 0 (Nat.dvd_zero d) h
def OW{f:aG}{x:Int}(hx:x∈f):gl f ∣ x.natAbs:=by
 have key:∀(l:aG)a,(l.foldl (λg x=>Nat.gcd g x.natAbs) a) ∣ a/\∀z∈l,(l.foldl (λg x=>Nat.gcd g x.natAbs) a) ∣ z.natAbs:=by intro l;induction l with|nil=>intro a;exact⟨Il _,λ_ h=>(nomatch h)⟩|cons b l ih=>intro a;let⟨k1,k2⟩:=ih<|Nat.gcd a b.natAbs;rw[List.foldl_cons];refine⟨iY k1<|eR _ _,λz hz=>?_⟩;rcases aO.mp hz with e |hz;subst e;exact iY k1<|fc _ _;exact k2 z hz
 exact(key f 0).2 x hx
def DB{P:Nat}{f:aG}(h2:2<=P)(hg:gl f≠0):∃k,¬(P:Int) ∣ (gz f).getD k 0:=by
 apply kC;intro hn;have Wb:∀x∈f,P*gl f ∣ x.natAbs:=λx hx=>by
  obtain⟨k,hk,rfl⟩:=Tx hx;have h1:=kC λz=>hn ⟨k,z⟩;have e:(gz f).getD k 0=(f[k]).fdiv (gl f:Int):=by unfold gz;rw[ag,aH,ar hk];rfl
  rw[e,tW _<|by lia]at h1;have hd:=dP.mpr<|OW hx;let⟨c,hc⟩:=h1;have e2:=Tl hd;rw[hc]at e2;refine dP.mp ⟨c,?_⟩;rw[<-e2,dR];grind
 have h3:=OX f Wb;have h4:P*gl f<=gl f:=Nat.le_of_dvd (by lia) h3;have h5:2*gl f<=P*gl f:=fA _ h2;lia
def HA{s f:aG}(hP:Uz P)(hs:s≠[])(hf:f≠[])(ls:ak s≠0)(lf:¬(P:Int) ∣ ak f){φ:Nat->Int}(hc:¬(P:Int) ∣ c)(fφ:Fs φ)(e:∀i,c*co f i=cm s φ i):¬(P:Int) ∣ ak s:=by
 have top:(∀i,φ i=0)\/∃t,φ t≠0/\∀k,t<k->φ k=0:=by
  let⟨N,hN⟩:=fφ;induction N with
  |zero=>exact .inl λi=>hN i<|cQ _
  |succ N ih=>
   by_cases q:φ N=0;exact ih λi hi=>by rcases FQ hi with z |z;rwa[<-z];exact hN i z
   exact .inr ⟨N,q,λk hk=>hN k hk⟩
 have el:co f (f.length-1)=ak f:=bW hf;have nz:c*ak f≠0:=λz=>by
  have h1:(P:Int) ∣ c*ak f:=by rw[z];exact⟨0,by lia⟩
  exact hP.Ul hc lf h1
 have h0:=e<|f.length-1;rw[el]at h0;rcases top with z |⟨t,ht,hk⟩;exfalso;refine nz ?_;rw[h0];exact um s φ (f.length-1) 0 (λi _=>z i) 0 (cQ _)|>λ_=>by
  have:∀k,mU s φ (f.length-1) k=0:=by intro k;induction k with|zero=>rfl|succ k ih=>show mU s φ _ k+s.getD k 0*(if k<=_ then φ _ else 0)=0;rw[ih];split;rw[z];lia;lia
  exact this _
 have h1:=e<|t+(s.length-1);rw[Fl hs φ t hk]at h1;have h2:=bo ls ht;have le1:t+(s.length-1)<=f.length-1:=by rcases fy (f.length-1) (t+(s.length-1))with q |q;exfalso;have:co f (t+(s.length-1))=0:=bn (by lia);rw[this,bV]at h1;exact h2 h1.symm;exact q
 have le2:f.length-1<=t+(s.length-1):=by rcases fy (t+(s.length-1)) (f.length-1)with q |q;exfalso;have:cm s φ (f.length-1)=0:=um s φ (f.length-1) t hk s.length (by lia);rw[this]at h0;exact nz h0;exact q
 have e3:t+(s.length-1)=f.length-1:=by lia
 rw[e3,el]at h1;intro z;refine hP.Ul hc lf ?_;rw[h1];exact Int.dvd_mul_of_dvd_left z
def EJ{d:aG}(hP:Uz P)(rf:aY f)(rg:aY g)(hf:f≠[])(lf:¬(P:Int) ∣ ak f)(hd:d≠[])(ld:¬(P:Int) ∣ ak d)(h:∀s,UE P s (co f)->UE P s (co g)->UE P s (co d)):(sh f g).length<=d.length:=by
 have hk:=pE rf rg;let⟨d1,d2⟩:=I9 g.length f g (aq _) rg;have XS:sh f g≠[]:=λz=>by let⟨c,φ,hc,fφ,e⟩:=d1;have el:co f (f.length-1)=ak f:=bW hf;have h0:=e<|f.length-1;rw[z,el]at h0;have h1:=h0;rcases iW.mp h1 with q |q;exact hc q;exact lf<|by rw[q];exact⟨0,by lia⟩
 have hg0:=m5 hk XS;have ll:=nR<|sh f g;have hs:gz (sh f g)≠[]:=λz=>by rw[z]at ll;exact XS<|aw ll.symm
 have fr:=DB hP.two hg0;let⟨c1,φ1,VG,f1,e1⟩:=d1.list ll.symm<|yc _ hk;let⟨c2,φ2,VM,f2,e2⟩:=d2.list ll.symm<|yc _ hk;let⟨a1,ψ1,ha1,g1,k1⟩:=Cc hP fr c1.natAbs c1 φ1 (aq _) VG f1 e1;let⟨a2,ψ2,ha2,g2,k2⟩:=Cc hP fr c2.natAbs c2 φ2 (aq _) VM f2 e2;have ls:=HA hP hs hf (yb hk XS) lf ha1 g1 k1;have m1:UE P (gz<|sh f g) (co f):=⟨a1,ψ1,ha1,g1,λi=>by rw[k1 i];exact⟨0,by lia⟩⟩;have m2:UE P (gz<|sh f g) (co g):=⟨a2,ψ2,ha2,g2,λi=>by rw[k2 i];exact⟨0,by lia⟩⟩;have:=UE.len hP ls hd ld<|h _ m1 m2;rw[ll]at this;exact this
def Hc{f g:aG}(ru:aY u)(rv:aY v)(rr:aY r)(hr:r≠[])(ef:f=a8 u r)(eg:g=a8 v r)(X7:sh f g≠[])(hl:(sh f g).length<=r.length):a9 (sh f g)=a9 r:=by
 have h1:=C3 rr hr v.length u v (aq _) rv;rw[<-ef,<-eg]at h1;have k1:aY (sh f g):=by rw[ef,eg];exact pE (fT _)<|fT _
 have k2:=pE ru rv;have hn:sh u v≠[]:=λz=>by rw[z,uQ]at h1;have:=t6 k1 (.inl rfl) h1;exact X7<|aw this
 have h2:(sh f g).length=(a8 (sh u v) r).length:=t6 k1 (fT _) h1;have h3:=(jz k2 rr hn hr).1;rw[h3]at h2;have hnp:=az.mpr hn;have h4:(sh u v).length=1:=by lia
 obtain⟨a,ha⟩:∃a,sh u v=[a]:=Sx.mp h4;have YE:a≠0:=by have:=bG k2 hn;rw[ha]at this;exact this
 refine lM k1 rr<|h1.trans ?_;refine T2.scale YE λi=>?_;rw[ha];have:=gx (uD [a] r) i;rw[show a8 [a] r=a8 r [a]from xy _ _];have h5:=gx (uD r [a]) i;show(a8 r [a]).getD i 0=a*r.getD i 0;have h6:(a8 r [a]).getD i 0=cm [a] (co r) i:=h5;rw[h6];show 0+a*(if 0<=i then co r (i-0)else 0)=_;rw[am<|cQ _,kx,iQ]
def wv(P x:Int):Int:=yu (x%P).toNat P (x%P) 0 1%P
def L8(hP:Uz P)(hx:¬(P:Int) ∣ x):(P:Int) ∣ 1-wv P x*x:=by
 have p2:=hP.two;have hPp:0<P:=by lia
 have r0:=bx x (show(P:Int)≠0 by lia);have U1:¬(P:Int) ∣ x%P:=λz=>hx<|mB<|by have:=Rx z;rw[Int.emod_emod_of_dvd x<|Int.dvd_refl _]at this;exact this
 have hg:Int.gcd P (x%P)=1:=by
  have hd:Int.gcd P (x%P) ∣ P:=by have:=Int.gcd_dvd_natAbs_left P<|x%P;rw[aB]at this;exact this
  rcases hP.no _ hd with e |e;exact e;exfalso;have:=Int.gcd_dvd_right (a:=(P:Int)) (b:=x%P);rw[e]at this;exact U1 this
 rcases J4 (P:=(P:Int)) (x:=x%P) (x%P).toNat P (x%P) 0 1 (aq _) r0 ⟨1,by lia⟩ ⟨0,by lia⟩ hg with q |⟨q,_⟩;unfold wv;generalize yu (x%P).toNat P (x%P) 0 1=v at q;let⟨a,ha⟩:=q;have e1:=gy x P;have e2:=gy v P;exact⟨a-(v%P)*(x / P)+(v / P)*(x%P),by grind⟩;exact absurd (by rw[q];exact⟨0,by lia⟩) U1
def ir(P:Int)(g:aG):aG:=g.map λx=>x*wv P (ak g)%P
def u0(P x:Int):P ∣ x-x%P:=⟨x / P,by have:=gy x P;lia⟩
def JP(P:Int)(g:aG)(i:Nat):P ∣ wv P (ak g)*co g i-co (ir P g) i:=by
 have e:co (ir P g) i=co g i*wv P (ak g)%P:=by show(g.map _).getD i 0=_;rw[jb<|by simp]
 rw[e,gU];exact u0 _ _
def Hq{g:aG}(hP:Uz P)(hg:g≠[])(hl:¬(P:Int) ∣ ak g):ak (ir P g)=1:=by
 have p2:=hP.two;unfold ir;rw[lN g _<|by simp];let⟨a,ha⟩:=L8 hP hl;have e:ak g*wv P (ak g)=1+P*(-a):=by grind
 rw[e,PF,Int.emod_eq_of_lt (by decide)<|by lia]
def pY(P:Int)(g r:aG)(top:Int):aG:=(List.range r.length).map λi=>if r.length-(g.length-1)<=i then(r.getD i 0-top*g.getD (i-(r.length-(g.length-1))) 0)%P else r.getD i 0
def gY(P:Int)(g:aG):Nat->aG->aG|0,r=>r|n+1,r=>if g.length<=r.length then gY P g n (pY P g r.dropLast<|ak r)else r
def nH(P:Int)(g r:aG)(top:Int):(pY P g r top).length=r.length:=by unfold pY;rw[ae,fJ]
theorem G9{g r:aG}{top:Int}(P:Int)(hg:g≠[])(h1:ak g=1)(hl:g.length<=r.length+1)(i:Nat):P ∣ co (r++[top]) i-top*(if r.length-(g.length-1)<=i then co g (i-(r.length-(g.length-1)))else 0)-co (pY P g r top) i:=by
 have el:=bW hg;have e:co (pY P g r top) i=if i<r.length then(if r.length-(g.length-1)<=i then(r.getD i 0-top*g.getD (i-(r.length-(g.length-1))) 0)%P else r.getD i 0)else 0:=by show((List.range r.length).map _).getD i 0=_;rw[ag,aH];by_cases hi:i<r.length;rw[cq hi,am hi];rfl;rw[bQ<|by simpa using hi,ap hi];rfl
 rw[e];rcases gO i r.length with q |q |q;have ec:co (r++[top]) i=r.getD i 0:=by show(r++[top]).getD i 0=_;rw[ag,bj q,<-ag]
 rw[ec,am q];by_cases h:r.length-(g.length-1)<=i;rw[am h,am h];exact u0 _ _;rw[ap h,ap h];exact⟨0,by lia⟩;subst q;have ec:co (r++[top]) r.length=top:=by show(r++[top]).getD r.length 0=_;rw[ag,aX<|aq _,gc];rfl
 have eg:co g (r.length-(r.length-(g.length-1)))=1:=by rw[show r.length-(r.length-(g.length-1))=g.length-1 by lia];show g.getD (g.length-1) 0=1;rw[el,h1]
 rw[ec,ap<|eY _,am<|by lia,eg];exact⟨0,by lia⟩;have ec:co (r++[top]) i=0:=bn (by simp;lia);have eg:co g (i-(r.length-(g.length-1)))=0:=bn (by lia);rw[ec,eg,ap (show¬i<r.length by lia)];refine⟨0,?_⟩;split<;>lia
theorem Dh{g:aG}(hP:Uz P)(hg:g≠[])(h1:ak g=1)(dg:UE P s (co g)):∀(n:Nat)(r:aG),UE P s (co r)->UE P s (co<|gY P g n r)
 |0,r,h=>h
 |n+1,r,h=>by
  unfold gY;split;rename_i q;have hr:r≠[]:=λz=>by rw[z]at q;simp at q;exact hg q
  have er:r=r.dropLast++[ak r]:=by
   have:=qZ hr
   conv=>lhs;rw[<-this]
   congr 1;have e:=bW hr;rw[<-e,ag,wN,ar<|by have:=az.mpr hr;lia];rfl
  have hl:r.dropLast.length+1=r.length:=by have:=bi List.length er;rw[aJ]at this;simpa using this.symm
  refine Dh hP hg h1 dg n _ ?_;have d2:=(dg.shift<|r.dropLast.length-(g.length-1)).Vz (-(ak r));have d3:UE P s (co<|r.dropLast++[ak r]):=by rwa[<-er]
  refine(UE.add hP d3 d2).mod λi=>?_;have:=G9 (P:=(P:Int)) (r:=r.dropLast) (top:=ak r) hg h1 (by lia) i;let⟨a,ha⟩:=this;exact⟨a,by rw[<-ha];grind⟩;exact h
def gn(P:Int):Nat->aG->aG->aG|0,f,_=>f|n+1,f,g=>if g=[]then f else gn P n (ir P g)<|c8<|gY P (ir P g) f.length f
def Vq(P:Int)(f:aG):Prop:=aY f/\∀x∈f,0<=x/\x<P
def Vq.last(h:Vq P f)(hf:f≠[]):¬(P:Int) ∣ ak f:=λz=>by
 have hl:=bG h.1 hf;have hm:ak f∈f:=by have e:=bW hf;have hp:=az.mpr hf;rw[<-e,ag,ar<|by lia];exact dX _
 let⟨h0,h1⟩:=h.2 _ hm;have:=Int.le_of_dvd (by lia) z;lia
def FW(f:aG):co (c8 f)=co f:=funext λi=>lG f i
theorem xT{P:Int}(hP:0<P)(g:aG):∀(n:Nat)(r:aG),(∀x∈r,0<=x/\x<P)->∀x∈gY P g n r,0<=x/\x<P|0,r,h=>h|n+1,r,h=>by unfold gY;split;refine xT hP g n _ λx hx=>?_;obtain⟨i,hi,rfl⟩:=dq.mp hx;have VF:=cc.mp hi;by_cases hz:r.dropLast.length-(g.length-1)<=i;simp only[am hz];exact⟨bx _<|by lia,bp _ hP⟩;simp only[ap hz];rw[ag,ar VF];exact h _<|(AB r).subset<|dX VF;exact h
def qo(P:Int)(g:aG):(ir P g).length=g.length:=by unfold ir;rw[ae]
theorem rq{g:aG}:∀(n:Nat)(r:aG),r.length<=n->0<g.length->(gY P g n r).length<g.length|0,r,h,hg=>by show r.length<g.length;lia|n+1,r,h,hg=>by unfold gY;split;exact rq n _ (by rw[nH,gR];lia) hg;lia
def BM(hP:Uz P)(h:Vq P g)(hg:g≠[]):Vq P (ir P g)/\ak (ir P g)=1:=by
 have p2:=hP.two;have h1:=Hq hP hg<|h.last hg;have hn:ir P g≠[]:=λz=>by have:=qo P g;rw[z]at this;exact hg<|aw this.symm
 refine⟨⟨?_,λx hx=>?_⟩,h1⟩;right;refine⟨(ir P g).dropLast,ak<|ir P g,?_,by rw[h1];decide⟩;have:=qZ hn
 conv=>lhs;rw[<-this]
 congr 1;have e:=bW hn;rw[<-e,ag,wN,ar<|by have:=az.mpr hn;lia];rfl;obtain⟨y,_,rfl⟩:=dq.mp hx;exact⟨bx _<|by lia,bp _<|by lia⟩
theorem sT(hP:Uz P):∀(n:Nat)(f g:aG),g.length<=n->Vq P f->Vq P g->f≠[]->gn P n f g≠[]/\Vq P (gn P n f g)/\(∀s,UE P s (co f)->UE P s (co g)->UE P s (co<|gn P n f g))
 |0,f,g,h,hf,hg,hn=>⟨hn,hf,λs d1 d2=>d1⟩
 |n+1,f,g,h,hf,hg,hn=>by
  unfold gn;split;exact⟨hn,hf,λs d1 d2=>d1⟩;rename_i q;have p2:=hP.two;let⟨m1,m2⟩:=BM hP hg q;have ml:=qo P g;have gp:=az.mpr q;have mn:ir P g≠[]:=λz=>by rw[z]at ml;exact q<|aw ml.symm
  have rl:=rq (P:=(P:Int)) (g:=ir P g) f.length f (aq _) (by lia);have tl:=iZ<|gY P (ir P g) f.length f;have ri:Vq P (c8<|gY P (ir P g) f.length f):=⟨fT _,λx hx=>xT (by lia) _ _ _ hf.2 x<|ya hx⟩;let⟨k1,k2,k3⟩:=sT hP n (ir P g) (c8<|gY P (ir P g) f.length f) (by lia) m1 ri mn;refine⟨k1,k2,λs d1 d2=>?_⟩;have dm:=(d2.Vz<|wv P<|ak g).mod λi=>JP P g i;refine k3 s dm ?_;rw[FW];exact Dh hP mn m2 dm _ _ d1
def fE(P:Int)(f:aG):aG:=f.map λx=>x%P
def Gy(P:Int)(f:aG)(i:Nat):P ∣ co f i-co (fE P f) i:=by
 have e:co (fE P f) i=co f i%P:=by show(f.map _).getD i 0=_;rw[jb<|by simp]
 rw[e];exact u0 _ _
def lJ{f:aG}(hf:f≠[]):f=f.dropLast++[ak f]:=by
 have:=qZ hf
 conv=>lhs;rw[<-this]
 congr 1;have e:=bW hf;rw[<-e,ag,wN,ar<|by have:=az.mpr hf;lia];rfl
def rD{f:aG}(hP:Uz P)(hf:f≠[])(hl:¬(P:Int) ∣ ak f):Vq P (fE P f)/\fE P f≠[]:=by
 have p2:=hP.two;have hn:fE P f≠[]:=λz=>by unfold fE at z;exact hf<|Tw.mp z
 have h1:ak (fE P f)=ak f%P:=lN f (λx=>x%P) (by simp);refine⟨⟨.inr ⟨_,_,lJ hn,?_⟩,λx hx=>?_⟩,hn⟩;rw[h1];exactλz=>hl<|mB z;obtain⟨y,_,rfl⟩:=dq.mp hx;exact⟨bx _<|by lia,bp _<|by lia⟩
def Eb(hP:Uz P)(rf:aY f)(rg:aY g)(hf:f≠[])(hg:g≠[])(lf:¬(P:Int) ∣ ak f)(lg:¬(P:Int) ∣ ak g):(sh f g).length<=(gn P (fE P g).length (fE P f)<|fE P g).length/\gn P (fE P g).length (fE P f) (fE P g)≠[]:=by let⟨i1,n1⟩:=rD hP hf lf;let⟨i2,n2⟩:=rD hP hg lg;let⟨k1,k2,k3⟩:=sT hP (fE P g).length (fE P f) (fE P g) (aq _) i1 i2 n1;exact⟨EJ hP rf rg hf lf k1 (k2.last k1) λs d1 d2=>k3 s (d1.mod<|Gy P f)<|d2.mod<|Gy P g,k1⟩
def I0{f:aG}(rg:aY g)(hf:f≠[])(lf:ak f≠0):sh f g≠[]:=λz=>by let⟨⟨c,φ,hc,fφ,e⟩,_⟩:=I9 g.length f g (aq _) rg;have el:co f (f.length-1)=ak f:=bW hf;have h0:=e<|f.length-1;rw[z,el]at h0;have h1:=h0;rcases iW.mp h1 with q |q;exact hc q;exact lf q
def AX(rr:aY r)(h:r.length=1):a9 r=[1]:=by
 let⟨a,ha⟩:=Sx.mp h;have YE:a≠0:=by have:=bG rr (by rw[ha];simp);rw[ha]at this;exact this
 have e:a9 [1]=[1]:=rfl;rw[<-e];refine lM rr (.inr ⟨[],1,rfl,by decide⟩) (T2.scale YE λi=>?_);rw[ha]
 match i with|0=>show a=a*1;lia|i+1=>show 0=a*0;lia
def Cm(hP:Uz P)(rf:aY f)(rg:aY g)(hf:f≠[])(hg:g≠[])(lf:¬(P:Int) ∣ ak f)(lg:¬(P:Int) ∣ ak g)(h:(gn P (fE P g).length (fE P f)<|fE P g).length=1):a9 (sh f g)=[1]:=by have h1:=(Eb hP rf rg hf hg lf lg).1;have h2:=I0 rg hf<|bG rf hf;have h3:=az.mpr h2;exact AX (pE rf rg)<|by lia
def Ck(hP:Uz P)(rf:aY f)(rg:aY g)(hf:f≠[])(hg:g≠[])(lf:¬(P:Int) ∣ ak f)(lg:¬(P:Int) ∣ ak g)(ru:aY u)(rv:aY v)(rr:aY r)(hl:r.length=(gn P (fE P g).length (fE P f)<|fE P g).length)(ef:f=a8 u r)(eg:g=a8 v r):a9 (sh f g)=a9 r:=by
 let⟨h1,h0⟩:=Eb hP rf rg hf hg lf lg;have hr:r≠[]:=λz=>by rw[z]at hl;exact h0<|aw hl.symm
 exact Hc ru rv rr hr ef eg (I0 rg hf<|bG rf hf)<|by lia
def Ih(P:Nat):Prop:=Uz P/\P<2 ^ 4423
def Qy{x y:Int}(hx:x.natAbs<2 ^ 4423)(hy:y.natAbs<2 ^ 4423):IntMulOk x y:=dz (by decide) hx hy
structure Iv(P:Nat)(a b u v:Int):Prop where
 b0:0<=b
 a0:0<a
 sg:u*v<=0
 sm:a*(v.natAbs:Int)+b*(u.natAbs:Int)=P
 aP:a<=P
def Iv.next(h:Iv P a b u v)(hb:1<b)(hbP:b<=P):Iv P b (a-a / b*b) v (u-a / b*v):=by
 have h0:=h.a0;have er:a-a / b*b=a%b:=by have:=gy a b;rw[gU]at this;lia
 have r0:=bx a (show b≠0 by lia);have m0:0<=a / b:=Int.ediv_nonneg (by lia) (by lia);have sg:=h.sg;have sm:=h.sm;have key:((u-a / b*v).natAbs:Int)=u.natAbs+a / b*v.natAbs:=by
  generalize a / b=m at m0;rcases Ip 0 u with hu |hu;rcases Ip 0 v with hv |hv;have z:=Int.le_antisymm sg<|iA hu hv;rcases iW.mp z with e |e;subst e;have e1:=gT hv;rw[e1,zn,CJ,gT<|iA m0 hv];simp;subst e;simp;have e1:v.natAbs=-v:=by lia
  have e2:0<=-(m*v):=by rw[<-pT];exact iA m0<|by lia
  rw[e1,gT<|by lia,gT hu,pT];lia;rcases Ip 0 v with hv |hv;have e1:=gT hv;have e2:=iA m0 hv;rw[e1];lia;have z:=Int.le_antisymm sg<|FR hu hv;rcases iW.mp z with e |e;subst e;have e1:v.natAbs=-v:=by lia
  have e2:0<=-(m*v):=by rw[<-pT];exact iA m0<|by lia
  rw[e1,zn,gT e2,pT];simp;subst e;simp
 refine⟨by lia,by lia,?_,?_,hbP⟩;have:v*(u-a / b*v)=u*v-a / b*(v*v):=by grind
 have q:=iA m0<|by rcases Ip 0 v with z |z;exact iA z z;exact FR z z
 lia;rw[key];grind
def Iv.bd(h:Iv P a b u v)(hP:P<2 ^ 4423):v.natAbs<2 ^ 4423:=by have h0:=h.a0;have sm:=h.sm;have q1:0<=b*u.natAbs:=iA h.b0 (by lia);have q2:1*v.natAbs<=a*v.natAbs:=Int.mul_le_mul_of_nonneg_right (by lia) (by lia);lia
theorem DR{X:Cx}{P:Nat}(R:Int->Int->Int->Int->fx)(h1:∀(a b u v:Int),TC X (R a b u v) c<|decide<|1<b)(h2:∀(a b u v:Int),1<b->b<=(P:Int)->Iv P a b u v->TB X (R a b u v) body (.nx<|R b (a-a / b*b) v<|u-a / b*v)):∀(n:Nat)(a b u v:Int),b.toNat<=n->b<=(P:Int)->Iv P a b u v->∃(m:Nat)(q:Int×Int×Int),Ui X c body m (R a b u v) (.nx<|R q.1 q.2.1 q.2.2<|yu n a b u v)
 |0,a,b,u,v,hn,hb,hi=>⟨0,(a,b,u),.stop<|TC.eq (h1 a b u v)<|ah<|by lia⟩
 |n+1,a,b,u,v,hn,hb,hi=>by
  unfold yu;by_cases q:1<b;rw[am q];have er:a-a / b*b=a%b:=by have:=gy a b;rw[gU]at this;lia
  have r1:=bp a (show 0<b by lia);let⟨m,q',w⟩:=DR R h1 h2 n b (a-a / b*b) v (u-a / b*v) (by lia) (by lia)<|hi.next q hb;exact⟨m+1,q',.step (TC.eq (h1 a b u v)<|av q) (h2 a b u v q hb hi) w⟩;rw[ap q];exact⟨0,(a,b,u),.stop<|TC.eq (h1 a b u v)<|ah q⟩
def pj(ds:bX)(d:D):Prop:=∃(x:Int)(P:Nat),ds=[.int x,.int P]/\Ih P/\d=.int (wv P x)
def yk:∀ds d,pj ds d->ds.length=2:=by rintro _ _ ⟨a,b,rfl,_⟩;rfl
def Lo(P:Int)(f:aG):Prop:=∀x∈f,0<=x/\x<P
def pc(ds:bX)(d:D):Prop:=∃(g:aG)(P:Nat),ds=[ba g,.int P]/\Ih P/\g≠[]/\g.length<100/\Lo P g/\d=ba (ir P g)
def yi:∀ds d,pc ds d->ds.length=2:=by rintro _ _ ⟨a,b,rfl,_⟩;rfl
def L9(h:Ih P)(x:Int):0<=wv P x/\wv P x<P:=by have:=h.1.two;exact⟨bx _<|by lia,bp _<|by lia⟩
def DC{x:Int}(h:Ih P)(hx:0<=x/\x<P):x.natAbs<2 ^ 4423:=by have:=h.2;lia
def HK{X:Cx}{rest:List Stmt}{α:Type}(t:At X N sc){R:α->fx}(h:∃(m:Nat)(q:α),Ui X c body m U<|.nx<|R q)(h2:∀q,TB X (R q) rest o):TB X U (.While c body [] pos::rest) o:=by let⟨m,q,w⟩:=h;exact ao (gs t ⟨m,w⟩)<|h2 q
section
variable {X:Cx}
theorem Cs(h:c7 P w K mg base k oV k9 X):Go X oV k9 pj:=by
 rintro ds d ⟨x,p,rfl,hp,rfl⟩;have t:=h.at';haveI:=h.T6;have p2:=hp.1.two;have pb:=hp.2;have r0:=bx x (show(p:Int)≠0 by lia);have r1:=bp x (show(0:Int)<p by lia);have iv:Iv p p (x%p) 0 1:=⟨r0,by lia,by decide,by simp,by lia⟩;refine ao (kj t (bw<|ac (aa t 1)<|ac (bN (aa t 0) (aa t 1)<|by lia)<|ac af<|ac af ai)<|jf t<|bq (aZ t 2)<|bq (aZ t 3)<|bq (aZ t 4)<|bq (aZ t 5) gJ) ?_;refine HK t (DR (λa b u v=>[.val<|.int x,.val<|.int p,.val<|.int a,.val<|.int b,.val<|.int u,.val<|.int v,.un]) (λa b u v=>?_) (λa b u v hb hbp hi=>?_) (x%p).toNat p (x%p) 0 1 (aq _) (by lia) iv) λq=>?_;exact TC.eq (qB (aa t 3) af) rfl;have YE:=hi.a0;have haP:=hi.aP;have m0:0<=a / b:=Int.ediv_nonneg (by lia) (by lia);have m1:a / b<=a:=Int.ediv_le_self _ (by lia);have vb:=hi.bd hp.2;have mb:(a / b).natAbs<2 ^ 4423:=by lia
 refine TB.weak (ao (bC t 6<|gv t (aa t 2) (aa t 3)<|by lia)<|aA<|kj t (bw<|ac (aa t 3)<|ac (dD (aa t 2)<|bc (aa t 6) (aa t 3)<|Qy mb<|by lia)<|ac (aa t 5)<|ac (dD (aa t 4)<|bc (aa t 6) (aa t 5)<|Qy mb vb) ai)<|jf t<|bq (aZ t 2)<|bq (aZ t 3)<|bq (aZ t 4)<|bq (aZ t 5) gJ)<|.keep<|.keep<|.keep<|.keep<|.keep<|.keep<|.forget .nil;exact aA<|aW<|bN (aa t 5) (aa t 1)<|by lia
def Cq(h:c7 P w K mg base k oS k7 X)(cI:Callee X "inverse_of" pj):Go X oS k7 pc:=by rintro ds d ⟨g,p,rfl,hp,hg,hl,lo,rfl⟩;have t:=h.at';haveI:=h.T6;have iv:=L9 hp<|ak g;refine ao (bC t 2<|au t cI (ac (aF (Tz.ql<|aa t 0) (dy af)<|eB hg)<|ac (aa t 1) ai) ⟨_,p,rfl,hp,rfl⟩) ?_;refine aA<|aW<|T1.Ux (fG t ["numbers","prime","scale","number"] (Ah rfl) (m7<|aa t 0) (by rw[ae];exact fV<|by lia) λX' cx=>?_);have t':=cx.at';exact TU.ints (λx=>x*wv p (ak g)%p) (λx=>[.val<|ba g,.val<|.int p,.val<|.int<|wv p<|ak g,.val<|.int x]) (λd hd=>bE t' 3) (λd hd e he=>bE t' 3) λd hd=>bN (bc (aa t' 3 rfl) (aa t' 2 rfl)<|Qy (DC hp<|lo d hd)<|DC hp iv) (aa t' 1 rfl)<|by lia
end
def stepI(P:Int)(g r:aG)(top:Int)(i:Nat):aG:=(List.range r.length).map λj=>if r.length-(g.length-1)<=j/\j<r.length-(g.length-1)+i then(r.getD j 0-top*g.getD (j-(r.length-(g.length-1))) 0)%P else r.getD j 0
def hV(P:Int)(g r:aG)(top:Int)(i:Nat):(stepI P g r top i).length=r.length:=by unfold stepI;rw[ae,fJ]
def nI{r:aG}{top:Int}{j:Nat}(h:j<r.length):(stepI P g r top i).getD j 0=if r.length-(g.length-1)<=j/\j<r.length-(g.length-1)+i then(r.getD j 0-top*g.getD (j-(r.length-(g.length-1))) 0)%P else r.getD j 0:=by unfold stepI;rw[ag,aH,cq h];rfl
def nS{f g:aG}(hl:f.length=g.length)(h:∀j,j<f.length->f.getD j 0=g.getD j 0):f=g:=by refine wQ hl λj h1 h2=>?_;have:=h j h1;rw[ag,ar h1,ag,ar h2]at this;exact this
def EG(P:Int)(g r:aG)(top:Int):stepI P g r top 0=r:=by refine nS (hV _ _ _ _ _) λj hj=>?_;rw[hV]at hj;rw[nI hj,ap<|by lia]
def Ha{g r:aG}(P:Int)(top:Int)(h:g.length-1<=r.length):stepI P g r top (g.length-1)=pY P g r top:=by refine nS (by rw[hV,nH]) λj hj=>?_;rw[hV]at hj;rw[nI hj];unfold pY;rw[ag (l:=List.map _ _),aH,cq hj];show _=if r.length-(g.length-1)<=j then _ else _;by_cases q:r.length-(g.length-1)<=j;rw[am ⟨q,by lia⟩,am q];rw[ap λz=>q z.1,ap q]
theorem EH{g r:aG}{i:Nat}(P:Int)(top:Int)(hi:i<g.length-1)(h:g.length-1<=r.length):stepI P g r top (i+1)=(stepI P g r top i).set (r.length-(g.length-1)+i) (((stepI P g r top i).getD (r.length-(g.length-1)+i) 0-top*g.getD i 0)%P):=by
 refine nS (by rw[hV,cy,hV]) λj hj=>?_;rw[hV]at hj;have hs:r.length-(g.length-1)+i<r.length:=by lia
 rw[nI hj,nI hs,ap (show¬(r.length-(g.length-1)<=r.length-(g.length-1)+i/\r.length-(g.length-1)+i<r.length-(g.length-1)+i)by lia)];rw[ag (l:=List.set _ _ _),uO];by_cases q:r.length-(g.length-1)+i=j;rw[am q,am<|by lia,am<|by rw[hV];lia];show _=(r.getD (r.length-(g.length-1)+i) 0-top*g.getD i 0)%P;rw[<-q,show r.length-(g.length-1)+i-(r.length-(g.length-1))=i by lia];rw[ap q,<-ag,nI hj];by_cases z:r.length-(g.length-1)<=j/\j<r.length-(g.length-1)+i;rw[am z,am<|by lia];rw[ap z,ap<|by lia]
def IW{P:Nat}{top:Int}(hP:0<(P:Int))(lr:Lo P r):Lo P (pY P g r top):=λx hx=>by unfold pY at hx;obtain⟨i,hi,rfl⟩:=dq.mp hx;have VF:=cc.mp hi;by_cases hz:r.length-(g.length-1)<=i;simp only[am hz];exact⟨bx _<|by lia,bp _ hP⟩;simp only[ap hz];rw[ag,ar VF];exact lr _<|dX VF
theorem Gf{X:Cx}{P:Nat}(g:aG)(R:aG->fx)(hP:0<(P:Int))(hg:g≠[])(h1:∀r,r.length<100->TC X (R r) c (decide<|g.length<=r.length))(h2:∀ys a,ys.length<100->g.length<=ys.length+1->Lo P (ys++[a])->TB X (R<|ys++[a]) body (.nx<|R<|pY P g ys a)):∀(n:Nat)(r:aG),r.length<=n->r.length<100->Lo P r->∃m,Ui X c body m (R r) (.nx<|R<|gY P g n r)
 |0,r,hn,hq,_=>⟨0,.stop<|TC.eq (h1 r hq)<|ah<|by have:=az.mpr hg;lia⟩
 |n+1,r,hn,hq,lr=>by
  unfold gY;by_cases h:g.length<=r.length;rw[am h];have WV:=az.mpr hg;have hr:r≠[]:=λz=>by rw[z]at h;simp at h;exact hg h
  have er:=lJ hr;have hl:r.dropLast.length+1=r.length:=by have:=bi List.length er;rw[aJ]at this;simpa using this.symm
  have ld:Lo P r.dropLast:=λx hx=>lr x<|(AB r).subset hx;let⟨m,w⟩:=Gf g R hP hg h1 h2 n (pY P g r.dropLast<|ak r) (by rw[nH];lia) (by rw[nH];lia)<|IW hP ld;have:=h2 r.dropLast (ak r) (by lia) (by lia) (by rw[<-er];exact lr);rw[<-er]at this;exact⟨m+1,.step (TC.eq (h1 r hq)<|av h) this w⟩;rw[ap h];exact⟨0,.stop<|TC.eq (h1 r hq)<|ah h⟩
def nv(ds:bX)(d:D):Prop:=∃(f g:aG)(P:Nat),ds=[ba f,ba g,.int P]/\Ih P/\g≠[]/\f.length<100/\g.length<100/\Lo P f/\Lo P g/\d=ba (c8<|gY P g f.length f)
def wm:∀ds d,nv ds d->ds.length=3:=by rintro _ _ ⟨a,b,p,rfl,_⟩;rfl
def Dg:∀(n:Nat)(r:aG),(gY P g n r).length<=r.length|0,r=>aq _|n+1,r=>by unfold gY;split;refine bL (Dg n _) ?_;rw[nH,gR];lia;exact aq _
section
variable {X:Cx}
theorem Am(h:c7 P w K mg base k nh jX X)(Um:mg "list"=none)(TH:mg "len"=none)(TK:mg "range"=none)(cR:Callee X "row_of" nT):Go X nh jX nv:=by
 rintro ds d ⟨f,g,p,rfl,hp,hg,hf,hgl,lf,lg,rfl⟩;have t:=h.at';haveI:=h.T6;have b1:=h.bt TK;have b2:=h.bt TH;have b3:=h.bt Um;have p2:=hp.1.two;have WV:=az.mpr hg;show TB X [.val<|ba f,.val<|ba g,.val<|.int p,.un,.un,.un,.un,.un] _ _;refine ao (Gd (v:=.int ((g.length-1:Nat):Int)) t 3 4 (rL t b3<|Tz.ql<|aa t 0) (Tz.eq (dD (bF t b2<|Tz.ql<|aa t 1) af)<|by rw[ae];congr 1;lia)<|by decide) ?_;refine ao (gs t<|Gf g (λr=>[.val<|ba f,.val<|ba g,.val<|.int p,.own<|r.map D.int,.val<|.int ((g.length-1:Nat):Int),.un,.un,.un]) (by lia) hg (λr hr=>?_) (λys a hy hgy lo=>?_) f.length f (aq _) hf lf) ?_;refine TC.eq (qB (bF t b2<|eE t 3 rfl)<|aa t 4) ?_;rw[ae];by_cases z:g.length<=r.length;rw[av z,av<|by lia];rw[ah z,ah<|by lia];have lys:Lo p ys:=λx hx=>lo x (by simp[hx]);have la:=lo a (by simp);rw[<-Ha p a (show g.length-1<=ys.length by lia)];generalize XT:ys.length-(g.length-1)=s0;refine TB.weak (Uf:=[.val<|ba f,.val<|ba g,.val<|.int p,.own<|(stepI p g ys a<|g.length-1).map D.int,.val<|.int ((g.length-1:Nat):Int),.val<|.int a,.val<|.int (s0:Int),.un]) ?_<|.keep<|.keep<|.keep<|.keep<|.keep<|.forget<|.forget<|.keep .nil;refine ao (Jc t 3 5 (by rw[bO];rfl)<|by decide) ?_;refine ao (bC t 6<|Tz.eq (dD (bF t b2<|eE t 3 rfl)<|aa t 4) (show _=D.int s0 by rw[ae];congr 1;lia)) ?_;refine aA<|jx t (fZ t b1 (aa t 4) (by lia)<|by lia)<|T5.Ue (λi=>[.val<|ba f,.val<|ba g,.val<|.int p,.own<|(stepI p g ys a i).map D.int,.val<|.int ((g.length-1:Nat):Int),.val<|.int a,.val<|.int s0,.un]) (λi d hi=>?_) (by rw[EG];rfl) ?_;obtain⟨VS,rfl⟩:=iR hi;have VF:i<g.length-1:=by simpa using VS
 have hlen:=hV p g ys a i;have e1:(s0+i)=((s0+i:Nat):Int):=by lia
 have gi:0<=g.getD i 0/\g.getD i 0<p:=by rw[ag,ar (show i<g.length by lia)];exact lg _<|dX _
 refine⟨_,aZ t 7,TB.weak (aA<|kj t (bN (dD (i:=(stepI p g ys a i).getD (s0+i) 0) (aF (eE t 3 rfl) (cp (aa t 6)<|aa t 7) ?_)<|bc (aa t 5) (aF (Tz.ql<|aa t 1) (aa t 7)<|mi<|by lia)<|Qy (DC hp la)<|DC hp gi) (aa t 2)<|by lia)<|Cb (j:=s0+i) t 3 rfl (cp (aa t 6)<|aa t 7) ?_) ?_⟩;rw[e1];exact mi (by lia);rw[ae];exact qx (by lia) (by lia) (by lia);rw[EH p a VF<|by lia,XT,sA];exact .keep<|.keep<|.keep<|.keep<|.keep<|.keep<|.keep<|.forget .nil;have e:(dO 0 ((g.length-1:Nat):Int).toNat).length=g.length-1:=by simp[dO]
 rw[e];have l2:=Dg (P:=(p:Int)) (g:=g) f.length f;exact fB 3 rfl<|aA<|aW<|T1.Ux<|rL t b3<|Tz.qt<|au t cR (ac (aa t 3) ai) ⟨gY p g f.length f,rfl,by lia,rfl⟩
end
theorem F0{X:Cx}(R:aG->aG->fx)(hP:Uz P)(h1:∀f g,TC X (R f g) c (!decide (g=[])))(h2:∀f g,g≠[]->Vq P f->Vq P g->f.length<100->g.length<100->TB X (R f g) body (.nx<|R (ir P g)<|c8<|gY P (ir P g) f.length f)):∀(n:Nat)(f g:aG),g.length<=n->Vq P f->Vq P g->f.length<100->g.length<100->∃m,Ui X c body m (R f g) (.nx<|R (gn P n f g) [])|0,f,g,hn,hf,hg,lf,lg=>by have e:g=[]:=aw (by lia);subst e;exact⟨0,.stop<|TC.eq (h1 f []) rfl⟩|n+1,f,g,hn,hf,hg,lf,lg=>by unfold gn;by_cases q:g=[];rw[am q];subst q;exact⟨0,.stop<|TC.eq (h1 f []) rfl⟩;rw[ap q];have p2:=hP.two;let⟨m1,m2⟩:=BM hP hg q;have ml:=qo P g;have gp:=az.mpr q;have rl:=rq (P:=(P:Int)) (g:=ir P g) f.length f (aq _) (by lia);have tl:=iZ<|gY P (ir P g) f.length f;have ri:Vq P (c8<|gY P (ir P g) f.length f):=⟨fT _,λx hx=>xT (by lia) _ _ _ hf.2 x<|ya hx⟩;let⟨m,w⟩:=F0 R hP h1 h2 n (ir P g) (c8<|gY P (ir P g) f.length f) (by lia) m1 ri (by lia) (by lia);exact⟨m+1,.step (TC.eq (h1 f g)<|by rw[ah q];rfl) (h2 f g q hf hg lf lg) w⟩
abbrev Iu(P:Int)(f g:aG):aG:=gn P (fE P g).length (fE P f)<|fE P g
def kM(ds:bX)(d:D):Prop:=∃(f g:aG)(P:Nat),ds=[aU f,aU g,.int P]/\Ih P/\f≠[]/\g≠[]/\f.length<100/\g.length<100/\¬(P:Int) ∣ ak f/\¬(P:Int) ∣ ak g/\d=ba (Iu P f g)
def ur:∀ds d,kM ds d->ds.length=3:=by rintro _ _ ⟨a,b,p,rfl,_⟩;rfl
def ko(xs:aG)(l P:Int):aG:=xs.map λx=>if 2*(x*l%P)>P then x*l%P-P else x*l%P
def ze(ds:bX)(d:D):Prop:=∃(xs:aG)(l:Int)(P:Nat),ds=[ba xs,.int l,.int P]/\Ih P/\xs.length<100/\Lo P xs/\l.natAbs<2 ^ 1200/\d=aU (a9<|c8<|ko xs l P)
def Fa:∀ds d,ze ds d->ds.length=3:=by rintro _ _ ⟨a,b,p,rfl,_⟩;rfl
section
variable {X:Cx}
def wy(h:c7 P w K mg base k kI iE X)(cM:Callee X "made_monic" pc)(cR:Callee X "rest_modulo" nv):Go X kI iE kM:=by
 rintro ds d ⟨f,g,p,rfl,hp,hf,hg,lf,lg,nf,ng,rfl⟩;have t:=h.at';haveI:=h.T6;have p2:=hp.1.two;let⟨i1,n1⟩:=rD hp.1 hf nf;let⟨i2,n2⟩:=rD hp.1 hg ng;have ml1:(fE p f).length=f.length:=by unfold fE;rw[ae]
 have ml2:(fE p g).length=g.length:=by unfold fE;rw[ae]
 show TB X [.val<|aU f,.val<|aU g,.val<|.int p] _ _;refine ao (qj t 0 1 (T1.Ux (fG (rs:=(fE p f).map D.int) t ["f","g","prime","number"] (Ah rfl) (oK<|aa t 0) (by rw[ae];exact fV<|by lia) λX' cx=>?_)) (T1.Ux (fG (rs:=(fE p g).map D.int) t ["f","g","prime","number"] (Ah rfl) (oK<|aa t 1) (by rw[ae];exact fV<|by lia) λX' cx=>?_))<|by decide) ?_;have t':=cx.at';exact TU.ints (λx=>x%p) (λx=>[.val<|aU f,.val<|aU g,.val<|.int p,.val<|.int x]) (λd hd=>bE t' 3) (λd hd e he=>bE t' 3) λd hd=>bN (aa t' 3 rfl) (aa t' 2 rfl) (by lia);have t':=cx.at';exact TU.ints (λx=>x%p) (λx=>[.val<|aU f,.val<|aU g,.val<|.int p,.val<|.int x]) (λd hd=>bE t' 3) (λd hd e he=>bE t' 3) λd hd=>bN (aa t' 3 rfl) (aa t' 2 rfl) (by lia);refine ao (gs t<|F0 (λf g=>[.val<|ba f,.val<|ba g,.val<|.int p]) hp.1 (λf g=>?_) (λf g hg Xd hg' lf lg=>?_) (fE p g).length (fE p f) (fE p g) (aq _) i1 i2 (by lia)<|by lia)<|aA<|aW<|aa t 0;exact je t (Tz.p (d:=ba g)<|aa t 1) (Tz.p (d:=ba [])<|T1.Ux<|fk ai) (fO g) (fO []) (by rw[show ke (ba g)=PyData.list (TZ<|g.map D.int)from rfl,show ke (ba [])=PyData.list (TZ<|[].map D.int)from rfl,Ca]);have ml:=qo p g;let⟨m1,m2⟩:=BM hp.1 hg' hg;have mn:ir p g≠[]:=λz=>by rw[z]at ml;exact hg<|aw ml.symm
 refine ao (bC t 1<|au t cM (ac (aa t 1)<|ac (aa t 2) ai) ⟨g,p,rfl,hp,hg,by lia,hg'.2,rfl⟩)<|aA<|qj t 0 1 (aa t 1) (au t cR (ac (aa t 0)<|ac (aa t 1)<|ac (aa t 2) ai) ⟨f,ir p g,p,rfl,hp,mn,lf,by lia,Xd.2,m1.2,rfl⟩)<|by decide
def Kz(h:c7 P w K mg base k za uj X)(cP:Callee X "plain_row" iS)(cR:Callee X "row_of" nT):Go X za uj ze:=by
 rintro ds d ⟨xs,l,p,rfl,hp,hl,lo,hlb,rfl⟩;have t:=h.at';haveI:=h.T6;have p2:=hp.1.two;have ll:(ko xs l p).length=xs.length:=by unfold ko;rw[ae]
 have tl:=iZ<|ko xs l p;show TB X [.val<|ba xs,.val<|.int l,.val<|.int p,.un] _ _;refine ao (rc (rs:=(xs.map λx=>x*l%p).map D.int) t 3 ["numbers","last","prime","rests","number"] (Ah rfl) (m7<|aa t 0) (by rw[ae];exact fV<|by lia) λX' cx=>?_) ?_;have t':=cx.at';exact TU.ints (λx=>x*l%p) (λx=>[.val<|ba xs,.val<|.int l,.val<|.int p,.un,.val<|.int x]) (λd hd=>bE t' 4) (λd hd e he=>bE t' 4) λd hd=>bN (bc (aa t' 4 rfl) (aa t' 1 rfl)<|Qy (DC hp<|lo d hd)<|aE hlb<|aN (by decide)<|by decide) (aa t' 2 rfl) (by lia);refine fB 3 rfl ?_;refine aA<|aW<|au t cP (ac (au t cR (ac (Tz.eq (T1.Ux (fG (rs:=((xs.map λx=>x*l%p).map λr=>if 2*r>(p:Int)then r-p else r).map D.int) t ["numbers","last","prime","rests","rest"] (Ah rfl) (m7<|aa t 3) (by rw[ae,ae];exact fV<|by lia) λX' cx=>?_))<|by unfold ko;rw[cX (l:=xs)];rfl) ai) ⟨_,rfl,by lia,rfl⟩) ai) ⟨_,rfl,by lia,λhn=>m5 (fT _) hn,rfl⟩;have t':=cx.at';refine TU.ints (λr=>if 2*r>p then r-p else r) (λx=>[.val<|ba xs,.val<|.int l,.val<|.int p,.val<|ba (xs.map λx=>x*l%p),.val<|.int x]) (λd hd=>bE t' 4) (λd hd e he=>bE t' 4) λd hd=>?_;by_cases q:2*d>p;rw[am q];exact kF (TC.eq (qB (bc af (aa t' 4 rfl)<|de (by decide)<|by decide)<|aa t' 2 rfl)<|av q)<|dD (aa t' 4 rfl)<|aa t' 2 rfl;rw[ap q];exact iL (TC.eq (qB (bc af (aa t' 4 rfl)<|de (by decide)<|by decide)<|aa t' 2 rfl)<|ah q)<|aa t' 4 rfl
end
def fU(g r:aG)(m:Int)(i:Nat):aG:=(List.range r.length).map λj=>if r.length-(g.length-1)<=j/\j<r.length-(g.length-1)+i then r.getD j 0-m*g.getD (j-(r.length-(g.length-1))) 0 else r.getD j 0
def dS(g r:aG)(m:Int)(i:Nat):(fU g r m i).length=r.length:=by unfold fU;rw[ae,fJ]
def jA{r:aG}{j:Nat}(h:j<r.length):(fU g r m i).getD j 0=if r.length-(g.length-1)<=j/\j<r.length-(g.length-1)+i then r.getD j 0-m*g.getD (j-(r.length-(g.length-1))) 0 else r.getD j 0:=by unfold fU;rw[ag,aH,cq h];rfl
def ED(g r:aG)(m:Int):fU g r m 0=r:=by refine nS (dS _ _ _ _) λj hj=>?_;rw[dS]at hj;rw[jA hj,ap<|by lia]
def EE{g r:aG}{i:Nat}(m:Int)(hi:i<g.length-1)(h:g.length-1<=r.length):fU g r m (i+1)=(fU g r m i).set (r.length-(g.length-1)+i) ((fU g r m i).getD (r.length-(g.length-1)+i) 0-m*g.getD i 0):=by
 refine nS (by rw[dS,cy,dS]) λj hj=>?_;rw[dS]at hj;have hs:r.length-(g.length-1)+i<r.length:=by lia
 rw[jA hj,jA hs,ap (show¬(r.length-(g.length-1)<=r.length-(g.length-1)+i/\r.length-(g.length-1)+i<r.length-(g.length-1)+i)by lia)];rw[ag (l:=List.set _ _ _),uO];by_cases q:r.length-(g.length-1)+i=j;rw[am q,am<|by lia,am<|by rw[dS];lia];show _=r.getD (r.length-(g.length-1)+i) 0-m*g.getD i 0;rw[<-q,show r.length-(g.length-1)+i-(r.length-(g.length-1))=i by lia];rw[ap q,<-ag,jA hj];by_cases z:r.length-(g.length-1)<=j/\j<r.length-(g.length-1)+i;rw[am z,am<|by lia];rw[ap z,ap<|by lia]
def IV{m:Int}(hb:BB b g)(hc:BB c r)(hm:m.natAbs<2 ^ c)(i:Nat):BB (c+b+1) (fU g r m i):=BB.of_get λj=>by by_cases hj:j<r.length;rw[jA hj];have h1:=hc.get j;have up:∀{x:Nat},x<2 ^ c->x<2 ^ (c+b):=λh=>aE h<|aN (by decide) (by lia);split;exact m4 (up h1)<|cA hm<|hb.get _;exact aE h1<|aN (by decide) (by lia);rw[bn<|by rw[dS];lia];exact gN<|by decide
def Iw(g:aG):Nat->aG->aG->Option (aG×aG)|0,r,q=>some (r,q)|n+1,r,q=>if g.length<=r.length then(if(ak r).fmod (ak g)=0 then Iw g n (fU g r.dropLast ((ak r).fdiv<|ak g)<|g.length-1) (q++[(ak r).fdiv<|ak g])else none)else some (r,q)
def xv(f g:aG):D:=match Iw g f.length f []with|none=>.TN|some (r,q)=>if r.any (· !=0)=true then .TN else aU<|c8 q.reverse
theorem Jo{g:aG}(hg:g≠[]):∀(n:Nat)(r q r' q':aG),r.length<=n->Iw g n r q=some (r',q')->∃φ,Fs φ/\∀i,co r i=co r' i+cm g φ i
 |0,r,q,r',q',_,h=>by cases h;refine⟨λ_=>0,⟨0,λ_ _=>rfl⟩,λi=>?_⟩;have:=kG g 0 (λ_=>0) i;simp only[zo]at this;rw[this];lia
 |n+1,r,q,r',q',hn,h=>by
  unfold Iw at h;by_cases h1:g.length<=r.length;rw[am h1]at h;by_cases h2:(ak r).fmod (ak g)=0;rw[am h2]at h;have WV:=az.mpr hg;have hr:r≠[]:=λz=>by rw[z]at h1;simp at h1;exact hg h1
  have er:=lJ hr;have hl:r.dropLast.length+1=r.length:=by have:=bi List.length er;rw[aJ]at this;simpa using this.symm
  let⟨φ,fφ,e⟩:=Jo hg n _ _ r' q' (by rw[dS];lia) h;have em:ak r=(ak r).fdiv (ak g)*ak g:=by have:=SW (ak r)<|ak g;rw[h2,sB,gU]at this;exact this.symm
  generalize(ak r).fdiv (ak g)=m at em e;refine⟨λk=>φ k+m*(if r.dropLast.length-(g.length-1)<=k then(if k-(r.dropLast.length-(g.length-1))=0 then 1 else 0)else 0),fφ.add<|Fs.Vz (Fs.shift (φ:=λk=>if k=0 then 1 else 0) ⟨1,λi hi=>ap<|by lia⟩ _) m,λi=>?_⟩;rw[Fm,kG,yY (φ:=λk=>if k=0 then 1 else 0)];have e0:=e i;have ed:∀j,cm g (λk=>if k=0 then 1 else 0) j=co g j:=λj=>by show mU g (λk=>if k=0 then 1 else 0) j g.length=_;rw[rz];by_cases hj:j<g.length;rw[am ⟨cQ _,by lia⟩,kx];rw[ap<|by lia];show(0:Int)=g.getD j 0;rw[bn<|by lia]
  have key:co r i=co (fU g r.dropLast m<|g.length-1) i+m*(if r.dropLast.length-(g.length-1)<=i then co g (i-(r.dropLast.length-(g.length-1)))else 0):=by
   rcases gO i r.dropLast.length with z |z |z;have ec:co r i=r.dropLast.getD i 0:=by
    show r.getD i 0=_
    conv=>lhs;rw[er]
    rw[ag,bj z,<-ag]
   show _=(fU g r.dropLast m<|g.length-1).getD i 0+_;rw[ec,jA z];by_cases y:r.dropLast.length-(g.length-1)<=i;rw[am ⟨y,by lia⟩,am y];show _=_+m*g.getD (i-(r.dropLast.length-(g.length-1))) 0;lia;rw[ap λz=>y z.1,ap y];lia;have ec:co r i=ak r:=by
    show r.getD i 0=_
    conv=>lhs;rw[er,z]
    rw[ag,aX<|aq _,gc];rfl
   have el:g.getD (g.length-1) 0=ak g:=bW hg;have eq:co (fU g r.dropLast m<|g.length-1) i=0:=bn (by rw[dS];lia);rw[ec,eq,am<|by lia,show i-(r.dropLast.length-(g.length-1))=g.length-1 by lia,em];show _=0+m*g.getD (g.length-1) 0;rw[el];lia;have ec:co r i=0:=bn (by lia);have eq:co (fU g r.dropLast m<|g.length-1) i=0:=bn (by rw[dS];lia);have eg:co g (i-(r.dropLast.length-(g.length-1)))=0:=bn (by lia);rw[ec,eq,eg];split<;>lia
  rw[key,e0];split;rw[ed];lia;lia;rw[ap h2]at h;cases h;rw[ap h1]at h;cases h;refine⟨λ_=>0,⟨0,λ_ _=>rfl⟩,λi=>?_⟩;have:=kG g 0 (λ_=>0) i;simp only[zo]at this;rw[this];lia
def MX{g:aG}(rf:aY f)(hg:g≠[])(h:xv f g≠.TN):∃u,aY u/\f=a8 u g:=by
 unfold xv at h;cases e:Iw g f.length f []with
 |none=>rw[e]at h;exact absurd rfl h
 |some p=>
  let⟨r',q'⟩:=p;rw[e]at h;by_cases z:r'.any (· !=0)=true;simp only[z,CP]at h;exact absurd rfl h;let⟨φ,⟨N,hN⟩,eφ⟩:=Jo hg f.length f [] r' q' (aq _) e;have hz:∀i,co r' i=0:=λi=>by
   rcases fy i r'.length with y |y;have Wb:∀x∈r',x=0:=λx hx=>by apply kC;intro hx0;exact z<|List.any_eq_true.mpr ⟨x,hx,by simpa using hx0⟩
   show r'.getD i 0=0;rw[ag,ar y];exact Wb _<|dX y;exact bn y
  refine⟨c8<|(List.range N).map φ,fT _,oA rf (fT _) λi=>?_⟩;have eu:co (c8<|(List.range N).map φ)=φ:=by funext i;rw[FW];show((List.range N).map φ).getD i 0=φ i;rw[ag,aH];by_cases y:i<N;rw[cq y];rfl;rw[bQ<|by simpa using y,hN i<|by lia];rfl
  have h1:=gx (uD (c8<|(List.range N).map φ) g) i;rw[eu]at h1;have h2:=eφ i;rw[hz i,iQ]at h2;exact h2.trans h1.symm
def SE(R:aG->aG->fx):Option (aG×aG)->Out|none=>.rt .TN|some p=>.nx<|R p.1 p.2
theorem GH{a b:Int}(h:a.natAbs<2 ^ c)(hb:b≠0)(hm:a.fmod b=0):(a.fdiv b).natAbs<2 ^ c:=by
 have e:a=b*a.fdiv b:=by have:=SW a b;rw[hm,sB]at this;exact this.symm
 have e2:a.natAbs=b.natAbs*(a.fdiv b).natAbs:=by
  conv=>lhs;rw[e]
  exact cZ _ _
 have:1<=b.natAbs:=by lia
 have:=fA (a.fdiv b).natAbs this;lia
theorem FV{X:Cx}(g:aG)(R:aG->aG->fx)(hg:g≠[])(hl:ak g≠0)(hb:BB 50000 g)(h1:∀r q,r.length<100->TC X (R r q) c (decide<|g.length<=r.length))(h2:∀ys a q e,ys.length<100->g.length<=ys.length+1->q.length<500->BB e (ys++[a])->e<=900000->a.fmod (ak g)=0->TB X (R (ys++[a]) q) body (.nx<|R (fU g ys (a.fdiv<|ak g)<|g.length-1)<|q++[a.fdiv<|ak g]))(h3:∀ys a q,ys.length<100->g.length<=ys.length+1->a.fmod (ak g)≠0->TB X (R (ys++[a]) q) body (.rt .TN)):∀(n:Nat)(r q:aG)(e:Nat),r.length<=n->r.length<100->q.length+n<500->BB e r->e+n*50001<=900000->∃m,Ui X c body m (R r q) (SE R<|Iw g n r q)
 |0,r,q,e,hn,hr,hq,er,eb=>⟨0,.stop<|TC.eq (h1 r q hr)<|ah<|by have:=az.mpr hg;lia⟩
 |n+1,r,q,e,hn,hr,hq,er,eb=>by
  unfold Iw;by_cases h:g.length<=r.length;rw[am h];have WV:=az.mpr hg;have XX:r≠[]:=λz=>by rw[z]at h;simp at h;exact hg h
  have es:=lJ XX;have hlen:r.dropLast.length+1=r.length:=by have:=bi List.length es;rw[aJ]at this;simpa using this.symm
  have la:(ak r).natAbs<2 ^ e:=er.last;have bd:BB e r.dropLast:=λx hx=>er x<|(AB r).subset hx;by_cases hm:(ak r).fmod (ak g)=0;rw[am hm];have mb:=GH la hl hm;let⟨m,w⟩:=FV g R hg hl hb h1 h2 h3 n (fU g r.dropLast ((ak r).fdiv<|ak g)<|g.length-1) (q++[(ak r).fdiv<|ak g]) (e+50000+1) (by rw[dS];lia) (by rw[dS];lia) (by simp;lia) (IV hb bd mb _) (by rw[Ik]at eb;lia);have:=h2 r.dropLast (ak r) q e (by lia) (by lia) (by lia) (by rw[<-es];exact er) (by lia) hm;rw[<-es]at this;exact⟨m+1,.step (TC.eq (h1 r q hr)<|av h) this w⟩;rw[ap hm];have:=h3 r.dropLast (ak r) q (by lia) (by lia) hm;rw[<-es]at this;exact⟨0,.ret (TC.eq (h1 r q hr)<|av h) this⟩;rw[ap h];exact⟨0,.stop<|TC.eq (h1 r q hr)<|ah h⟩
def HJ{X:Cx}{rest:List Stmt}{d:D}(t:At X N sc){R:aG->aG->fx}{o:Option (aG×aG)}(h:∃m,Ui X c body m U<|SE R o)(hn:o=none->d=.TN)(hs:∀r q,o=some (r,q)->TB X (R r q) rest (.rt d)):TB X U (.While c body [] pos::rest) (.rt d):=by cases o with|none=>rw[hn rfl];exact eF (gs t h)|some p=>exact ao (gs t h)<|hs p.1 p.2 rfl
def ft(ds:bX)(d:D):Prop:=∃f g:aG,ds=[aU f,aU g]/\f.length<=9/\g.length<=9/\g≠[]/\ak g≠0/\BB 1200 f/\BB 50000 g/\d=xv f g
def sW:∀ds d,ft ds d->ds.length=2:=by rintro _ _ ⟨a,b,rfl,_⟩;rfl
theorem Gj:∀(n:Nat)(r q r' q':aG),Iw g n r q=some (r',q')->r'.length<=r.length/\q'.length<=q.length+n
 |0,r,q,r',q',h=>by cases h;exact⟨aq _,aq _⟩
 |n+1,r,q,r',q',h=>by unfold Iw at h;by_cases h1:g.length<=r.length;rw[am h1]at h;by_cases h2:(ak r).fmod (ak g)=0;rw[am h2]at h;let⟨a,b⟩:=Gj n _ _ r' q' h;rw[dS,gR]at a;rw[aJ]at b;simp at b;lia;rw[ap h2]at h;cases h;rw[ap h1]at h;cases h;lia
section
variable {X:Cx}
theorem ve(h:c7 P w K mg base k jE hW X)(Um:mg "list"=none)(TH:mg "len"=none)(V1:mg "divmod"=none)(TK:mg "range"=none)(V2:mg "any"=none)(cR:Callee X "row_of" nT):Go X jE hW ft:=by
 rintro ds d ⟨f,g,rfl,hf,hgl,hg,hl,bf,bg,rfl⟩;have t:=h.at';haveI:=h.T6;have b1:=h.bt TK;have b2:=h.bt TH;have b3:=h.bt Um;have b4:=h.bt V1;have b5:=h.bt V2;have WV:=az.mpr hg;show TB X [.val<|aU f,.val<|aU g,.un,.un,.un,.un,.un,.un] _ _;refine ao (Gc (us:=f.map D.int) (ws:=([]:aG).map D.int) t 2 3 (rL t b3<|Tz.qt<|aa t 0) (fk ai)<|by decide) ?_;refine HJ t (FV g (λr q=>[.val<|aU f,.val<|aU g,.own<|r.map D.int,.own<|q.map D.int,.un,.un,.un,.un]) hg hl bg (λr q hr=>?_) (λys a q e hy hgy hq er he hm=>?_) (λys a q hy hgy hm=>?_) f.length f [] 1200 (aq _) (by lia) (by simp;lia) bf<|by lia) (λe=>?_) λr' q' e=>?_;refine TC.eq (GN (bF t b2<|eE t 2 rfl)<|bF t b2<|Tz.qt<|aa t 1) ?_;rw[ae,ae];by_cases z:g.length<=r.length;rw[av z,av<|by lia];rw[ah z,ah<|by lia];have mb:=GH (er a<|by simp) hl hm;have by':BB e ys:=λx hx=>er x (by simp[hx]);generalize hmm:a.fdiv (ak g)=m at mb;generalize XT:ys.length-(g.length-1)=s0;refine TB.weak (Uf:=[.val<|aU f,.val<|aU g,.own<|(fU g ys m<|g.length-1).map D.int,.own<|(q++[m]).map D.int,.val<|.int m,.val<|.int 0,.val<|.int (s0:Int),.un]) ?_<|.keep<|.keep<|.keep<|.keep<|.forget<|.forget<|.forget<|.keep .nil;refine ao (TW:=[.val<|aU f,.val<|aU g,.own<|ys.map D.int,.own<|q.map D.int,.val<|.int m,.val<|.int 0,.un,.un]) (Up.eq (Dd (xs:=ys.map D.int) (n:=a) (m:=ak g) t 2 b4 (by rw[bO];rfl) (aF (Tz.qt<|aa t 1) (dy af)<|eB hg) hl<|jf t<|bq (aZ t 4)<|bq (aZ t 5) gJ)<|by rw[hmm,hm];rfl) ?_;refine ao (c9 (TC.eq (qA (aa t 5) af) rfl) bM) ?_;refine ao (TW:=[.val<|aU f,.val<|aU g,.own<|ys.map D.int,.own<|(q++[m]).map D.int,.val<|.int m,.val<|.int 0,.un,.un]) (Up.eq (ul t 3 rfl (aa t 4)<|by rw[ae];exact fV<|by lia)<|by rw[bO];rfl) ?_;refine ao (bC t 6<|Tz.eq (cp (dD (bF t b2<|eE t 2 rfl)<|bF t b2<|Tz.qt<|aa t 1) af) (show _=D.int (s0:Int)by rw[ae,ae];congr 1;lia)) ?_;refine aA<|jx t (fZ t b1 (dD (bF t b2<|Tz.qt<|aa t 1) af) (by lia)<|by rw[ae];lia)<|T5.Ue (λi=>[.val<|aU f,.val<|aU g,.own<|(fU g ys m i).map D.int,.own<|(q++[m]).map D.int,.val<|.int m,.val<|.int 0,.val<|.int (s0:Int),.un]) (λi d hi=>?_) (by rw[ED];rfl) ?_;obtain⟨VS,rfl⟩:=iR hi;have VF:i<g.length-1:=by rw[ae]at VS;lia
 have hlen:=dS g ys m i;have e1:((s0:Int)+(i:Int))=((s0+i:Nat):Int):=by lia
 have hu:((fU g ys m i).map D.int)[s0+i]?=some (.int<|(fU g ys m i).getD (s0+i) 0):=by rw[aH,ag,ar (show s0+i<(fU g ys m i).length by lia)];rfl
 refine⟨_,aZ t 7,TB.weak (aA<|rn (j:=s0+i) t 2 yt rfl (cp (aa t 6)<|aa t 7) ?_ hu (bc (i:=m) (j:=g.getD i 0) (aa t 4) (aF (Tz.qt<|aa t 1) (aa t 7)<|mi<|by lia)<|rX mb (bg.get i) (by lia)<|by lia) trivial) ?_⟩;rw[ae];exact qx (by lia) (by lia) (by lia);rw[EE m VF<|by lia,XT,sA];exact .keep<|.keep<|.keep<|.keep<|.keep<|.keep<|.keep<|.forget .nil;have e:(dO 0 (((g.map D.int).length:Int)-1).toNat).length=g.length-1:=by simp[dO]
 rw[e];refine ao (Dd (xs:=ys.map D.int) (n:=a) (m:=ak g) t 2 b4 (by rw[bO];rfl) (aF (Tz.qt<|aa t 1) (dy af)<|eB hg) hl<|jf t<|bq (aZ t 4)<|bq (aZ t 5) gJ) ?_;exact eF<|eV (TC.eq (qA (aa t 5) af)<|by simpa using hm)<|aA<|aW iK;show xv f g=.TN;unfold xv;rw[e];let⟨l1,l2⟩:=Gj _ _ _ _ _ e;have ed:xv f g=if r'.any (· !=0)=true then .TN else aU (c8 q'.reverse):=by unfold xv;rw[e]
 rw[ed];by_cases z:r'.any (· !=0)=true;rw[am z];exact aA<|aW<|iL (TC.eq (fj<|dC<|GM t b5<|eE t 2 rfl)<|by rw[z];rfl) iK;rw[ap z];have z':r'.any (· !=0)=false:=by simpa using z
 exact aA<|aW<|kF (TC.eq (fj<|dC<|GM t b5<|eE t 2 rfl)<|by rw[z'];rfl)<|au t cR (ac (d:=ba q'.reverse) (Tz.eq (T1.Ux<|GO (eE t 3 rfl)<|dy af)<|by rw[<-KQ]) ai) ⟨q'.reverse,rfl,by rw[dr];simp at l2;lia,rfl⟩
end
structure S0(f g:aG):Prop where
 rf:aY f
 rg:aY g
 lf:f.length<=9
 lg:g.length<=9
 bf:BB 1200 f
 bg:BB 1200 g
def PM(f g:aG):Int:=((Nat.gcd (ak f).natAbs (ak g).natAbs:Nat):Int)
def i9(P:Int)(f g:aG):aG:=a9<|c8<|ko (Iu P f g) (PM f g) P
def Le(f g:aG)(P:Nat):D:=if ak f%P=0\/ak g%P=0 then .TN else if(Iu P f g).length=1 then aU [1]else if(!ij (xv f<|i9 P f g)&& !ij (xv g<|i9 P f g))=true then aU (i9 P f g)else .TN
def gZ(h:aY f):aY (a9 f):=by
 unfold a9;split;have e:(gz f).map (λx=>-x)=(gz f).map λx=>(-1)*x:=fP λx _=>by lia
 rw[e];exact Bs (Gz h) (by decide);exact Gz h
def rA(h:aY f):T2 (co f) (co<|a9 f):=by refine(yc f h).trans ?_;unfold a9;split;refine(T2.scale (c:=-1) (by decide) λi=>?_).symm;show((gz f).map λx=>-x).getD i 0=-1*(gz f).getD i 0;rw[jb (φ:=λx=>-x)<|by rfl];lia;exact T2.refl _
def gu(f:aG):(a9 f).length=f.length:=by unfold a9;split;rw[ae,nR];exact nR f
def lZ(h:BB k f):BB k (a9 f):=by unfold a9;split;intro x hx;obtain⟨y,hy,rfl⟩:=dq.mp hx;rw[CJ];exact E8 h y hy;exact E8 h
def mV(h:aY f):a9 (a9 f)=a9 f:=lM (gZ h) h (rA h).symm
theorem vJ(P:Int):∀(n:Nat)(f g:aG),(gn P n f g).length<=max f.length g.length|0,f,g=>by show f.length<=_;lia|n+1,f,g=>by unfold gn;split;lia;rename_i q;have gp:=az.mpr q;have ml:=qo P g;have ih:=vJ P n (ir P g)<|c8<|gY P (ir P g) f.length f;have rl:=rq (P:=P) (g:=ir P g) f.length f (aq _) (by lia);have tl:=iZ<|gY P (ir P g) f.length f;lia
theorem L0(hP:Ih P)(hx:Vq P xs)(hn:xs≠[])(hl:¬(P:Int) ∣ l):aY (ko xs l P)/\BB 4423 (ko xs l P)/\c8 (ko xs l P)=ko xs l P:=by
 have p2:=hP.1.two;have pb:=hP.2;have hln:ko xs l P≠[]:=λz=>by unfold ko at z;exact hn<|Tw.mp z
 have ok:aY (ko xs l P):=by refine .inr ⟨_,_,lJ hln,?_⟩;have e:ak (ko xs l P)=(λx=>if 2*(x*l%(P:Int))>P then x*l%P-P else x*l%P) (ak xs):=lN xs (λx=>if 2*(x*l%(P:Int))>P then x*l%P-P else x*l%P) (by simp;lia);rw[e];have hz:ak xs*l%P≠0:=λz=>hP.1.Ul (hx.last hn) hl<|mB z;have r0:=bx (ak xs*l) (show(P:Int)≠0 by lia);have r1:=bp (ak xs*l) (show(0:Int)<P by lia);by_cases q:2*(ak xs*l%(P:Int))>P;simp only[am q];lia;simp only[ap q];exact hz
 refine⟨ok,λx U1=>?_,oA (fT _) ok λi=>lG _ i⟩;unfold ko at U1;obtain⟨y,_,rfl⟩:=dq.mp U1;have r0:=bx (y*l) (show(P:Int)≠0 by lia);have r1:=bp (y*l) (show(0:Int)<P by lia);by_cases q:2*(y*l%(P:Int))>P;simp only[am q];lia;simp only[ap q];lia
def Md{P:Nat}{g:aG}(h:¬(P:Int) ∣ ak f):¬(P:Int) ∣ PM f g:=λz=>h<|Int.dvd_trans z<|dP.mpr<|eR _ _
structure MF(P:Nat)(f g:aG):Prop where
 ok:aY (i9 P f g)
 bb:BB 4423 (i9 P f g)
 ln:(i9 P f g).length=(Iu P f g).length
 ne:i9 P f g≠[]
def Ge{f g:aG}(hP:Ih P)(hf:f≠[])(hg:g≠[])(nf:¬(P:Int) ∣ ak f)(ng:¬(P:Int) ∣ ak g):MF P f g/\Vq P (Iu P f g):=by
 let⟨i1,n1⟩:=rD hP.1 hf nf;let⟨i2,n2⟩:=rD hP.1 hg ng;let⟨k1,k2,k3⟩:=sT hP.1 (fE P g).length (fE P f) (fE P g) (aq _) i1 i2 n1;let⟨o1,o2,o3⟩:=L0 hP k2 k1<|Md (g:=g) nf;have ll:(ko (Iu P f g) (PM f g) P).length=(Iu P f g).length:=by unfold ko;rw[ae]
 have ln:(i9 P f g).length=(Iu P f g).length:=by unfold i9;rw[gu,o3,ll]
 refine⟨⟨?_,?_,ln,λz=>?_⟩,k2⟩;unfold i9;rw[o3];exact gZ o1;unfold i9;rw[o3];exact lZ o2;rw[z]at ln;exact k1<|aw ln.symm
def nd{x:Int}(hP:Ih P)(h:¬x%P=0):¬(P:Int) ∣ x:=λz=>h<|Rx z
def Qj(hP:Ih P)(s:S0 f g)(hf:f≠[])(hg:g≠[]):Le f g P=.TN\/Le f g P=aU (a9<|sh f g):=by
 unfold Le;by_cases h1:ak f%P=0\/ak g%P=0;rw[am h1];exact .inl rfl;rw[ap h1];have nf:¬(P:Int) ∣ ak f:=nd hP λz=>h1<|.inl z;have ng:¬(P:Int) ∣ ak g:=nd hP λz=>h1<|.inr z;by_cases h2:(Iu P f g).length=1;rw[am h2,Cm hP.1 s.rf s.rg hf hg nf ng h2];exact .inr rfl;rw[ap h2];by_cases h3:(!ij (xv f<|i9 P f g)&& !ij (xv g<|i9 P f g))=true;rw[am h3];right;let⟨mf,_⟩:=Ge hP hf hg nf ng;rw[br]at h3;have q1:xv f (i9 P f g)≠.TN:=λz=>by rw[z]at h3;exact absurd h3.1<|by decide
 have q2:xv g (i9 P f g)≠.TN:=λz=>by rw[z]at h3;exact absurd h3.2<|by decide
 let⟨u,ru,eu⟩:=MX s.rf mf.ne q1;let⟨v,rv,ev⟩:=MX s.rg mf.ne q2;have:=Ck hP.1 s.rf s.rg hf hg nf ng ru rv mf.ok mf.ln eu ev;rw[this];have e:a9 (i9 P f g)=i9 P f g:=by unfold i9;exact mV<|fT _
 rw[e];rw[ap h3];exact .inl rfl
def qQ(ds:bX)(d:D):Prop:=∃(f g:aG)(P:Nat),ds=[aU f,aU g,.int P]/\Ih P/\S0 f g/\f≠[]/\g≠[]/\d=Le f g P
def z6:∀ds d,qQ ds d->ds.length=3:=by rintro _ _ ⟨a,b,p,rfl,_⟩;rfl
section
variable {X:Cx}
def Ee(h:c7 P w K mg base k qI mN X)(TH:mg "len"=none)(cM:Callee X "shared_modulo" kM)(cL:Callee X "lifted" ze)(cG:Callee X "common_divisor" eM)(cW:Callee X "whole_quotient" ft):Go X qI mN qQ:=by
 rintro ds d ⟨f,g,p,rfl,hp,s,hf,hg,rfl⟩;have t:=h.at';haveI:=h.T6;have b2:=h.bt TH;have p2:=hp.1.two;have lf:=s.lf;have lg:=s.lg;show TB X [.val<|aU f,.val<|aU g,.val<|.int p,.un,.un,.un] _ _;have tf:∀{U:fx}{a:Expr}{pos:Pos},Tz X U a (.int<|ak f%p)->TC X U a (decide<|ak f%(p:Int)≠0)->True:=λ_ _=>trivial;unfold Le;by_cases h1:ak f%p=0\/ak g%p=0;rw[am h1];refine eF<|eV (Uq.toT ?_)<|aA<|aW iK;by_cases z:ak f%p=0;exact yP<|TC.eq (c6 (bN (i:=ak f) (aF (Tz.qt<|aa t 0) (dy af)<|eB hf) (aa t 2)<|by lia) af)<|av z;exact jD (TC.eq (c6 (bN (i:=ak f) (aF (Tz.qt<|aa t 0) (dy af)<|eB hf) (aa t 2)<|by lia) af)<|ah z)<|oG<|TC.eq (c6 (bN (i:=ak g) (aF (Tz.qt<|aa t 1) (dy af)<|eB hg) (aa t 2)<|by lia) af)<|av<|h1.resolve_left z;rw[ap h1];have z1:¬ak f%p=0:=λz=>h1<|.inl z;have z2:¬ak g%p=0:=λz=>h1<|.inr z;have nf:¬(p:Int) ∣ ak f:=nd hp z1;have ng:¬(p:Int) ∣ ak g:=nd hp z2;let⟨mf,im⟩:=Ge hp hf hg nf ng;have ml1:(fE p f).length=f.length:=by unfold fE;rw[ae]
 have ml2:(fE p g).length=g.length:=by unfold fE;rw[ae]
 have sl:=vJ (p:Int) (fE p g).length (fE p f)<|fE p g;have YT:(Iu p f g).length<=9:=by show(gn _ _ _ _).length<=9;lia
 refine ao (c9 (Uq.toT<|jD (TC.eq (c6 (bN (i:=ak f) (aF (Tz.qt<|aa t 0) (dy af)<|eB hf) (aa t 2)<|by lia) af)<|ah z1)<|oG<|TC.eq (c6 (bN (i:=ak g) (aF (Tz.qt<|aa t 1) (dy af)<|eB hg) (aa t 2)<|by lia) af)<|ah z2) bM) ?_;refine ao (bC t 3<|au t cM (ac (aa t 0)<|ac (aa t 1)<|ac (aa t 2) ai) ⟨f,g,p,rfl,hp,hf,hg,by lia,by lia,nf,ng,rfl⟩) ?_;by_cases h2:(Iu p f g).length=1;rw[am h2];exact eF<|eV (TC.eq (c6 (bF t b2<|Tz.ql<|aa t 3) af)<|av<|by rw[ae,h2];rfl)<|aA<|aW<|bw<|ac af ai;rw[ap h2];refine ao (c9 (TC.eq (c6 (bF t b2<|Tz.ql<|aa t 3) af)<|ah<|by rw[ae];lia) bM) ?_;have gb:(PM f g).natAbs<2 ^ 1200:=by
  have:Nat.gcd (ak f).natAbs (ak g).natAbs<=(ak f).natAbs:=Nat.le_of_dvd (by have:ak f≠0:=bG s.rf hf;lia)<|eR _ _
  unfold PM;rw[aB];exact bz this<|aE s.bf.last<|aN (by decide)<|by decide
 refine ao (bC (d:=aU<|i9 p f g) t 4<|au t cL (ac (aa t 3)<|ac (au t cG (ac (aF (Tz.qt<|aa t 0) (dy af)<|eB hf)<|ac (aF (Tz.qt<|aa t 1) (dy af)<|eB hg) ai) ⟨_,_,rfl,rfl⟩)<|ac (aa t 2) ai) ⟨Iu p f g,PM f g,p,rfl,hp,by lia,im.2,gb,rfl⟩) ?_;have lr:(i9 p f g).length<=9:=by rw[mf.ln];exact YT
 have ls:=bG mf.ok mf.ne;have cw1:ft [aU f,aU<|i9 p f g] (xv f<|i9 p f g):=⟨f,_,rfl,s.lf,lr,mf.ne,ls,s.bf,mf.bb.mono<|by decide,rfl⟩;have cw2:ft [aU g,aU<|i9 p f g] (xv g<|i9 p f g):=⟨g,_,rfl,s.lg,lr,mf.ne,ls,s.bg,mf.bb.mono<|by decide,rfl⟩;refine ao (bC (d:=.bl (!ij (xv f<|i9 p f g)&& !ij (xv g<|i9 p f g))) t 5 ?_) ?_;cases q:ij (xv f<|i9 p f g)with|true=>exact Tz.eq (xl<|Tz.eq (B6<|au t cW (ac (aa t 0)<|ac (aa t 4) ai) cw1)<|by rw[q];rfl) rfl|false=>exact Tz.eq (oJ (Tz.eq (B6<|au t cW (ac (aa t 0)<|ac (aa t 4) ai) cw1)<|by rw[q];rfl)<|u8<|B6<|au t cW (ac (aa t 1)<|ac (aa t 4) ai) cw2)<|by simp
 by_cases h3:(!ij (xv f<|i9 p f g)&& !ij (xv g<|i9 p f g))=true;rw[am h3];exact aA<|aW<|kF (TC.eq (dC<|aa t 5) h3)<|aa t 4;rw[ap h3];exact aA<|aW<|iL (TC.eq (dC<|aa t 5)<|by simpa using h3) iK
end
set_option maxHeartbeats 8000000
def xt(l:Nat):Nat:=[256375,102550,41020,16408,6563,2625,1050,420,168,67].getD l 67
def Vl(f g:aG):Prop:=aY f/\aY g/\f.length<=9/\∃A B,BB A f/\BB B g/\((A+1<=67/\B+1<=67/\g.length<=9)\/(A+1<=xt f.length/\B+1<=xt (f.length-1)/\g.length<f.length))
def SD:∀lf,lf<10->∀l,l<lf->1<=l->xt lf+(lf+1-l)*(2*xt (lf-1))+xt (lf-1)<=1000000/\xt lf+(lf+1-l)*xt (lf-1)<=xt (l-1)/\xt (lf-1)<=xt l:=by decide
def SC:∀lf,lf<10->∀l,l<10->1<=l->67+(lf+1-l)*67<=xt (l-1)/\67<=xt l/\67+(lf+1-l)*134+67<=1000000:=by decide
def Vl.div(h:Vl f g)(hg:g≠[]):KL f g:=by let⟨rf,rg,lf,A,B,hA,hB,hc⟩:=h;have lg:=bG rg hg;have gp:=az.mpr hg;rcases hc with⟨a,b,l9⟩ |⟨a,b,ll⟩;have:=SC f.length (by lia) g.length (by lia) gp;have m:=eC (f.length+1-g.length) (show 2*B+1<=134 by lia);exact⟨by lia,by lia,lg,A,B,hA,hB,by lia⟩;have:=SD f.length (by lia) g.length ll gp;have m:=eC (f.length+1-g.length) (show 2*B+1<=2*xt (f.length-1)by lia);exact⟨by lia,by lia,lg,A,B,hA,hB,by lia⟩
def Vl.next(h:Vl f g)(hg:g≠[]):Vl g (eI f g):=by let⟨rf,rg,lf,A,B,hA,hB,hc⟩:=h;have lg:=bG rg hg;have gp:=az.mpr hg;have hr:=km (f:=f) hg;have rb:=Li lg hA hB;rcases hc with⟨a,b,l9⟩ |⟨a,b,ll⟩;have:=SC f.length (by lia) g.length (by lia) gp;have m:=eC (f.length+1-g.length) (show B+1<=67 by lia);exact⟨rg,iJ f g,by lia,B,_,hB,rb,.inr ⟨by lia,by lia,hr⟩⟩;have:=SD f.length (by lia) g.length ll gp;have m:=eC (f.length+1-g.length) b;exact⟨rg,iJ f g,by lia,B,_,hB,rb,.inr ⟨by lia,by lia,hr⟩⟩
def Vl.start(rf:aY f)(rg:aY g)(lf:f.length<=9)(lg:g.length<=9)(hf:BB 66 f)(hg:BB 66 g):Vl f g:=⟨rf,rg,lf,66,66,hf,hg,.inl ⟨by decide,by decide,lg⟩⟩
def Vl.plain(h:Vl f g):Vl (a9 f) (a9 g):=by let⟨rf,rg,lf,A,B,hA,hB,hc⟩:=h;refine⟨gZ rf,gZ rg,by rwa[gu],A,B,lZ hA,lZ hB,?_⟩;rwa[gu,gu]
theorem F7{X:Cx}(R:aG->aG->fx)(h1:∀f g,TC X (R f g) c (!decide (g=[])))(h2:∀f g,g≠[]->Vl f g->TB X (R f g) body (.nx<|R g<|eI f g)):∀(n:Nat)(f g:aG),g.length<=n->Vl f g->∃m,Ui X c body m (R f g) (.nx<|R (sh f g) [])|0,f,g,hn,hi=>by have:g=[]:=aw (by lia);subst this;exact⟨0,.stop<|TC.eq (h1 f []) rfl⟩|n+1,f,g,hn,hi=>by by_cases hg:g=[];subst hg;exact⟨0,.stop<|TC.eq (h1 f []) rfl⟩;rw[gE hg];have hr:=km (f:=f) hg;let⟨m,w⟩:=F7 R h1 h2 n g (eI f g) (by lia)<|hi.next hg;exact⟨m+1,.step (TC.eq (h1 f g)<|by rw[ah hg];rfl) (h2 f g hg hi) w⟩
def EK:∀(n:Nat)(f g:aG),g.length<=n->Vl f g->(sh f g).length<=9|0,f,g,hn,hi=>by have:g=[]:=aw (by lia);subst this;exact hi.2.2.1|n+1,f,g,hn,hi=>by by_cases hg:g=[];subst hg;exact hi.2.2.1;rw[gE hg];have hr:=km (f:=f) hg;exact EK n g (eI f g) (by lia)<|hi.next hg
def C4(g:aG):sh [] g=g:=by by_cases hg:g=[];subst hg;rfl;rw[gE hg,xS,jC]
def B5(D0:Nat->D):G1->D|[]=>.TN|b::bs=>if ij (D0 b)=true then B5 D0 bs else D0 b
def Mq{X:Cx}{rest:List Stmt}{bs:G1}{D0:Nat->D}(t:At X N sc)(hi:UG X R tg it ((bs.map λb:Nat=>(b:Int)).map D.int))(h1:∀b,b∈bs->ij (D0 b)=true->∃Uf,Vn X R tg (.int (b:Int)) Uf/\TB X Uf body (.nx R))(h2:∀b,b∈bs->ij (D0 b)=false->∃Uf,Vn X R tg (.int (b:Int)) Uf/\TB X Uf body (.rt<|D0 b))(h3:TB X R rest (.rt .TN))(hs:∀v,foldedSetIterable it X.env v=pure v:=by intro _;rfl):TB X R (.For tg it body [] pos::rest) (.rt<|B5 D0 bs):=by
 have key:∀cs:G1,(∀b∈cs,b∈bs)->(B5 D0 cs=.TN/\T5 X tg body ((cs.map λb:Nat=>(b:Int)).map D.int) R (.nx R))\/T5 X tg body ((cs.map λb:Nat=>(b:Int)).map D.int) R (.rt<|B5 D0 cs):=by
  intro cs;induction cs with
  |nil=>intro _;exact .inl ⟨rfl,.nil⟩
  |cons b cs ih=>
   intro hc;unfold B5;cases q:ij (D0 b)with
   |true=>
    rw[am rfl];let⟨Uf,g1,g2⟩:=h1 b (hc b<|by simp) q;rcases ih λx hx=>hc x (by simp[hx])with⟨e,r⟩ |r
    exact .inl ⟨e,.cons g1 g2 r⟩;exact .inr<|.cons g1 g2 r
   |false=>rw[ap aK];let⟨Uf,g1,g2⟩:=h2 b (hc b<|by simp) q;exact .inr<|.ret g1 g2
 rcases key bs λ_ h=>h with⟨e,r⟩ |r
 rw[e];exact ao (jx t hi r (hs:=hs)) h3;exact eF<|jx t hi r (hs:=hs)
def Jx{b:Nat}(hb:b∈[61,127,521,1279,4423]):KM 1 (b:Int):=by simp only[aO,wM,nA]at hb;exact⟨by lia,by lia,by decide⟩
def Jw(b:Nat):D.int (1*2 ^ ((b:Int)).toNat-1)=D.int ((2 ^ b-1:Nat):Int):=by have h:1<=2 ^ b:=FO;congr 1;rw[fK,cY,MU h];simp
def N9{b:Nat}(hb:b∈[61,127,521,1279,4423]):Ih (2 ^ b-1):=by
 have up:∀{b:Nat},b<=4423->2 ^ b-1<2 ^ 4423:=λ{b}h=>by have h1:=aN (show 0<2 by decide) h;have h2:1<=2 ^ b:=FO;lia
 rcases aO.mp hb with e |hb;subst e;exact⟨N8,up<|by decide⟩;rcases aO.mp hb with e |hb;subst e;exact⟨Lx,up<|by decide⟩;rcases aO.mp hb with e |hb;subst e;exact⟨Lw,up<|by decide⟩;rcases aO.mp hb with e |hb;subst e;exact⟨Jv,up<|by decide⟩;rcases aO.mp hb with e |hb;subst e;exact⟨Ju,up<|by decide⟩;exact nomatch hb
def Qe(f g:aG):D:=B5 (λb=>Le f g<|2 ^ b-1) [61,127,521,1279,4423]
def Qc(s:S0 f g)(hf:f≠[])(hg:g≠[]):Qe f g=.TN\/Qe f g=aU (a9<|sh f g):=by
 unfold Qe;have key:∀cs:G1,(∀b∈cs,b∈[61,127,521,1279,4423])->B5 (λb=>Le f g<|2 ^ b-1) cs=.TN\/B5 (λb=>Le f g<|2 ^ b-1) cs=aU (a9<|sh f g):=by intro cs;induction cs with|nil=>intro _;exact .inl rfl|cons b cs ih=>intro hc;unfold B5;by_cases q:ij (Le f g<|2 ^ b-1)=true;rw[am q];exact ih λx hx=>hc x (by simp[hx]);rw[ap q];exact Qj (N9<|hc b<|by simp) s hf hg
 exact key _ λ_ h=>h
def iO(ds:bX)(d:D):Prop:=∃f g:aG,ds=[aU f,aU g]/\S0 f g/\f≠[]/\g≠[]/\d=Qe f g
def qu:∀ds d,iO ds d->ds.length=2:=by rintro _ _ ⟨a,b,rfl,_⟩;rfl
def ly(ds:bX)(d:D):Prop:=∃f g:aG,ds=[aU f,aU g]/\S0 f g/\Vl f g/\d=aU (a9<|sh f g)
def jo(ds:bX)(d:D):Prop:=∃f g:aG,ds=[aU f,aU g]/\Vl f g/\d=aU (a9<|sh f g)
def rY:∀ds d,jo ds d->ds.length=2:=by rintro _ _ ⟨a,b,rfl,_⟩;rfl
def yf:∀ds d,ly ds d->ds.length=2:=by rintro _ _ ⟨a,b,rfl,_⟩;rfl
section
variable {X:Cx}
def uF(h:c7 P w K mg base k jj gF X)(cP:Callee X "plain_row" iS)(cR:Callee X "rest_of" vD):Go X jj gF jo:=by rintro ds d ⟨f,g,rfl,hi,rfl⟩;have t:=h.at';haveI:=h.T6;have hl:=EK g.length f g (aq _) hi;have hk:=pE hi.1 hi.2.1;show TB X [.val<|aU f,.val<|aU g] _ _;refine ao (gs t<|F7 (λf g=>[.val<|aU f,.val<|aU g]) (λf g=>?_) (λf g hg hi=>?_) g.length f g (aq _) hi) ?_;exact je t (Tz.p<|aa t 1) (Tz.p (d:=aU [])<|bw ai) (dH _) (dH _) (by rw[mZ]);exact aA<|qj t 0 1 (aa t 1) (au t cR (ac (aa t 0)<|ac (aa t 1) ai) ⟨f,g,rfl,hi.div hg,rfl⟩) (by decide);exact aA<|aW<|au t cP (ac (aa t 0) ai) ⟨sh f g,rfl,by lia,m5 hk,rfl⟩
def tw(h:c7 P w K mg base k iN gt X)(cS:Callee X "shared_by" qQ)(gP:∃a,mg "PRIME_BITS"=some (.ref a)/\Py K a [61,127,521,1279,4423]):Go X iN gt iO:=by
 rintro ds d ⟨f,g,rfl,s,hf,hg,rfl⟩;have t:=h.at';haveI:=h.T6;let⟨pa,gm,gk⟩:=gP;have gm':X.mg "PRIME_BITS"=some (.ref pa):=by rw[h.VR];exact gm
 have gk':Py X.K pa [61,127,521,1279,4423]:=by rw[h.k'];exact gk
 show TB X [.val<|aU f,.val<|aU g,.un,.un] _ _;refine Mq t (Kq t gm' gk') (λb hb hn=>?_) (λb hb hn=>?_)<|aA<|aW iK;refine⟨_,aZ t 2,TB.weak (ao (bC t 3<|au t cS (ac (aa t 0)<|ac (aa t 1)<|ac (Tz.eq (dD (Ke af (aa t 2)<|Jx hb) af)<|Jw b) ai) ⟨f,g,_,rfl,N9 hb,s,hf,hg,rfl⟩)<|aA<|c9 (TC.eq (rJ<|aa t 3)<|by rw[hn];rfl) bM)<|.keep<|.keep<|.forget<|.forget .nil⟩;refine⟨_,aZ t 2,ao (bC t 3<|au t cS (ac (aa t 0)<|ac (aa t 1)<|ac (Tz.eq (dD (Ke af (aa t 2)<|Jx hb) af)<|Jw b) ai) ⟨f,g,_,rfl,N9 hb,s,hf,hg,rfl⟩)<|eF<|eV (TC.eq (rJ<|aa t 3)<|by rw[hn];rfl)<|aA<|aW<|aa t 3⟩
def Cn(h:c7 P w K mg base k oP kX X)(cP:Callee X "shared_by_primes" iO)(cL:Callee X "plain_row" iS)(cR:Callee X "shared_by_rests" jo):Go X oP kX ly:=by rintro ds d ⟨f0,g0,rfl,s0,hi0,rfl⟩;have t:=h.at';haveI:=h.T6;have e0:a9 (sh f0 g0)=a9 (sh (a9 f0)<|a9 g0):=lM (pE s0.rf s0.rg) (pE (gZ s0.rf)<|gZ s0.rg)<|xH s0.rg (gZ s0.rg) (rA s0.rf)<|rA s0.rg;have s:S0 (a9 f0) (a9 g0):=⟨gZ s0.rf,gZ s0.rg,by rw[gu];exact s0.lf,by rw[gu];exact s0.lg,lZ s0.bf,lZ s0.bg⟩;have hi:=hi0.plain;have pf:=mV s0.rf;have pg:=mV s0.rg;have l1:=s0.lf;have l2:=s0.lg;rw[e0];show TB X [.val<|aU f0,.val<|aU g0,.un] _ _;refine ao (qj t 0 1 (au t cL (ac (aa t 0) ai) ⟨f0,rfl,by lia,m5 s0.rf,rfl⟩) (au t cL (ac (aa t 1) ai) ⟨g0,rfl,by lia,m5 s0.rg,rfl⟩)<|by decide) ?_;generalize a9 f0=f at s pf hi;generalize a9 g0=g at s pg hi;show TB X [.val<|aU f,.val<|aU g,.un] _ _;have nl:∀{x:aG}{U:fx}{a:Expr}{pos:Pos}{e:Expr},Tz X U a (aU x)->Tz X U e (aU [])->TC X U (.Compare a [.Eq] [e] pos) (decide<|x=[]):=λha he=>tq t (Tz.p ha) (Tz.p he) (dH _) (dH _) (by rw[mZ]);by_cases hg:g=[];subst hg;rw[jC,pf];refine eF<|eV (Uq.toT ?_)<|aA<|aW<|kF (TC.eq (nl (aa t 1)<|bw ai) rfl)<|aa t 0;by_cases hf:f=[];exact yP<|TC.eq (nl (aa t 0)<|bw ai)<|av hf;exact jD (TC.eq (nl (aa t 0)<|bw ai)<|ah hf)<|oG<|TC.eq (nl (aa t 1)<|bw ai) rfl;by_cases hf:f=[];subst hf;rw[C4,pg];exact eF<|eV (Uq.toT<|yP<|TC.eq (nl (aa t 0)<|bw ai) rfl)<|aA<|aW<|iL (TC.eq (nl (aa t 1)<|bw ai)<|ah hg)<|aa t 1;refine ao (c9 (Uq.toT<|jD (TC.eq (nl (aa t 0)<|bw ai)<|ah hf)<|oG<|TC.eq (nl (aa t 1)<|bw ai)<|ah hg) bM) ?_;refine ao (bC t 2<|au t cP (ac (aa t 0)<|ac (aa t 1) ai) ⟨f,g,rfl,s,hf,hg,rfl⟩) ?_;rcases Qc s hf hg with e |e;rw[e];exact aA<|aW<|kF (TC.eq (hR<|aa t 2) rfl)<|au t cR (ac (aa t 0)<|ac (aa t 1) ai) ⟨f,g,rfl,hi,rfl⟩;rw[e];exact aA<|aW<|iL (TC.eq (hR<|aa t 2) rfl)<|aa t 2
end
end My
namespace My
variable {K:gh}
def dN(f:Nat->Int):Nat->Int|0=>0|n+1=>dN f n+f n
def fM{f g:Nat->Int}:∀{n:Nat},(∀i,i<n->f i=g i)->dN f n=dN g n|0,_=>rfl|n+1,h=>by show dN f n+f n=dN g n+g n;rw[fM λi hi=>h i<|by lia,h n<|by lia]
def xB(f g:Nat->Int):∀n,dN (λi=>f i+g i) n=dN f n+dN g n|0=>rfl|n+1=>by show dN (λi=>f i+g i) n+(f n+g n)=dN f n+f n+(dN g n+g n);rw[xB f g n];lia
def xA(c:Int)(f:Nat->Int):∀n,dN (λi=>c*f i) n=c*dN f n|0=>(bV c).symm|n+1=>by show dN (λi=>c*f i) n+c*f n=c*(dN f n+f n);rw[xA c f n,KZ]
def AH(f:Nat->Int):∀n,(∀i,i<n->f i=0)->dN f n=0|0,_=>rfl|n+1,h=>by show dN f n+f n=0;rw[AH f n λi hi=>h i<|by lia,h n<|by lia];rfl
def sS(f:Nat->Int):∀n,dN f (n+1)=f 0+dN (λi=>f<|i+1) n|0=>by show 0+f 0=f 0+0;lia|n+1=>by show dN f (n+1)+f (n+1)=f 0+(dN (λi=>f<|i+1) n+f (n+1));rw[sS f n];lia
def C0:∀(n:Nat)(f:Nat->Int),dN (λi=>f<|n-i) (n+1)=dN f (n+1)
 |0,f=>rfl
 |n+1,f=>by
  have e:dN (λi=>f<|n+1-i) (n+1)=dN (λi=>(λj=>f<|j+1)<|n-i) (n+1):=fM λi hi=>by show f (n+1-i)=f (n-i+1);rw[show n+1-i=n-i+1 by lia]
  show dN (λi=>f<|n+1-i) (n+1)+f (n+1-(n+1))=_;rw[e,C0 n λj=>f<|j+1,sS f<|n+1,gc];lia
def CZ(a:Nat->Nat->Int):∀n,dN (λi=>dN (λj=>a i j)<|i+1) n=dN (λj=>dN (λk=>a (j+k) j)<|n-j) n
 |0=>rfl
 |n+1=>by
  show dN (λi=>dN (λj=>a i j)<|i+1) n+dN (λj=>a n j) (n+1)=dN (λj=>dN (λk=>a (j+k) j)<|n+1-j) n+dN (λk=>a (n+k) n) (n+1-n);have e:dN (λj=>dN (λk=>a (j+k) j)<|n+1-j) n=dN (λj=>dN (λk=>a (j+k) j) (n-j)+a n j) n:=fM λj hj=>by rw[show n+1-j=n-j+1 by lia];show dN (λk=>a (j+k) j) (n-j)+a (j+(n-j)) j=_;rw[show j+(n-j)=n by lia]
  rw[e,xB,CZ a n,show n+1-n=1 by lia];show _+(dN (λj=>a n j) n+a n n)=_+dN (λj=>a n j) n+(0+a (n+0) n);rw[Nat.add_zero];lia
@[ext] structure PS where
 c:Nat->Int
namespace PS
variable {ds:bX}
def conv(F G:Nat->Int)(n:Nat):Int:=dN (λi=>F i*G (n-i))<|n+1
instance:Add PS:=⟨λF G=>⟨λi=>F.c i+G.c i⟩⟩
instance:Mul PS:=⟨λF G=>⟨conv F.c G.c⟩⟩
instance:Neg PS:=⟨λF=>⟨λi=>-F.c i⟩⟩
instance:Sub PS:=⟨λF G=>⟨λi=>F.c i-G.c i⟩⟩
def C(a:Int):PS:=⟨λi=>if i=0 then a else 0⟩
instance:NatCast PS:=⟨λn=>C n⟩
instance:IntCast PS:=⟨λn=>C n⟩
instance (n:Nat):OfNat PS n:=⟨C n⟩
instance:SMul Nat PS:=⟨λn F=>C n*F⟩
instance:SMul Int PS:=⟨λn F=>C n*F⟩
def pw(F:PS):Nat->PS|0=>C 1|n+1=>pw F n*F
instance:HPow PS Nat PS:=⟨pw⟩
def ext'{F G:PS}(h:∀i,F.c i=G.c i):F=G:=PS.ext<|funext h
def T7(F G:PS):F*G=G*F:=ext' λn=>by show dN (λi=>F.c i*G.c (n-i)) (n+1)=dN (λi=>G.c i*F.c (n-i)) (n+1);rw[<-C0 n λi=>G.c i*F.c (n-i)];exact fM λi hi=>by rw[show n-(n-i)=i by lia];exact gU _ _
def U3(a:Int)(F:PS)(n:Nat):(C a*F).c n=a*F.c n:=by show dN (λi=>(if i=0 then a else 0)*F.c (n-i)) (n+1)=_;rw[sS,AH _ _ λi _=>by simp];simp
def E6(F G H:PS):F*G*H=F*(G*H):=ext' λn=>by
 show dN (λi=>dN (λj=>F.c j*G.c (i-j)) (i+1)*H.c (n-i)) (n+1)=dN (λj=>F.c j*dN (λk=>G.c k*H.c (n-j-k)) (n-j+1)) (n+1);have e1:dN (λi=>dN (λj=>F.c j*G.c (i-j)) (i+1)*H.c (n-i)) (n+1)=dN (λi=>dN (λj=>F.c j*G.c (i-j)*H.c (n-i))<|i+1) (n+1):=fM λi hi=>by rw[gU,<-xA];exact fM λj hj=>by rw[gU]
 rw[e1,CZ λi j=>F.c j*G.c (i-j)*H.c (n-i)];refine fM λj hj=>?_;rw[<-xA,show n+1-j=n-j+1 by lia];refine fM λk hk=>?_;rw[show j+k-j=k by lia,show n-(j+k)=n-j-k by lia,gd]
def sO(F G H:PS):F*(G+H)=F*G+F*H:=ext' λn=>by show dN (λi=>F.c i*(G.c (n-i)+H.c (n-i))) (n+1)=dN (λi=>F.c i*G.c (n-i)) (n+1)+dN (λi=>F.c i*H.c (n-i)) (n+1);rw[<-xB];exact fM λi _=>by rw[KZ]
instance:Lean.Grind.CommRing PS where
 add_zero F:=ext' λi=>by show F.c i+(if i=0 then((0:Nat):Int)else 0)=F.c i;split<;>simp
 add_comm F G:=ext' λi=>Int.add_comm _ _
 add_assoc F G H:=ext' λi=>Int.add_assoc _ _ _
 mul_assoc:=E6
 mul_one F:=ext' λi=>by rw[T7];exact(U3 1 F i).trans<|cY _
 one_mul F:=ext' λi=>(U3 1 F i).trans<|cY _
 left_distrib:=sO
 right_distrib F G H:=by rw[T7 (F+G) H,sO,T7 H F,T7 H G]
 mul_zero F:=by rw[T7];exact ext' λi=>(U3 0 F i).trans<|by show _=if i=0 then((0:Nat):Int)else 0;split<;>simp
 zero_mul F:=ext' λi=>(U3 0 F i).trans<|by show _=if i=0 then((0:Nat):Int)else 0;split<;>simp
 pow_zero F:=rfl
 pow_succ F n:=rfl
 ofNat_succ a:=ext' λi=>by
  show(if i=0 then((a+1:Nat):Int)else 0)=(if i=0 then(a:Int)else 0)+(if i=0 then((1:Nat):Int)else 0)
  split<;>simp
 neg_add_cancel F:=ext' λi=>by show-F.c i+F.c i=(if i=0 then((0:Nat):Int)else 0);split<;>lia
 sub_eq_add_neg F G:=ext' λi=>Int.sub_eq_add_neg
 neg_zsmul n F:=ext' λi=>by show(C (-n)*F).c i=-(C n*F).c i;rw[U3,U3,Int.neg_mul]
 intCast_neg n:=ext' λi=>by show(if i=0 then-n else 0)=-(if i=0 then n else 0);split<;>simp
 mul_comm:=T7
def X:PS:=⟨λi=>if i=1 then 1 else 0⟩
def dl(F:PS):PS:=⟨λi=>((i:Int)+1)*F.c (i+1)⟩
end PS
end My
set_option maxHeartbeats 4000000
namespace My
open PySem PySem.W L2 L2.EV PyProof.Rows
variable {K:gh}
def ps(f:aG):PS:=⟨co f⟩
def uT(h:Nat->Int)(n:Nat)(hz:∀i,n<=i->h i=0):∀k,dN h (n+k)=dN h n|0=>rfl|k+1=>by show dN h (n+k)+h (n+k)=_;rw[uT h n hz k,hz _<|by lia,sB]
def Gm(m:aG)(S:Nat->Int)(p:Nat):∀k,mU m S p k=dN (λi=>m.getD i 0*(if i<=p then S (p-i)else 0)) k|0=>rfl|k+1=>by show mU m S p k+_=dN (λi=>m.getD i 0*(if i<=p then S (p-i)else 0)) k+_;rw[Gm m S p k]
def Mx(m:aG)(S:Nat->Int)(p:Nat):PS.conv (co m) S p=cm m S p:=by show dN (λi=>m.getD i 0*S (p-i)) (p+1)=mU m S p m.length;rw[Gm,<-uT (λi=>m.getD i 0*(if i<=p then S (p-i)else 0)) m.length (λi hi=>by show m.getD i 0*_=0;rw[bn hi,zo]) (p+1),sy m.length,uT _ (p+1) λi hi=>by show _*(if i<=p then _ else _)=0;rw[ap<|by lia,bV]];exact fM λi hi=>by rw[am<|by lia]
def Qr(m:aG)(S:Nat->Int):(⟨cm m S⟩:PS)=ps m*⟨S⟩:=PS.ext' λi=>(Mx m S i).symm
def Js(f g:aG):ps (a8 f g)=ps f*ps g:=by
 have:ps (a8 f g)=⟨cm g<|co f⟩:=by unfold ps;rw[uD]
 rw[this,Qr,PS.T7];rfl
def N5(hf:aY f)(hg:aY g)(h:ps f=ps g):f=g:=oA hf hg λi=>gx (bi PS.c h) i
def Dl(f:aG):ps (fN f)=PS.dl (ps f):=PS.ext' λi=>by show(fN f).getD i 0=((i:Int)+1)*f.getD (i+1) 0;unfold fN;rw[ag,aH];by_cases h:i<f.length-1;rw[cq h];show(1+(i:Int))*f.getD (1+i) 0=_;rw[Int.add_comm 1,sy 1];rw[bQ<|by simpa using h,bn<|by lia,bV];rfl
def N4:ps []=0:=PS.ext' λi=>by show([]:aG).getD i 0=if i=0 then((0:Nat):Int)else 0;split<;>rfl
def Hb{f:aG}{a b:Int}(ha:a≠0)(hb:b≠0)(h:PS.C a*ps f=PS.C b*ps g):T2 (co f) (co g):=⟨a,b,ha,hb,λi=>by have:=gx (bi PS.c h) i;rw[PS.U3,PS.U3]at this;exact this⟩
def Q9(s:aG):Prop:=∀P:Nat,Uz P->∃k,¬(P:Int) ∣ s.getD k 0
def LQ(s:aG)(k:Nat):(s.map λx=>-x).getD k 0=-s.getD k 0:=jb rfl s k
def EX(h:aY f)(Uy:f≠[]):Q9 (a9 f):=λP hP=>by let⟨k,hk⟩:=DB hP.two<|m5 h Uy;refine⟨k,?_⟩;unfold a9;split;rw[LQ];exactλz=>hk<|Int.dvd_neg.mp z;exact hk
def Dn{f:aG}(Uy:f≠[]):a9 f≠[]:=λz=>Uy<|aw<|by rw[<-gu f,z];rfl
def CV(g:aG):a8 [] g=[]:=N5 (fT _) (.inl rfl)<|by rw[Js,N4];grind
theorem G8{g r:aG}{m:Int}(hg:g≠[])(h1:g.length<=r.length)(em:ak r=m*ak g)(i:Nat):co r i=co (fU g r.dropLast m<|g.length-1) i+m*(if r.length-g.length<=i then co g (i-(r.length-g.length))else 0):=by
 have WV:=az.mpr hg;have hr:r≠[]:=λz=>by rw[z]at h1;simp at h1;exact hg h1
 have er:=lJ hr;have hl:r.dropLast.length+1=r.length:=by have:=bi List.length er;rw[aJ]at this;simpa using this.symm
 have sh:r.length-g.length=r.dropLast.length-(g.length-1):=by lia
 rw[sh];rcases gO i r.dropLast.length with z |z |z;have ec:co r i=r.dropLast.getD i 0:=by
  show r.getD i 0=_
  conv=>lhs;rw[er]
  rw[ag,bj z,<-ag]
 show _=(fU g r.dropLast m<|g.length-1).getD i 0+_;rw[ec,jA z];by_cases y:r.dropLast.length-(g.length-1)<=i;rw[am ⟨y,by lia⟩,am y];show _=_+m*g.getD (i-(r.dropLast.length-(g.length-1))) 0;lia;rw[ap λz=>y z.1,ap y];lia;have ec:co r i=ak r:=by
  show r.getD i 0=_
  conv=>lhs;rw[er,z]
  rw[ag,aX<|aq _,gc];rfl
 have el:=bW hg;have eq:co (fU g r.dropLast m<|g.length-1) i=0:=bn (by rw[dS];lia);rw[ec,eq,am<|by lia,show i-(r.dropLast.length-(g.length-1))=g.length-1 by lia,em];show _=0+m*g.getD (g.length-1) 0;rw[el];lia;have ec:co r i=0:=bn (by lia);have eq:co (fU g r.dropLast m<|g.length-1) i=0:=bn (by rw[dS];lia);have eg:co g (i-(r.dropLast.length-(g.length-1)))=0:=bn (by lia);rw[ec,eq,eg];split<;>lia
def Mw{g r:aG}{n s:Nat}(hl:ak g≠0)(φ:Nat->Int)(hr:r.length=n+1)(hs:n+1=s+g.length)(h:∀p,r.getD p 0=cv g φ (s+1) p):ak r=φ s*ak g:=by
 have hp:=az.mpr<|lu hl;have XX:r≠[]:=λy=>by subst y;simp at hr
 have g1:=bW XX;rw[hr,show n+1-1=n by lia,h n,xq,Ku g φ n s<|by lia,am<|by lia,show n-s=g.length-1 by lia,bW<|lu hl,iQ]at g1;exact g1.symm
theorem AW{g:aG}(hl:ak g≠0)(φ:Nat->Int):∀(n:Nat)(q r:aG),r.length=n->(∀p,r.getD p 0=cv g φ (n+1-g.length) p)->∃r',Iw g n r q=some (r',q++((List.range<|n+1-g.length).map φ).reverse)/\∀p,r'.getD p 0=0
 |0,q,r,hr,h=>by
  have hp:=az.mpr<|lu hl;have e:0+1-g.length=0:=by lia
  rw[e]at h ⊢;exact⟨r,by unfold Iw;simp,λp=>by rw[h p,xo]⟩
 |n+1,q,r,hr,h=>by
  unfold Iw;by_cases z:g.length<=r.length;rw[am z];obtain⟨s,hs⟩:∃s,n+1-g.length=s:=⟨_,rfl⟩;have e:n+1+1-g.length=s+1:=by lia
  rw[e]at h ⊢;have top:=Mw hl φ hr (by lia) h;have fm:(ak r).fmod (ak g)=0:=by rw[top];exact Int.mul_fmod_left _ _
  have fd:(ak r).fdiv (ak g)=φ s:=by rw[top];exact Int.mul_fdiv_cancel _ hl
  rw[am fm,fd];have key:=G8 (lu hl) z top;have YB:r.dropLast.length=n:=by rw[gR];lia
  let⟨r',e1,e2⟩:=AW hl φ n (q++[φ s]) (fU g r.dropLast (φ s)<|g.length-1) (by rwa[dS]) λp=>by have k:=key p;have hh:=h p;rw[xq]at hh;rw[show r.length-g.length=s by lia]at k;have k':r.getD p 0=(fU g r.dropLast (φ s)<|g.length-1).getD p 0+φ s*(if s<=p then g.getD (p-s) 0 else 0):=k;rw[hs];lia
  refine⟨r',?_,e2⟩;rw[e1,hs,lP,bO,List.reverse_append,ff];rfl;rw[ap z];have e:n+1+1-g.length=0:=by lia
  rw[e]at h ⊢;exact⟨r,by simp,λp=>by rw[h p,xo]⟩
def G5(h:aY u):c8 u=u:=oA (fT _) h λi=>lG u i
def ES(u:aG):(List.range u.length).map (λi=>u.getD i 0)=u:=nS (by simp) λj hj=>by rw[ae,fJ]at hj;rw[ag,aH,cq hj];rfl
def KD{r:aG}(h:∀p,r.getD p 0=0):r.any (· !=0)=false:=by rw[Io];intro x hx;obtain⟨k,hk,rfl⟩:=Tx hx;have:=h k;rw[mW hk]at this;simp[this]
theorem IB(ru:aY u)(rg:aY g)(hg:g≠[]):xv (a8 u g) g=aU u:=by
 have hl:=bG rg hg;have WV:=az.mpr hg;by_cases hu:u=[];subst hu;rw[CV];rfl;have tl:=(jz ru rg hu hg).1;have hn:(a8 u g).length+1-g.length=u.length:=by lia
 let⟨r',e1,e2⟩:=AW hl (λk=>u.getD k 0) (a8 u g).length [] (a8 u g) rfl λp=>by rw[hn,CW]
 unfold xv;rw[e1];show(if r'.any (· !=0)=true then D.TN else aU<|c8 ([]++((List.range<|(a8 u g).length+1-g.length).map λk=>u.getD k 0).reverse).reverse)=_;rw[KD e2,hn,MS,Th,ES,G5 ru];rfl
abbrev xF(f:aG):aG:=a9<|sh f<|fN f
def KJ(f u:aG):Prop:=aY u/\u≠[]/\a9 u=u/\a9 f=a8 u (xF f)
def IZ(rf:aY f)(hf:f≠[]):aY (xF f)/\xF f≠[]/\Q9 (xF f)/\a9 (xF f)=xF f:=by have rs:=lR rf;have rk:=pE rf rs;have hn:=I0 rs hf<|bG rf hf;exact⟨gZ rk,Dn hn,EX rk hn,mV rk⟩
def La(rf:aY f)(rg:aY g)(h:T2 (co f) (co g)):xF f=xF g:=by
 have hs:T2 (co<|fN f) (co<|fN g):=by let⟨a,b,ha,hb,e⟩:=h;refine Hb ha hb ?_;rw[Dl,Dl];refine PS.ext' λi=>?_;rw[PS.U3,PS.U3];show a*((i+1)*f.getD (i+1) 0)=b*((i+1)*g.getD (i+1) 0);have:=e<|i+1;have:a*f.getD (i+1) 0=b*g.getD (i+1) 0:=this;grind
 exact lM (pE rf<|lR rf) (pE rg<|lR rg)<|xH (lR rf) (lR rg) h hs
def MW:∀l,l<10->67<=xt l/\(2<=l->xt l<=41020):=by decide
theorem F8:∀(n:Nat)(f g:aG),g.length<=n->Vl f g->BB (xt (sh f g).length) (sh f g)
 |n,f,g,hn,hi=>by
  by_cases hg:g=[];subst hg;let⟨rf,rg,lf,A,B,hA,hB,hc⟩:=hi;rw[jC];have:=(MW f.length<|by lia).1;refine hA.mono ?_;rcases hc with z |z<;>lia
  match n with|0=>exact absurd (aw<|by lia) hg|n+1=>rw[gE hg];have hr:=km (f:=f) hg;exact F8 n g (eI f g) (by lia)<|hi.next hg
theorem C2(h:BB k f)(hl:f.length<=9):BB (4+k) (fN f):=λx hx=>by
 obtain⟨i,hi,rfl⟩:=dq.mp hx;have:=cc.mp hi;have h16:(1+(i:Int)).natAbs<2 ^ 4:=by lia
 exact cA h16<|h.get _
structure R9(f:aG):Prop where
 ok:aY f
 ne:f≠[]
 len:f.length<=9
 bb:BB 60 f
def R9.sin(h:R9 f):Vl f (fN f):=.start h.ok (lR h.ok) h.len (by rw[AL];have:=h.len;lia) (h.bb.mono<|by decide)<|(C2 h.bb h.len).mono<|by decide
def R9.s0(h:R9 f):S0 f (fN f):=⟨h.ok,lR h.ok,h.len,by rw[AL];have:=h.len;lia,h.bb.mono<|by decide,(C2 h.bb h.len).mono<|by decide⟩
def R9.plain(h:R9 f):R9 (a9 f):=⟨gZ h.ok,Dn h.ne,by rw[gu];exact h.len,lZ h.bb⟩
def R9.shb(h:R9 f):(xF f).length<=9/\1<=(xF f).length/\((xF f).length=1->xF f=[1])/\BB 41020 (xF f):=by
 have hs:=h.sin;have l1:=EK (fN f).length f (fN f) (aq _) hs;have b1:=F8 (fN f).length f (fN f) (aq _) hs;let⟨ok,ne,pr,pp⟩:=IZ h.ok h.ne;have hp:=az.mpr ne;have el:(xF f).length=(sh f<|fN f).length:=gu _;have one:(xF f).length=1->xF f=[1]:=λz=>by rw[<-pp];exact AX ok z
 refine⟨by lia,by lia,one,?_⟩;by_cases z:(xF f).length=1;rw[one z];intro x hx;have:x=1:=by simpa using hx
 subst this;exact aE (show(1:Int).natAbs<2 ^ 1 by decide)<|aN (by decide) (by decide);exact lZ<|b1.mono<|(MW _<|by lia).2<|by lia
def pq(ds:bX)(d:D):Prop:=∃f u:aG,ds=[aU f]/\R9 f/\KJ f u/\d=aU u
def BZ:∀ds d,pq ds d->ds.length=1:=by rintro _ _ ⟨a,b,rfl,_⟩;rfl
section
variable {X:Cx}
def FF(h:c7 P w K mg base k tM oy X)(cP:Callee X "plain_row" iS)(cW:Callee X "whole_quotient" ft)(cS:Callee X "shared_row" ly)(cL:Callee X "slope" CD):Go X tM oy pq:=by
 rintro ds d ⟨f,u,rfl,hf,hb,rfl⟩;have t:=h.at';haveI:=h.T6;let⟨ru,hu,pu,eu⟩:=hb;let⟨ok,ne,pr,pp⟩:=IZ hf.ok hf.ne;let⟨l9,l1,one,bb⟩:=hf.shb;have hp:=hf.plain;have es:xF (a9 f)=xF f:=La hp.ok hf.ok (rA hf.ok).symm;have hw:xv (a9 f) (xF f)=aU u:=by rw[eu];exact IB ru ok ne
 have lf:=hf.len;have pl:=hp.len;show TB X [.val<|aU f,.un] _ _;refine ao (c9 (tq t (Tz.p<|aa t 0) (Tz.p (d:=aU [])<|bw ai) (dH _) (dH _)<|by rw[mZ,ah hf.ne]) bM) ?_;refine ao (bC t 1<|au t cP (ac (aa t 0) ai) ⟨f,rfl,by lia,m5 hf.ok,rfl⟩) ?_;exact aA<|aW<|au t cW (ac (aa t 1)<|ac (d:=aU<|xF f) (au t cS (ac (aa t 1)<|ac (au t cL (ac (aa t 1) ai) ⟨a9 f,rfl,by lia,rfl⟩) ai) ⟨a9 f,fN<|a9 f,rfl,hp.s0,hp.sin,by rw[<-es]⟩) ai) ⟨a9 f,xF f,rfl,pl,l9,ne,bG ok ne,hp.bb.mono<|by decide,bb.mono<|by decide,hw.symm⟩
end
def v8(t b:Int):aG->Int|[]=>0|c::s=>v8 t b s*t+c*b ^ s.length
def Gn{b:Int}(hb:b.natAbs<2 ^ h)(i:Nat):(b ^ i).natAbs<=2 ^ (h*i):=by rw[Int.natAbs_pow,Nat.pow_mul];exact Tu (gQ hb) i
def Ly{b:Int}{K:Nat}(hb:b.natAbs<2 ^ h)(i:Nat)(hK:h*i<K):(b ^ i).natAbs<2 ^ K:=bz (Gn hb i)<|Tg (by decide) hK
def IS{t b:Int}(ht:t.natAbs<2 ^ h)(hb:b.natAbs<2 ^ h):∀(s:aG),(∀x∈s,x.natAbs<2 ^ m)->(v8 t b s).natAbs<2 ^ (m+(h+1)*s.length)
 |[],_=>by show(0:Int).natAbs<_;exact xY _
 |c::s,hs=>by
  have ih:=IS ht hb s λx hx=>hs x<|aM _ hx;have hc:=hs c bA;show(v8 t b s*t+c*b ^ s.length).natAbs<2 ^ (m+(h+1)*(s.length+1));have e1:=hG ih ht;have e2:c.natAbs*(b ^ s.length).natAbs<2 ^ (m+h*s.length):=by rw[jT];exact bz (eC _<|Gn hb s.length)<|NC hc<|xY _
  have e0:(h+1)*s.length=h*s.length+s.length:=by rw[KY,Nat.one_mul]
  have e3:2 ^ (m+h*s.length)<=2 ^ (m+(h+1)*s.length+h):=aN (by decide) (by lia);have e4:2 ^ (m+(h+1)*(s.length+1))=2 ^ (m+(h+1)*s.length+h)+2 ^ (m+(h+1)*s.length+h):=by rw[show m+(h+1)*(s.length+1)=m+(h+1)*s.length+h+1 by rw[Nat.mul_add];lia,sw];lia
  have e5:=Int.natAbs_add_le (v8 t b s*t)<|c*b ^ s.length;rw[cZ,cZ]at e5;lia
def ii{x:Nat}{k:Nat}(h:x<2 ^ j)(hk:j<=k):x<2 ^ k:=aE h<|aN (by decide) hk
def Oa(t b:Int):D:=.tup [.int t,.int b]
structure VV(f:aG)(t b:Int):Prop where
 len:f.length<=9
 bd:∀x∈f,x.natAbs<2 ^ 1000
 top:t.natAbs<2 ^ 70000
 bot:b.natAbs<2 ^ 70000
def VV.sv(v:VV f t b):(v8 t b f).natAbs<2 ^ 640000:=aE (IS v.top v.bot f v.bd)<|aN (by decide)<|by have:=v.len;lia
def VV.drop(v:VV f t b)(n:Nat):VV (f.drop n) t b:=⟨by rw[du];have:=v.len;lia,λx hx=>v.bd x<|pS hx,v.top,v.bot⟩
def mr(ds:bX)(d:D):Prop:=∃(f:aG)(t b:Int),ds=[aU f,Oa t b]/\VV f t b/\d=.int (v8 t b f)
def u4:∀ds d,mr ds d->ds.length=2:=by rintro _ _ ⟨f,t,b,rfl,_⟩;rfl
def gA(ds:bX)(d:D):Prop:=∃(f:aG)(t b:Int),ds=[aU f,Oa t b]/\VV f t b/\d=.int (v8 t b f).sign
def uq:∀ds d,gA ds d->ds.length=2:=by rintro _ _ ⟨f,t,b,rfl,_⟩;rfl
section
variable {X:Cx}
def y3(h:c7 P w K mg base k mj gX X)(Vs:mg "reversed"=none):Go X mj gX mr:=by
 rintro ds d ⟨f,q,z,rfl,v,rfl⟩;have t:=h.at';haveI:=h.T6;have bl:so X (ay gX) "reversed" (.type "reversed"):=Fq (by rw[h.VR];exact Vs) (v:=by decide);show TB X [.val<|aU f,.val<|Oa q z,.un,.un,.un,.un,.un] _ _;refine ao (kj t (aa t 1)<|jf (ds:=[.int q,.int z]) t<|bq (aZ t 2)<|bq (aZ t 3) gJ) ?_;refine ao (kj t (bw<|ac af<|ac af ai)<|jf (ds:=[.int 0,.int 1]) t<|bq (aZ t 4)<|bq (aZ t 5) gJ) ?_;have hb:=v.bot;refine ao (TW:=[.val<|aU f,.val<|Oa q z,.val<|.int q,.val<|.int z,.val<|.int<|v8 q z f,.val<|.int<|z ^ f.length,.un]) (jx t (Pd t bl<|aa t 0)<|T5.Ue (λi=>[.val<|aU f,.val<|Oa q z,.val<|.int q,.val<|.int z,.val<|.int<|v8 q z<|f.drop<|f.length-i,.val<|.int<|z ^ i,.un]) (λi d hi=>?_) ?_ ?_)<|aA<|aW<|aa t 4
 ·rw[<-KQ,aH]at hi;cases e:f.reverse[i]? with
  |none=>rw[e]at hi;cases hi
  |some c=>
   rw[e]at hi;cases hi;obtain⟨Uv,hc⟩:=Jl e;have hlen:=v.len;have hd:f.drop (f.length-(i+1))=c::f.drop (f.length-i):=by
    have h1:f.length-(i+1)<f.length:=by lia
    rw[gD h1];have h3:f[f.length-(i+1)]?=some c:=by rw[show f.length-(i+1)=f.length-1-i by lia];exact hc
    have h2:f[f.length-(i+1)]=c:=(aV.mp h3).2;rw[h2,show f.length-(i+1)+1=f.length-i by lia]
   have hld:(f.drop<|f.length-i).length=i:=by rw[du];lia
   have hcb:c.natAbs<2 ^ 1000:=v.bd c<|CH hc;have hpi:(z ^ i).natAbs<2 ^ 640000:=Ly hb i (by lia);refine⟨_,aZ t 6,TB.weak (ao (bC t 4<|cp (bc (aa t 4) (aa t 2)<|dz (k:=640000) (by decide) (v.drop _).sv<|ii v.top<|by decide)<|bc (aa t 6) (aa t 5)<|dz (k:=640000) (by decide) (ii hcb<|by decide) hpi)<|aA<|De t 5 rfl (aa t 3)<|dz (k:=640000) (by decide) hpi<|ii hb<|by decide) ?_⟩;rw[hd];show UO _ [.val<|aU f,.val<|Oa q z,.val<|.int q,.val<|.int z,.val<|.int<|v8 q z (f.drop<|f.length-i)*q+c*z ^ (f.drop<|f.length-i).length,.val<|.int<|z ^ (i+1),.un];rw[hld,SA];exact .keep<|.keep<|.keep<|.keep<|.keep<|.keep<|.forget .nil
 ·rw[kx,List.drop_length,Int.pow_zero];rfl
 ·rw[dr,ae,gc,PD]
def wx(h:c7 P w K mg base k kH iD X)(cS:Callee X "sign_of" rO)(cV:Callee X "scaled_value" mr):Go X kH iD gA:=by rintro ds d ⟨f,q,z,rfl,v,rfl⟩;have t:=h.at';show TB X [.val<|aU f,.val<|Oa q z] _ _;exact aA<|aW<|au t cS (ac (au t cV (ac (aa t 0)<|ac (aa t 1) ai) ⟨f,q,z,rfl,v,rfl⟩) ai) ⟨_,rfl,rfl⟩
end
def fY:aG->Rat->Rat|[],_=>0|c::f,q=>(c:Rat)+q*fY f q
def CY(t b:Int)(q:Rat)(hq:(t:Rat)=q*(b:Rat)):∀f:aG,(v8 t b f:Rat)*(b:Rat)=fY f q*(b:Rat) ^ f.length
 |[]=>by show(0:Rat)*_=0*_;grind
 |c::s=>by
  have ih:=CY t b q hq s;show((v8 t b s*t+c*b ^ s.length:Int):Rat)*(b:Rat)=((c:Rat)+q*fY s q)*(b:Rat) ^ (s.length+1);rw[eJ,aI,aI,MR,nB,hq];have e:(v8 t b s:Rat)*(q*(b:Rat))*(b:Rat)=fY s q*(b:Rat) ^ s.length*q*(b:Rat):=by rw[<-ih];grind
  grind
def sg(x:Rat):Int:=if 0<x then 1 else if x<0 then-1 else 0
def iq{x:Rat}(h:0<x):sg x=1:=by unfold sg;rw[am h]
def m3{x:Rat}(h:x<0):sg x=-1:=by unfold sg;rw[ap<|by grind,am h]
def wV:sg 0=0:=by unfold sg;rw[ap<|by grind,ap<|by grind]
def pZ(x:Rat):(0<x/\sg x=1)\/(x<0/\sg x=-1)\/(x=0/\sg x=0):=by
 by_cases h:0<x;·exact .inl ⟨h,iq h⟩
 ·by_cases h2:x<0;·exact .inr<|.inl ⟨h2,m3 h2⟩
  ·have:x=0:=by grind
   exact .inr<|.inr ⟨this,by rw[this];exact wV⟩
def n4(x y:Rat):sg (x*y)=sg x*sg y:=by
 rcases pZ x with⟨h,e⟩ |⟨h,e⟩ |⟨h,e⟩<;>rcases pZ y with⟨k,f⟩ |⟨k,f⟩ |⟨k,f⟩<;>rw[e,f];·rw[iq<|mz h k];rfl
 ·rw[m3<|by have:=mz h (show 0< -y by grind);grind];rfl
 ·rw[k,Rat.mul_zero,wV];rfl
 ·rw[m3<|by have:=mz (show 0< -x by grind) k;grind];rfl
 ·rw[iq<|by have:=mz (show 0< -x by grind) (show 0< -y by grind);grind];rfl
 ·rw[k,Rat.mul_zero,wV];rfl
 all_goals rw[h,Rat.zero_mul,wV];simp
def kq(t:Rat):Rat:=if t<0 then-(t*t)else t*t
def M1{s t:Rat}(h0:0<=s)(h:s<t):s*s<t*t:=by
 have h1:0<t:=by grind
 have a:=pR (dI h) h0;have b:=su h h1;grind
def qw{s t:Rat}(h:s<t):kq s<kq t:=by
 unfold kq;by_cases a:s<0
 ·rw[am a];by_cases b:t<0;·rw[am b];have:=M1 (s:=-t) (t:=-s) (by grind) (by grind);grind
  ·rw[ap b];have h1:0<s*s:=by have:=mz (a:=-s) (b:=-s) (by grind) (by grind);grind
   have h2:0<=t*t:=jS (by grind) (by grind);grind
 ·rw[ap a,ap<|by grind];exact M1 (by grind) h
def VL{s t:Rat}:kq s<kq t↔s<t:=⟨λh=>by
 by_cases z:s<t;·exact z
 ·by_cases y:t<s;·have:=qw y;grind
  ·have:s=t:=by grind
   subst this;grind,qw⟩
structure Sp(s:Int)(UI:Rat)(h:aG)(lo hi:Rat):Prop where
 s1:s=1\/s=-1
 le:(lo=hi/\kq lo=UI)\/(kq lo<UI/\UI<kq hi)
 sg:∀t,lo<=t->t<=hi->sg (fY h t)=s*sg (kq t-UI)
section
variable {UI wd lo hi:Rat}
def Sp.wide(p:Sp s UI h lo hi):lo<=hi:=by
 rcases p.le with⟨a,_⟩ |⟨a,b⟩;·rw[a];exact iI
 ·exact dI<|VL.mp<|by grind
def Sp.strict(p:Sp s UI h lo hi)(z:lo<hi):kq lo<UI/\UI<kq hi:=by
 rcases p.le with⟨a,_⟩ |a;·grind
 ·exact a
def Sp.low(p:Sp s UI h lo hi)(z:lo<hi):My.sg (fY h lo)=-s:=by have:=(p.strict z).1;rw[p.sg lo iI<|dI z,m3<|by grind];lia
def CL(lo hi:Rat):Rat:=(lo+hi) / 2
def LN(h:aG)(s0:Int)(lo hi:Rat):Rat:=if My.sg (fY h<|CL lo hi)=0\/My.sg (fY h<|CL lo hi)=s0 then CL lo hi else lo
def LO(h:aG)(s0:Int)(lo hi:Rat):Rat:=if My.sg (fY h<|CL lo hi)=s0 then hi else CL lo hi
def Ep(h:aG)(s0:Int)(wd:Rat):Nat->Rat->Rat->Rat×Rat|0,lo,hi=>(lo,hi)|n+1,lo,hi=>if wd<hi-lo then Ep h s0 wd n (LN h s0 lo hi) (LO h s0 lo hi)else(lo,hi)
def OB(z:lo<hi):lo<CL lo hi/\CL lo hi<hi:=by unfold CL;grind
def Gv{s0:Int}(p:Sp s UI h lo hi)(z:lo<hi)(e0:s0=-s):Sp s UI h (LN h s0 lo hi) (LO h s0 lo hi)/\lo<=LN h s0 lo hi/\LO h s0 lo hi<=hi/\(LO h s0 lo hi-LN h s0 lo hi)*2<=hi-lo:=by
 obtain⟨m1,m2⟩:=OB z;obtain⟨k1,k2⟩:=p.strict z;have e:=p.sg (CL lo hi) (dI m1)<|dI m2;unfold LN LO;rw[e];have ec:CL lo hi=(lo+hi) / 2:=rfl;generalize CL lo hi=c at*;have s1:=p.s1;rcases pZ (kq c-UI)with⟨y,e1⟩ |⟨y,e1⟩ |⟨y,e1⟩;·rw[e1,ap<|by lia,ap<|by lia];exact⟨⟨p.s1,.inr ⟨k1,by grind⟩,λt h1 h2=>p.sg t h1<|by grind⟩,iI,dI m2,by grind⟩
 ·rw[e1,am<|by lia,am<|by lia];exact⟨⟨p.s1,.inr ⟨by grind,k2⟩,λt h1 h2=>p.sg t (by grind) h2⟩,dI m1,iI,by grind⟩
 ·rw[e1,am<|by lia,ap<|by lia];exact⟨⟨p.s1,.inl ⟨rfl,by grind⟩,λt h1 h2=>p.sg t (by grind)<|by grind⟩,dI m1,dI m2,by grind⟩
end
def Dy(m:Nat)(x:Rat):Prop:=∃z:Int,x*(24*2 ^ m)=z
def Dy.up{x:Rat}(h:Dy m x):Dy (m+1) x:=by obtain⟨z,e⟩:=h;exact⟨z*2,by rw[nB,aI,<-e];grind⟩
def Dy.mid{x y:Rat}(h:Dy m x)(k:Dy m y):Dy (m+1) (CL x y):=by obtain⟨z,e⟩:=h;obtain⟨w,f⟩:=k;exact⟨z+w,by unfold CL;rw[nB,eJ,<-e,<-f];grind⟩
def Dy.fb{x:Rat}(h:Dy m x)(h1: -64<=x)(h2:x<=64):fb (m+11) x:=by
 obtain⟨z,e⟩:=h;have hN:((24*2 ^ m:Nat):Int)≠0:=by have:=gN (n:=m) (show 0<2 by decide);lia
 have cN:(((24*2 ^ m:Nat):Int):Rat)=24*2 ^ m:=by rw[dR,aI,zu,MR];rfl
 have pN:(0:Rat)<24*2 ^ m:=mz (by decide)<|Rat.pow_pos (by decide);have ex:x=Rat.divInt z ((24*2 ^ m:Nat):Int):=by rw[uN,cN,<-e];generalize(24:Rat)*2 ^ m=N at*;grind
 have zb:z.natAbs<=64*(24*2 ^ m):=by
  have u1:(z:Rat)<=((64*((24*2 ^ m:Nat):Int):Int):Rat):=by rw[aI,cN,<-e];exact cb h2<|dI pN
  have u2:((-(64*((24*2 ^ m:Nat):Int)):Int):Rat)<=(z:Rat):=by rw[lO,aI,cN,<-e];have:=cb h1<|dI pN;generalize(24:Rat)*2 ^ m=N at*;have e64:((64:Int):Rat)=64:=rfl;rw[e64];grind
  have v1:=cJ.mp u1;have v2:=cJ.mp u2;lia
 rw[ex];obtain⟨d1,d2⟩:=vc (a:=z) hN;rw[aB]at d2;have e:2 ^ (m+11)=2 ^ m*2048:=by rw[jT]
 have:=gN (n:=m) (show 0<2 by decide);exact⟨by lia,by lia⟩
section
variable {UI wd:Rat}
def JL{s0:Int}:∀(n:Nat){lo hi:Rat},Sp s UI h lo hi->(lo<hi->s0=-s)->0<=wd->Sp s UI h (Ep h s0 wd n lo hi).1 (Ep h s0 wd n lo hi).2/\lo<=(Ep h s0 wd n lo hi).1/\(Ep h s0 wd n lo hi).2<=hi/\(hi-lo<=wd*2 ^ n->(Ep h s0 wd n lo hi).2-(Ep h s0 wd n lo hi).1<=wd)
 |0,lo,hi,p,_,_=>⟨p,iI,iI,λz=>by rw[Ii]at z;show hi-lo<=wd;grind⟩
 |n+1,lo,hi,p,e0,h0=>by
  unfold Ep;by_cases z:wd<hi-lo
  ·rw[am z];have lt:lo<hi:=by grind
   obtain⟨q,q1,q2,q3⟩:=Gv p lt<|e0 lt;obtain⟨r,r1,r2,r3⟩:=JL n q (λ_=>e0 lt) h0;exact⟨r,nC q1 r1,nC r2 q2,λk=>r3<|by rw[nB]at k;grind⟩
  ·rw[ap z];exact⟨p,iI,iI,λ_=>by grind⟩
def JK:∀(n m:Nat){lo hi:Rat},Dy m lo->Dy m hi->Dy (m+n) (Ep h s0 wd n lo hi).1/\Dy (m+n) (Ep h s0 wd n lo hi).2
 |0,m,lo,hi,a,b=>⟨a,b⟩
 |n+1,m,lo,hi,a,b=>by
  have up:∀k,∀{x:Rat},Dy m x->Dy (m+k) x:=λk=>by
   induction k with
   |zero=>exactλz=>z
   |succ k ih=>exactλz=>(ih z).up
  unfold Ep;split
  ·rw[show m+(n+1)=m+1+n by lia];refine JK n (m+1) ?_ ?_
   ·unfold LN;split;·exact a.mid b
    ·exact a.up
   ·unfold LO;split;·exact b.up
    ·exact a.mid b
  ·exact⟨up _ a,up _ b⟩
end
def kD(h:aG)(lo hi:Rat):D:=.tup [aU h,bZ lo,bZ hi]
def Uo(h:aG):Prop:=h≠[]/\h.length<=5/\BB 60 h
def sL(h:aG)(lo:Rat):Int:=sg<|fY h lo
def E3(h:aG)(wd lo hi:Rat):Rat×Rat:=Ep h (sL h lo) wd 40 lo hi
def tR(ds:bX)(d:D):Prop:=∃(s:Int)(UI:Rat)(h:aG)(lo hi wd:Rat),ds=[kD h lo hi,bZ wd]/\Uo h/\Sp s UI h lo hi/\fb 1000 lo/\fb 1000 hi/\fb 2160 wd/\-64<=lo/\hi<=64/\0<=wd/\hi-lo<=wd*2 ^ 40/\d=kD h (E3 h wd lo hi).1 (E3 h wd lo hi).2
def BR:∀ds d,tR ds d->ds.length=2:=by rintro _ _ ⟨_,_,_,_,_,_,rfl,_⟩;rfl
def oM{x y:Int}{r:Rat}(hy:y≠0)(h:(x:Rat)=r*(y:Rat)):Rat.divInt x y=r:=by have XR:(y:Rat)≠0:=λz=>hy<|Ru.mp z;rw[uN,h,Rat.mul_div_cancel XR]
def fX(q:Rat):(q.num:Rat)=q*((q.den:Int):Rat):=by have h:=Rat.num_divInt_den q;have hd:((q.den:Int):Rat)≠0:=λz=>iM q<|Ru.mp z;rw[uN]at h;have h2:(q.num:Rat) / ((q.den:Int):Rat)*((q.den:Int):Rat)=q*((q.den:Int):Rat):=bi (·*((q.den:Int):Rat)) h;rw[Rat.div_mul_cancel hd]at h2;exact h2
def Bq(n:Int):sg (n:Rat)=n.sign:=by
 rcases gV n 0 with h |h |h;·rw[m3<|by have:=a7.mpr h;exact this,ce h]
 ·subst h;rfl
 ·rw[iq<|by have:=a7.mpr h;exact this,dF h]
def IR{t b:Int}{q:Rat}(hb:0<b)(hq:(t:Rat)=q*(b:Rat))(h:aG):(v8 t b h).sign=sg (fY h q):=by have pb:(0:Rat)<(b:Rat):=a7.mpr hb;have e:=CY t b q hq h;have e2:=bi sg e;rw[n4,n4,iq pb,iq<|Rat.pow_pos pb,CK,CK,Bq]at e2;exact e2
def GK{X:Cx}(hc:TC X U c r)(ha:r=true->Tz X U a d)(hb:r=false->Tz X U b d):Tz X U (.IfExp c a b pos) d:=by cases r with|true=>exact kF hc (ha rfl)|false=>exact iL hc<|hb rfl
def OU(a b c:Int):((TZ [.int a,.int b]).any λy=>PyData.eqv y<|ke<|.int c)=decide (c=a\/c=b):=by show((PyData.eqv (.int a)<|.int c)||((PyData.eqv (.int b)<|.int c)||false))=_;have e:∀x y:Int,PyData.eqv (.int x) (.int y)=decide (x=y):=λx y=>rfl;rw[Bool.or_false,e,e];by_cases h1:a=c<;>by_cases h2:b=c<;>simp[h1,h2,eq_comm]
structure SM(s s0:Int)(UI:Rat)(h:aG)(wd:Rat)(r:Rat×Rat)(z:Nat×Int×Int×Int×Rat×Rat):Prop where
 n:z.1<=40
 b0:0<z.2.2.2.1
 bb:z.2.2.2.1<2 ^ (2100-z.1)
 f:(z.2.1:Rat)=z.2.2.2.2.1*(z.2.2.2.1:Rat)
 l:(z.2.2.1:Rat)=z.2.2.2.2.2*(z.2.2.2.1:Rat)
 sp:Sp s UI h z.2.2.2.2.1 z.2.2.2.2.2
 lo: -64<=z.2.2.2.2.1
 hi:z.2.2.2.2.2<=64
 z0:z.2.2.2.2.1<z.2.2.2.2.2->s0=-s
 go:Ep h s0 wd z.1 z.2.2.2.2.1 z.2.2.2.2.2=r
 en:z.2.2.2.2.2-z.2.2.2.2.1<=wd*2 ^ z.1
def Q2{b f:Int}{x:Rat}(b0:0<b)(e:(f:Rat)=x*(b:Rat))(h1: -64<=x)(h2:x<=64):f.natAbs<=64*b.natAbs:=by
 have pb:(0:Rat)<=(b:Rat):=dI<|a7.mpr b0;have u1:(f:Rat)<=((64*b:Int):Rat):=by rw[aI,e];exact cb h2 pb
 have u2:((-64*b:Int):Rat)<=(f:Rat):=by rw[aI,e];exact cb h1 pb
 have v1:=cJ.mp u1;have v2:=cJ.mp u2;lia
def Mz{f l b:Int}{lo hi wd:Rat}(b0:0<b)(ef:(f:Rat)=lo*(b:Rat))(el:(l:Rat)=hi*(b:Rat)):(wd.num*b<(l-f)*(wd.den:Int))↔wd<hi-lo:=by
 have pb:(0:Rat)<(b:Rat):=a7.mpr b0;have pd:(0:Rat)<((wd.den:Int):Rat):=by have:((0:Int):Rat)<((wd.den:Int):Rat):=a7.mpr (by have:=wd.den_pos;lia);exact this
 have e1:((wd.num*b:Int):Rat)=wd*(((wd.den:Int):Rat)*(b:Rat)):=by rw[aI,fX];grind
 have e2:(((l-f)*(wd.den:Int):Int):Rat)=(hi-lo)*(((wd.den:Int):Rat)*(b:Rat)):=by rw[aI,iT,el,ef];grind
 rw[<-a7,e1,e2];have pp:=mz pd pb;constructor;·intro z;exact PB z<|dI pp
 ·intro z;exact su z pp
section
variable {X:Cx}
def Fx(h:c7 P w K mg base k tF oj X)(cV:Callee X "sign_of_value" gA)(cF:Callee X "fraction" jN):Go X tF oj tR:=by
 rintro ds d ⟨s,UI,hr,lo,hi,wd,rfl,ho,sp,fl,fh,fw,h1,h2,w0,en,rfl⟩;have t:=h.at';haveI:=h.T6;have vv:∀{a b:Int},a.natAbs<2 ^ 4000->b.natAbs<2 ^ 4000->VV hr a b:=λha hb=>⟨by have:=ho.2.1;lia,λx hx=>ii (ho.2.2 x hx)<|by decide,ii ha<|by decide,ii hb<|by decide⟩;have dl:0<(lo.den:Int):=by have:=lo.den_pos;lia
 have dh:0<(hi.den:Int):=by have:=hi.den_pos;lia
 have bl:=hG fl.2 fh.2;have be:((lo.den:Int)*(hi.den:Int))=((lo.den*hi.den:Nat):Int):=(dR _ _).symm;have ZK:(v8 lo.num (lo.den:Int) hr).sign=sL hr lo:=IR dl (fX lo) hr;show TB X [.val<|kD hr lo hi,.val<|bZ wd,.un,.un,.un,.un,.un,.un,.un,.un,.un] _ _;refine ao (kj t (aa t 0)<|jf (ds:=[aU hr,bZ lo,bZ hi]) t<|bq (aZ t 2)<|bq (aZ t 3)<|bq (aZ t 4) gJ) ?_;refine ao (NQ t 5 6 7 (bc (aF (Tz.qt<|aa t 3) af<|UP lo) (aF (Tz.qt<|aa t 4) af<|tz hi)<|dz (k:=1000) (by decide) fl.1<|by rw[aB];exact fh.2) (bc (aF (Tz.qt<|aa t 4) af<|UP hi) (aF (Tz.qt<|aa t 3) af<|tz lo)<|dz (k:=1000) (by decide) fh.1<|by rw[aB];exact fl.2) (bc (aF (Tz.qt<|aa t 3) af<|tz lo) (aF (Tz.qt<|aa t 4) af<|tz hi)<|dz (k:=1000) (by decide) (by rw[aB];exact fl.2)<|by rw[aB];exact fh.2) (by decide) (by decide)<|by decide) ?_;refine ao (bC t 8<|Tz.eq (au t cV (ac (aa t 2)<|ac (aa t 3) ai) ⟨hr,lo.num,(lo.den:Int),rfl,vv (ii fl.1<|by decide)<|by rw[aB];exact ii fl.2<|by decide,rfl⟩)<|bi D.int ZK) ?_;refine rK t (λz:Nat×Int×Int×Int×Rat×Rat=>[.val<|kD hr lo hi,.val<|bZ wd,.val<|aU hr,.val<|bZ lo,.val<|bZ hi,.val<|.int z.2.1,.val<|.int z.2.2.1,.val<|.int z.2.2.2.1,.val<|.int<|sL hr lo,.un,.un]) (SM s (sL hr lo) UI hr wd<|E3 hr wd lo hi) (λz=>SM s (sL hr lo) UI hr wd (E3 hr wd lo hi) z/\E3 hr wd lo hi=(z.2.2.2.2.1,z.2.2.2.2.2)) (λz=>z.1) (40,lo.num*(hi.den:Int),hi.num*(lo.den:Int),(lo.den:Int)*(hi.den:Int),lo,hi) ⟨aq _,uP dl dh,?_,?_,?_,sp,h1,h2,λz=>sp.low z,rfl,en⟩ (λz hz=>?_) λz hz=>?_;·dsimp only;rw[be];exact Int.ofNat_lt.mpr<|by simpa using ii bl (k:=2060) (by decide)
 ·dsimp only;rw[aI,aI,fX];grind
 ·dsimp only;rw[aI,aI,fX];grind
 ·obtain⟨n,f,l,b,a,c⟩:=z;obtain⟨hn,b0,bb,ef,el,sq,h3,h4,z0,go,Yz⟩:=hz;dsimp only at*;have fa:a<=c:=sq.wide;have a1:=Q2 b0 ef h3 (by grind);have a2:=Q2 b0 el (by grind) h4;have hb9:b.natAbs<2 ^ 2100:=by
   have e:=aN (show 0<2 by decide) (show 2100-n<=2100 by lia);have f:((2 ^ (2100-n):Nat):Int)=2 ^ (2100-n):=by simp
   lia
  have hf9:f.natAbs<2 ^ 2110:=by
   have:(2:Nat) ^ 2110=1024*2 ^ 2100:=by rw[show 2110=10+2100 from rfl,jT]
   lia
  have hl9:l.natAbs<2 ^ 2110:=by
   have:(2:Nat) ^ 2110=1024*2 ^ 2100:=by rw[show 2110=10+2100 from rfl,jT]
   lia
  have big:∀{x:Int},x.natAbs<2 ^ 2110->(2*x).natAbs<2 ^ 2160:=λ{x}hx=>by
   have:(2:Nat) ^ 2160=1125899906842624*2 ^ 2110:=by rw[show 2160=50+2110 from rfl,jT]
   lia
  have hfl:(f+l).natAbs<2 ^ 2160:=by
   have:(2:Nat) ^ 2160=1125899906842624*2 ^ 2110:=by rw[show 2160=50+2110 from rfl,jT]
   lia
  have hlf:(l-f).natAbs<2 ^ 2160:=by
   have:(2:Nat) ^ 2160=1125899906842624*2 ^ 2110:=by rw[show 2160=50+2110 from rfl,jT]
   lia
  have m1:IntMulOk (l-f) (wd.den:Int):=dz (k:=2160) (by decide) hlf (by rw[aB];exact fw.2);have m2:IntMulOk wd.num b:=dz (k:=2160) (by decide) fw.1<|ii hb9 (by decide);have cd:=Mz (wd:=wd) b0 ef el;by_cases z:wd<c-a
  ·obtain⟨j,rfl⟩:∃j,n=j+1:=by cases n with|zero=>rw[Ii]at Yz;grind|succ j=>exact⟨j,rfl⟩
   have lt:a<c:=by grind
   obtain⟨q,q1,q2,q3⟩:=Gv sq lt<|z0 lt;unfold Ep at go;rw[am z]at go;have esg:(v8 (f+l) (2*b) hr).sign=sg (fY hr<|CL a c):=IR (by lia) (by unfold CL;rw[eJ,aI,ef,el];grind) hr;generalize hsg:sg (fY hr<|CL a c)=g at*;have eL:(((if g=0\/g=sL hr lo then f+l else 2*f:Int)):Rat)=LN hr (sL hr lo) a c*((2*b:Int):Rat):=by
    unfold LN CL;rw[show sg (fY hr<|(a+c) / 2)=g from hsg];split;·rw[eJ,aI,ef,el];grind
    ·rw[aI,aI,ef];grind
   have eH:(((if g=sL hr lo then 2*l else f+l:Int)):Rat)=LO hr (sL hr lo) a c*((2*b:Int):Rat):=by
    unfold LO CL;rw[show sg (fY hr<|(a+c) / 2)=g from hsg];split;·rw[aI,aI,el];grind
    ·rw[eJ,aI,ef,el];grind
   refine .inr ⟨TC.eq (qB (bc (dD (aa t 6)<|aa t 5) (aF (Tz.qt<|aa t 1) af<|tz wd) m1)<|bc (aF (Tz.qt<|aa t 1) af<|UP wd) (aa t 7) m2)<|av<|cd.mpr z,.inr ⟨(j,(if g=0\/g=sL hr lo then f+l else 2*f),(if g=sL hr lo then 2*l else f+l),2*b,LN hr (sL hr lo) a c,LO hr (sL hr lo) a c),?_,⟨by dsimp only;lia,by dsimp only;lia,?_,eL,eH,q,by dsimp only;grind,by dsimp only;grind,λ_=>z0 lt,go,by dsimp only;rw[nB]at Yz;grind⟩,kz _⟩⟩;·refine TB.weak (ao (qj t 9 7 (cp (aa t 5)<|aa t 6) (bc af (aa t 7)<|de (by decide)<|by decide)<|by decide)<|ao (bC t 10<|Tz.eq (au t cV (ac (aa t 2)<|ac (bw<|ac (aa t 9)<|ac (aa t 7) ai) ai) ⟨hr,f+l,2*b,rfl,vv (ii hfl<|by decide)<|ii (big<|ii hb9<|by decide)<|by decide,rfl⟩)<|bi D.int esg)<|ao (bC t 5 (d:=.int (if g=0\/g=sL hr lo then f+l else 2*f))<|GK (O8 t (aa t 10) (bw<|ac af<|ac (aa t 8) ai) rfl (bP rfl) rfl<|OU _ _ _) (λy=>Tz.eq (aa t 9)<|by rw[am<|bB y]) λy=>Tz.eq (bc af (aa t 5)<|de (by decide)<|by decide)<|by rw[ap<|mx y])<|aA<|bC t 6 (d:=.int (if g=sL hr lo then 2*l else f+l))<|GK (qA (aa t 10)<|aa t 8) (λy=>Tz.eq (aa t 9)<|by rw[ap<|mx<|by simpa using y]) λy=>Tz.eq (bc af (aa t 6)<|de (by decide)<|by decide)<|by rw[am<|bB<|by simpa using y])<|.keep<|.keep<|.keep<|.keep<|.keep<|.keep<|.keep<|.keep<|.keep<|.forget<|.forget .nil
   ·dsimp only;have:(2:Int) ^ (2100-j)=2*2 ^ (2100-(j+1)):=by rw[show 2100-j=2100-(j+1)+1 by lia,SA];lia
    lia
  ·have go':Ep hr (sL hr lo) wd n a c=(a,c):=by cases n with|zero=>rfl|succ j=>unfold Ep;rw[ap z]
   exact .inl ⟨TC.eq (qB (bc (dD (aa t 6)<|aa t 5) (aF (Tz.qt<|aa t 1) af<|tz wd) m1)<|bc (aF (Tz.qt<|aa t 1) af<|UP wd) (aa t 7) m2) (ah λy=>z<|cd.mp y),⟨hn,b0,bb,ef,el,sq,h3,h4,z0,go,Yz⟩,go.symm.trans go'⟩
 ·obtain⟨n,f,l,b,a,c⟩:=z;obtain⟨⟨hn,b0,bb,ef,el,sq,h3,h4,z0,go,Yz⟩,er⟩:=hz;dsimp only at*;rw[er];have b1:b≠0:=by lia
  exact aA<|aW<|bw<|ac (aa t 2)<|ac (au t cF (ac (aa t 5)<|ac (aa t 7) ai) ⟨f,b,rfl,b1,by rw[oM b1 ef]⟩)<|ac (au t cF (ac (aa t 6)<|ac (aa t 7) ai) ⟨l,b,rfl,b1,by rw[oM b1 el]⟩) ai
end
def Dy.ups{x:Rat}(h:Dy m x):∀k,Dy (m+k) x|0=>h|k+1=>(h.ups k).up
def Dy.half{x:Rat}(h:Dy m x):Dy (m+1) (x / 2):=by obtain⟨z,e⟩:=h;exact⟨z,by rw[nB,<-e];grind⟩
def JX{s t:Rat}(h:s<=t)(h1: -64<=s)(h2:t<=64):kq t-kq s<=128*(t-s):=by
 have d0:0<=t-s:=by grind
 unfold kq;by_cases a:s<0
 ·rw[am a];by_cases b:t<0;·rw[am b];have:=cb (show-(s+t)<=128 by grind) d0;grind
  ·rw[ap b];have u1:=cb (show-s<=64 by grind) (show 0<=-s by grind);have u2:=cb (show t<=64 by grind) (show 0<=t by grind);grind
 ·rw[ap a,ap<|by grind];have:=cb (show s+t<=128 by grind) d0;grind
def Sp.Xo{UI lo hi:Rat}(p:Sp s UI h lo hi):kq lo<=UI/\UI<=kq hi:=by
 rcases p.le with⟨a,b⟩ |⟨a,b⟩;·subst a;grind
 ·grind
def HH{ka kb a1 a2 b1 b2 wd:Rat}(p:Sp s ka ha a1 a2)(q:Sp s' kb hb b1 b2)(l1: -64<=a1)(l2: -64<=b1)(u1:a2<=64)(u2:b2<=64)(wa:a2-a1<=wd)(wb:b2-b1<=wd)(hg:256*wd<ka-kb\/256*wd<kb-ka):a2<b1\/b2<a1:=by
 obtain⟨a3,a4⟩:=p.Xo;obtain⟨b3,b4⟩:=q.Xo;have w1:=p.wide;have w2:=q.wide;by_cases z:a2<b1;·exact .inl z
 ·refine .inr ?_;by_cases y:b2<a1;·exact y
  ·rcases hg with g |g;·have:=JX (s:=b1) (t:=a2) (by grind) l2 u1;grind
   ·have:=JX (s:=a1) (t:=b2) (by grind) l1 u2;grind
structure Q4 where
 a1:Rat
 a2:Rat
 b1:Rat
 b2:Rat
def Q4.sep(q:Q4):Prop:=q.a2<q.b1\/q.b2<q.a1
instance (q:Q4):Decidable q.sep:=inferInstanceAs (Decidable (_\/_))
def R3(ha hb:aG)(wd:Rat)(q:Q4):Q4:=⟨(E3 ha wd q.a1 q.a2).1,(E3 ha wd q.a1 q.a2).2,(E3 hb wd q.b1 q.b2).1,(E3 hb wd q.b1 q.b2).2⟩
def A3(ha hb:aG):Nat->Rat->Q4->Q4|0,_,q=>q|n+1,wd,q=>if q.sep then q else A3 ha hb n (wd / 2)<|R3 ha hb (wd / 2) q
structure KInv(s s':Int)(ka kb:Rat)(ha hb:aG)(n:Nat)(wd:Rat)(q:Q4):Prop where
 hn:n<=23
 sa:Sp s ka ha q.a1 q.a2
 sb:Sp s' kb hb q.b1 q.b2
 l1: -64<=q.a1
 l2: -64<=q.b1
 u1:q.a2<=64
 u2:q.b2<=64
 w0:0<=wd
 wa:q.a2-q.a1<=wd
 wb:q.b2-q.b1<=wd
 wn:wd*2 ^ (23-n)<=64
 d1:Dy (40*(23-n)) q.a1
 d2:Dy (40*(23-n)) q.a2
 d3:Dy (40*(23-n)) q.b1
 d4:Dy (40*(23-n)) q.b2
 dw:Dy (40*(23-n)) wd
section
variable {ka kb wd:Rat}{q:Q4}
def Gw{lo hi:Rat}(p:Sp s ka ha lo hi)(h0:0<=wd)(hw:hi-lo<=wd*2):Sp s ka ha (E3 ha wd lo hi).1 (E3 ha wd lo hi).2/\lo<=(E3 ha wd lo hi).1/\(E3 ha wd lo hi).2<=hi/\(E3 ha wd lo hi).2-(E3 ha wd lo hi).1<=wd:=by obtain⟨a,b,c,d⟩:=JL (s0:=sL ha lo) (wd:=wd) 40 p (λz=>p.low z) h0;exact⟨a,b,c,d<|nC hw<|pR (by decide) h0⟩
def KInv.step{n:Nat}(h:KInv s s' ka kb ha hb (n+1) wd q):KInv s s' ka kb ha hb n (wd / 2) (R3 ha hb (wd / 2) q):=by
 have w0:=h.w0;have wa:=h.wa;have wb:=h.wb;have l1:=h.l1;have l2:=h.l2;have u1:=h.u1;have u2:=h.u2;have hn:=h.hn;obtain⟨a1,a2,a3,a4⟩:=Gw (wd:=wd / 2) h.sa (by grind) (by grind);obtain⟨b1,b2,b3,b4⟩:=Gw (wd:=wd / 2) h.sb (by grind) (by grind);have e:40*(23-n)=40*(23-(n+1))+40:=by lia
 have x1:=JK (s0:=sL ha q.a1) (wd:=wd / 2) (h:=ha) 40 _ h.d1 h.d2;have x2:=JK (s0:=sL hb q.b1) (wd:=wd / 2) (h:=hb) 40 _ h.d3 h.d4;have x3:=h.dw.half.ups 39;refine⟨by lia,a1,b1,nC l1 a2,nC l2 b2,nC a3 u1,nC b3 u2,by grind,a4,b4,?_,by rw[e];exact x1.1,by rw[e];exact x1.2,by rw[e];exact x2.1,by rw[e];exact x2.2,by rw[e];exact x3⟩;have:=h.wn;rw[show 23-n=23-(n+1)+1 by lia,nB];grind
def KInv.XE(h:KInv s s' ka kb ha hb 0 wd q)(hg:1 / 256<=ka-kb\/1 / 256<=kb-ka):q.sep:=by
 refine HH h.sa h.sb h.l1 h.l2 h.u1 h.u2 h.wa h.wb ?_;have:=h.wn;have e:(2:Rat) ^ (23-0)=8388608:=by decide
 rw[e]at this;rcases hg with z |z;·exact .inl<|by grind
 ·exact .inr<|by grind
def yz{j:Nat}{x:Rat}(h:fb k x)(e:k<=j):fb j x:=⟨ii h.1 e,ii h.2 e⟩
def KInv.WX(h:KInv s s' ka kb ha hb n wd q):fb 1000 q.a1/\fb 1000 q.a2/\fb 1000 q.b1/\fb 1000 q.b2/\fb 1000 wd:=by
 have hn:=h.hn;have l1:=h.l1;have l2:=h.l2;have u1:=h.u1;have u2:=h.u2;have w1:=h.sa.wide;have w2:=h.sb.wide;have w0:=h.w0;have p1:wd<=64:=by
  have:=pR (show(1:Rat)<=2 ^ (23-n)from by rw[show(1:Rat)=(((1:Nat):Int):Rat)from rfl];have:(((1:Nat):Int):Rat)<=(((2 ^ (23-n):Nat):Int):Rat):=cJ.mpr (by have:=gN (n:=23-n) (show 0<2 by decide);lia);rw[zu,MR]at this;exact this) w0
  have:=h.wn;grind
 exact⟨yz (h.d1.fb l1<|by grind)<|by lia,yz (h.d2.fb (by grind) u1)<|by lia,yz (h.d3.fb l2<|by grind)<|by lia,yz (h.d4.fb (by grind) u2)<|by lia,yz (h.dw.fb (by grind) p1)<|by lia⟩
def JY(hg:1 / 256<=ka-kb\/1 / 256<=kb-ka):∀(n:Nat){wd:Rat}{q:Q4},KInv s s' ka kb ha hb n wd q->(A3 ha hb n wd q).sep/\Sp s ka ha (A3 ha hb n wd q).a1 (A3 ha hb n wd q).a2/\Sp s' kb hb (A3 ha hb n wd q).b1 (A3 ha hb n wd q).b2/\fb 1000 (A3 ha hb n wd q).a2/\fb 1000 (A3 ha hb n wd q).b1
 |0,wd,q,h=>⟨h.XE hg,h.sa,h.sb,h.WX.2.1,h.WX.2.2.1⟩
 |n+1,wd,q,h=>by
  unfold A3;by_cases z:q.sep;·rw[am z];exact⟨z,h.sa,h.sb,h.WX.2.1,h.WX.2.2.1⟩
  ·rw[ap z];exact JY hg n h.step
end
def lz(ds:bX)(d:D):Prop:=∃(s s':Int)(ka kb:Rat)(ha hb:aG)(q:Q4),ds=[kD ha q.a1 q.a2,kD hb q.b1 q.b2]/\Uo ha/\Uo hb/\(1 / 256<=ka-kb\/1 / 256<=kb-ka)/\KInv s s' ka kb ha hb 23 (q.a2-q.a1+(q.b2-q.b1)) q/\d=.tup [kD ha (A3 ha hb 23 (q.a2-q.a1+(q.b2-q.b1)) q).a1 (A3 ha hb 23 (q.a2-q.a1+(q.b2-q.b1)) q).a2,kD hb (A3 ha hb 23 (q.a2-q.a1+(q.b2-q.b1)) q).b1 (A3 ha hb 23 (q.a2-q.a1+(q.b2-q.b1)) q).b2]
def yj:∀ds d,lz ds d->ds.length=2:=by rintro _ _ ⟨_,_,_,_,_,_,_,rfl,_⟩;rfl
def WA:bZ (1 / 2)=.tup [.int 1,.int 2]:=by unfold bZ;rw[show((1:Rat) / 2).num=1 by decide,show((1:Rat) / 2).den=2 by decide];rfl
def FH:tZ [a,b,c] 0=some a:=rfl
def qF:tZ [a,b,c] 1=some b:=rfl
def vk:tZ [a,b,c] 2=some c:=rfl
section
variable {X:Cx}
def Cr(h:c7 P w K mg base k oU k8 X)(cP:Callee X "plus" FM)(cM:Callee X "minus" CF)(cT:Callee X "times" CC)(cB:Callee X "below" rQ)(cN:Callee X "narrowed" tR):Go X oU k8 lz:=by
 rintro ds d ⟨s,s',ka,kb,ha,hb,q,rfl,oa,ob,hg,inv,rfl⟩;have t:=h.at';haveI:=h.T6;obtain⟨f1,f2,f3,f4,f5⟩:=inv.WX;have sp:∀{x:aG}{u v:Rat}{i:Nat}{U:fx}{nm:Str}{p:Pos},Tz X U (.Name nm p) (kD x u v)->UA X U (.Name nm p) false [aU x,bZ u,bZ v]:=λe=>Tz.qt e;show TB X [.val<|kD ha q.a1 q.a2,.val<|kD hb q.b1 q.b2,.un] _ _;refine ao (bC t 2<|au t cP (ac (au t cM (ac (aF (Tz.qt<|aa t 0) af vk)<|ac (aF (Tz.qt<|aa t 0) af qF) ai) ⟨q.a2,q.a1,1000,rfl,f2,f1,by decide,rfl⟩)<|ac (au t cM (ac (aF (Tz.qt<|aa t 1) af vk)<|ac (aF (Tz.qt<|aa t 1) af qF) ai) ⟨q.b2,q.b1,1000,rfl,f4,f3,by decide,rfl⟩) ai) ⟨q.a2-q.a1,q.b2-q.b1,2001,rfl,Kb f2 f1,Kb f4 f3,by decide,rfl⟩) ?_;refine rK t (λz:Nat×Rat×Q4=>[.val<|kD ha z.2.2.a1 z.2.2.a2,.val<|kD hb z.2.2.b1 z.2.2.b2,.val<|bZ z.2.1]) (λz=>KInv s s' ka kb ha hb z.1 z.2.1 z.2.2/\A3 ha hb z.1 z.2.1 z.2.2=A3 ha hb 23 (q.a2-q.a1+(q.b2-q.b1)) q) (λz=>z.2.2=A3 ha hb 23 (q.a2-q.a1+(q.b2-q.b1)) q) (λz=>z.1) (23,q.a2-q.a1+(q.b2-q.b1),q) ⟨inv,rfl⟩ (λz hz=>?_) λz hz=>?_
 ·obtain⟨n,wd,r⟩:=z;obtain⟨iv,go⟩:=hz;dsimp only at iv go ⊢;obtain⟨g1,g2,g3,g4,g5⟩:=iv.WX;by_cases z:r.sep
  ·have go':A3 ha hb n wd r=r:=by cases n with|zero=>rfl|succ j=>unfold A3;rw[am z]
   refine .inl ⟨TC.eq (lv (fj<|dC<|au t cB (ac (aF (Tz.qt<|aa t 0) af vk)<|ac (aF (Tz.qt<|aa t 1) af qF) ai) ⟨r.a2,r.b1,1000,rfl,g2,g3,by decide,rfl⟩) λ_=>fj<|dC<|au t cB (ac (aF (Tz.qt<|aa t 1) af vk)<|ac (aF (Tz.qt<|aa t 0) af qF) ai) ⟨r.b2,r.a1,1000,rfl,g4,g1,by decide,rfl⟩) ?_,go'.symm.trans go⟩;rcases z with z |z;·rw[av z];rfl
   ·rw[av z,Ew,tY]
  ·cases n with
   |zero=>exact absurd (iv.XE hg) z
   |succ j=>
    have iw:=iv.step;obtain⟨k1,k2,k3,k4,k5⟩:=iw.WX;have w0:=iv.w0;have wa:=iv.wa;have wb:=iv.wb;unfold A3 at go;rw[ap z]at go;have z1:¬r.a2<r.b1:=λy=>z<|.inl y;have z2:¬r.b2<r.a1:=λy=>z<|.inr y;have e40:∀{x:Rat},x<=wd->x<=wd / 2*2 ^ 40:=λ{x}hx=>by
     have:(2:Rat) ^ 40=1099511627776:=by decide
     rw[this];grind
    refine .inr ⟨TC.eq (lv (fj<|dC<|au t cB (ac (aF (Tz.qt<|aa t 0) af vk)<|ac (aF (Tz.qt<|aa t 1) af qF) ai) ⟨r.a2,r.b1,1000,rfl,g2,g3,by decide,rfl⟩) λ_=>fj<|dC<|au t cB (ac (aF (Tz.qt<|aa t 1) af vk)<|ac (aF (Tz.qt<|aa t 0) af qF) ai) ⟨r.b2,r.a1,1000,rfl,g4,g1,by decide,rfl⟩)<|by rw[ah z1,ah z2];rfl,.inr ⟨(j,wd / 2,R3 ha hb (wd / 2) r),?_,⟨iw,go⟩,kz _⟩⟩;exact ao (bC t 2<|Tz.eq (au t cT (ac (aa t 2)<|ac (Tz.eq (bw<|ac af<|ac af ai) WA.symm) ai) ⟨wd,1 / 2,1000,rfl,g5,⟨by decide,by decide⟩,by decide,rfl⟩)<|by rw[show wd*(1 / 2)=wd / 2 by grind])<|aA<|qj t 0 1 (au t cN (ac (aa t 0)<|ac (aa t 2) ai) ⟨s,ka,ha,r.a1,r.a2,wd / 2,rfl,oa,iv.sa,g1,g2,yz k5<|by decide,iv.l1,iv.u1,by grind,e40 wa,rfl⟩) (au t cN (ac (aa t 1)<|ac (aa t 2) ai) ⟨s',kb,hb,r.b1,r.b2,wd / 2,rfl,ob,iv.sb,g3,g4,yz k5<|by decide,iv.l2,iv.u2,by grind,e40 wb,rfl⟩)<|by decide
 ·obtain⟨n,wd,r⟩:=z;dsimp only at hz ⊢;subst hz;exact aA<|aW<|bw<|ac (aa t 0)<|ac (aa t 1) ai
end
def kE(q:Q4):Rat:=if q.a1<q.b1 then q.b1 else q.a1
def hJ(q:Q4):Rat:=if q.a2<q.b2 then q.a2 else q.b2
def Ja(ha hb:aG):aG:=a9<|sh ha hb
structure Bf(s s':Int)(ka kb:Rat)(ha hb:aG)(q:Q4):Prop where
 oa:Uo ha
 ob:Uo hb
 ra:aY ha
 rb:aY hb
 inv:KInv s s' ka kb ha hb 23 (q.a2-q.a1+(q.b2-q.b1)) q
 gap:ka≠kb->1 / 256<=ka-kb\/1 / 256<=kb-ka
 os:Uo (Ja ha hb)
 sh:kE q<hJ q->(sg (fY (Ja ha hb)<|kE q)=sg (fY (Ja ha hb)<|hJ q)↔ka≠kb)
def Uo.vv(o:Uo h){x:Rat}(f:fb 1000 x):VV h x.num (x.den:Int):=⟨by have:=o.2.1;lia,λx hx=>ii (o.2.2 x hx)<|by decide,ii f.1<|by decide,by rw[aB];exact ii f.2<|by decide⟩
def FY(h:aG)(x:Rat):(v8 x.num (x.den:Int) h).sign=sg (fY h x):=IR (by have:=x.den_pos;lia) (fX x) h
def nu(ds:bX)(d:D):Prop:=∃(s s':Int)(ka kb:Rat)(ha hb:aG)(q:Q4),ds=[kD ha q.a1 q.a2,kD hb q.b1 q.b2]/\Bf s s' ka kb ha hb q/\d=.bl (decide<|ka=kb)
def wl:∀ds d,nu ds d->ds.length=2:=by rintro _ _ ⟨_,_,_,_,_,_,_,rfl,_⟩;rfl
def tu(a b:Rat):Int:=if a=b then 0 else if a<b then-1 else 1
def ie(ds:bX)(d:D):Prop:=∃(s s':Int)(ka kb:Rat)(ha hb:aG)(q:Q4),ds=[kD ha q.a1 q.a2,kD hb q.b1 q.b2]/\Bf s s' ka kb ha hb q/\d=.int (tu ka kb)
def sZ:∀ds d,ie ds d->ds.length=2:=by rintro _ _ ⟨_,_,_,_,_,_,_,rfl,_⟩;rfl
section
variable {ka kb:Rat}{q:Q4}
def BO(q:Q4):q.a1<=kE q/\q.b1<=kE q:=by unfold kE;split<;>constructor<;>grind
def yv(q:Q4):hJ q<=q.a2/\hJ q<=q.b2:=by unfold hJ;split<;>constructor<;>grind
def DA(p:Bf s s' ka kb ha hb q)(e:ka=kb):kq (kE q)<=ka/\ka<=kq (hJ q):=by
 have a:=p.inv.sa.Xo;have b:=p.inv.sb.Xo;subst e;constructor
 ·unfold kE;split;·exact b.1
  ·exact a.1
 ·unfold hJ;split;·exact a.2
  ·exact b.2
def Jb(p:Bf s s' ka kb ha hb q)(h:hJ q<kE q):ka≠kb:=λe=>by have:=DA p e;have:=qw h;grind
def Lh(p:Bf s s' ka kb ha hb q)(h:kE q=hJ q):(sg (fY ha<|kE q)=0/\sg (fY hb<|kE q)=0)↔ka=kb:=by
 have l:=BO q;have u:=yv q;rw[p.inv.sa.sg _ l.1<|by rw[h];exact u.1,p.inv.sb.sg _ l.2<|by rw[h];exact u.2];have z:∀{s:Int}{x:Rat},(s=1\/s=-1)->(s*sg x=0↔x=0):=λ{s x}hs=>by
  rcases pZ x with⟨y,e⟩ |⟨y,e⟩ |⟨y,e⟩
  ·rw[e];constructor;·intro k;lia
   ·intro k;grind
  ·rw[e];constructor;·intro k;lia
   ·intro k;grind
  ·rw[e,y];simp
 rw[z p.inv.sa.s1,z p.inv.sb.s1];constructor;·rintro⟨a,b⟩;grind
 ·intro e;have:=DA p e;rw[<-h]at this;subst e;constructor<;>grind
end
section
variable {X:Cx}
def Al(h:c7 P w K mg base k nc jW X)(cB:Callee X "below" rQ)(cS:Callee X "shared_row" ly)(cV:Callee X "sign_of_value" gA):Go X nc jW nu:=by
 rintro ds d ⟨s,s',ka,kb,ha,hb,q,rfl,p,rfl⟩;have t:=h.at';haveI:=h.T6;obtain⟨f1,f2,f3,f4,f5⟩:=p.inv.WX;have fl:fb 1000 (kE q):=by unfold kE;split<;>assumption
 have fh:fb 1000 (hJ q):=by unfold hJ;split<;>assumption
 show TB X [.val<|kD ha q.a1 q.a2,.val<|kD hb q.b1 q.b2,.un,.un,.un] _ _;refine ao (bC t 2 (d:=bZ<|kE q)<|GK (dC<|au t cB (ac (aF (Tz.qt<|aa t 0) af qF)<|ac (aF (Tz.qt<|aa t 1) af qF) ai) ⟨q.a1,q.b1,1000,rfl,f1,f3,by decide,rfl⟩) (λy=>Tz.eq (aF (Tz.qt<|aa t 1) af qF)<|by unfold kE;rw[am<|bB y]) λy=>Tz.eq (aF (Tz.qt<|aa t 0) af qF)<|by unfold kE;rw[ap<|mx y]) ?_;refine ao (bC t 3 (d:=bZ<|hJ q)<|GK (dC<|au t cB (ac (aF (Tz.qt<|aa t 0) af vk)<|ac (aF (Tz.qt<|aa t 1) af vk) ai) ⟨q.a2,q.b2,1000,rfl,f2,f4,by decide,rfl⟩) (λy=>Tz.eq (aF (Tz.qt<|aa t 0) af vk)<|by unfold hJ;rw[am<|bB y]) λy=>Tz.eq (aF (Tz.qt<|aa t 1) af vk)<|by unfold hJ;rw[ap<|mx y]) ?_;by_cases y:hJ q<kE q;·rw[ah<|Jb p y];exact eF<|eV (TC.eq (dC<|au t cB (ac (aa t 3)<|ac (aa t 2) ai) ⟨hJ q,kE q,1000,rfl,fh,fl,by decide,rfl⟩)<|av y)<|aA<|aW sP
 refine ao (c9 (TC.eq (dC<|au t cB (ac (aa t 3)<|ac (aa t 2) ai) ⟨hJ q,kE q,1000,rfl,fh,fl,by decide,rfl⟩)<|ah y) bM) ?_;by_cases z:kE q=hJ q;·refine eF<|eV (TC.eq (Ko t (aa t 2)<|aa t 3)<|av z)<|aA<|aW<|Tz.eq (mY (jd t (au t cV (ac (aF (Tz.qt<|aa t 0) af FH)<|ac (aa t 2) ai) ⟨ha,_,_,rfl,p.oa.vv fl,rfl⟩) af) λ_=>jd t (au t cV (ac (aF (Tz.qt<|aa t 1) af FH)<|ac (aa t 2) ai) ⟨hb,_,_,rfl,p.ob.vv fl,rfl⟩) af) ?_;rw[FY,FY,<-Bool.decide_and];exact bi D.bl<|cw.mpr<|Lh p z
 refine ao (c9 (TC.eq (Ko t (aa t 2)<|aa t 3)<|ah z) bM) ?_;have lt:kE q<hJ q:=by grind
 refine ao (bC t 4 (d:=aU<|Ja ha hb)<|au t cS (ac (aF (Tz.qt<|aa t 0) af FH)<|ac (aF (Tz.qt<|aa t 1) af FH) ai) ⟨ha,hb,rfl,⟨p.ra,p.rb,by have:=p.oa.2.1;lia,by have:=p.ob.2.1;lia,p.oa.2.2.mono<|by decide,p.ob.2.2.mono<|by decide⟩,.start p.ra p.rb (by have:=p.oa.2.1;lia) (by have:=p.ob.2.1;lia) (p.oa.2.2.mono<|by decide)<|p.ob.2.2.mono<|by decide,rfl⟩) ?_;refine aA<|aW<|Tz.eq (Kj t (au t cV (ac (aa t 4)<|ac (aa t 2) ai) ⟨Ja ha hb,_,_,rfl,p.os.vv fl,rfl⟩)<|au t cV (ac (aa t 4)<|ac (aa t 3) ai) ⟨Ja ha hb,_,_,rfl,p.os.vv fh,rfl⟩) ?_;rw[FY,FY,<-decide_not];refine bi D.bl<|cw.mpr ?_;have:=p.sh lt;exact⟨λu=>kC λv=>u<|this.mpr v,λu v=>this.mp v u⟩
def vg(h:c7 P w K mg base k jH h9 X)(cS:Callee X "same_number" nu)(cK:Callee X "kept_apart" lz)(cB:Callee X "below" rQ):Go X jH h9 ie:=by
 rintro ds d ⟨s,s',ka,kb,ha,hb,q,rfl,p,rfl⟩;have t:=h.at';haveI:=h.T6;show TB X [.val<|kD ha q.a1 q.a2,.val<|kD hb q.b1 q.b2] _ _;unfold tu;by_cases e:ka=kb;·rw[am e];exact eF<|eV (TC.eq (dC<|au t cS (ac (aa t 0)<|ac (aa t 1) ai) ⟨s,s',ka,kb,ha,hb,q,rfl,p,rfl⟩)<|av e)<|aA<|aW af
 rw[ap e];have g:=p.gap e;obtain⟨k1,k2,k3,k4,k5⟩:=JY g 23 p.inv;refine ao (c9 (TC.eq (dC<|au t cS (ac (aa t 0)<|ac (aa t 1) ai) ⟨s,s',ka,kb,ha,hb,q,rfl,p,rfl⟩)<|ah e) bM) ?_;have ck:lz [kD ha q.a1 q.a2,kD hb q.b1 q.b2] _:=⟨s,s',ka,kb,ha,hb,q,rfl,p.oa,p.ob,g,p.inv,rfl⟩;generalize A3 ha hb 23 (q.a2-q.a1+(q.b2-q.b1)) q=r at*;refine ao (kj t (au t cK (ac (aa t 0)<|ac (aa t 1) ai) ck)<|xn t 0 1) ?_;have i1:=k2.Xo;have i2:=k3.Xo;by_cases z:r.a2<r.b1;·have:=qw z;rw[am<|by grind];exact aA<|aW<|kF (TC.eq (dC<|au t cB (ac (aF (Tz.qt<|aa t 0) af vk)<|ac (aF (Tz.qt<|aa t 1) af qF) ai) ⟨r.a2,r.b1,1000,rfl,k4,k5,by decide,rfl⟩)<|av z)<|dy af
 ·have:=qw<|k1.resolve_left z;rw[ap<|by grind];exact aA<|aW<|iL (TC.eq (dC<|au t cB (ac (aF (Tz.qt<|aa t 0) af vk)<|ac (aF (Tz.qt<|aa t 1) af qF) ai) ⟨r.a2,r.b1,1000,rfl,k4,k5,by decide,rfl⟩)<|ah z) af
end
end My
namespace L2.EV
open PySem PySem.W PySem.Spec PyProof.Rows
variable {K:gh}{ds:bX}
def TU.Wd{X:Cx}{α:Type}(g f:α->D)(p:α->Bool)(R:α->fx):∀(xs:List α)(U:fx),(∀x∈xs,Uw X U tg (g x)<|R x)->(∀x∈xs,∀y∈xs,Uw X (R x) tg (g y)<|R y)->(∀x∈xs,TC X (R x) c<|p x)->(∀x∈xs,Tz X (R x) elt<|f x)->TU X tg elt [c] (xs.map g) U ((xs.filter p).map f)|[],U,_,_,_,_=>.nil|x::xs,U,h1,h2,h3,h4=>by have ih:=TU.Wd g f p R xs (R x) (λy hy=>h2 x (bA ..) y<|aM _ hy) (λy hy z hz=>h2 y (aM _ hy) z<|aM _ hz) (λy hy=>h3 y<|aM _ hy) λy hy=>h4 y<|aM _ hy;have g1:=h1 x<|bA ..;have g3:=h3 x<|bA ..;cases hp:p x with|true=>rw[List.filter_cons_of_pos hp];exact .take g1 (.inr ⟨c,rfl,by rw[hp]at g3;exact g3⟩) (h4 x<|bA ..) ih|false=>rw[List.filter_cons_of_neg<|by rw[hp];exact aK];exact .skip g1 rfl (by rw[hp]at g3;exact g3) ih
end L2.EV
namespace My
open PySem PySem.W L2 L2.EV PyProof.Rows
variable {K:gh}
def t4:aG->aG|[]=>[]|c::f=>(c+(t4 f).headD 0)::t4 f
def t3:∀f:aG,(t4 f).length=f.length|[]=>rfl|c::f=>by show(t4 f).length+1=f.length+1;rw[t3 f]
def EL:Nat->aG->aG
 |0,f=>f|n+1,[]=>[]
 |n+1,c::f=>(t4<|c::f).headD 0::EL n (t4<|c::f).tail
def AI(a:Nat)(ys:aG):aG:=ys.take a++t4 (ys.drop a)
def KR:Nat->aG->aG|0,ys=>ys|i+1,ys=>AI i<|KR i ys
def OR(a:Nat):Nat->aG->aG|0,ys=>ys|n+1,ys=>OR (a+1) n<|AI a ys
def FZ(a:Nat)(ys:aG):(AI a ys).length=ys.length:=by unfold AI;rw[aJ,t3,<-aJ,SR]
def t7:∀(i:Nat)(ys:aG),(KR i ys).length=ys.length|0,ys=>rfl|i+1,ys=>(FZ i _).trans<|t7 i ys
def DP:∀(n a:Nat)(ys:aG),OR a (n+1) ys=AI (a+n) (OR a n ys)|0,a,ys=>rfl|n+1,a,ys=>by show OR (a+1) (n+1) (AI a ys)=_;rw[DP n<|a+1,show a+1+n=a+(n+1)by lia];rfl
def M4:∀(n:Nat)(ys:aG),KR n ys=OR 0 n ys|0,ys=>rfl|n+1,ys=>by show AI n (KR n ys)=_;rw[M4 n ys,DP n 0,Su]
def wR(p f:aG):AI p.length (p++f)=p++t4 f:=by unfold AI;rw[List.take_left,List.drop_left]
def GE:∀(n:Nat)(p f:aG),n<=f.length->OR p.length n (p++f)=p++EL n f
 |0,p,f,_=>rfl|n+1,p,[],h=>by simp at h
 |n+1,p,c::f,h=>by show OR (p.length+1) n (AI p.length<|p++c::f)=p++((c+(t4 f).headD 0)::EL n (t4 f));rw[wR];have:=GE n (p++[c+(t4 f).headD 0]) (t4 f) (by rw[t3];simpa using h);rw[aJ,ff,ff]at this;exact this
def Lc{n:Nat}(ys:aG)(h:n<=ys.length):KR n ys=EL n ys:=by rw[M4];exact GE n [] ys h
def C1{xs:aG}{k:Nat}(h:k<xs.length):∃p x r,xs=p++x::r/\p.length=k:=⟨xs.take k,xs[k],xs.drop<|k+1,by rw[<-gD h,SR],by rw[eT];lia⟩
def Ka(p:aG)(x:Int)(r:aG):(p++x::r).getD p.length 0=x:=by rw[ag,aX<|aq _,gc];rfl
def HF(p:aG)(x:Int)(r:aG):(p++x::r).getD (p.length+1) 0=r.headD 0:=by rw[ag,aX<|by lia,show p.length+1-p.length=1 by lia];cases r<;>rfl
def K4{xs:aG}{k:Nat}(h:k+1<xs.length):AI k xs=(AI (k+1) xs).set k ((AI (k+1) xs).getD k 0+(AI (k+1) xs).getD (k+1) 0):=by
 obtain⟨p,x,r,rfl,rfl⟩:=C1 (show k<xs.length by lia);have e1:AI (p.length+1) (p++x::r)=p++x::t4 r:=by have:=wR (p++[x]) r;rw[aJ,ff,ff]at this;exact this
 rw[e1,Ka,HF,wR,List.set_append_right _ _<|aq _,gc];rfl
def K5{xs:aG}(h:1<=xs.length):AI (xs.length-1) xs=xs:=by
 obtain⟨p,x,r,rfl,e⟩:=C1 (show xs.length-1<xs.length by lia);have:r=[]:=by rw[aJ,dG]at e;exact List.length_eq_zero_iff.mp<|by lia
 subst this;rw[<-e,wR];show p++[x+0]=_;rw[sB]
def jL(ds:bX)(xs:bX):Prop:=∃ys:aG,ds=[ba ys]/\1<=ys.length/\ys.length<1000/\xs=(EL (ys.length-1) ys).map D.int
def sX:∀ds xs,jL ds xs->ds.length=1:=by rintro _ _ ⟨a,rfl,_⟩;rfl
def D1{j:Nat}(h:(pK i n)[j]?=some d):j<n/\d=.int (i-(j:Int)):=by
 unfold pK at h;rw[aH]at h;by_cases hj:j<n;·rw[cq hj]at h;cases h;exact⟨hj,rfl⟩
 ·rw[bQ<|by simpa using hj]at h;cases h
def Q1(bs:List Bool):Nat:=((List.range<|bs.length-1).filter λi=>!decide (bs.getD i false=bs.getD (1+i) false)).length
def EY(xs:aG):List Bool:=(xs.filter λx=>!decide (x=0)).map λx=>decide<|0<x
def F9:∀(n:Nat)(f:aG),(EL n f).length=f.length
 |0,f=>rfl|n+1,[]=>rfl
 |n+1,c::f=>by show(EL n (t4<|c::f).tail).length+1=f.length+1;rw[F9,List.length_tail,t3];rfl
def VC(q:aG):Nat:=Q1<|EY<|EL (q.length-1) q.reverse
def Pp(q:aG):VC q=Q1 (EY<|EL (q.length-1) q.reverse):=rfl
def jO(ds:bX)(d:D):Prop:=∃q:aG,ds=[ba q]/\1<=q.length/\q.length<1000/\d=.int ((VC q:Nat):Int)
def s9:∀ds d,jO ds d->ds.length=1:=by rintro _ _ ⟨a,rfl,_⟩;rfl
def eD(b:Bool):SeqAt.shaped (ke<|.bl b)=true:=by cases b<;>decide
def Mr(a b:Bool):(!(ke<|.bl a).eqv (ke<|.bl b))= !decide (a=b):=by cases a<;>cases b<;>decide
section
variable {X:Cx}
def uE(h:c7 P w K mg base k jF hX X)(Um:mg "list"=none)(TK:mg "range"=none)(TH:mg "len"=none):∀ds xs,jL ds xs->Bg X (FT jF ds) (eo hX) xs:=by
 rintro ds xs ⟨ys,rfl,h1,hl,rfl⟩;have t:=h.at';haveI:=h.T6;have b1:=h.bt Um;have b2:=h.bt TK;have b3:=h.bt TH;show Bg X [.val<|ba ys,.un,.un,.un] _ _;refine DV (n9 t 1 (xs:=(KR 0 ys).map D.int)<|rL t b1<|Tz.ql<|aa t 0) ?_;have e0:((ys.length:Int)-1).toNat=ys.length-1:=by lia
 refine DV (TW:=[.val<|ba ys,.own<|(KR (ys.length-1) ys).map D.int,.un,.un]) (jx t (UG.eq (fZ t b2 (dD (bF t b3<|eE t 1 rfl) af) (by rw[ae,t7];lia)<|by rw[ae,t7];lia) (show _=dO 0 (ys.length-1)by rw[ae,t7,e0]))<|T5.Ue (λi=>[.val<|ba ys,.own<|(KR i ys).map D.int,.un,.un]) (λi d hi=>?_) rfl<|by simp[dO]) ?_
 ·obtain⟨VS,rfl⟩:=iR hi;have li:=t7 i ys;show∃Uf,_/\TB X Uf _ (.nx [.val<|ba ys,.own<|(AI i<|KR i ys).map D.int,.un,.un]);generalize KR i ys=zs at li;have cnt:((ys.length:Int)-2-((i:Int)-1)).toNat=ys.length-1-i:=by lia
  refine⟨_,aZ t 2,TB.weak (Uf:=[.val<|ba ys,.own<|(AI i zs).map D.int,.val<|.int (i:Int),.un]) (aA<|jx t (UG.eq (A9 t b2 (dD (bF t b3<|eE t 1 rfl) af) (dD (aa t 2) af) (dy af)<|by rw[ae];lia) (show _=pK ((ys.length:Int)-2) (ys.length-1-i)by rw[ae,li,cnt]))<|T5.Ue (λj=>[.val<|ba ys,.own<|(AI (ys.length-1-j) zs).map D.int,.val<|.int (i:Int),.un]) (λj d hj=>?_) ?_ ?_)<|.keep<|.keep<|.forget<|.keep .nil⟩
  ·obtain⟨Zq,rfl⟩:=D1 hj;have ek:(ys.length:Int)-2-(j:Int)=((ys.length-2-j:Nat):Int):=by lia
   rw[ek];have e1:ys.length-1-j=(ys.length-2-j)+1:=by lia
   have e2:ys.length-1-(j+1)=ys.length-2-j:=by lia
   have lt:ys.length-2-j+1<zs.length:=by lia
   rw[e1,e2,K4 lt];generalize ys.length-2-j=m at lt;have ls:=FZ (m+1) zs;generalize AI (m+1) zs=us at ls;refine⟨_,aZ t 3,TB.weak (aA<|rn (j:=m) (u:=us.getD m 0) t 1 DQ rfl (aa t 3) ?_ ?_ (aF (d:=D.int<|us.getD (m+1) 0) (eE t 1 rfl) (cp (aa t 3) af) ?_) trivial) ?_⟩;·rw[ae];exact qx (by lia) (by lia)<|by lia
   ·rw[aH,ag,ar (show m<us.length by lia)];rfl
   ·rw[show(m:Int)+1=((m+1:Nat):Int)by lia];exact mi<|by lia
   ·rw[sA];exact .keep<|.keep<|.keep<|.forget .nil
  ·rw[kx,<-li,K5<|by lia];rfl
  ·rw[show(pK ((ys.length:Int)-2)<|ys.length-1-i).length=ys.length-1-i by simp[pK],show ys.length-1-(ys.length-1-i)=i by lia]
 ·rw[Lc ys<|by lia];exact Mp t 1 rfl
def vi(h:c7 P w K mg base k jJ fW X)(TH:mg "len"=none)(TK:mg "range"=none)(cS:UQ X "shifted_by_one" jL):Go X jJ fW jO:=by
 rintro ds d ⟨q,rfl,h1,hl,rfl⟩;have t:=h.at';haveI:=h.T6;have b1:=h.bt TH;have b2:=h.bt TK;rw[Pp];have ls:(EL (q.length-1) q.reverse).length=q.length:=by rw[F9,dr]
 show TB X [.val<|ba q,.un] _ _;refine ao (n9 t 1 (xs:=(EY<|EL (q.length-1) q.reverse).map D.bl) (T1.eq (fG (rs:=((EL (q.length-1) q.reverse).filter λx=>!decide (x=0)).map λx=>D.bl<|decide<|0<x) t ["q","signs","number"] (Ah<|by decide) (ds:=(EL (q.length-1) q.reverse).map D.int) (m7<|T1.Ux<|Ms t cS (ac (Tz.eq (T1.Ux<|GO (Tz.ql<|aa t 0)<|dy af) (show _=ba q.reverse by rw[<-KQ])) ai) ⟨q.reverse,rfl,by rw[dr];exact h1,by rw[dr];exact hl,by rw[dr]⟩) (by rw[ae,ls];exact fV hl) λX' cx=>?_)<|by unfold EY;rw[cX];rfl) (hs:=(IP (show X.env.scope=(dE<|ay fW).scope from t.eS)).trans rfl)) ?_;·have t':=cx.at';exact TU.Wd D.int (λx=>D.bl<|decide<|0<x) (λx=>!decide (x=0)) (λx=>[.val<|ba q,.un,.val<|.int x]) _ _ (λd hd=>bE t' 2) (λd hd e he=>bE t' 2) (λd hd=>qA (aa t' 2 rfl) af) λd hd=>GL (aa t' 2 rfl) af
 refine fB 1 rfl ?_;have sl:(EY<|EL (q.length-1) q.reverse).length<=q.length:=by unfold EY;rw[ae];exact bL (nY _ _)<|by rw[ls];exact aq _
 generalize EY (EL (q.length-1) q.reverse)=bs at sl;refine aA<|aW<|Tz.eq (bF t b1<|T1.toQ (fG (rs:=((List.range<|bs.length-1).filter λi=>!decide (bs.getD i false=bs.getD (1+i) false)).map λ(i:Nat)=>D.int<|1+(i:Int)) t ["q","signs","k"] (Ah<|by decide) (UG.eq (Ba t b2 af (bF t b1<|Tz.ql<|aa t 1)<|by rw[ae];lia) (show _=dO 1 (bs.length-1)by rw[ae];congr 1;lia)) (by simp[dO];exact fV<|by lia) λX' cx=>?_)) (by rw[ae];rfl);have t':=cx.at';have ga:∀i,i<bs.length->(bs.map D.bl)[i]?=some (.bl<|bs.getD i false):=λi hi=>by rw[aH,ar hi,ag,ar hi];rfl
 exact TU.Wd (λ(i:Nat)=>D.int<|1+(i:Int)) _ (λi=>!decide (bs.getD i false=bs.getD (1+i) false)) (λ(i:Nat)=>[.val<|ba q,.val<|.lst<|bs.map D.bl,.val<|.int<|1+(i:Int)]) _ _ (λx hx=>bE t' 2) (λx hx y hy=>bE t' 2) (λx hx=>by
  have U1:=cc.mp hx;refine je t' (Tz.p (d:=.bl<|bs.getD x false)<|aF (Tz.ql<|aa t' 1 rfl) (dD (aa t' 2 rfl) af) ?_) (Tz.p (d:=.bl<|bs.getD (1+x) false)<|aF (Tz.ql<|aa t' 1 rfl) (aa t' 2 rfl) ?_) (eD _) (eD _)<|Mr _ _;·rw[show(1+(x:Int)-1)=((x:Nat):Int)by lia];exact e8 x<|ga x<|by lia
  ·rw[show(1+(x:Int))=((1+x:Nat):Int)by lia];exact e8 (1+x) (ga (1+x) (by lia))) λx hx=>aa t' 2 rfl
end
def Iq(u w:Int):Int->aG->aG|p,[]=>[w*p]|p,c::f=>(u*c+w*p)::Iq u w c f
def Bl(u w:Int):∀(f:aG)(p:Int),(Iq u w p f).length=f.length+1|[],p=>rfl|c::f,p=>by show(Iq u w c f).length+1=_;rw[Bl u w f c];rfl
def FX(u w:Int):∀(f:aG)(p:Int),(List.zip (f++[0])<|p::f).map (λx=>u*x.1+w*x.2)=Iq u w p f|[],p=>by show[u*0+w*p]=[w*p];simp|c::f,p=>by show(u*c+w*p)::(List.zip (f++[0])<|c::f).map (λx=>u*x.1+w*x.2)=(u*c+w*p)::Iq u w c f;rw[FX u w f c]
def Ic(x:Int):aG->aG|[]=>[]|c::f=>(c+x)::f
def KF(x:Int):∀f:aG,(Ic x f).length=f.length|[]=>rfl|c::f=>rfl
def Er(u w z:Int):aG->aG
 |[]=>[]|[c]=>[c]
 |c::d::f=>Ic (c*z ^ (d::f).length)<|Iq u w 0<|Er u w z<|d::f
def BK(u w z:Int):∀f:aG,(Er u w z f).length=f.length
 |[]=>rfl|[c]=>rfl
 |c::d::f=>by show(Ic _<|Iq u w 0<|Er u w z<|d::f).length=_;rw[KF,Bl,BK u w z<|d::f];rfl
def CQ:∀us vs:aG,v6 (us.map D.int) (vs.map D.int)=(us.zip vs).map λp=>D.tup [.int p.1,.int p.2]
 |[],_=>rfl|_::_,[]=>rfl
 |u::us,v::vs=>bi (D.tup [.int u,.int v]::·)<|CQ us vs
def KE{x y:Int}(hx:x.natAbs<2 ^ p)(hy:y.natAbs<2 ^ p):(x+y).natAbs<2 ^ (p+1):=by rw[sw];lia
def IM{u w:Int}(hu:u.natAbs<2 ^ A)(hw:w.natAbs<2 ^ A):∀(f:aG)(p:Int),BB k f->p.natAbs<2 ^ k->BB (A+k+1) (Iq u w p f)
 |[],p,hf,hp=>λx hx=>by rw[eQ.mp hx];exact aE (cA hw hp)<|aN (by decide)<|by lia
 |c::f,p,hf,hp=>λx hx=>by
  have hc:=hf c (by simp);rcases aO.mp hx with rfl |hx;·exact KE (cA hu hc)<|cA hw hp
  ·exact IM hu hw f c (λy hy=>hf y<|aM _ hy) hc x hx
def MJ{y:Int}(hy:y.natAbs<2 ^ k):∀f:aG,BB k f->BB (k+1) (Ic y f)
 |[],_=>λx hx=>nomatch hx
 |c::f,h=>λx hx=>by
  rcases aO.mp hx with rfl |hx;·exact KE (h c<|by simp) hy
  ·exact aE (h x<|aM _ hx)<|aN (by decide)<|by lia
def xZ{z:Int}(h:z.natAbs<2 ^ A)(n:Nat):(z ^ n).natAbs<2 ^ (A*n+1):=by rw[Int.natAbs_pow];have:=Tu (gQ h) n;rw[<-Nat.pow_mul]at this;exact bz this<|Tg (by decide)<|by lia
def JN{u w z:Int}(hu:u.natAbs<2 ^ A)(hw:w.natAbs<2 ^ A)(hz:z.natAbs<2 ^ A):∀f:aG,BB B f->BB (B+1+(A+2)*(f.length-1)) (Er u w z f)
 |[],h=>λx hx=>nomatch hx
 |[c],h=>λx hx=>by rw[eQ.mp hx];exact aE (h c<|by simp)<|aN (by decide)<|by simp
 |c::d::f,h=>by
  have i:=JN hu hw hz (d::f) λx hx=>h x<|aM _ hx;have hc:=h c (by simp);rw[dG,Nat.add_sub_cancel]at i;show BB (B+1+(A+2)*(f.length+1)) (Ic (c*z ^ (f.length+1))<|Iq u w 0<|Er u w z<|d::f);have t:=IM hu hw (Er u w z<|d::f) 0 i<|gN (by decide);have p:=cA hc<|xZ hz<|f.length+1;have e1:(A+2)*(f.length+1)=(A+2)*f.length+A+2:=by rw[Sv];lia
  have e2:(A+2)*f.length=A*f.length+2*f.length:=KY _ _ _;have e3:A*(f.length+1)=A*f.length+A:=Sv _ _;have:=MJ (k:=A+(B+1+(A+2)*f.length)+1) (aE p<|aN (by decide)<|by lia) _ t;exact this.mono<|by lia
def Qx(a b:Rat):Int:=a.num*(b.den:Int)
def Qw(a b:Rat):Int:=b.num*(a.den:Int)-a.num*(b.den:Int)
def Qv(a b:Rat):Int:=(a.den:Int)*(b.den:Int)
def Nq(a b:Rat)(h:aG):aG:=Er (Qx a b) (Qw a b) (Qv a b) h
def LR{a b:Rat}(ha:fb 60 a)(hb:fb 60 b):(Qx a b).natAbs<2 ^ 121/\(Qw a b).natAbs<2 ^ 121/\(Qv a b).natAbs<2 ^ 121:=by
 have d1:((a.den:Int)).natAbs<2 ^ 60:=by rw[aB];exact ha.2
 have d2:((b.den:Int)).natAbs<2 ^ 60:=by rw[aB];exact hb.2
 have p1:=cA ha.1 d2;have p2:=cA hb.1 d1;have p3:=cA d1 d2;unfold Qx Qw Qv;refine⟨aE p1<|aN (by decide)<|by decide,m4 p2 p1,aE p3<|aN (by decide)<|by decide⟩
def LU(a b:Rat)(h:aG):(Nq a b h).length=h.length:=BK _ _ _ h
def kN(ds:bX)(d:D):Prop:=∃(h:aG)(a b:Rat),ds=[aU h,bZ a,bZ b]/\h≠[]/\h.length<=9/\BB 20 h/\fb 60 a/\fb 60 b/\d=ba (Nq a b h)
def uu:∀ds d,kN ds d->ds.length=3:=by rintro _ _ ⟨a,b,c,rfl,_⟩;rfl
def JM{h:aG}{m:Nat}(hm:m+1<h.length):∃y ys,Iq u w 0 (Er u w z<|h.drop<|m+1)=y::ys/\Er u w z (h.drop m)=(y+h.getD m 0*z ^ (h.length-1-m))::ys:=by
 have e:h.drop m=h.getD m 0::h.drop (m+1):=by rw[gD (show m<h.length by lia),ag,ar (show m<h.length by lia)];rfl
 have l:(h.drop<|m+1).length=h.length-1-m:=by rw[du];lia
 cases e2:h.drop (m+1)with|nil=>rw[e2]at l;simp at l;lia|cons d f=>rw[e,e2];rw[e2]at l;have tl:=Bl u w (Er u w z<|d::f) 0;cases e3:Iq u w 0 (Er u w z<|d::f)with|nil=>rw[e3]at tl;simp at tl|cons y ys=>refine⟨y,ys,rfl,?_⟩;show Ic (h.getD m 0*z ^ (d::f).length) (Iq u w 0<|Er u w z<|d::f)=_;rw[e3,l];rfl
section
variable {X:Cx}
def wz(h:c7 P w K mg base k kJ iF X)(TK:mg "range"=none)(TH:mg "len"=none)(XM:mg "zip"=none):Go X kJ iF kN:=by
 rintro ds d ⟨f,a,b,rfl,hf,f9,bb,ha,hb,rfl⟩;have t:=h.at';haveI:=h.T6;have b1:=h.bt TK;have b2:=h.bt TH;have hp:=az.mpr hf;have d1:((a.den:Int)).natAbs<2 ^ 60:=by rw[aB];exact ha.2
 have d2:((b.den:Int)).natAbs<2 ^ 60:=by rw[aB];exact hb.2
 obtain⟨hu,hw,hz⟩:=LR ha hb;show TB X [.val<|aU f,.val<|bZ a,.val<|bZ b,.un,.un,.un,.un,.un,.un] _ _;refine ao (bC t 3<|bc (aF (Tz.qt<|aa (d:=bZ a) t 1 rfl) af<|tz a) (aF (Tz.qt<|aa (d:=bZ b) t 2 rfl) af<|tz b)<|rX d1 d2 (by decide)<|by decide) ?_;refine ao (kj t (bw<|ac (bc (aF (Tz.qt<|aa (d:=bZ a) t 1 rfl) af<|UP a) (aF (Tz.qt<|aa (d:=bZ b) t 2 rfl) af<|tz b)<|rX ha.1 d2 (by decide)<|by decide)<|ac (dD (bc (aF (Tz.qt<|aa (d:=bZ b) t 2 rfl) af<|UP b) (aF (Tz.qt<|aa (d:=bZ a) t 1 rfl) af<|tz a)<|rX hb.1 d1 (by decide)<|by decide)<|bc (aF (Tz.qt<|aa (d:=bZ a) t 1 rfl) af<|UP a) (aF (Tz.qt<|aa (d:=bZ b) t 2 rfl) af<|tz b)<|rX ha.1 d2 (by decide)<|by decide) ai)<|xn t 4 5) ?_;show TB X [.val<|aU f,.val<|bZ a,.val<|bZ b,.val<|.int<|Qv a b,.val<|.int<|Qx a b,.val<|.int<|Qw a b,.un,.un,.un] _ _;unfold Nq;generalize Qv a b=z at*;generalize Qx a b=u at*;generalize Qw a b=v at*;refine ao (Gd t 6 7 (us:=[.int<|ak f]) (fk<|ac (aF (Tz.qt<|aa t 0) (dy af)<|eB hf) ai) af<|by decide)<|fB 6 rfl ?_;refine ao (TW:=[.val<|aU f,.val<|bZ a,.val<|bZ b,.val<|.int z,.val<|.int u,.val<|.int v,.val<|ba<|Er u v z<|f.drop 0,.val<|.int<|z ^ (f.length-1),.un]) (jx t (UG.eq (A9 t b1 (dD (bF t b2<|Tz.qt<|aa t 0) af) (dy af) (dy af)<|by rw[ae];lia) (show _=pK ((f.length:Int)-2) (f.length-1)by rw[ae];congr 1;lia))<|T5.Ue (λj=>[.val<|aU f,.val<|bZ a,.val<|bZ b,.val<|.int z,.val<|.int u,.val<|.int v,.val<|ba<|Er u v z<|f.drop<|f.length-1-j,.val<|.int<|z ^ j,.un]) (λj d hj=>?_) ?_ ?_) ?_
 ·obtain⟨Zq,rfl⟩:=D1 hj;have ek:(f.length:Int)-2-(j:Int)=((f.length-2-j:Nat):Int):=by lia
  rw[ek];have e1:f.length-1-j=(f.length-2-j)+1:=by lia
  have e2:f.length-1-(j+1)=f.length-2-j:=by lia
  have ej:f.length-1-(f.length-2-j)=j+1:=by lia
  have zj:=xZ hz j;have zj1:=xZ hz<|j+1;have j8:j<=8:=by lia
  obtain⟨y,ys,ty,my⟩:=JM (u:=u) (w:=v) (z:=z) (h:=f) (m:=f.length-2-j) (by lia);have bm:=JN hu hw hz (f.drop<|f.length-2-j+1) (B:=20) λx hx=>bb x<|pS hx;have lm:=BK u v z<|f.drop<|f.length-2-j+1;rw[du]at lm bm;rw[e1,e2,my,ej];have hx:=bb.get<|f.length-2-j;generalize hm:f.length-2-j=m at*;generalize Er u v z (f.drop<|m+1)=g at*;have bg:BB 1100 g:=bm.mono (by have:=eC (121+2) (show f.length-(m+1)-1<=8 by lia);lia);refine⟨_,aZ t 8,TB.weak (Uf:=[.val<|aU f,.val<|bZ a,.val<|bZ b,.val<|.int z,.val<|.int u,.val<|.int v,.val<|ba<|(y+f.getD m 0*z ^ (j+1))::ys,.val<|.int<|z ^ (j+1),.val<|.int ((m:Nat):Int)]) ?_<|.keep<|.keep<|.keep<|.keep<|.keep<|.keep<|.keep<|.keep<|.forget .nil⟩;refine ao (De t 7 rfl (aa t 3)<|rX zj hz (by lia)<|by decide) ?_;rw[<-SA];refine ao (rc (rs:=(y::ys).map D.int) t 6 ["h","low","high","bottom","start","wide","moved","scale","power","one","other"] (Ah<|by decide) (UG.eq (Pc t (Fq<|by rw[h.VR];exact XM) (T1.Ux<|yU (xs:=g.map D.int) (ys:=[.int 0]) (aa t 6) (T1.Ux<|fk<|ac af ai)<|by rw[ae];exact gQ<|fV<|by simp;lia)<|T1.Ux<|yU (xs:=[.int 0]) (ys:=g.map D.int) (T1.Ux<|fk<|ac af ai) (aa t 6)<|by rw[ae];exact gQ<|fV<|by simp;lia) (show _=((g++[0]).zip<|0::g).map λ(p:Int×Int)=>D.tup [.int p.1,.int p.2]from by have:=CQ (g++[0])<|0::g;rw[bO]at this;exact this)) (by rw[ae,List.length_zip];simp;exact fV<|by lia) λX' cx=>?_) ?_
  ·have t':=cx.at';rw[<-ty,<-FX,cX];have mem:∀p∈(g++[0]).zip (0::g),p.1.natAbs<2 ^ 1100/\p.2.natAbs<2 ^ 1100:=λp hp=>by
    have z0:(0:Int).natAbs<2 ^ 1100:=gN (by decide);obtain⟨p1,p2⟩:=p;have h1:=(qX hp).1;have h2:=(qX hp).2;refine⟨?_,?_⟩
    ·rcases lQ.mp h1 with q |q;·exact bg _ q
     ·rw[eQ.mp q];exact z0
    ·rcases aO.mp h2 with q |q;·show p2.natAbs<_;rw[q];exact z0
     ·exact bg _ q
   exact TU.gen (λp:Int×Int=>D.tup [.int p.1,.int p.2]) _ (λp:Int×Int=>[.val<|aU f,.val<|bZ a,.val<|bZ b,.val<|.int z,.val<|.int u,.val<|.int v,.val<|ba g,.val<|.int<|z ^ (j+1),.val<|.int ((m:Nat):Int),.val<|.int p.1,.val<|.int p.2]) _ _ (λd hd=>DZ t' 9 10) (λd hd e he=>DZ t' 9 10) λp hp=>cp (bc (aa t' 4 rfl) (aa t' 9 rfl)<|rX (q:=1100) hu (mem p hp).1 (by decide)<|by decide)<|bc (aa t' 5 rfl) (aa t' 10 rfl)<|rX (q:=1100) hw (mem p hp).2 (by decide)<|by decide
  refine ao (rn (j:=0) (u:=y) t 6 DQ rfl af (qx (by lia) rfl<|by simp) rfl (bc (aF (Tz.qt<|aa t 0) (aa t 8)<|mi<|by lia) (aa t 7)<|rX hx zj1 (by decide)<|by lia) trivial)<|fB 6 rfl<|TB.eq bM rfl
 ·have el:Er u v z (f.drop<|f.length-1-0)=[ak f]:=by rw[kx,gD (show f.length-1<f.length by lia),show f.length-1+1=f.length by lia,List.drop_length];show[f[f.length-1]]=_;rw[<-bW hf,ag,ar (show f.length-1<f.length by lia)];rfl
  rw[el,Int.pow_zero];rfl
 ·rw[show(pK ((f.length:Int)-2)<|f.length-1).length=f.length-1 by simp[pK],gc]
 rw[PD];exact aA<|aW<|aa t 6
end
inductive Nu where
 |q (r:Rat) |s (d e:Int)
inductive Rw where
 |l (p b:Int) |f (d:Int) (k:Nat)
 deriving DecidableEq
def Rw.row:Rw->aG
 |.l p b=>[-p,b]|.f d 0=>[-d,0,1]
 |.f d 1=>[40*d,-d,-40,1]|.f d _=>[-d,0,1-2*d,0,2]
def Ir:Rw->Rw->aG
 |.l p b,.l p' b'=>if p=p'/\b=b' then [-p,b]else [1]
 |.f d k,.f d' k'=>if d=d' then(if k=k' then(Rw.f d k).row else [-d,0,1])else if k=k'/\k=1 then [-40,1]else if k=k'/\k=2 then [1,0,2]else [1]
 |_,_=>[1]
def dL:aG:=[2,3,5,6,7,10,11,13,14,15,17,19]
def fL:List Rw:=dL.flatMap λd=>[.f d 0,.f d 1,.f d 2]
def lL:List Rw:=([1,2,3,4]:G1).flatMap λb=>((List.range 31).filter λi=>Nat.gcd (i-15+(15-i)) b=1).map λ(i:Nat)=>Rw.l ((i:Int)-15) (b:Int)
def Lb(a b:Rw):Bool:=decide<|Ja a.row b.row=Ir a b
def Qh:(fL.all λa=>fL.all λb=>Lb a b)=true:=by decide
def M3:(lL.all λa=>fL.all λb=>Lb a b)=true:=by decide
def Qf:(lL.all λa=>lL.all λb=>Lb a b)=true:=by decide
def pU(d:Int):Int:=if d<4 then 1 else if d<9 then 2 else if d<16 then 3 else 4
def qE(x:Rat):Bool:=decide<|x.num.natAbs<2 ^ 60/\x.den<2 ^ 60/\-32<=x/\x<=32/\(x*24).den=1
def sU(f u:aG)(lo hi:Rat):Bool:=decide<|f.length<=9/\2<=f.length/\ak f≠0/\(∀x∈f,x.natAbs<2 ^ 60)/\a9 u=u/\a9 f=a8 u (xF f)/\VC (Nq lo hi u)=1/\lo<hi/\v8 lo.num (lo.den:Int) f≠0/\v8 hi.num (hi.den:Int) f≠0
def U4:List Rat:=[1,2,3,4,5]
def K6(r:Rat)(k:Int):aG:=if k=2 then a8 [-r.num,(r.den:Int)] [-r.num,(r.den:Int)]else [-r.num,(r.den:Int)]
def KS(r:Rat):Bool:=decide (Rw.l r.num (r.den:Int)∈lL)&&decide ((r*12).den=1)&&decide (r.num.natAbs<=15)&&qE r&&qE (r+1 / 2)&&(dL.all λd=>decide<|r*r≠(d:Rat))&&U4.all λw=>qE (r-w)&&sU (K6 r 1) [-r.num,(r.den:Int)] (r-w) (r+1 / 2)&&sU (K6 r 2) [-r.num,(r.den:Int)] (r-w) (r+1 / 2)
def Qq:((List.range 31).all λi=>(List.range 4).all λj=>KS<|Rat.divInt ((i:Int)-15)<|1+(j:Int))=true:=by decide
def yd(d e:Int):Rat:=if 0<e then(pU d:Rat)else-(pU d:Rat)-1
def yw(d e:Int):Rat:=if 0<e then(pU d:Rat)+1 else-(pU d:Rat)
def Hf(d:Int):Int->aG
 |0=>[-d,0,1]|1=>a8 [-d,0,1] [-40,1]
 |2=>a8 [-d,0,1] [1,0,2]|_=>[d,0,-1]
def kS:Int->Nat
 |1=>1|2=>2
 |_=>0
def SJ(d e:Int):Bool:=qE (yd d e)&&qE (yw d e)&&decide (pU d*pU d<d/\d<(pU d+1)*(pU d+1)/\1<=pU d/\pU d<=4)&&([0,1,2,3]:aG).all λx=>sU (Hf d x) (Rw.f d<|kS x).row (yd d e)<|yw d e
def Ql:(dL.all λd=>([1,-1]:aG).all λe=>SJ d e)=true:=by decide
structure Uk where
 f:Option aG
 w:Rw
 lo:Rat
 hi:Rat
def dU:Nu->Rat|.q r=>kq r|.s d e=>((e*d:Int):Rat)
inductive jh:Nu->Uk->Prop where
 |fr {r:Rat}:KS r=true->jh (.q r) ⟨none,.l r.num (r.den:Int),r,r⟩
 |wd {r w:Rat} {k:Int}:KS r=true->w∈U4->k=1\/k=2->jh (.q r) ⟨some<|K6 r k,.l r.num (r.den:Int),r-w,r+1 / 2⟩
 |rt {d e x:Int}:d∈dL->e=1\/e=-1->x∈([0,1,2,3]:aG)->jh (.s d e) ⟨some<|Hf d x,.f d<|kS x,yd d e,yw d e⟩
structure QF(r:Rat):Prop where
 mem:Rw.l r.num (r.den:Int)∈lL
 i12:(r*12).den=1
 n15:r.num.natAbs<=15
 e1:qE r=true
 e2:qE (r+1 / 2)=true
 nsq:∀d∈dL,r*r≠(d:Rat)
 wide:∀w∈U4,qE (r-w)=true/\sU (K6 r 1) [-r.num,(r.den:Int)] (r-w) (r+1 / 2)=true/\sU (K6 r 2) [-r.num,(r.den:Int)] (r-w) (r+1 / 2)=true
def qf{r:Rat}(h:KS r=true):QF r:=by unfold KS at h;simp only[br,cz,uM]at h;obtain⟨⟨⟨⟨⟨⟨a,b⟩,c⟩,d⟩,e⟩,f⟩,g⟩:=h;exact⟨a,b,c,d,e,f,λw hw=>by obtain⟨⟨x,y⟩,z⟩:=g w hw;exact⟨x,y,z⟩⟩
structure SF(d e:Int):Prop where
 e1:qE (yd d e)=true
 e2:qE (yw d e)=true
 l:pU d*pU d<d
 h:d<(pU d+1)*(pU d+1)
 r1:1<=pU d
 r4:pU d<=4
 row:∀x∈([0,1,2,3]:aG),sU (Hf d x) (Rw.f d<|kS x).row (yd d e) (yw d e)=true
def sf{d e:Int}(hd:d∈dL)(he:e=1\/e=-1):SF d e:=by have h:=Ql;rw[cz]at h;have h:=h d hd;rw[cz]at h;have h:=h e (by rcases he with rfl |rfl<;>decide);unfold SJ at h;simp only[br,cz,uM]at h;obtain⟨⟨⟨a,b⟩,c,d1,e1,f1⟩,g⟩:=h;exact⟨a,b,c,d1,e1,f1,g⟩
structure EF(x:Rat):Prop where
 f:fb 60 x
 l: -32<=x
 u:x<=32
 d:Dy 0 x
def J5{x:Rat}(h:x.den=1):x=(x.num:Rat):=by have:=fX x;rw[h]at this;rw[this];show x=x*((1:Int):Rat);have e:((1:Int):Rat)=1:=rfl;rw[e,Rat.mul_one]
def ef{x:Rat}(h:qE x=true):EF x:=by obtain⟨a,b,c,d,e⟩:=bB h;exact⟨⟨a,b⟩,c,d,⟨(x*24).num,by rw[Ii,Rat.mul_one];exact J5 e⟩⟩
def Pa{n:Nu}{p:Uk}(h:jh n p):EF p.lo/\EF p.hi:=by
 cases h with
 |fr h=>exact⟨ef (qf h).e1,ef (qf h).e1⟩|wd h hw hk=>exact⟨ef ((qf h).wide _ hw).1,ef (qf h).e2⟩
 |rt hd he hx=>exact⟨ef (sf hd he).e1,ef (sf hd he).e2⟩
def QA(r t:Rat):sg (fY (Rw.l r.num (r.den:Int)).row t)=1*sg (kq t-kq r):=by
 have pd:(0:Rat)<((r.den:Int):Rat):=by have:((0:Int):Rat)<((r.den:Int):Rat):=a7.mpr (by have:=r.den_pos;lia);exact this
 have e:fY (Rw.l r.num (r.den:Int)).row t=((r.den:Int):Rat)*(t-r):=by show((-r.num:Int):Rat)+t*(((r.den:Int):Rat)+t*0)=_;rw[lO,fX r];grind
 rw[e,n4,iq pd,cY,cY];by_cases a:t<r;·rw[m3<|by grind,m3<|by have:=qw a;grind]
 ·by_cases b:r<t;·rw[iq<|by grind,iq<|by have:=qw b;grind]
  ·have:t=r:=by grind
   subst this;rw[show t-t=0 by grind,show kq t-kq t=0 by grind]
def Qd{r lo hi:Rat}(h:(lo=r/\hi=r)\/(lo<r/\r<hi)):Sp 1 (kq r) (Rw.l r.num (r.den:Int)).row lo hi:=by
 refine⟨.inl rfl,?_,λt _ _=>QA r t⟩;rcases h with⟨rfl,rfl⟩ |⟨a,b⟩;·exact .inl ⟨rfl,rfl⟩
 ·exact .inr ⟨qw a,qw b⟩
def sx(k:Nat):Int:=if k=1 then-1 else 1
def Sb{t:Rat}(h1: -32<=t)(h2:t<=32):sg (fY (Rw.f d k).row t)=sg (t*t-d)*sx k:=by
 match k with
 |0=>
  show sg (((-d:Int):Rat)+t*(((0:Int):Rat)+t*(((1:Int):Rat)+t*0)))=_;rw[lO,show((0:Int):Rat)=0 from rfl,show((1:Int):Rat)=1 from rfl];have: -(d:Rat)+t*(0+t*(1+t*0))=t*t-d:=by grind
  rw[this];show _=_*1;lia
 |1=>
  show sg (((40*d:Int):Rat)+t*(((-d:Int):Rat)+t*(((-40:Int):Rat)+t*(((1:Int):Rat)+t*0))))=_;rw[lO,aI,show((40:Int):Rat)=40 from rfl,show((-40:Int):Rat)=-40 from rfl,show((1:Int):Rat)=1 from rfl];have:40*(d:Rat)+t*(-(d:Rat)+t*(-40+t*(1+t*0)))=(t*t-d)*(t-40):=by grind
  rw[this,n4,m3 (x:=t-40)<|by grind];rfl
 |k+2=>
  show sg (((-d:Int):Rat)+t*(((0:Int):Rat)+t*(((1-2*d:Int):Rat)+t*(((0:Int):Rat)+t*(((2:Int):Rat)+t*0)))))=_;rw[lO,iT,aI,show((0:Int):Rat)=0 from rfl,show((1:Int):Rat)=1 from rfl,show((2:Int):Rat)=2 from rfl];have: -(d:Rat)+t*(0+t*(1-2*(d:Rat)+t*(0+t*(2+t*0))))=(t*t-d)*(2*(t*t)+1):=by grind
  have sq:0<=t*t:=by
   by_cases z:0<=t;·exact jS z z
   ·have:=jS (a:=-t) (b:=-t) (by grind) (by grind);grind
  rw[this,n4,iq (x:=2*(t*t)+1)<|by grind];unfold sx;rw[ap<|by lia]
def QE{t:Rat}(h:0<=t):kq t=t*t:=by unfold kq;rw[ap<|by grind]
def QD{t:Rat}(h:t<=0):kq t=-(t*t):=by
 unfold kq;split;·rfl
 ·have:t=0:=by grind
  subst this;grind
def EM{e:Int}(he:e=1\/e=-1)(r1:1<=pU d){t:Rat}(h1:yd d e<=t)(h2:t<=yw d e):kq t-((e*d:Int):Rat)=(e:Rat)*(t*t-d):=by
 have p:(1:Rat)<=(pU d:Rat):=cJ.mpr r1;rcases he with rfl |rfl;·unfold yd at h1;rw[am<|by decide]at h1;rw[QE<|by grind,cY,show((1:Int):Rat)=1 from rfl];grind
 ·unfold yw at h2;rw[ap<|by decide]at h2;rw[QD<|by grind,aI,show((-1:Int):Rat)=-1 from rfl];grind
def Dc{e:Int}(he:e=1\/e=-1)(f:SF d e):kq (yd d e)<((e*d:Int):Rat)/\((e*d:Int):Rat)<kq (yw d e)/\yd d e<yw d e:=by
 have l:(pU d:Rat)*(pU d:Rat)<(d:Rat):=by rw[<-aI];exact a7.mpr f.l
 have h:(d:Rat)<((pU d:Rat)+1)*((pU d:Rat)+1):=by have:=a7.mpr f.h;rw[aI,eJ]at this;exact this
 have p:(1:Rat)<=(pU d:Rat):=cJ.mpr f.r1;have lt:yd d e<yw d e:=by unfold yd yw;split<;>grind
 have a:=EM he f.r1 (t:=yd d e) (iI)<|dI lt;have b:=EM he f.r1 (t:=yw d e) (dI lt)<|iI;refine⟨?_,?_,lt⟩
 ·rcases he with rfl |rfl;·unfold yd at a ⊢;rw[am<|by decide]at a ⊢;rw[show((1:Int):Rat)=1 from rfl]at a;grind
  ·unfold yd at a ⊢;rw[ap<|by decide]at a ⊢;rw[show((-1:Int):Rat)=-1 from rfl]at a;grind
 ·rcases he with rfl |rfl;·unfold yw at b ⊢;rw[am<|by decide]at b ⊢;rw[show((1:Int):Rat)=1 from rfl]at b;grind
  ·unfold yw at b ⊢;rw[ap<|by decide]at b ⊢;rw[show((-1:Int):Rat)=-1 from rfl]at b;grind
def RO{e:Int}(he:e=1\/e=-1):sg (e:Rat)=e:=by rcases he with rfl |rfl<;>decide
def QU{d e:Int}(hd:d∈dL)(he:e=1\/e=-1){t:Rat}(h1:yd d e<=t)(h2:t<=yw d e):sg (fY (Rw.f d k).row t)=e*sx k*sg (kq t-((e*d:Int):Rat)):=by
 have f:=sf hd he;have a:=(ef f.e1).l;have b:=(ef f.e2).u;rw[EM he f.r1 h1 h2,n4,RO he,Sb (by grind)<|by grind];generalize sg (t*t-d)=z;rcases he with rfl |rfl;·rw[cY,cY,gU]
 ·rw[gU z,MT,MT,zt]
def Qb{e:Int}{k:Nat}(he:e=1\/e=-1):e*sx k=1\/e*sx k=-1:=by unfold sx;rcases he with rfl |rfl<;>split<;>decide
def RN{d e:Int}(hd:d∈dL)(he:e=1\/e=-1):Sp (e*sx k) (dU<|.s d e) (Rw.f d k).row (yd d e) (yw d e):=⟨Qb he,.inr ⟨(Dc he<|sf hd he).1,(Dc he<|sf hd he).2.1⟩,λt h1 h2=>QU hd he h1 h2⟩
def IC{w:Rat}(h:w∈U4):0<w:=by unfold U4 at h;simp only[aO,iz,nA]at h;rcases h with rfl |rfl |rfl |rfl |rfl<;>decide
def Nb{n:Nu}{p:Uk}(h:jh n p):∃s,Sp s (dU n) p.w.row p.lo p.hi:=by
 cases h with
 |fr h=>exact⟨1,Qd<|.inl ⟨rfl,rfl⟩⟩|wd h hw hk=>exact⟨1,Qd<|.inr ⟨by have:=IC hw;grind,by grind⟩⟩
 |rt hd he hx=>exact⟨_,RN hd he⟩
structure WF(w:Rw):Prop where
 o:Uo w.row
 b:BB 20 w.row
 r:aY w.row
def NT{f:aG}(h:ak f≠0):aY f:=by
 rcases bR f with rfl |⟨ys,a,rfl⟩;·exact .inl rfl
 ·refine .inr ⟨ys,a,by simp,?_⟩;intro z;apply h;unfold ak;simp[z]
def QW:(fL.all λw=>decide (w.row≠[]/\w.row.length<=5/\ak w.row≠0/\∀x∈w.row,x.natAbs<2 ^ 20))=true:=by decide
def QC:(lL.all λw=>decide (w.row≠[]/\w.row.length<=5/\ak w.row≠0/\∀x∈w.row,x.natAbs<2 ^ 20))=true:=by decide
def ID{w:Rw}(h:w∈fL\/w∈lL):WF w:=by
 have:w.row≠[]/\w.row.length<=5/\ak w.row≠0/\∀x∈w.row,x.natAbs<2 ^ 20:=by
  rcases h with h |h;·exact bB<|cz.mp QW w h
  ·exact bB<|cz.mp QC w h
 exact⟨⟨this.1,this.2.1,λx hx=>ii (this.2.2.2 x hx)<|by decide⟩,this.2.2.2,NT this.2.2.1⟩
def OL{d x:Int}(hd:d∈dL)(hx:x∈([0,1,2,3]:aG)):Rw.f d (kS x)∈fL:=by refine KP.mpr ⟨d,hd,?_⟩;simp only[aO,iz,nA]at hx;rcases hx with rfl |rfl |rfl |rfl<;>simp[kS]
def E1{n:Nu}{p:Uk}(h:jh n p):p.w∈fL\/p.w∈lL:=by
 cases h with
 |fr h=>exact .inr (qf h).mem|wd h hw hk=>exact .inr (qf h).mem
 |rt hd he hx=>exact .inl<|OL hd hx
def vY{n:Nu}{p:Uk}(h:jh n p):WF p.w:=ID<|E1 h
def QV{w:Rw}(h:w∈fL):∃d k,d∈dL/\w=.f d k:=by obtain⟨d,hd,h⟩:=KP.mp h;simp only[aO,iz,nA]at h;rcases h with rfl |rfl |rfl<;>exact⟨d,_,hd,rfl⟩
def QB{w:Rw}(h:w∈lL):∃p b,w=.l p b:=by obtain⟨b,hb,h⟩:=KP.mp h;obtain⟨i,hi,rfl⟩:=dq.mp h;exact⟨_,_,rfl⟩
def Qg{a b:Rw}(ha:a∈fL\/a∈lL)(hb:b∈fL\/b∈lL):Ja a.row b.row=Ir a b:=by
 have g:∀{A B:List Rw},(A.all λa=>B.all λb=>Lb a b)=true->∀{a b:Rw},a∈A->b∈B->Ja a.row b.row=Ir a b:=λh a b x y=>bB<|cz.mp (cz.mp h a x) b y;rcases ha with ha |ha<;>rcases hb with hb |hb;·exact g Qh ha hb
 ·have e:=g M3 hb ha;have wa:=(ID<|.inl ha).r;have wb:=(ID<|.inr hb).r;have:Ja a.row b.row=Ja b.row a.row:=lM (pE wa wb) (pE wb wa)<|IQ wa wb;rw[this,e];obtain⟨_,_,_,rfl⟩:=QV ha;obtain⟨_,_,rfl⟩:=QB hb;rfl
 ·exact g M3 ha hb
 ·exact g Qf ha hb
def QN{n:Nu}{p:Uk}(h:jh n p):∃z:Int,dU n*144=(z:Rat):=by
 have q:∀{r:Rat},KS r=true->∃z:Int,kq r*144=(z:Rat):=λ{r}h=>by
  have e:=J5 (qf h).i12;unfold kq;split;·exact⟨-((r*12).num*(r*12).num),by rw[lO,aI,<-e];grind⟩
  ·exact⟨(r*12).num*(r*12).num,by rw[aI,<-e];grind⟩
 cases h with
 |fr h=>exact q h|wd h hw hk=>exact q h
 |@rt d e x hd he hx=>exact⟨e*d*144,by rw[aI];rfl⟩
def OY{a b:Rat}(ha:∃z:Int,a*144=(z:Rat))(hb:∃z:Int,b*144=(z:Rat))(h:a≠b):1 / 256<=a-b\/1 / 256<=b-a:=by
 obtain⟨x,ex⟩:=ha;obtain⟨y,ey⟩:=hb;rcases gV x y with z |z |z;·have:=cJ.mpr (show x+1<=y by lia);rw[eJ,<-ex,<-ey,show((1:Int):Rat)=1 from rfl]at this;exact .inr<|by grind
 ·exact absurd (by rw[z]at ex;grind) h
 ·have:=cJ.mpr (show y+1<=x by lia);rw[eJ,<-ex,<-ey,show((1:Int):Rat)=1 from rfl]at this;exact .inl<|by grind
def Fj{d:Int}(h:d∈dL):0<d:=by
 have:(dL.all λd=>decide<|0<d)=true:=by decide
 exact bB<|cz.mp this d h
def M7{d e:Int}{r:Rat}(h:KS r=true)(hd:d∈dL)(he:e=1\/e=-1):kq r≠((e*d:Int):Rat):=λz=>by
 have n:=(qf h).nsq d hd;have pd:(0:Rat)<(d:Rat):=a7.mpr<|Fj hd;have sq:0<=r*r:=by
  by_cases z:0<=r;·exact jS z z
  ·have:=jS (a:=-r) (b:=-r) (by grind) (by grind);grind
 unfold kq at z;rcases he with rfl |rfl
 ·rw[cY]at z;split at z;·grind
  ·exact n z
 ·rw[aI,show((-1:Int):Rat)=-1 from rfl]at z;split at z;·exact n<|by grind
  ·grind
def OG{a b:Rat}(h:kq a=kq b):a=b:=by
 by_cases x:a<b;·have:=qw x;grind
 ·by_cases y:b<a;·have:=qw y;grind
  ·grind
def BH(t:Rat):sg (fY [1] t)=1:=by show sg (((1:Int):Rat)+t*0)=1;rw[show((1:Int):Rat)=1 from rfl];exact iq<|by grind
def NB(n n':Nu)(p p':Uk):Prop:=(dU n=dU n'/\∃s:Int,(s=1\/s=-1)/\∀t,p.lo<=t->t<=p.hi->sg (fY (Ir p.w p'.w) t)=s*sg (kq t-dU n))\/(dU n≠dU n'/\∃c:Int,∀t,-32<=t->t<=32->sg (fY (Ir p.w p'.w) t)=c)
def NM{n n':Nu}{p p':Uk}(h:jh n p)(h':jh n' p')(lt:(if p.lo<p'.lo then p'.lo else p.lo)<(if p.hi<p'.hi then p.hi else p'.hi)):NB n n' p p':=by
 have qq:∀{r r':Rat}{p p':Uk},p.w=.l r.num (r.den:Int)->p'.w=.l r'.num (r'.den:Int)->NB (.q r) (.q r') p p':=λ{r r' p p'}e e'=>by
  unfold NB;rw[e,e'];by_cases z:r=r';·subst z;refine .inl ⟨rfl,1,.inl rfl,λt _ _=>?_⟩;have:Ir (.l r.num (r.den:Int)) (.l r.num (r.den:Int))=(Rw.l r.num (r.den:Int)).row:=am ⟨rfl,rfl⟩;rw[this];exact QA r t
  ·refine .inr ⟨λk=>z<|OG k,1,λt _ _=>?_⟩;have:Ir (.l r.num (r.den:Int)) (.l r'.num (r'.den:Int))=[1]:=ap λ⟨a,b⟩=>z<|Rat.ext a (by lia);rw[this];exact BH t
 have qs:∀{r:Rat}{d e:Int}{p p':Uk}{k:Nat},KS r=true->d∈dL->(e=1\/e=-1)->p.w=.l r.num (r.den:Int)->p'.w=.f d k->NB (.q r) (.s d e) p p':=λ{r d e p p' k}h hd he a b=>by unfold NB;rw[a,b];exact .inr ⟨M7 h hd he,1,λt _ _=>BH t⟩
 have sq:∀{r:Rat}{d e:Int}{p p':Uk}{k:Nat},KS r=true->d∈dL->(e=1\/e=-1)->p.w=.l r.num (r.den:Int)->p'.w=.f d k->NB (.s d e) (.q r) p' p:=λ{r d e p p' k}h hd he a b=>by unfold NB;rw[a,b];exact .inr ⟨λz=>M7 h hd he z.symm,1,λt _ _=>BH t⟩
 cases h with
 |fr h=>
  cases h' with
  |fr h'=>exact qq rfl rfl|wd h' hw hk=>exact qq rfl rfl
  |rt hd he hx=>exact qs h hd he rfl rfl
 |wd h hw hk=>
  cases h' with
  |fr h'=>exact qq rfl rfl|wd h' hw hk=>exact qq rfl rfl
  |rt hd he hx=>exact qs h hd he rfl rfl
 |@rt d e x hd he hx=>
  cases h' with
  |fr h'=>exact sq h' hd he rfl rfl|wd h' hw hk=>exact sq h' hd he rfl rfl
  |@rt d' e' x' Zv Xu U1=>
   unfold NB;dsimp only at lt ⊢;by_cases z:d=d'
   ·subst z;by_cases y:e=e'
    ·subst y;have:∃k,Ir (.f d<|kS x) (.f d<|kS x')=(Rw.f d k).row:=by
      show∃k,(if d=d then(if kS x=kS x' then(Rw.f d<|kS x).row else [-d,0,1])else _)=_;rw[am rfl];split;·exact⟨_,rfl⟩
      ·exact⟨0,rfl⟩
     obtain⟨k,ek⟩:=this;rw[ek];exact .inl ⟨rfl,_,Qb he,λt h1 h2=>QU hd he h1 h2⟩
    ·have p:(1:Rat)<=(pU d:Rat):=cJ.mpr (sf hd he).r1;exfalso;unfold yd yw at lt;rcases he with rfl |rfl<;>rcases Xu with rfl |rfl;·exact y rfl
     ·simp only[show(0:Int)<1 by decide,show¬(0:Int)< -1 by decide,CP,tT]at lt;split at lt<;>split at lt<;>grind
     ·simp only[show(0:Int)<1 by decide,show¬(0:Int)< -1 by decide,CP,tT]at lt;split at lt<;>split at lt<;>grind
     ·exact y rfl
   ·refine .inr ⟨λk=>?_,?_⟩;·have k':e*d=e'*d':=Rat.intCast_inj.mp k;have:=Fj hd;have:=Fj Zv;rcases he with rfl |rfl<;>rcases Xu with rfl |rfl<;>lia
    ·have:Ir (.f d<|kS x) (.f d'<|kS x')=[-40,1]\/Ir (.f d<|kS x) (.f d'<|kS x')=[1,0,2]\/Ir (.f d<|kS x) (.f d'<|kS x')=[1]:=by
      show(if d=d' then _ else if kS x=kS x'/\kS x=1 then _ else if kS x=kS x'/\kS x=2 then _ else _)=_\/(if d=d' then _ else if kS x=kS x'/\kS x=1 then _ else if kS x=kS x'/\kS x=2 then _ else _)=_\/(if d=d' then _ else if kS x=kS x'/\kS x=1 then _ else if kS x=kS x'/\kS x=2 then _ else _)=_;rw[ap z];split;·exact .inl rfl
      ·split;·exact .inr<|.inl rfl
       ·exact .inr<|.inr rfl
     rcases this with e |e |e;·refine⟨-1,λt h1 h2=>?_⟩;rw[e];show sg (((-40:Int):Rat)+t*(((1:Int):Rat)+t*0))=_;rw[show((-40:Int):Rat)=-40 from rfl,show((1:Int):Rat)=1 from rfl];exact m3<|by grind
     ·refine⟨1,λt h1 h2=>?_⟩;rw[e];show sg (((1:Int):Rat)+t*(((0:Int):Rat)+t*(((2:Int):Rat)+t*0)))=_;rw[show((0:Int):Rat)=0 from rfl,show((1:Int):Rat)=1 from rfl,show((2:Int):Rat)=2 from rfl];have sq:0<=t*t:=by
       by_cases z:0<=t;·exact jS z z
       ·have:=jS (a:=-t) (b:=-t) (by grind) (by grind);grind
      exact iq<|by grind
     ·refine⟨1,λt h1 h2=>?_⟩;rw[e];exact BH t
def NN{a b:Rw}(ha:WF a)(hb:WF b):Uo (Ir a b):=by
 have c1:Uo [1]:=⟨by simp,by decide,by unfold BB;decide⟩
 match a,b with
 |.l p q,.l p' q'=>
  show Uo (if p=p'/\q=q' then [-p,q]else [1]);split;·exact ha.o
  ·exact c1
 |.l p q,.f d k=>exact c1|.f d k,.l p q=>exact c1
 |.f d k,.f d' k'=>
  show Uo (if d=d' then(if k=k' then(Rw.f d k).row else [-d,0,1])else if k=k'/\k=1 then [-40,1]else if k=k'/\k=2 then [1,0,2]else [1]);split
  ·split;·exact ha.o
   ·have:(-d).natAbs<2 ^ 60:=by
     match k,ha.o with
     |0,h=>exact h.2.2 _ (by simp[Rw.row])|1,h=>exact h.2.2 _<|by simp[Rw.row]
     |k+2,h=>exact h.2.2 _<|by simp[Rw.row]
    refine⟨by simp,bP rfl,λx hx=>?_⟩;simp only[aO,iz,nA]at hx;rcases hx with rfl |rfl |rfl;·exact this
    ·decide
    ·decide
  ·split;·exact⟨by simp,by decide,by unfold BB;decide⟩
   ·split;·exact⟨by simp,by decide,by unfold BB;decide⟩
    ·exact c1
def GQ{x y:Rat}(h:Dy 0 x)(k:Dy 0 y):Dy 0 (x-y):=by obtain⟨a,e⟩:=h;obtain⟨b,f⟩:=k;exact⟨a-b,by rw[iT,<-e,<-f];grind⟩
def Mu{x y:Rat}(h:Dy 0 x)(k:Dy 0 y):Dy 0 (x+y):=by obtain⟨a,e⟩:=h;obtain⟨b,f⟩:=k;exact⟨a+b,by rw[eJ,<-e,<-f];grind⟩
def SG{n:Nu}{p:Uk}(h:jh n p):p.hi-p.lo<=32:=by
 cases h with
 |fr h=>show _-_<=(32:Rat);grind|@wd r w k h hw hk=>show r+1 / 2-(r-w)<=32;unfold U4 at hw;simp only[aO,iz,nA]at hw;rcases hw with rfl |rfl |rfl |rfl |rfl<;>grind
 |@rt d e x hd he hx=>show yw d e-yd d e<=32;unfold yd yw;split<;>grind
def Ni{n n':Nu}{p p':Uk}(h:jh n p)(h':jh n' p'):∃s s',Bf s s' (dU n) (dU n') p.w.row p'.w.row ⟨p.lo,p.hi,p'.lo,p'.hi⟩:=by
 obtain⟨s,sp⟩:=Nb h;obtain⟨s',YS⟩:=Nb h';obtain⟨a,b⟩:=Pa h;obtain⟨a',b'⟩:=Pa h';have w1:=sp.wide;have w2:=YS.wide;have w3:=SG h;have w4:=SG h';have al:=a.l;have bu:=b.u;have al':=a'.l;have bu':=b'.u;have e:=Qg (E1 h)<|E1 h';refine⟨s,s',(vY h).o,(vY h').o,(vY h).r,(vY h').r,⟨aq _,sp,YS,by show-64<=p.lo;grind,by show-64<=p'.lo;grind,by show p.hi<=64;grind,by show p'.hi<=64;grind,by show 0<=p.hi-p.lo+(p'.hi-p'.lo);grind,by show p.hi-p.lo<=p.hi-p.lo+(p'.hi-p'.lo);grind,by show p'.hi-p'.lo<=p.hi-p.lo+(p'.hi-p'.lo);grind,by show(p.hi-p.lo+(p'.hi-p'.lo))*2 ^ 0<=64;rw[Ii];grind,a.d,b.d,a'.d,b'.d,Mu (GQ b.d a.d)<|GQ b'.d a'.d⟩,OY (QN h)<|QN h',by rw[e];exact NN (vY h)<|vY h',λlt=>?_⟩;rw[e];have g1:p.lo<=kE ⟨p.lo,p.hi,p'.lo,p'.hi⟩:=(BO _).1;have g2:p'.lo<=kE ⟨p.lo,p.hi,p'.lo,p'.hi⟩:=(BO _).2;have g3:hJ ⟨p.lo,p.hi,p'.lo,p'.hi⟩<=p.hi:=(yv _).1;have g4:hJ ⟨p.lo,p.hi,p'.lo,p'.hi⟩<=p'.hi:=(yv _).2;rcases NM h h' lt with⟨ek,s2,hs,f⟩ |⟨nk,c,f⟩
 ·have l1:=sp.strict (by grind);have l2:=YS.strict (by grind);have k1:kq (kE ⟨p.lo,p.hi,p'.lo,p'.hi⟩)<dU n:=by
   unfold kE;split;·show kq p'.lo<_;rw[ek];exact l2.1
   ·exact l1.1
  have k2:dU n<kq (hJ ⟨p.lo,p.hi,p'.lo,p'.hi⟩):=by
   unfold hJ;split;·exact l1.2
   ·show _<kq p'.hi;rw[ek];exact l2.2
  rw[f _ g1<|by grind,f _ (by grind) g3,m3<|by grind,iq<|by grind];constructor;·intro z;rcases hs with rfl |rfl<;>lia
  ·intro z;exact absurd ek z
 ·rw[f _ (by grind)<|by grind,f _ (by grind)<|by grind];exact⟨λ_=>nk,λ_=>rfl⟩
def Uk.D(p:Uk):D:=match p.f with|none=>bZ p.lo|some f=>.tup [aU f,bZ p.lo,bZ p.hi]
structure Pr(f:aG)(p:Uk):Prop where
 r9:R9 f
 two:2<=f.length
 bare:KJ f p.w.row
 one:VC (Nq p.lo p.hi p.w.row)=1
 lt:p.lo<p.hi
 lo:(v8 p.lo.num (p.lo.den:Int) f).sign≠0
 hi:(v8 p.hi.num (p.hi.den:Int) f).sign≠0
def w6{n:Nu}{p:Uk}(h:jh n p)(e:p.f=some f):Pr f p:=by
 have g:sU f p.w.row p.lo p.hi=true:=by
  cases h with
  |fr h=>cases e
  |@wd r w k h hw hk=>
   cases e;obtain⟨_,a,b⟩:=(qf h).wide _ hw;rcases hk with rfl |rfl;·exact a
   ·exact b
  |rt hd he hx=>cases e;exact(sf hd he).row _ hx
 obtain⟨a,b,c,d,pu,pf,v,lt,s1,s2⟩:=bB g;have wf:=vY h;exact⟨⟨NT c,by intro z;subst z;simp at b,a,d⟩,b,⟨wf.r,wf.o.1,pu,pf⟩,v,lt,λz=>s1<|PR.mp z,λz=>s2<|PR.mp z⟩
def R9.vv(h:R9 f){x:Rat}(g:fb 60 x):VV f x.num (x.den:Int):=⟨h.len,λy hy=>ii (h.bb y hy)<|by decide,ii g.1<|by decide,by rw[aB];exact ii g.2<|by decide⟩
def ph(ds:bX)(d:D):Prop:=∃i:Int,ds=[.int i]/\d=.bl true
def BU:∀ds d,ph ds d->ds.length=1:=by rintro _ _ ⟨a,rfl,_⟩;rfl
def zf(ds:bX)(d:D):Prop:=∃f:aG,ds=[aU f]/\R9 f/\d=.bl true
def Fb:∀ds d,zf ds d->ds.length=1:=by rintro _ _ ⟨a,rfl,_⟩;rfl
def j6(ds:bX)(d:D):Prop:=(∃q:Rat,ds=[bZ q]/\d=.bl true)\/∃a b c:D,ds=[.tup [a,b,c]]/\d=.bl false
def wo:∀ds d,j6 ds d->ds.length=1:=by rintro _ _ (⟨a,rfl,_⟩ |⟨a,b,c,rfl,_⟩)<;>rfl
structure So(f:aG)(a b:Rat):Prop where
 r9:R9 f
 fa:fb 60 a
 fb:fb 60 b
 lt:a<b
 lo:(v8 a.num (a.den:Int) f).sign≠0
 hi:(v8 b.num (b.den:Int) f).sign≠0
def fS(ds:bX)(d:D):Prop:=∃(f:aG)(a b:Rat),ds=[aU f,bZ a,bZ b]/\So f a b/\d=.TN
def jy:∀ds d,fS ds d->ds.length=3:=by rintro _ _ ⟨f,a,b,rfl,_⟩;rfl
def iP(ds:bX)(d:D):Prop:=fS ds d
def qv:∀ds d,iP ds d->ds.length=3:=jy
def jM(ds:bX)(d:D):Prop:=∃(u:aG)(a b:Rat),ds=[aU u,bZ a,bZ b]/\u≠[]/\u.length<=9/\BB 20 u/\fb 60 a/\fb 60 b/\VC (Nq a b u)=1/\d=.lst [.tup [bZ a,bZ b]]
def sY:∀ds d,jM ds d->ds.length=3:=by rintro _ _ ⟨f,a,b,rfl,_⟩;rfl
def kO(ds:bX)(d:D):Prop:=∃(n:Nu)(p:Uk)(f:aG),jh n p/\p.f=some f/\ds=[aU f,bZ p.lo,bZ p.hi]/\d=.int 1
def uv:∀ds d,kO ds d->ds.length=3:=by rintro _ _ ⟨f,a,b,_,_,rfl,_⟩;rfl
def vE(ds:bX)(d:D):Prop:=∃(n:Nu)(p:Uk)(f:aG),jh n p/\p.f=some f/\ds=[p.D]/\d=.bl true
def DI:∀ds d,vE ds d->ds.length=1:=by rintro _ _ ⟨f,a,b,_,_,rfl,_⟩;rfl
def pi(ds:bX)(d:D):Prop:=∃(n:Nu)(p:Uk),jh n p/\ds=[p.D]/\d=.bl true
def BV:∀ds d,pi ds d->ds.length=1:=by rintro _ _ ⟨f,a,_,rfl,_⟩;rfl
def jp(ds:bX)(d:D):Prop:=∃(n:Nu)(p:Uk),jh n p/\ds=[p.D]/\d=.TN
def rZ:∀ds d,jp ds d->ds.length=1:=by rintro _ _ ⟨f,a,_,rfl,_⟩;rfl
def rN(ds:bX)(d:D):Prop:=∃(n:Nu)(p:Uk),jh n p/\ds=[p.D]/\d=kD p.w.row p.lo p.hi
def DE:∀ds d,rN ds d->ds.length=1:=by rintro _ _ ⟨f,a,_,rfl,_⟩;rfl
def oZ(ds:bX)(d:D):Prop:=∃(n n':Nu)(p p':Uk),jh n p/\jh n' p'/\ds=[p.D,p'.D]/\d=.int (tu (dU n)<|dU n')
def ut:∀ds d,oZ ds d->ds.length=2:=by rintro _ _ ⟨f,a,_,_,_,_,rfl,_⟩;rfl
def jq(ds:bX)(d:D):Prop:=oZ ds d
def yh:∀ds d,jq ds d->ds.length=2:=ut
def JS(q:aG):(ke<|ba q).canLay0=true:=by have:=fO q;have h:(PyData.canLay0 (ke<|ba q)&&decide (PyData.depth (ke<|ba q)<=64))=true:=this;rw[br]at h;exact h.1
def yX:∀q:aG,PyData.depthAll (TZ<|q.map D.int)<=2|[]=>by simp[TZ,PyData.depthAll]|x::q=>by have:=yX q;show PyData.depthAll (ke (.int x)::TZ (q.map D.int))<=2;simp only[PyData.depthAll,ke,PyData.depth];lia
def JT(x:Rat):(ke<|bZ x).canLay0=true/\(ke<|bZ x).depth<=5:=by constructor<;>simp[bZ,aU,ke,TZ,PyData.canLay0,PyData.canLayAll0,PyData.depth,PyData.depthAll]
def Hd(q:aG)(a b:Rat):SeqAt.shaped (ke<|.lst [.tup [ba q,bZ a,bZ b]])=true:=by
 have h1:=JS q;have h2:=yX q;obtain⟨a1,a2⟩:=JT a;obtain⟨c1,c2⟩:=JT b;show(PyData.canLay0 (.list [.tuple [ke<|ba q,ke<|bZ a,ke<|bZ b]])&&decide (PyData.depth (.list [.tuple [.list<|TZ<|q.map D.int,ke<|bZ a,ke<|bZ b]])<=64))=true;rw[br];refine⟨?_,av ?_⟩;·simp only[PyData.canLay0,PyData.canLayAll0];rw[h1,a1,c1];rfl
 ·simp only[PyData.depth,PyData.depthAll];lia
def Po(n:Nat):(List.replicate n true).all id=true:=by induction n<;>simp_all[dk]
def OC{α:Type}(xs:List α):xs.map (λ_=>D.bl true)=(List.replicate xs.length true).map D.bl:=by induction xs<;>simp_all[dk]
section
variable {X:Cx}
def Fz(h:c7 P w K mg base k tH oo X)(TJ:mg "isinstance"=none)(Vd:mg "int"=none)(Vt:mg "bool"=none):Go X tH oo ph:=by rintro ds r ⟨i,rfl,rfl⟩;have t:=h.at';haveI:=h.T6;have b1:=h.bt TJ;have b2:=h.bt Vd;have b3:=h.bt Vt;exact aA<|aW<|Tz.eq (mY (Kk t b1 b2 (aa t 0) rfl) λ_=>GI<|Mi t b1 b3 (aa t 0) rfl) rfl
def KA(h:c7 P w K mg base k zc uk X)(TJ:mg "isinstance"=none)(TQ:mg "tuple"=none)(V3:mg "all"=none)(c1:Callee X "is_whole" ph):Go X zc uk zf:=by
 rintro ds r ⟨f,rfl,r9,rfl⟩;have t:=h.at';haveI:=h.T6;have hl:=r9.len;have hf:=r9.ok;have b1:=h.bt TJ;have b2:=h.bt TQ;have b3:=h.bt V3;refine ao (c9 (TC.eq (me (TC.eq (fj<|dC<|qz t b1 b2 (aa t 0) rfl) rfl) λ_=>TC.eq (fj<|dC<|Km t b3<|T1.toQ<|T1.eq (fG t ["thing","number"] (Ah<|by decide) (oK<|aa t 0) (by rw[ae,zq];lia) λX' cx=>TU.all (λd=>[.val<|aU f,.val d]) (λ_=>.bl true) (f.map D.int) _ (λd hd=>bE cx.at' 1) (λd hd e he=>bE cx.at' 1) λd hd=>by obtain⟨i,_,rfl⟩:=dq.mp hd;exact au cx.at' (cx.callee c1) (ac (aa cx.at' 1 rfl) ai) ⟨i,rfl,rfl⟩)<|OC _)<|by rw[Po]<;>rfl) rfl) bM) ?_
 have:=bG hf r9.ne;exact aA<|aW<|Ff (u9 t (Tz.p<|aa t 0) (Tz.p<|bw ai) (dH _) (dH [])<|by have:=mZ f [];rw[ah r9.ne]at this;exact this)<|u8<|Tz.eq (Kj t (aF (Tz.qt<|aa t 0) (dy af)<|eB r9.ne) af)<|by rw[ah this];rfl
def An(h:c7 P w K mg base k ni jY X)(TJ:mg "isinstance"=none)(TQ:mg "tuple"=none)(TH:mg "len"=none)(cW:Callee X "is_whole" ph)(cG:Callee X "common_divisor" eM):Go X ni jY j6:=by
 intro ds d hc;have t:=h.at';haveI:=h.T6;have b1:=h.bt TJ;have b2:=h.bt TQ;have b3:=h.bt TH;rcases hc with⟨q,rfl,rfl⟩ |⟨a,b,c,rfl,rfl⟩
 ·have hq:1<=(q.den:Int):=by have:=q.den_pos;lia
  have hg:((Nat.gcd q.num.natAbs (q.den:Int).natAbs:Nat):Int)=1:=by rw[aB,q.reduced];rfl
  show TB X [.val<|bZ q,.un,.un] _ _;refine ao (c9 (TC.eq (me (TC.eq (fj<|dC<|qz (d:=bZ q) t b1 b2 (aa t 0) rfl) rfl) λ_=>TC.eq (qA (bF t b3<|Tz.qt<|aa t 0) af) rfl) rfl) bM) ?_;refine ao (kj t (aa (d:=bZ q) t 0 rfl)<|xn t 1 2) ?_;exact aA<|aW<|oJ (au t cW (ac (aa t 1) ai) ⟨_,rfl,rfl⟩)<|oJ (au t cW (ac (aa t 2) ai) ⟨_,rfl,rfl⟩)<|oJ (Tz.eq (QX (aa t 2) af)<|by rw[av hq])<|u8<|Tz.eq (jd t (au t cG (ac (aa t 1)<|ac (aa t 2) ai) ⟨_,_,rfl,rfl⟩) af)<|by rw[av hg]
 ·show TB X [.val<|.tup [a,b,c],.un,.un] _ _;exact eF<|eV (TC.eq (me (TC.eq (fj<|dC<|qz (d:=.tup [a,b,c]) t b1 b2 (aa t 0) rfl) rfl) λ_=>TC.eq (qA (bF t b3<|Tz.qt<|aa t 0) af) rfl) rfl)<|aA<|aW sP
def sk(h:c7 P w K mg base k fR fg X)(cB:Callee X "below" rQ)(cV:Callee X "sign_of_value" gA):∀ds d,fS ds d->TB X (FT fR ds) (eo fg) (.rt d)\/(d=.TN/\∃TW,TB X (FT fR ds) (eo fg)<|.nx TW):=by rintro ds d ⟨f,lo,hi,rfl,ok,rfl⟩;have t:=h.at';haveI:=h.T6;refine .inr ⟨rfl,[.val<|aU f,.val<|bZ lo,.val<|bZ hi,.val<|bZ hi],?_⟩;show TB X [.val<|aU f,.val<|bZ lo,.val<|bZ hi,.un] _ _;refine ao (c9 (TC.eq (Mo (rJ<|aa (d:=bZ lo) t 1 rfl) (λ_=>rJ<|aa (d:=bZ hi) t 2 rfl) (w:=false) λ_ _=>TC.eq (fj<|dC<|au t cB (ac (aa t 1)<|ac (aa t 2) ai) ⟨lo,hi,60,rfl,ok.fa,ok.fb,by decide,rfl⟩)<|by rw[av ok.lt];rfl) rfl) bM) ?_;have XB:∀(e:Rat),fb 60 e->(v8 e.num (e.den:Int) f).sign≠0->∀{a b:Expr}{pos:Pos},TC X [.val<|aU f,.val<|bZ lo,.val<|bZ hi,.val<|bZ e] a (!ij (bZ e))->TC X [.val<|aU f,.val<|bZ lo,.val<|bZ hi,.val<|bZ e] b (decide<|(v8 e.num (e.den:Int) f).sign=0)->TC X [.val<|aU f,.val<|bZ lo,.val<|bZ hi,.val<|bZ e] (.BoolOp .And [a,b] pos) false:=λe _ ne{a b pos}ha hb=>TC.eq (lv ha λ_=>hb) (by rw[ah ne];rfl);exact aA<|jx t (oK<|bw<|ac (aa t 1)<|ac (aa t 2) ai)<|.cons (aZ t 3) (aA<|c9 (XB lo ok.fa ok.lo (rJ<|aa t 3)<|c6 (au t cV (ac (aa t 0)<|ac (aa (d:=bZ lo) t 3 rfl) ai) ⟨f,_,_,rfl,ok.r9.vv ok.fa,rfl⟩) af) bM)<|.cons (aZ t 3) (aA<|c9 (XB hi ok.fb ok.hi (rJ<|aa t 3)<|c6 (au t cV (ac (aa t 0)<|ac (aa (d:=bZ hi) t 3 rfl) ai) ⟨f,_,_,rfl,ok.r9.vv ok.fb,rfl⟩) af) bM) .nil
def tx(h:c7 P w K mg base k gw fv X)(cW:Callee X "refuse_wrong_ends" fS):∀ds d,iP ds d->TB X (FT gw ds) (eo fv) (.rt d)\/(d=.TN/\∃TW,TB X (FT gw ds) (eo fv)<|.nx TW):=by rintro ds d ⟨f,lo,hi,rfl,ok,rfl⟩;have t:=h.at';haveI:=h.T6;refine .inr ⟨rfl,[.val<|aU f,.val<|bZ lo,.val<|bZ hi],?_⟩;show TB X [.val<|aU f,.val<|bZ lo,.val<|bZ hi] _ _;exact ao (c9 (tq t (Tz.p<|aa t 0) (Tz.p (d:=aU [])<|bw ai) (dH _) (dH _)<|by rw[mZ,ah ok.r9.ne]) bM)<|aA<|Bu<|au t cW (ac (aa t 0)<|ac (aa t 1)<|ac (aa t 2) ai) ⟨f,lo,hi,rfl,ok,rfl⟩
def vf(h:c7 P w K mg base k jG hZ X)(cC:Callee X "changes_within" jO)(cM:Callee X "moved_between" kN):Go X jG hZ jM:=by rintro ds d ⟨u,a,b,rfl,ne,len,bb,fa,fb,one,rfl⟩;have t:=h.at';haveI:=h.T6;have up:=az.mpr ne;have lq:=LU a b u;show TB X [.val<|aU u,.val<|bZ a,.val<|bZ b,.un,.un,.un,.un,.un,.un,.un,.un,.un,.un] _ _;refine ao (bC t 3 (d:=bZ a)<|iL (TC.eq (hR<|aa (d:=bZ a) t 1 rfl) rfl)<|aa t 1) ?_;refine ao (bC t 4 (d:=bZ b)<|iL (TC.eq (hR<|aa (d:=bZ b) t 2 rfl) rfl)<|aa t 2) ?_;refine ao (Gc t 5 6 (us:=[]) (ws:=[]++[.tup [ba<|Nq a b u,bZ a,bZ b]]) (fk ai) (fk<|ac (bw<|ac (au t cM (ac (aa t 0)<|ac (aa t 3)<|ac (aa t 4) ai) ⟨u,a,b,rfl,ne,len,bb,fa,fb,rfl⟩)<|ac (aa t 3)<|ac (aa t 4) ai) ai)<|by decide) ?_;generalize Nq a b u=q at*;refine ao (TW:=[.val<|aU u,.val<|bZ a,.val<|bZ b,.val<|bZ a,.val<|bZ b,.own [.tup [bZ a,bZ b]],.own [],.val<|ba q,.val<|.int 1,.un,.un,.un,.un]) (gs t ⟨1,.step (je t (UA.p<|eE t 6 rfl) (Tz.p<|T1.Ux<|fk ai) (Hd q a b) (fO []) rfl) ?_<|.stop<|je t (UA.p<|eE t 6 rfl) (Tz.p<|T1.Ux<|fk ai) (fO []) (fO []) rfl⟩)<|fB 5 rfl<|aA<|aW<|aa t 5;refine ao (Jg t 6 rfl<|jf (ds:=[ba q,bZ a,bZ b]) t<|bq (aZ t 7)<|bq (aZ t 3)<|bq (aZ t 4) gJ) ?_;refine ao (bC t 8 (d:=.int 1)<|Tz.eq (au t cC (ac (aa t 7) ai) ⟨q,rfl,by lia,by lia,rfl⟩)<|by rw[one];rfl) ?_;exact aA<|eV (TC.eq (c6 (aa t 8) af) rfl)<|aA<|ul (xs:=[]) t 5 rfl (bw<|ac (aa t 3)<|ac (aa t 4) ai)<|by decide
def wB(h:c7 P w K mg base k kK iG X)(TH:mg "len"=none)(cU:Callee X "refuse_uncounted" iP)(cP:Callee X "pieces_between" jM)(cB:Callee X "bare_row" pq):Go X kK iG kO:=by rintro ds d ⟨n,p,f,ok,e,rfl,rfl⟩;have t:=h.at';haveI:=h.T6;have r:=w6 ok e;have wf:=vY ok;obtain⟨e1,e2⟩:=Pa ok;have b1:=h.bt TH;show TB X [.val<|aU f,.val<|bZ p.lo,.val<|bZ p.hi] _ _;refine ao (Bu<|au t cU (ac (aa t 0)<|ac (aa t 1)<|ac (aa t 2) ai) ⟨f,p.lo,p.hi,rfl,⟨r.r9,e1.f,e2.f,r.lt,r.lo,r.hi⟩,rfl⟩) ?_;exact aA<|aW<|Tz.eq (bF t b1<|Tz.ql (xs:=[.tup [bZ p.lo,bZ p.hi]])<|au t cP (ac (au t cB (ac (aa t 0) ai) ⟨f,p.w.row,rfl,r.r9,r.bare,rfl⟩)<|ac (aa t 1)<|ac (aa t 2) ai) ⟨p.w.row,p.lo,p.hi,rfl,wf.o.1,by have:=wf.o.2.1;lia,wf.b,e1.f,e2.f,r.one,rfl⟩) rfl
def H9(h:c7 P w K mg base k vw rh X)(TJ:mg "isinstance"=none)(TQ:mg "tuple"=none)(TH:mg "len"=none)(cR:Callee X "is_row" zf)(cF:Callee X "is_fraction" j6)(cC:Callee X "count_between" kO):Go X vw rh vE:=by
 rintro ds d ⟨n,p,f,ok,e,rfl,rfl⟩;have t:=h.at';haveI:=h.T6;have r:=w6 ok e;have r2:=r.two;have ed:p.D=.tup [aU f,bZ p.lo,bZ p.hi]:=by unfold Uk.D;rw[e]
 rw[ed];have b1:=h.bt TJ;have b2:=h.bt TQ;have b3:=h.bt TH;show TB X [.val<|.tup [aU f,bZ p.lo,bZ p.hi],.un,.un,.un] _ _;refine ao (c9 (TC.eq (me (TC.eq (fj<|dC<|qz t b1 b2 (aa t 0) rfl) rfl) λ_=>TC.eq (qA (bF t b3<|Tz.qt<|aa t 0) af) rfl) rfl) bM) ?_;refine ao (kj t (aa t 0)<|jf (ds:=[aU f,bZ p.lo,bZ p.hi]) t<|bq (aZ t 1)<|bq (aZ t 2)<|bq (aZ t 3) gJ) ?_;refine ao (c9 (Uq.toT<|jD (TC.eq (fj<|dC<|au t cR (ac (aa t 1) ai) ⟨f,rfl,r.r9,rfl⟩) rfl)<|jD (TC.eq (iC (bF t b3<|Tz.qt<|aa t 1) af)<|by rw[ae];exact ah<|by lia)<|jD (TC.eq (fj<|dC<|au t cF (ac (aa t 2) ai)<|.inl ⟨p.lo,rfl,rfl⟩) rfl)<|oG<|TC.eq (fj<|dC<|au t cF (ac (aa t 3) ai)<|.inl ⟨p.hi,rfl,rfl⟩) rfl) bM) ?_;exact aA<|Qk t<|aA<|aW<|Tz.eq (jd t (au t cC (ac (aa t 1)<|ac (aa t 2)<|ac (aa t 3) ai) ⟨n,p,f,ok,e,rfl,rfl⟩) af) rfl
def FA(h:c7 P w K mg base k tI oq X)(cF:Callee X "is_fraction" j6)(cR:Callee X "is_root" vE):Go X tI oq pi:=by
 rintro ds d ⟨n,p,ok,rfl,rfl⟩;have t:=h.at';show TB X [.val p.D] _ _;cases e:p.f with
 |none=>
  have ed:p.D=bZ p.lo:=by unfold Uk.D;rw[e]
  rw[ed];exact aA<|aW<|Kg<|au t cF (ac (aa t 0) ai)<|.inl ⟨p.lo,rfl,rfl⟩
 |some f=>
  have ed:p.D=.tup [aU f,bZ p.lo,bZ p.hi]:=by unfold Uk.D;rw[e]
  exact aA<|aW<|Ff (au t cF (ac (aa t 0) ai)<|.inr ⟨_,_,_,by rw[ed],rfl⟩)<|u8<|au t cR (ac (aa t 0) ai) ⟨n,p,f,ok,e,rfl,rfl⟩
def uG(h:c7 P w K mg base k gK fC X)(cF:Callee X "is_place" pi):∀ds d,jp ds d->TB X (FT gK ds) (eo fC) (.rt d)\/(d=.TN/\∃TW,TB X (FT gK ds) (eo fC)<|.nx TW):=by rintro ds d ⟨n,p,ok,rfl,rfl⟩;have t:=h.at';refine .inr ⟨rfl,[.val p.D],?_⟩;show TB X [.val p.D] _ _;exact aA<|c9 (TC.eq (fj<|dC<|au t cF (ac (aa t 0) ai) ⟨n,p,ok,rfl,rfl⟩) rfl) bM
def HY(h:c7 P w K mg base k vo q8 X)(TH:mg "len"=none)(cB:Callee X "bare_row" pq):Go X vo q8 rN:=by
 rintro ds d ⟨n,p,ok,rfl,rfl⟩;have t:=h.at';have b3:=h.bt TH;show TB X [.val p.D] _ _;cases e:p.f with
 |none=>
  have ed:p.D=bZ p.lo:=by unfold Uk.D;rw[e]
  rw[ed];have es:kD p.w.row p.lo p.hi=.tup [.tup [.int (-p.lo.num),.int (p.lo.den:Int)],bZ p.lo,bZ p.lo]:=by
   cases ok with
   |fr h=>rfl|wd=>cases e
   |rt=>cases e
  rw[es];exact eF<|eV (TC.eq (c6 (bF t b3<|Tz.qt<|aa (d:=bZ p.lo) t 0 rfl) af) rfl)<|aA<|aW<|bw<|ac (bw<|ac (dy<|aF (Tz.qt<|aa (d:=bZ p.lo) t 0 rfl) af<|UP p.lo)<|ac (aF (Tz.qt<|aa (d:=bZ p.lo) t 0 rfl) af<|tz p.lo) ai)<|ac (aa t 0)<|ac (aa t 0) ai
 |some f=>
  have r:=w6 ok e;have ed:p.D=.tup [aU f,bZ p.lo,bZ p.hi]:=by unfold Uk.D;rw[e]
  rw[ed];refine ao (c9 (TC.eq (c6 (bF t b3<|Tz.qt<|aa t 0) af) rfl) bM) ?_;exact aA<|aW<|bw<|ac (d:=aU p.w.row) (au t cB (ac (aF (Tz.qt<|aa t 0) af FH) ai) ⟨f,p.w.row,rfl,r.r9,r.bare,rfl⟩)<|ac (aF (Tz.qt<|aa t 0) af qF)<|ac (aF (Tz.qt<|aa t 0) af vk) ai
def Cp(h:c7 P w K mg base k oR kZ X)(cO:Callee X "order_of_spans" ie)(cS:Callee X "span_of" rN):Go X oR kZ jq:=by rintro ds d ⟨n,n',p,p',ok,Xn,rfl,rfl⟩;have t:=h.at';obtain⟨s,s',op⟩:=Ni ok Xn;show TB X [.val p.D,.val p'.D] _ _;exact aA<|aW<|au t cO (ac (au t cS (ac (aa t 0) ai) ⟨n,p,ok,rfl,rfl⟩)<|ac (au t cS (ac (aa t 1) ai) ⟨n',p',Xn,rfl,rfl⟩) ai) ⟨s,s',_,_,_,_,_,rfl,op,rfl⟩
def Fw(h:c7 P w K mg base k tE oh X)(cR:Callee X "refuse_no_place" jp)(cO:Callee X "order_of_spans" ie)(cS:Callee X "span_of" rN):Go X tE oh oZ:=by rintro ds d ⟨n,n',p,p',ok,Xn,rfl,rfl⟩;have t:=h.at';obtain⟨s,s',op⟩:=Ni ok Xn;show TB X [.val p.D,.val p'.D] _ _;refine ao (Bu<|au t cR (ac (aa t 0) ai) ⟨n,p,ok,rfl,rfl⟩) ?_;refine ao (Bu<|au t cR (ac (aa t 1) ai) ⟨n',p',Xn,rfl,rfl⟩) ?_;exact aA<|aW<|au t cO (ac (au t cS (ac (aa t 0) ai) ⟨n,p,ok,rfl,rfl⟩)<|ac (au t cS (ac (aa t 1) ai) ⟨n',p',Xn,rfl,rfl⟩) ai) ⟨s,s',_,_,_,_,_,rfl,op,rfl⟩
end
def PN:Nat->D->Prop|0,d=>∃i,d=.int i|n+1,d=>(∃i,d=.int i)\/∃xs,d=.tup xs/\xs.length<1000/\∀x∈xs,PN n x
def ku:Nat->bX->D->Prop|0,_,_=>False|n+1,ds,r=>∃d,ds=[d]/\PN n d/\r=d
def sN:∀n ds d,ku n ds d->ds.length=1|0,_,_,h=>h.elim|n+1,_,_,⟨_,h,_⟩=>by rw[h];rfl
section
variable {X:Cx}
def Ec(h:c7 P w K mg base k qG mL X)(TJ:mg "isinstance"=none)(TQ:mg "tuple"=none)(n:Nat)(c1:Callee X "told_anew" (ku n)):Go X qG mL (ku<|n+1):=by
 rintro ds d ⟨_,rfl,hd,rfl⟩;have t:=h.at';haveI:=h.T6;have b1:=h.bt TJ;have b2:=h.bt TQ;show TB X [.val d] _ _;have hi:(∃i,d=.int i)\/∃m xs,n=m+1/\d=.tup xs/\xs.length<1000/\∀x∈xs,PN m x:=by
  cases n with
  |zero=>exact .inl hd
  |succ m=>
        rcases hd with q |⟨xs,q⟩;·exact .inl q
        ·exact .inr ⟨m,xs,rfl,q⟩
 rcases hi with⟨i,rfl⟩ |⟨m,xs,rfl,rfl,hl,hx⟩;·exact aA<|aW<|iL (dC<|oH (d:=.int i) t b1 b2 (aa t 0) rfl)<|aa t 0
 ·refine aA<|aW<|kF (dC<|oH (d:=.tup xs) t b1 b2 (aa t 0) rfl)<|Tz.eq (ma t b2<|T1.toQ (fG t ["thing","part"] (Ah<|by decide) (oK<|aa t 0) (by rw[zq];lia) λX' cx=>TU.all (λd=>[.val<|.tup xs,.val d]) (λd=>d) xs _ (λd hd=>bE cx.at' 1) (λd hd e he=>bE cx.at' 1) λd hd=>au cx.at' (cx.callee c1) (ac (aa cx.at' 1 rfl) ai) ⟨d,rfl,hx d hd,rfl⟩))<|by rw[List.map_id']
end
abbrev OP:=Option<|Nu×Uk
def xh:OP->D|none=>.TN|some e=>e.2.D
def KW(e:OP):Prop:=∀n p,e=some (n,p)->jh n p
structure Pt where
 lo:OP
 li:Bool
 hi:OP
 hj:Bool
def xV(x:Pt):D:=.tup [xh x.lo,.bl x.li,xh x.hi,.bl x.hj]
def KH(x:Pt):Prop:=KW x.lo/\KW x.hi
def gM(xs:List Pt):D:=.tup<|xs.map xV
def Ie(xs:List Pt):Prop:=xs.length<1000/\∀x∈xs,KH x
def LG(e:OP)(n:Nu):Int:=match e with |none=>-1 |some m=>tu (dU m.1)<|dU n
def LH(e:OP)(n:Nu):Int:=match e with |none=>-1 |some m=>tu (dU n)<|dU m.1
def KT(o:Int)(b:Bool):Bool:=decide (o=-1)||(decide (o=0)&&b)
def M9(n:Nu)(x:Pt):Bool:=KT (LG x.lo n) x.li&&KT (LH x.hi n) x.hj
def Db:OP->OP->Bool
 |none,none=>true|some m,some n=>decide<|tu (dU m.1) (dU n.1)=0
 |_,_=>false
def vW(x y:Pt):Bool:=decide (x.li=y.li)&&(decide (x.hj=y.hj)&&(Db x.lo y.lo&&Db x.hi y.hi))
def dp:Pt:=⟨none,false,none,false⟩
def Gb(xs ys:List Pt):Bool:=decide (xs.length=ys.length)&&(List.range xs.length).all λk=>vW (xs.getD k dp)<|ys.getD k dp
def HL(e:OP)(b:Bool):D:=match e with |none=>.tup [.str "endless"] |some m=>.tup [.str (if b then "at"else "short"),m.2.D]
def Fc:List Pt->D|[]=>.tup [.str "none"]|x::_=>HL x.lo x.li
def OV(xs:List Pt):D:=match xs.getLast? with |none=>.tup [.str "none"] |some x=>HL x.hi x.hj
def PX{n:Nu}{p:Uk}(h:jh n p):PN 2 p.D:=by
 have r:∀{f:aG},f.length<1000->PN 1 (aU f):=λ{f}hf=>.inr ⟨_,rfl,by rw[ae];exact hf,λy hy=>by obtain⟨i,_,rfl⟩:=dq.mp hy;exact⟨i,rfl⟩⟩;have q:∀x:Rat,PN 1 (bZ x):=λx=>r (by show 2<1000;decide);cases e:p.f with
 |none=>
  have ed:p.D=bZ p.lo:=by unfold Uk.D;rw[e]
  rw[ed];exact .inr ⟨_,rfl,by show 2<1000;decide,λy hy=>by obtain⟨i,_,rfl⟩:=dq.mp hy;exact .inl ⟨i,rfl⟩⟩
 |some f=>
  have ed:p.D=.tup [aU f,bZ p.lo,bZ p.hi]:=by unfold Uk.D;rw[e]
  rw[ed];refine .inr ⟨_,rfl,by show 3<1000;decide,λy hy=>?_⟩;simp only[aO,iz,nA]at hy;rcases hy with rfl |rfl |rfl;·exact r<|by have:=(w6 h e).r9.len;lia
  ·exact q _
  ·exact q _
def vF(ds:bX)(d:D):Prop:=∃(e:OP)(b:Bool)(n:Nu)(p:Uk),ds=[xh e,.bl b,p.D]/\KW e/\jh n p/\d=.bl (KT (LG e n) b)
def DJ:∀ds d,vF ds d->ds.length=3:=by rintro _ _ ⟨_,_,_,_,rfl,_⟩;rfl
def tS(ds:bX)(d:D):Prop:=∃(e:OP)(b:Bool)(n:Nu)(p:Uk),ds=[xh e,.bl b,p.D]/\KW e/\jh n p/\d=.bl (KT (LH e n) b)
def BW:∀ds d,tS ds d->ds.length=3:=by rintro _ _ ⟨_,_,_,_,rfl,_⟩;rfl
def qS(ds:bX)(d:D):Prop:=∃(xs:List Pt)(n:Nu)(p:Uk),ds=[gM xs,p.D]/\Ie xs/\jh n p/\d=.bl (xs.any<|M9 n)
def z9:∀ds d,qS ds d->ds.length=2:=by rintro _ _ ⟨_,_,_,rfl,_⟩;rfl
def tQ(ds:bX)(d:D):Prop:=∃e e':OP,ds=[xh e,xh e']/\KW e/\KW e'/\d=.bl (Db e e')
def BQ:∀ds d,tQ ds d->ds.length=2:=by rintro _ _ ⟨_,_,rfl,_⟩;rfl
def qR(ds:bX)(d:D):Prop:=∃x y:Pt,ds=[xV x,xV y]/\KH x/\KH y/\d=.bl (vW x y)
def z7:∀ds d,qR ds d->ds.length=2:=by rintro _ _ ⟨_,_,rfl,_⟩;rfl
def j5(ds:bX)(d:D):Prop:=∃xs ys:List Pt,ds=[gM xs,gM ys]/\Ie xs/\Ie ys/\d=.bl (Gb xs ys)
def wk:∀ds d,j5 ds d->ds.length=2:=by rintro _ _ ⟨_,_,rfl,_⟩;rfl
def pk(ds:bX)(d:D):Prop:=∃(e:OP)(b:Bool),ds=[xh e,.bl b]/\KW e/\d=HL e b
def BY:∀ds d,pk ds d->ds.length=2:=by rintro _ _ ⟨_,_,rfl,_⟩;rfl
def pe(ds:bX)(d:D):Prop:=∃xs:List Pt,ds=[gM xs]/\Ie xs/\d=Fc xs
def BS:∀ds d,pe ds d->ds.length=1:=by rintro _ _ ⟨_,rfl,_⟩;rfl
def j7(ds:bX)(d:D):Prop:=∃xs:List Pt,ds=[gM xs]/\Ie xs/\d=OV xs
def wp:∀ds d,j7 ds d->ds.length=1:=by rintro _ _ ⟨_,rfl,_⟩;rfl
def Ob(p:Uk):∃xs,p.D=.tup xs:=by unfold Uk.D;split<;>exact⟨_,rfl⟩
def sV(e:OP):ij (xh e)=e.isNone:=by cases e with|none=>rfl|some m=>obtain⟨xs,h⟩:=Ob m.2;show ij m.2.D=false;rw[h];rfl
def Mm{X:Cx}(ha:Tz X U a (.bl u))(hb:Tz X U b (.bl v))(hc:Tz X U c (.bl w))(he:Tz X U e (.bl z)):Tz X U (.BoolOp .And [a,b,c,e] pos) (.bl<|u&&(v&&(w&&z))):=by cases u with|false=>exact xl ha|true=>exact show Tz X U _ (.bl<|v&&(w&&z))from oJ ha<|Mn hb (λ_=>hc) λ_ _=>he
section
variable {X:Cx}
def Ia(h:c7 P w K mg base k vz rj X)(cO:Callee X "order_told" jq):Go X vz rj vF:=by rintro ds d ⟨e,b,n,p,rfl,he,hp,rfl⟩;have t:=h.at';haveI:=h.T6;show TB X [.val<|xh e,.val<|.bl b,.val p.D,.un] _ _;refine ao (bC t 3 (d:=.int<|LG e n) ?_)<|aA<|aW (Kh (jd t (aa t 3)<|dy af) λ_=>mY (jd t (aa t 3) af) λ_=>aa t 1);cases e with|none=>exact kF (TC.eq (hR<|aa t 0) rfl) (dy af)|some m=>exact iL (TC.eq (hR<|aa t 0)<|sV<|some m)<|au t cO (ac (aa t 0)<|ac (aa t 2) ai) ⟨m.1,n,m.2,p,he _ _ rfl,hp,rfl,rfl⟩
def FB(h:c7 P w K mg base k tJ ot X)(cO:Callee X "order_told" jq):Go X tJ ot tS:=by rintro ds d ⟨e,b,n,p,rfl,he,hp,rfl⟩;have t:=h.at';haveI:=h.T6;show TB X [.val<|xh e,.val<|.bl b,.val p.D,.un] _ _;refine ao (bC t 3 (d:=.int<|LH e n) ?_)<|aA<|aW (Kh (jd t (aa t 3)<|dy af) λ_=>mY (jd t (aa t 3) af) λ_=>aa t 1);cases e with|none=>exact kF (TC.eq (hR<|aa t 0) rfl) (dy af)|some m=>exact iL (TC.eq (hR<|aa t 0)<|sV<|some m)<|au t cO (ac (aa t 2)<|ac (aa t 0) ai) ⟨n,m.1,p,m.2,hp,he _ _ rfl,rfl,rfl⟩
def Eh(h:c7 P w K mg base k qL mQ X)(V2:mg "any"=none)(c1:Callee X "is_past" vF)(c2:Callee X "is_ahead" tS):Go X qL mQ qS:=by rintro ds d ⟨xs,n,p,rfl,hx,hp,rfl⟩;have t:=h.at';have b1:=h.bt V2;show TB X [.val<|gM xs,.val p.D] _ _;refine aA<|aW<|Tz.eq (O6 (bs:=xs.map<|M9 n) t b1<|T1.toQ<|T1.eq (fG (rs:=xs.map λx=>D.bl<|M9 n x) t ["region","place","low","low_in","high","high_in"] (Ah<|by decide) (oK<|aa t 0) (by rw[ae];exact fV hx.1) λX' cx=>?_)<|by rw[cX];rfl) (by rw[List.any_map];rfl);have t':=cx.at';exact TU.gen xV (λx=>D.bl<|M9 n x) (λx=>[.val<|gM xs,.val p.D,.val<|xh x.lo,.val<|.bl x.li,.val<|xh x.hi,.val<|.bl x.hj]) xs _ (λx _=>DY t' 2 3 4 5) (λx _ y _=>DY t' 2 3 4 5) λx hxs=>mY (au t' (cx.callee c1) (ac (aa t' 2 rfl)<|ac (aa t' 3 rfl)<|ac (aa t' 1 rfl) ai) ⟨x.lo,x.li,n,p,rfl,(hx.2 x hxs).1,hp,rfl⟩) λ_=>au t' (cx.callee c2) (ac (aa t' 4 rfl)<|ac (aa t' 5 rfl)<|ac (aa t' 1 rfl) ai) ⟨x.hi,x.hj,n,p,rfl,(hx.2 x hxs).2,hp,rfl⟩
def Fv(h:c7 P w K mg base k tD og X)(cO:Callee X "order_told" jq):Go X tD og tQ:=by
 rintro ds d ⟨e,e',rfl,h1,h2,rfl⟩;have t:=h.at';haveI:=h.T6;show TB X [.val<|xh e,.val<|xh e'] _ _;refine NA (me (TC.eq (hR<|aa t 0)<|sV e) λ_=>TC.eq (hR<|aa t 1)<|sV e') (λz=>aA<|aW<|Tz.eq (mY (Tz.eq (Kl<|aa t 0)<|bi D.bl<|sV e) λ_=>Tz.eq (Kl<|aa t 1)<|bi D.bl<|sV e') ?_) λz=>?_;·cases e<;>cases e'<;>first |rfl |cases z
 ·cases e with
  |none=>cases z
  |some m=>
   cases e' with
   |none=>cases z
   |some m'=>exact aA<|aW<|jd t (au t cO (ac (aa t 0)<|ac (aa t 1) ai) ⟨m.1,m'.1,m.2,m'.2,h1 _ _ rfl,h2 _ _ rfl,rfl,rfl⟩) af
def Ef(h:c7 P w K mg base k qJ mO X)(cO:Callee X "same_end" tQ):Go X qJ mO qR:=by rintro ds d ⟨x,y,rfl,h1,h2,rfl⟩;have t:=h.at';show TB X [.val<|xV x,.val<|xV y] _ _;have g:∀{i:Int}{z z':D}{p1 p2 p3 p4 p5:Pos}{j j2:Nat},True:=trivial;exact aA<|aW<|Mm (u9 t (Tz.p (d:=.bl x.li)<|aF (Tz.qt<|aa t 0) af) (Tz.p (d:=.bl y.li)<|aF (Tz.qt<|aa t 1) af) (eD _) (eD _)<|Kp _ _) (u9 t (Tz.p (d:=.bl x.hj)<|aF (Tz.qt<|aa t 0) af) (Tz.p (d:=.bl y.hj)<|aF (Tz.qt<|aa t 1) af) (eD _) (eD _)<|Kp _ _) (au t cO (ac (aF (Tz.qt<|aa t 0) af)<|ac (aF (Tz.qt<|aa t 1) af) ai) ⟨x.lo,y.lo,rfl,h1.1,h2.1,rfl⟩)<|au t cO (ac (aF (Tz.qt<|aa t 0) af)<|ac (aF (Tz.qt<|aa t 1) af) ai) ⟨x.hi,y.hi,rfl,h1.2,h2.2,rfl⟩
def Jk{i:Nat}{xs:List Pt}(h:i<xs.length):(xs.map xV)[i]?=some (xV<|xs.getD i dp)/\xs.getD i dp∈xs:=by rw[aH,ar h,ag,ar h];exact⟨rfl,dX h⟩
def Ak(h:c7 P w K mg base k m9 jV X)(V3:mg "all"=none)(TH:mg "len"=none)(TK:mg "range"=none)(cP:Callee X "same_part" qR):Go X m9 jV j5:=by rintro ds d ⟨xs,ys,rfl,h1,h2,rfl⟩;have t:=h.at';have b1:=h.bt TH;have b2:=h.bt V3;have b3:=h.bt TK;show TB X [.val<|gM xs,.val<|gM ys] _ _;have l1:=h1.1;refine aA<|aW<|Tz.eq (mY (u:=decide<|xs.length=ys.length) (v:=(List.range xs.length).all λk=>vW (xs.getD k dp)<|ys.getD k dp) (Tz.eq (jd t (bF t b1<|Tz.qt<|aa t 0)<|bF t b1<|Tz.qt<|aa t 1)<|by rw[ae,ae];exact bi D.bl<|cw.mpr<|by lia) λz=>?_) rfl;have hl:=bB z;refine Tz.eq (Km (bs:=(List.range xs.length).map λk=>vW (xs.getD k dp)<|ys.getD k dp) t b2<|T1.toQ<|T1.eq (fG (rs:=(List.range xs.length).map λk=>D.bl<|vW (xs.getD k dp)<|ys.getD k dp) t ["one","other","k"] (Ah<|by decide) (UG.eq (fZ t b3 (bF t b1<|Tz.qt<|aa t 0) (by rw[ae];lia)<|by rw[ae];lia) (show _=dO 0 xs.length by rw[ae,fK])) (by simp[dO];exact fV l1) λX' cx=>?_)<|by rw[cX];rfl) (by rw[List.all_map];rfl);have t':=cx.at';exact TU.gen (λ(i:Nat)=>D.int<|0+(i:Int)) _ (λ(i:Nat)=>[.val<|gM xs,.val<|gM ys,.val<|.int<|0+(i:Int)]) _ _ (λx hx=>bE t' 2) (λx hx y hy=>bE t' 2) λi hi=>by have VF:=cc.mp hi;obtain⟨g1,g2⟩:=Jk VF;obtain⟨g3,g4⟩:=Jk (xs:=ys) (i:=i) (by lia);exact au t' (cx.callee cP) (ac (Ki i (aa t' 0 rfl) (aa t' 2 rfl) (iQ _) g1)<|ac (Ki i (aa t' 1 rfl) (aa t' 2 rfl) (iQ _) g3) ai) ⟨_,_,rfl,h1.2 _ g2,h2.2 _ g4,rfl⟩
def FE(h:c7 P w K mg base k tL ox X)(cT:Callee X "told_anew" (ku 3)):Go X tL ox pk:=by rintro ds d ⟨e,b,rfl,he,rfl⟩;have t:=h.at';show TB X [.val<|xh e,.val<|.bl b] _ _;cases e with|none=>exact eF (eV (TC.eq (hR<|aa t 0) rfl)<|aA<|aW<|bw<|ac m6 ai)|some m=>refine ao (c9 (TC.eq (hR<|aa t 0)<|sV<|some m) bM)<|aA<|aW<|bw<|ac (d:=.str (if b then "at"else "short")) ?_<|ac (au t cT (ac (aa t 0) ai) ⟨_,rfl,PX<|he m.1 m.2 rfl,rfl⟩) ai;cases b with|true=>exact kF (dC<|aa t 1) m6|false=>exact iL (dC<|aa t 1) m6
def Fy(h:c7 P w K mg base k tG om X)(TH:mg "len"=none)(cT:Callee X "end_told" pk):Go X tG om pe:=by rintro ds d ⟨xs,rfl,hx,rfl⟩;have t:=h.at';haveI:=h.T6;have b1:=h.bt TH;show TB X [.val<|gM xs,.un,.un,.un,.un] _ _;cases xs with|nil=>exact eF (eV (TC.eq (c6 (bF t b1<|Tz.qt<|aa t 0) af) rfl)<|aA<|aW<|bw<|ac m6 ai)|cons x xs=>refine ao (c9 (TC.eq (c6 (bF t b1<|Tz.qt<|aa t 0) af)<|ah<|by rw[ae,dG];lia) bM) ?_;refine ao (kj t (aF (d:=xV x) (Tz.qt<|aa t 0) af<|e8 (xs:=(x::xs).map xV) 0 rfl)<|jf (ds:=[xh x.lo,.bl x.li,xh x.hi,.bl x.hj]) t<|bq (aZ t 1)<|bq (aZ t 2)<|bq (aZ t 3)<|bq (aZ t 4) gJ) ?_;exact aA<|aW<|au t cT (ac (aa t 1)<|ac (aa t 2) ai) ⟨x.lo,x.li,rfl,(hx.2 x<|by simp).1,rfl⟩
def Ao(h:c7 P w K mg base k nj jZ X)(TH:mg "len"=none)(cT:Callee X "end_told" pk):Go X nj jZ j7:=by
 rintro ds d ⟨xs,rfl,hx,rfl⟩;have t:=h.at';haveI:=h.T6;have b1:=h.bt TH;show TB X [.val<|gM xs,.un,.un,.un,.un] _ _;rcases bR xs with rfl |⟨ys,x,rfl⟩;·exact eF<|eV (TC.eq (c6 (bF t b1<|Tz.qt<|aa t 0) af) rfl)<|aA<|aW<|bw<|ac m6 ai
 ·rw[dj]at hx ⊢;have eg:OV (ys++[x])=HL x.hi x.hj:=by unfold OV;rw[Tk];rfl
  rw[eg];refine ao (c9 (TC.eq (c6 (bF t b1<|Tz.qt<|aa t 0) af)<|ah<|by rw[ae,aJ,cj];lia) bM) ?_;refine ao (kj t (aF (d:=xV x) (Tz.qt<|aa t 0) (dy af)<|by rw[bO];exact ME<|.inl rfl)<|jf (ds:=[xh x.lo,.bl x.li,xh x.hi,.bl x.hj]) t<|bq (aZ t 1)<|bq (aZ t 2)<|bq (aZ t 3)<|bq (aZ t 4) gJ) ?_;exact aA<|aW<|au t cT (ac (aa t 3)<|ac (aa t 4) ai) ⟨x.hi,x.hj,rfl,(hx.2 x<|by simp).2,rfl⟩
end
def ic:Nu->D|.q r=>.tup [.int r.num.sign,bZ<|r*r,bZ r]|.s d e=>.tup [.int e,.tup [.int d,.int 1],.TN]
def wD:Nu->Prop|.q r=>KS r=true|.s d e=>d∈dL/\(e=1\/e=-1)
def zz(x:Int):Nu:=if x%2=0 then .q (Rat.divInt (x / 2%31-15)<|1+x / 62%4)else .s (dL.getD (x / 2%12).toNat 0)<|1-2*(x / 24%2)
def JJ(x:Int):wD (zz x):=by
 unfold zz;split;·have h:=Qq;rw[cz]at h;have h:=h (x / 2%31).toNat<|cc.mpr (by lia);rw[cz]at h;have h:=h (x / 62%4).toNat<|cc.mpr (by lia);rw[kR<|by lia,kR<|by lia]at h;exact h
 ·refine⟨?_,by lia⟩;rw[ag,ar<|by show _<12;lia];exact dX _
def Oc:Nu->Int->Uk
 |.q r,x=>if x%3=0 then⟨none,.l r.num (r.den:Int),r,r⟩else⟨some<|K6 r<|x%3,.l r.num (r.den:Int),r-((1+x / 3%5:Int):Rat),r+1 / 2⟩
 |.s d e,x=>⟨some<|Hf d<|x%4,.f d<|kS<|x%4,yd d e,yw d e⟩
def Jy{n:Nu}(h:wD n)(x:Int):jh n (Oc n x):=by
 cases n with
 |q r=>
  show jh (.q r) (if x%3=0 then _ else _);split;·exact .fr h
  ·refine .wd h ?_ (by lia);have:x / 3%5=0\/x / 3%5=1\/x / 3%5=2\/x / 3%5=3\/x / 3%5=4:=by lia
   rcases this with e |e |e |e |e<;>rw[e]<;>decide
 |s d e=>
  refine .rt h.1 h.2 ?_;have:x%4=0\/x%4=1\/x%4=2\/x%4=3:=by lia
  rcases this with e |e |e |e<;>rw[e]<;>decide
def QR(z:Int):bZ (z:Rat)=.tup [.int z,.int 1]:=by unfold bZ;rw[Rat.num_intCast,Rat.den_intCast];rfl
def qU(ds:bX)(d:D):Prop:=∃x:Int,ds=[.int x]/\d=.int x.sign
def Ab:∀ds d,qU ds d->ds.length=1:=by rintro _ _ ⟨a,rfl,_⟩;rfl
def kc(ds:bX)(d:D):Prop:=∃x:Int,ds=[.int x]/\d=ic (zz x)
def wt:∀ds d,kc ds d->ds.length=1:=by rintro _ _ ⟨a,rfl,_⟩;rfl
def gB(ds:bX)(d:D):Prop:=∃m n:Nu,ds=[ic m,ic n]/\wD m/\wD n/\d=.bl (decide<|dU m<dU n)
def wu:∀ds d,gB ds d->ds.length=2:=by rintro _ _ ⟨a,b,rfl,_⟩;rfl
def js(ds:bX)(d:D):Prop:=∃z:Int,ds=[.int z]/\z∈dL/\d=.int (pU z)
def se:∀ds d,js ds d->ds.length=1:=by rintro _ _ ⟨a,rfl,_⟩;rfl
def jr(ds:bX)(d:D):Prop:=∃z e x:Int,ds=[.int z,.int e,.int x]/\z∈dL/\(e=1\/e=-1)/\d=(Oc (.s z e) x).D
def r8:∀ds d,jr ds d->ds.length=3:=by rintro _ _ ⟨a,b,c,rfl,_⟩;rfl
def ig(ds:bX)(d:D):Prop:=∃(n:Nu)(x:Int),ds=[ic n,.int x]/\wD n/\d=(Oc n x).D
def yn:∀ds d,ig ds d->ds.length=2:=by rintro _ _ ⟨a,b,rfl,_⟩;rfl
def Ld:Nu->Int|.q r=>r.num.sign|.s _ e=>e
def xD:Nu->Rat|.q r=>r*r|.s d _=>(d:Rat)
def A2(n:Nu):dU n=(Ld n:Rat)*xD n:=by
 cases n with
 |q r=>
  show kq r=((r.num.sign:Int):Rat)*(r*r);rw[<-Bq];have e:sg (r.num:Rat)=sg r:=by rw[fX r,n4,iq (x:=((r.den:Int):Rat)),CK];have:((0:Int):Rat)<((r.den:Int):Rat):=a7.mpr (by have:=r.den_pos;lia);exact this
  rw[e];unfold kq;rcases pZ r with⟨h,e⟩ |⟨h,e⟩ |⟨h,e⟩;·rw[e,ap<|by grind,show((1:Int):Rat)=1 from rfl];grind
  ·rw[e,am h,show((-1:Int):Rat)=-1 from rfl];grind
  ·subst h;decide
 |s d e=>show((e*d:Int):Rat)=(e:Rat)*(d:Rat);rw[aI]
def Gu{n:Nu}(h:wD n):fb 200 (xD n)/\(Ld n).natAbs<2 ^ 200:=by
 cases n with
 |q r=>
  have f:=(ef (qf h).e1).f;refine⟨(O3 f f).up<|by decide,?_⟩;show r.num.sign.natAbs<_;have:r.num.sign.natAbs<=1:=by
   rcases gV r.num 0 with z |z |z;·rw[ce z];decide
   ·rw[z];decide
   ·rw[dF z];decide
  exact bz this<|by decide
 |s d e=>
  have:(dL.all λd=>decide<|d.natAbs<2 ^ 200)=true:=by decide
  have b:=bB<|cz.mp this d h.1;refine⟨⟨by show((d:Rat).num).natAbs<_;rw[Rat.num_intCast];exact b,by show(d:Rat).den<_;rw[Rat.den_intCast];decide⟩,?_⟩;show e.natAbs<_;rcases h.2 with rfl |rfl<;>decide
def JI(n:Nu):∃z,ic n=.tup [.int<|Ld n,bZ<|xD n,z]:=by cases n with|q r=>exact⟨_,rfl⟩|s d e=>exact⟨.TN,by show D.tup [.int e,.tup [.int d,.int 1],.TN]=.tup [.int e,bZ (d:Rat),.TN];rw[QR]⟩
def Fu(m n:Nu):(Ld m*(xD m).num*((xD n).den:Int)<Ld n*(xD n).num*((xD m).den:Int))↔dU m<dU n:=by
 have pd:∀q:Rat,(0:Rat)<((q.den:Int):Rat):=λq=>by have:((0:Int):Rat)<((q.den:Int):Rat):=a7.mpr (by have:=q.den_pos;lia);exact this
 have e1:((Ld m*(xD m).num*((xD n).den:Int):Int):Rat)=dU m*(((xD m).den:Int)*((xD n).den:Int)):=by rw[aI,aI,fX,A2];grind
 have e2:((Ld n*(xD n).num*((xD m).den:Int):Int):Rat)=dU n*(((xD m).den:Int)*((xD n).den:Int)):=by rw[aI,aI,fX,A2];grind
 have pp:=mz (pd<|xD m)<|pd<|xD n;rw[<-a7,e1,e2];exact⟨λz=>PB z<|dI pp,λz=>su z pp⟩
section
variable {X:Cx}
def Ej(h:c7 P w K mg base k qN mS X)(Vd:mg "int"=none):Go X qN mS qU:=by
 rintro ds d ⟨x,rfl,rfl⟩;have t:=h.at';have b1:=h.bt Vd;show TB X [.val<|.int x] _ _;refine aA<|aW<|Tz.eq (dD (B8 t b1<|GL (aa t 0) af)<|B8 t b1<|GJ (aa t 0) af) ?_;rcases gV x 0 with z |z |z;·rw[ce z,ah<|by lia,av z];rfl
 ·subst z;rfl
 ·rw[dF z,av z,ah<|by lia];rfl
def As(h:c7 P w K mg base k nr j4 X):Go X nr j4 gB:=by rintro ds d ⟨m,n,rfl,hm,hn,rfl⟩;have t:=h.at';obtain⟨z1,e1⟩:=JI m;obtain⟨z2,e2⟩:=JI n;obtain⟨f1,g1⟩:=Gu hm;obtain⟨f2,g2⟩:=Gu hn;have p1:=cA g1 f1.1;have p2:=cA g2 f2.1;rw[e1,e2];show TB X [.val<|.tup [.int<|Ld m,bZ<|xD m,z1],.val<|.tup [.int<|Ld n,bZ<|xD n,z2]] _ _;refine aA<|aW<|Tz.eq (GJ (bc (bc (aF (Tz.qt<|aa t 0) af FH) (aF (Tz.qt<|aF (Tz.qt<|aa t 0) af qF) af<|UP<|xD m)<|rX g1 f1.1 (by decide)<|by decide) (aF (Tz.qt<|aF (Tz.qt<|aa t 1) af qF) af<|tz<|xD n)<|rX p1 (by rw[aB];exact f2.2) (by decide)<|by decide)<|bc (bc (aF (Tz.qt<|aa t 1) af FH) (aF (Tz.qt<|aF (Tz.qt<|aa t 1) af qF) af<|UP<|xD n)<|rX g2 f2.1 (by decide)<|by decide) (aF (Tz.qt<|aF (Tz.qt<|aa t 0) af qF) af<|tz<|xD m)<|rX p2 (by rw[aB];exact f1.2) (by decide)<|by decide) ?_;exact bi D.bl<|cw.mpr<|Fu m n
def uI(h:c7 P w K mg base k jm gH X):Go X jm gH js:=by
 rintro ds d ⟨z,rfl,hz,rfl⟩;have t:=h.at';haveI:=h.T6;have f:=sf hz (e:=1)<|.inl rfl;have l:=f.l;have u:=f.h;have r4:=f.r4;show TB X [.val<|.int z,.un] _ _;refine ao (bC t 1 (d:=.int 0) af) ?_;refine rK t (λr:Int=>[.val<|.int z,.val<|.int r]) (λr=>0<=r/\r<=pU z) (λr=>r=pU z) (λr=>(pU z-r).toNat) 0 ⟨Int.le_refl _,by have:=f.r1;lia⟩ (λr hr=>?_) (λr hr=>by subst hr;exact aA<|aW<|aa t 1);by_cases y:r<pU z;·have:=Int.mul_le_mul (show r+1<=pU z by lia) (show r+1<=pU z by lia) (by lia) (by lia);exact .inr ⟨TC.eq (Nz (bc (cp (aa t 1) af) (cp (aa t 1) af)<|de (by lia)<|by lia)<|aa t 0)<|av<|by lia,.inr ⟨r+1,aA<|bC t 1<|cp (aa t 1) af,⟨by lia,by lia⟩,by lia⟩⟩
 ·have:r=pU z:=by lia
  subst this;exact .inl ⟨TC.eq (Nz (bc (cp (aa t 1) af) (cp (aa t 1) af)<|de (by lia)<|by lia)<|aa t 0)<|ah<|by lia,rfl⟩
def uH(h:c7 P w K mg base k jk gG X)(cF:Callee X "_law_floor_root" js)(cT:Callee X "_law_times" lB):Go X jk gG jr:=by
 rintro ds d ⟨z,e,x,rfl,hz,he,rfl⟩;have t:=h.at';haveI:=h.T6;show TB X [.val<|.int z,.val<|.int e,.val<|.int x,.un,.un,.un] _ _;refine ao (bC t 3<|au t cF (ac (aa t 0) ai) ⟨z,rfl,hz,rfl⟩) ?_;refine ao (bC t 4 (d:=aU [-z,0,1])<|Tz.eq (bw<|ac (dD af<|aa t 0)<|ac af<|ac af ai)<|by rw[zn];rfl) ?_;have x4:x%4=0\/x%4=1\/x%4=2\/x%4=3:=by lia
 refine ao (bC t 5 (d:=aU<|Hf z<|x%4)<|aF (T1.toQ<|fk<|ac (aa (d:=aU [-z,0,1]) t 4 rfl)<|ac (au t cT (ac (aa t 4)<|ac (d:=aU [-40,1]) (bw<|ac (dy af)<|ac af ai) ai) ⟨[-z,0,1],[-40,1],rfl,bP rfl,by decide,by decide,rfl⟩)<|ac (au t cT (ac (aa t 4)<|ac (d:=aU [1,0,2]) (bw<|ac af<|ac af<|ac af ai) ai) ⟨[-z,0,1],[1,0,2],rfl,bP rfl,by decide,by decide,rfl⟩)<|ac (d:=aU [z,0,-1]) (bw<|ac (aa t 0)<|ac af<|ac (dy af) ai) ai) (bN (aa t 2) af) ?_) ?_;·rcases x4 with q |q |q |q<;>rw[q]<;>rfl
 have pd:(Oc (.s z e) x).D=.tup [aU<|Hf z<|x%4,bZ<|yd z e,bZ<|yw z e]:=rfl;rw[pd];rcases he with rfl |rfl;·rw[show yd z 1=(pU z:Rat)from am<|by decide,show yw z 1=((pU z+1:Int):Rat)from(am<|by decide).trans<|by rw[eJ];rfl,QR,QR];exact eF<|eV (TC.eq (qB (aa t 1) af) rfl)<|aA<|aW<|bw<|ac (aa t 5)<|ac (bw<|ac (aa t 3)<|ac af ai)<|ac (bw<|ac (cp (aa t 3) af)<|ac af ai) ai
 ·rw[show yd z (-1)=((0-pU z-1:Int):Rat)from(ap<|by decide).trans<|by rw[iT,iT,show((0:Int):Rat)=0 from rfl,show((1:Int):Rat)=1 from rfl];grind,show yw z (-1)=((0-pU z:Int):Rat)from(ap<|by decide).trans<|by rw[iT,show((0:Int):Rat)=0 from rfl];grind,QR,QR];exact ao (c9 (TC.eq (qB (aa t 1) af) rfl) bM)<|aA<|aW<|bw<|ac (aa t 5)<|ac (bw<|ac (dD (dD af<|aa t 3) af)<|ac af ai)<|ac (bw<|ac (dD af<|aa t 3)<|ac af ai) ai
end
def NH(L:aG)(hl:L.length=12)(i:Int)(h0:0<=i)(h1:i<12):tZ (L.map D.int) i=some (.int<|L.getD i.toNat 0):=by have:=mi (xs:=L) (n:=i.toNat) (by lia);rwa[kR h0]at this
def Kr{b:Int}(a:Int)(hb:0<b):(Rat.divInt a b).num.sign=a.sign:=by
 have pb:((0:Int):Rat)<(b:Rat):=a7.mpr hb;have e:(Rat.divInt a b)*(b:Rat)=(a:Rat):=by rw[uN];exact Rat.div_mul_cancel<|by grind
 generalize Rat.divInt a b=q at e;have pd:((0:Int):Rat)<((q.den:Int):Rat):=a7.mpr (by have:=q.den_pos;lia);rw[<-Bq,<-Bq,<-e,fX q,n4,n4,iq pd,iq pb]
def LV(r:Rat)(w:Int):Rat.divInt (r.num-w*(r.den:Int)) (r.den:Int)=r-(w:Rat):=by refine oM (iM r) ?_;rw[iT,aI,fX];grind
def LX(r:Rat):Rat.divInt (2*r.num+(r.den:Int)) (2*(r.den:Int))=r+1 / 2:=by refine oM (by have:=iM r;lia) ?_;rw[eJ,aI,aI,fX,show((2:Int):Rat)=2 from rfl];grind
section
variable {X:Cx}
def Ar(h:c7 P w K mg base k nq j3 X)(cS:Callee X "_law_sign" qU)(cL:Callee X "_law_low" pC):Go X nq j3 kc:=by
 rintro ds d ⟨x,rfl,rfl⟩;have t:=h.at';haveI:=h.T6;show TB X [.val<|.int x,.un,.un,.un] _ _;unfold zz;by_cases y:x%2=0
 ·rw[am y];refine eF<|eV (TC.eq (c6 (bN (aa t 0) af) af)<|av y) ?_;refine ao (bC t 1 (d:=.int<|x / 2%31-15)<|dD (bN (gv t (aa t 0) af) af) af) ?_;refine ao (bC t 2 (d:=.int<|1+x / 62%4)<|cp af<|bN (gv t (aa t 0) af) af) ?_;have hb:0<1+x / 62%4:=by lia
  have ha: -15<=x / 2%31-15/\x / 2%31-15<=15:=by lia
  have hb2:1+x / 62%4<=4:=by lia
  generalize x / 2%31-15=a at*;generalize 1+x / 62%4=b at*;have sq:Rat.divInt (a*a) (b*b)=Rat.divInt a b*Rat.divInt a b:=(Rat.divInt_mul_divInt ..).symm;refine aA<|aW<|Tz.eq (bw<|ac (au t cS (ac (aa t 1) ai) ⟨a,rfl,rfl⟩)<|ac (au t cL (ac (bc (aa t 1) (aa t 1)<|de (by lia)<|by lia)<|ac (bc (aa t 2) (aa t 2)<|de (by lia)<|by lia) ai) ⟨a*a,b*b,rfl,bo (by lia)<|by lia,rfl⟩)<|ac (au t cL (ac (aa t 1)<|ac (aa t 2) ai) ⟨a,b,rfl,by lia,rfl⟩) ai) ?_;rw[sq];show _=D.tup [.int (Rat.divInt a b).num.sign,_,_];rw[Kr a hb]
 ·rw[ap y];refine ao (c9 (TC.eq (c6 (bN (aa t 0) af) af)<|ah y) bM) ?_;refine ao (bC t 3 (d:=.int<|dL.getD (x / 2%12).toNat 0)<|aF (T1.toQ<|fk<|ac af<|ac af<|ac af<|ac af<|ac af<|ac af<|ac af<|ac af<|ac af<|ac af<|ac af<|ac af ai) (bN (gv t (aa t 0) af) af)<|NH dL rfl _ (by lia)<|by lia) ?_;exact aA<|aW<|bw<|ac (dD af<|bc af (bN (gv t (aa t 0) af) af)<|de (by decide)<|by decide)<|ac (bw<|ac (aa t 3)<|ac af ai)<|ac iK ai
def Cu(h:c7 P w K mg base k oX lj X)(cR:Callee X "_law_root_place" jr)(cT:Callee X "_law_times" lB)(cL:Callee X "_law_low" pC):Go X oX lj ig:=by
 rintro ds d ⟨n,x,rfl,hn,rfl⟩;have t:=h.at';haveI:=h.T6;cases n with
 |s z e=>show TB X [.val<|.tup [.int e,.tup [.int z,.int 1],.TN],.val<|.int x,.un,.un,.un,.un,.un] _ _;refine ao (kj t (aa t 0)<|jf (ds:=[.int e,.tup [.int z,.int 1],.TN]) t<|bq (aZ t 2)<|bq (aZ t 3)<|bq (aZ t 4) gJ) ?_;exact eF<|eV (TC.eq (hR<|aa t 4) rfl)<|aA<|aW<|au t cR (ac (aF (Tz.qt<|aa t 3) af)<|ac (aa t 2)<|ac (aa t 1) ai) ⟨z,e,x,rfl,hn.1,hn.2,rfl⟩
 |q r=>
  show TB X [.val<|.tup [.int r.num.sign,bZ<|r*r,bZ r],.val<|.int x,.un,.un,.un,.un,.un] _ _;refine ao (kj t (aa t 0)<|jf (ds:=[.int r.num.sign,bZ<|r*r,bZ r]) t<|bq (aZ t 2)<|bq (aZ t 3)<|bq (aZ t 4) gJ) ?_;refine ao (c9 (TC.eq (hR<|aa (d:=bZ r) t 4 rfl) rfl) bM) ?_;by_cases x0:x%3=0;·have e:Oc (.q r) x=⟨none,.l r.num (r.den:Int),r,r⟩:=am x0;rw[e];exact eF<|eV (TC.eq (c6 (bN (aa t 1) af) af)<|av x0)<|aA<|aW<|aa t 4
  have e:Oc (.q r) x=⟨some<|K6 r<|x%3,.l r.num (r.den:Int),r-((1+x / 3%5:Int):Rat),r+1 / 2⟩:=ap x0;rw[e];refine ao (c9 (TC.eq (c6 (bN (aa t 1) af) af)<|ah x0) bM) ?_;refine ao (bC t 5 (d:=aU [-r.num,(r.den:Int)])<|Tz.eq (bw<|ac (dD af<|aF (Tz.qt<|aa (d:=bZ r) t 4 rfl) af<|UP r)<|ac (aF (Tz.qt<|aa (d:=bZ r) t 4 rfl) af<|tz r) ai)<|by rw[zn];rfl) ?_;have n15:=(qf hn).n15;have ZN:=(ef (qf hn).e1).f.2;refine ao (TW:=[.val<|.tup [.int r.num.sign,bZ<|r*r,bZ r],.val<|.int x,.val<|.int r.num.sign,.val<|bZ<|r*r,.val<|bZ r,.val<|aU<|K6 r<|x%3,.un]) ?_ ?_
  ·unfold K6;by_cases y:x%3=2
   ·rw[am y];refine eV (TC.eq (c6 (bN (aa t 1) af) af)<|av y)<|aA<|bC t 5<|au t cT (ac (aa t 5)<|ac (aa t 5) ai) ⟨[-r.num,(r.den:Int)],[-r.num,(r.den:Int)],rfl,bP rfl,bP rfl,λy hy=>?_,rfl⟩;simp only[aO,iz,nA]at hy;rcases hy with rfl |rfl;·lia
    ·have:(2:Nat) ^ 60<2 ^ 63:=by decide
     lia
   ·rw[ap y];exact c9 (TC.eq (c6 (bN (aa t 1) af) af)<|ah y) bM
  refine ao (bC t 6 (d:=.int<|1+x / 3%5)<|cp af<|bN (gv t (aa t 1) af) af) ?_;have hw:1<=1+x / 3%5/\1+x / 3%5<=5:=by lia
  generalize 1+x / 3%5=v at*;exact aA<|aW<|bw<|ac (aa t 5)<|ac (au t cL (ac (dD (aF (Tz.qt<|aa (d:=bZ r) t 4 rfl) af<|UP r)<|bc (aa t 6) (aF (Tz.qt<|aa (d:=bZ r) t 4 rfl) af<|tz r)<|de (by lia)<|by lia)<|ac (aF (Tz.qt<|aa (d:=bZ r) t 4 rfl) af<|tz r) ai) ⟨_,_,rfl,iM r,by rw[LV]⟩)<|ac (au t cL (ac (cp (bc af (aF (Tz.qt<|aa (d:=bZ r) t 4 rfl) af<|UP r)<|de (by decide)<|by decide)<|aF (Tz.qt<|aa (d:=bZ r) t 4 rfl) af<|tz r)<|ac (bc af (aF (Tz.qt<|aa (d:=bZ r) t 4 rfl) af<|tz r)<|de (by decide)<|by decide) ai) ⟨_,_,rfl,by have:=iM r;lia,by rw[LX]⟩) ai
end
def xw{X:Cx}(R:Nat->fx)(e:Nat)(hf:TC X (R e) c false):∀(n a:Nat),a+n=e->(∀i,a<=i->i<e->TC X (R i) c true/\TB X (R i) body (.nx<|R<|i+1))->∃m,Ui X c body m (R a) (.nx<|R e)
 |0,a,h,_=>by
  have:a=e:=by lia
  subst this;exact⟨0,.stop hf⟩
 |n+1,a,h,st=>by obtain⟨m,w⟩:=xw R e hf n (a+1) (by lia) λi h1 h2=>st i (by lia) h2;exact⟨m+1,.step (st a (aq _)<|by lia).1 (st a (aq _)<|by lia).2 w⟩
def n0:Nu:=.s 2 1
def kl(m n:Nu):Bool:=decide<|dU m<dU n
def pX(n:Nu)(l:List Nu):Nat:=(l.takeWhile λm=>kl m n).length
def uz(n:Nu)(l:List Nu):List Nu:=if pX n l=l.length\/kl n (l.getD (pX n l) n0)=true then l.take (pX n l)++n::l.drop (pX n l)else l
def rV(xs:aG):List Nu:=xs.foldl (λl x=>uz (zz x) l) []
def IH(n:Nu):∀l:List Nu,pX n l<=l.length
 |[]=>aq _
 |m::l=>by
  unfold pX;rw[Tv];split;·exact Nat.succ_le_succ<|IH n l
  ·exact cQ _
def Bk(n m:Nu)(l:List Nu):pX n (m::l)=if kl m n=true then pX n l+1 else 0:=by unfold pX;rw[Tv];split<;>rfl
def MY(n:Nu):∀(l:List Nu)(i:Nat),i<pX n l->kl (l.getD i n0) n=true
 |[],i,h=>absurd h<|iU _
 |m::l,i,h=>by
  rw[Bk]at h;split at h;·rename_i hk;cases i with|zero=>exact hk|succ i=>exact MY n l i<|by lia
  ·lia
def MZ(n:Nu):∀l:List Nu,pX n l<l.length->kl (l.getD (pX n l) n0) n=false
 |[],h=>absurd h<|iU _
 |m::l,h=>by
  rw[Bk]at h ⊢;split;·rename_i hk;rw[am hk]at h;exact MZ n l<|by simpa using h
  ·rename_i hk;show kl m n=false;simpa using hk
def G0(l:List Nu):Prop:=l.Pairwise λm n=>dU m<dU n
def T8{m n:Nu}:kl m n=true↔dU m<dU n:=eO
def jc{i:Nat}{α:Type}{l:List α}(h:i<l.length)(d:α):l.getD i d∈l:=by rw[ag,ar h];exact dX h
def uA{i:Nat}{α:Type}{l:List α}(h:i<l.length)(d:α):l[i]?=some (l.getD i d):=by rw[ag,ar h];rfl
def Ma{n m:Nu}{l:List Nu}(h:m∈uz n l):m=n\/m∈l:=by
 unfold uz at h;split at h
 ·rcases lQ.mp h with h |h;·exact .inr<|Ti h
  ·rcases aO.mp h with h |h;·exact .inl h
   ·exact .inr<|pS h
 ·exact .inr h
def Mb(n:Nu)(l:List Nu):(uz n l).length<=l.length+1:=by
 unfold uz;split;·rw[aJ,dG,eT,du];have:=IH n l;lia
 ·lia
def GG{n:Nu}:∀{l:List Nu},G0 l->G0 (uz n l)
 |[],_=>List.pairwise_singleton _ _
 |m::l,h=>by
  obtain⟨h1,h2⟩:=tU.mp h;have ih:=GG (n:=n) h2;unfold uz;rw[Bk];by_cases hk:kl m n=true
  ·rw[am hk];have e:∀z:Bool,((pX n l+1=(m::l).length\/kl n ((m::l).getD (pX n l+1) n0)=true)↔(pX n l=l.length\/kl n (l.getD (pX n l) n0)=true)):=λ_=>by rw[dG];exact⟨λy=>y.imp (λa=>by lia) id,λy=>y.imp (λa=>by lia) id⟩
   unfold uz at ih;by_cases y:pX n l=l.length\/kl n (l.getD (pX n l) n0)=true
   ·rw[am<|(e true).mpr y];rw[am y]at ih;refine tU.mpr ⟨λz hz=>?_,ih⟩;rcases lQ.mp hz with hz |hz;·exact h1 z<|Ti hz
    ·rcases aO.mp hz with rfl |hz;·exact T8.mp hk
     ·exact h1 z<|pS hz
   ·rw[ap λz=>y<|(e true).mp z];exact h
  ·rw[ap hk];split
   ·rename_i y;rcases y with y |y;·cases y
    ·have y:=T8.mp y;refine tU.mpr ⟨λz hz=>?_,h⟩;rcases aO.mp hz with rfl |hz;·exact y
     ·have:=h1 z hz;grind
   ·exact h
def Ji(xs:aG)(x:Int):rV (xs++[x])=uz (zz x) (rV xs):=by unfold rV;rw[Im];rfl
def DU:∀(xs:aG){l:List Nu},G0 l->(∀n∈l,wD n)->G0 (xs.foldl (λl x=>uz (zz x) l) l)/\(∀n∈xs.foldl (λl x=>uz (zz x) l) l,wD n)/\(xs.foldl (λl x=>uz (zz x) l) l).length<=l.length+xs.length|[],l,h1,h2=>⟨h1,h2,aq _⟩|x::xs,l,h1,h2=>by obtain⟨a,b,c⟩:=DU xs (GG (n:=zz x) h1) λn hn=>(Ma hn).elim (λe=>e▸JJ x)<|h2 n;have:=Mb (zz x) l;exact⟨a,b,by rw[dG];exact bL c<|by lia⟩
def Gg(xs:aG):G0 (rV xs)/\(∀n∈rV xs,wD n)/\(rV xs).length<=xs.length:=by obtain⟨a,b,c⟩:=DU xs (l:=[]) List.Pairwise.nil λ_ h=>nomatch h;exact⟨a,b,by rw[qY,Su]at c;exact c⟩
def ny(ds:bX)(d:D):Prop:=∃xs:aG,ds=[ba xs]/\xs.length<=100/\d=.lst ((rV xs).map ic)
def wq:∀ds d,ny ds d->ds.length=1:=by rintro _ _ ⟨_,rfl,_⟩;rfl
def l6{i:Nat}{l:List Nu}(h:i<l.length):(l.map ic)[i]?=some (ic<|l.getD i n0):=by rw[aH,uA h n0];rfl
section
variable {X:Cx}
def Ap(h:c7 P w K mg base k nn j0 X)(TH:mg "len"=none)(cN:Callee X "_law_number" kc)(cB:Callee X "_law_before" gB):Go X nn j0 ny:=by
 rintro ds d ⟨xs,rfl,hl,rfl⟩;have t:=h.at';haveI:=h.T6;have b1:=h.bt TH;show TB X [.val<|ba xs,.un,.un,.un,.un] _ _;refine ao (n9 t 1 (xs:=(rV<|xs.take 0).map ic)<|fk ai) ?_;refine ao (TW:=[.val<|ba xs,.own<|(rV xs).map ic,.un,.un,.un]) (jx t (m7<|aa t 0)<|T5.Ue (λi=>[.val<|ba xs,.own<|(rV<|xs.take i).map ic,.un,.un,.un]) (λi d hi=>?_) rfl<|by rw[ae,pD])<|fB 1 rfl<|aA<|aW<|aa t 1;rw[aH]at hi;have il:i<xs.length:=by
  rcases fy i xs.length with z |z;·exact z
  ·rw[bQ z]at hi;cases hi
 rw[ar il]at hi;cases hi;rw[List.take_add_one,ar il];show∃Uf,_/\TB X Uf _ (.nx [.val<|ba xs,.own<|(rV<|xs.take i++[xs[i]]).map ic,.un,.un,.un]);rw[Ji];obtain⟨_,ok,ll⟩:=Gg<|xs.take i;have li:(rV<|xs.take i).length<=100:=bL ll (by rw[eT];lia);have VQ:=JJ xs[i];generalize rV (xs.take i)=l at*;refine⟨_,aZ t 2,TB.weak (Uf:=[.val<|ba xs,.own<|(uz (zz xs[i]) l).map ic,.val<|.int xs[i],.val<|ic<|zz xs[i],.val<|.int (pX (zz xs[i]) l:Nat)]) ?_<|.keep<|.keep<|.forget<|.forget<|.forget .nil⟩;refine ao (bC t 3<|au t cN (ac (aa t 2) ai) ⟨_,rfl,rfl⟩) ?_;generalize zz xs[i]=n at*;generalize xs[i]=x at*;refine ao (bC t 4 (d:=.int (0:Nat)) af) ?_;have le:=IH n l;have V4:∀{U:fx}{p1 p2 pos:Pos},U[1]?=some (.own<|l.map ic)->Tz X U (.Call (.Name "len" p1) [.Name "_law_found" p2] [] pos) (.int (l.length:Nat)):=λ{U p1 p2 pos}hr=>Tz.eq (bF t b1<|eE t 1 hr) (by rw[ae]);have bef:∀(i:Nat),i<l.length->gB [ic<|l.getD i n0,ic n] (.bl<|kl (l.getD i n0) n):=λi hi=>⟨_,_,rfl,ok _<|jc hi n0,VQ,rfl⟩;refine ao (gs t<|xw (λa=>[.val<|ba xs,.own<|l.map ic,.val<|.int x,.val<|ic n,.val<|.int (a:Nat)]) (pX n l) ?_ (pX n l) 0 (by lia) λa _ ha=>⟨?_,?_⟩) ?_
 ·by_cases z:pX n l<l.length;·exact TC.eq (lv (v:=false) (iC (aa t 4)<|V4 rfl) λ_=>TC.eq (dC<|au t cB (ac (aF (eE t 1 rfl) (aa t 4)<|e8 _<|l6 z)<|ac (aa t 3) ai)<|bef _ z)<|MZ n l z)<|by rw[tY]
  ·exact TC.eq (lv (v:=false) (iC (aa t 4)<|V4 rfl) λy=>absurd (bB y)<|by lia)<|by rw[tY]
 ·exact TC.eq (lv (v:=true) (iC (aa t 4)<|V4 rfl) λ_=>TC.eq (dC<|au t cB (ac (aF (eE t 1 rfl) (aa t 4)<|e8 _<|l6<|by lia)<|ac (aa t 3) ai)<|bef _<|by lia)<|MY n l a ha)<|by rw[Bool.and_true];exact av<|by lia
 ·exact aA<|bC t 4<|Tz.eq (cp (aa t 4) af)<|by rfl
 have hb:∀(z:pX n l<l.length),gB [ic n,ic<|l.getD (pX n l) n0] (.bl<|kl n<|l.getD (pX n l) n0):=λz=>⟨_,_,rfl,VQ,ok _<|jc z n0,rfl⟩;unfold uz;have XB:∀{c1 c2:Expr}{pos:Pos}{U:fx},TC X U c1 (decide<|pX n l=l.length)->(pX n l<l.length->TC X U c2 (kl n<|l.getD (pX n l) n0))->TC X U (.BoolOp .Or [c1,c2] pos) (decide<|pX n l=l.length\/kl n (l.getD (pX n l) n0)=true):=λ{c1 c2 pos U}h1 h2=>by
  by_cases z:pX n l=l.length;·exact TC.eq (me (v:=true) h1 λy=>absurd z<|mx y)<|by rw[av z,av<|.inl z];rfl
  ·refine TC.eq (me h1 λ_=>h2<|by lia) ?_;rw[ah z,Rk];cases hk:kl n (l.getD (pX n l) n0)with|true=>exact(av<|.inr rfl).symm|false=>exact(ah λy=>y.elim z λq=>nomatch q).symm
 by_cases y:pX n l=l.length\/kl n (l.getD (pX n l) n0)=true;·rw[am y,bO,eG,List.map_take,List.map_drop];refine aA<|eV (TC.eq (XB (TC.eq (c6 (aa t 4)<|V4 rfl)<|cw.mpr<|by lia) λz=>dC<|au t cB (ac (aa t 3)<|ac (aF (eE t 1 rfl) (aa t 4)<|e8 _<|l6 z) ai)<|hb z)<|av y)<|aA ?_;exact Jd (n:=((pX n l:Nat):Int)) (xs:=l.map ic) t 1 rfl (aa t 4) (by lia) (by lia) (aa t 3)<|by rw[ae];exact fV<|by lia
 ·rw[ap y];exact aA<|c9 (TC.eq (XB (TC.eq (c6 (aa t 4)<|V4 rfl)<|cw.mpr<|by lia) λz=>dC<|au t cB (ac (aa t 3)<|ac (aF (eE t 1 rfl) (aa t 4)<|e8 _<|l6 z) ai)<|hb z)<|ah y) bM
end
def vn(ns:List Nu):Prop:=(∀n∈ns,wD n)/\ns.length<=100
def RX(ns:List Nu)(i:Nat)(x:Int):OP:=some (ns.getD i n0,Oc (ns.getD i n0) x)
def wg(ns:List Nu)(a:Nat)(x:Int):OP:=if a=0 then none else RX ns ((a-1) / 2) x
def vZ(ns:List Nu)(a:Nat)(x:Int):OP:=if a=2*ns.length then none else RX ns (a / 2) x
def l5(a:Nat):Bool:=decide<|a%2=1
def Hh(ns:List Nu)(s b:Nat)(x:Int):Pt:=if s=b/\b%2=1 then⟨wg ns s<|x / 2,l5 s,wg ns s<|x / 2,l5 s⟩else⟨wg ns s<|x / 2,l5 s,vZ ns b<|x / 3,l5 b⟩
def JH(T:List Bool)(a:Nat):Bool:=decide (a+1<T.length)&&T.getD (a+1) false
def mh(T:List Bool):Nat->Nat->Nat|0,a=>a|f+1,a=>if JH T a then mh T f (a+1)else a
def xR(ns:List Nu)(T:List Bool):Nat->Nat->Int->Nat->List Pt|0,_,_,_=>[]|n+1,a,x,k=>if a<T.length then(if T.getD a false then Hh ns a (mh T T.length a) x::xR ns T n (mh T T.length a+1) (x / 5+17*((k:Int)+1)) (k+1)else xR ns T n (a+1) x k)else []
def pV(ns:List Nu)(T:List Bool)(x:Int):List Pt:=xR ns T (T.length+1) 0 x 0
def vd(ns:List Nu)(n:Nu):Nat:=if(ns.filter λm=>kl m n).length<ns.length/\kl n (ns.getD (ns.filter λm=>kl m n).length n0)=false then 2*(ns.filter λm=>kl m n).length+1 else 2*(ns.filter λm=>kl m n).length
def Np{a:Nat}{T:List Bool}(h:JH T a=true):a+1<T.length:=by unfold JH at h;rw[br]at h;exact bB h.1
def xm(T:List Bool):∀(f a:Nat),T.length<=a+f+1->a<=mh T f a/\JH T (mh T f a)=false/\∀i,a<=i->i<mh T f a->JH T i=true
 |0,a,h=>⟨aq _,by show JH T a=false;cases e:JH T a with|true=>have:=Np e;lia|false=>rfl,λi h1 h2=>absurd h2<|by show¬i<a;lia⟩
 |f+1,a,h=>by
  unfold mh;cases e:JH T a with
  |true=>
   rw[am rfl];obtain⟨p,q,r⟩:=xm T f (a+1) (by lia);refine⟨by lia,q,λi h1 h2=>?_⟩;by_cases z:i=a;·rw[z];exact e
   ·exact r i (by lia) h2
  |false=>rw[ap<|by decide];exact⟨aq _,e,λi h1 h2=>absurd h2<|by lia⟩
def Fh{a:Nat}{T:List Bool}(h:a<T.length):mh T T.length a<T.length:=by
 obtain⟨p,q,r⟩:=xm T T.length a (by lia);by_cases z:a<mh T T.length a;·have:=Np<|r (mh T T.length a-1) (by lia) (by lia);lia
 ·lia
def Jz{i:Nat}{ns:List Nu}(h:vn ns)(hi:i<ns.length)(x:Int):KW (RX ns i x):=λn p e=>by cases e;exact Jy (h.1 _<|jc hi n0) x
def BP{a:Nat}{ns:List Nu}(h:vn ns)(ha:a<=2*ns.length)(x:Int):KW (wg ns a x):=by
 unfold wg;split;·exactλn p e=>nomatch e
 ·exact Jz h (by lia) x
def J7{a:Nat}{ns:List Nu}(h:vn ns)(ha:a<=2*ns.length)(x:Int):KW (vZ ns a x):=by
 unfold vZ;split;·exactλn p e=>nomatch e
 ·exact Jz h (by lia) x
def N2{a b:Nat}{ns:List Nu}(h:vn ns)(ha:a<=2*ns.length)(hb:b<=2*ns.length)(x:Int):KH (Hh ns a b x):=by
 unfold Hh;split;·exact⟨BP h ha _,BP h ha _⟩
 ·exact⟨BP h ha _,J7 h hb _⟩
def EO{ns:List Nu}{T:List Bool}(h:vn ns)(hT:T.length=2*ns.length+1):∀(n a:Nat)(x:Int)(k:Nat),(xR ns T n a x k).length<=n/\∀p∈xR ns T n a x k,KH p
 |0,a,x,k=>⟨aq _,λp hp=>nomatch hp⟩
 |n+1,a,x,k=>by
  unfold xR;split
  ·rename_i ha;split
   ·obtain⟨p,q⟩:=EO h hT n (mh T T.length a+1) (x / 5+17*((k:Int)+1))<|k+1;refine⟨Nat.succ_le_succ p,λy hy=>?_⟩;rcases aO.mp hy with rfl |hy;·have:=Fh ha;exact N2 h (by lia) (by lia) x
    ·exact q y hy
   ·obtain⟨p,q⟩:=EO h hT n (a+1) x k;exact⟨by lia,q⟩
  ·exact⟨cQ _,λp hp=>nomatch hp⟩
def AT{ns:List Nu}{T:List Bool}(h:vn ns)(hT:T.length=2*ns.length+1)(x:Int):Ie (pV ns T x):=by obtain⟨p,q⟩:=EO h hT (T.length+1) 0 x 0;have:=h.2;exact⟨bz p<|by lia,q⟩
def mv(ds:bX)(d:D):Prop:=∃(ns:List Nu)(a:Nat)(x:Int),ds=[.lst<|ns.map ic,.int (a:Nat),.int x]/\vn ns/\a<=2*ns.length/\d=.tup [xh<|wg ns a x,.bl<|l5 a]
def u6:∀ds d,mv ds d->ds.length=3:=by rintro _ _ ⟨_,_,_,rfl,_⟩;rfl
def kP(ds:bX)(d:D):Prop:=∃(ns:List Nu)(a:Nat)(x:Int),ds=[.lst<|ns.map ic,.int (a:Nat),.int x]/\vn ns/\a<=2*ns.length/\d=.tup [xh<|vZ ns a x,.bl<|l5 a]
def uw:∀ds d,kP ds d->ds.length=3:=by rintro _ _ ⟨_,_,_,rfl,_⟩;rfl
def j9(ds:bX)(d:D):Prop:=∃(ns:List Nu)(T:List Bool)(x:Int),ds=[.lst<|ns.map ic,.lst<|T.map D.bl,.int x]/\vn ns/\T.length=2*ns.length+1/\d=gM (pV ns T x)
def wr:∀ds d,j9 ds d->ds.length=3:=by rintro _ _ ⟨_,_,_,rfl,_⟩;rfl
def mw(ds:bX)(d:D):Prop:=∃(ns:List Nu)(T:List Bool)(n:Nu),ds=[.lst<|ns.map ic,.lst<|T.map D.bl,ic n]/\vn ns/\wD n/\T.length=2*ns.length+1/\d=.bl (T.getD (vd ns n) false)
def u7:∀ds d,mw ds d->ds.length=3:=by rintro _ _ ⟨_,_,_,rfl,_⟩;rfl
def BI(a:Nat):decide (((a:Int)%2)=1)=l5 a:=cw.mpr<|by lia
def tv{i:Nat}{T:List Bool}(h:i<T.length):(T.map D.bl)[i]?=some (.bl<|T.getD i false):=by rw[aH,uA h false];rfl
def GC(a:Nat):((a:Int) / 2)=((a / 2:Nat):Int):=by lia
section
variable {X:Cx}
def y6(h:c7 P w K mg base k mo i7 X)(cP:Callee X "_law_place" ig):Go X mo i7 mv:=by
 rintro ds d ⟨ns,a,x,rfl,ok,ha,rfl⟩;have t:=h.at';haveI:=h.T6;show TB X [.val<|.lst<|ns.map ic,.val<|.int (a:Nat),.val<|.int x] _ _;unfold wg;by_cases z:a=0;·subst z;exact eF<|eV (TC.eq (c6 (aa t 1) af) rfl)<|aA<|aW<|bw<|ac iK<|ac sP ai
 ·rw[ap z];have hi:(a-1) / 2<ns.length:=by lia
  exact ao (c9 (TC.eq (c6 (aa t 1) af)<|ah<|by lia) bM)<|aA<|aW<|bw<|ac (au t cP (ac (aF (Tz.ql<|aa t 0) (Tz.eq (gv t (dD (aa t 1) af) af) (show D.int _=D.int (((a-1) / 2:Nat):Int)by congr 1;lia))<|e8 _<|l6 hi)<|ac (aa t 2) ai) ⟨_,x,rfl,ok.1 _<|jc hi n0,rfl⟩)<|ac (Tz.eq (jd t (bN (aa t 1) af) af)<|bi D.bl<|BI a) ai
def wC(h:c7 P w K mg base k kL iH X)(TH:mg "len"=none)(cP:Callee X "_law_place" ig):Go X kL iH kP:=by
 rintro ds d ⟨ns,a,x,rfl,ok,ha,rfl⟩;have t:=h.at';haveI:=h.T6;have b1:=h.bt TH;show TB X [.val<|.lst<|ns.map ic,.val<|.int (a:Nat),.val<|.int x] _ _;unfold vZ;by_cases z:a=2*ns.length;·rw[am z,show l5 a=false from ah<|by lia];exact eF<|eV (TC.eq (c6 (aa t 1)<|bc af (bF t b1<|Tz.ql<|aa t 0)<|de (by decide)<|by decide)<|av<|by rw[ae];lia)<|aA<|aW<|bw<|ac iK<|ac sP ai
 ·rw[ap z];have hi:a / 2<ns.length:=by lia
  exact ao (c9 (TC.eq (c6 (aa t 1)<|bc af (bF t b1<|Tz.ql<|aa t 0)<|de (by decide)<|by decide)<|ah<|by rw[ae];lia) bM)<|aA<|aW<|bw<|ac (au t cP (ac (aF (Tz.ql<|aa t 0) (Tz.eq (gv t (aa t 1) af)<|bi D.int<|GC a)<|e8 _<|l6 hi)<|ac (aa t 2) ai) ⟨_,x,rfl,ok.1 _<|jc hi n0,rfl⟩)<|ac (Tz.eq (jd t (bN (aa t 1) af) af)<|bi D.bl<|BI a) ai
def Aq(h:c7 P w K mg base k np j1 X)(TQ:mg "tuple"=none)(TH:mg "len"=none)(cL:Callee X "_law_low_end" mv)(cH:Callee X "_law_high_end" kP):Go X np j1 j9:=by
 rintro ds d ⟨ns,T,x,rfl,ok,hT,rfl⟩;have t:=h.at';haveI:=h.T6;have b1:=h.bt TH;have b2:=h.bt TQ;have l1:=ok.2;have lT:∀{U:fx}{p1 p2 pos:Pos},U[1]?=some (.val<|.lst<|T.map D.bl)->Tz X U (.Call (.Name "len" p1) [.Name "_law_truths" p2] [] pos) (.int (T.length:Nat)):=λ{U p1 p2 pos}hr=>Tz.eq (bF t b1<|Tz.ql<|aa t 1 hr) (by rw[ae]);show TB X [.val<|.lst<|ns.map ic,.val<|.lst<|T.map D.bl,.val<|.int x,.un,.un,.un,.un] _ _;refine ao (n9 t 3 (xs:=([]:List Pt).map xV)<|fk ai) ?_;refine ao (bC t 4 (d:=.int (0:Nat)) af) ?_;refine rK t (λz:Nat×Int×List Pt=>[.val<|.lst<|ns.map ic,.val<|.lst<|T.map D.bl,.val<|.int z.2.1,.own<|z.2.2.map xV,.val<|.int (z.1:Nat),.un,.un]) (λz=>z.2.2.length<=z.1/\∃n,T.length<z.1+n/\z.2.2++xR ns T n z.1 z.2.1 z.2.2.length=pV ns T x) (λz=>z.2.2=pV ns T x) (λz=>T.length-z.1) (0,x,[]) ⟨aq _,T.length+1,by lia,rfl⟩ (λz hz=>?_) λz hz=>?_
 ·obtain⟨a,y,ps⟩:=z;obtain⟨lp,n,hn,go⟩:=hz;dsimp only at lp hn go ⊢;by_cases ha:a<T.length
  ·cases n with|zero=>lia|succ n=>
   unfold xR at go;rw[am ha]at go;cases Wv:T.getD a false with
   |false=>rw[Wv,ap<|by decide]at go;refine .inr ⟨TC.eq (iC (aa t 4)<|lT rfl)<|av<|by lia,.inr ⟨(a+1,y,ps),ao (c9 (TC.eq (dC<|aF (Tz.ql<|aa t 1) (aa t 4)<|e8 _<|tv ha) Wv) bM)<|aA<|bC t 4<|Tz.eq (cp (aa t 4) af) rfl,⟨by dsimp only;lia,n,by dsimp only;lia,go⟩,by dsimp only;lia⟩⟩
   |true=>
    rw[Wv,am rfl]at go;obtain⟨e1,e2,e3⟩:=xm T T.length a (by lia);have e4:=Fh ha;generalize mh T T.length a=b at*;refine .inr ⟨TC.eq (iC (aa t 4)<|lT rfl)<|av<|by lia,.inr ⟨(b+1,y / 5+17*((ps.length:Int)+1),ps++[Hh ns a b y]),?_,⟨by dsimp only;rw[aJ,cj];lia,n,by dsimp only;lia,by dsimp only;rw[aJ,cj,ff];exact go⟩,by dsimp only;lia⟩⟩;dsimp only;refine TB.weak (Uf:=[.val<|.lst<|ns.map ic,.val<|.lst<|T.map D.bl,.val<|.int<|y / 5+17*((ps.length:Int)+1),.own<|(ps++[Hh ns a b y]).map xV,.val<|.int ((b+1:Nat):Int),.val<|.int (a:Nat),.val<|xV<|Hh ns a b y]) (ao (TW:=[.val<|.lst<|ns.map ic,.val<|.lst<|T.map D.bl,.val<|.int<|y / 5+17*((ps.length:Int)+1),.own<|(ps++[Hh ns a b y]).map xV,.val<|.int (b:Nat),.val<|.int (a:Nat),.val<|xV<|Hh ns a b y]) (eV (TC.eq (dC<|aF (Tz.ql<|aa t 1) (aa t 4)<|e8 _<|tv ha) Wv) ?_)<|aA<|bC t 4<|Tz.eq (cp (aa t 4) af) rfl)<|.keep<|.keep<|.keep<|.keep<|.keep<|.forget<|.forget .nil;refine ao (bC t 5<|aa t 4) ?_;have nb:∀i,i+1<T.length->(T.map D.bl)[i+1]?=some (.bl<|T.getD (i+1) false):=λi hi=>tv hi;have inner:∀(i:Nat){U:fx}{c1 c2:Expr}{pos:Pos},TC X U c1 (decide<|i+1<T.length)->(i+1<T.length->TC X U c2 (T.getD (i+1) false))->TC X U (.BoolOp .And [c1,c2] pos) (JH T i):=λi{U c1 c2 pos}h1 h2=>lv h1 λz=>h2<|bB z;refine ao (gs t<|xw (λi=>[.val<|.lst<|ns.map ic,.val<|.lst<|T.map D.bl,.val<|.int y,.own<|ps.map xV,.val<|.int (i:Nat),.val<|.int (a:Nat),.un]) b (TC.eq (inner b (TC.eq (iC (cp (aa t 4) af)<|lT rfl)<|cw.mpr<|by lia) λz=>dC<|aF (Tz.ql<|aa t 1) (Tz.eq (cp (aa t 4) af) (show _=D.int ((b+1:Nat):Int)from rfl))<|e8 _<|nb b z) e2) (b-a) a (by lia) λi h1 h2=>⟨TC.eq (inner i (TC.eq (iC (cp (aa t 4) af)<|lT rfl)<|cw.mpr<|by lia) λz=>dC<|aF (Tz.ql<|aa t 1) (Tz.eq (cp (aa t 4) af) (show _=D.int ((i+1:Nat):Int)from rfl))<|e8 _<|nb i z)<|e3 i h1 h2,aA<|bC t 4<|Tz.eq (cp (aa t 4) af) rfl⟩) ?_;refine ao (bC t 6<|Ml (xs:=[xh<|wg ns a<|y / 2,.bl<|l5 a]) (ys:=[xh<|vZ ns b<|y / 3,.bl<|l5 b]) (au t cL (ac (aa t 0)<|ac (aa t 5)<|ac (gv t (aa t 2) af) ai) ⟨ns,a,y / 2,rfl,ok,by lia,rfl⟩) (au t cH (ac (aa t 0)<|ac (aa t 4)<|ac (gv t (aa t 2) af) ai) ⟨ns,b,y / 3,rfl,ok,by lia,rfl⟩) (by simp) (by simp)<|bP rfl) ?_;refine ao (TW:=[.val<|.lst<|ns.map ic,.val<|.lst<|T.map D.bl,.val<|.int y,.own<|ps.map xV,.val<|.int (b:Nat),.val<|.int (a:Nat),.val<|xV<|Hh ns a b y]) ?_ ?_
    ·have tt:∀{U:fx}{c1 c2:Expr}{pos:Pos},TC X U c1 (decide<|a=b)->TC X U c2 (l5 b)->TC X U (.BoolOp .And [c1,c2] pos) (decide<|a=b/\b%2=1):=λ{U c1 c2 pos}h1 h2=>TC.eq (lv h1 λ_=>h2) (by unfold l5;rw[Bool.decide_and]);unfold Hh;by_cases z:a=b/\b%2=1;·rw[am z];exact eV (TC.eq (tt (TC.eq (c6 (aa t 5)<|aa t 4)<|cw.mpr<|by lia)<|TC.eq (c6 (bN (aa t 4) af) af)<|BI b)<|av z)<|aA<|bC t 6<|Kc (Tz.eq (Mj (Tz.qt<|aa t 6) rH (rG af)<|by show¬(HT.T4 4 0 none=0/\HT.T4 4 4 (some 2)=4);decide) rfl) af
     ·rw[ap z];exact c9 (TC.eq (tt (TC.eq (c6 (aa t 5)<|aa t 4)<|cw.mpr<|by lia)<|TC.eq (c6 (bN (aa t 4) af) af)<|BI b)<|ah z) bM
    generalize Hh ns a b y=p at*;refine ao (ul t 3 rfl (aa t 6)<|by rw[ae];exact fV<|by lia) ?_;rw[show(ps.map xV++[xV p])=(ps++[p]).map xV by rw[bO];rfl];exact aA<|bC t 2<|Tz.eq (cp (gv t (aa t 2) af)<|bc af (bF t b1<|eE t 3 rfl)<|de (by decide)<|by decide)<|by rw[ae,aJ,cj];rfl
  ·refine .inl ⟨TC.eq (iC (aa t 4)<|lT rfl)<|ah<|by lia,?_⟩;cases n with|zero=>rw[<-go];show ps=ps++[];rw[iV]|succ n=>unfold xR at go;rw[ap ha,iV]at go;exact go
 ·obtain⟨a,y,ps⟩:=z;dsimp only at hz ⊢;subst hz;exact aA<|aW<|Tz.eq (ma t b2<|eE t 3 rfl) rfl
def y7(h:c7 P w K mg base k mq i8 X)(TH:mg "len"=none)(cB:Callee X "_law_before" gB):Go X mq i8 mw:=by
 rintro ds d ⟨ns,T,n,rfl,ok,VQ,hT,rfl⟩;have t:=h.at';haveI:=h.T6;have b1:=h.bt TH;have l1:=ok.2;show TB X [.val<|.lst<|ns.map ic,.val<|.lst<|T.map D.bl,.val<|ic n,.un] _ _;refine ao (bC t 3 (d:=.int ((ns.filter λm=>kl m n).length:Nat))<|Tz.eq (bF t b1<|T1.toQ (fG (rs:=(ns.filter λm=>kl m n).map ic) t ["_law_numbers_here","_law_truths","_law_number_here","_law_many","_law_other"] (Ah<|by decide) (m7<|aa t 0) (by rw[ae];exact fV<|by lia) λX' cx=>?_))<|by rw[ae]) ?_;·have t':=cx.at';exact TU.Wd ic ic (λm=>kl m n) (λm=>[.val<|.lst<|ns.map ic,.val<|.lst<|T.map D.bl,.val<|ic n,.un,.val<|ic m]) ns _ (λm _=>bE t' 4) (λm _ y _=>bE t' 4) (λm hm=>dC<|au t' (cx.callee cB) (ac (aa t' 4 rfl)<|ac (aa t' 2 rfl) ai) ⟨m,n,rfl,ok.1 m hm,VQ,rfl⟩) λm _=>aa t' 4 rfl
 have lm:(ns.filter λm=>kl m n).length<=ns.length:=nY _ _;unfold vd;generalize(ns.filter λm=>kl m n).length=m at*;refine NA (TC.eq (lv (u:=decide<|m<ns.length) (v:=!kl n (ns.getD m n0)) (TC.eq (iC (aa t 3)<|bF t b1<|Tz.ql<|aa t 0)<|cw.mpr<|by rw[ae];lia) λz=>fj<|dC<|au t cB (ac (aa t 2)<|ac (aF (Tz.ql<|aa t 0) (aa t 3)<|e8 _<|l6<|bB z) ai) ⟨n,_,rfl,VQ,ok.1 _<|jc (bB z) n0,rfl⟩) rfl) (λz=>?_) λz=>?_;·rw[br]at z;have z1:=bB z.1;rw[am ⟨z1,by simpa using z.2⟩];exact aA<|aW<|aF (Tz.ql<|aa t 1) (Tz.eq (cp (bc af (aa t 3)<|de (by decide)<|by decide) af) (show D.int _=D.int ((2*m+1:Nat):Int)by congr 1))<|e8 _<|tv<|by lia
 ·rw[ap λy=>by rw[av y.1,y.2]at z;cases z];exact aA<|aW<|aF (Tz.ql<|aa t 1) (Tz.eq (bc af (aa t 3)<|de (by decide)<|by decide) (show D.int _=D.int ((2*m:Nat):Int)by congr 1))<|e8 _<|tv<|by lia
end
def Bw(T:List Bool):Nat->Nat->List (Nat×Nat)|0,_=>[]|n+1,a=>if a<T.length then(if T.getD a false then(a,mh T T.length a)::Bw T n (mh T T.length a+1)else Bw T n<|a+1)else []
def NV(T:List Bool):List (Nat×Nat):=Bw T (T.length+1) 0
def Nv(c:Nat)(r:Nat×Nat):Bool:=decide (r.1<=c)&&decide (c<=r.2)
structure Q8(T:List Bool)(a:Nat)(R:List (Nat×Nat)):Prop where
 rg:∀r∈R,a<=r.1/\r.1<=r.2/\r.2<T.length
 any:∀c,a<=c->c<T.length->R.any (Nv c)=T.getD c false
 hd:∀r rs,R=r::rs->T.getD r.1 false=true/\∀c,a<=c->c<r.1->T.getD c false=false
 la:∀rs r,R=rs++[r]->T.getD r.2 false=true/\∀c,r.2<c->c<T.length->T.getD c false=false
def OA{a:Nat}{T:List Bool}(h:JH T a=true):T.getD (a+1) false=true:=by unfold JH at h;rw[br]at h;exact h.2
def MH{a c:Nat}{R:List (Nat×Nat)}(h:∀r∈R,a<=r.1)(hc:c<a):R.any (Nv c)=false:=by rw[Io];intro r hr;have:=h r hr;unfold Nv;rw[ah<|by lia];simp
def Bv(T:List Bool):∀(n a:Nat),T.length<a+n->Q8 T a (Bw T n a)
 |0,a,h=>⟨(λr hr=>nomatch hr),(λc h1 h2=>by lia),(λr rs e=>nomatch e),λrs r e=>by cases rs<;>cases e⟩
 |n+1,a,h=>by
  unfold Bw;by_cases ha:a<T.length
  ·rw[am ha];cases Wv:T.getD a false with
   |false=>
    rw[ap<|by decide];obtain⟨p,q,u,v⟩:=Bv T n (a+1) (by lia);refine⟨λr hr=>⟨by have:=(p r hr).1;lia,(p r hr).2⟩,λc h1 h2=>?_,λr rs e=>⟨(u r rs e).1,λc h1 h2=>?_⟩,v⟩
    ·by_cases z:c=a;·subst z;rw[Wv];exact MH (λr hr=>(p r hr).1)<|by lia
     ·exact q c (by lia) h2
    ·by_cases z:c=a;·rw[z];exact Wv
     ·exact(u r rs e).2 c (by lia) h2
   |true=>
    rw[am rfl];obtain⟨e1,e2,e3⟩:=xm T T.length a (by lia);have e4:=Fh ha;generalize mh T T.length a=b at*;obtain⟨p,q,u,v⟩:=Bv T n (b+1) (by lia);have tr:∀c,a<=c->c<=b->T.getD c false=true:=λc h1 h2=>by
     by_cases z:c=a;·rw[z];exact Wv
     ·obtain⟨d,rfl⟩:∃d,c=d+1:=⟨c-1,by lia⟩;exact OA<|e3 d (by lia)<|by lia
    refine⟨λr hr=>?_,λc h1 h2=>?_,λr rs e=>?_,λrs r e=>?_⟩
    ·rcases aO.mp hr with rfl |hr;·exact⟨aq _,e1,e4⟩
     ·exact⟨by have:=(p r hr).1;lia,(p r hr).2⟩
    ·rw[Rj];by_cases z:c<=b;·rw[tr c h1 z];unfold Nv;rw[av h1,av z];rfl
     ·rw[q c (by lia) h2];unfold Nv;rw[ah (show¬c<=b from z),tY,Rk]
    ·cases e;exact⟨Wv,λc h1 h2=>absurd h2<|by show¬c<a;lia⟩
    ·cases rs with
     |nil=>
      have e0:Bw T n (b+1)=[]:=by injection e
      have er:r=(a,b):=by injection e with e _;exact e.symm
      subst er;refine⟨tr b e1<|aq _,λc h1 h2=>?_⟩;have:=q c h1 h2;rw[e0]at this;exact this.symm
     |cons r0 rs=>
      have e0:Bw T n (b+1)=rs++[r]:=by injection e
      exact v rs r e0
  ·rw[ap ha];exact⟨(λr hr=>nomatch hr),(λc h1 h2=>by lia),(λr rs e=>nomatch e),λrs r e=>by cases rs<;>cases e⟩
def nP(T:List Bool):Q8 T 0 (NV T):=Bv T (T.length+1) 0<|by lia
def NU{T T':List Bool}(hl:T.length=T'.length)(h:NV T=NV T'):T=T':=by refine wQ hl λi h1 h2=>?_;have a:=(nP T).any i (cQ _) h1;have b:=(nP T').any i (cQ _) h2;rw[h,b,ag,ar h2,ag,ar h1]at a;exact a.symm
structure Ig(ns:List Nu)(s b:Nat)(p:Pt):Prop where
 l0:s=0->p.lo=none
 l1:0<s->∃q,p.lo=some (ns.getD ((s-1) / 2) n0,q)
 li:p.li=l5 s
 h0:b=2*ns.length->p.hi=none
 h1:b≠2*ns.length->∃q,p.hi=some (ns.getD (b / 2) n0,q)
 hj:p.hj=l5 b
def N3{ns:List Nu}(x:Int):Ig ns s b (Hh ns s b x):=by
 unfold Hh;split
 ·rename_i z;obtain⟨rfl,z2⟩:=z;refine⟨λe=>by lia,λe=>?_,rfl,λe=>by lia,λe=>?_,rfl⟩;·unfold wg;rw[ap<|by lia];exact⟨_,rfl⟩
  ·unfold wg;rw[ap<|by lia,show(s-1) / 2=s / 2 by lia];exact⟨_,rfl⟩
 ·refine⟨λe=>?_,λe=>?_,rfl,λe=>?_,λe=>?_,rfl⟩;·unfold wg;exact am e
  ·unfold wg;rw[ap<|by lia];exact⟨_,rfl⟩
  ·unfold vZ;exact am e
  ·unfold vZ;rw[ap e];exact⟨_,rfl⟩
inductive Rl(ns:List Nu):List (Nat×Nat)->List Pt->Prop where
 |nil:Rl ns [] []
 |cons {r:Nat×Nat} {p:Pt} {rs:List (Nat×Nat)} {ps:List Pt}:Ig ns r.1 r.2 p->Rl ns rs ps->Rl ns (r::rs) (p::ps)
def Jj(ns:List Nu)(T:List Bool):∀(n a:Nat)(x:Int)(k:Nat),Rl ns (Bw T n a) (xR ns T n a x k)
 |0,a,x,k=>.nil
 |n+1,a,x,k=>by
  unfold Bw xR;split
  ·split;·exact .cons (N3 x)<|Jj ns T n _ _ _
   ·exact Jj ns T n _ _ _
  ·exact .nil
def Rl.len{ns:List Nu}{rs:List (Nat×Nat)}{ps:List Pt}(h:Rl ns rs ps):rs.length=ps.length:=by induction h with|nil=>rfl|cons _ _ ih=>exact bi Nat.succ ih
def Rl.get{ns:List Nu}{rs:List (Nat×Nat)}{ps:List Pt}(h:Rl ns rs ps):∀i,i<rs.length->Ig ns (rs.getD i (0,0)).1 (rs.getD i (0,0)).2 (ps.getD i dp):=by induction h with|nil=>intro i hi;exact absurd hi (iU _)|cons p _ ih=>intro i hi;cases i with|zero=>exact p|succ i=>exact ih i<|zh hi
def Kv{n:Nu}:∀{ns:List Nu},G0 ns->∀i,i<ns.length->(kl (ns.getD i n0) n=true↔i<(ns.filter λm=>kl m n).length)
 |[],_,i,h=>absurd h<|iU _
 |m::ns,hs,i,h=>by
  obtain⟨h1,h2⟩:=tU.mp hs;rw[wP];by_cases hk:kl m n=true;·rw[am hk,dG];cases i with|zero=>exact⟨λ_=>Nat.succ_pos _,λ_=>hk⟩|succ i=>have:=Kv (n:=n) h2 i<|zh h;show kl (ns.getD i n0) n=true↔_;rw[this];lia
  ·rw[ap hk];have e:ns.filter (λm=>kl m n)=[]:=by rw[Sy];intro z hz y;have a:=h1 z hz;have b:=T8.mp y;exact hk<|T8.mpr<|by grind
   rw[e];refine⟨λy=>?_,λy=>absurd y<|iU _⟩;cases i with|zero=>exact absurd y hk|succ i=>have hz:ns.getD i n0∈ns:=jc (zh h) n0;have a:=h1 _ hz;have b:=T8.mp (show kl (ns.getD i n0) n=true from y);exact absurd (T8.mpr (show dU m<dU n by grind)) hk
def EI{i j:Nat}{ns:List Nu}(h:G0 ns)(Vi:i<j)(hj:j<ns.length):dU (ns.getD i n0)<dU (ns.getD j n0):=by have:=List.pairwise_iff_getElem.mp h i j (by lia) hj Vi;rw[ag,ar<|by lia,ag,ar hj];exact this
def Bo{i j:Nat}{ns:List Nu}(h:G0 ns)(hi:i<ns.length)(hj:j<ns.length)(e:dU (ns.getD i n0)=dU (ns.getD j n0)):i=j:=by
 rcases gO i j with z |z |z;·have:=EI h z hj;grind
 ·exact z
 ·have:=EI h z hi;grind
def GY{n:Nu}{ns:List Nu}(h:G0 ns):vd ns n<=2*ns.length/\(∀i,i<ns.length->(dU (ns.getD i n0)<dU n↔2*i+1<vd ns n))/\∀i,i<ns.length->(dU (ns.getD i n0)=dU n↔vd ns n=2*i+1):=by
 have lm:(ns.filter λm=>kl m n).length<=ns.length:=nY _ _;have key:=Kv (n:=n) h;unfold vd;generalize(ns.filter λm=>kl m n).length=M at*;by_cases z:M<ns.length/\kl n (ns.getD M n0)=false
 ·rw[am z];refine⟨by lia,λi hi=>?_,λi hi=>?_⟩;·rw[<-T8,key i hi];lia
  ·have k1:¬dU (ns.getD M n0)<dU n:=λy=>by have:=(key M z.1).mp<|T8.mpr y;lia
   have k2:¬dU n<dU (ns.getD M n0):=λy=>by have:=T8.mpr y;rw[z.2]at this;cases this
   have k3:dU (ns.getD M n0)=dU n:=by grind
   constructor;·intro e;have:=Bo h hi z.1<|e.trans k3.symm;lia
   ·intro e;have:i=M:=by lia
    rw[this];exact k3
 ·rw[ap z];refine⟨by lia,λi hi=>?_,λi hi=>?_⟩;·rw[<-T8,key i hi];lia
  ·refine⟨λe=>?_,λe=>by lia⟩;exfalso;have a:¬i<M:=λy=>by have:=T8.mp<|(key i hi).mpr y;grind
   by_cases b:i=M;·subst b;refine z ⟨hi,?_⟩;cases hk:kl n (ns.getD i n0)with|false=>rfl|true=>have:=T8.mp hk;grind
   ·have:=EI h (show M<i by lia) hi;have:=(key M<|by lia).mp<|T8.mpr (by grind);lia
def J6{f:Bool}{a b:Rat}:KT (tu a b) f=true↔(a<b\/(a=b/\f=true)):=by
 unfold KT tu;by_cases e:a=b
 ·rw[am e];constructor;·intro h;exact .inr ⟨e,by simpa using h⟩
  ·rintro(h |⟨_,h⟩);·grind
   ·rw[h];rfl
 ·rw[ap e];by_cases l:a<b;·rw[am l];exact⟨λ_=>.inl l,λ_=>rfl⟩
  ·rw[ap l];exact⟨(λh=>by cases h),λh=>by rcases h with h |⟨h,_⟩<;>contradiction⟩
def xi{a:Nat}:l5 a=true↔a%2=1:=eO
def Lq{n:Nu}{ns:List Nu}(h:G0 ns){p:Pt}(hp:Ig ns s b p)(hs:s<=b)(hb:b<=2*ns.length):M9 n p=Nv (vd ns n) (s,b):=by
 obtain⟨c1,c2,c3⟩:=GY (n:=n) h;generalize vd ns n=c at*;have e1:KT (LG p.lo n) p.li=decide (s<=c):=by
  by_cases z:s=0;·rw[hp.l0 z,av<|by lia];rfl
  ·obtain⟨q,e⟩:=hp.l1 (by lia);have hi:(s-1) / 2<ns.length:=by lia
   rw[e,gL,eO];show KT (tu (dU<|ns.getD ((s-1) / 2) n0)<|dU n) p.li=true↔_;rw[J6,c2 _ hi,c3 _ hi,hp.li,xi];lia
 have e2:KT (LH p.hi n) p.hj=decide (c<=b):=by
  by_cases z:b=2*ns.length;·rw[hp.h0 z,av<|by lia];rfl
  ·obtain⟨q,e⟩:=hp.h1 z;have hi:b / 2<ns.length:=by lia
   rw[e,gL,eO];show KT (tu (dU n)<|dU<|ns.getD (b / 2) n0) p.hj=true↔_;have d2:=c2 _ hi;have d3:=c3 _ hi;have lt:dU n<dU (ns.getD (b / 2) n0)↔¬(2*(b / 2)+1<c)/\¬c=2*(b / 2)+1:=by
    rw[<-d2,<-d3];constructor;·intro y;constructor<;>intro<;>grind
    ·rintro⟨y,y'⟩;grind
   have eq:dU n=dU (ns.getD (b / 2) n0)↔c=2*(b / 2)+1:=by rw[<-d3];exact eq_comm
   rw[J6,lt,eq,hp.hj,xi];lia
 unfold M9 Nv;rw[e1,e2]
def NW{n:Nu}{ns:List Nu}(h:G0 ns){rs:List (Nat×Nat)}{ps:List Pt}(r:Rl ns rs ps):(∀r∈rs,r.1<=r.2/\r.2<=2*ns.length)->ps.any (M9 n)=rs.any (Nv<|vd ns n):=by induction r with|nil=>intro;rfl|@cons r p rs ps hp _ ih=>intro hr;have:=hr r (by simp);rw[Rj,Rj,Lq h hp this.1 this.2,ih λq hq=>hr q<|aM _ hq]
def Q0{a b:Rat}:decide (tu a b=0)=decide (a=b):=by
 unfold tu;by_cases e:a=b;·rw[am e,av e];rfl
 ·rw[ap e,ah e];split<;>rfl
def Lg{ns:List Nu}(h:G0 ns){p p':Pt}(hp:Ig ns s b p)(Wm:Ig ns s' b' p')(hs:s<=b)(hb:b<=2*ns.length)(Xq:s'<=b')(hb':b'<=2*ns.length):vW p p'=true↔s=s'/\b=b':=by
 have e1:∀{x y:Nat},decide (l5 x=l5 y)=true↔x%2=y%2:=λ{x y}=>by rw[eO,gL,xi,xi];lia
 unfold vW;rw[br,br,br,hp.li,Wm.li,hp.hj,Wm.hj,e1,e1];have lo:Db p.lo p'.lo=true↔(s=0/\s'=0)\/(0<s/\0<s'/\(s-1) / 2=(s'-1) / 2):=by
  by_cases z:s=0
  ·rw[hp.l0 z];by_cases z':s'=0;·rw[Wm.l0 z'];exact⟨λ_=>.inl ⟨z,z'⟩,λ_=>rfl⟩
   ·obtain⟨q,e⟩:=Wm.l1 (by lia);rw[e];exact⟨(λy=>by cases y),λy=>by lia⟩
  ·obtain⟨q,e⟩:=hp.l1 (by lia);rw[e];by_cases z':s'=0;·rw[Wm.l0 z'];exact⟨(λy=>by cases y),λy=>by lia⟩
   ·obtain⟨q',e'⟩:=Wm.l1 (by lia);rw[e'];show decide (tu _ _=0)=true↔_;rw[Q0,eO];constructor;·intro y;exact .inr ⟨by lia,by lia,Bo h (by lia) (by lia) y⟩
    ·intro y;have:(s-1) / 2=(s'-1) / 2:=by lia
     show dU (ns.getD ((s-1) / 2) n0)=dU (ns.getD ((s'-1) / 2) n0);rw[this]
 have hi:Db p.hi p'.hi=true↔(b=2*ns.length/\b'=2*ns.length)\/(b≠2*ns.length/\b'≠2*ns.length/\b / 2=b' / 2):=by
  by_cases z:b=2*ns.length
  ·rw[hp.h0 z];by_cases z':b'=2*ns.length;·rw[Wm.h0 z'];exact⟨λ_=>.inl ⟨z,z'⟩,λ_=>rfl⟩
   ·obtain⟨q,e⟩:=Wm.h1 z';rw[e];exact⟨(λy=>by cases y),λy=>by lia⟩
  ·obtain⟨q,e⟩:=hp.h1 z;rw[e];by_cases z':b'=2*ns.length;·rw[Wm.h0 z'];exact⟨(λy=>by cases y),λy=>by lia⟩
   ·obtain⟨q',e'⟩:=Wm.h1 z';rw[e'];show decide (tu _ _=0)=true↔_;rw[Q0,eO];constructor;·intro y;exact .inr ⟨z,z',Bo h (by lia) (by lia) y⟩
    ·intro y;have:b / 2=b' / 2:=by lia
     show dU (ns.getD (b / 2) n0)=dU (ns.getD (b' / 2) n0);rw[this]
 rw[lo,hi];lia
def Lf{ns:List Nu}(h:G0 ns){rs Wk:List (Nat×Nat)}{ps YW:List Pt}(r:Rl ns rs ps)(r':Rl ns Wk YW)(hr:∀r∈rs,r.1<=r.2/\r.2<=2*ns.length)(hr':∀r∈Wk,r.1<=r.2/\r.2<=2*ns.length):Gb ps YW=true↔rs=Wk:=by
 have l:=r.len;have l':=r'.len;have pt:∀i,i<rs.length->i<Wk.length->(vW (ps.getD i dp) (YW.getD i dp)=true↔rs.getD i (0,0)=Wk.getD i (0,0)):=λi h1 h2=>by have a:=hr _<|jc h1 (0,0);have b:=hr' _<|jc h2 (0,0);rw[Lg h (r.get i h1) (r'.get i h2) a.1 a.2 b.1 b.2,Prod.ext_iff]
 unfold Gb;rw[br,eO,cz];constructor;·rintro⟨e,al⟩;refine wQ (by lia) λi h1 h2=>?_;have:=(pt i h1 h2).mp<|al i<|cc.mpr (by lia);rw[ag,ar h1,ag,ar h2]at this;exact this
 ·rintro rfl;exact⟨by lia,λi hi=>(pt i (by have:=cc.mp hi;lia)<|by have:=cc.mp hi;lia).mpr rfl⟩
def DS(T:List Bool):G1:=(List.range T.length).filter λk=>T.getD k false
def Bx{N:Nat}{P:Nat->Bool}(h:∀c,c<N->P c=false):(List.range N).filter P=[]:=by rw[Sy];intro c hc;rw[h c<|cc.mp hc];decide
def Gi{s:Nat}{P:Nat->Bool}(hs:P s=true)(h:∀c,c<s->P c=false):∀N,s<N->∃l,(List.range N).filter P=s::l
 |0,z=>absurd z<|iU _
 |N+1,z=>by
  rw[lP,List.filter_append];by_cases y:s=N;·subst y;rw[Bx h,MS,wP,am hs];exact⟨_,rfl⟩
  ·obtain⟨l,e⟩:=Gi hs h N (by lia);rw[e];exact⟨_,rfl⟩
def Gh{s:Nat}{P:Nat->Bool}(hs:P s=true):∀N,s<N->(∀c,s<c->c<N->P c=false)->∃l,(List.range N).filter P=l++[s]
 |0,z,_=>absurd z<|iU _
 |N+1,z,h=>by
  rw[lP,List.filter_append];by_cases y:s=N;·subst y;rw[wP,am hs];exact⟨_,rfl⟩
  ·obtain⟨l,e⟩:=Gh hs N (by lia) λc h1 h2=>h c h1 (by lia);rw[e,wP,ap<|by rw[h N (by lia)<|by lia];decide];exact⟨l,by rw[List.filter_nil,iV]⟩
structure Uh(ns:List Nu)(T:List Bool):Prop where
 ok:vn ns
 Xk:G0 ns
 len:T.length=2*ns.length+1
def Uh.rl{ns:List Nu}{T:List Bool}(h:Uh ns T)(x:Int):Rl ns (NV T) (pV ns T x):=Jj ns T _ _ _ _
def Uh.rg{ns:List Nu}{T:List Bool}(h:Uh ns T):∀r∈NV T,r.1<=r.2/\r.2<=2*ns.length:=λr hr=>by have:=(nP T).rg r hr;have:=h.len;lia
def L4{ns:List Nu}{T:List Bool}(h:Uh ns T)(x:Int)(n:Nu):(pV ns T x).any (M9 n)=T.getD (vd ns n) false:=by rw[NW h.Xk (h.rl x) h.rg];exact(nP T).any _ (cQ _)<|by have:=(GY (n:=n) h.Xk).1;have:=h.len;lia
def JV{ns:List Nu}{T T':List Bool}(h:Uh ns T)(h':Uh ns T')(x x':Int):Gb (pV ns T x) (pV ns T' x')=decide (T=T'):=by rw[gL,eO,Lf h.Xk (h.rl x) (h'.rl x') h.rg h'.rg];exact⟨NU<|h.len.trans h'.len.symm,λe=>by rw[e]⟩
inductive zd(ns:List Nu):D->D->Nat->Prop where
 |none {last:Nat}:zd ns (.tup [.str "none"]) .TN last
 |U9 {last:Nat}:zd ns (.tup [.str "endless"]) (.int (last:Nat)) last
 |pl {a last:Nat} {q:Uk}:a≠last->(if last=0 then(a-1) / 2 else a / 2)<ns.length->(last=0->0<a)->jh (ns.getD (if last=0 then(a-1) / 2 else a / 2) n0) q->zd ns (.tup [.str (if l5 a then "at"else "short"),q.D]) (.int (a:Nat)) last
def jP(ds:bX)(d:D):Prop:=∃(ns:List Nu)(told a:D)(last:Nat),ds=[told,.lst<|ns.map ic,a,.int (last:Nat)]/\vn ns/\zd ns told a last/\d=.bl true
def td:∀ds d,jP ds d->ds.length=4:=by rintro _ _ ⟨_,_,_,_,rfl,_⟩;rfl
def jt(ds:bX)(d:D):Prop:=∃(ns:List Nu)(T:List Bool)(x:Int),ds=[gM<|pV ns T x,.lst<|ns.map ic,.lst<|T.map D.bl]/\Uh ns T/\d=.bl true
def si:∀ds d,jt ds d->ds.length=3:=by rintro _ _ ⟨_,_,_,rfl,_⟩;rfl
def iy(ds:bX)(d:D):Prop:=∃(ns:List Nu)(T:List Bool)(x:Int)(xs:aG),ds=[gM<|pV ns T x,.lst<|ns.map ic,.lst<|T.map D.bl,ba xs]/\Uh ns T/\xs≠[]/\xs.length<=100/\d=.bl true
def pM:∀ds d,iy ds d->ds.length=4:=by rintro _ _ ⟨_,_,_,_,rfl,_⟩;rfl
def NK(b:Bool):(!(ke<|.str (if b then "at"else "short")).eqv (ke<|.str (if b then "at"else "short")))=false:=by cases b<;>decide
def AN(b:Bool):SeqAt.shaped (ke<|.str (if b then "at"else "short"))=true:=by cases b<;>decide
def M2(T:List Bool):bX:=(DS T).map (λ(k:Nat)=>D.int (k:Int))++[.TN]
def DN:∀l:G1,PyData.canLayAll0 (TZ<|l.map (λ(k:Nat)=>D.int (k:Int))++[.TN])=true/\PyData.depthAll (TZ<|l.map (λ(k:Nat)=>D.int (k:Int))++[.TN])<=10
 |[]=>⟨by decide,by decide⟩
 |k::l=>by
  obtain⟨a,b⟩:=DN l;constructor;·show((ke<|.int k).canLay0&&PyData.canLayAll0 (TZ<|l.map (λ(k:Nat)=>D.int (k:Int))++[.TN]))=true;rw[a];rfl
  ·show PyData.depthAll (ke (.int k)::TZ (l.map (λ(k:Nat)=>D.int (k:Int))++[.TN]))<=10;simp only[PyData.depthAll,ke,PyData.depth];lia
def mD(l:G1):SeqAt.shaped (ke<|.lst<|l.map (λ(k:Nat)=>D.int (k:Int))++[.TN])=true:=by
 obtain⟨a,b⟩:=DN l;show(PyData.canLay0 (ke<|.lst _)&&decide (PyData.depth (ke<|.lst _)<=64))=true;rw[br];refine⟨?_,av ?_⟩;·show PyData.canLay0 (.list<|TZ _)=true;simp only[PyData.canLay0];exact a
 ·show PyData.depth (.list<|TZ _)<=64;simp only[PyData.depth];lia
def DW(l:G1):(ke<|.lst<|l.map (λ(k:Nat)=>D.int (k:Int))++[.TN]).eqv (ke<|.lst [.TN])=l.isEmpty:=by cases l with|nil=>rfl|cons k l=>rfl
def Pn(l:bX)(x y:D):tZ (l++[x]++[y]) (-2)=some x:=by unfold tZ CM;rw[ap<|by decide,aJ,aJ,cj,cj,am<|by lia];show(l++[x]++[y])[(-2+((l.length+1+1:Nat):Int)).toNat]?=some x;rw[show(-2+((l.length+1+1:Nat):Int)).toNat=l.length by lia,ff,aX<|aq _,gc];rfl
def Hz{ns:List Nu}{T:List Bool}(h:Uh ns T)(x:Int):(DS T=[]/\pV ns T x=[])\/∃(s:Nat)(l:G1),DS T=s::l/\zd ns (Fc<|pV ns T x) (.int (s:Nat)) 0:=by
 have rl:=h.rl x;have runs:=nP T;have ok:=(AT h.ok h.len x).2;generalize pV ns T x=ps at rl ok;have rg:=h.rg;generalize NV T=rs at*;cases rl with
 |nil=>refine .inl ⟨Bx λc hc=>?_,rfl⟩;have:=runs.any c (cQ _) hc;exact this.symm
 |@cons r p rs ps hp _=>
  obtain⟨h1,h2⟩:=runs.hd r rs rfl;have:=rg r (by simp);have:=h.len;obtain⟨l,e⟩:=Gi h1 (λc hc=>h2 c (cQ _) hc) T.length (by lia);refine .inr ⟨r.1,l,e,?_⟩;show zd ns (HL p.lo p.li) _ _;by_cases z:r.1=0;·rw[hp.l0 z,z];exact .U9
  ·obtain⟨q,e⟩:=hp.l1 (by lia);have Xm:=(ok p<|by simp).1 _ _ e;rw[e,hp.li];exact .pl z (by rw[am rfl];lia) (λ_=>by lia)<|by rw[am rfl];exact Xm
def B2{ns:List Nu}{T:List Bool}(h:Uh ns T)(x:Int)(Uy:DS T≠[]):∃(s:Nat)(l:G1),DS T=l++[s]/\zd ns (OV<|pV ns T x) (.int (s:Nat)) (T.length-1):=by
 have rl:=h.rl x;have runs:=nP T;have ok:=(AT h.ok h.len x).2;generalize pV ns T x=ps at rl ok;have rg:=h.rg;generalize NV T=rs at*;have lr:=rl.len;rcases bR rs with rfl |⟨rs,r,rfl⟩;·exact absurd (Bx λc hc=>(runs.any c (cQ _) hc).symm) Uy
 ·rw[dj]at*;rcases bR ps with rfl |⟨ps,p,rfl⟩;·simp at lr
  ·rw[dj]at*;rw[aJ,aJ,cj,cj]at lr;have hp:=rl.get rs.length (by simp);rw[show(rs++[r]).getD rs.length (0,0)=r by simp,show(ps++[p]).getD rs.length dp=p by rw[show rs.length=ps.length by lia];simp]at hp;obtain⟨h1,h2⟩:=runs.la rs r rfl;have:=rg r (by simp);have:=h.len;obtain⟨l,e⟩:=Gh h1 T.length (by lia) h2;refine⟨r.2,l,e,?_⟩;rw[show OV (ps++[p])=HL p.hi p.hj by unfold OV;rw[Tk];rfl];by_cases z:r.2=2*ns.length;·rw[hp.h0 z,z,h.len];exact .U9
   ·obtain⟨q,e⟩:=hp.h1 z;have Xm:=(ok p<|by simp).2 _ _ e;rw[e,hp.hj];exact .pl (by lia) (by rw[ap<|by lia];lia) (λz=>by lia)<|by rw[ap<|by lia];exact Xm
section
variable {X:Cx}
def vj(h:c7 P w K mg base k jK ib X)(TJ:mg "isinstance"=none)(TQ:mg "tuple"=none)(TH:mg "len"=none)(cO:Callee X "order_of" oZ)(cI:Callee X "is_place" pi)(cP:Callee X "_law_place" ig):Go X jK ib jP:=by
 rintro ds d ⟨ns,told,a,last,rfl,ok,he,rfl⟩;have t:=h.at';haveI:=h.T6;have b1:=h.bt TJ;have b2:=h.bt TQ;have b3:=h.bt TH;show TB X [.val told,.val<|.lst<|ns.map ic,.val a,.val<|.int (last:Nat),.un] _ _;cases he with
 |none=>exact eF (eV (TC.eq (hR<|aa t 2) rfl)<|aA<|aW<|u9 t (Tz.p<|aa t 0) (Tz.p (d:=.tup [.str "none"])<|bw<|ac m6 ai) (by decide) (by decide)<|by decide)|U9=>refine ao (c9 (TC.eq (hR<|aa t 2) rfl) bM) ?_;exact eF<|eV (TC.eq (c6 (aa t 2)<|aa t 3)<|av rfl)<|aA<|aW<|u9 t (Tz.p<|aa t 0) (Tz.p (d:=.tup [.str "endless"])<|bw<|ac m6 ai) (by decide) (by decide)<|by decide
 |@pl a _ q ne hi h0 Xm=>
  refine ao (c9 (TC.eq (hR<|aa t 2) rfl) bM) ?_;refine ao (c9 (TC.eq (c6 (aa t 2)<|aa t 3)<|ah<|by lia) bM) ?_;have VQ:=ok.1 _<|jc hi n0;refine ao (TW:=[.val<|.tup [.str (if l5 a then "at"else "short"),q.D],.val<|.lst<|ns.map ic,.val<|.int (a:Nat),.val<|.int (last:Nat),.val<|ic<|ns.getD (if last=0 then(a-1) / 2 else a / 2) n0]) ?_ ?_
  ·by_cases z:last=0;·rw[am z]at hi ⊢;have:=h0 z;exact eV (TC.eq (c6 (aa t 3) af)<|av<|by lia)<|aA<|bC t 4<|aF (Tz.ql<|aa t 1) (Tz.eq (gv t (dD (aa t 2) af) af) (show D.int _=D.int (((a-1) / 2:Nat):Int)by congr 1;lia))<|e8 _<|l6 hi
   ·rw[ap z]at hi ⊢;exact c9 (TC.eq (c6 (aa t 3) af)<|ah<|by lia)<|aA<|bC t 4<|aF (Tz.ql<|aa t 1) (Tz.eq (gv t (aa t 2) af)<|bi D.int<|GC a)<|e8 _<|l6 hi
  generalize ns.getD (if last=0 then(a-1) / 2 else a / 2) n0=n at*;have a2:((a:Int)%2=1/\l5 a=true)\/((a:Int)%2=0/\l5 a=false):=by
   by_cases z:a%2=1;·exact .inl ⟨by lia,av z⟩
   ·exact .inr ⟨by lia,ah z⟩
  refine ao (c9 (Uq.toT<|jD (TC.eq (fj<|dC<|qz t b1 b2 (aa t 0) rfl) rfl)<|jD (TC.eq (qA (bF t b3<|Tz.qt<|aa t 0) af) rfl)<|jD (TC.eq (je t (Tz.p (d:=.str (if l5 a then "at"else "short"))<|aF (Tz.qt<|aa t 0) af) (Tz.p (d:=.str (if l5 a then "at"else "short"))<|aF (T1.toQ<|fk<|ac m6<|ac m6 ai) (bN (aa t 2) af) ?_) (AN _) (AN _)<|NK _) rfl)<|oG<|TC.eq (fj<|dC<|au t cI (ac (aF (Tz.qt<|aa t 0) af) ai) ⟨n,q,Xm,rfl,rfl⟩) rfl) bM) ?_;·rcases a2 with⟨e1,e2⟩ |⟨e1,e2⟩<;>rw[e1,e2]<;>rfl
  exact aA<|aW<|Tz.eq (jd t (au t cO (ac (aF (Tz.qt<|aa t 0) af)<|ac (au t cP (ac (aa t 4)<|ac (cp (aa t 2) af) ai) ⟨n,_,rfl,VQ,rfl⟩) ai) ⟨n,n,q,_,Xm,Jy VQ _,rfl,rfl⟩) af)<|by unfold tu;rw[am rfl];rfl
def uJ(h:c7 P w K mg base k jn gI X)(TH:mg "len"=none)(TK:mg "range"=none)(cE:Callee X "_law_end_right" jP)(cG:Callee X "greatest_of" j7)(cL:Callee X "least_of" pe):Go X jn gI jt:=by
 rintro ds d ⟨ns,T,x,rfl,li,rfl⟩;have t:=h.at';haveI:=h.T6;have b1:=h.bt TK;have b3:=h.bt TH;have lT:=li.len;have l1:=li.ok.2;have NT:=AT li.ok li.len x;show TB X [.val<|gM<|pV ns T x,.val<|.lst<|ns.map ic,.val<|.lst<|T.map D.bl,.un] _ _;have hsm:(DS T).length<=T.length:=by unfold DS;exact bL (nY _ _)<|by rw[fJ];exact aq _
 refine ao (n9 t 3 (xs:=M2 T)<|yU (T1.Ux (fG (rs:=(DS T).map λ(k:Nat)=>D.int (k:Int)) t ["_law_region_here","_law_numbers_here","_law_truths","_law_some","_law_k"] (Ah<|by decide) (UG.eq (fZ t b1 (bF t b3<|Tz.ql<|aa t 2) (by rw[ae];lia)<|by rw[ae];lia) (show _=dO 0 T.length by rw[ae,fK])) (by simp[dO];exact fV<|by lia) λX' cx=>?_)) (T1.Ux<|fk<|ac iK ai)<|by rw[ae];exact gQ<|fV<|by show _+1<1000;lia) ?_
 ·have t':=cx.at';have e:dO 0 T.length=(List.range T.length).map λ(i:Nat)=>D.int (i:Int):=by unfold dO;exact fP λi _=>by rw[iQ]
  rw[e];exact TU.Wd (λ(i:Nat)=>D.int (i:Int)) (λ(i:Nat)=>D.int (i:Int)) (λi=>T.getD i false) (λ(i:Nat)=>[.val<|gM<|pV ns T x,.val<|.lst<|ns.map ic,.val<|.lst<|T.map D.bl,.un,.val<|.int (i:Int)]) (List.range T.length) _ (λi _=>bE t' 4) (λi _ j _=>bE t' 4) (λi hi=>dC<|aF (Tz.ql<|aa t' 2 rfl) (aa t' 4 rfl)<|e8 _<|tv<|cc.mp hi) λi _=>aa t' 4 rfl
 refine fB 3 rfl ?_;have cl:pe [gM<|pV ns T x] (Fc<|pV ns T x):=⟨_,rfl,NT,rfl⟩;have cg:j7 [gM<|pV ns T x] (OV<|pV ns T x):=⟨_,rfl,NT,rfl⟩;unfold M2;rcases Hz li x with⟨e0,e1⟩ |⟨s,l,e0,hs⟩;·rw[e1]at cl cg;refine ao (c9 (TC.eq (fj<|dC<|au t cE (ac (au t cL (ac (aa t 0) ai)<|by rw[e1];exact cl)<|ac (aa t 1)<|ac (aF (d:=.TN) (Tz.ql<|aa t 3) af<|by rw[e0];rfl)<|ac af ai) ⟨ns,_,_,0,rfl,li.ok,.none,rfl⟩) rfl) bM) ?_;exact eF<|eV (TC.eq (tq t (Tz.p<|aa t 3) (Tz.p<|T1.Ux<|fk<|ac iK ai) (mD _) (mD [])<|DW _)<|by rw[e0];rfl)<|aA<|aW<|u9 t (Tz.p<|au t cG (ac (aa t 0) ai)<|by rw[e1];exact cg) (Tz.p (d:=.tup [.str "none"])<|bw<|ac m6 ai) (by decide) (by decide)<|by decide
 ·obtain⟨s',l',e2,hg⟩:=B2 li x (by rw[e0];simp);refine ao (c9 (TC.eq (fj<|dC<|au t cE (ac (au t cL (ac (aa t 0) ai) cl)<|ac (aa t 1)<|ac (aF (d:=.int (s:Nat)) (Tz.ql<|aa t 3) af<|by rw[e0];exact e8 0 rfl)<|ac af ai) ⟨ns,_,_,0,rfl,li.ok,hs,rfl⟩) rfl) bM) ?_;refine ao (c9 (TC.eq (tq t (Tz.p<|aa t 3) (Tz.p<|T1.Ux<|fk<|ac iK ai) (mD _) (mD [])<|DW _)<|by rw[e0];rfl) bM) ?_;exact aA<|aW<|au t cE (ac (au t cG (ac (aa t 0) ai) cg)<|ac (aa t 1)<|ac (aF (d:=.int (s':Nat)) (Tz.ql<|aa t 3) (dy af)<|by rw[e2,bO];exact Pn _ _ _)<|ac (Tz.eq (dD (bF t b3<|Tz.ql<|aa t 2) af) (show D.int _=D.int ((T.length-1:Nat):Int)by rw[ae];congr 1;lia)) ai) ⟨ns,_,_,T.length-1,rfl,li.ok,hg,rfl⟩
def sn(h:c7 P w K mg base k iu fQ X)(TK:mg "range"=none)(TH:mg "len"=none)(TJ:mg "isinstance"=none)(Vt:mg "bool"=none)(cR:Callee X "in_region" qS)(cN:Callee X "_law_number" kc)(cP:Callee X "_law_place" ig)(cB:Callee X "_law_belongs" mw):Go X iu fQ iy:=by
 rintro ds d ⟨ns,T,x,xs,rfl,li,hx,hl,rfl⟩;have t:=h.at';haveI:=h.T6;have b1:=h.bt TK;have b3:=h.bt TH;have b4:=h.bt TJ;have b5:=h.bt Vt;have l1:=li.ok.2;have xp:=az.mpr hx;have NT:=AT li.ok li.len x;show TB X [.val<|gM<|pV ns T x,.val<|.lst<|ns.map ic,.val<|.lst<|T.map D.bl,.val<|ba xs,.un,.un,.un] _ _;refine ao (n9 t 4 (xs:=(ns++xs.map zz).map ic)<|T1.eq (yU (aa t 1) (T1.Ux (fG (rs:=xs.map λy=>ic<|zz y) t ["_law_region_here","_law_numbers_here","_law_truths","_law_xs","_law_asked","_law_k","_law_found","_law_x"] (Ah<|by decide) (m7<|aa t 3) (by rw[ae];exact fV<|by lia) λX' cx=>?_))<|by rw[ae,ae];exact gQ<|fV<|by lia)<|by rw[bO,cX];rfl) ?_;·have t':=cx.at';exact TU.gen D.int (λy=>ic<|zz y) (λy=>[.val<|gM<|pV ns T x,.val<|.lst<|ns.map ic,.val<|.lst<|T.map D.bl,.val<|ba xs,.un,.un,.un,.val<|.int y]) xs _ (λy _=>bE t' 7) (λy _ z _=>bE t' 7) λy _=>au t' (cx.callee cN) (ac (aa t' 7 rfl) ai) ⟨y,rfl,rfl⟩
 refine fB 4 rfl ?_;have W4:∀n∈ns++xs.map zz,wD n:=λn hn=>by
  rcases lQ.mp hn with hn |hn;·exact li.ok.1 n hn
  ·obtain⟨y,_,rfl⟩:=dq.mp hn;exact JJ y
 have lA:(ns++xs.map zz).length<1000:=by rw[aJ,ae];lia
 generalize ns++xs.map zz=A at*;refine ao (TW:=[.val<|gM<|pV ns T x,.val<|.lst<|ns.map ic,.val<|.lst<|T.map D.bl,.val<|ba xs,.val<|.lst<|A.map ic,.un,.un]) (jx t (UG.eq (fZ t b1 (bF t b3<|Tz.ql<|aa t 4) (by rw[ae];lia)<|by rw[ae];lia) (show _=dO 0 A.length by rw[ae,fK]))<|T5.Ue (λ_=>[.val<|gM<|pV ns T x,.val<|.lst<|ns.map ic,.val<|.lst<|T.map D.bl,.val<|ba xs,.val<|.lst<|A.map ic,.un,.un]) (λi d hi=>?_) rfl rfl)<|aA<|aW sP;obtain⟨VS,rfl⟩:=iR hi;have VQ:=W4 _<|jc VS n0;have m0:=bx (i:Int) (show(xs.length:Int)≠0 by lia);have m1:=bp (i:Int) (show 0<(xs.length:Int)by lia);have ax:(xs.map D.int)[(i%xs.length:Nat)]?=some (.int<|xs.getD (i%xs.length) 0):=by rw[aH,uA (Nat.mod_lt _ xp) 0];rfl
 refine⟨_,aZ t 5,TB.weak (Uf:=[.val<|gM<|pV ns T x,.val<|.lst<|ns.map ic,.val<|.lst<|T.map D.bl,.val<|ba xs,.val<|.lst<|A.map ic,.val<|.int (i:Int),.val<|.bl<|T.getD (vd ns<|A.getD i n0) false]) ?_<|.keep<|.keep<|.keep<|.keep<|.keep<|.forget<|.forget .nil⟩;refine ao (bC t 6 (d:=.bl<|T.getD (vd ns<|A.getD i n0) false)<|au t cR (ac (aa t 0)<|ac (au t cP (ac (aF (Tz.ql<|aa t 4) (aa t 5)<|e8 _<|l6 VS)<|ac (gv t (aF (d:=.int<|xs.getD (i%xs.length) 0) (Tz.ql<|aa t 3) (Tz.eq (bN (aa t 5) (bF t b3<|Tz.ql<|aa t 3)<|by rw[ae];lia) (show D.int _=D.int ((i%xs.length:Nat):Int)by rw[ae];congr 1))<|e8 _ ax) af) ai) ⟨_,_,rfl,VQ,rfl⟩) ai) ⟨_,_,_,rfl,NT,Jy VQ _,by rw[L4 li x]⟩) ?_;generalize hv:T.getD (vd ns<|A.getD i n0) false=v;exact aA<|c9 (TC.eq (me (v:=false) (TC.eq (fj<|dC<|oH (d:=.bl v) t b4 b5 (aa t 6) rfl) rfl) λ_=>TC.eq (je t (Tz.p (d:=.bl v)<|aa t 6) (Tz.p (d:=.bl v)<|au t cB (ac (aa t 1)<|ac (aa t 2)<|ac (aF (Tz.ql<|aa t 4) (aa t 5)<|e8 _<|l6 VS) ai) ⟨ns,T,_,rfl,li.ok,VQ,li.len,by rw[hv]⟩) (eD _) (eD _) rfl)<|by rw[show(ke<|.bl v).eqv (ke<|.bl v)=true by cases v<;>decide];rfl) rfl) bM
end
def Bm(f:aG):TD (aU f):=.tup (TL.all λd hd=>by obtain⟨i,_,rfl⟩:=dq.mp hd;exact .int)
def PY(p:Uk):TD p.D:=by
 unfold Uk.D;split;·exact Bm _
 ·exact .tup<|.cons (Bm _)<|.cons (Bm _)<|.cons (Bm _) .nil
def M0(e:OP):TD (xh e):=by cases e with|none=>exact .TN|some m=>exact PY m.2
def IN(xs:List Pt):TD (gM xs):=.tup (TL.all λd hd=>by obtain⟨x,_,rfl⟩:=dq.mp hd;exact .tup<|.cons (M0 _)<|.cons .bl<|.cons (M0 _)<|.cons .bl .nil)
def Fk(xs:aG)(l h:Option Int):(oN xs l h).length<=xs.length:=by unfold oN;rw[eT,du];lia
def PV(v:Int)(n:Nat):List Bool:=(List.range n).map λ(j:Nat)=>decide<|v / 2 ^ j%2 ^ 1=1
def NO{i:Nat}{T:List Bool}(h:i<T.length):T≠T.set i (!T.getD i false):=λz=>by
 have a:(T.set i (!T.getD i false))[i]?=some (!T.getD i false):=by rw[bI h]
 rw[<-z,uA h false]at a;have:=bS a;cases e:T.getD i false<;>rw[e]at this<;>cases this
section
variable {X:Cx}
theorem Q3(h:c7 P w K mg base k KI xQ X)(TK:mg "range"=none)(XO:mg "max"=none)(XN:mg "min"=none)(TH:mg "len"=none)(cN:Callee X "_law_numbers" ms)(cR:Callee X "_law_rising" ny)(cG:Callee X "_law_region" j9)(cC:Callee X "_law_cell" qV)(cE:Callee X "_law_ends_right" jt)(cP:Callee X "_law_places_right" iy)(cS:Callee X "same_region" j5):Go X KI xQ Bh:=by
 rintro ds d ⟨ns,rfl,X1,rfl⟩;have t:=h.at';haveI:=h.T6;have b1:=h.bt TK;have b2:=h.bt XO;have b3:=h.bt XN;have b4:=h.bt TH;show TB X [.val<|.UC ns,.un,.un,.un,.un,.un,.un,.un] _ _;refine ao (jx t (fZ t b1 (Mg t b2 af<|Mf t b3 (bF t b4<|Tz.qs<|aa t 0) af) (by lia)<|by lia)<|T5.Ue (λ_=>[.val<|.UC ns,.un,.un,.un,.un,.un,.un,.un]) (λi d hd=>?_) rfl rfl)<|aA<|aW sP;obtain⟨VS,rfl⟩:=iR hd;have hi4:(i:Int)<1000:=by lia
 refine⟨_,aZ t 1,?_⟩;have lx:=AY (sQ ns i) 20;refine TB.weak (Uf:=[.val<|.UC ns,.val<|.int i,.val<|ba<|nQ (sQ ns i) 20,.val<|.lst<|(rV<|oN (nQ (sQ ns i) 20) none<|some<|(nQ (sQ ns i) 20).getD 5 0%6).map ic,.un,.un,.un,.un]) ?_<|.keep<|.forget<|.forget<|.forget<|.forget<|.forget<|.forget<|.forget .nil;refine ao (bC t 2 (d:=ba<|nQ (sQ ns i) 20)<|au t cN (ac (au t cC (ac (aa t 0)<|ac (aa t 1) ai) ⟨ns,i,rfl,by lia,hi4,rfl⟩)<|ac af ai) ⟨_,20,rfl,by decide,rfl⟩) ?_;generalize nQ (sQ ns i) 20=xs at*;have xg:∀j:Nat,j<20->tZ (xs.map D.int) (j:Int)=some (.int<|xs.getD j 0):=λj hj=>mi (by lia);refine ao (bC t 3 (d:=.lst<|(rV<|oN xs none<|some<|xs.getD 5 0%6).map ic)<|au t cR (ac (d:=ba<|oN xs none<|some<|xs.getD 5 0%6) (Tz.eq (T1.Ux<|xk (Tz.ql<|aa t 2) rH<|rG<|bN (aF (Tz.ql<|aa t 2) af<|xg 5<|by decide) af)<|by rw[uC]) ai) ⟨_,rfl,by have:=Fk xs none<|some<|xs.getD 5 0%6;lia,rfl⟩) ?_;obtain⟨Xk,ok,ll⟩:=Gg<|oN xs none<|some<|xs.getD 5 0%6;have lc:=Fk xs none<|some<|xs.getD 5 0%6;generalize rV (oN xs none<|some<|xs.getD 5 0%6)=A at*;have lA:A.length<=20:=by lia
 have W4:vn A:=⟨ok,by lia⟩;refine TB.weak (Uf:=[.val<|.UC ns,.val<|.int i,.val<|ba xs,.val<|.lst<|A.map ic,.un,.un,.un,.un]) ?_<|.keep<|.keep<|.keep<|.keep<|.keep<|.keep<|.keep<|.keep .nil;have et:(PV (xs.getD 6 0)<|2*A.length+1).map D.bl=(List.range<|2*A.length+1).map λ(j:Nat)=>D.bl (decide<|xs.getD 6 0 / 2 ^ j%2 ^ 1=1):=by unfold PV;rw[cX];rfl
 refine ao (rc (rs:=(List.range<|2*A.length+1).map λ(j:Nat)=>D.bl<|decide<|xs.getD 6 0 / 2 ^ j%2 ^ 1=1) t 4 ["_law_script","_law_k","_law_xs","_law_numbers_here","_law_truths","_law_region_here","_law_other","_law_at","_law_j"] (Ah<|by decide) (UG.eq (fZ t b1 (cp (bc af (bF t b4<|Tz.ql<|aa t 3)<|de (by decide)<|by decide) af) (by rw[ae];lia)<|by rw[ae];lia) (show _=(List.range<|2*A.length+1).map λ(j:Nat)=>D.int (j:Int)by rw[ae,show(2*(A.length:Int)+1).toNat=2*A.length+1 by lia];unfold dO;exact fP λi _=>by rw[iQ])) (by rw[ae,fJ];exact fV<|by lia) λX' cx=>?_) ?_
 ·have t':=cx.at';exact TU.gen (λ(j:Nat)=>D.int (j:Int)) (λ(j:Nat)=>D.bl<|decide<|xs.getD 6 0 / 2 ^ j%2 ^ 1=1) (λ(j:Nat)=>[.val<|.UC ns,.val<|.int i,.val<|ba xs,.val<|.lst<|A.map ic,.un,.un,.un,.un,.val<|.int (j:Int)]) _ _ (λj _=>bE t' 8) (λj _ l _=>bE t' 8) λj _=>jd t' (Mh (k:=1) (O5 (aF (Tz.ql<|aa t' 2 rfl) af<|xg 6<|by decide) (aa t' 8 rfl)<|tV j) af) af
 rw[<-et];have hT:(PV (xs.getD 6 0)<|2*A.length+1).length=2*A.length+1:=by unfold PV;rw[ae,fJ]
 clear et;generalize PV (xs.getD 6 0) (2*A.length+1)=T at*;have li:Uh A T:=⟨W4,Xk,hT⟩;have rg:∀(T:List Bool),T.length=2*A.length+1->∀(v:Int),j9 [.lst<|A.map ic,.lst<|T.map D.bl,.int v] (gM<|pV A T v):=λT hT v=>⟨A,T,v,rfl,W4,hT,rfl⟩;refine ao (bC t 5 (d:=gM<|pV A T<|xs.getD 7 0)<|yQ (IN _) 4 rfl<|au t cG (ac (aa t 3)<|ac (aa t 4)<|ac (aF (Tz.ql<|aa t 2) af<|xg 7<|by decide) ai)<|rg T hT _) ?_;have l8:oN xs (some 12) (some 20)≠[]:=λz=>by have:=bi List.length z;unfold oN at this;rw[lx,eT,du,lx]at this;revert this;decide
 refine ao (c9 (Kn 4 rfl<|TC.eq (me (v:=false) (TC.eq (fj<|dC<|au t cE (ac (aa t 5)<|ac (aa t 3)<|ac (aa t 4) ai) ⟨A,T,_,rfl,li,rfl⟩) rfl) λ_=>TC.eq (fj<|dC<|au t cP (ac (aa t 5)<|ac (aa t 3)<|ac (aa t 4)<|ac (d:=ba<|oN xs (some 12)<|some 20) (Tz.eq (T1.Ux<|xk (Tz.ql<|aa t 2) (rG af)<|rG af)<|by rw[uC]) ai) ⟨A,T,_,_,rfl,li,l8,by have:=Fk xs (some 12)<|some 20;lia,rfl⟩) rfl) rfl) bM) ?_;refine ao (bC t 6 (d:=gM<|pV A T<|xs.getD 8 0)<|yQ (IN _) 4 rfl<|au t cG (ac (aa t 3)<|ac (aa t 4)<|ac (aF (Tz.ql<|aa t 2) af<|xg 8<|by decide) ai)<|rg T hT _) ?_;have sm:∀{T T':List Bool},Uh A T->Uh A T'->∀(v v':Int),j5 [gM<|pV A T v,gM<|pV A T' v'] (.bl<|decide<|T=T'):=λ{T T'}h h' v v'=>⟨_,_,rfl,AT W4 h.len _,AT W4 h'.len _,by rw[JV h h']⟩;refine ao (c9 (TC.eq (me (v:=false) (je t (Tz.p<|au t cS (ac (aa t 5)<|ac (aa t 6) ai)<|sm li li _ _) (Tz.p sP) (eD _) (eD _) (r:=false)<|by rw[av rfl];decide) λ_=>je t (Tz.p<|au t cS (ac (aa t 6)<|ac (aa t 5) ai)<|sm li li _ _) (Tz.p sP) (eD _) (eD _)<|by rw[av rfl];decide) rfl) bM) ?_;have hp:0<(T.length:Int):=by lia
 have m0:=bx (xs.getD 9 0) (show(T.length:Int)≠0 by lia);have m1:=bp (xs.getD 9 0) hp;obtain⟨j,hj⟩:∃j:Nat,xs.getD 9 0%(T.length:Int)=(j:Int):=⟨(xs.getD 9 0%(T.length:Int)).toNat,by lia⟩;have jl:j<T.length:=by lia
 refine ao (bC t 7 (d:=.int (j:Int))<|Tz.eq (bN (aF (Tz.ql<|aa t 2) af<|xg 9<|by decide) (bF t b4<|eE t 4 rfl)<|by rw[ae];exact hp)<|by rw[ae,hj]) ?_;refine ao (kj t (GI<|aF (eE t 4 rfl) (aa t 7)<|e8 _<|tv jl)<|Cb t 4 rfl (aa t 7) (j:=j)<|by unfold CM;rw[am<|tV j,am<|by rw[ae];lia];rfl) ?_;have hT':(T.set j (!T.getD j false)).length=2*A.length+1:=by rw[cy,hT]
 have ne:=NO jl;have es:(T.map D.bl).set j (.bl (!T.getD j false))=(T.set j (!T.getD j false)).map D.bl:=by rw[sA]
 show TB X [.val<|.UC ns,.val<|.int i,.val<|ba xs,.val<|.lst<|A.map ic,.own<|(T.map D.bl).set j<|.bl (!T.getD j false),.val<|gM<|pV A T<|xs.getD 7 0,.val<|gM<|pV A T<|xs.getD 8 0,.val<|.int (j:Int)] _ _;rw[es];generalize T.set j (!T.getD j false)=T' at*;have li':Uh A T':=⟨W4,Xk,hT'⟩;refine TB.weak (Uf:=[.val<|.UC ns,.val<|.int i,.val<|ba xs,.val<|.lst<|A.map ic,.own<|T'.map D.bl,.val<|gM<|pV A T<|xs.getD 7 0,.val<|gM<|pV A T'<|xs.getD 10 0,.val<|.int (j:Int)]) ?_<|.keep<|.keep<|.keep<|.keep<|.forget<|.forget<|.forget<|.forget .nil;refine ao (bC t 6 (d:=gM<|pV A T'<|xs.getD 10 0)<|yQ (IN _) 4 rfl<|au t cG (ac (aa t 3)<|ac (aa t 4)<|ac (aF (Tz.ql<|aa t 2) af<|xg 10<|by decide) ai)<|rg T' hT' _) ?_;exact aA<|c9 (TC.eq (me (v:=false) (je t (Tz.p<|au t cS (ac (aa t 5)<|ac (aa t 6) ai)<|sm li li' _ _) (Tz.p sP) (eD _) (eD _) (r:=false)<|by rw[ah ne];decide) λ_=>je t (Tz.p<|au t cS (ac (aa t 6)<|ac (aa t 5) ai)<|sm li' li _ _) (Tz.p sP) (eD _) (eD _)<|by rw[ah<|ip ne];decide) rfl) bM
end
set_option maxHeartbeats 4000000 in
def all_mk{l:PySem.W.OpenLaw}(ht:l.prog.given.tree=none)(X:K.In h)(G:h.Ns mainGlobals mg)(hfa:mg "law"=some (.ref fa))(d1:Kd K "told_anew" mL f1 g1)(d2:Kd K "is_whole" oo f2 g2)(d3:Kd K "sign_of" q9 f3 g3)(d4:Kd K "common_divisor" ia f4 g4)(d5:Kd K "is_fraction" jY f5 g5)(d6:Kd K "fraction" ou f6 g6)(d7:Kd K "plus" Bt f7 g7)(d8:Kd K "minus" wZ f8 g8)(d9:Kd K "times" wX f9 g9)(d10:Kd K "below" w5 f10 g10)(d11:Kd K "is_row" uk f11 g11)(d12:Kd K "without_end" jU f12 g12)(d13:Kd K "row_of" ui f13 g13)(d14:Kd K "other_sign" kY f14 g14)(d15:Kd K "slope" wY f15 g15)(d16:Kd K "put_low" re f16 g16)(d17:Kd K "plain_row" mP f17 g17)(d18:Kd K "whole_quotient" hW f18 g18)(d19:Kd K "scaled_value" gX f19 g19)(d20:Kd K "sign_of_value" iD f20 g20)(d21:Kd K "inverse_of" k9 f21 g21)(d22:Kd K "made_monic" k7 f22 g22)(d23:Kd K "rest_modulo" jX f23 g23)(d24:Kd K "shared_modulo" iE f24 g24)(d25:Kd K "lifted" uj f25 g25)(d26:Kd K "shared_by" mN f26 g26)(d27:Kd K "shared_by_primes" gt f27 g27)(d28:Kd K "step_down" mM f28 g28)(d29:Kd K "divided" nO f29 g29)(d30:Kd K "rest_of" rd f30 g30)(d31:Kd K "shared_by_rests" gF f31 g31)(d32:Kd K "shared_row" kX f32 g32)(d33:Kd K "bare_row" oy f33 g33)(d34:Kd K "span_of" q8 f34 g34)(d35:Kd K "narrowed" oj f35 g35)(d36:Kd K "same_number" jW f36 g36)(d37:Kd K "kept_apart" k8 f37 g37)(d38:Kd K "order_of_spans" h9 f38 g38)(d39:Kd K "order_told" kZ f39 g39)(d40:Kd K "same_end" og f40 g40)(d41:Kd K "same_part" mO f41 g41)(d42:Kd K "is_past" rj f42 g42)(d43:Kd K "is_ahead" ot f43 g43)(d44:Kd K "in_region" mQ f44 g44)(d45:Kd K "same_region" jV f45 g45)(d46:Kd K "end_told" ox f46 g46)(d47:Kd K "least_of" om f47 g47)(d48:Kd K "greatest_of" jZ f48 g48)(d49:Kd K "shifted_by_one" hX f49 g49)(d50:Kd K "changes_within" fW f50 g50)(d51:Kd K "moved_between" iF f51 g51)(d52:Kd K "pieces_between" hZ f52 g52)(d53:Kd K "refuse_wrong_ends" fg f53 g53)(d54:Kd K "refuse_uncounted" fv f54 g54)(d55:Kd K "count_between" iG f55 g55)(d56:Kd K "is_root" rh f56 g56)(d57:Kd K "is_place" oq f57 g57)(d58:Kd K "refuse_no_place" fC f58 g58)(d59:Kd K "order_of" oh f59 g59)(ZN:Kd K "_law_cell" mT f60 g60)(d61:Kd K "_law_numbers" i6 f61 g61)(d62:Kd K "_law_low" oz f62 g62)(d63:Kd K "_law_trim" mR f63 g63)(d64:Kd K "_law_times" lh f64 g64)(d65:Kd K "_law_sign" mS f65 g65)(d66:Kd K "_law_floor_root" gH f66 g66)(d67:Kd K "_law_root_place" gG f67 g67)(d68:Kd K "_law_before" j4 f68 g68)(d69:Kd K "_law_number" j3 f69 g69)(d70:Kd K "_law_place" lj f70 g70)(d71:Kd K "_law_rising" j0 f71 g71)(d72:Kd K "_law_low_end" i7 f72 g72)(d73:Kd K "_law_high_end" iH f73 g73)(d74:Kd K "_law_region" j1 f74 g74)(d75:Kd K "_law_belongs" i8 f75 g75)(d76:Kd K "_law_end_right" ib f76 g76)(d77:Kd K "_law_ends_right" gI f77 g77)(d78:Kd K "_law_places_right" fQ f78 g78)(ZM:Kd K "law" xQ f79 g79)(zA:nsIn K mainGlobals "isinstance"=some none)(zB:nsIn K mainGlobals "tuple"=some none)(zC:nsIn K mainGlobals "int"=some none)(zD:nsIn K mainGlobals "bool"=some none)(zE:nsIn K mainGlobals "abs"=some none)(zF:nsIn K mainGlobals "len"=some none)(zG:nsIn K mainGlobals "all"=some none)(zH:nsIn K mainGlobals "range"=some none)(zI:nsIn K mainGlobals "list"=some none)(zJ:nsIn K mainGlobals "divmod"=some none)(zK:nsIn K mainGlobals "any"=some none)(zL:nsIn K mainGlobals "reversed"=some none)(zM:nsIn K mainGlobals "enumerate"=some none)(zN:nsIn K mainGlobals "zip"=some none)(zO:nsIn K mainGlobals "max"=some none)(zP:nsIn K mainGlobals "min"=some none)(zQ:nsIn K mainGlobals "PRIME_BITS"=some (some<|.ref zR))(zS:K.lookup zR=some ⟨.type "tuple",zT,.seq zU zV,zW⟩)(zX:zU.size<=sizeLine)(zY:Vals (([61,127,521,1279,4423]:aG).map V.int) zU.toList):∃fd:FuncData,(∀(s:Shared)(v:Value),BindsTo s fd ⟨[v],[]⟩ [("_law_script",v)])/\∀base:Heap,K.In base->base.Ns mainGlobals mg->pO l.prog w K mg base Aw 16 fa fd ["_law_script"] (K7 K Bh):=by
 have e:=hfa.symm.trans<|pL X G ZM.a;cases e;have zZ:=bH X G zA;have yA:=bH X G zB;have yB:=bH X G zC;have yC:=bH X G zD;have yD:=bH X G zE;have yE:=bH X G zF;have yF:=bH X G zG;have yG:=bH X G zH;have yH:=bH X G zI;have yI:=bH X G zJ;have yJ:=bH X G zK;have yK:=bH X G zL;have yL:=bH X G zM;have yM:=bH X G zN;have yN:=bH X G zO;have yO:=bH X G zP;have b1:=d1.b1 X G n8;have b2:=d2.b1 X G vP;have b3:=d3.b1 X G xK;have b4:=d4.b2 X G mI;have b5:=d5.b1 X G p9;have b6:=d6.b2 X G vS;have b7:=d7.b2 X G Ga;have b8:=d8.b2 X G C9;have b9:=d9.b2 X G C7;have YK:=d10.b2 X G Da;have b11:=d11.b1 X G AR;have b12:=d12.b2 X G p0;have YJ:=d13.b1 X G AO;have b14:=d14.b1 X G sE;have b15:=d15.b1 X G C8;have b16:=d16.b1 X G xM;have YI:=d17.b1 X G ud;have b18:=d18.b2 X G mE;have b19:=d19.b2 X G pF;have ZQ:=d20.b2 X G nJ;have b21:=d21.b2 X G sI;have b22:=d22.b2 X G sG;have b23:=d23.b3 X G p8;have b24:=d24.b3 X G nK;have b25:=d25.b3 X G AQ;have b26:=d26.b3 X G ub;have b27:=d27.b2 X G kT;have b28:=d28.b2 X G ua;have b29:=d29.b2 X G xP;have b30:=d30.b2 X G xL;have b31:=d31.b2 X G lS;have b32:=d32.b2 X G sD;have b33:=d33.b1 X G vU;have b34:=d34.b1 X G xJ;have b35:=d35.b2 X G vM;have b36:=d36.b2 X G p7;have b37:=d37.b2 X G sH;have b38:=d38.b2 X G mH;have ZP:=d39.b2 X G sF;have b40:=d40.b2 X G vK;have b41:=d41.b2 X G uc;have b42:=d42.b3 X G xO;have b43:=d43.b3 X G vR;have b44:=d44.b2 X G ue;have b45:=d45.b2 X G p6;have b46:=d46.b2 X G vT;have b47:=d47.b1 X G vO;have b48:=d48.b1 X G qc;have b49:=d49.b1 X G mF;have b50:=d50.b1 X G mJ;have b51:=d51.b3 X G nL;have b52:=d52.b3 X G mG;have b53:=d53.b3 X G kh;have b54:=d54.b3 X G kU;have b55:=d55.b3 X G nM;have b56:=d56.b1 X G xN;have b57:=d57.b1 X G vQ;have b58:=d58.b1 X G lU;have b59:=d59.b2 X G vL;have b60:=ZN.b2 X G uh;have b61:=d61.b2 X G pG;have b62:=d62.b2 X G vV;have b63:=d63.b1 X G uf;have b64:=d64.b2 X G sJ;have b65:=d65.b1 X G ug;have b66:=d66.b1 X G lW;have b67:=d67.b3 X G lV;have b68:=d68.b2 X G qi;have b69:=d69.b1 X G qh;have YH:=d70.b2 X G sK;have b71:=d71.b1 X G qd;have b72:=d72.b3 X G pH;have b73:=d73.b3 X G nN;have b74:=d74.b3 X G qg;have b75:=d75.b3 X G pI;have b76:=d76.b4 X G mK;have b77:=d77.b3 X G lX;have b78:=d78.b4 X G ki;obtain⟨_,_,kV,dc,pm,an,cd,ct,_,rfl,_,_⟩:=ZM.F.ex;refine⟨fnOf "law" "law" (jg xQ) (eo xQ) (ay xQ) .none kV dc pm an cd ct,λs v=>.of_eq rfl,λbase KB _=>?_⟩;have f_:=@QT l.prog ht w K mg base;have f_N:=@O1 l.prog ht w K mg base;have ZF:=@O0 l.prog ht w K mg base;have q1:∀n,pO l.prog w K mg base Aw (n+1) f1 g1 ["thing"] (K7 K<|ku n):=λn=>by induction n with |zero=>exact f_ d1.F n8 (sN 0) (λ_ _ _ _ z=>z.elim) |succ n ih=>exact f_ d1.F n8 (sN<|n+1) λ_ Z=>Ec Z zZ yA  n<|Z.ca ih b1<|by lia
 have o1:=q1 3;have o2:=f_ (k:=0) d2.F vP BU λ_ Z=>Fz Z zZ yB yC;have o3:=f_ (k:=0) d3.F xK DF λ_ Z=>HZ Z;have o4:=f_ (k:=0) d4.F mI s8 λ_ Z=>vh Z yD;have o5:=f_ (k:=1) d5.F p9 wo λ_ Z=>An Z zZ yA yE (Z.ca o2 b2)<|Z.ca o4 b4;have o6:=f_ (k:=1) d6.F vS BX λ_ Z=>FD Z  (Z.ca o4 b4);have o7:=f_ (k:=2) d7.F Ga JQ λ_ Z=>Pm Z  (Z.ca o6 b6);have o8:=f_ (k:=2) d8.F C9 Hw λ_ Z=>MC Z  (Z.ca o6 b6);have o9:=f_ (k:=2) d9.F C7 Hu λ_ Z=>MA Z  (Z.ca o6 b6);have Yt:=f_ (k:=0) d10.F Da Hx λ_ Z=>MD Z;have o11:=f_ (k:=1) d11.F AR Fb λ_ Z=>KA Z zZ yA yF<|Z.ca o2 b2;have o12:=f_ (k:=0) d12.F p0 wj λ_ Z=>Aj Z yE yA;have Ys:=f_ (k:=1) d13.F AO E9 λ_ Z=>Ky Z  (Z.ca o12 b12);have o14:=f_ (k:=0) d14.F sE yg λ_ Z=>Co Z yA;have o15:=f_ (k:=0) d15.F C8 Hv λ_ Z=>MB Z yA yG yE;have Z9:=f_ (k:=1) d16.F xM DH λ_ Z=>H8 Z yA<|Z.ca o4 b4;have Yr:=f_ (k:=2) d17.F ud z8 λ_ Z=>Eg Z  (Z.ca Z9 b16)<|Z.ca o14 b14;have Z8:=f_ (k:=2) d18.F mE sW λ_ Z=>ve Z yH yE yI yG yJ<|Z.ca Ys YJ;have o19:=f_ (k:=0) d19.F pF u4 λ_ Z=>y3 Z yK;have Y1:=f_ (k:=1) d20.F nJ uq λ_ Z=>wx Z  (Z.ca o3 b3)<|Z.ca o19 b19;have o21:=f_ (k:=0) d21.F sI yk λ_ Z=>Cs Z;have o22:=f_ (k:=1) d22.F sG yi λ_ Z=>Cq Z  (Z.ca o21 b21);have o23:=f_ (k:=2) d23.F p8 wm λ_ Z=>Am Z yH yE yG<|Z.ca Ys YJ;have o24:=f_ (k:=3) d24.F nK ur λ_ Z=>wy Z  (Z.ca o22 b22)<|Z.ca o23 b23;have o25:=f_ (k:=3) d25.F AQ Fa λ_ Z=>Kz Z  (Z.ca Yr YI)<|Z.ca Ys YJ;have o26:=f_ (k:=4) d26.F ub z6 λ_ Z=>Ee Z yE (Z.ca o24 b24) (Z.ca o25 b25) (Z.ca o4 b4)<|Z.ca Z8 b18;have o27:=f_ (k:=5) d27.F kT qu λ_ Z=>tw Z  (Z.ca o26 b26) ⟨zR,pL X G zQ,_,zU,zV,zS,rfl,rfl,zX,zY⟩;have o28:=f_ (k:=1) d28.F ua z5 λ_ Z=>Ed Z yD (Z.ca o4 b4)<|Z.ca o3 b3;have o29:=f_ (k:=2) d29.F xP DK λ_ Z=>Ib Z yH yE yL (Z.ca o28 b28)<|Z.ca Ys YJ;have o30:=f_ (k:=3) d30.F xL DG λ_ Z=>H0 Z  (Z.ca Z9 b16)<|Z.ca o29 b29;have o31:=f_ (k:=4) d31.F lS rY λ_ Z=>uF Z  (Z.ca Yr YI)<|Z.ca o30 b30;have Z7:=f_ (k:=6) d32.F sD yf λ_ Z=>Cn Z  (Z.ca o27 b27) (Z.ca Yr YI)<|Z.ca o31 b31;have Z6:=f_ (k:=7) d33.F vU BZ λ_ Z=>FF Z  (Z.ca Yr YI) (Z.ca Z8 b18) (Z.ca Z7 b32)<|Z.ca o15 b15;have Z5:=f_ (k:=8) d34.F xJ DE λ_ Z=>HY Z yE<|Z.ca Z6 b33;have o35:=f_ (k:=2) d35.F vM BR λ_ Z=>Fx Z  (Z.ca Y1 ZQ)<|Z.ca o6 b6;have o36:=f_ (k:=7) d36.F p7 wl λ_ Z=>Al Z  (Z.ca Yt YK) (Z.ca Z7 b32)<|Z.ca Y1 ZQ;have o37:=f_ (k:=3) d37.F sH yj λ_ Z=>Cr Z  (Z.ca o7 b7) (Z.ca o8 b8) (Z.ca o9 b9) (Z.ca Yt YK)<|Z.ca o35 b35;have Z4:=f_ (k:=8) d38.F mH sZ λ_ Z=>vg Z  (Z.ca o36 b36) (Z.ca o37 b37)<|Z.ca Yt YK;have Y0:=f_ (k:=9) d39.F sF yh λ_ Z=>Cp Z  (Z.ca Z4 b38)<|Z.ca Z5 b34;have o40:=f_ (k:=10) d40.F vK BQ λ_ Z=>Fv Z  (Z.ca Y0 ZP);have o41:=f_ (k:=11) d41.F uc z7 λ_ Z=>Ef Z  (Z.ca o40 b40);have o42:=f_ (k:=10) d42.F xO DJ λ_ Z=>Ia Z  (Z.ca Y0 ZP);have o43:=f_ (k:=10) d43.F vR BW λ_ Z=>FB Z  (Z.ca Y0 ZP);have o44:=f_ (k:=11) d44.F ue z9 λ_ Z=>Eh Z yJ (Z.ca o42 b42)<|Z.ca o43 b43;have o45:=f_ (k:=12) d45.F p6 wk λ_ Z=>Ak Z yF yE yG<|Z.ca o41 b41;have Z3:=f_ (k:=4) d46.F vT BY λ_ Z=>FE Z  (Z.ca o1 b1);have o47:=f_ (k:=5) d47.F vO BS λ_ Z=>Fy Z yE<|Z.ca Z3 b46;have o48:=f_ (k:=5) d48.F qc wp λ_ Z=>Ao Z yE<|Z.ca Z3 b46;have o49:=f_N (k:=0) d49.F mF sX λ_ Z=>uE Z yH yG yE;have o50:=f_ (k:=1) d50.F mJ s9 λ_ Z=>vi Z yE yG<|Z.caN o49 b49;have o51:=f_ (k:=0) d51.F nL uu λ_ Z=>wz Z yG yE yM;have o52:=f_ (k:=2) d52.F mG sY λ_ Z=>vf Z  (Z.ca o50 b50)<|Z.ca o51 b51;have o53:=ZF (k:=2) d53.F kh jy λ_ Z=>sk Z  (Z.ca Yt YK)<|Z.ca Y1 ZQ;have o54:=ZF (k:=3) d54.F kU qv λ_ Z=>tx Z  (Z.ca o53 b53);have o55:=f_ (k:=8) d55.F nM uv λ_ Z=>wB Z yE (Z.ca o54 b54) (Z.ca o52 b52)<|Z.ca Z6 b33;have o56:=f_ (k:=9) d56.F xN DI λ_ Z=>H9 Z zZ yA yE (Z.ca o11 b11) (Z.ca o5 b5)<|Z.ca o55 b55;have Z2:=f_ (k:=10) d57.F vQ BV λ_ Z=>FA Z  (Z.ca o5 b5)<|Z.ca o56 b56;have o58:=ZF (k:=11) d58.F lU rZ λ_ Z=>uG Z  (Z.ca Z2 b57);have o59:=f_ (k:=12) d59.F vL ut λ_ Z=>Fw Z  (Z.ca o58 b58) (Z.ca Z4 b38)<|Z.ca Z5 b34;have o60:=f_ (k:=0) ZN.F uh Ac λ_ Z=>Ek Z yE;have o61:=f_ (k:=0) d61.F pG u5 λ_ Z=>y4 Z yG yD yB;have Z1:=f_ (k:=0) d62.F vV B1 λ_ Z=>FG Z yD;have o63:=f_ (k:=0) d63.F uf Aa λ_ Z=>Ei Z yH yA yE;have Z0:=f_ (k:=1) d64.F sJ ym λ_ Z=>Ct Z yG yE<|Z.ca o63 b63;have o65:=f_ (k:=0) d65.F ug Ab λ_ Z=>Ej Z yB;have o66:=f_ (k:=0) d66.F lW se λ_ Z=>uI Z;have o67:=f_ (k:=2) d67.F lV r8 λ_ Z=>uH Z  (Z.ca o66 b66)<|Z.ca Z0 b64;have ZZ:=f_ (k:=0) d68.F qi wu λ_ Z=>As Z;have ZY:=f_ (k:=1) d69.F qh wt λ_ Z=>Ar Z  (Z.ca o65 b65)<|Z.ca Z1 b62;have Yq:=f_ (k:=3) d70.F sK yn λ_ Z=>Cu Z  (Z.ca o67 b67) (Z.ca Z0 b64)<|Z.ca Z1 b62;have o71:=f_ (k:=2) d71.F qd wq λ_ Z=>Ap Z yE (Z.ca ZY b69)<|Z.ca ZZ b68;have o72:=f_ (k:=4) d72.F pH u6 λ_ Z=>y6 Z  (Z.ca Yq YH);have o73:=f_ (k:=4) d73.F nN uw λ_ Z=>wC Z yE<|Z.ca Yq YH;have o74:=f_ (k:=5) d74.F qg wr λ_ Z=>Aq Z yA yE (Z.ca o72 b72)<|Z.ca o73 b73;have o75:=f_ (k:=1) d75.F pI u7 λ_ Z=>y7 Z yE<|Z.ca ZZ b68;have o76:=f_ (k:=13) d76.F mK td λ_ Z=>vj Z zZ yA yE (Z.ca o59 b59) (Z.ca Z2 b57)<|Z.ca Yq YH;have o77:=f_ (k:=14) d77.F lX si λ_ Z=>uJ Z yE yG (Z.ca o76 b76) (Z.ca o48 b48)<|Z.ca o47 b47;have o78:=f_ (k:=12) d78.F ki pM λ_ Z=>sn Z yG yE zZ yC (Z.ca o44 b44) (Z.ca ZY b69) (Z.ca Yq YH)<|Z.ca o75 b75;exact f_ ZM.F NP L3 λ_ Z=>Q3 Z yG yN yO yE (Z.ca o61 b61) (Z.ca o71 b71) (Z.ca o74 b74) (Z.ca o60 b60) (Z.ca o77 b77) (Z.ca o78 b78)<|Z.ca o45 b45
def walk{q:Program}{l:PySem.W.OpenLaw}{XP:(Str->Option Value)->Heap->Prop}{YP:World->Heap->Prop}{d:DefRec}{K:Params->gh}(hq:importsNone q=true)(hn:l.most=some 63)(X8:d.params.defaults=[])(hY:∀(w:World)(h:Heap),YP w h->(K w.params).In h)(F:∀(w:World)(mg:AD)(fa:Addr)(h:Heap),(K w.params).In h->h.Ns mainGlobals mg->mg d.name=some (.ref fa)->∃fd:FuncData,(∀(s:Shared)(u:Value),BindsTo s fd ⟨[u],[]⟩ [("_law_script",u)])/\∀base:Heap,(K w.params).In base->base.Ns mainGlobals mg->pO l.prog w (K w.params) mg base Aw 16 fa fd ["_law_script"] (K7 (K w.params) Bh)):PySem.W.WalkO q loose XP YP l.row.toRowW d [] (λf vs=>PySem.call f vs):=L2.Wo (n:=63) (k:=16) (x:="_law_script") (CX:=λ_=>Aw) (sp:=λw=>K7 (K w.params) Bh) hq hn (by decide) X8 ⟨rfl,by decide,by decide⟩ hY F (λ_ H a ns hl hO hS=>⟨H,[.UC ns],.bl true,.refl _,.cons (.UC hS) .nil,JU ns hl,λv F' H' x r=>by cases r;rfl⟩) λ_ _ _ _ _ z=>z
end My
def PySem.W.Fast.tw13892394248718540315:PySem.Program:=PySem.Challenge.pw_planestacks_k58_regions_asked
def PySem.W.Fast.te13892394248718540315:PySem.Challenge.pw_planestacks_k58_regions_asked=PySem.W.Fast.tw13892394248718540315:=rfl
structure PySem.W.Fast:Prop where(tw7266734610079530773 tw14114137611768616130 tw13079806795437325943 te10292199246858202996 tw3571708695339635896 tw4165518934398110393 tw10624985541554439072 tw8974055368028034991 tw8424344848855438684 tw1145498877485939261 tw9958961802843605716 tw12460864515133041227 tw16590205885981542436 tw2203605993230214724 tw3812490961242588472 tw11062512635328052134 tw18299378489075600383 tw12381154315446561563 tw3939994113556610580 tw14143468777851090589 tw1186653587453328934 tw1837226841738111356 tw2388605369179902561 tw17504452978679936014 tw12142517685243203683 tw7514468791471449971 tw15582269872990618417 tw15167900120676186260 tw10952218631539871384 tw10378349846397954077 tw7829094893495429458 tw244568149367625542 tw15317796229567234903 tw14323738206697479619 tw11977907482846866255 tw8490677700226064114 tw4915363803309148454 tw11321492043760941856 tw12219441268030781721 tw3369696836415355304 tw12606674626225990136 tw8752474200177514739 tw9734885526747123095 tw15729099189035742121 tw12716764376532112374 tw15282701272149074952 tw8606817394022258930 tw11782699562809766577 tw2201023083251830224 tw6333701638605142295 tw8290880615042549325 tw11377657794459482028 tw7927298812573449577 tw3487308296574523735 tw4127686097498706177 tw4481970596010297739 tw7072995887195339177 tw480679639014696316 tw6984466180363817077 tw1389924946674659671 tw7696833927388240725 tw7051190800135495900 tw627445846887532898 tw6176904853191375380 tw7197163556166999928 tw4298904668483850556 tw4200827748669466858 tw5945962166219746926 tw12361722322150674292 tw15448537754998042892 tw70932213661340597 tw779880459970162620 tw2367381834272252389 tw7992080199475703977 tw17437139091891143798 tw14876997707765349944 tw6160156844282642349 tw7052363495054961615 tw6095978316282398835 tw7450285363775817828 tw3502915790887216913 tw11157258357386402337 tw16177289297440596647 tw17274308560629250585 tw12145937983367296649 tw8772395021169751624 tw17750809173834037666 tw15807419278783834504 tw3604848532222756510 tw6123365080644733877 tw12058955586487518305 tw5333705423847161986 tw10253556958232009452 tw6776659256819556052 tw11041072932237999545 tw10490155088125129342 tw7183871700828207431 tw11264092130637096154 tw3222565855481332233 tw2328990323382583255 tw18116685491630466012 tw1396693543957311366 tw4479725981175517390 tw481145403098757998 tw5446614024386610920 tw16346688848943960383 tw13945230726407698057 tw16461674627719066074 tw3452996046139275394 tw14001346111770931757 tw3795404065765962720 tw16727158741706437371 tw11220418381976334833 tw6042988048841721667 tw1591038195367163366 tw8320897431735974917 tw1840929519790581624 tw17290524820474707683 tw3411589723129202762 tw6794723019739508224 tw577582904297819345 tw16472742569891662064 tw15581234585567777936 tw5453868886711568766 tw80798377381064284 tw7960497283320960622 tw17501873982687389530 tw6415473584087595115 tw8059019633523268643 tw3481660453472220460 tw12245794373456336418 tw7067248211563417605 tw2035654599184980331 tw8608412505464487621 tw14067704972409616602 tw10242682498682995078 tw14232323681168257449 tw264861539599650489 tw7081587718229477866 tw15363635340910956960 tw10477609857691294158 tw13349804286638701670 tw15310632125474337409 tw14448598129747210064 tw15734144113109047157 tw936407094744035027 tw1441380098213013550 tw13197550230724299686 tw10269696302931440346 tw12767360590146056981:True)
open PySem PySem.W PyProof.Rows
set_option maxRecDepth 100000 in
set_option maxHeartbeats 0 in
theorem PySem.Challenge.cw_planestacks_k58_regions_asked_holds : PySem.Challenge.rw_planestacks_k58_regions_asked.Holds := by
 w_on; o_law; k_head; (case hw => w_witness2)
 k_fill
 refine My.walk (l := PySem.Challenge.rw_planestacks_k58_regions_asked) (by decide +kernel) rfl rfl (fun w h Y => PySem.W.kIn_of Y) ?F
 case F =>
  intro w mg fa h KX G hmg
  refine' My.all_mk rfl KX G hmg ?_ ?_ ?_ ?_ ?_ ?_ ?_ ?_ ?_ ?_ ?_ ?_ ?_ ?_ ?_ ?_ ?_ ?_ ?_ ?_ ?_ ?_ ?_ ?_ ?_ ?_ ?_ ?_ ?_ ?_ ?_ ?_ ?_ ?_ ?_ ?_ ?_ ?_ ?_ ?_ ?_ ?_ ?_ ?_ ?_ ?_ ?_ ?_ ?_ ?_ ?_ ?_ ?_ ?_ ?_ ?_ ?_ ?_ ?_ ?_ ?_ ?_ ?_ ?_ ?_ ?_ ?_ ?_ ?_ ?_ ?_ ?_ ?_ ?_ ?_ ?_ ?_ ?_ ?_ ?_ ?_ ?_ ?_ ?_ ?_ ?_ ?_ ?_ ?_ ?_ ?_ ?_ ?_ ?_ ?_ ?_ ?_ ?gz_PRIME_BITS ?gv_PRIME_BITS
  all_goals try refine' L2.EV.kd ?_ ?_ ?_ ?_
  all_goals try k_is
  (case gz_PRIME_BITS => exact Nat.le_of_ble_eq_true rfl)
  (case gv_PRIME_BITS => exact .cons ⟨_, rfl⟩ (.cons ⟨_, rfl⟩ (.cons ⟨_, rfl⟩ (.cons ⟨_, rfl⟩ (.cons ⟨_, rfl⟩ (.nil))))))
