import PyProof.Rows.All
import Wide.All
import OpenK.AllK
import Wide.FinOn
import Lean
import PyProof.EqAt
import PyProof.EqKinds
import PyProof.TupleCall
import PySem.Challenge.RW_planestacks_k37_whole_kinds_go_along
set_option linter.all false
def ac:=@List.length_append
def ae:=@List.length_map
def af:=@PySem.wpAny_bind
def aj:=@Nat.le_refl
def ak:=@if_neg
def ao:=@decide_eq_false
def ar:=@if_pos
def av:=@PySem.wpAny_pure
def ax:=@List.mem_cons
def az:=@List.append_assoc
def aA:=@List.map_append
def aC:=@Bool.false_ne_true
def aD:=@List.size_toArray
def aF:=@decide_eq_true
def aH:=@List.map_cons
def aI:=@PySem.Heap.lt_size
def aJ:=@Nat.le_trans
def aL:=@List.mem_append
def aO:=@List.mem_cons_of_mem
def aP:=@List.mem_singleton
def aQ:=@decide_eq_false_iff_not
def aS:=@List.length_cons
def aT:=@List.eq_nil_of_length_eq_zero
def aV:=@List.append_nil
def aY:=@congrArg
def a7:=@List.take_length
def a8:=@PySem.W.mg_of
def a9:=@Nat.lt_of_lt_of_le
def bg:=@List.replicate_succ
def bi:=@Nat.ne_of_lt
def bj:=@decide_eq_true_eq
def bo:=@List.mem_cons_self
def bu:=@List.map_map
def bx:=@List.length_set
def bB:=@Nat.zero_le
def bC:=@List.length_take
def bE:=@List.mem_append_right
def bF:=@PySem.W.mg_none_of
def bG:=@Option.some.inj
def bJ:=@beq_eq_false_iff_ne
def bO:=@List.length_singleton
def bP:=@PySem.wpAny_newObj_type
def bV:=@List.eq_nil_or_concat
def bX:=@Array.length_toList
def b0:=@PySem.F.plainAttrs_list
def cm:=@List.drop_eq_getElem_cons
def cn:=@Nat.lt_of_le_of_lt
def cp:=@PySem.wpAny_holding
def cz:=@PySem.W.kia_one
def cF:=@Nat.le_of_ble_eq_true
def cG:=@List.concat_eq_append
def cO:=@PySem.sizeLine_eq
def cX:=@List.mem_of_mem_take
def cY:=@List.nodup_cons
def cZ:=@List.length_nil
def c8:=@List.take_of_length_le
def c9:=@List.lookup_cons
def de:=@List.length_drop
def dv:=@List.length_reverse
def dw:=@Int.toNat_natCast
def dB:=@List.foldl_cons
def dC:=@PySem.wpAny_truthy_bool
def dH:=@Nat.pow_le_pow_right
def dQ:=@Nat.lt_irrefl
def dU:=@Ne.symm
def eF:=@List.take_append_drop
def eG:=@PySem.Heap.size_push
def eL:=@Nat.lt_succ_self
def eM:=@List.not_mem_nil
def eO:=@Bool.and_eq_true
def fc:=@PySem.wpAny_call_entry
def fg:=@List.flatten_cons
def fm:=@List.sum_append
def fq:=@PySem.wpAny_of_eq
def ft:=@List.flatMap_append
def fC:=@PyProof.Rows.callWith_type1
def fL:=@List.length_replicate
def fR:=@PySem.wpAny_field
def gj:=@List.range_succ
def gr:=@Prod.ext
def gt:=@Nat.le_of_eq
def gu:=@List.foldl_append
def gB:=@PyProof.Rows.slot_tuple_getitem
def gR:=@PySem.mem_of_lookup
def gY:=@List.mem_reverse
def iG:=@Nat.ne_of_gt
def iH:=@Int.zero_add
def iN:=@Int.natCast_add
def ji:=@PySem.wpAny_typeNameOfWhole_keyiter
def jj:=@Nat.lt_succ_of_lt
def jk:=@List.reverse_cons
def jl:=@List.flatMap_cons
def jA:=@PySem.wpAny_passesOwn
def jB:=@PySem.wpAny_loadPart'
def jC:=@PySem.F.slot_dict_keyiterator_next
def j6:=@Nat.sub_self
def j7:=@Nat.not_lt_of_le
def j8:=@Nat.le_of_lt
def kD:=@List.map_congr_left
def kE:=@List.filterMap_cons
def kJ:=@PyProof.Rows.subscriptTail_builtinR
def lj:=@PySem.F.type_list_append
def lm:=@PySem.F.slot_list_append
def lp:=@PySem.F.slot_tuple_iterator_next
def nt:=@PySem.F.plainAttrs_str
def nu:=@List.take_succ
def nv:=@List.length_range
def ny:=@List.drop_eq_nil_of_le
def oX:=@PySem.wpAny_mono
def oY:=@PySem.wpAny_Call_Name_kw
def qz:=@Nat.le_add_right
def qA:=@List.drop_length
def qJ:=@PySem.wpAny_pyIter_list
def qK:=@PySem.SeqAt.canLay_of_shaped
def tq:=@List.getElem_of_mem
def tF:=@Nat.pow_succ
def tG:=@Nat.lt_trans
def ua:=@PySem.wpAny_standAt
def ub:=@PySem.strLen_append
def uJ:=@or_false
def uK:=@Int.emod_lt_of_pos
def xB:=@Nat.add_assoc
def xC:=@Bool.true_and
def xD:=@Bool.or_false
def yv:=@PySem.wpAny_seqItems
def yw:=@PySem.wpAny_pyIter_tuple
def yx:=@PySem.tupleKind_room_in1
def yy:=@Nat.min_le_right
def yz:=@List.take_append
def y0:=@List.map_reverse
def y3:=@List.getElem_mem
def BE:=@eq_comm
def BF:=@beq_iff_eq
def BG:=@Nat.succ_mul
def BH:=@List.dropWhile_sublist
def BK:=@Int.emod_nonneg
def BL:=@Bool.eq_iff_iff
def CA:=@PySem.F.type_list_pop
def CB:=@PySem.F.slot_list_pop
def CC:=@Bool.beq_eq_decide_eq
def EW:=@List.take_zero
def EX:=@List.mem_append_left
def EY:=@List.drop_zero
def EZ:=@PySem.F.plain_max_loop
def E4:=@PyProof.Rows.joinParts_cons
def GK:=@PySem.call_meets
def GM:=@Option.some_ne_none
def GN:=@Nat.add_le_add_left
def GO:=@List.reverse_append
def GQ:=@PySem.Calls.callWith_builtin
def GS:=@PySem.wpAny_execs_nil
def GT:=@PySem.codeAny_builtin
def GU:=@List.cons.inj
def GV:=@Int.mul_assoc
def GW:=@Bool.false_or
def KU:=@PySem.wpAny_tryCatch
def KW:=@PySem.wpAny_setField
def KY:=@if_false
def KZ:=@PySem.W.kitx_dict
def K0:=@Nat.lt_or_ge
def K1:=@List.map_nil
def K6:=@List.replicate_append_replicate
def ND:=@Nat.succ_le_succ
def NE:=@Nat.and_two_pow_sub_one_eq_mod
def NF:=@List.all_eq_true
def NS:=@PySem.wpAny_attempt
def NT:=@PySem.plainId_quiet
def NU:=@Nat.le_succ
def NV:=@List.take_append_of_le_length
def P1:=@List.of_mem_zip
def P2:=@List.forIn_cons
def P3:=@PySem.Calls.Constant_str
def Qz:=@if_true
def SV:=@PySem.wpAny_typeOf
def SW:=@PySem.wpAny_dictEntries
def SX:=@PySem.seqIndex_neg
def SY:=@PySem.codeAny_mono
def SZ:=@Nat.mul_le_mul
def S0:=@List.drop_drop
def S1:=@Bool.and_false
def Td:=@List.mem_or_eq_of_mem_set
def Te:=@PyProof.Rows.FormattedValue_plain
def Tf:=@Classical.byContradiction
def UU:=@PySem.wpAny_isInstance
def UV:=@PySem.F.type_list_extend
def UW:=@PySem.F.slot_list_extend
def UX:=@PySem.F.args_tuple_add_2
def UY:=@List.map_take
def UZ:=@PySem.F.entry_max_loop
def U0:=@PySem.F.args_dict_keyiterator_next_1
def Vc:=@PySem.wpAny_letGo
def Vd:=@PySem.seqIndex_of
def Ve:=@PySem.F.entry_tuple_add
def Vf:=@PySem.F.entry_dict_keyiterator_next
def Ww:=@PySem.wpAny_updateSeq
def Wx:=@PySem.wpAny_dictEpoch
def Wy:=@PySem.W.cellsFrom_some
def Wz:=@PySem.F.slot_tuple_add
def WA:=@PySem.F.slot_str_split
def WB:=@List.flatMap_singleton
def WC:=@List.append_eq_nil_iff
def WD:=@List.all_map
def WE:=@PySem.F.args_tuple_iterator_next_1
def WP:=@PyProof.Rows.assignInOrder_cons
def WQ:=@PySem.F.slot_dict_get
def WR:=@List.filterMap_append
def WS:=@List.dropLast_eq_take
def WT:=@PySem.F.entry_tuple_iterator_next
def Xa:=@PySem.wpAny_rule
def Xb:=@PySem.typeIs_str
def Xc:=@PySem.isSubtype_stop
def Xd:=@Sum.inr.inj
def Xe:=@List.replicate_succ'
def Xf:=@List.dropLast_concat
def Xg:=@Int.mul_one
def Xh:=@Int.mul_add
def Xi:=@PySem.F.slot_range_iterator_next
def Xj:=@PySem.Calls.Name_function_global
def Xp:=@Nat.mul_le_mul_left
def Xq:=@Int.toNat_of_nonneg
local macro_rules|`(tactic|decide)=>`(tactic|decide +kernel)
abbrev tH(x:PySem.Str):Prop:=(x==("__debug__":PySem.Str))=false
abbrev z6(sc:PySem.Scope)(x:PySem.Str):Prop:=sc.names.lookup x=some .globalImplicit
abbrev DB(c:PySem.Pos)(es:List PySem.Expr)(E:PySem.Env):Prop:=((PySem.backTo c<|PySem.starEach es E).all (λx=>!x.1)&&(PySem.backToKw c<|PySem.keywordEach [] E).all (λx=>x.1.isSome)&&decide (es.length+([]:List PySem.Keyword).length+(if([]:List PySem.Keyword).isEmpty then 0 else 1)<30))=true
abbrev DA(e:PySem.Expr)(es:List PySem.Expr)(E:PySem.Env):Prop:=PySem.starEach (e::es) E=(false,PySem.eval e E)::PySem.starEach es E
abbrev uL(c:PySem.Pos)(es:List PySem.Expr)(E:PySem.Env):Prop:=(PySem.backTo c<|PySem.starEach es E).any (·.1)=false
abbrev bL:=PySem.W.Frag
abbrev be:=List Int
abbrev bH:=List Nat
abbrev bM:=List PySem.Str
abbrev tu:=List PySem.Expr
abbrev gC:=List PySem.Value
abbrev gQ:=List<|PySem.Addr×PySem.Obj
abbrev wL:=PySem.Value->PySem.Shared->Prop
abbrev xX:=PySem.Str->Option PySem.Value
set_option Elab.async false
set_option maxRecDepth 100000
namespace L2
open PySem PySem.Spec PyProof.Rows
variable {K:bL}
abbrev yu:=Sum Int Str
def FS:yu->Value->Bool|.inl k,v=>Value.isInt k v|.inr x,v=>Value.isStrOf x v
def VV(w:World):yu->Int|.inl k=>hashInt k|.inr x=>hashStr w x
def eC:∀{k:yu}{v:Value},FS k v=true->(∃i t,k=Sum.inl i/\v=Value.int i t)\/(∃x t,k=Sum.inr x/\v=Value.str x t)
 |.inl i,v,h=>by obtain⟨t,e⟩:=Value.isInt_shape (k:=i) (v:=v) h;exact .inl ⟨i,t,rfl,e⟩
 |.inr x,v,h=>by obtain⟨t,e⟩:=Value.isStrOf_shape (x:=x) (v:=v) h;exact .inr ⟨x,t,rfl,e⟩
def sZ(x:Str)(t:Tok):FS (.inr x) (.str x t)=true:=by simp[FS,Value.isStrOf]
def RK(a b:Int):decide ((Sum.inl a:yu)=Sum.inl b)=(a==b):=by
 by_cases e:a=b;·subst e;simp
 ·have h:¬(Sum.inl a:yu)=Sum.inl b:=λq=>e<|Sum.inl.inj q;rw[ao h];exact(bJ.mpr e).symm
def RH(a b:Str):decide ((Sum.inr a:yu)=Sum.inr b)=decide (a=b):=by
 by_cases e:a=b;·subst e;simp
 ·have h:¬(Sum.inr a:yu)=Sum.inr b:=λq=>e<|Xd q;rw[ao h,ao e]
def RJ(a:Int)(b:Str):decide ((Sum.inl a:yu)=Sum.inr b)=false:=ao λq=>nomatch q
def RI(a:Str)(b:Int):decide ((Sum.inr a:yu)=Sum.inl b)=false:=ao λq=>nomatch q
def jM(prog:Program)(w:World):PySem.KeyKind prog w yu where
 is:=FS
 hash:=VV w
 inj:=λv a b ha hb=>by
  rcases eC ha with⟨i,t,rfl,rfl⟩ |⟨x,t,rfl,rfl⟩
  ·rcases eC hb with⟨j,u,rfl,e⟩ |⟨y,u,rfl,e⟩;·injection e with e1 _;rw[e1]
   ·exact nomatch e
  ·rcases eC hb with⟨j,u,rfl,e⟩ |⟨y,u,rfl,e⟩;·exact nomatch e
   ·injection e with e1 _;rw[e1]
 byValue:=λk v h=>by rcases eC h with⟨i,t,rfl,rfl⟩ |⟨x,t,rfl,rfl⟩<;>rfl
 pyHash:=λhv h=>by
  rcases eC hv with⟨i,t,rfl,rfl⟩ |⟨x,t,rfl,rfl⟩;·exact wpAny_pyHash_int h
  ·exact wpAny_pyHash_str h
 eqBool:=λhu hv h=>by
  rcases eC hu with⟨i,t,rfl,rfl⟩ |⟨x,t,rfl,rfl⟩
  ·rcases eC hv with⟨j,u,rfl,rfl⟩ |⟨y,u,rfl,rfl⟩;·rw[RK]at h;exact wpAny_eqBool_int h
   ·rw[RJ]at h;exact SeqAt.EqAt.int_str i t y u _ _ _ _ h
  ·rcases eC hv with⟨j,u,rfl,rfl⟩ |⟨y,u,rfl,rfl⟩;·rw[RI]at h;exact SeqAt.EqAt.str_int x t j u _ _ _ _ h
   ·rw[RH]at h;exact wpAny_eqBool_str h
 «strs»:=λk x t v h=>by
  rcases eC h with⟨i,u,rfl,e⟩ |⟨y,u,rfl,e⟩;·exact nomatch e
  ·injection e with e1 _;subst e1;cases v<;>rfl
inductive V where
 |XY |bl (b:Bool) |int (i:Int) |str (x:Str) |byt (b:Array UInt8) |flt (b:UInt64) |ref (a:Addr) |ty (n:String)
 deriving DecidableEq
abbrev dW:=List V
def RelV:V->Value->Prop
 |.XY,u=>u=Value.none|.bl b,u=>u=Value.bool b
 |.int i,u=>∃t,u=Value.int i t|.str x,u=>∃t,u=Value.str x t
 |.byt b,u=>∃t,u=Value.bytes b t|.flt b,u=>∃t,u=Value.float b t
 |.ref a,u=>u=Value.ref a|.ty n,u=>u=Value.type n
abbrev Vals:dW->gC->Prop:=Paired RelV
def Vals.length(r:Vals xs us):xs.length=us.length:=Paired.length r
def Vals.get:∀{xs:dW}{us:gC}{i:Nat}{x:V},Vals xs us->xs[i]?=some x->∃u,us[i]?=some u/\RelV x u
 |_,_,_,_,.nil,e=>by simp at e|_,_,0,_,.cons r _,e=>by simp at e;subst e;exact⟨_,rfl,r⟩
 |_,_,i+1,x,.cons _ t,e=>by obtain⟨u,h1,h2⟩:=Vals.get (i:=i) (x:=x) t (by simpa using e);exact⟨u,by simpa using h1,h2⟩
def Vals.set(r:RelV x u):∀{xs:dW}{us:gC}(i:Nat),Vals xs us->Vals (xs.set i x) (us.set i u)
 |_,_,_,.nil=>.nil|_,_,0,.cons _ t=>.cons r t
 |_,_,i+1,.cons q t=>.cons q<|Vals.set r i t
def Vals.append:∀{xs ys:dW}{us ws:gC},Vals xs us->Vals ys ws->Vals (xs++ys) (us++ws)|_,_,_,_,.nil,s=>s|_,_,_,_,.cons r t,s=>.cons r<|Vals.append t s
def Vals.take:∀{xs:dW}{us:gC}(n:Nat),Vals xs us->Vals (xs.take n) (us.take n)
 |_,_,0,_=>.nil|_,_,_+1,.nil=>.nil
 |_,_,n+1,.cons r t=>.cons r<|Vals.take n t
def Vals.drop:∀{xs:dW}{us:gC}(n:Nat),Vals xs us->Vals (xs.drop n) (us.drop n)
 |_,_,0,r=>r|_,_,_+1,.nil=>.nil
 |_,_,n+1,.cons _ t=>Vals.drop n t
def zAP:Option V->Option Value->Prop
 |some v,some u=>RelV v u|none,none=>True
 |_,_=>False
def KV{κ:Type}:List (κ×V)->List (κ×Value)->Prop:=Paired λ(p:κ×V)(q:κ×Value)=>p.1=q.1/\RelV p.2 q.2
def kV:yu->V|.inl i=>.int i|.inr x=>.str x
inductive HO where
 |lst (xs:dW)
 |tup (xs:dW)
 |dK (kvs:List (yu×V)) |dT (kvs:List (List yu×V))
 |set (S:Int->Bool) (n:Nat)
 |ins (C dx:Addr) (fs:List (Str×V))
 |own (x:Addr)
 |xd (fs:List (Str×V))
 |met (f x:Addr)
 |rng (lo hi:Int)
 |YR (o:Obj) (u:HO)
 |tbl (ps:Array Value)
 |ext (φ:Heap->Prop)
abbrev Hp:=Addr->Option HO
def c6(H:Hp)(a:Addr)(o:HO):Hp:=λb=>if b=a then some o else H b
def aM:c6 H a o a=some o:=by unfold c6;rw[ar rfl]
def aK{a b:Addr}(h:b≠a):c6 H a o b=H b:=by unfold c6;rw[ak h]
def Ip{u:HO}:c6 (c6 H a o) a u=c6 H a u:=by funext b;unfold c6;split<;>rfl
def dR{H:Hp}{a b:Addr}(h:H a=some o)(h':H b=none):a≠b:=by intro e;subst e;rw[h]at h';cases h'
section
variable (P:Program)(w:World)
def XI(H:Hp)(h:Heap)(a:Addr):HO->Prop
 |.lst xs=>xs.length<=sizeLine/\∃(its:gC)(n:Nat),Vals xs its/\h.get? a=some {cls:=.type "list",data:=.seq its.toArray n}|.tup xs=>xs.length<=sizeLine/\∃its:gC,Vals xs its/\IsTup h a its.toArray
 |.dK kvs=>kvs.length<=sizeLine/\(a==sysModules)=false/\∃vs,KV kvs vs/\h.DictOf (jM P w) a vs|.dT kvs=>kvs.length<=sizeLine/\(a==sysModules)=false/\∃xs:List (List yu×Addr×Value),Paired (λ(p:List yu×V)(q:List yu×Addr×Value)=>p.1=q.1/\H q.2.1=some (.tup<|p.1.map kV)/\RelV p.2 q.2.2) kvs xs/\∃o es ep,h.get? a=some o/\o.ExactDict/\o.data=.dict es ep/\es.toList=xs.map (entryOfKey<|tupleKind<|jM P w)/\(xs.map (·.1)).Nodup
 |.set S n=>h.SetOf (intKind P w) a S n|.ins C dx fs=>H dx=some (.own a)/\fs.length<=1000/\dx≠a/\h.get? a=some (PySem.W.instObj C dx)/\∃mA,h.Ns1 dx mA/\(∀f,zAP (fs.lookup f)<|mA f)/\PySem.Within mA (fs.map (·.1))
 |.own _=>∃o,h.get? a=some o|.xd fs=>∃mA,h.Ns1 a mA/\∀f,zAP (fs.lookup f)<|mA f
 |.rng lo hi=>∃t u v,h.get? a=some {cls:=.type "range",data:=.fields #[.int lo t,.int hi u,.int 1 v]}|.YR o u=>h.get? a=some o/\XI H h a u
 |.tbl ps=>h.get? a=some {cls:=.none,data:=.fields ps}|.met f x=>h.get? a=some (PySem.W.methodObj (.ref f)<|.ref x)
 |.ext φ=>φ h/\(∃o,h.get? a=some o)/\∀h1 h2:Heap,φ h1->(∀o,h1.get? a=some o->h2.get? a=some o)->φ h2
def ZD(H:Hp)(h:Heap):Prop:=∀a o,H a=some o->XI P w H h a o
end
def XI.lt(x:XI P w H h a o):a<h.objs.size:=by
 cases o with
 |lst xs=>obtain⟨_,_,_,_,e⟩:=x;exact aI e
 |tup xs=>obtain⟨_,_,_,p⟩:=x;exact p.lt
 |dK kvs=>obtain⟨_,_,_,_,o,_,_,e,_⟩:=x;exact aI e
 |dT kvs=>obtain⟨_,_,_,_,o,_,_,e,_⟩:=x;exact aI e
 |set S n=>obtain⟨o,_,_,_,e,_⟩:=x;exact aI e
 |ins C dx fs=>obtain⟨_,_,_,e,_⟩:=x;exact aI e
 |own y=>obtain⟨_,e⟩:=x;exact aI e
 |xd fs=>obtain⟨_,⟨_,_,_,e,_⟩,_⟩:=x;exact aI e
 |rng lo hi=>obtain⟨_,_,_,e⟩:=x;exact aI e
 |YR ob u=>obtain⟨e,_⟩:=x;exact aI e
 |tbl ps=>exact aI (show h.get? a=some _ from x)|met f y=>exact aI (show h.get? a=some _ from x)
 |ext φ=>obtain⟨_,⟨_,e⟩,_⟩:=x;exact aI e
def Paired.zE8{α β:Type}{F G:α->β->Prop}:∀{l₁:List α}{l₂:List β},Paired F l₁ l₂->(∀a b,F a b->G a b)->Paired G l₁ l₂|_,_,.nil,_=>.nil|_,_,.cons r t,f=>.cons (f _ _ r)<|Paired.zE8 t f
def XI.Z8{H':Hp}{h':Heap}(x:XI P w H h a o)(k:∀b u,(b=a\/H b=some (.own a))->h.get? b=some u->h'.get? b=some u)(ho:∀b,H b=some (.own a)->H' b=some (.own a))(ht:∀b xs,H b=some (.tup xs)->H' b=some (.tup xs)):XI P w H' h' a o:=by
 induction o with
 |lst xs=>obtain⟨z,its,n,r,e⟩:=x;exact⟨z,its,n,r,k _ _ (.inl rfl) e⟩
 |tup xs=>obtain⟨z,its,r,ob,e,c⟩:=x;exact⟨z,its,r,ob,k _ _ (.inl rfl) e,c⟩
 |dK kvs=>obtain⟨z,y,vs,r,ob,es,ep,e,c⟩:=x;exact⟨z,y,vs,r,ob,es,ep,k _ _ (.inl rfl) e,c⟩
 |dT kvs=>obtain⟨z,y,xs,r,ob,es,ep,e,c⟩:=x;exact⟨z,y,xs,Paired.zE8 r λp q z=>⟨z.1,ht _ _ z.2.1,z.2.2⟩,ob,es,ep,k _ _ (.inl rfl) e,c⟩
 |set S n=>obtain⟨ob,es,ep,t,e,c⟩:=x;exact⟨ob,es,ep,t,k _ _ (.inl rfl) e,c⟩
 |ins C dx fs=>obtain⟨d,z,ne,e,mA,⟨od,es,ep,e2,c⟩,r⟩:=x;exact⟨ho _ d,z,ne,k _ _ (.inl rfl) e,mA,⟨od,es,ep,k _ _ (.inr d) e2,c⟩,r⟩
 |own y=>obtain⟨ob,e⟩:=x;exact⟨ob,k _ _ (.inl rfl) e⟩
 |xd fs=>obtain⟨mA,⟨od,es,ep,e,c⟩,r⟩:=x;exact⟨mA,⟨od,es,ep,k _ _ (.inl rfl) e,c⟩,r⟩
 |rng lo hi=>obtain⟨t,u,v,e⟩:=x;exact⟨t,u,v,k _ _ (.inl rfl) e⟩
 |YR ob u ih=>obtain⟨e,q⟩:=x;exact⟨k _ _ (.inl rfl) e,ih q⟩
 |tbl ps=>have e:h.get? a=some {cls:=.none,data:=.fields ps}:=x;show h'.get? a=some {cls:=.none,data:=.fields ps};exact k a _ (.inl rfl) e|met f y=>have e:h.get? a=some (PySem.W.methodObj (.ref f)<|.ref y):=x;show h'.get? a=some (PySem.W.methodObj (.ref f)<|.ref y);exact k a _ (.inl rfl) e
 |ext φ=>obtain⟨p,⟨o,e⟩,st⟩:=x;exact⟨st _ _ p λo q=>k _ _ (.inl rfl) q,⟨o,k _ _ (.inl rfl) e⟩,st⟩
def ZD.lt{a:Addr}(x:ZD P w H h)(e:H a=some o):a<h.objs.size:=(x a o e).lt
def ZD.fresh{a:Addr}(x:ZD P w H h)(e:h.objs.size<=a):H a=none:=by cases q:H a with|none=>rfl|some u=>exact absurd (a9 (x.lt q) e)<|dQ _
def ZD.kept{h':Heap}(x:ZD P w H h)(k:∀b u,h.get? b=some u->h'.get? b=some u):ZD P w H h':=λa o e=>(x a o e).Z8 (λb u _ q=>k b u q) (λ_ q=>q) λ_ _ q=>q
def ZD.laid{h':Heap}{a:Addr}(x:ZD P w H h)(k:∀b u,h.get? b=some u->h'.get? b=some u)(hp:h.objs.size<=a)(new:XI P w (c6 H a o) h' a o):ZD P w (c6 H a o) h':=λb u e=>by
 have hn:=x.fresh hp;by_cases hb:b=a;·subst hb;rw[aM]at e;cases e;exact new
 ·rw[aK hb]at e;exact(x b u e).Z8 (λc v _ q=>k c v q) (λc q=>by rw[aK<|dR q hn];exact q) λc xs q=>by rw[aK<|dR q hn];exact q
def Rd(H:Hp)(a:Addr)(u:HO):Prop:=H a=some u\/∃o,H a=some (.YR o u)
def Rd.ok(r:Rd H a u)(x:ZD P w H h):XI P w H h a u:=by
 rcases r with r |⟨o,r⟩;·exact x a u r
 ·obtain⟨_,q⟩:=x a _ r;exact q
def U9:Option HO->Prop
 |some (.lst _)=>True|some (.dK _)=>True
 |some (.dT _)=>True|some (.set _ _)=>True
 |some (.ins _ _ _)=>True|some (.ext _)=>True
 |_=>False
def ZD.write{h':Heap}{e:Addr}(ok:ZD P w H h)(mu:U9 (H x))(he:e=x\/H e=some (.own x))(k:∀b u,b≠e->h.get? b=some u->h'.get? b=some u)(heo:∃u,h'.get? e=some u)(new:XI P w (c6 H x o') h' x o'):ZD P w (c6 H x o') h':=λb u q=>by
 have zA8:∀c y,H c=some (.own y)->c≠x:=λc y r z=>by subst z;rw[r]at mu;exact mu
 have zHO:∀c xs,H c=some (.tup xs)->c≠x:=λc xs r z=>by subst z;rw[r]at mu;exact mu
 by_cases hb:b=x;·subst hb;rw[aM]at q;cases q;exact new
 ·rw[aK hb]at q;by_cases hbe:b=e
  ·have q':H b=some (.own x):=by
    rcases he with z |z;·exact absurd (hbe.trans z) hb
    ·rw[hbe];exact z
   rw[q]at q';cases q';obtain⟨v,hv⟩:=heo;exact⟨v,by rw[hbe];exact hv⟩
  ·refine(ok b u q).Z8 (λc v hc r=>k c v ?_ r) (λc r=>by rw[aK<|zA8 c b r];exact r) λc xs r=>by rw[aK<|zHO c xs r];exact r
   rcases hc with rfl |hc;·exact hbe
   ·rintro rfl;rcases he with z |z;·exact zA8 c b hc z
    ·rw[hc]at z;cases z;exact hb rfl
structure Un(fs ex:List Addr)(H H':Hp)(h h':Heap):Prop where
 keep:∀b o,h.get? b=some o->H b=none->b∉fs->b∉ex->h'.get? b=some o
 slot:∀b o,h.get? b=some o->H b=none->b∈fs->b∉ex->∃sl,h'.get? b=some {o with slots:=sl}
 free:∀b o,h.get? b=some o->H b=none->b∉ex->H' b=none
 there:∀b o,h.get? b=some o->b∉ex->∃o',h'.get? b=some o'
 ZR:∀b xs,H b=some (.tup xs)->H' b=some (.tup xs)
 Zr:∀b o u,H b=some (.YR o u)->H' b=some (.YR o u)
 ZS:∀b ps,H b=some (.tbl ps)->∃more,H' b=some (.tbl<|ps++more)
def Un.any{b:Addr}(u:Un fs ex H H1 h h1)(q:h.get? b=some ob)(n:H b=none)(hx:b∉ex):∃sl,h1.get? b=some {ob with slots:=sl}:=by
 by_cases hb:b∈fs;·exact u.slot b ob q n hb hx
 ·exact⟨ob.slots,u.keep b ob q n hb hx⟩
def Un.kept{h:Heap}{h':Heap}(k:∀b u,h.get? b=some u->h'.get? b=some u):Un fs ex H H h h':=⟨λb ob q _ _ _=>k b ob q,λb ob q _ _ _=>⟨ob.slots,k b ob q⟩,λ_ _ _ n _=>n,λb ob q _=>⟨ob,k b ob q⟩,λ_ _ q=>q,λ_ _ _ q=>q,λ_ ps q=>⟨#[],by rw[q];simp⟩⟩
def Un.refl:Un fs ex H H h h:=Un.kept λ_ _ q=>q
def Un.laid{H:Hp}{h:Heap}{h':Heap}{a:Addr}(k:∀b u,h.get? b=some u->h'.get? b=some u)(hp:h.objs.size<=a)(hn:H a=none):Un fs ex H (c6 H a o) h h' where
 keep:=λb u q _ _ _=>k b u q
 slot:=λb u q _ _ _=>⟨u.slots,k b u q⟩
 free:=λb u q n _=>by rw[aK<|bi<|a9 (aI q) hp];exact n
 there:=λb u q _=>⟨u,k b u q⟩
 ZR:=λb xs q=>by rw[aK<|dR q hn];exact q
 Zr:=λb u xs q=>by rw[aK<|dR q hn];exact q
 ZS:=λb ps q=>⟨#[],by rw[aK<|dR q hn,q];simp⟩
def Un.write{H:Hp}{h:Heap}{h':Heap}{e:Addr}(mu:U9 (H x))(he:e=x\/H e=some (.own x))(k:∀b u,b≠e->h.get? b=some u->h'.get? b=some u)(heo:∃u,h'.get? e=some u):Un fs ex H (c6 H x o) h h':=by
 have hx:∀b,H b=none->b≠x:=λb n z=>by subst z;rw[n]at mu;exact mu
 have hb:∀b,H b=none->b≠e:=λb n z=>by
  subst z;rcases he with r |r;·exact hx b n r
  ·rw[n]at r;cases r
 have hm:∀b u,H b=some u->¬U9 (some u)->b≠x:=λb u q nm z=>by subst z;rw[q]at mu;exact nm mu
 refine⟨λb u q n _ _=>k b u (hb b n) q,λb u q n _ _=>⟨u.slots,k b u (hb b n) q⟩,λb u q n _=>by rw[aK<|hx b n];exact n,λb u q _=>?_,λb xs q=>by rw[aK (hm b _ q λz=>z)];exact q,λb u xs q=>by rw[aK (hm b _ q λz=>z)];exact q,λb ps q=>⟨#[],by rw[aK (hm b _ q λz=>z),q];simp⟩⟩;by_cases hbe:b=e;·subst hbe;exact heo
 ·exact⟨u,k b u hbe q⟩
def U3(h:Heap)(H:Hp):List Addr:=(List.range h.objs.size).filter λa=>(H a).isSome
def Ca(h:Heap)(H:Hp):Heap:=PySem.W.hideAll h<|U3 h H
def Kt(h:Heap)(H:Hp):(Ca h H).objs.size=h.objs.size:=PySem.W.hideAll_size _ _
def MD{h:Heap}{H:Hp}{b:Addr}(e:h.get? b=some o)(n:H b=none):(Ca h H).get? b=some o:=PySem.W.hideAll_get _ e λhm=>by have q:(H b).isSome=true:=(List.mem_filter.mp hm).2;rw[n]at q;simp at q
def OO{b:Addr}(e:(Ca h H).get? b=some o):h.get? b=some o/\H b=none:=by have e':h.get? b=some o:=PySem.W.of_hideAll (U3 h H) e;refine⟨e',?_⟩;cases q:H b with|none=>rfl|some x=>have hm:b∈U3 h H:=List.mem_filter.mpr ⟨List.mem_range.mpr<|aI e',by simp[q]⟩;have z:(Ca h H).get? b=none:=PySem.W.hideAll_none (U3 h H) hm;rw[z]at e;cases e
def PP(g h:Heap)(L:Addr):gQ:=(List.range h.objs.size).filterMap λa=>if a=L\/(g.get? a).isSome=true then none else(h.get? a).map λo=>(a,o)
def bQ(g h:Heap)(L d:Addr):gQ:=(PP g h L).filter λp=>decide<|p.1≠d
structure Mod(K:bL)(mg:xX)(base:Heap):Prop where
 kin:K.In base
 glob:base.Ns mainGlobals mg
 blt:∃mb,base.Ns builtinsNs mb/\∀x:Str,x≠"__name__"->mb x=bootBuiltins x
 nolimit:base.NoLimit
 seer:base.NoSeer
structure Cx where
 prog:Program
 w:World
 K:bL
 mg:Str->Option Value
 base:Heap
 A:Around
 N:bM
 s₀:Shared
 H₀:Hp
 env:Env
 outer:List Env
 stack:List Env
 ex:List Addr
 fn:Str->Bool
 calm:Bool
 pn:gQ
 xe:Value->Shared->Prop
abbrev fh(X:Cx){α:Type}(m:Sem α)(Q:α->Shared->Prop)(E:Value->Shared->Prop)(s:Shared):Prop:=wpAny (model X.prog X.w) X.A m Q E s
def oZ(l:List Env):List Addr:=l.filterMap (·.frame)
abbrev Cx.fs(X:Cx):List Addr:=oZ X.outer
def S5(sc:Scope)(x:Str):Prop:=sc.names.lookup x=some .local\/sc.names.lookup x=some .cell\/sc.names.lookup x=some .free
def SO(sc:Scope)(x:Str):Prop:=sc.names.lookup x=some .local\/sc.names.lookup x=some .cell
def Wp(env:Env)(h:Heap)(m:xX)(x:Str)(u:Value):Prop:=(env.kindOf x=some .local/\m x=some u)\/((env.kindOf x=some .cell\/env.kindOf x=some .free)/\∃c,env.cells.lookup x=some c/\h.IsCell c (some u))
structure Cx.Ok(X:Cx):Prop where
 mod:Mod X.K X.mg X.base
 kind:X.env.scope.kind=.function
 glob:X.env.globals=mainGlobals
 blt:X.env.builtins=builtinsNs
 above:X.s₀.heap.objs.size<=X.env.locals
 inj:∀x y c,X.env.cells.lookup x=some c->X.env.cells.lookup y=some c->x=y
 has:∀x,(X.env.kindOf x=some .cell\/X.env.kindOf x=some .free)->∃c,X.env.cells.lookup x=some c
 cab:∀x c,X.fn x=true->X.env.cells.lookup x=some c->X.s₀.heap.objs.size<=c
 hd:X.calm=true->X.A.handled=none
 frames:X.A.frames=some X.stack
 ZI:X.stack=X.outer\/(X.stack=X.env::X.outer/\X.env.frame=some X.env.locals)
 exf:∀b∈X.ex,b≠X.env.locals/\∀x c,X.env.cells.lookup x=some c->c≠b
 bs:∀b o,X.base.get? b=some o->X.s₀.heap.get? b=some o/\X.H₀ b=none
 bsz:X.base.objs.size<=X.s₀.heap.objs.size
 zBQ:∀b o,X.base.get? b=some o->b∉X.ex
 zB4:∀b∈X.ex,b∉X.fs
 Zz:X.s₀.heap.FunFrames X.base X.outer
 frf:∀b∈X.fs,X.H₀ b=none
structure Inv(X:Cx)(pins:gQ)(σ:List (Option V))(H:Hp)(s:Shared):Prop where
 ok:X.Ok
 os:s.os=X.s₀.os
 bare:AllBare s.gens
 base:Un X.fs X.ex X.H₀ H X.s₀.heap s.heap
 loc:∃m,s.heap.Ns X.env.locals m/\∀(i:Nat)(x:Str)(v:V),X.N[i]?=some x->σ[i]?=some (some v)->S5 X.env.scope x->∃u,RelV v u/\Wp X.env s.heap m x u
 cell:∀x c,X.env.cells.lookup x=some c->∃v,s.heap.IsCell c v
 free:H X.env.locals=none
 YY:∀x c,X.env.cells.lookup x=some c->H c=none
 pin:∀p∈X.pn++pins,s.heap.get? p.1=some p.2/\H p.1=none/\p.1≠X.env.locals/\p.1∉X.fs/\∀v,p.2.data≠.cell v
 XR:ZD X.prog X.w H s.heap
 len:σ.length=X.N.length
section
variable {σ:List (Option V)}
def Cx.Ok.zHR{b:Addr}{X:Cx}(ok:X.Ok)(e:X.base.get? b=some o):b∉X.fs:=λhb=>by have:=(ok.Zz.mem hb).1;rw[e]at this;cases this
def Inv.bs(I:Inv X pins σ H s):∀b o,X.base.get? b=some o->s.heap.get? b=some o/\H b=none:=λb o e=>⟨I.base.keep b o (I.ok.bs b o e).1 (I.ok.bs b o e).2 (I.ok.zHR e)<|I.ok.zBQ b o e,I.base.free b o (I.ok.bs b o e).1 (I.ok.bs b o e).2<|I.ok.zBQ b o e⟩
def Inv.bk(I:Inv X pins σ H s):∀b o,X.base.get? b=some o->s.heap.get? b=some o:=λb o e=>(I.bs b o e).1
def Inv.mod(I:Inv X pins σ H s):Mod X.K X.mg X.base:=I.ok.mod
def Inv.Y9(I:Inv X pins σ H s):X.K.In s.heap:=I.ok.mod.kin.keeps I.bk
def Inv.nolimit(I:Inv X pins σ H s):s.heap.NoLimit:=I.ok.mod.nolimit.keeps I.bk
def Inv.lt(I:Inv X pins σ H s):X.env.locals<s.heap.objs.size:=let⟨_,hn,_⟩:=I.loc;hn.lt
def Inv.sz(I:Inv X pins σ H s):X.s₀.heap.objs.size<=s.heap.objs.size:=aJ I.ok.above<|j8 I.lt
def Inv.zHQ{a:Addr}(I:Inv X pins σ H s)(h:s.heap.objs.size<=a):a∉X.fs:=λhb=>by obtain⟨_,o,ho,_⟩:=I.ok.Zz.mem hb;exact absurd (a9 (aI ho)<|aJ I.sz h)<|dQ _
def Inv.cne(I:Inv X pins σ H s):∀x c,X.env.cells.lookup x=some c->c≠X.env.locals:=λx c e z=>by obtain⟨v,o,ho,hd⟩:=I.cell x c e;obtain⟨m,⟨o',es,ep,ho',hd',_⟩,_⟩:=I.loc;rw[z,ho']at ho;cases ho;rw[hd']at hd;cases hd
def Inv.Zz(I:Inv X pins σ H s):s.heap.FunFrames X.base X.outer:=by
 have all:∀(l:List Env),(∀b∈oZ l,b∈X.fs)->X.s₀.heap.FunFrames X.base l->s.heap.FunFrames X.base l:=by intro l;induction l with|nil=>intro _ _;trivial|cons env r ih=>intro hs hl;obtain⟨hk,⟨L,o,hf,hn,ho,hd⟩,hr⟩:=hl;have hL:L∈X.fs:=hs L (by unfold oZ;rw[kE,hf];exact bo);obtain⟨sl,e⟩:=I.base.slot L o ho (I.ok.frf L hL) hL λz=>I.ok.zB4 L z hL;exact⟨hk,⟨L,_,hf,hn,e,hd⟩,ih (λb hb=>hs b<|by unfold oZ;rw[kE,hf];exact aO _ hb) hr⟩
 exact all X.outer (λ_ hb=>hb) I.ok.Zz
def Inv.stack(I:Inv X pins σ H s):s.heap.FunFrames X.base X.stack:=by
 rcases I.ok.ZI with e |⟨e,hf⟩;·rw[e];exact I.Zz
 ·rw[e];obtain⟨m,hn,_⟩:=I.loc;refine .cons (by rw[I.ok.kind];decide) hf hn ?_ I.Zz;exact Heap.get?_none_of_le<|aJ I.ok.bsz I.ok.above
def Inv.zAH(I:Inv X pins σ H s):∀b∈oZ X.stack,b∈X.env.locals::X.fs:=λb hb=>by
 rcases I.ok.ZI with e |⟨e,hf⟩;·rw[e]at hb;exact aO _ hb
 ·rw[e]at hb;unfold oZ at hb;rw[kE,hf]at hb;exact hb
def Inv.zAT(I:Inv X pins σ H s):∀b∈oZ X.stack,H b=none:=λb hb=>by
 rcases ax.mp (I.zAH b hb)with e |hb;·rw[e];exact I.free
 ·obtain⟨_,o,ho,_⟩:=I.ok.Zz.mem hb;exact I.base.free b o ho (I.ok.frf b hb) λz=>I.ok.zB4 b z hb
def Inv.step{t':Nat}{ch:List Addr}{H':Hp}{h':Heap}{g':Array GenState}{d':Drawn}(I:Inv X pins σ H s)(hch:∀b∈ch,(b∈X.ex\/X.s₀.heap.objs.size<=b)/\b≠X.env.locals/\(∀x c,X.env.cells.lookup x=some c->c≠b)/\∀p∈X.pn++pins,p.1≠b)(keep:∀b o,b≠X.env.locals->b∉X.fs->b∉ch->s.heap.get? b=some o->H b=none->h'.get? b=some o)(slot:∀b o,b≠X.env.locals->b∈X.fs->b∉ch->s.heap.get? b=some o->H b=none->∃sl,h'.get? b=some {o with slots:=sl})(free:∀b o,b∉ch->s.heap.get? b=some o->H b=none->H' b=none)(there:∀b o,b∉ch->s.heap.get? b=some o->∃o',h'.get? b=some o')(ZR:∀b xs,H b=some (.tup xs)->H' b=some (.tup xs))(Zr:∀b o u,H b=some (.YR o u)->H' b=some (.YR o u))(ZS:∀b ps,H b=some (.tbl ps)->∃more,H' b=some (.tbl<|ps++more))(ns:∀m,s.heap.Ns X.env.locals m->h'.Ns X.env.locals m)(XR:ZD X.prog X.w H' h')(hg:AllBare g'):Inv X pins σ H' {s with heap:=h',gens:=g',drawn:=d',toks:=t'}:=by
 have neL:∀b o,X.s₀.heap.get? b=some o->b≠X.env.locals:=λb o e=>bi<|a9 (aI e) I.ok.above;have neC:∀b o,X.s₀.heap.get? b=some o->b∉X.ex->b∉ch:=λb o e hx hb=>by
  rcases(hch b hb).1 with z |z;·exact hx z
  ·exact absurd (a9 (aI e) z)<|dQ _
 have cellK:∀x c,X.env.cells.lookup x=some c->∀v,s.heap.IsCell c v->h'.IsCell c v:=λx c e v ⟨o,ho,hd⟩=>by
  have nch:c∉ch:=λz=>(hch c z).2.2.1 x c e rfl;by_cases hc:c∈X.fs;·obtain⟨sl,q⟩:=slot c o (I.cne x c e) hc nch ho<|I.YY x c e;exact⟨_,q,hd⟩
  ·exact⟨o,keep c o (I.cne x c e) hc nch ho<|I.YY x c e,hd⟩
 refine⟨I.ok,I.os,hg,⟨λb o e n hb hx=>?_,λb o e n hb hx=>?_,λb o e n hx=>?_,λb o e hx=>?_,λb xs e=>ZR b xs<|I.base.ZR b xs e,λb o xs e=>Zr b o xs<|I.base.Zr b o xs e,λb ps e=>?_⟩,?_,λx c e=>?_,?_,λx c e=>?_,λp hp=>?_,XR,I.len⟩;·exact keep b o (neL b o e) hb (neC b o e hx) (I.base.keep b o e n hb hx)<|I.base.free b o e n hx
 ·obtain⟨sl,e1⟩:=I.base.slot b o e n hb hx;obtain⟨sl',e2⟩:=slot b _ (neL b o e) hb (neC b o e hx) e1<|I.base.free b o e n hx;exact⟨sl',e2⟩
 ·obtain⟨o',e1⟩:=I.base.there b o e hx;exact free b o' (neC b o e hx) e1<|I.base.free b o e n hx
 ·obtain⟨o',e1⟩:=I.base.there b o e hx;exact there b o' (neC b o e hx) e1
 ·obtain⟨m1,e1⟩:=I.base.ZS b ps e;obtain⟨m2,e2⟩:=ZS b _ e1;exact⟨m1++m2,by rw[e2,Array.append_assoc]⟩
 ·obtain⟨m,hn,hl⟩:=I.loc;refine⟨m,ns m hn,λi x v e1 e2 e3=>?_⟩;obtain⟨u,r,l⟩:=hl i x v e1 e2 e3;refine⟨u,r,?_⟩;rcases l with l |⟨k,c,e,z⟩;·exact .inl l
  ·exact .inr ⟨k,c,e,cellK x c e _ z⟩
 ·obtain⟨v,z⟩:=I.cell x c e;exact⟨v,cellK x c e v z⟩
 ·obtain⟨m,⟨o,_,_,ho,_⟩,_⟩:=I.loc;exact free _ o (λz=>(hch _ z).2.1 rfl) ho I.free
 ·obtain⟨v,o,ho,hd⟩:=I.cell x c e;exact free c o (λz=>(hch c z).2.2.1 x c e rfl) ho<|I.YY x c e
 ·obtain⟨e,n,ne,nf,d⟩:=I.pin p hp;have nch:p.1∉ch:=λz=>(hch p.1 z).2.2.2 p hp rfl;exact⟨keep p.1 p.2 ne nf nch e n,free p.1 p.2 nch e n,ne,nf,d⟩
def Inv.un{t':Nat}(I:Inv X pins σ H s)(u:Un X.fs [] H H' s.heap h')(XR:ZD X.prog X.w H' h'):Inv X pins σ H' {s with heap:=h',toks:=t'}:=by obtain⟨m,⟨o,es,ep,ho,r⟩,_⟩:=id I.loc;obtain⟨sl,hL⟩:=u.any ho I.free (by simp);exact I.step (g':=s.gens) (d':=s.drawn) (ch:=[]) (λ_ z=>nomatch z) (λb o _ hb _ e n=>u.keep b o e n hb<|by simp) (λb o _ hb _ e n=>u.slot b o e n hb<|by simp) (λb o _ e n=>u.free b o e n<|by simp) (λb o _ e=>u.there b o e<|by simp) u.ZR u.Zr u.ZS (λm' hm=>by obtain⟨o',es',ep',ho',r'⟩:=hm;rw[ho]at ho';cases ho';exact⟨_,es',ep',hL,r'⟩) XR I.bare
def Inv.call{t':Nat}{g':Array GenState}{d':Drawn}(I:Inv X pins σ H s)(u:Un (oZ X.stack) ch H H' s.heap h')(XR:ZD X.prog X.w H' h')(hg:AllBare g')(hch:∀b∈ch,(b∈X.ex\/X.s₀.heap.objs.size<=b)/\b≠X.env.locals/\(∀x c,X.env.cells.lookup x=some c->c≠b)/\∀p∈X.pn++pins,p.1≠b):Inv X pins σ H' {s with heap:=h',gens:=g',drawn:=d',toks:=t'}:=by obtain⟨m,⟨o,es,ep,ho,r⟩,_⟩:=id I.loc;obtain⟨sl,hL⟩:=u.any ho I.free λz=>(hch _ z).2.1 rfl;exact I.step (ch:=ch) hch (λb o hL hb hc e n=>u.keep b o e n (λz=>(ax.mp<|I.zAH b z).elim hL hb) hc) (λb o _ _ hc e n=>u.any e n hc) (λb o hc e n=>u.free b o e n hc) (λb o hc e=>u.there b o e hc) u.ZR u.Zr u.ZS (λm' hm=>by obtain⟨o',es',ep',ho',r'⟩:=hm;rw[ho]at ho';cases ho';exact⟨_,es',ep',hL,r'⟩) XR hg
def Inv.turned{t':Nat}{it:Addr}{h':Heap}(I:Inv X pins σ H s)(k:∀b o,b≠it->s.heap.get? b=some o->h'.get? b=some o)(hn:H it=none)(hL:it≠X.env.locals)(h1:it∈X.ex\/X.s₀.heap.objs.size<=it)(h2:∀x c,X.env.cells.lookup x=some c->c≠it)(h3:∀p∈X.pn++pins,p.1≠it):Inv X pins σ H {s with heap:=h',toks:=t'}:=by
 have nit:∀b u,H b=some u->b≠it:=λb u e z=>by rw[z,hn]at e;cases e
 refine I.step (g':=s.gens) (d':=s.drawn) (ch:=[it]) (λb hb=>?_) (λb o _ _ hc e _=>k b o (λz=>hc<|by simp[z]) e) (λb o _ _ hc e _=>⟨o.slots,k b o (λz=>hc<|by simp[z]) e⟩) (λ_ _ _ _ n=>n) (λb o hc e=>⟨o,k b o (λz=>hc<|by simp[z]) e⟩) (λ_ _ e=>e) (λ_ _ _ e=>e) (λb ps e=>⟨#[],by rw[e];simp⟩) (λm hm=>?_) (λb u e=>?_) I.bare
 ·have e:b=it:=by simpa using hb
  subst e;exact⟨h1,hL,h2,h3⟩
 ·obtain⟨o,es,ep,ho,r⟩:=hm;exact⟨o,es,ep,k _ o (dU hL) ho,r⟩
 ·refine(I.XR b u e).Z8 (λc v hc q=>k c v ?_ q) (λ_ q=>q) λ_ _ q=>q;rcases hc with z |z;·rw[z];exact nit b u e
  ·exact nit c _ z
def Inv.tok(I:Inv X pins σ H s)(t:Nat):Inv X pins σ H {s with toks:=t}:=I.un (h':=s.heap) (t':=t) Un.refl I.XR
def Inv.kept{t':Nat}{h':Heap}(I:Inv X pins σ H s)(k:∀b u,s.heap.get? b=some u->h'.get? b=some u):Inv X pins σ H {s with heap:=h',toks:=t'}:=I.un (Un.kept k)<|I.XR.kept k
def Inv.laid{a:Addr}{t':Nat}{h':Heap}(I:Inv X pins σ H s)(k:∀b u,s.heap.get? b=some u->h'.get? b=some u)(hp:s.heap.objs.size<=a)(new:XI X.prog X.w (c6 H a o) h' a o):Inv X pins σ (c6 H a o) {s with heap:=h',toks:=t'}:=I.un (Un.laid k hp<|I.XR.fresh hp)<|I.XR.laid k hp new
def Inv.write{e:Addr}{t':Nat}{h':Heap}(I:Inv X pins σ H s)(mu:U9 (H x))(he:e=x\/H e=some (.own x))(k:∀b u,b≠e->s.heap.get? b=some u->h'.get? b=some u)(heo:∃u,h'.get? e=some u)(new:XI X.prog X.w (c6 H x o) h' x o):Inv X pins σ (c6 H x o) {s with heap:=h',toks:=t'}:=I.un (Un.write mu he k heo)<|I.XR.write mu he k heo new
def Inv.zAV{Yh:gQ}(I:Inv X pins σ H s)(h:∀p∈Yh,s.heap.get? p.1=some p.2/\H p.1=none/\p.1≠X.env.locals/\p.1∉X.fs/\∀v,p.2.data≠.cell v):Inv X Yh σ H s:=⟨I.ok,I.os,I.bare,I.base,I.loc,I.cell,I.free,I.YY,λp hp=>(aL.mp hp).elim (λz=>I.pin p<|EX _ z)<|h p,I.XR,I.len⟩
def FG{N:bM}{i j:Nat}(hN:N.Nodup)(a:N[i]?=some x)(b:N[j]?=some x):i=j:=by obtain⟨h1,e1⟩:=List.getElem?_eq_some_iff.mp a;obtain⟨h2,e2⟩:=List.getElem?_eq_some_iff.mp b;exact(List.getElem_inj hN).mp<|e1.trans e2.symm
def J3{i:Nat}{Q:Unit->Shared->Prop}(I:Inv X pins σ H s)(hN:X.N.Nodup)(hi:X.N[i]?=some x)(hx:SO X.env.scope x)(r:RelV v u)(h:∀s',Inv X pins (σ.set i<|some v) H s'->(∃a,Heap.SameBut a s.heap s'.heap/\(a=X.env.locals\/X.env.cells.lookup x=some a))->Q () s')(hf:X.fn x=true\/X.env.scope.names.lookup x=some .local:=by first |exact .inl rfl |exact .inr rfl |assumption):wpAny M A (storeName X.env x u) Q E s:=by
 obtain⟨m,hn,hl⟩:=id I.loc;have zIO:(X.env.scope.kind==.class||(X.env.scope.kind==.module&&X.env.locals !=X.env.globals))=false:=by rw[I.ok.kind];rfl
 have hiσ:i<σ.length:=by rw[I.len];exact(List.getElem?_eq_some_iff.mp hi).1
 have cne:=I.cne;have tracked:∀{a:Addr}{h':Heap},(∃o,s.heap.get? a=some o/\H a=none)->Heap.SameBut a s.heap h'->ZD X.prog X.w H h':=λ{a h'}ha hs b ob e=>by
  obtain⟨_,_,Zj⟩:=ha;refine(I.XR b ob e).Z8 (λc w' hc q=>(hs.2 c ?_).trans q) (λ_ q=>q) λ_ _ q=>q;rintro rfl;rcases hc with rfl |hc;·rw[Zj]at e;cases e
  ·rw[Zj]at hc;cases hc
 rcases hx with hk |hk
 ·refine wpAny_storeName_local hk hn (λh' Zp hs=>?_) zIO;obtain⟨oL,_,_,hoL,_⟩:=id hn;refine h _ ⟨I.ok,I.os,I.bare,⟨λb o e n hb hx=>?_,λb o e n hb hx=>?_,I.base.free,λb o e hx=>?_,I.base.ZR,I.base.Zr,I.base.ZS⟩,⟨_,Zp,λj y v' e1 e2 e3=>?_⟩,λy c e=>?_,I.free,I.YY,λp hp=>?_,tracked ⟨oL,hoL,I.free⟩ hs,by simpa using I.len⟩ ⟨_,hs,.inl rfl⟩;·exact(hs.2 b<|bi<|a9 (aI e) I.ok.above).trans<|I.base.keep b o e n hb hx
  ·obtain⟨sl,e1⟩:=I.base.slot b o e n hb hx;exact⟨sl,(hs.2 b<|bi<|a9 (aI e) I.ok.above).trans e1⟩
  ·obtain⟨o',e1⟩:=I.base.there b o e hx;exact⟨o',(hs.2 b<|bi<|a9 (aI e) I.ok.above).trans e1⟩
  ·by_cases hj:j=i;·subst hj;rw[hi]at e1;cases e1;rw[List.getElem?_set_self hiσ]at e2;cases e2;exact⟨u,r,.inl ⟨hk,by simp⟩⟩
   ·rw[List.getElem?_set_ne<|dU hj]at e2;obtain⟨u',r',q⟩:=hl j y v' e1 e2 e3;refine⟨u',r',?_⟩;rcases q with⟨k,e⟩ |⟨k,c,e,z⟩;·refine .inl ⟨k,?_⟩;have:y≠x:=λe=>hj<|FG hN e1<|e▸hi;simp[this,e]
    ·exact .inr ⟨k,c,e,z.sameBut hs<|cne y c e⟩
  ·obtain⟨w',z⟩:=I.cell y c e;exact⟨w',z.sameBut hs<|cne y c e⟩
  ·obtain⟨e,n,ne,nf,d⟩:=I.pin p hp;exact⟨(hs.2 p.1 ne).trans e,n,ne,nf,d⟩
 ·have hfn:X.fn x=true:=by
   rcases hf with z |z;·exact z
   ·rw[z]at hk;cases hk
  obtain⟨c,hc⟩:=I.ok.has x<|.inl hk;obtain⟨w',z⟩:=I.cell x c hc;refine wpAny_storeName_cell I.ok.kind hk hc z λh' Z4 hs=>?_;obtain⟨oc,hoc,zH8⟩:=id z;refine h {s with heap:=h'} ⟨I.ok,I.os,I.bare,⟨λb o e n hb hx=>?_,λb o e n hb hx=>?_,I.base.free,λb o e hx=>?_,I.base.ZR,I.base.Zr,I.base.ZS⟩,⟨m,hn.sameBut hs<|dU<|cne x c hc,λj y v' e1 e2 e3=>?_⟩,λy c' e=>?_,I.free,I.YY,λp hp=>?_,tracked ⟨oc,hoc,I.YY x c hc⟩ hs,by simpa using I.len⟩ ⟨c,hs,.inr hc⟩;·exact(hs.2 b<|bi<|a9 (aI e)<|I.ok.cab x c hfn hc).trans<|I.base.keep b o e n hb hx
  ·obtain⟨sl,e1⟩:=I.base.slot b o e n hb hx;exact⟨sl,(hs.2 b<|bi<|a9 (aI e)<|I.ok.cab x c hfn hc).trans e1⟩
  ·obtain⟨o',e1⟩:=I.base.there b o e hx;exact⟨o',(hs.2 b<|bi<|a9 (aI e)<|I.ok.cab x c hfn hc).trans e1⟩
  ·by_cases hj:j=i;·subst hj;rw[hi]at e1;cases e1;rw[List.getElem?_set_self hiσ]at e2;cases e2;exact⟨u,r,.inr ⟨.inl hk,c,hc,Z4⟩⟩
   ·rw[List.getElem?_set_ne<|dU hj]at e2;obtain⟨u',r',q⟩:=hl j y v' e1 e2 e3;refine⟨u',r',?_⟩;rcases q with q |⟨k,c',e,z'⟩;·exact .inl q
    ·refine .inr ⟨k,c',e,z'.sameBut hs ?_⟩;rintro rfl;exact hj<|FG hN e1<|I.ok.inj _ _ _ e hc▸hi
  ·by_cases hcc:c'=c;·subst hcc;exact⟨_,Z4⟩
   ·obtain⟨w2,z2⟩:=I.cell y c' e;exact⟨w2,z2.sameBut hs hcc⟩
  ·obtain⟨e,n,ne,nf,d⟩:=I.pin p hp;refine⟨(hs.2 p.1 ?_).trans e,n,ne,nf,d⟩;intro q;rw[q,hoc]at e;have q':oc=p.2:=bG e;exact d w'<|by rw[<-q'];exact zH8
def qP{i:Nat}{Q:Unit->Shared->Prop}(I:Inv X pins σ H s)(hN:X.N.Nodup)(hi:X.N[i]?=some x)(hx:SO X.env.scope x)(r:RelV v u)(h:∀s',Inv X pins (σ.set i<|some v) H s'->Q () s')(hf:X.fn x=true\/X.env.scope.names.lookup x=some .local:=by first |exact .inl rfl |exact .inr rfl |assumption):wpAny M A (storeName X.env x u) Q E s:=J3 I hN hi hx r (λs' I' _=>h s' I') hf
def Inv.zGG{s':Shared}(I:Inv X pins σ H s)(ho:s'.os=s.os)(u:Un (oZ X.stack) ch H H' s.heap s'.heap)(XR:ZD X.prog X.w H' s'.heap)(hg:AllBare s'.gens)(hch:∀b∈ch,(b∈X.ex\/X.s₀.heap.objs.size<=b)/\b≠X.env.locals/\(∀x c,X.env.cells.lookup x=some c->c≠b)/\∀p∈X.pn++pins,p.1≠b):Inv X pins σ H' s':=by obtain⟨h',g',d',t',o'⟩:=s';have e:o'=s.os:=ho;subst e;exact I.call (g':=g') (t':=t') (d':=d') u XR hg hch
end
abbrev XK:=Value->Option Addr->Hp->Prop
abbrev St:=List<|Option V
abbrev VK:=V->Hp->Prop
abbrev TE:=St->Hp->VK->Prop
abbrev TT:=St->Hp->(Bool->Hp->Prop)->Prop
abbrev TA:=St->Hp->(dW->Hp->Prop)->Prop
structure ma where
 nx:St->Hp->Prop
 rt:VK
 bk:St->Hp->Prop:=λ_ _=>False
 ct:St->Hp->Prop:=λ_ _=>False
abbrev TS:=ma->St->Hp->Prop
def EP(X:Cx)(pins:gQ)(σ:St)(Q:VK)(u:Value)(s':Shared):Prop:=∃v H',Inv X pins σ H' s'/\RelV v u/\Q v H'
def TP(X:Cx)(pins:gQ)(σ:St)(Q:Bool->Hp->Prop)(b:Bool)(s':Shared):Prop:=∃H',Inv X pins σ H' s'/\Q b H'
def AP(X:Cx)(pins:gQ)(σ:St)(Q:dW->Hp->Prop)(us:gC)(s':Shared):Prop:=∃vs H',Inv X pins σ H' s'/\Vals vs us/\Q vs H'
def SP(X:Cx)(pins:gQ)(D:ma)(f:Flow)(s':Shared):Prop:=match f with
 |.next=>∃σ' H',Inv X pins σ' H' s'/\D.nx σ' H'|.brk=>∃σ' H',Inv X pins σ' H' s'/\D.bk σ' H'
 |.cont=>∃σ' H',Inv X pins σ' H' s'/\D.ct σ' H'|.ret u=>∃v σ' H',Inv X pins σ' H' s'/\RelV v u/\D.rt v H'
def PE(X:Cx)(e:Expr)(t:TE):Prop:=∀(pins:gQ)(s:Shared)(σ:St)(H:Hp)(Q:VK),Inv X pins σ H s->t σ H Q->fh X (eval e X.env) (EP X pins σ Q) X.xe s
def PT(X:Cx)(e:Expr)(t:TT):Prop:=∀(pins:gQ)(s:Shared)(σ:St)(H:Hp)(Q:Bool->Hp->Prop),Inv X pins σ H s->t σ H Q->fh X (isTrue e X.env<|eval e X.env) (TP X pins σ Q) X.xe s
def PW(X:Cx)(e:Expr)(t:TT):Prop:=∀(whole:Sem Value)(pins:gQ)(s:Shared)(σ:St)(H:Hp)(Q:Bool->Hp->Prop),Inv X pins σ H s->t σ H Q->fh X (isTrue e X.env whole) (TP X pins σ Q) X.xe s
def PA(X:Cx)(es:tu)(t:TA):Prop:=∀(pos:Pos)(pins:gQ)(s:Shared)(σ:St)(H:Hp)(Q:dW->Hp->Prop),Inv X pins σ H s->t σ H Q->fh X (spliced<|backTo pos<|starEach es X.env) (AP X pins σ Q) X.xe s
def PS(X:Cx)(st:Stmt)(t:TS):Prop:=∀(pins:gQ)(s:Shared)(σ:St)(H:Hp)(D:ma),Inv X pins σ H s->t D σ H->fh X (exec st X.env) (SP X pins D) X.xe s
def PSs(X:Cx)(st:List Stmt)(t:TS):Prop:=∀(pins:gQ)(s:Shared)(σ:St)(H:Hp)(D:ma),Inv X pins σ H s->t D σ H->fh X (execs st X.env) (SP X pins D) X.xe s
def dM{α:Type}{t:Sem α}{Q Q':α->Shared->Prop}(h:wpAny M A t Q E s)(hQ:∀a s,Q a s->Q' a s):wpAny M A t Q' E s:=oX h hQ λ_ _ x=>x
section
def Xl(ha:PE X a ta)(hb:PE X b tb){R:V->V->Hp->Prop}(I:Inv X pins σ H s)(h:ta σ H λx H1=>tb σ H1 λy H2=>R x y H2){α:Type}{Q:α->Shared->Prop}{f:Value->Value->Sem α}(hf:∀v u s2 x y H2,Inv X pins σ H2 s2->RelV x v->RelV y u->R x y H2->fh X (f v u) Q X.xe s2):fh X (eval a X.env) (λv s₁=>fh X (eval b X.env) (λu s₂=>fh X (f v u) Q X.xe s₂) X.xe s₁) X.xe s:=by refine dM (ha pins s σ H _ I h) λv s1 ⟨x,H1,I1,r1,q1⟩=>?_;refine dM (hb pins s1 σ H1 _ I1 q1) λu s2 ⟨y,H2,I2,r2,q2⟩=>?_;exact hf v u s2 x y H2 I2 r1 r2 q2
def QL(i:Nat):TE:=λσ H Q=>∃v,σ[i]?=some (some v)/\Q v H
def tC(v:V):TE:=λ_ H Q=>Q v H
def Ma{i:Nat}{X:Cx}(hN:X.N[i]?=some x)(hv:S5 X.env.scope x)(hd:tH x:=by decide)(hcd:(x==("__classdict__":Str))=false:=by decide):PE X (.Name x pos) (QL i):=by
 intro pins s σ H Q I h;obtain⟨v,e,h⟩:=h;obtain⟨m,hn,hl⟩:=I.loc;obtain⟨u,r,l⟩:=hl i x v hN e hv;have fin:EP X pins σ Q u s:=⟨v,H,I,r,h⟩;rcases l with⟨hk,hm⟩ |⟨hk,c,hc,Zk⟩;·exact wpAny_Name (wpAny_loadName_local I.ok.kind hk hn hm fin) hd
 ·rcases hk with hk |hk;·exact wpAny_Name (wpAny_loadName_cell I.ok.kind hk hc Zk fin) hd
  ·exact wpAny_Name (wpAny_loadName_free I.ok.kind hk hc Zk fin hcd) hd
def Ho{i j pos}:PE X (.Constant (.int i) j pos) (tC<|.int i):=λ_ _ _ H _ I h=>wpAny_Constant_int ⟨.int i,H,I.tok _,⟨_,rfl⟩,h⟩
def TU{b j pos}:PE X (.Constant (.bool b) j pos) (tC<|.bl b):=λ_ _ _ H _ I h=>Constant_bool ⟨.bl b,H,I,rfl,h⟩
def Rb{x j pos}:PE X (.Constant (.str x) j pos) (tC<|.str x):=λ_ _ _ H _ I h=>P3 ⟨.str x,H,I.tok _,⟨_,rfl⟩,h⟩
def Gl(X:Cx)(x:Str):Prop:=X.env.kindOf x=some .globalImplicit
def Ef{Q:wL}(I:Inv X pins σ H s)(hg:Gl X x)(hm:X.mg x=some u)(h:Q u s)(hd:tH x:=by decide):fh X (eval (.Name x pos) X.env) Q E s:=Xj I.ok.kind hg (Calls.loadGlobal_global (by rw[I.ok.glob];exact I.mod.glob.keeps I.bk) hm h) hd
def rH{Q:wL}(I:Inv X pins σ H s)(hg:Gl X x)(hm:X.mg x=none)(hv:bootBuiltins x=some u)(h:Q u s)(hn:x≠"__name__":=by decide)(hd:tH x:=by decide):fh X (eval (.Name x pos) X.env) Q E s:=by obtain⟨mb,h1,h2⟩:=I.mod.blt;exact Xj I.ok.kind hg (Calls.loadGlobal_builtin (by rw[I.ok.glob];exact I.mod.glob.keeps I.bk) hm (by rw[I.ok.blt];exact h1.keeps I.bk) ((h2 x hn).trans hv) h) hd
def ze(hg:Gl X x)(hm:X.mg x=some u)(r:RelV v u)(hd:tH x:=by decide):PE X (.Name x pos) (tC v):=λ_ _ _ H _ I h=>Ef I hg hm ⟨v,H,I,r,h⟩ hd
def D0(hg:Gl X x)(hm:X.mg x=none)(hv:bootBuiltins x=some u)(r:RelV v u)(hn:x≠"__name__":=by decide)(hd:tH x:=by decide):PE X (.Name x pos) (tC v):=λ_ _ _ H _ I h=>rH I hg hm hv ⟨v,H,I,r,h⟩ hn hd
def PC(X:Cx)(op:CmpOp)(a b:Expr)(t:TE):Prop:=∀(pins:gQ)(s:Shared)(σ:St)(H:Hp)(Q:VK),Inv X pins σ H s->t σ H Q->fh X (eval a X.env) (λv s₁=>fh X (eval b X.env) (λu s₂=>fh X (compareOp op v u) (EP X pins σ Q) X.xe s₂) X.xe s₁) X.xe s
def dX(b:Expr){op:CmpOp}(h:op≠.In)(h2:op≠.NotIn):behindInMarks op b=false:=by
 have e1:(op==CmpOp.In)=false:=by cases op<;>first |rfl |exact absurd rfl h
 have e2:(op==CmpOp.NotIn)=false:=by cases op<;>first |rfl |exact absurd rfl h2
 cases b<;>simp[behindInMarks,e1,e2]
def tB(t:TE):TT:=λσ H Q=>t σ H λx H1=>∃c,x=.bl c/\Q c H1
def VP{op:CmpOp}(h:PC X op a b t)(h1:behindInMarks op b=false:=by first |exact dX _ (by decide) (by decide) |rfl):PT X (.Compare a [op] [b] pos) (tB t):=by intro pins s σ H Q I hw;refine wpAny_isTrue_Compare1 (dM (h pins s σ H _ I hw) λv s1 h1=>dM h1 λu s2 h2=>dM h2 λc s3 ⟨x,H1,I1,r1,q1⟩=>?_) h1;obtain⟨d,rfl,q⟩:=q1;cases r1;exact dC ⟨H1,I1,q⟩
def Q4(h:PE X e t)(he:∀whole,isTrue e X.env whole=(do let v <-whole;standAt e.pos;holding [v] (truthy v)):=by intro _;rfl):PT X e (tB t):=by intro pins s σ H Q I hw;refine isTrue_plain (dM (h pins s σ H _ I hw) λv s1 ⟨x,H1,I1,r1,q1⟩=>?_)<|he _;obtain⟨d,rfl,q⟩:=q1;cases r1;exact dC ⟨H1,I1,q⟩
variable {tA tB':TT}{bQ:tu}
def VA(t u:TT):TT:=λσ H Q=>t σ H λc H1=>if c=true then u σ H1 Q else Q false H1
def W1(t u:TT):TT:=λσ H Q=>t σ H λc H1=>if c=true then Q true H1 else u σ H1 Q
def Vs(t:TT):TT:=λσ H Q=>t σ H λc H1=>Q (!c) H1
def Ow(ha:PT X a tA):PW X (.BoolOp .And [a] pos) tA:=by intro wh pins s σ H Q I h;refine isTrue_and (dM (ha pins s σ H Q I h) λc s1 e=>?_);cases c with|true=>exact isTrue_and_nil e|false=>exact e
def Q3(ha:PT X a tA):PW X (.BoolOp .Or [a] pos) tA:=by intro wh pins s σ H Q I h;refine isTrue_or (dM (ha pins s σ H Q I h) λc s1 e=>?_);cases c with|false=>exact isTrue_or_nil e|true=>exact e
def LY(ha:PT X a tA)(hb:PW X (.BoolOp .And (b::bQ) pos) tB'):PW X (.BoolOp .And (a::b::bQ) pos) (VA tA tB'):=by intro wh pins s σ H Q I h;refine isTrue_and (dM (ha pins s σ H _ I h) λc s1 ⟨H1,I1,q1⟩=>?_);cases c with|true=>exact hb wh pins s1 σ H1 Q I1 q1|false=>exact⟨H1,I1,q1⟩
def Qd(ha:PT X a tA)(hb:PW X (.BoolOp .Or (b::bQ) pos) tB'):PW X (.BoolOp .Or (a::b::bQ) pos) (W1 tA tB'):=by intro wh pins s σ H Q I h;refine isTrue_or (dM (ha pins s σ H _ I h) λc s1 ⟨H1,I1,q1⟩=>?_);cases c with|true=>exact⟨H1,I1,q1⟩|false=>exact hb wh pins s1 σ H1 Q I1 q1
def Q5(ha:PT X a tA):PT X (.UnaryOp .Not a pos) (Vs tA):=by intro pins s σ H Q I h;exact isTrue_not<|ha pins s σ H (λc H1=>Q (!c) H1) I h
def Tx(ta tb:TE):TE:=λσ H Q=>ta σ H λx H1=>∃c,x=.bl c/\if c=true then tb σ H1 Q else Q (.bl false) H1
def Vr(ta tb:TE):TE:=λσ H Q=>ta σ H λx H1=>∃c,x=.bl c/\if c=true then Q (.bl true) H1 else tb σ H1 Q
def Tp(ta:TE):TE:=λσ H Q=>ta σ H λx H1=>∃c,x=.bl c/\Q (.bl (!c)) H1
def Rc{op}(h:PE X a t):PE X (.BoolOp op [a] pos) t:=λpins s σ H Q I hw=>BoolOp_one<|h pins s σ H Q I hw
def Mc(ha:PE X a ta)(hb:PE X (.BoolOp .And (b::bQ) pos) tb):PE X (.BoolOp .And (a::b::bQ) pos) (Tx ta tb):=by intro pins s σ H Q I h;refine BoolOp_and (dM (ha pins s σ H _ I h) λv s1 ⟨x,H1,I1,r1,q1⟩=>?_);obtain⟨c,rfl,q1⟩:=q1;cases r1;refine dC ?_;cases c with|true=>exact hb pins s1 σ H1 Q I1 q1|false=>exact⟨.bl false,H1,I1,rfl,q1⟩
def Qe(ha:PE X a ta)(hb:PE X (.BoolOp .Or (b::bQ) pos) tb):PE X (.BoolOp .Or (a::b::bQ) pos) (Vr ta tb):=by intro pins s σ H Q I h;refine BoolOp_or (dM (ha pins s σ H _ I h) λv s1 ⟨x,H1,I1,r1,q1⟩=>?_);obtain⟨c,rfl,q1⟩:=q1;cases r1;refine dC ?_;cases c with|false=>exact hb pins s1 σ H1 Q I1 q1|true=>exact⟨.bl true,H1,I1,rfl,q1⟩
def Re(ha:PE X a ta):PE X (.UnaryOp .Not a pos) (Tp ta):=by intro pins s σ H Q I h;refine UnaryOp_ (dM (ha pins s σ H _ I h) λv s1 ⟨x,H1,I1,r1,q1⟩=>?_);obtain⟨c,rfl,q1⟩:=q1;cases r1;exact not_of<|dC ⟨.bl (!c),H1,I1,rfl,q1⟩
def W2(t:TT)(ta tb:TE):TE:=λσ H Q=>t σ H λc H1=>if c=true then ta σ H1 Q else tb σ H1 Q
def vq(hc:PT X c tA)(ha:PE X a ta)(hb:PE X b tb):PE X (.IfExp c a b pos) (W2 tA ta tb):=by intro pins s σ H Q I h;refine wpAny_IfExp (dM (hc pins s σ H _ I h) λd s1 ⟨H1,I1,q1⟩=>?_);cases d with|true=>exact ha pins s1 σ H1 Q I1 q1|false=>exact hb pins s1 σ H1 Q I1 q1
end
def XZ(K:bL)(H:Hp)(a:Addr)(xs:dW):Prop:=Rd H a (.lst xs)\/∃(o:Obj)(its:Array Value)(n:Nat),K.lookup a=some o/\o.cls=.type "list"/\o.dict=none/\o.data=.seq its n/\its.size<=sizeLine/\Vals xs its.toList
def Yu(K:bL)(H:Hp)(a:Addr)(xs:dW):Prop:=Rd H a (.tup xs)\/∃(o:Obj)(its:Array Value)(n:Nat),K.lookup a=some o/\o.cls=.type "tuple"/\o.data=.seq its n/\its.size<=sizeLine/\Vals xs its.toList
def Wg:Value->Option V
 |.none=>some .XY|.bool b=>some<|.bl b
 |.int i _=>some (.int i)|.str x _=>some<|.str x
 |.bytes b _=>some (.byt b)|.float b _=>some<|.flt b
 |.ref a=>some (.ref a)|.type n=>some<|.ty n
 |_=>none
def RelV.abs(r:RelV x u):Wg u=some x:=by
 cases x with
 |XY=>cases r;rfl
 |bl _=>cases r;rfl
 |int _=>obtain⟨t,rfl⟩:=r;rfl
 |str _=>obtain⟨t,rfl⟩:=r;rfl
 |byt _=>obtain⟨t,rfl⟩:=r;rfl
 |flt _=>obtain⟨t,rfl⟩:=r;rfl
 |ref _=>cases r;rfl
 |ty _=>cases r;rfl
def RelV.inj(r:RelV x u)(q:RelV y u):x=y:=bG<|r.abs.symm.trans q.abs
def Vals.inj:∀{xs ys:dW}{us:gC},Vals xs us->Vals ys us->xs=ys|_,_,_,.nil,.nil=>rfl|_,_,_,.cons r t,.cons r' t'=>by rw[r.inj r',Vals.inj t t']
def XZ.of{K:bL}{H:Hp}{a:Addr}(h:H a=some (.lst xs)):XZ K H a xs:=.inl<|.inl h
def Yu.of{K:bL}{H:Hp}{a:Addr}(h:H a=some (.tup xs)):Yu K H a xs:=.inl<|.inl h
def Inv.list(I:Inv X pins σ H s)(h:XZ X.K H a xs):∃its:gC,Vals xs its/\PlainL s.heap a its.toArray/\xs.length<=sizeLine:=by
 rcases h with h |⟨o,its,n,hk,hc,hd,hs,hz,r⟩;·obtain⟨z,its,n,r,e⟩:=h.ok I.XR;exact⟨its,r,⟨_,n,e,rfl,rfl,rfl⟩,z⟩
 ·refine⟨its.toList,r,⟨o,n,I.Y9 a o hk,hc,hd,by simpa using hs⟩,?_⟩;have e:=r.length;simp only[bX]at e;lia
def Inv.tuple(I:Inv X pins σ H s)(h:Yu X.K H a xs):∃its:gC,Vals xs its/\IsTup s.heap a its.toArray/\xs.length<=sizeLine:=by
 rcases h with h |⟨o,its,n,hk,hc,hs,hz,r⟩;·obtain⟨z,its,r,p⟩:=h.ok I.XR;exact⟨its,r,p,z⟩
 ·refine⟨its.toList,r,⟨o,I.Y9 a o hk,hc,n,by simpa using hs⟩,?_⟩;have e:=r.length;simp only[bX]at e;lia
def Inv.ZK(I:Inv X pins σ H s)(h:XZ X.K H a xs)(h':XZ X.K H a ys):xs=ys:=by
 obtain⟨its,r,⟨o,n,e,_,_,d⟩,_⟩:=I.list h;obtain⟨its',r',⟨o',n',e',_,_,d'⟩,_⟩:=I.list h';rw[e]at e';cases e';rw[d]at d';injection d' with d1 _;have:its=its':=by simpa using aY Array.toList d1
 subst this;exact r.inj r'
def Inv.ZV(I:Inv X pins σ H s)(h:Yu X.K H a xs)(h':Yu X.K H a ys):xs=ys:=by
 obtain⟨its,r,⟨o,e,_,n,d⟩,_⟩:=I.tuple h;obtain⟨its',r',⟨o',e',_,n',d'⟩,_⟩:=I.tuple h';rw[e]at e';cases e';rw[d]at d';injection d' with d1 _;have:its=its':=by simpa using aY Array.toList d1
 subst this;exact r.inj r'
abbrev Cx.ZQ(X:Cx)(E:wL):Cx:={X with xe:=E}
abbrev Cx.Z2(X:Cx):Cx:=X.ZQ λ_ _=>False
def Cx.Ok.ZQ{X:Cx}(ok:X.Ok)(E:wL):(X.ZQ E).Ok:=⟨ok.mod,ok.kind,ok.glob,ok.blt,ok.above,ok.inj,ok.has,ok.cab,ok.hd,ok.frames,ok.ZI,ok.exf,ok.bs,ok.bsz,ok.zBQ,ok.zB4,ok.Zz,ok.frf⟩
def Cx.Ok.YV{X:Cx}(ok:(X.ZQ E).Ok):X.Ok:=⟨ok.mod,ok.kind,ok.glob,ok.blt,ok.above,ok.inj,ok.has,ok.cab,ok.hd,ok.frames,ok.ZI,ok.exf,ok.bs,ok.bsz,ok.zBQ,ok.zB4,ok.Zz,ok.frf⟩
def Inv.ZQ(I:Inv X pins σ H s)(E:wL):Inv (X.ZQ E) pins σ H s:=⟨I.ok.ZQ E,I.os,I.bare,I.base,I.loc,I.cell,I.free,I.YY,I.pin,I.XR,I.len⟩
def Inv.YV{X:Cx}(I:Inv (X.ZQ E) pins σ H s):Inv X pins σ H s:=⟨I.ok.YV,I.os,I.bare,I.base,I.loc,I.cell,I.free,I.YY,I.pin,I.XR,I.len⟩
def SP.YV{D:ma}{X:Cx}{f:Flow}(h:SP (X.ZQ E) pins D f s'):SP X pins D f s':=by
 cases f with
 |next=>obtain⟨σ',H',I,q⟩:=h;exact⟨σ',H',I.YV,q⟩
 |brk=>obtain⟨σ',H',I,q⟩:=h;exact⟨σ',H',I.YV,q⟩
 |cont=>obtain⟨σ',H',I,q⟩:=h;exact⟨σ',H',I.YV,q⟩
 |ret u=>obtain⟨v,σ',H',I,r,q⟩:=h;exact⟨v,σ',H',I.YV,r,q⟩
def PSs.Z2{st:List Stmt}{X:Cx}(h:PSs X.Z2 st t):PSs X st t:=λpins s σ H D I hw=>oX (h pins s σ H D (I.ZQ _) hw) (λ_ _ q=>q.YV) λ_ _ z=>False.elim z
section
variable {st:Stmt}{bQ:List Stmt}
def Tq:TS:=λD σ H=>D.nx σ H
def Vo(t u:TS):TS:=λD σ H=>t {D with nx:=u D} σ H
def Oy:PSs X [] Tq:=λ_ _ σ H _ I h=>GS ⟨σ,H,I,h⟩
def ib(h1:PS X st t)(h2:PSs X bQ u):PSs X (st::bQ) (Vo t u):=by
 intro pins s σ H D I h;refine wpAny_execs_cons (dM (h1 pins s σ H {D with nx:=u D} I h) λf s1 q=>?_);cases f with
 |next=>obtain⟨σ',H',I',q⟩:=q;exact h2 pins s1 σ' H' D I' q
 |ret v=>exact q|brk=>exact q
 |cont=>exact q
def pF(h1:PS X st t):PSs X [st] t:=by
 intro pins s σ H D I h;refine wpAny_execs_cons (dM (h1 pins s σ H D I h) λf s1 q=>?_);cases f with
 |next=>exact GS q|ret v=>exact q
 |brk=>exact q|cont=>exact q
def Inv.quiet(I:Inv X pins σ H s):interactive X.env=false:=by simp[interactive,I.ok.kind]
def Ts(te:TE):TS:=λD σ H=>te σ H λ_ H1=>D.nx σ H1
def iW{pos:Pos}(he:PE X e te)(hs:swapsWith e none pos.line X.env=pure false:=by rfl):PS X (.Expr e pos) (Ts te):=by intro pins s σ H D I h;exact wpAny_Expr_any (dM (he pins s σ H _ I h) λv s1 ⟨x,H1,I1,r1,q1⟩=>⟨σ,H1,I1,q1⟩) I.quiet hs
def Vp(te:TE):TS:=λD σ H=>te σ H D.rt
def AA(he:PE X e te):PS X (.Return (some e) pos) (Vp te):=by intro pins s σ H D I h;exact wpAny_Return_some (dM (he pins s σ H _ I h) λv s1 ⟨x,H1,I1,r1,q1⟩=>⟨x,σ,H1,I1,r1,q1⟩)
def Tn:TS:=λD _ H=>D.rt .XY H
def Oz:PS X (.Return none pos) Tn:=λ_ _ σ H _ I h=>wpAny_Return_none ⟨.XY,σ,H,I,rfl,h⟩
def Vv(c:TT)(t u:TS):TS:=λD σ H=>c σ H λb H1=>if b=true then t D σ H1 else u D σ H1
def C1{tc:TT}(hc:PT X c tc)(ha:PSs X a t)(hb:PSs X b u):PS X (.If c a b pos) (Vv tc t u):=by intro pins s σ H D I h;refine wpAny_If (dM (hc pins s σ H _ I h) λd s1 ⟨H1,I1,q1⟩=>?_);cases d with|true=>exact ha pins s1 σ H1 D I1 q1|false=>exact hb pins s1 σ H1 D I1 q1
end
abbrev TG:=V->St->Hp->(St->Hp->Prop)->Prop
abbrev PR:=dW->St->Hp->(St->Hp->Prop)->Prop
def PG(X:Cx)(target:Expr)(t:TG):Prop:=∀(pins:gQ)(s:Shared)(σ:St)(H:Hp)(v:V)(u:Value)(Q:St->Hp->Prop),Inv X pins σ H s->RelV v u->t v σ H Q->fh X (assign target X.env u) (λ_ s'=>∃σ' H',Inv X pins σ' H' s'/\Q σ' H') X.xe s
def S7(X:Cx)(ts:tu)(t:PR):Prop:=∀(pins:gQ)(s:Shared)(σ:St)(H:Hp)(vs:dW)(us:gC)(Q:St->Hp->Prop),Inv X pins σ H s->Vals vs us->t vs σ H Q->fh X (assignInOrder ((assignEach ts X.env).map (·.2)) us) (λ_ s'=>∃σ' H',Inv X pins σ' H' s'/\Q σ' H') X.xe s
abbrev KS:=V->V->V->Hp->(Hp->Prop)->Prop
def PU(X:Cx)(t:KS):Prop:=∀(pins:gQ)(s:Shared)(σ:St)(H:Hp)(o i v:V)(ov iv u:Value)(Q:Hp->Prop),Inv X pins σ H s->RelV o ov->RelV i iv->RelV v u->t o i v H Q->fh X (setItem ov iv u) (λ_ s'=>∃H',Inv X pins σ H' s'/\Q H') X.xe s
abbrev UI:=V->V->Hp->VK->Prop
def S6(X:Cx)(op:Operator)(t:UI):Prop:=∀(pins:gQ)(s:Shared)(σ:St)(H:Hp)(x y:V)(v u:Value)(Q:VK),Inv X pins σ H s->RelV x v->RelV y u->t x y H Q->fh X (inplaceOp op v u) (EP X pins σ Q) X.xe s
def Qu(i:Nat):TG:=λv σ H Q=>Q (σ.set i<|some v) H
def pG{i:Nat}{X:Cx}(hN:X.N.Nodup)(hi:X.N[i]?=some x)(hx:SO X.env.scope x)(hf:X.fn x=true\/X.env.scope.names.lookup x=some .local:=by first |exact .inl rfl |exact .inr rfl |assumption):PG X (.Name x pos) (Qu i):=by intro pins s σ H v u Q I r h;exact wpAny_assign_Name<|qP I hN hi hx r (λs' I'=>⟨_,H,I',h⟩) hf
def V7:PR:=λvs σ H Q=>vs=[]/\Q σ H
def Ui(t:TG)(u:PR):PR:=λvs σ H Q=>∃v r,vs=v::r/\t v σ H λσ' H'=>u r σ' H' Q
def DY:S7 X [] V7:=by intro pins s σ H vs us Q I r h;obtain⟨e,h⟩:=h;subst e;cases r;exact assignInOrder_nil ⟨σ,H,I,h⟩
def rh{u:PR}(h1:PG X e t)(h2:S7 X es u)(hs:(assignEach (e::es) X.env).map (·.2)=assign e X.env::(assignEach es X.env).map (·.2):=by rfl):S7 X (e::es) (Ui t u):=by intro pins s σ H vs us Q I r h;obtain⟨v,vr,e1,h⟩:=h;subst e1;cases r with|cons r rr=>rw[hs];refine WP (dM (h1 pins s σ H _ _ _ I r h) λ_ s1 ⟨σ1,H1,I1,q1⟩=>?_);exact h2 pins s1 σ1 H1 _ _ Q I1 rr q1
def V5(K:bL)(n:Nat)(t:PR):TG:=λv σ H Q=>∃a xs,v=.ref a/\Yu K H a xs/\xs.length=n/\t xs σ H Q
def Hl{n:Nat}{X:Cx}{t:PR}(hc:X.calm=true)(h:S7 X es t)(hn:(assignEach es X.env).length=n:=by rfl)(hst:(assignEach es X.env).findIdx? (·.1)=none:=by rfl):PG X (.Tuple es k pos) (V5 X.K n t):=by intro pins s σ H v u Q I r hw;obtain⟨a,xs,e1,hq,hl,hw⟩:=hw;subst e1;cases r;obtain⟨its,rv,ht,hz⟩:=I.tuple hq;refine assign_Tuple_tuple (I.ok.hd hc) ht (by simp[hn,<-hl,rv.length]) hst λh' hx=>?_;have I1:Inv X pins σ H {s with heap:=h'}:=I.kept (t':=s.toks) λb o e=>hx b o (bi<|aI e) e;exact h pins _ σ H xs _ Q I1 (by simpa using rv) hw
def V6(to ti:TE)(t:KS):TG:=λv σ H Q=>to σ H λo H1=>ti σ H1 λi H2=>t o i v H2 λH3=>Q σ H3
def L9{t:KS}(ho:PE X o to)(hi:PE X i ti)(hs:PU X t)(ha:∀v,assign (.Subscript o i pos) X.env v=(do
   let ov <-holding [v] (eval o X.env)
   let iv <-holding [v,ov] (eval i X.env)
   standAt pos
   holding [v,ov,iv] (setItem ov iv v)
   release [v,ov,iv] []):=by intro _;rfl):PG X (.Subscript o i pos) (V6 to ti t):=by
 intro pins s σ H v u Q I r h
 rw[ha]
 refine af<|cp (dM (ho pins s σ H _ I h) λov s1 ⟨x,H1,I1,r1,q1⟩=>?_)
 refine af<|cp (dM (hi pins s1 σ H1 _ I1 q1) λiv s2 ⟨y,H2,I2,r2,q2⟩=>?_)
 refine af<|ua<|af<|cp (dM (hs pins s2 σ H2 x y v ov iv u _ I2 r1 r2 r q2) λ_ s3 ⟨H3,I3,q3⟩=>?_)
 exact wpAny_release ⟨σ,H3,I3,q3⟩
def Tw(te:TE)(g:TG):TS:=λD σ H=>te σ H λx H1=>g x σ H1 D.nx
def L1{pos:Pos}(he:PE X e te)(hg:PG X tg g)(hs:swapsWithSole [tg] e pos.line X.env=pure false:=by rfl)(hw:swappedStores [tg] e X.env=pure none:=by rfl)(h1:(assignEach [tg] X.env).map (·.2)=[assign tg X.env]:=by rfl):PS X (.Assign [tg] e pos) (Tw te g):=by intro pins s σ H D I h;refine wpAny_Assign_stores (dM (he pins s σ H _ I h) λv s1 ⟨x,H1,I1,r1,q1⟩=>?_) hs hw;rw[h1];exact dM (hg pins s1 σ H1 x v _ I1 r1 q1) λ_ s2 q=>q
def rf{i:Nat}{X:Cx}{pos:Pos}(hN:X.N.Nodup)(hi:X.N[i]?=some x)(hx:SO X.env.scope x)(he:PE X e te)(hs:swapsWith e (some<|.Name x pos') pos.line X.env=pure false:=by rfl)(hf:X.fn x=true\/X.env.scope.names.lookup x=some .local:=by first |exact .inl rfl |exact .inr rfl |assumption):PS X (.Assign [.Name x pos'] e pos) (Tw te<|Qu i):=by intro pins s σ H D I h;refine wpAny_Assign_Name (dM (he pins s σ H _ I h) λv s1 ⟨y,H1,I1,r1,q1⟩=>?_) hs;exact qP I1 hN hi hx r1 (λs2 I2=>⟨_,H1,I2,q1⟩) hf
def Vq(i j:Nat)(ta:TA):TS:=λD σ H=>ta σ H λvs H1=>∃v w,vs=[v,w]/\D.nx ((σ.set i<|some v).set j<|some w) H1
def Hf{i j:Nat}{X:Cx}{pos:Pos}{kt k2 pt2}(hc:X.calm=true)(hN:X.N.Nodup)(hi:X.N[i]?=some x)(hj:X.N[j]?=some y)(hij:i≠j)(hx:X.env.scope.names.lookup x=some .local)(hy:X.env.scope.names.lookup y=some .local)(ha:PA X [a,b] ta)(hw:swappedStores [.Tuple [.Name x px,.Name y py] kt pt] (.Tuple [a,b] k2 pt2) X.env=pure (some [x,y]))(hs:swapsWithSole [.Tuple [.Name x px,.Name y py] kt pt] (.Tuple [a,b] k2 pt2) pos.line X.env=pure false:=by rfl):PS X (.Assign [.Tuple [.Name x px,.Name y py] kt pt] (.Tuple [a,b] k2 pt2) pos) (Vq i j ta):=by
 intro pins s σ H D I h;rw[exec_Assign_arm];refine af<|ua ?_;rw[hs];refine af<|av ?_;rw[ak<|by decide];refine af<|Tuple_ (dM (ha _ pins s σ H _ I h) λus s1 ⟨vs,H1,I1,r1,q1⟩=>?_);obtain⟨v,w,e1,q1⟩:=q1;subst e1;obtain⟨u1,u2,rfl,rv,Zx⟩:∃u1 u2,us=[u1,u2]/\RelV v u1/\RelV w u2:=by cases r1 with|cons p q=>cases q with|cons p' q'=>cases q';exact⟨_,_,rfl,p,p'⟩
 refine bP ?_ (by show 2<=sizeLine;decide);have I2:Inv X pins σ H1 {s1 with heap:=s1.heap.push {cls:=.type "tuple",data:=.seq [u1,u2].toArray}}:=I1.kept (t':=s1.toks) λb o e=>Heap.get?_push_of_some _ e;rw[hw];refine af<|av ?_;show fh X (do rule "assign.swapped-stores";let items <-unpackItems (.ref s1.heap.objs.size) 2 none;assignInOrder [λv=>bindName X.env y v,λv=>bindName X.env x v] items.reverse;pure Flow.next) _ _ _;refine af<|Xa<|af (unpackItems_tuple (items:=#[u1,u2]) (I.ok.hd hc) (IsTup.new s1.heap _) λh' hx'=>?_);have I3:=I2.kept (h':=h') (t':=s1.toks) λb o e=>hx' b o (bi<|aI e) e;show wpAny _ _ (assignInOrder [λv=>bindName X.env y v,λv=>bindName X.env x v] [u2,u1]>>=λ_=>pure Flow.next) _ _ _;refine af<|WP<|wpAny_bindName<|qP I3 hN hj (.inl hy) Zx (λs2 I4=>?_)<|.inr hy;refine WP<|wpAny_bindName<|qP I4 hN hi (.inl hx) rv (λs3 I5=>assignInOrder_nil<|av ?_)<|.inr hx;rw[List.set_comm _ _<|dU hij]at I5;exact⟨_,H1,I5,q1⟩
def Vz(i:Nat)(te:TE)(ti:UI):TS:=λD σ H=>∃x,σ[i]?=some (some x)/\te σ H λy H1=>ti x y H1 λz H2=>D.nx (σ.set i<|some z) H2
def Hh{i:Nat}{X:Cx}{ti:UI}(hN:X.N.Nodup)(hi:X.N[i]?=some x)(hx:SO X.env.scope x)(he:PE X e te)(ho:S6 X op ti)(hf:X.fn x=true\/X.env.scope.names.lookup x=some .local:=by first |exact .inl rfl |exact .inr rfl |assumption):PS X (.AugAssign (.Name x pos') op e pos) (Vz i te ti):=by
 intro pins s σ H D I h;obtain⟨v,e1,h⟩:=h;obtain⟨m,hn,hl⟩:=I.loc;have vis:S5 X.env.scope x:=by rcases hx with k |k;exact .inl k;exact .inr<|.inl k
 obtain⟨u,r,l⟩:=hl i x v hi e1 vis;refine wpAny_AugAssign_Name ?_;have go:fh X (eval e X.env) (λw s₂=>fh X (inplaceOp op u w) (λr s₃=>fh X (storeName X.env x r) (λ_=>SP X pins D .next) X.xe s₃) X.xe s₂) X.xe s:=by refine dM (he pins s σ H _ I h) λw s1 ⟨y,H1,I1,r1,q1⟩=>?_;refine dM (ho pins s1 σ H1 v y u w _ I1 r r1 q1) λz s2 ⟨zv,H2,I2,r2,q2⟩=>?_;exact qP I2 hN hi hx r2 (λs3 I3=>⟨_,H2,I3,q2⟩) hf
 rcases l with⟨hk,hm⟩ |⟨hk,c,hc,Zk⟩;·exact wpAny_loadName_local I.ok.kind hk hn hm go
 ·rcases hk with hk |hk;·exact wpAny_loadName_cell I.ok.kind hk hc Zk go
  ·rcases hx with k |k;·have:X.env.scope.names.lookup x=some .free:=hk;rw[k]at this;cases this
   ·have:X.env.scope.names.lookup x=some .free:=hk;rw[k]at this;cases this
def Tv(to ti te:TE)(zCJ:V->V->Hp->VK->Prop)(tip:UI)(zCI:KS):TS:=λD σ H=>to σ H λo H1=>ti σ H1 λi H2=>zCJ o i H2 λx H3=>te σ H3 λy H4=>tip x y H4 λz H5=>zCI o i z H5 λH6=>D.nx σ H6
def UN(X:Cx)(t:V->V->Hp->VK->Prop):Prop:=∀(pins:gQ)(s:Shared)(σ:St)(H:Hp)(o i:V)(ov iv:Value)(Q:VK),Inv X pins σ H s->RelV o ov->RelV i iv->t o i H Q->fh X (getItem ov iv) (EP X pins σ Q) X.xe s
def OA{zCJ:V->V->Hp->VK->Prop}{tip:UI}{zCI:KS}(ho:PE X o to)(hi:PE X i ti)(hg:UN X zCJ)(he:PE X e te)(hp:S6 X op tip)(hs:PU X zCI)(ha:∀ov iv new,augStore i ov iv new=(do holding [new,ov,iv] (setItem ov iv new);release [new,ov,iv] [];pure .next):=by intros;rfl):PS X (.AugAssign (.Subscript o i zEW) op e pos) (Tv to ti te zCJ tip zCI):=by intro pins s σ H D I h;refine wpAny_AugAssign_SubscriptAny (dM (ho pins s σ H _ I h) λov s1 ⟨x1,H1,I1,r1,q1⟩=>?_) ha;refine dM (hi pins s1 σ H1 _ I1 q1) λiv s2 ⟨x2,H2,I2,r2,q2⟩=>?_;refine dM (hg pins s2 σ H2 x1 x2 ov iv _ I2 r1 r2 q2) λold s3 ⟨x3,H3,I3,r3,q3⟩=>?_;refine dM (he pins s3 σ H3 _ I3 q3) λv s4 ⟨x4,H4,I4,r4,q4⟩=>?_;refine dM (hp pins s4 σ H4 x3 x4 old v _ I4 r3 r4 q4) λnew s5 ⟨x5,H5,I5,r5,q5⟩=>?_;exact dM (hs pins s5 σ H5 x1 x2 x5 ov iv new _ I5 r1 r2 r5 q5) λ_ s6 ⟨H6,I6,q6⟩=>⟨σ,H6,I6,q6⟩
def QK(c:TT)(tb:TS):TS:=λD σ H=>∃W:Nat->St->Hp->Prop,(∃m,W m σ H)/\∀m σ H,W m σ H->c σ H λb H1=>if b=true then∃N:St->Hp->Prop,(∀σ' H',N σ' H'->∃m',m'<m/\W m' σ' H')/\tb {D with nx:=N,ct:=N,bk:=D.nx} σ H1 else D.nx σ H1
def Ay{X:Cx}{tc:TT}(hp:PassesOwn (model X.prog X.w) X.A X.env X.xe)(hc:PT X c tc)(hb:PSs X body tb):PS X (.While c body [] pos) (QK tc tb):=by
 intro pins s σ H D I h;obtain⟨W,⟨m0,w0⟩,turn⟩:=h;refine wpAny_While<|codeAny_whileLoop (λn s'=>∃σ' H',Inv X pins σ' H' s'/\W n σ' H') ?_ m0 ⟨σ,H,I,w0⟩;rintro n s1 ⟨σ1,H1,I1,w1⟩;refine jA hp (dM (hc pins s1 σ1 H1 _ I1<|turn n σ1 H1 w1) λb s2 ⟨H2,I2,q2⟩=>?_);cases b with
 |true=>
  obtain⟨N,hN,q2⟩:=q2;rw[ar rfl];refine jA hp (dM (hb pins s2 σ1 H2 _ I2 q2) λf s3 q3=>?_);cases f with
  |next=>obtain⟨σ3,H3,I3,n3⟩:=q3;obtain⟨m',hm,w3⟩:=hN σ3 H3 n3;exact⟨m',hm,σ3,H3,I3,w3⟩
  |cont=>obtain⟨σ3,H3,I3,n3⟩:=q3;obtain⟨m',hm,w3⟩:=hN σ3 H3 n3;exact⟨m',hm,σ3,H3,I3,w3⟩
  |brk=>exact q3|ret v=>exact q3
 |false=>rw[ak aC];exact GS ⟨σ1,H2,I2,q2⟩
structure It where
 go:Nat->Hp->Prop
 yld:Nat->Hp->V->Hp->Prop
 stop:Nat->Hp->Prop
 hot:Prop
def SQ(X:Cx):Prop:=∃(ea:Addr)(oe:Obj)(u:HO)(vs:Array Value),X.A.handled=some (.ref ea)/\X.H₀ ea=some (.YR oe u)/\oe.data=.fields vs/\vs[2]?=some .none
def uF(X:Cx)(pins:gQ)(H:Hp)(b:Addr):Prop:=H b=none/\b≠X.env.locals/\b∉X.fs/\(b∈X.ex\/X.s₀.heap.objs.size<=b)/\(∀x c,X.env.cells.lookup x=some c->c≠b)/\∀p∈X.pn++pins,p.1≠b
def Inv.zAC{H':Hp}{b:Addr}(I:Inv X pins σ H s)(hb:s.heap.objs.size<=b)(hn:H' b=none):uF X pins H' b:=by
 refine⟨hn,iG<|a9 I.lt hb,I.zHQ hb,.inr<|aJ I.sz hb,λx c e z=>?_,λp hp z=>?_⟩;·obtain⟨v,q⟩:=I.cell x c e;exact absurd (a9 q.lt<|by rw[z];exact hb)<|dQ _
 ·exact absurd (a9 (aI (I.pin p hp).1)<|by rw[z];exact hb)<|dQ _
structure Bu(P:Program)(w:World)(K:bL)(tg:Expr)(J:It)(fp:List Addr)(it:Addr)(tn:Nat->Heap->Prop):Prop where
 mem:it∈fp
 obj:∀i h,tn i h->∀b∈fp,∃o,h.get? b=some o/\∀v,o.data≠.cell v
 keep:∀i h h',tn i h->(∀b∈fp,∀o,h.get? b=some o->h'.get? b=some o)->tn i h'
 item:∀(X:Cx),X.prog=P->X.w=w->X.K=K->(X.calm=true\/(J.hot/\SQ X))->∀(i:Nat)(pins:gQ)(s:Shared)(σ:St)(H:Hp)(E:wL),Inv X pins σ H s->(∀b∈fp,uF X pins H b)->tn i s.heap->J.go i H->
  wpAny (model P w) X.A (pyNext<|.ref it) (λr s1=>∃u,r=some u/\
   wpAny (model P w) X.A (letOwnedTupleGo tg (.ref it) u) (λ_ s2=>∃x H',Inv X pins σ H' s2/\RelV x u/\J.yld i H x H'/\tn (i+1) s2.heap/\∀b∈fp,H' b=none) E s1) E s
 done:∀(X:Cx),X.prog=P->X.w=w->X.K=K->(X.calm=true\/(J.hot/\SQ X))->∀(i:Nat)(pins:gQ)(s:Shared)(σ:St)(H:Hp)(E:wL),Inv X pins σ H s->(∀b∈fp,uF X pins H b)->tn i s.heap->J.stop i H->
  wpAny (model P w) X.A (pyNext<|.ref it) (λr s1=>r=none/\Inv X pins σ H s1) E s
 self:∀(A:Around)(i:Nat)(s:Shared)(Q:wL)(E:wL),tn i s.heap->Q (.ref it) s->wpAny (model P w) A (pyIter<|.ref it) Q E s
abbrev TI:=St->Hp->(It->Hp->Prop)->Prop
def UM(X:Cx)(pins:gQ)(σ:St)(tg:Expr)(R:It->Hp->Prop)(itv:Value)(s2:Shared):Prop:=∃(it:Addr)(fp:List Addr)(tn:Nat->Heap->Prop)(J:It)(H':Hp),itv=.ref it/\Inv X pins σ H' s2/\Bu X.prog X.w X.K tg J fp it tn/\tn 0 s2.heap/\(∀b∈fp,uF X pins H' b)/\R J H'
def PI(X:Cx)(tg iter:Expr)(wi:TI):Prop:=∀(pins:gQ)(s:Shared)(σ:St)(H:Hp)(R:It->Hp->Prop),Inv X pins σ H s->wi σ H R->fh X (eval iter X.env) (λv s1=>fh X (pyIter v) (UM X pins σ tg R) X.xe s1) X.xe s
def FV{s:Shared}{it:Addr}{Q:Unit->Shared->Prop}(ho:s.heap.get? it=some o)(hc:o.cls=.type n)(hd:o.data=.fields vs)(hn:["enumerate","zip","dict_itemiterator","dict_reverseitemiterator","odict_iterator","itertools.zip_longest","itertools.pairwise"].contains n=false)(hQ:Q () s):wpAny M A (letOwnedTupleGo tg (.ref it) u) Q E s:=by
 unfold letOwnedTupleGo;cases tg<;>first
  |exact av hQ|(cases u<;>first|exact av hQ|(refine af<|wpAny_load ho ?_;rw[hc,hd];show wpAny M A (if(["enumerate","zip","dict_itemiterator","dict_reverseitemiterator","odict_iterator","itertools.zip_longest","itertools.pairwise"].contains n&&vs[0]?==some (rawInt _))=true then _ else _) Q E s;rw[ak<|by intro h;rw[hn,Bool.false_and]at h;cases h];exact av hQ))
def Ws(K:bL)(a:Addr):It:=⟨λi H=>∃xs x,XZ K H a xs/\xs[i]?=some x,λi H x H'=>H'=H/\∀xs,XZ K H a xs->xs[i]?=some x,λi H=>∃xs,XZ K H a xs/\xs.length<=i,False⟩
def Wq(K:bL)(a:Addr):It:=⟨λi H=>∃xs x,Yu K H a xs/\xs[i]?=some x,λi H x H'=>H'=H/\∀xs,Yu K H a xs->xs[i]?=some x,λi H=>∃xs,Yu K H a xs/\xs.length<=i,False⟩
def Va(lo:Int)(n:Nat):It:=⟨λi _=>i<n,λi H x H'=>H'=H/\x=.int (lo+i),λi _=>n<=i,True⟩
def JU{K:bL}(a it:Addr):Bu P w K tg (Ws K a) [it] it (λi h=>h.IsListIter it a i) where
 mem:=by simp
 obj:=λi h st b hb=>by
  have e:b=it:=by simpa using hb
  subst e;obtain⟨o,e,c,d⟩:=st;exact⟨o,e,λv z=>by rw[d]at z;cases z⟩
 keep:=λi h h' st k=>st.at λo e=>k it (by simp) o e
 item:=by intro X hP hw hK hc i pins s σ H E I hf st hg;subst hP hw hK;replace hc:=hc.resolve_right λz=>z.1;obtain⟨xs,x,hq,hx⟩:=hg;obtain⟨its,rv,p,hz⟩:=I.list hq;obtain⟨u,hu,ru⟩:=rv.get hx;obtain⟨f0,f1,f2,f3,f4,f5⟩:=hf it (by simp);refine wpAny_pyNext_list_item st p.isList (x:=u) (by simpa using hu) λh' YG sb=>?_;have I1:Inv X pins σ H {s with heap:=h'}:=I.turned (t':=s.toks) (λb o hb e=>(sb.2 b hb).trans e) f0 f1 f3 f4 f5;obtain⟨o,e,c,d⟩:=id YG;exact⟨u,rfl,FV (s:={s with heap:=h'}) e c d (by decide) ⟨x,H,I1,ru,⟨rfl,λys hy=>by rw[I.ZK hy hq];exact hx⟩,YG,λb hb=>(hf b hb).1⟩⟩
 done:=by intro X hP hw hK hc i pins s σ H E I hf st hg;subst hP hw hK;replace hc:=hc.resolve_right λz=>z.1;obtain⟨xs,hq,hx⟩:=hg;obtain⟨its,rv,p,hz⟩:=I.list hq;obtain⟨f0,f1,f2,f3,f4,f5⟩:=hf it (by simp);have hl:=rv.length;exact wpAny_pyNext_list_end (I.ok.hd hc) st p.isList (by simp;lia) λh' eb=>⟨rfl,I.turned (t':=s.toks) (λb o hb e=>eb b o hb e) f0 f1 f3 f4 f5⟩
 self:=λ_ _ _ _ _ st h=>wpAny_pyIter_listiter st h
def GX{K:bL}(a it:Addr):Bu P w K tg (Wq K a) [it] it (λi h=>h.IsTupleIter it a i) where
 mem:=by simp
 obj:=λi h st b hb=>by
  have e:b=it:=by simpa using hb
  subst e;obtain⟨o,e,c,d⟩:=st;exact⟨o,e,λv z=>by rw[d]at z;cases z⟩
 keep:=λi h h' st k=>st.at λo e=>k it (by simp) o e
 item:=by intro X hP hw hK hc i pins s σ H E I hf st hg;subst hP hw hK;replace hc:=hc.resolve_right λz=>z.1;obtain⟨xs,x,hq,hx⟩:=hg;obtain⟨its,rv,p,hz⟩:=I.tuple hq;obtain⟨u,hu,ru⟩:=rv.get hx;obtain⟨f0,f1,f2,f3,f4,f5⟩:=hf it (by simp);refine wpAny_pyNext_tuple_item st (show s.heap.IsTuple a its.toArray from p) (x:=u) (by simpa using hu) λh' YG sb=>?_;have I1:Inv X pins σ H {s with heap:=h'}:=I.turned (t':=s.toks) (λb o hb e=>(sb.2 b hb).trans e) f0 f1 f3 f4 f5;obtain⟨o,e,c,d⟩:=id YG;exact⟨u,rfl,FV (s:={s with heap:=h'}) e c d (by decide) ⟨x,H,I1,ru,⟨rfl,λys hy=>by rw[I.ZV hy hq];exact hx⟩,YG,λb hb=>(hf b hb).1⟩⟩
 done:=by intro X hP hw hK hc i pins s σ H E I hf st hg;subst hP hw hK;replace hc:=hc.resolve_right λz=>z.1;obtain⟨xs,hq,hx⟩:=hg;obtain⟨its,rv,p,hz⟩:=I.tuple hq;obtain⟨f0,f1,f2,f3,f4,f5⟩:=hf it (by simp);have hl:=rv.length;exact wpAny_pyNext_tuple_end (I.ok.hd hc) st (show s.heap.IsTuple a its.toArray from p) (by simp;lia) λh' eb=>⟨rfl,I.turned (t':=s.toks) (λb o hb e=>eb b o hb e) f0 f1 f3 f4 f5⟩
 self:=λ_ _ _ _ _ st h=>wpAny_pyIter_tupleiter st h
def Cc:entryFor table "proto.unchain"=some Builtin.«proto.unchain»:=entryFor_of_tree<|by kernel_rfl
def tW{A:Around}{s:Shared}{step:Int}{Q:Option Value->Shared->Prop}(hh:A.handled=some (.ref ea))(he:s.heap.get? ea=some oe)(hd:oe.data=.fields vs)(h2:vs[2]?=some .none)(hit:IsRangeIter s.heap it x left step)(zFO:left<=0)(hQ:∀h',Heap.ExtBut it s.heap h'->Q none {s with heap:=h'}):wpAny (model prog w) A (pyNext<|.ref it) Q E s:=by
 have hT:s.TypeIs (.ref it) "range_iterator":=⟨_,hit,rfl⟩;unfold pyNext;refine af<|NS<|wpAny_callSpecial?_slot (name:=Str.ofString "__next__") hT Xi<|fc Xi hT F.entry_range_iterator_next ?_<|F.args_range_iterator_next_1 _;show wpAny _ _ (field (.ref it) 0>>=_) _ _ s;refine af<|fR hit rfl (x:=rawInt x) rfl ?_;show wpAny _ _ (field (.ref it) 1>>=_) _ _ s;refine af<|fR hit rfl (x:=rawInt left) rfl ?_;show wpAny _ _ (field (.ref it) 2>>=_) _ _ s;refine af<|fR hit rfl (x:=rawInt step) rfl ?_;show wpAny _ _ (if left<=0 then _ else _) _ _ s;rw[ar zFO];refine af<|Xa<|af ?_;show wpAny _ _ (newExc (.type "StopIteration") []>>=_) _ _ _;refine af ?_;simp only[newExc,newTuple];refine af<|bP ?_ (by size_fits);refine af (m:=firstArgMember _ _)<|fq (a:=Value.none) (by first |rfl |(simp only[firstArgMember];rfl)) ?_;refine bP ?_ (by size_fits);have X3:ea<s.heap.objs.size:=aI he;simp only[raiseNew];refine af<|wpAny_handled ?_;rw[show A.in1.handled=some (.ref ea)from hh];dsimp only;have ne:(Value.ref ea !=Value.ref (s.heap.push {cls:=.type "tuple",data:=.seq ([]:gC).toArray}).objs.size)=true:=by rw[eG];have:ea≠s.heap.objs.size+1:=bi<|jj X3;simp[this]
 rw[ar ne];have he':((s.heap.push {cls:=.type "tuple",data:=.seq ([]:gC).toArray}).push {cls:=.type "StopIteration",data:=.fields (#[.ref s.heap.objs.size,.none,.none,.none,.bool false,Value.none]++ownMembersOf (.type "StopIteration") [])}).get? ea=some oe:=Heap.get?_push_of_some _<|Heap.get?_push_of_some _ he;refine af<|cp<|wpAny_runValue<|GT Cc ?_;unfold Builtin.«proto.unchain»;dsimp only;refine af<|fR he' hd h2 ?_;rw[ar<|by decide];refine av ?_;dsimp only;refine af ?_;simp only[updateField];refine af<|wpAny_load (Heap.get?_push_size _ rfl) ?_;dsimp only;rw[ar<|by rw[Array.size_append];show 2<6+_;lia];refine wpAny_update (Heap.get?_push_size _ rfl) ?_;refine wpAny_throw ?_;refine af<|UU (T:="StopIteration") (b:=true) ⟨_,Heap.get?_update_self _ (Heap.get?_push_size _ rfl) rfl,rfl⟩ Xc ?_;refine av (hQ _ λb o hb q=>?_);have hb2:b<s.heap.objs.size:=aI q;rw[Heap.get?_update_other _ _<|by rw[eG];exact iG<|jj hb2];exact Heap.get?_push_of_some _<|Heap.get?_push_of_some _ q
def GY{K:bL}(it:Addr)(lo:Int)(n:Nat):Bu P w K tg (Va lo n) [it] it (λi h=>IsRangeIter h it (lo+(i:Nat)*1) ((n:Int)-(i:Nat)) 1) where
 mem:=by simp
 obj:=λi h st b hb=>by
  have e:b=it:=by simpa using hb
  subst e;exact⟨_,st,λv z=>by have z':Data.fields _=Data.cell v:=z;cases z'⟩
 keep:=λi h h' st k=>k it (by simp) _ st
 item:=by
  intro X hP hw hK hc i pins s σ H E I hf st hg;subst hP hw hK;obtain⟨f0,f1,f2,f3,f4,f5⟩:=hf it (by simp);refine wpAny_pyNext_range_item st (by have:i<n:=hg;lia) λh' YG sb=>?_;have I1:Inv X pins σ H {s with heap:=h',toks:=s.toks+1}:=I.turned (λb o hb e=>(sb.2 b hb).trans e) f0 f1 f3 f4 f5;have e1:lo+(i:Nat)*1+1=lo+((i+1:Nat):Int)*1:=by lia
  have e2:(n:Int)-(i:Nat)-1=(n:Int)-((i+1:Nat):Int):=by lia
  rw[e1,e2]at YG;refine⟨_,rfl,FV (s:={s with heap:=h',toks:=s.toks+1}) (n:="range_iterator") YG rfl rfl (by decide) ⟨.int<|lo+i,H,I1,⟨s.toks,?_⟩,⟨rfl,rfl⟩,YG,λb hb=>(hf b hb).1⟩⟩;rw[Xg]
 done:=by
  intro X hP hw hK hc i pins s σ H E I hf st hg;subst hP hw hK;obtain⟨f0,f1,f2,f3,f4,f5⟩:=hf it (by simp);rcases hc with hc |⟨_,ea,oe,u,vs,k1,k2,k3,k4⟩;rotate_left;·obtain⟨ho,_⟩:=(show XI X.prog X.w H s.heap ea (.YR oe u)from I.XR ea _<|I.base.Zr ea oe u k2);exact tW k1 ho k3 k4 st (by have:n<=i:=hg;lia) λh' eb=>⟨rfl,I.turned (t':=s.toks) (λb o hb e=>eb b o hb e) f0 f1 f3 f4 f5⟩
  exact wpAny_pyNext_range_end (I.ok.hd hc) st (by have:n<=i:=hg;lia) λh' eb=>⟨rfl,I.turned (t':=s.toks) (λb o hb e=>eb b o hb e) f0 f1 f3 f4 f5⟩
 self:=λ_ _ _ _ _ st h=>wpAny_pyIter_rangeiter st h
def Uf(K:bL)(tl:TE):TI:=λσ H R=>tl σ H λx H1=>∃a,x=.ref a/\(∃xs,XZ K H1 a xs)/\R (Ws K a) H1
def V0(K:bL)(tl:TE):TI:=λσ H R=>tl σ H λx H1=>∃a,x=.ref a/\(∃xs,Yu K H1 a xs)/\R (Wq K a) H1
def IT(hl:PE X l tl):PI X tg l (Uf X.K tl):=by
 intro pins s σ H R I h;refine dM (hl pins s σ H _ I h) λv s1 ⟨x,H1,I1,r1,q1⟩=>?_;obtain⟨a,e,⟨xs,hq⟩,q⟩:=q1;subst e;cases r1;obtain⟨its,rv,p,hz⟩:=I1.list hq;refine qJ p.isList ?_;refine⟨s1.heap.objs.size,[s1.heap.objs.size],_,_,H1,rfl,I1.kept (t':=s1.toks) λb o e=>Heap.get?_push_of_some _ e,JU a _,⟨_,Heap.get?_push_size _ rfl,rfl,rfl⟩,λb hb=>?_,q⟩;have e:b=s1.heap.objs.size:=by simpa using hb
 subst e;exact I1.zAC (aj _)<|I1.XR.fresh<|aj _
def L6(hl:PE X l tl):PI X tg l (V0 X.K tl):=by
 intro pins s σ H R I h;refine dM (hl pins s σ H _ I h) λv s1 ⟨x,H1,I1,r1,q1⟩=>?_;obtain⟨a,e,⟨xs,hq⟩,q⟩:=q1;subst e;cases r1;obtain⟨its,rv,p,hz⟩:=I1.tuple hq;refine yw (show s1.heap.IsTuple a its.toArray from p) ?_;refine⟨s1.heap.objs.size,[s1.heap.objs.size],_,_,H1,rfl,I1.kept (t':=s1.toks) λb o e=>Heap.get?_push_of_some _ e,GX a _,⟨_,Heap.get?_push_size _ rfl,rfl,rfl⟩,λb hb=>?_,q⟩;have e:b=s1.heap.objs.size:=by simpa using hb
 subst e;exact I1.zAC (aj _)<|I1.XR.fresh<|aj _
def LX{lo hi:Int}{tk:Nat}{R:It->Hp->Prop}(I:Inv X pins σ H s)(h1: -(2 ^ 62)<=lo)(h2:lo<2 ^ 62)(h3: -(2 ^ 62)<=hi)(h4:hi<2 ^ 62)(q:R (Va lo (hi-lo).toNat) H):fh X (pyIter<|.ref s.heap.objs.size) (UM X pins σ tg R) E {s with heap:=s.heap.push {cls:=.type "range",data:=.fields #[.int lo t,.int hi u,.int 1 v]},toks:=tk}:=by
 refine wpAny_pyIter_range (IsRange.new ..) (small_one h1 h2 h3 h4) ?_;have I1:Inv X pins σ H {s with heap:=s.heap.push {cls:=.type "range",data:=.fields #[.int lo t,.int hi u,.int 1 v]},toks:=tk}:=I.kept λb o e=>Heap.get?_push_of_some _ e;refine⟨(s.heap.push {cls:=.type "range",data:=.fields #[.int lo t,.int hi u,.int 1 v]}).objs.size,[(s.heap.push {cls:=.type "range",data:=.fields #[.int lo t,.int hi u,.int 1 v]}).objs.size],_,_,H,rfl,I1.kept (t':=tk) λb o e=>Heap.get?_push_of_some _ e,GY _ lo (hi-lo).toNat,?_,λb hb=>?_,q⟩
 ·have e1:lo+((0:Nat):Int)*1=lo:=by simp
  have e2:(((hi-lo).toNat:Nat):Int)-((0:Nat):Int)=Builtin.Range.rangeSize lo hi 1:=by rw[rangeSize_one];split<;>lia
  show IsRangeIter _ _ (lo+((0:Nat):Int)*1) ((((hi-lo).toNat:Nat):Int)-((0:Nat):Int)) 1;rw[e1,e2];exact Heap.get?_push_size _ rfl
 ·have e:b=(s.heap.push {cls:=.type "range",data:=.fields #[.int lo t,.int hi u,.int 1 v]}).objs.size:=by simpa using hb
  subst e;exact I1.zAC (aj _)<|I1.XR.fresh<|aj _
def Ue(ta:TA):TI:=λσ H R=>ta σ H λvs H1=>∃j:Int,vs=[.int j]/\-(2 ^ 62)<=j/\j<2 ^ 62/\R (Va 0 j.toNat) H1
def Kh(hg:Gl X "range")(hm:X.mg "range"=none)(ha:PA X [a] ta)(hs:starEach [a] X.env=[(false,eval a X.env)]:=by rfl):PI X tg (.Call (.Name "range" p) [a] [] pos) (Ue ta):=by intro pins s σ H R I h;refine Call_<|rH I hg hm boot_range<|fC (dM (ha pos pins s σ H _ I h) λus s1 ⟨vs,H1,I1,r1,q1⟩=>?_) hs rfl;obtain⟨j,e,q1,q2,q⟩:=q1;subst e;cases r1 with|cons r rr=>cases rr;obtain⟨t,rfl⟩:=r;exact call_range_1<|LX I1 (by lia) (by lia) q1 q2<|by simpa using q
def Vw(wi:TI)(g:TG)(tb:TS):TS:=λD σ H=>wi σ H λJ H1=>∃W:Nat->Nat->St->Hp->Prop,(∃m,W 0 m σ H1)/\∀i m σ H,W i m σ H->(J.stop i H/\D.nx σ H)\/(J.go i H/\∃N:St->Hp->Prop,(∀σ' H',N σ' H'->∃m',m'<m/\W (i+1) m' σ' H')/\∀x H',J.yld i H x H'->g x σ H' λσ2 H2=>tb {D with nx:=N,ct:=N,bk:=D.nx} σ2 H2)
def DX(fp:List Addr)(h:Heap):gQ:=fp.filterMap λb=>(h.get? b).map λo=>(b,o)
def pH{fp:List Addr}{h:Heap}{b:Addr}(hb:b∈fp)(e:h.get? b=some o):(b,o)∈DX fp h:=List.mem_filterMap.mpr ⟨b,hb,by rw[e];rfl⟩
def Kl{p:Addr×Obj}(hp:p∈DX fp h):p.1∈fp/\h.get? p.1=some p.2:=by
 obtain⟨b,hb,e⟩:=List.mem_filterMap.mp hp;cases q:h.get? b with
 |none=>rw[q]at e;cases e
 |some o=>rw[q]at e;have e':(b,o)=p:=bG e;subst e';exact⟨hb,q⟩
def Inv.pinned{fp:List Addr}(I:Inv X pins σ H s)(hf:∀b∈fp,uF X pins H b)(ho:∀b∈fp,∃o,s.heap.get? b=some o/\∀v,o.data≠.cell v):Inv X (pins++DX fp s.heap) σ H s:=I.zAV λp hp=>(aL.mp hp).elim (λz=>I.pin p<|bE _ z) λz=>by obtain⟨hb,e⟩:=Kl z;obtain⟨f0,f1,f2,_⟩:=hf p.1 hb;obtain⟨o,e',d⟩:=ho p.1 hb;rw[e]at e';cases e';exact⟨e,f0,f1,f2,d⟩
def Inv.Ze{pins pl:gQ}(I:Inv X (pins++pl) σ H s):Inv X pins σ H s:=I.zAV λp hp=>I.pin p<|bE _<|EX _ hp
def L0{X:Cx}(hp:PassesOwn (model X.prog X.w) X.A X.env X.xe)(hc:X.calm=true)(hi:PI X tg iter wi)(hg:PG X tg g)(hb:PSs X body tb)(hs:∀x,foldedSetIterable iter X.env x=pure x:=by intro _;rfl):PS X (.For tg iter body [] pos) (Vw wi g tb):=by
 intro pins s σ H D I h;refine wpAny_For (dM (hi pins s σ H _ I h) λv s1 h1=>dM h1 λitv s2 h2=>?_) hs;obtain⟨it,fp,tn,J,H2,e,I2,T,st2,f2,W,⟨m0,w0⟩,turn⟩:=h2;subst e;have stat:∀{H':Hp},(∀b∈fp,H' b=none)->∀b∈fp,uF X pins H' b:=λhn b hb=>⟨hn b hb,(f2 b hb).2⟩;refine codeAny_forLoop_any (λn s'=>∃i σ' H',Inv X pins σ' H' s'/\tn i s'.heap/\(∀b∈fp,H' b=none)/\W i n σ' H') ?_ m0 ⟨0,σ,H2,I2,st2,λb hb=>(f2 b hb).1,w0⟩;rintro n s3 ⟨i,σ3,H3,I3,st3,fr3,w3⟩;rcases turn i n σ3 H3 w3 with⟨stop,qn⟩ |⟨go,N,hN,step⟩;·refine jA hp (dM (T.done X rfl rfl rfl (.inl hc) i pins s3 σ3 H3 X.xe I3 (stat fr3) st3 stop) λr s4 ⟨hr,I4⟩=>?_);subst hr;exact GS ⟨σ3,H3,I4,qn⟩
 ·refine jA hp (dM (T.item X rfl rfl rfl (.inl hc) i pins s3 σ3 H3 X.xe I3 (stat fr3) st3 go) λr s4 ⟨u,hr,h4⟩=>?_);subst hr;refine jA hp (dM h4 λ_ s5 ⟨x,H5,I5,r5,y5,st5,fr5⟩=>?_);have I5':=I5.pinned (stat fr5)<|T.obj _ _ st5;refine jA hp (dM (hg _ s5 σ3 H5 x u _ I5' r5<|step x H5 y5) λ_ s6 ⟨σ6,H6,I6,q6⟩=>?_);refine jA hp (dM (hb _ s6 σ6 H6 _ I6 q6) λf s7 q7=>?_);have again:∀{σ7:St}{H7:Hp},Inv X (pins++DX fp s5.heap) σ7 H7 s7->N σ7 H7->∃m,m<n/\∃i σ' H',Inv X pins σ' H' s7/\tn i s7.heap/\(∀b∈fp,H' b=none)/\W i m σ' H':=λ{σ7 H7}I7 n7=>by obtain⟨m',hm,w7⟩:=hN σ7 H7 n7;refine⟨m',hm,i+1,σ7,H7,I7.Ze,T.keep _ _ _ st5 λb hb o e=>(I7.pin (b,o)<|bE _<|bE _<|pH hb e).1,λb hb=>?_,w7⟩;obtain⟨o,e,d⟩:=T.obj _ _ st5 b hb;exact(I7.pin (b,o)<|bE _<|bE _<|pH hb e).2.1
  cases f with
  |next=>obtain⟨σ7,H7,I7,n7⟩:=q7;exact again I7 n7
  |cont=>obtain⟨σ7,H7,I7,n7⟩:=q7;exact again I7 n7
  |brk=>obtain⟨σ7,H7,I7,q7⟩:=q7;exact⟨σ7,H7,I7.Ze,q7⟩
  |ret v=>obtain⟨x7,σ7,H7,I7,r7,q7⟩:=q7;exact⟨x7,σ7,H7,I7.Ze,r7,q7⟩
abbrev R2:=V->V->Hp->VK->Prop
def pQ(X:Cx)(f:Value->Value->Sem Value)(r:R2):Prop:=∀(pins:gQ)(s:Shared)(σ:St)(H:Hp)(x y:V)(v u:Value)(Q:VK),Inv X pins σ H s->RelV x v->RelV y u->r x y H Q->fh X (f v u) (EP X pins σ Q) X.xe s
def Wh(X:Cx)(f:Value->Sem Value)(r:V->Hp->VK->Prop):Prop:=∀(pins:gQ)(s:Shared)(σ:St)(H:Hp)(x:V)(v:Value)(Q:VK),Inv X pins σ H s->RelV x v->r x H Q->fh X (f v) (EP X pins σ Q) X.xe s
def iK(X:Cx)(f:Value)(r:dW->Hp->VK->Prop):Prop:=∀(pins:gQ)(s:Shared)(σ:St)(H:Hp)(xs:dW)(us:gC)(Q:VK),Inv X pins σ H s->Vals xs us->r xs H Q->fh X (call f us) (EP X pins σ Q) X.xe s
def Wi(X:Cx)(r:V->Hp->(Bool->Hp->Prop)->Prop):Prop:=∀(pins:gQ)(s:Shared)(σ:St)(H:Hp)(x:V)(v:Value)(Q:Bool->Hp->Prop),Inv X pins σ H s->RelV x v->r x H Q->fh X (truthy v) (TP X pins σ Q) X.xe s
def U4(r:R2)(ta tb:TE):TE:=λσ H Q=>ta σ H λx H1=>tb σ H1 λy H2=>r x y H2 Q
def WZ(r:V->Hp->VK->Prop)(ta:TE):TE:=λσ H Q=>ta σ H λx H1=>r x H1 Q
def rI(C:Int->Int->Prop)(g:Int->Int->V):R2:=λx y H Q=>∃i j,x=.int i/\y=.int j/\C i j/\Q (g i j) H
def NH(g:Int->Int->V):R2:=λx y H Q=>∃i j,x=.int i/\y=.int j/\Q (g i j) H
def rU(g:Int->V):V->Hp->VK->Prop:=λx H Q=>∃i,x=.int i/\Q (g i) H
def SF(ha:PE X a ta)(hb:PE X b tb){R:V->V->Hp->Prop}(I:Inv X pins σ H s)(h:ta σ H λx H1=>tb σ H1 λy H2=>R x y H2){f:Value->Value->Sem Value}(hf:∀v u s2 x y H2,Inv X pins σ H2 s2->RelV x v->RelV y u->R x y H2->fh X (f v u) Q X.xe s2):fh X (eval a X.env) (λv s₁=>fh X (eval b X.env) (λu s₂=>fh X (f v u) Q X.xe s₂) X.xe s₁) X.xe s:=by refine dM (ha pins s σ H _ I h) λv s1 ⟨x,H1,I1,r1,q1⟩=>?_;refine dM (hb pins s1 σ H1 _ I1 q1) λu s2 ⟨y,H2,I2,r2,q2⟩=>?_;exact hf v u s2 x y H2 I2 r1 r2 q2
def xL{r:R2}(ho:pQ X (binaryOp op) r)(ha:PE X a ta)(hb:PE X b tb):PE X (.BinOp a op b pos) (U4 r ta tb):=by intro pins s σ H Q I h;exact wpAny_BinOp (SF ha hb I h λv u s2 x y H2 I2 rx ry q=>ho pins s2 σ H2 x y v u Q I2 rx ry q)
def TR{op:UnaryOp}{r:V->Hp->VK->Prop}(ho:Wh X (unaryOp op) r)(ha:PE X a ta):PE X (.UnaryOp op a pos) (WZ r ta):=by intro pins s σ H Q I h;exact UnaryOp_ (dM (ha pins s σ H _ I h) λv s1 ⟨x,H1,I1,r1,q1⟩=>ho pins s1 σ H1 x v Q I1 r1 q1)
def TW{f:Value->Value->Sem Value}{C:Int->Int->Prop}{g:Int->Int->Int}(rule:∀(i j:Int)(t u:Tok)(s:Shared)(Q:wL)(E:wL),C i j->Q (.int (g i j) s.toks) {s with toks:=s.toks+1}->fh X (f (.int i t)<|.int j u) Q E s):pQ X f (rI C λi j=>.int<|g i j):=by intro pins s σ H x y v u Q I rx ry h;obtain⟨i,j,rfl,rfl,hc,q⟩:=h;obtain⟨t,rfl⟩:=rx;obtain⟨t',rfl⟩:=ry;exact rule i j t t' s _ _ hc ⟨.int<|g i j,H,I.tok _,⟨_,rfl⟩,q⟩
def Rs{f:Value->Value->Sem Value}{g:Int->Int->Int}(rule:∀(i j:Int)(t u:Tok)(s:Shared)(Q:wL)(E:wL),Q (.int (g i j) s.toks) {s with toks:=s.toks+1}->fh X (f (.int i t)<|.int j u) Q E s):pQ X f (NH λi j=>.int<|g i j):=by intro pins s σ H x y v u Q I rx ry h;obtain⟨i,j,rfl,rfl,q⟩:=h;obtain⟨t,rfl⟩:=rx;obtain⟨t',rfl⟩:=ry;exact rule i j t t' s _ _ ⟨.int<|g i j,H,I.tok _,⟨_,rfl⟩,q⟩
def Rt{f:Value->Value->Sem Value}{g:Int->Int->Bool}(rule:∀(i j:Int)(t u:Tok)(s:Shared)(Q:wL)(E:wL),Q (.bool<|g i j) s->fh X (f (.int i t)<|.int j u) Q E s):pQ X f (NH λi j=>.bl<|g i j):=by intro pins s σ H x y v u Q I rx ry h;obtain⟨i,j,rfl,rfl,q⟩:=h;obtain⟨t,rfl⟩:=rx;obtain⟨t',rfl⟩:=ry;exact rule i j t t' s _ _ ⟨.bl<|g i j,H,I,rfl,q⟩
def US(i j:Int):Prop:=0<=j/\j<=1000000/\i.natAbs<2 ^ 64
def Rq:pQ X (binaryOp .Add) (NH λi j=>.int<|i+j):=Rs λ_ _ _ _ _ _ _ q=>add_int q
def Rj:pQ X (binaryOp .Sub) (NH λi j=>.int<|i-j):=Rs λ_ _ _ _ _ _ _ q=>sub_int q
def Rm:pQ X (binaryOp .Mod) (rI (λ_ j=>0<j) λi j=>.int<|i%j):=TW λi j _ _ _ _ _ hc q=>by have h1:(0:Int)<j:=hc;exact mod_int' (by lia)<|by rw[Int.fmod_eq_emod_of_nonneg i<|by lia];exact q
def Rl:pQ X (binaryOp .Pow) (rI US λi j=>.int<|i ^ j.toNat):=TW λ_ _ _ _ _ _ _ hc q=>pow_int_small hc.1 hc.2.1 hc.2.2 q
def Rp:pQ X (binaryOp .BitAnd) (NH λi j=>.int<|Builtin.bitAnd i j):=Rs λ_ _ _ _ _ _ _ q=>and_int q
def WY{f:Value->Sem Value}{g:Int->Int}(rule:∀(i:Int)(t:Tok)(s:Shared)(Q:wL)(E:wL),Q (.int (g i) s.toks) {s with toks:=s.toks+1}->fh X (f<|.int i t) Q E s):Wh X f (rU λi=>.int<|g i):=by intro pins s σ H x v Q I rx h;obtain⟨i,rfl,q⟩:=h;obtain⟨t,rfl⟩:=rx;exact rule i t s _ _ ⟨.int<|g i,H,I.tok _,⟨_,rfl⟩,q⟩
def QF:Wh X (unaryOp .USub) (rU λi=>.int (-i)):=WY λ_ _ _ _ _ q=>neg_int q
def TF:V->V->Bool
 |.XY,.XY=>true |.XY,.int _=>true |.int _,.XY=>true |.XY,.bl _=>true |.bl _,.XY=>true |.XY,.str _=>true |.str _,.XY=>true
 |.int _,.int _=>true |.bl _,.bl _=>true |.str _,.str _=>true |.byt _,.byt _=>true
 |.int _,.str _=>true |.str _,.int _=>true |.bl _,.str _=>true |.str _,.bl _=>true
 |_,_=>false
def W5:R2:=λx y H Q=>TF x y=true/\Q (.bl<|decide<|x=y) H
def W4:R2:=λx y H Q=>TF x y=true/\Q (.bl (!decide (x=y))) H
def ww{i:Int}:decide (V.int i=V.int j)=(i==j):=by rw[BL];simp
def M8{i:Bool}:decide (V.bl i=V.bl j)=(i==j):=by rw[BL];simp
def JC{i:Str}:decide (V.str i=V.str j)=(i==j):=by rw[BL];simp
def JD{i j:Array UInt8}:decide (V.byt i=V.byt j)=(i.toList==j.toList):=by rw[BL];cases i;cases j;simp
def cV{Q:VK}{k':Bool}(I:Inv X pins σ H s)(q:Q (.bl k) H)(e:k=k'):EP X pins σ Q (.bool k') s:=by subst e;exact⟨.bl k,H,I,rfl,q⟩
def Qi:pQ X (compareOp .Eq) W5:=by
 intro pins s σ H x y v u Q I rx ry h;obtain⟨hs,q⟩:=h;cases x with
 |XY=>
  cases rx;cases y with
  |XY=>cases ry;exact PySem.EqNone.eq_none_none<|cV I q<|by simp
  |bl j=>cases ry;exact PySem.EqNone.eq_none_bool<|cV I q<|by simp
  |int j=>obtain⟨t',rfl⟩:=ry;exact PySem.EqNone.eq_none_int<|cV I q<|by simp
  |str j=>obtain⟨t',rfl⟩:=ry;exact PySem.EqNone.eq_none_str<|cV I q<|by simp
  |_=>exact absurd (show false=true from hs) aC
 |bl i=>
  cases rx;cases y with
  |XY=>cases ry;exact PySem.EqNone.eq_bool_none<|cV I q<|by simp
  |bl j=>cases ry;exact eq_bool<|cV I q M8
  |str j=>obtain⟨t',rfl⟩:=ry;exact PySem.EqMixed.eq_bool_str<|cV I q<|by simp
  |_=>exact absurd (show false=true from hs) aC
 |int i=>
  obtain⟨t,rfl⟩:=rx;cases y with
  |XY=>cases ry;exact PySem.EqNone.eq_int_none<|cV I q<|by simp
  |int j=>obtain⟨t',rfl⟩:=ry;exact eq_int<|cV I q ww
  |str j=>obtain⟨t',rfl⟩:=ry;exact PySem.EqMixed.eq_int_str<|cV I q<|by simp
  |_=>exact absurd (show false=true from hs) aC
 |str i=>
  obtain⟨t,rfl⟩:=rx;cases y with
  |XY=>cases ry;exact PySem.EqNone.eq_str_none<|cV I q<|by simp
  |bl j=>cases ry;exact PySem.EqMixed.eq_str_bool<|cV I q<|by simp
  |int j=>obtain⟨t',rfl⟩:=ry;exact PySem.EqMixed.eq_str_int<|cV I q<|by simp
  |str j=>obtain⟨t',rfl⟩:=ry;exact eq_str<|cV I q JC
  |_=>exact absurd (show false=true from hs) aC
 |byt i=>
  obtain⟨t,rfl⟩:=rx;cases y with
  |byt j=>obtain⟨t',rfl⟩:=ry;exact PySem.W.eq_bytes<|cV I q JD
  |_=>exact absurd (show false=true from hs) aC
 |_=>cases y<;>exact absurd (show false=true from hs) aC
def Qf:pQ X (compareOp .NotEq) W4:=by
 intro pins s σ H x y v u Q I rx ry h;obtain⟨hs,q⟩:=h;cases x with
 |XY=>
  cases rx;cases y with
  |XY=>cases ry;exact PySem.EqNone.ne_none_none<|cV I q<|by simp
  |bl j=>cases ry;exact PySem.EqNone.ne_none_bool<|cV I q<|by simp
  |int j=>obtain⟨t',rfl⟩:=ry;exact PySem.EqNone.ne_none_int<|cV I q<|by simp
  |str j=>obtain⟨t',rfl⟩:=ry;exact PySem.EqNone.ne_none_str<|cV I q<|by simp
  |_=>exact absurd (show false=true from hs) aC
 |bl i=>
  cases rx;cases y with
  |XY=>cases ry;exact PySem.EqNone.ne_bool_none<|cV I q<|by simp
  |bl j=>cases ry;exact ne_bool<|cV I q<|aY not M8
  |str j=>obtain⟨t',rfl⟩:=ry;exact PySem.EqMixed.ne_bool_str<|cV I q<|by simp
  |_=>exact absurd (show false=true from hs) aC
 |int i=>
  obtain⟨t,rfl⟩:=rx;cases y with
  |XY=>cases ry;exact PySem.EqNone.ne_int_none<|cV I q<|by simp
  |int j=>obtain⟨t',rfl⟩:=ry;exact ne_int<|cV I q<|aY not ww
  |str j=>obtain⟨t',rfl⟩:=ry;exact PySem.EqMixed.ne_int_str<|cV I q<|by simp
  |_=>exact absurd (show false=true from hs) aC
 |str i=>
  obtain⟨t,rfl⟩:=rx;cases y with
  |XY=>cases ry;exact PySem.EqNone.ne_str_none<|cV I q<|by simp
  |bl j=>cases ry;exact PySem.EqMixed.ne_str_bool<|cV I q<|by simp
  |int j=>obtain⟨t',rfl⟩:=ry;exact PySem.EqMixed.ne_str_int<|cV I q<|by simp
  |str j=>obtain⟨t',rfl⟩:=ry;exact ne_str<|cV I q<|aY not JC
  |_=>exact absurd (show false=true from hs) aC
 |byt i=>
  obtain⟨t,rfl⟩:=rx;cases y with
  |byt j=>obtain⟨t',rfl⟩:=ry;exact PySem.W.ne_bytes<|cV I q<|aY not JD
  |_=>exact absurd (show false=true from hs) aC
 |_=>cases y<;>exact absurd (show false=true from hs) aC
def Qg:pQ X (compareOp .Lt) (NH λi j=>.bl<|decide<|i<j):=Rt λ_ _ _ _ _ _ _ q=>lt_int q
def Qh:pQ X (compareOp .Gt) (NH λi j=>.bl<|decide<|j<i):=Rt λ_ _ _ _ _ _ _ q=>gt_int q
def TV:pQ X (compareOp .GtE) (NH λi j=>.bl<|decide<|j<=i):=Rt λ_ _ _ _ _ _ _ q=>ge_int q
def Kk:pQ X (compareOp .In) (λx y H Q=>∃i j,x=.str i/\y=.str j/\Q (.bl (!(Builtin.Str.occurrences j i 0 j.length 1).isEmpty)) H):=by intro pins s σ H x y v u Q I rx ry h;obtain⟨i,j,rfl,rfl,q⟩:=h;obtain⟨t,rfl⟩:=rx;obtain⟨t',rfl⟩:=ry;exact in_str<|cV I q rfl
def VR(b:Expr){op:CmpOp}(h:op≠.In:=by decide)(h2:op≠.NotIn:=by decide):behindInMarks op b=false:=by
 have e1:(op==CmpOp.In)=false:=by cases op<;>first |rfl |exact absurd rfl h
 have e2:(op==CmpOp.NotIn)=false:=by cases op<;>first |rfl |exact absurd rfl h2
 cases b<;>simp[behindInMarks,e1,e2]
def k7{op:CmpOp}{r:R2}(ho:pQ X (compareOp op) r)(ha:PE X a ta)(hb:PE X b tb)(hm:behindInMarks op b=false):PE X (.Compare a [op] [b] pos) (U4 r ta tb):=by intro pins s σ H Q I h;exact wpAny_Compare1 (SF ha hb I h λv u s2 x y H2 I2 rx ry q=>ho pins s2 σ H2 x y v u Q I2 rx ry q) hm
def Tl(t:TE):TT:=λσ H Q=>t σ H λx H'=>∃k,x=.bl k/\Q k H'
def gh{op:CmpOp}{r:R2}(ho:pQ X (compareOp op) r)(ha:PE X a ta)(hb:PE X b tb)(hm:behindInMarks op b=false):PT X (.Compare a [op] [b] pos) (Tl<|U4 r ta tb):=by intro pins s σ H Q I h;refine wpAny_isTrue_Compare1 (dM (ha pins s σ H _ I h) λv s1 ⟨x,H1,I1,r1,q1⟩=>dM (hb pins s1 σ H1 _ I1 q1) λu s2 ⟨y,H2,I2,r2,q2⟩=>dM (ho pins s2 σ H2 x y v u _ I2 r1 r2 q2) λc s3 ⟨z,H3,I3,r3,k,e,q3⟩=>?_) hm;subst e;cases r3;exact dC ⟨H3,I3,q3⟩
def UH(K:bL)(x:V)(H:Hp)(k:Bool):Prop:=match x with
 |.XY=>k=false|.bl b=>k=b
 |.int i=>k=(i !=0)|.str y=>y.length<=sizeLine/\k=((y.length:Int) !=0)
 |.byt y=>y.size<=sizeLine/\k=((y.size:Int) !=0)|.ref p=>(∃xs,XZ K H p xs/\k= !xs.isEmpty)\/(∃xs,Yu K H p xs/\k= !xs.isEmpty)\/∃kvs,H p=some (.dK kvs)/\k= !kvs.isEmpty
 |_=>False
def HF{κ:Type}{kvs:List (κ×V)}{vs:List (κ×Value)}(r:KV kvs vs):(!vs.isEmpty)= !kvs.isEmpty:=by cases r<;>rfl
def A4(r:Vals xs its):(!its.toArray.isEmpty)= !xs.isEmpty:=by cases r<;>simp
def rD:(sizeLine:Nat)<2 ^ 63:=by rw[cO];decide
def QI:Wi X (λx H Q=>∃k,UH X.K x H k/\Q k H):=by
 intro pins s σ H x v Q I rx h;obtain⟨k,e,q⟩:=h;have hl:=rD;have hs:sizeLine=16777216:=cO;cases x with
 |XY=>cases rx;have e':k=false:=e;subst e';exact truthy_none ⟨H,I,q⟩
 |bl b=>cases rx;have e':k=b:=e;subst e';exact dC ⟨H,I,q⟩
 |int i=>obtain⟨t,rfl⟩:=rx;have e':k=(i !=0):=e;subst e';exact PySem.P.truthy_int ⟨H,I,q⟩
 |str y=>obtain⟨t,rfl⟩:=rx;obtain⟨hy,e'⟩:y.length<=sizeLine/\k=((y.length:Int) !=0):=e;subst e';exact PySem.P.truthy_str (by lia) ⟨H,I.tok _,q⟩
 |byt y=>obtain⟨t,rfl⟩:=rx;obtain⟨hy,e'⟩:y.size<=sizeLine/\k=((y.size:Int) !=0):=e;subst e';exact PySem.W.truthy_bytes (by lia) ⟨H,I.tok _,q⟩
 |ref p=>
  cases rx;have e':(∃xs,XZ X.K H p xs/\k= !xs.isEmpty)\/(∃xs,Yu X.K H p xs/\k= !xs.isEmpty)\/∃kvs,H p=some (.dK kvs)/\k= !kvs.isEmpty:=e;rcases e' with⟨xs,hx,e'⟩ |⟨xs,hx,e'⟩ |⟨kvs,hx,e'⟩;·subst e';obtain⟨its,r,pl,hz⟩:=I.list hx;have hlen:=r.length;exact wpAny_truthy_list pl.isList (by simp only[aD];lia) ⟨H,I.tok _,by rw[A4 r];exact q⟩
  ·subst e';obtain⟨its,r,pl,hz⟩:=I.tuple hx;have hlen:=r.length;exact truthy_tuple pl (by simp only[aD];lia) ⟨H,I.tok _,by rw[A4 r];exact q⟩
  ·subst e';obtain⟨hz,hS,vs,r,m⟩:kvs.length<=sizeLine/\(p==sysModules)=false/\∃vs,KV kvs vs/\s.heap.DictOf (jM X.prog X.w) p vs:=I.XR p _ hx;have hlen:kvs.length=vs.length:=Paired.length r;exact wpAny_truthy_dict hS m (by lia) ⟨H,I.tok _,by rw[HF r];exact q⟩
 |_=>exact(show False from e).elim
def LZ(ha:PE X a ta)(he:∀whole,isTrue a X.env whole=(do let v <-whole;standAt a.pos;holding [v] (truthy v))):PT X a (λσ H Q=>ta σ H λx H'=>∃k,UH X.K x H' k/\Q k H'):=by intro pins s σ H Q I h;exact isTrue_plain (dM (ha pins s σ H _ I h) λv s1 ⟨x,H1,I1,r1,q1⟩=>QI pins s1 σ H1 x v Q I1 r1 q1)<|he _
def AI:pQ X (binaryOp .Add) (λx y H Q=>∃i j,x=.str i/\y=.str j/\i.length+j.length<=sizeLine/\Q (.str<|i++j) H):=by intro pins s σ H x y v u Q I rx ry h;obtain⟨i,j,rfl,rfl,hz,q⟩:=h;obtain⟨t,rfl⟩:=rx;obtain⟨t',rfl⟩:=ry;exact add_str (λt' tk=>⟨.str<|i++j,H,I.tok _,⟨_,rfl⟩,q⟩) hz
def xO:pQ X (inplaceOp .Add) (λx y H Q=>∃i j,x=.str i/\y=.str j/\i.length+j.length<=sizeLine/\Q (.str<|i++j) H):=by intro pins s σ H x y v u Q I rx ry h;obtain⟨i,j,rfl,rfl,hz,q⟩:=h;obtain⟨t,rfl⟩:=rx;obtain⟨t',rfl⟩:=ry;exact iadd_str (λt' tk=>⟨.str<|i++j,H,I.tok _,⟨_,rfl⟩,q⟩) hz
def jS(r:Vals [x] us):∃u,us=[u]/\RelV x u:=by cases r with|cons r1 r2=>cases r2;exact⟨_,rfl,r1⟩
def CK(r:Vals [x,y] us):∃u w',us=[u,w']/\RelV x u/\RelV y w':=by cases r with|cons r1 r2=>cases r2 with|cons r3 r4=>cases r4;exact⟨_,_,rfl,r1,r3⟩
def Nd:iK X (.builtin "abs") (λxs H Q=>∃i,xs=[.int i]/\Q (.int (if i<0 then-i else i)) H):=by intro pins s σ H xs us Q I r h;obtain⟨i,rfl,q⟩:=h;obtain⟨u,rfl,t,rfl⟩:=jS r;exact call_abs_int λu tk=>⟨.int (if i<0 then-i else i),H,I.tok _,⟨_,rfl⟩,q⟩
def KF{X:Cx}(hc:X.calm=true):iK X (.builtin "max") (λxs H Q=>∃i j,xs=[.int i,.int j]/\Q (.int (if j>i then j else i)) H):=by
 intro pins s σ H xs us Q I r h;obtain⟨i,j,rfl,q⟩:=h;obtain⟨u,w',rfl,⟨t,rfl⟩,⟨t',rfl⟩⟩:=CK r;refine max_two_ints (I.ok.hd hc) λh' tk k=>⟨_,H,I.kept k,?_,q⟩;by_cases hj:j>i;·rw[ar hj,ar hj];exact⟨_,rfl⟩
 ·rw[ak hj,ak hj];exact⟨_,rfl⟩
def KG:iK X (.type "int") (λxs H Q=>(∃i,xs=[.int i]/\Q (.int i) H)\/∃k,xs=[.bl k]/\Q (.int (if k then 1 else 0)) H):=by
 intro pins s σ H xs us Q I r h;rcases h with⟨i,rfl,q⟩ |⟨k,rfl,q⟩;·obtain⟨u,rfl,t,rfl⟩:=jS r;exact call_int_int ⟨.int i,H,I,⟨_,rfl⟩,q⟩
 ·obtain⟨u,rfl,r1⟩:=jS r;cases r1;exact call_int_bool ⟨.int (if k then 1 else 0),H,I.tok _,⟨_,rfl⟩,q⟩
def Ey:iK X (.type "str") (λxs H Q=>∃i,xs=[.int i]/\i.natAbs.log2<1920/\Q (.str<|toString i) H):=by intro pins s σ H xs us Q I r h;obtain⟨i,rfl,hz,q⟩:=h;obtain⟨u,rfl,t,rfl⟩:=jS r;exact PySem.P.str_of_int hz ⟨.str _,H,I.tok _,⟨_,rfl⟩,q⟩
structure zBC(h:Heap)(x dx C:Addr)(mA:xX):Prop where
 obj:h.get? x=some (PySem.W.instObj C dx)
 ns:h.Ns1 dx mA
 ne:dx≠x
def Kq{h:Heap}(n:h.Ns1 dx mA):∃od,h.get? dx=some od/\∀name,PySem.W.lookIn name od=some (mA name):=by
 obtain⟨o,es,ep,ho,hd,hk,_,hm⟩:=n;refine⟨o,ho,λname=>?_⟩;have e:=hm name;unfold nsFind findBy at e;rw[<-Array.find?_toList]at e;unfold PySem.W.lookIn;rw[hd];dsimp only;split;·rename_i y q;rw[q]at e;exact aY some e
 ·rename_i q;rw[q]at e;have a:es.toList.any (·.refKey)=false:=by rw[List.any_eq_false];intro y hy;obtain⟨z,t,zID⟩:=hk y<|Array.mem_toList_iff.mp hy;simp[DictEntry.refKey,zID]
  have a':¬es.toList.any (·.refKey)=true:=by rw[a];exact aC
  rw[ak a'];exact aY some e
def zBC.look(I:zBC h x dx C mA):∃od,PySem.W.InstAt h x (PySem.W.instObj C dx) C (some od)/\∀name,PySem.W.lookIn name od=some (mA name):=
 let⟨od,ho,hl⟩:=Kq I.ns
 ⟨od,⟨I.obj,rfl,rfl,ho⟩,hl⟩
def O5{Q:wL}{s:Shared}{name:Str}(X:K.In s.heap)(I:zBC s.heap x dx C mA)(hg:PySem.W.plainGet K C name=true)(hh:PySem.W.hasDictIn K C=true)(ha:PySem.W.findIn K (.ref C) name=some none)(hv:mA name=some v)(hv':PySem.W.handedIn v=true)(h:Q v {s with toks:=s.toks+1}):wpAny (model prog w) A (getAttr (.ref x) name expr) Q E s:=by obtain⟨od,J,hl⟩:=I.look;exact PySem.W.get_value X J (PySem.W.plainGet_of hg).1 (PySem.W.findObj_own hh ha rfl<|by rw[hl,hv]) hv' h
def Oh{s:Shared}{name:Str}{Q:Unit->Shared->Prop}(X:K.In s.heap)(I:zBC s.heap x dx C mA)(hs:PySem.W.findIn K (.ref C) "__setattr__"=some (some<|.builtin "object.__setattr__"))(hp:PySem.W.plainOver K C=true)(ht:PySem.W.takerIn K C name=some none)(hh:PySem.W.hasDictIn K C=true)(hw:PySem.Within mA ns)(hsz:ns.length<=sizeLine)(h:∀h',zBC h' x dx C (λy=>if y=name then some v else mA y)->Heap.SameBut dx s.heap h'->Q () {s with heap:=h',toks:=s.toks+2}):wpAny (model prog w) A (setAttr (.ref x) name v) Q E s:=by obtain⟨od,J,hl⟩:=I.look;refine PySem.W.set_plain X J hs (PySem.W.osa_open (s:={s with toks:=s.toks+1}) (r:=none) X J hp ht λb=>?_);obtain⟨cd,hc,hd'⟩:=PySem.W.any_some hh;have hx:s.heap.get? x=some ⟨.ref C,some dx,.plain,#[]⟩:=I.obj;refine af<|av<|af<|af<|wpAny_loadPart hx<|af<|PySem.W.Looks.here (s:={s with toks:=s.toks+1}) (PySem.W.looks_clsIn X hc) ?_;rw[hd'];refine av (a:=some dx)<|af<|av<|af ?_;refine wpAny_nsSet1 (s:={s with toks:=s.toks+1}) I.ns λh' hn2 hs2=>?_;obtain⟨oD,esD,epD,hoD,hdD,hcD⟩:=hn2.count<|PySem.Within.cons name v hw;refine af<|wpAny_lookBehind hoD (by rw[hdD];exact pastItsLine_dict<|aJ hcD<|by rw[aS];lia) ?_;exact av<|h _ ⟨(hs2.2 _<|dU I.ne).trans I.obj,hn2,I.ne⟩ hs2
def Mp{A:Around}{s:Shared}{C:Addr}{R:Result->Shared->Prop}{kw:List (Str×Value)}(X:K.In s.heap)(hm:PySem.W.makesIn K C=true)(hi:PySem.W.findIn K (.ref C) "__init__"=some (some<|.ref f))(hf:PySem.W.typeIn K (.ref f)=some (.type "function"))(h:codeAny (model prog w) (A.under<|.builtin "type.__call__" ⟨.ref C::vs,kw⟩) (.call (.ref f) ⟨.ref (s.heap.objs.size+1)::vs,kw⟩) (PySem.W.InitBack (s.heap.objs.size+1) R) {s with heap:=(s.heap.push PySem.W.emptyDict).push (PySem.W.instObj C s.heap.objs.size)}):codeAny (model prog w) A (.call (.ref C) ⟨vs,kw⟩) R s:=by obtain⟨hh,g,d,t,os⟩:=s;exact PySem.W.make_core (PySem.W.makes_of X hm) (PySem.W.looks_findIn X hi) (λself=>PySem.W.bind_fn X self hf) (.inl rfl) h
def pE(f:Str)(v:V):List (Str×V)->List (Str×V)|[]=>[(f,v)]|(g,x)::r=>if g=f then(g,v)::r else(g,x)::pE f v r
def xM(f g:Str)(v:V):∀fs:List (Str×V),(pE f v fs).lookup g=if g=f then some v else fs.lookup g
 |[]=>by
  show List.lookup g [(f,v)]=_;by_cases h:g=f;·have hb:(g==f)=true:=BF.mpr h;simp only[List.lookup,hb,ar h]
  ·have hb:(g==f)=false:=bJ.mpr h;simp only[List.lookup,hb,ak h]
 |(k,x)::r=>by
  have ih:=xM f g v r;rw[show pE f v ((k,x)::r)=(if k=f then(k,v)::r else(k,x)::pE f v r)from rfl];by_cases hk:k=f
  ·rw[ar hk];by_cases h:g=k;·have hb:(g==k)=true:=BF.mpr h;simp only[List.lookup,hb,ar<|h.trans hk]
   ·have hb:(g==k)=false:=bJ.mpr h;simp only[List.lookup,hb,ak λe:g=f=>h<|e.trans hk.symm]
  ·rw[ak hk];by_cases h:g=k;·have hb:(g==k)=true:=BF.mpr h;simp only[List.lookup,hb,ak λe:g=f=>hk<|h.symm.trans e]
   ·have hb:(g==k)=false:=bJ.mpr h;simp only[List.lookup,hb];exact ih
def xc(f:Str)(v:V):∀fs:List (Str×V),f∈(pE f v fs).map (·.1)/\∀g,g∈fs.map (·.1)->g∈(pE f v fs).map (·.1)
 |[]=>⟨by simp[pE],λg h=>by simp at h⟩
 |(k,x)::r=>by
  obtain⟨i1,i2⟩:=xc f v r;rw[show pE f v ((k,x)::r)=(if k=f then(k,v)::r else(k,x)::pE f v r)from rfl];by_cases hk:k=f;·rw[ar hk];subst hk;exact⟨by simp,λg h=>by simpa using h⟩
  ·rw[ak hk];refine⟨?_,λg h=>?_⟩;·rw[aH];exact aO _ i1
   ·rw[aH]at h ⊢;rcases ax.mp h with e |e;·exact ax.mpr<|.inl e
    ·exact aO _<|i2 g e
def xN(f:Str)(v:V):∀fs:List (Str×V),(pE f v fs).length<=fs.length+1
 |[]=>by simp[pE]
 |(k,x)::r=>by
  have ih:=xN f v r;rw[show pE f v ((k,x)::r)=(if k=f then(k,v)::r else(k,x)::pE f v r)from rfl];by_cases hk:k=f;·rw[ar hk,aS,aS];lia
  ·rw[ak hk,aS,aS];lia
def zAP.some_of{o:Option Value}(r:zAP (some v) o):∃u,o=some u/\RelV v u:=by cases o with|none=>exact(show False from r).elim|some u=>exact⟨u,rfl,r⟩
def Ku(r:RelV v u):PySem.W.handedIn u=true:=by
 cases v with
 |XY=>cases(show u=Value.none from r);rfl
 |bl b=>cases(show u=Value.bool b from r);rfl
 |int i=>obtain⟨t,e⟩:=(show∃t,u=Value.int i t from r);cases e;rfl
 |str x=>obtain⟨t,e⟩:=(show∃t,u=Value.str x t from r);cases e;rfl
 |byt b=>obtain⟨t,e⟩:=(show∃t,u=Value.bytes b t from r);cases e;rfl
 |flt b=>obtain⟨t,e⟩:=(show∃t,u=Value.float b t from r);cases e;rfl
 |ref a=>cases(show u=Value.ref a from r);rfl
 |ty n=>cases(show u=Value.type n from r);rfl
section
variable {fs ZP:List (Str×V)}
def Eg{a:Addr}(XR:ZD P w H h)(e:H a=some (.ins C dx fs)):∃mA,zBC h a dx C mA/\(∀f,zAP (fs.lookup f)<|mA f)/\PySem.Within mA (fs.map (·.1))/\fs.length<=1000/\H dx=some (.own a):=by obtain⟨d,z,ne,ob,mA,n,r,q⟩:=(show XI P w H h a (.ins C dx fs)from XR a _ e);exact⟨mA,⟨ob,n,ne⟩,r,q,z,d⟩
end
structure Cls(K:bL)(C:Addr):Prop where
 pg:PySem.W.plainGet K C Str.empty=true
 hd:PySem.W.hasDictIn K C=true
 po:PySem.W.plainOver K C=true
 sa:PySem.W.findIn K (.ref C) "__setattr__"=some (some<|.builtin "object.__setattr__")
def Cls.get{K:bL}(c:Cls K C)(f:Str):PySem.W.plainGet K C f=true:=c.pg
def XT(K:bL)(C:Addr)(f:Str):Prop:=PySem.W.findIn K (.ref C) f=some none
def XT.zEX{K:bL}(n:XT K C f):PySem.W.takerIn K C f=some none:=by unfold PySem.W.takerIn;rw[show PySem.W.findIn K (.ref C) f=some none from n];rfl
section
variable {fs:List (Str×V)}
def A7{Q:wL}{a:Addr}(I:Inv X pins σ H s)(e:H a=some (.ins C dx fs))(c:Cls X.K C)(n:XT X.K C f)(l:fs.lookup f=some v)(h:∀u s',Inv X pins σ H s'->RelV v u->Q u s'):wpAny (model X.prog X.w) A (getAttr (.ref a) f b) Q E s:=by obtain⟨mA,O,r,_,_,_⟩:=Eg I.XR e;obtain⟨u,hu,ru⟩:=zAP.some_of (v:=v) (o:=mA f) (by rw[<-l];exact r f);exact O5 I.Y9 O (c.get f) c.hd n hu (Ku ru)<|h u _ (I.tok _) ru
def Ai{a:Addr}{Q:Unit->Shared->Prop}(I:Inv X pins σ H s)(e:H a=some (.ins C dx fs))(c:Cls X.K C)(n:XT X.K C f)(hl:fs.length<1000)(ry:RelV y u)(h:∀s',Inv X pins σ (c6 H a<|.ins C dx<|pE f y fs) s'->Q () s'):wpAny (model X.prog X.w) A (setAttr (.ref a) f u) Q E s:=by
 obtain⟨mA,O,r,wi,_,ho⟩:=Eg I.XR e;have hz:(fs.map (·.1)).length<=sizeLine:=by rw[ae,cO];lia
 refine Oh I.Y9 O c.sa c.po n.zEX c.hd wi hz λh' O' sb=>h _ ?_;have hd:∃o,h'.get? dx=some o:=let⟨o,_,_,e',_⟩:=O'.ns;⟨o,e'⟩;refine I.write (x:=a) (e:=dx) (by rw[e];exact True.intro) (.inr ho) (λb q hb z=>(sb.2 b hb).trans z) hd ?_;refine⟨by rw[aK O.ne];exact ho,?_,O.ne,O'.obj,_,O'.ns,λg=>?_,λg hg=>?_⟩;·have:=xN f y fs;lia
 ·show zAP ((pE f y fs).lookup g) (if g=f then some u else mA g);rw[xM];by_cases q:g=f;·rw[ar q,ar q];exact ry
  ·rw[ak q,ak q];exact r g
 ·by_cases q:g=f;·rw[q];exact(xc f y fs).1
  ·refine(xc f y fs).2 g (wi g λz=>hg ?_);show(if g=f then some u else mA g)=none;rw[ak q];exact z
def Inv.made(I:Inv X pins σ H s):Inv X pins σ (c6 (c6 H s.heap.objs.size<|.own<|s.heap.objs.size+1) (s.heap.objs.size+1)<|.ins C s.heap.objs.size []) { s with heap:=(s.heap.push PySem.W.emptyDict).push (PySem.W.instObj C s.heap.objs.size) }:=by
 have e1:(s.heap.push PySem.W.emptyDict).get? s.heap.objs.size=some PySem.W.emptyDict:=Heap.get?_push_size s.heap rfl;have e2:((s.heap.push PySem.W.emptyDict).push<|PySem.W.instObj C s.heap.objs.size).get? (s.heap.objs.size+1)=some (PySem.W.instObj C s.heap.objs.size):=by have:=Heap.get?_push_size (s.heap.push PySem.W.emptyDict) (o:=PySem.W.instObj C s.heap.objs.size) rfl;rwa [eG] at this
 have e3:(s.heap.push PySem.W.emptyDict).Ns s.heap.objs.size (fun _=>none):=⟨PySem.W.emptyDict,#[],_,e1,rfl,(fun e he=>absurd he<|by simp),fun _=>rfl⟩;have I1:=I.laid (a:=s.heap.objs.size) (o:=.own<|s.heap.objs.size+1) (h':=s.heap.push PySem.W.emptyDict) (t':=s.toks) (fun b u q=>Heap.get?_push_of_some _ q) (aj _) ⟨_,e1⟩;refine I1.laid (a:=s.heap.objs.size+1) (o:=.ins C s.heap.objs.size []) (t':=s.toks) (fun b u q=>Heap.get?_push_of_some _ q) (gt<|eG _ _) ?_;have ne:s.heap.objs.size≠s.heap.objs.size+1:=bi<|eL _;refine⟨by rw[aK ne,aM],bB _,ne,e2,fun _=>none,(Heap.Ns1.of_empty e3).at fun o q=>Heap.get?_push_of_some _ q,fun _=>True.intro,fun y hy=>absurd rfl hy⟩
def PN{env:Env}(hb:attributeBase e f env (eval e env)=eval e env)(h:wpAny (model prog w) A (eval e env) (λo s₁=>wpAny (model prog w) A (getAttr o f true) Q E s₁) E s):wpAny (model prog w) A (eval (.Attribute e f pos) env) Q E s:=Attribute_any_ h<|by rw[arm_eval_Attribute,hb]
end
def Vx(K:bL)(ta:TE)(f:Str):TE:=λσ H Q=>ta σ H λx H1=>∃a C dx fs v,x=.ref a/\H1 a=some (.ins C dx fs)/\Cls K C/\XT K C f/\fs.lookup f=some v/\Q v H1
def VD(K:bL)(ta tv:TE)(f:Str):TS:=λD σ H=>tv σ H λy H1=>ta σ H1 λx H2=>∃a C dx fs,x=.ref a/\H2 a=some (.ins C dx fs)/\Cls K C/\XT K C f/\fs.length<1000/\D.nx σ (c6 H2 a<|.ins C dx<|pE f y fs)
def Wu(X:Cx)(op:Operator)(rd:V->V->Hp->VK->Prop):Prop:=∀(pins:gQ)(s:Shared)(σ:St)(H:Hp)(x y:V)(u v:Value)(Q:VK),Inv X pins σ H s->RelV x u->RelV y v->rd x y H Q->fh X (inplaceOp op u v) (EP X pins σ Q) X.xe s
def Ol(K:bL)(ta tv:TE)(rd:V->V->Hp->VK->Prop)(f:Str):TS:=λD σ H=>ta σ H λx H1=>∃a C dx fs v,x=.ref a/\H1 a=some (.ins C dx fs)/\Cls K C/\XT K C f/\fs.lookup f=some v/\tv σ H1 λy H2=>rd v y H2 λz H3=>∃dx' ZP,H3 a=some (.ins C dx' ZP)/\ZP.length<1000/\D.nx σ (c6 H3 a<|.ins C dx'<|pE f z ZP)
def AE(he:PE X e ta)(hb:attributeBase e f X.env (eval e X.env)=eval e X.env):PE X (.Attribute e f pos) (Vx X.K ta f):=by intro pins s σ H Q I h;refine PN hb (dM (he pins s σ H _ I h) λu s1 ⟨x,H1,I1,rx,a,C,dx,fs,v,ex,ea,c,n,l,q⟩=>?_);subst ex;obtain rfl:u=Value.ref a:=rx;exact A7 I1 ea c n l λu' s2 I2 ru=>⟨v,H1,I2,ru,q⟩
def Hg{pos:Pos}(ha:PE X o ta)(hv:PE X value tv)(hs:swapsWith value (some<|.Attribute o f pos') pos.line X.env=pure false):PS X (.Assign [.Attribute o f pos'] value pos) (VD X.K ta tv f):=by intro pins s σ H D I h;refine plainObj_wpAny_Assign_Attribute (dM (hv pins s σ H _ I h) λu s1 ⟨y,H1,I1,ry,q⟩=>dM (ha pins s1 σ H1 _ I1 q) λov s2 ⟨x,H2,I2,rx,a,C,dx,fs,ex,ea,c,n,l,q2⟩=>?_) hs;subst ex;obtain rfl:ov=Value.ref a:=rx;exact Ai I2 ea c n l ry λs3 I3=>⟨σ,_,I3,q2⟩
def Kb{rd:V->V->Hp->VK->Prop}(ha:PE X o ta)(hv:PE X value tv)(hop:Wu X op rd):PS X (.AugAssign (.Attribute o f zEW) op value pos) (Ol X.K ta tv rd f):=by intro pins s σ H D I h;refine wpAny_AugAssign_AttributeAny (dM (ha pins s σ H _ I h) λov s1 ⟨x,H1,I1,rx,a,C,dx,fs,v,ex,ea,c,n,l,q⟩=>?_);subst ex;obtain rfl:ov=Value.ref a:=rx;refine A7 I1 ea c n l λu s2 I2 ru=>dM (hv pins s2 σ H1 _ I2 q) λw3 s3 ⟨y,H2,I3,ry,q3⟩=>dM (hop pins s3 σ H2 v y u w3 _ I3 ru ry q3) λw4 s4 ⟨z,H3,I4,rz,dx',ZP,ea',l',q4⟩=>?_;exact Ai I4 ea' c n l' rz λs5 I5=>⟨σ,_,I5,q4⟩
def VN:V->V->Hp->VK->Prop:=λx y H Q=>∃i j,x=.int i/\y=.int j/\Q (.int<|i+j) H
inductive xq(K:bL)(H:Hp):V->Value->Prop where
 |XY:xq K H .XY (.type "NoneType")
 |bl (x:Bool):xq K H (.bl x) (.type "bool")
 |int (i:Int):xq K H (.int i) (.type "int")
 |str (x:Str):xq K H (.str x) (.type "str")
 |flt (x:UInt64):xq K H (.flt x) (.type "float")
 |lst {a:Addr} {xs:dW} (e:H a=some (.lst xs)):xq K H (.ref a) (.type "list")
 |YR {a:Addr} {o:Obj} {xs:dW} (e:H a=some (.YR o<|.lst xs)):xq K H (.ref a) (.type "list")
 |tup {a:Addr} {xs:dW} (e:H a=some (.tup xs)):xq K H (.ref a) (.type "tuple")
 |dK {a:Addr} {kvs:List (yu×V)} (e:H a=some (.dK kvs)):xq K H (.ref a) (.type "dict")
 |dT {a:Addr} {kvs:List (List yu×V)} (e:H a=some (.dT kvs)):xq K H (.ref a) (.type "dict")
 |ins {a C dx:Addr} {fs:List (Str×V)} (e:H a=some (.ins C dx fs)) (cl:Cls K C) (ha:PySem.W.findIn K (.ref C) "__class__"=some (some<|.builtin "object.__class__"))
   (hn:PySem.W.specialIn K (.builtin "object.__class__") "__get__"=some (some<|.builtin "getset_descriptor.__get__")) (htk:PySem.W.takesIn K (.builtin "object.__class__")=some true)
   (hm:PySem.W.mroIn K C (.type "object")=some true):xq K H (.ref a) (.ref C)
def Kr{Q:wL}{c:Value}(I:Inv X pins σ H s)(rx:RelV x u)(ty:xq X.K H x t)(e:PySem.W.kitOne X.K t c=some b)(h:∀tk,Q (.bool b) {s with toks:=tk}):wpAny (model X.prog X.w) A (call (.builtin "isinstance") [u,c]) Q E s:=by
 cases ty with
 |XY=>cases(show u=Value.none from rx);exact cz PySem.W.kitx_none I.Y9 True.intro e (λz=>nomatch z) h
 |bl y=>cases(show u=Value.bool y from rx);exact cz PySem.W.kitx_bool I.Y9 True.intro e (λz=>nomatch z) h
 |int i=>obtain⟨t,q⟩:=(show∃t,u=Value.int i t from rx);cases q;exact cz PySem.W.kitx_int I.Y9 True.intro e (λz=>nomatch z) h
 |str y=>obtain⟨t,q⟩:=(show∃t,u=Value.str y t from rx);cases q;exact cz PySem.W.kitx_str I.Y9 True.intro e (λz=>nomatch z) h
 |flt y=>obtain⟨t,q⟩:=(show∃t,u=Value.float y t from rx);cases q;exact cz PySem.W.kitx_float I.Y9 True.intro e (λz=>nomatch z) h
 |@lst a xs ea=>cases(show u=Value.ref a from rx);obtain⟨_,_,n,_,h1⟩:=(show XI X.prog X.w H s.heap a (.lst xs)from I.XR a _ ea);exact cz PySem.W.kitx_list I.Y9 ⟨_,h1,rfl⟩ e (λz=>nomatch z) h
 |@YR a ob xs ea=>cases(show u=Value.ref a from rx);obtain⟨_,_,_,n,_,h1⟩:=(show XI X.prog X.w H s.heap a (.YR ob<|.lst xs)from I.XR a _ ea);exact cz PySem.W.kitx_list I.Y9 ⟨_,h1,rfl⟩ e (λz=>nomatch z) h
 |@tup a xs ea=>cases(show u=Value.ref a from rx);obtain⟨_,_,_,p⟩:=(show XI X.prog X.w H s.heap a (.tup xs)from I.XR a _ ea);obtain⟨o,h1,h2,_⟩:=p;exact cz PySem.W.kitx_tuple I.Y9 ⟨o,h1,h2⟩ e (λz=>nomatch z) h
 |@dK a kvs ea=>cases(show u=Value.ref a from rx);obtain⟨_,_,vs,_,p⟩:=(show XI X.prog X.w H s.heap a (.dK kvs)from I.XR a _ ea);obtain⟨o,es,ep,h1,h2,_⟩:=p;exact cz KZ I.Y9 ⟨o,h1,h2.1⟩ e (λz=>nomatch z) h
 |@dT a kvs ea=>cases(show u=Value.ref a from rx);obtain⟨_,_,xs,_,o,es,ep,h1,h2,_⟩:=(show XI X.prog X.w H s.heap a (.dT kvs)from I.XR a _ ea);exact cz KZ I.Y9 ⟨o,h1,h2.1⟩ e (λz=>nomatch z) h
 |@ins a C dx fs ea cl ha hn htk hm=>cases(show u=Value.ref a from rx);obtain⟨mA,O,_⟩:=Eg I.XR ea;obtain⟨od,J,_⟩:=O.look;exact cz (PySem.W.kitx_own (cl.get _) cl.hd ha hn htk hm) I.Y9 J e (λz=>nomatch z) h
structure X6(k:Nat)(A:Around):Prop where
 hd:A.handled=none
 dp:A.depth+3*k+105<recursionLimit
 un:A.units+16*k+200<cLine
def X6.mono{j:Nat}(r:X6 k A)(h:j<=k):X6 j A:=⟨r.hd,by have:=r.dp;lia,by have:=r.un;lia⟩
def X6.deeper{k:Nat}(r:X6 (k+1) A)(env:Env):X6 k (A.deeper env):=⟨r.hd,by have:=r.dp;show A.depth+1+3*k+105<_;lia,by have:=r.un;show A.units+3+16*k+200<_;lia⟩
def HA{A:Around}{kw:List (Str×Value)}:(A.under<|.builtin "type.__call__" ⟨.ref C::us,kw⟩).depth=A.depth+1:=by first |rfl |simp[Around.under,Code.weight,Code.isCreation,Code.isGuard,Code.isCaller,Code.frames,Code.isFrame,guardIds]
def Hz{A:Around}{kw:List (Str×Value)}:(A.under<|.builtin "type.__call__" ⟨.ref C::us,kw⟩).units=A.units+1:=by first |rfl |simp[Around.under,Code.cUnits,Code.frames,Code.isFrame]
def X6.make{k:Nat}(r:X6 (k+1) A)(C:Addr)(us:gC)(kw:List (Str×Value)):X6 k (A.under<|.builtin "type.__call__" ⟨.ref C::us,kw⟩):=⟨r.hd,by have:=r.dp;rw[HA];lia,by have:=r.un;rw[Hz];lia⟩
def X6.Zu(r:X6 k A):A.depth+100<recursionLimit:=by have:=r.dp;lia
def X6.depth(r:X6 k A):A.depth<recursionLimit:=by have:=r.dp;lia
def X6.units(r:X6 k A):A.units+64<cLine:=by have:=r.un;lia
def Vt:TA:=λ_ H Q=>Q [] H
def Tt(ta:TE)(tr:TA):TA:=λσ H Q=>ta σ H λx H1=>tr σ H1 λxs H2=>Q (x::xs) H2
def cq:PA X [] Vt:=λ_ _ _ _ H Q I h=>Calls.spliced_nil ⟨[],H,I,.nil,h⟩
def bf(ha:PE X e te)(hr:PA X es t)(hs:DA e es X.env:=by rfl):PA X (e::es) (Tt te t):=by intro pos pins s σ H Q I h;rw[hs];show wpAny _ _ (spliced<|(false,eval e X.env)::backTo pos (starEach es X.env)) _ _ s;refine Calls.spliced_cons (dM (ha pins s σ H _ I h) λu s1 ⟨x,H1,I1,r1,q1⟩=>?_);exact dM (hr pos pins s1 σ H1 _ I1 q1) λus s2 ⟨xs,H2,I2,r2,q2⟩=>⟨x::xs,H2,I2,.cons r1 r2,q2⟩
def Vn(t:TA):TE:=λσ H Q=>t σ H λxs H1=>xs.length<=sizeLine/\∀p,H1 p=none->Q (.ref p) (c6 H1 p<|.tup xs)
def Vu(t:TA):TE:=λσ H Q=>t σ H λxs H1=>xs.length<=sizeLine/\∀p,H1 p=none->Q (.ref p) (c6 H1 p<|.lst xs)
def Hm{x1}(h:PA X es t):PE X (.Tuple es x1 pos) (Vn t):=by intro pins s σ H Q I hq;refine wpAny_Tuple_spliced (dM (h pos pins s σ H _ I hq) λus s1 ⟨xs,H1,I1,r,z,q⟩=>⟨by rw[<-r.length];exact z,?_⟩);have hf:H1 s1.heap.objs.size=none:=I1.XR.fresh<|aj _;refine⟨.ref s1.heap.objs.size,c6 H1 s1.heap.objs.size<|.tup xs,I1.laid (t':=s1.toks) (λb u e=>Heap.get?_push_of_some _ e) (aj _) ?_,rfl,q _ hf⟩;exact⟨z,us,r,⟨_,Heap.get?_push_size _ rfl,rfl,_,rfl⟩⟩
def Mb(h:PA X es t):PE X (.List es pos) (Vu t):=by intro pins s σ H Q I hq;refine wpAny_List_spliced (dM (h pos pins s σ H _ I hq) λus s1 ⟨xs,H1,I1,r,z,q⟩=>⟨by rw[<-r.length];exact z,?_⟩);have hf:H1 s1.heap.objs.size=none:=I1.XR.fresh<|aj _;refine⟨.ref s1.heap.objs.size,c6 H1 s1.heap.objs.size<|.lst xs,I1.laid (t':=s1.toks) (λb u e=>Heap.get?_push_of_some _ e) (aj _) ?_,rfl,q _ hf⟩;exact⟨z,us,0,r,Heap.get?_push_size _ rfl⟩
abbrev Sp:=dW->Hp->VK->XK->Prop
abbrev Tc:=List Env->Hp->Shared->XK->Value->Shared->Prop
structure zAR(P:Program)(w:World)(K:bL)(mg:xX)(base:Heap)(A:Around)(outer:List Env)(s:Shared)(H:Hp):Prop where
 frames:A.frames=some outer
 mod:Mod K mg base
 bs:∀b o,base.get? b=some o->s.heap.get? b=some o/\H b=none
 bsz:base.objs.size<=s.heap.objs.size
 Zz:s.heap.FunFrames base outer
 frf:∀b∈oZ outer,H b=none
 XR:ZD P w H s.heap
 bare:AllBare s.gens
def CE(outer:List Env)(P:Program)(w:World)(H:Hp)(s:Shared)(Q:VK)(u:Value)(s':Shared):Prop:=∃v H',s'.os=s.os/\AllBare s'.gens/\Un (oZ outer) [] H H' s.heap s'.heap/\ZD P w H' s'.heap/\RelV v u/\Q v H'
def CR(CX:Tc)(outer:List Env)(P:Program)(w:World)(H:Hp)(s:Shared)(Q:VK)(E:XK)(r:Result)(s':Shared):Prop:=match r with
 |.ok (.ret u)=>CE outer P w H s Q u s'|.ok _=>False
 |.error e=>CX outer H s E e s'
structure fj(P:Program)(w:World)(K:bL)(mg:xX)(base:Heap)(CX:Tc)(k:Nat)(f:Addr)(fd:FuncData)(ps:bM)(sp:Sp):Prop where
 len:∀vs H Q E,sp vs H Q E->vs.length=ps.length
 run:∀(A:Around)(outer:List Env)(s:Shared)(H:Hp)(args:Args)(us:gC)(vs:dW)(Q:VK)(E:XK),X6 k A->zAR P w K mg base A outer s H->BindsTo s fd args (ps.zip us)->Vals vs us->sp vs H Q E->
  codeAny (model P w) A (.call (.ref f) args) (CR CX outer P w H s Q E) s
def zAR.make{K:bL}{outer:List Env}(e:zAR P w K mg base A outer s H)(C:Addr)(us:gC)(kw:List (Str×Value)):zAR P w K mg base (A.under<|.builtin "type.__call__" ⟨.ref C::us,kw⟩) outer s H:=⟨by first |exact e.frames |(simpa[Around.under,Code.envs,Code.isFrame,pushEnvs]using e.frames),e.mod,e.bs,e.bsz,e.Zz,e.frf,e.XR,e.bare⟩
def Inv.zF8(I:Inv X pins σ H s):zAR X.prog X.w X.K X.mg X.base X.A X.stack s H:=⟨I.ok.frames,I.ok.mod,I.bs,aJ I.ok.bsz I.sz,I.stack,I.zAT,I.XR,I.bare⟩
def Inv.after(I:Inv X pins σ H s)(h:CE X.stack X.prog X.w H s Q u s'):EP X pins σ Q u s':=by obtain⟨v,H',os,bare,un,XR,r,q⟩:=h;obtain⟨hh,g,d,t,os'⟩:=s';obtain rfl:os'=s.os:=os;exact⟨v,H',I.call (h':=hh) (g':=g) (d':=d) (t':=t) (ch:=[]) un XR bare λb z=>absurd z<|by simp,r,q⟩
def Tu(sp:Sp)(dvs:dW)(E:XK)(t:TA):TE:=λσ H Q=>t σ H λvs H1=>sp (vs++dvs) H1 Q E
def Tr(C:Addr)(sp:Sp)(dvs:dW)(E:XK)(t:TA):TE:=λσ H Q=>t σ H λvs H1=>∀x dx,H1 x=none->H1 dx=none->dx≠x->sp (.ref x::(vs++dvs)) (c6 (c6 H1 dx<|.own x) x<|.ins C dx []) (λv H2=>v=.XY/\Q (.ref x) H2) E
def Binds(K:bL)(fd:FuncData)(ps:bM)(ds:gC):Prop:=∀(s:Shared)(us:gC),K.In s.heap->(us++ds).length=ps.length->BindsTo s fd ⟨us,[]⟩ (ps.zip<|us++ds)
def Binds.all{K:bL}{ps:bM}(h:∀us:gC,us.length=ps.length->bindArgs fd ⟨us,[]⟩=pure (ps.zip us)):Binds K fd ps []:=λs us _ hl=>by rw[aV]at hl ⊢;exact .of_eq<|h us hl
def i8(CX:Tc)(X:Cx)(E:XK):Prop:=∀(pins:gQ)(σ:St)(H:Hp)(s:Shared)(e:Value)(s':Shared),Inv X pins σ H s->CX X.stack H s E e s'->X.xe e s'
section
variable {ds:gC}{E:XK}
def Q0{X:Cx}(F:fj X.prog X.w X.K X.mg X.base CX k f fd ps sp)(hr:X6 k X.A)(hb:Binds X.K fd ps ds)(hd:Vals dvs ds)(hx:i8 CX X E)(I:Inv X pins σ H s)(r:Vals vs us)(h:sp (vs++dvs) H Q E):fh X (call (.ref f) us) (EP X pins σ Q) X.xe s:=by
 have r2:Vals (vs++dvs) (us++ds):=r.append hd;have hl:(us++ds).length=ps.length:=by rw[<-r2.length];exact F.len _ _ _ _ h
 refine wpAny_call (SY (F.run X.A X.stack s H ⟨us,[]⟩ (us++ds) (vs++dvs) Q E hr I.zF8 (hb s us I.Y9 hl) r2 h) λr s' hq=>?_);cases r with
 |error e=>exact hx pins σ H s e s' I hq
 |ok fl=>
  cases fl with
  |ret u=>exact I.after hq|next=>exact False.elim hq
  |brk=>exact False.elim hq|cont=>exact False.elim hq
def mK{X:Cx}(F:fj X.prog X.w X.K X.mg X.base CX k f fd ps sp)(hr:X6 k X.A)(hg:Gl X x)(hm:X.mg x=some (.ref f))(hk:PySem.W.keepIn X.K (.ref f)=true)(hb:Binds X.K fd ps ds)(hd:Vals dvs ds)(hx:i8 CX X E)(ha:PA X (e::es) t)(Yt:tH x:=by decide)(he:DA e es X.env:=by rfl)(Zy:uL pos es X.env:=by rfl):PE X (.Call (.Name x p) (e::es) [] pos) (Tu sp dvs E t):=by intro pins s σ H Q I h;refine oY<|Ef I hg hm ?_ Yt;refine PySem.W.callWith_K (h₀:=X.base) I.ok.mod.kin hk (dM (ha pos pins s σ H _ I h) λus s1 ⟨vs,H1,I1,r,q⟩=>⟨I1.Y9,?_⟩) he Zy;exact Q0 F hr hb hd hx I1 r q
structure Mk(K:bL)(C f:Addr):Prop where
 makes:PySem.W.makesIn K C=true
 init:PySem.W.findIn K (.ref C) "__init__"=some (some<|.ref f)
 fn:PySem.W.isFn K (.ref f)=true
 kp:PySem.W.keepIn K (.ref C)=true
def LG{Q:VK}{X:Cx}(M:Mk X.K C f)(F:fj X.prog X.w X.K X.mg X.base CX k f fd ps sp)(hr:X6 (k+1) X.A)(hb:Binds X.K fd ps ds)(hd:Vals dvs ds)(hx:i8 CX X E)(I:Inv X pins σ H s)(r:Vals vs us)(h:∀x dx,H x=none->H dx=none->dx≠x->sp (.ref x::(vs++dvs)) (c6 (c6 H dx<|.own x) x<|.ins C dx []) (λv H2=>v=.XY/\Q (.ref x) H2) E):fh X (call (.ref C) us) (EP X pins σ Q) X.xe s:=by
 have hq:=h (s.heap.objs.size+1) s.heap.objs.size (I.XR.fresh<|NU _) (I.XR.fresh<|aj _)<|bi<|eL _;have I2:=Inv.made (C:=C) I;have r2:Vals (V.ref (s.heap.objs.size+1)::(vs++dvs)) (Value.ref (s.heap.objs.size+1)::(us++ds)):=.cons rfl<|r.append hd;have hl:(Value.ref (s.heap.objs.size+1)::us++ds).length=ps.length:=by have e:=r2.length;rw[F.len _ _ _ _ hq]at e;exact e.symm
 refine wpAny_call<|Mp (f:=f) I.Y9 M.makes M.init (BF.mp M.fn) (SY (F.run _ X.stack _ _ ⟨Value.ref (s.heap.objs.size+1)::us,[]⟩ (Value.ref (s.heap.objs.size+1)::(us++ds)) _ _ E (hr.make C us []) (I2.zF8.make C us []) (hb _ (Value.ref (s.heap.objs.size+1)::us) I2.Y9 hl) r2 hq) λr s' hq'=>?_);cases r with
 |error e=>exact hx pins σ _ _ e s' I2 hq'
 |ok fl=>
  cases fl with
  |ret u=>obtain⟨v,H',I3,rv,ev,q3⟩:=I2.after hq';subst ev;exact⟨rv,⟨V.ref<|s.heap.objs.size+1,H',I3,rfl,q3⟩⟩
  |next=>exact False.elim hq'|brk=>exact False.elim hq'
  |cont=>exact False.elim hq'
def OG{X:Cx}(M:Mk X.K C f)(F:fj X.prog X.w X.K X.mg X.base CX k f fd ps sp)(hr:X6 (k+1) X.A)(hg:Gl X x)(hm:X.mg x=some (.ref C))(hb:Binds X.K fd ps ds)(hd:Vals dvs ds)(hx:i8 CX X E)(ha:PA X (e::es) t)(Yt:tH x:=by decide)(he:DA e es X.env:=by rfl)(Zy:uL pos es X.env:=by rfl):PE X (.Call (.Name x p) (e::es) [] pos) (Tr C sp dvs E t):=by intro pins s σ H Q I h;refine oY<|Ef I hg hm ?_ Yt;refine PySem.W.callWith_K (h₀:=X.base) I.ok.mod.kin M.kp (dM (ha pos pins s σ H _ I h) λus s1 ⟨vs,H1,I1,r,q⟩=>⟨I1.Y9,?_⟩) he Zy;exact LG M F hr hb hd hx I1 r q
end
structure aE(N P:bM)(sc:Scope):Prop where
 kind:sc.kind=.function
 co:sc.isCoroutine=false
 gen:sc.isGenerator=false
 nd:N.Nodup
 pre:N.take P.length=P
 par:∀x∈P,sc.names.lookup x=some .local\/sc.names.lookup x=some .cell
 zDM:∀y∈sc.names,y.2≠.free
def Dq{kindOf:Str->Option NameKind}:∀{binds:List (Str×Value)}{m:xX},(∀v,(x,v)∉binds)->bindL kindOf binds m x=m x
 |[],_,_=>rfl
 |(n,v)::r,m,h=>by
  unfold bindL;rw[Dq λw hw=>h w<|aO _ hw];split
  ·have:x≠n:=by rintro rfl;exact h v bo
   simp[this]
  ·rfl
def Dt{kindOf:Str->Option NameKind}:∀{binds:List (Str×Value)}{m:xX},(∀v,(x,v)∉binds)->bindC kindOf binds m x=m x
 |[],_,_=>rfl
 |(n,v)::r,m,h=>by
  unfold bindC;rw[Dt λw hw=>h w<|aO _ hw];split;·rfl
  ·have:x≠n:=by rintro rfl;exact h v bo
   simp[this]
def Ds{kindOf:Str->Option NameKind}:∀{P:bM}{vs:gC}{i:Nat}{m:xX},P.Nodup->P[i]?=some x->vs[i]?=some v->kindOf x=some .local->bindL kindOf (P.zip vs) m x=some v
 |[],_,_,_,_,h,_,_=>by simp at h|_::_,[],_,_,_,_,h,_=>by simp at h
 |p::P,w::vs,0,m,nd,h1,h2,hk=>by simp at h1 h2;subst h1;subst h2;show bindL kindOf ((p,w)::P.zip vs) m p=_;unfold bindL;rw[Dq λv hv=>(cY.mp nd).1 (P1 hv).1,ar hk];simp|p::P,w::vs,i+1,m,nd,h1,h2,hk=>by show bindL kindOf ((p,w)::P.zip vs) m x=_;unfold bindL;exact Ds (i:=i) (cY.mp nd).2 (by simpa using h1) (by simpa using h2) hk
def Du{kindOf:Str->Option NameKind}:∀{P:bM}{vs:gC}{i:Nat}{m:xX},P.Nodup->P[i]?=some x->vs[i]?=some v->kindOf x≠some .local->bindC kindOf (P.zip vs) m x=some v
 |[],_,_,_,_,h,_,_=>by simp at h|_::_,[],_,_,_,_,h,_=>by simp at h
 |p::P,w::vs,0,m,nd,h1,h2,hk=>by simp at h1 h2;subst h1;subst h2;show bindC kindOf ((p,w)::P.zip vs) m p=_;unfold bindC;rw[Dt λv hv=>(cY.mp nd).1 (P1 hv).1,ak hk];simp|p::P,w::vs,i+1,m,nd,h1,h2,hk=>by show bindC kindOf ((p,w)::P.zip vs) m x=_;unfold bindC;exact Du (i:=i) (cY.mp nd).2 (by simpa using h1) (by simpa using h2) hk
def start(N:bM)(vs:dW):St:=vs.map some++List.replicate (N.length-vs.length) none
def wx(CX:Tc)(P:Program)(w:World)(K:bL)(mg:xX)(base:Heap)(N:bM)(qual:Str)(scope:Scope)(f:Addr)(cd:Value)(A:Around)(outer:List Env)(s:Shared)(H:Hp)(E:XK):Cx where
 prog:=P
 w:=w
 K:=K
 mg:=mg
 base:=base
 A:=A.deeper<|envOfC qual scope s.heap.objs.size f cd
 N:=N
 s₀:=s
 H₀:=H
 env:=envOfC qual scope s.heap.objs.size f cd
 outer:=outer
 stack:=envOfC qual scope s.heap.objs.size f cd::outer
 ex:=[]
 calm:=true
 fn:=λ_=>true
 pn:=[]
 xe:=λe s'=>wpAny (model P w) (A.deeper<|envOfC qual scope s.heap.objs.size f cd) (leaving (envOfC qual scope s.heap.objs.size f cd) e) (λ_ s''=>CX outer H s E e s'') (λe' s''=>CX outer H s E e' s'') s'
def Gj{sc:Scope}{x:Str}(h:sc.names.lookup x=some .cell):∃c,(cellsFrom n sc.names []).lookup x=some c:=by have q:=Wy sc.names n []<|.inl h;exact Option.isSome_iff_exists.mp q
def Ks{K:bL}{A:Around}{vs:dW}{outer:List Env}{E:XK}(S:aE N ps scope)(hd:A.handled=none)(e0:zAR P w K mg base A outer s H)(hl:vs.length=ps.length)(r:Vals vs us)(x:InCallC s s.heap.objs.size (bindL (envOfC qual scope s.heap.objs.size f cd).kindOf (ps.zip us) λ_=>none) (cellsFrom (s.heap.objs.size+1) scope.names []) (bindC (envOfC qual scope s.heap.objs.size f cd).kindOf (ps.zip us) λ_=>none) s1):Inv (wx CX P w K mg base N qual scope f cd A outer s H E) [] (start N vs) H s1:=by
 have Zy:ps.length<=N.length:=by have:=aY List.length S.pre;rw[bC]at this;lia
 obtain⟨h1,tk,rfl,hk⟩:=x.done;have noA:∀b:Addr,b∉(wx CX P w K mg base N qual scope f cd A outer s H E).ex:=λb z=>absurd (show b∈([]:List Addr)from z)<|by simp
 refine⟨⟨e0.mod,S.kind,rfl,rfl,aj _,λy z c h1 h2=>?_,λy hy=>?_,λy c _ h=>?_,λ_=>hd,Around.frames_deeper e0.frames,.inr ⟨rfl,rfl⟩,λb z=>absurd z<|noA b,e0.bs,e0.bsz,λb _ _=>noA b,λb z=>absurd z<|noA b,e0.Zz,e0.frf⟩,
  rfl,e0.bare,Un.kept hk,⟨_,x.toInCall.ns,λi y v h1 h2 h3=>?_⟩,λy c h=>⟨_,x.cell y c h⟩,e0.XR.fresh (aj _),λy c h=>?_,λp hp=>absurd (show p∈([]:gQ)from hp) (by simp),e0.XR.kept hk,?_⟩
 ·exact name_of_addr x.apart (gR h1)<|gR h2
 ·have hy:scope.names.lookup y=some .cell\/scope.names.lookup y=some .free:=hy;rcases hy with hy |hy;·exact Gj hy
  ·exact absurd rfl<|S.zDM _<|gR hy
 ·exact j8<|x.above y c<|gR h
 ·have hi:i<vs.length:=by
   unfold start at h2;by_cases hi:i<vs.length;·exact hi
   ·rw[List.getElem?_append_right<|by simpa using hi]at h2;rw[List.getElem?_replicate]at h2;split at h2<;>cases h2
  have ha:vs[i]?=some v:=by
   unfold start at h2;rw[List.getElem?_append_left<|by simpa using hi,List.getElem?_map]at h2;cases e:vs[i]? with
   |none=>rw[e]at h2;cases h2
   |some a=>rw[e]at h2;cases h2;rfl
  obtain⟨u,hu,rv⟩:=r.get ha;have hp:ps[i]?=some y:=by rw[<-S.pre,List.getElem?_take_of_lt<|by lia];exact h1
  have ndP:ps.Nodup:=by rw[<-S.pre];exact S.nd.sublist<|List.take_sublist _ _
  refine⟨u,rv,?_⟩;rcases S.par y (List.mem_of_getElem? hp)with k |k;·exact .inl ⟨k,Ds ndP hp hu k⟩
  ·obtain⟨c,e⟩:=Gj (n:=s.heap.objs.size+1) k;refine .inr ⟨.inl k,c,e,?_⟩;have q:=x.cell y c e;rw[Du ndP hp hu<|by show scope.names.lookup y≠_;rw[k];decide]at q;exact q
 ·exact e0.XR.fresh<|j8<|x.above y c<|gR h
 ·unfold start;show _=N.length;rw[ac,ae,fL];lia
def Ul{K:bL}{f:Addr}{name qual:Str}{body:List Stmt}{scope:Scope}{dV kV doc pm Yd ct:Value}{an:Option Addr}{sp:Sp}{params:Arguments}(lk:K.lookup f=some ⟨oc,od,.func<|PySem.W.fnOf name qual params body scope dV kV doc pm an Yd ct,osl⟩)(hcd:PySem.W.codeIn K Yd qual=true)(S:aE N ps scope)(len:∀vs H Q E,sp vs H Q E->vs.length=ps.length)(zBZ:∀(A:Around)(outer:List Env)(s:Shared)(H:Hp)(vs:dW)(Q:VK)(E:XK),X6 k (A.deeper<|envOfC qual scope s.heap.objs.size f Yd)->sp vs H Q E->∃t,PSs (wx CX P w K mg base N qual scope f Yd A outer s H E) body t/\t {nx:=λ_ H'=>Q .XY H',rt:=Q} (start N vs) H):fj P w K mg base CX (k+1) f (PySem.W.fnOf name qual params body scope dV kV doc pm an Yd ct) ps sp:=by
 refine⟨len,λA outer s H args us vs Q E hr e0 hb r hsp=>?_⟩;have hl:=len _ _ _ _ hsp;have KX:K.In s.heap:=e0.mod.kin.keeps λb o e=>(e0.bs b o e).1;have lim:s.heap.NoLimit:=e0.mod.nolimit.keeps λb o e=>(e0.bs b o e).1;have zFP:∀y∈ps.zip us,scope.names.lookup y.1=some .local\/(scope.names.lookup y.1=some .cell/\((cellsFrom (s.heap.objs.size+1) scope.names []).lookup y.1).isSome=true):=λ⟨n,v⟩ hy=>by
  rcases S.par n (P1 hy).1 with q |q;·exact .inl q
  ·exact .inr ⟨q,Wy _ _ _<|.inl q⟩
 refine codeAny_call_function hr.depth (KX _ _ lk) rfl S.co S.gen rfl (PySem.W.codeRec_of KX hcd)<|hb _ _ _ _ ?_;refine wpAny_newFunctionEnv_cells S.kind zFP λenv he s1 x=>?_;subst he;refine⟨lim.keeps x.toInCall.keep,codeAny_func ?_⟩;obtain⟨t,ht,hq⟩:=zBZ A outer s H vs Q E (hr.deeper _) hsp;have I:Inv (wx CX P w K mg base N qual scope f Yd A outer s H E) [] (start N vs) H s1:=Ks S hr.hd e0 hl r x;refine oX (ht [] s1 (start N vs) H _ I hq) (λfl s' hs=>?_) λe s' hs=>hs;have fin:∀{σ':St}{H':Hp}{v:V}{u:Value},Inv (wx CX P w K mg base N qual scope f Yd A outer s H E) [] σ' H' s'->RelV v u->Q v H'->CE outer P w H s Q u s':=λ{σ' H' v u}J rv q=>⟨v,H',J.os,J.bare,J.base,J.XR,rv,q⟩;cases fl with
 |ret u=>obtain⟨v,σ',H',J,rv,q⟩:=hs;exact fin J rv q
 |next=>obtain⟨σ',H',J,q⟩:=hs;exact fin (v:=V.XY) (u:=Value.none) J rfl q
 |brk=>obtain⟨_,_,_,q⟩:=hs;exact False.elim q
 |cont=>obtain⟨_,_,_,q⟩:=hs;exact False.elim q
section
variable {id:String}{r:dW->Hp->VK->Prop}
def WI(r:dW->Hp->VK->Prop)(t:TA):TE:=λσ H Q=>t σ H λvs H1=>r vs H1 Q
def jY(hc:iK X (.builtin id) r)(hg:Gl X x)(hm:X.mg x=none)(hv:bootBuiltins x=some (.builtin id))(ha:PA X (e::es) t)(hn:x≠"__name__":=by decide)(Yt:tH x:=by decide)(he:DA e es X.env:=by rfl)(Zy:uL pos es X.env:=by rfl):PE X (.Call (.Name x p) (e::es) [] pos) (WI r t):=by intro pins s σ H Q I h;refine oY<|rH I hg hm hv ?_ hn Yt;exact PyProof.Rows.callWith_builtin1 (dM (ha pos pins s σ H _ I h) λus s1 ⟨vs,H1,I1,r1,q1⟩=>hc pins s1 σ H1 vs us Q I1 r1 q1) he Zy
def oF(hc:iK X (.type T) r)(hg:Gl X x)(hm:X.mg x=none)(hv:bootBuiltins x=some (.type T))(ha:PA X (e::es) t)(hn:x≠"__name__":=by decide)(Yt:tH x:=by decide)(he:DA e es X.env:=by rfl)(Zy:uL pos es X.env:=by rfl):PE X (.Call (.Name x p) (e::es) [] pos) (WI r t):=by intro pins s σ H Q I h;refine oY<|rH I hg hm hv ?_ hn Yt;exact fC (dM (ha pos pins s σ H _ I h) λus s1 ⟨vs,H1,I1,r1,q1⟩=>hc pins s1 σ H1 vs us Q I1 r1 q1) he Zy
end
end L2
namespace HT
open PySem PyProof.Rows
variable {K:bL}
section
open PySem.SeqAt
open PySem.AutoSeq1 (wpAny_loadPart')
open PySem.MeetsSeq PySem.MeetsSeq2 PySem.MeetsSeq3
end
def zCU{vs ws:gC}{Q:wL}{s:Shared}(ht:IsTup s.heap t vs.toArray)(hb:IsTup s.heap b ws.toArray)(hv:vs≠[])(h1:ws=[]->Q (.ref t) s)(h2:ws≠[]->Q (.ref s.heap.objs.size) {s with heap:=s.heap.push {cls:=.type "tuple",data:=.seq (vs++ws).toArray}})(hsz:vs.length+ws.length<=sizeLine):wpAny (model prog w) A (binaryOp .Add (.ref t)<|.ref b) Q E s:=by
 obtain⟨⟨cls,dd,data,sl⟩,ho,hc,n,hd⟩:=id ht;obtain⟨⟨zQ9,dd2,data2,Y2⟩,ho2,hc2,n2,hd2⟩:=id hb;simp only at hc hd hc2 hd2;subst hc hd hc2 hd2;have e:vs.toArray++ws.toArray=(vs++ws).toArray:=by simp
 by_cases hw:ws=[];·exact concat_meets ⟨_,ho,rfl⟩ ⟨_,ho2,rfl⟩ noFill_tuple_add seq_tuple_add Wz Ve (UX _ _) (tuple_addW1 t b vs.toArray ws.toArray n n2 dd dd2 sl Y2 (by simpa using hv)<|by simp[hw]) ⟨ho,ho2,h1 hw⟩
 ·refine concat_meets ⟨_,ho,rfl⟩ ⟨_,ho2,rfl⟩ noFill_tuple_add seq_tuple_add Wz Ve (UX _ _) (tuple_addW2 t b vs.toArray ws.toArray n n2 dd dd2 sl Y2 (by simpa using hv) (by simpa using hw)<|by rw[aD,aD];exact hsz) ⟨ho,ho2,?_⟩;rw[e];exact h2 hw
def XS(n d:Nat):Option Int->Nat|none=>d|some v=>if v<0 then(v+(n:Int)).toNat else min v.toNat n
def zBN(n d:Nat):XS n d none=d:=rfl
def YH(n d k:Nat):XS n d (some (k:Int))=min k n:=by show(if(k:Int)<0 then((k:Int)+(n:Int)).toNat else min (k:Int).toNat n)=min k n;rw[ak<|by lia,dw]
def QZ(n d:Nat)(hd:d<=n)(o:Option Int):XS n d o<=n:=by
 cases o with
 |none=>exact hd
 |some v=>
  show(if v<0 then(v+(n:Int)).toNat else min v.toNat n)<=n;by_cases hv:v<0;·rw[ar hv];lia
  ·rw[ak hv];exact yy _ _
def JH(v:Int)(n d:Nat):(if v<0 then max (v+(n:Int)) 0 else min v (n:Int))=((XS n d (some v):Nat):Int):=by
 show(if v<0 then max (v+(n:Int)) 0 else min v (n:Int))=(((if v<0 then(v+(n:Int)).toNat else min v.toNat n):Nat):Int);by_cases hv:v<0;·simp only[ar hv];lia
 ·simp only[ak hv];lia
def Ij(lo hi:Option Int)(n:Nat):Builtin.Slice.sliceAdjust lo hi 1 (n:Int)=(((XS n 0 lo:Nat):Int),((XS n n hi:Nat):Int)):=by
 have h1:¬((1:Int)<0):=by lia
 unfold Builtin.Slice.sliceAdjust;simp only[h1,KY];refine gr ?_ ?_;·cases lo with|none=>rfl|some v=>exact JH v n 0
 ·cases hi with|none=>rfl|some v=>exact JH v n n
def Hk(i j:Nat):Builtin.Slice.slicePlaces (i:Int) (j:Int) 1=j-i:=by
 unfold Builtin.Slice.slicePlaces;have h1:(1:Int)>0:=by lia
 simp only[h1,Qz,Int.ediv_one];split<;>lia
def Ah{o:Option Int}{Q:Option Int->Shared->Prop}(p:IsPart v o)(h:Q o s):wpAny (model prog w) A (Builtin.Slice.slicePartIndex v) Q E s:=by cases p with|none=>exact slicePart_none h|int i t=>exact slicePart_int h
def oo{s:Shared}{lo hi:Option Int}{Q:Int×Int×Nat->Shared->Prop}(hs:s.heap.IsSliceOf sl vl vu .none)(pl:IsPart vl lo)(pu:IsPart vu hi)(h:Q (((XS n 0 lo:Nat):Int),1,XS n n hi-XS n 0 lo) s):wpAny (model prog w) A (Builtin.Slice.sliceApplied (.ref sl)<|pure (n:Int)) Q E s:=by obtain⟨os,hos,hcs,hds⟩:=id hs;unfold Builtin.Slice.sliceApplied Builtin.Slice.sliceFields;refine af<|af<|fR hos hds (x:=vl) rfl<|af<|fR hos hds (x:=vu) rfl<|af<|fR hos hds (x:=.none) rfl<|av ?_;refine af<|slicePart_none ?_;show wpAny _ _ (if((1:Int)==0)=true then _ else _) _ _ s;rw[ak<|by decide];refine af<|Ah pl<|af<|Ah pu<|af<|av ?_;show wpAny _ _ (match Builtin.Slice.sliceAdjust lo hi 1 (n:Int)with |(lo,hi)=>pure (lo,(1:Int),Builtin.Slice.slicePlaces lo hi 1)) _ _ s;rw[Ij lo hi n];show wpAny _ _ (pure (((XS n 0 lo:Nat):Int),(1:Int),Builtin.Slice.slicePlaces ((XS n 0 lo:Nat):Int) ((XS n n hi:Nat):Int) 1)) _ _ s;rw[Hk];exact av h
def L5(xs:Array Value)(i k:Nat):((List.range k).filterMap λ(m:Nat)=>xs[((i:Int)+(m:Int)*1).toNat]?).toArray=((xs.toList.drop i).take k).toArray:=by
 have e:(λ(m:Nat)=>xs[((i:Int)+(m:Int)*1).toNat]?)=λm=>xs[i+m]?:=by
  funext m;have:((i:Int)+(m:Int)*1).toNat=i+m:=by lia
  rw[this]
 rw[e];have:=pick_run xs i k;rw[List.filterMap_map]at this;have e2:((λx=>xs[x]?) ∘ λx=>i+x)=λm=>xs[i+m]?:=rfl;rw[e2]at this;rw[this]
def Zl{Q:wL}{s:Shared}{lo hi:Option Int}(ht:IsTup s.heap t items)(hs:s.heap.IsSliceOf sl vl vu .none)(pl:IsPart vl lo)(pu:IsPart vu hi)(hw:¬(XS items.size 0 lo=0/\XS items.size items.size hi=items.size))(h:Q (.ref s.heap.objs.size) {s with heap:=s.heap.push {cls:=.type "tuple",data:=.seq ((items.toList.drop<|XS items.size 0 lo).take<|XS items.size items.size hi-XS items.size 0 lo).toArray}})(hsz:items.size<=sizeLine):wpAny (model prog w) A (getItem (.ref t)<|.ref sl) Q E s:=by
 have zAW:sizeOk (.seq ((items.toList.drop<|XS items.size 0 lo).take<|XS items.size items.size hi-XS items.size 0 lo).toArray):=by show((items.toList.drop<|XS items.size 0 lo).take<|XS items.size items.size hi-XS items.size 0 lo).toArray.size<=sizeLine;rw[aD,bC,de,bX];lia
 have hj:XS items.size items.size hi<=items.size:=QZ _ _ (aj _) hi;obtain⟨os,hos,hcs,hds⟩:=id hs;have hTs:s.TypeIs (.ref sl) "slice":=⟨os,hos,hcs⟩;unfold getItem;try with_reducible refine cp ?_
 first |refine af (av ?_) |skip
 refine af<|wpAny_sequenceKey ht.typeIs (by decide) ?_;refine af<|wpAny_callSpecial?_slot (name:=Str.ofString "__getitem__") ht.typeIs gB<|fc gB ht.typeIs entry_tuple_getitem ?_<|args_tuple_getitem _ _;show wpAny _ _ (Builtin.Tuple.tupleItemsOf (.ref t)>>=_) _ _ s;refine af<|tupleItemsOf_ ht ?_;refine af<|SV hTs ?_;rw[ar<|by decide];refine af<|oo hs pl pu ?_;have ZG:¬((((XS items.size 0 lo:Nat):Int)==0&&(1:Int)==1&&(XS items.size items.size hi-XS items.size 0 lo)==items.size)=true):=by intro q;rw[eO,eO]at q;have q1:((XS items.size 0 lo:Nat):Int)=0:=eq_of_beq q.1.1;have q2:XS items.size items.size hi-XS items.size 0 lo=items.size:=eq_of_beq q.2;exact hw ⟨by lia,by lia⟩
 show wpAny _ _ (if(((XS items.size 0 lo:Nat):Int)==0&&(1:Int)==1&&(XS items.size items.size hi-XS items.size 0 lo)==items.size)=true then _ else _) _ _ s;rw[ak ZG,L5];first
  |exact af (m:=Builtin.Tuple.tupleExact _) (bP (av ⟨_,rfl,av h⟩) zAW)|exact af (m:=Builtin.Tuple.tupleExact _)<|bP (af<|av<|av ⟨_,rfl,av h⟩) zAW
  |exact af (af (m:=Builtin.Tuple.tupleExact _)<|bP (av<|av ⟨_,rfl,av h⟩) zAW)|exact af<|af (m:=Builtin.Tuple.tupleExact _)<|bP (av ⟨_,rfl,av h⟩) zAW
end HT
namespace L2
open PySem PySem.Spec PyProof.Rows
variable {K:bL}
abbrev TO:=St->Hp->(Option Int->Hp->Prop)->Prop
def PO(X:Cx)(e:Option Expr)(t:TO):Prop:=∀(pins:gQ)(s:Shared)(σ:St)(H:Hp)(Q:Option Int->Hp->Prop),Inv X pins σ H s->t σ H Q->fh X (evalPart e X.env) (λu s'=>∃o H',Inv X pins σ H' s'/\IsPart u o/\Q o H') X.xe s
def N5:TO:=λ_ H Q=>Q none H
def To(t:TE):TO:=λσ H Q=>t σ H λx H1=>∃i,x=.int i/\Q (some i) H1
section
variable {lo hi:Option Expr}{tl th:TO}
def OE:PO X none N5:=by intro pins s σ H Q I h;rw[evalPart_none];exact av ⟨none,H,I,.none,h⟩
def DW(h:PE X e te):PO X (some e) (To te):=by intro pins s σ H Q I hw;rw[evalPart_some];refine dM (h pins s σ H _ I hw) λu s1 ⟨x,H1,I1,r1,q1⟩=>?_;obtain⟨i,rfl,q⟩:=q1;obtain⟨t,rfl⟩:=r1;exact⟨some i,H1,I1,.int i t,q⟩
def UJ(X:Cx)(r:V->Option Int->Option Int->Hp->VK->Prop):Prop:=∀(pins:gQ)(s:Shared)(σ:St)(H:Hp)(x:V)(v vl vu:Value)(lo hi:Option Int)(sl:Addr)(Q:VK),Inv X pins σ H s->RelV x v->s.heap.IsSliceOf sl vl vu .none->IsPart vl lo->IsPart vu hi->r x lo hi H Q->∃T id,typeLookup (.type T) "__getitem__"=pure (some<|.builtin id)/\s.TypeIs v T/\fh X (getItem v<|.ref sl) (EP X pins σ Q) X.xe s
def W0(r:V->Option Int->Option Int->Hp->VK->Prop)(te:TE)(tl th:TO):TE:=λσ H Q=>te σ H λx H1=>tl σ H1 λl H2=>th σ H2 λu H3=>r x l u H3 Q
def vp{r:V->Option Int->Option Int->Hp->VK->Prop}(hr:UJ X r)(he:PE X e te)(hl:PO X lo tl)(hu:PO X hi th):PE X (.Subscript e (.Slice lo hi none p2) pos) (W0 r te tl th):=by intro pins s σ H Q I h;refine Subscript_ (dM (he pins s σ H _ I h) λv s1 ⟨x,H1,I1,r1,q1⟩=>?_);refine wpAny_Slice (dM (hl pins s1 σ H1 _ I1 q1) λvl s2 ⟨l,H2,I2,pl,q2⟩=>dM (hu pins s2 σ H2 _ I2 q2) λvu s3 ⟨u,H3,I3,pu,q3⟩=>?_);rw[evalPart_none];refine av ?_;have I4:Inv X pins σ H3 {s3 with heap:=s3.heap.push {cls:=.type "slice",data:=.fields #[vl,vu,.none]}}:=I3.kept (t':=s3.toks) λb ob q=>Heap.get?_push_of_some _ q;obtain⟨T,id,hT,ht,hg⟩:=hr pins {s3 with heap:=s3.heap.push {cls:=.type "slice",data:=.fields #[vl,vu,.none]}} σ H3 x v vl vu l u s3.heap.objs.size Q I4 r1 (Heap.IsSliceOf.new ..) pl pu q3;show fh X (subscriptTail e (.Slice lo hi none p2) v<|.ref s3.heap.objs.size) (EP X pins σ Q) X.xe {s3 with heap:=s3.heap.push {cls:=.type "slice",data:=.fields #[vl,vu,.none]}};exact tail_any (ops:=[.ref s3.heap.objs.size,v]) ht hT hg<|by with_unfolding_all rfl
def Gi(xs:dW)(lo hi:Option Int):dW:=(xs.drop<|HT.XS xs.length 0 lo).take<|HT.XS xs.length xs.length hi-HT.XS xs.length 0 lo
def xR(xs:dW)(lo hi:Option Int):(Gi xs lo hi).length<=xs.length:=by unfold Gi;rw[bC,de];lia
def VF(K:bL):V->Option Int->Option Int->Hp->VK->Prop:=λx lo hi H Q=>∃a xs,x=.ref a/\Yu K H a xs/\¬(HT.XS xs.length 0 lo=0/\HT.XS xs.length xs.length hi=xs.length)/\∀p,H p=none->Q (.ref p) (c6 H p<|.tup<|Gi xs lo hi)
def QR:UJ X (VF X.K):=by
 intro pins s σ H x v vl vu lo hi sl Q I rx hs pl pu h;obtain⟨a,xs,rfl,hx,hw,q⟩:=h;cases rx;obtain⟨its,r,ht,hz⟩:=I.tuple hx;have hlen:its.toArray.size=xs.length:=by rw[aD];exact r.length.symm
 refine⟨"tuple",_,PyProof.Rows.slot_tuple_getitem.lookup,ht.typeIs,?_⟩;refine HT.Zl ht hs pl pu (by rw[hlen];exact hw) ?_ (by rw[hlen];exact hz);rw[hlen];refine⟨.ref s.heap.objs.size,_,I.laid (t':=s.toks) (o:=.tup<|Gi xs lo hi) (λb ob q=>Heap.get?_push_of_some _ q) (aj _) ?_,rfl,q _<|I.XR.fresh<|aj _⟩;exact⟨aJ (xR xs lo hi) hz,_,(r.drop<|HT.XS xs.length 0 lo).take<|HT.XS xs.length xs.length hi-HT.XS xs.length 0 lo,IsTup.new _ _⟩
def TM(K:bL):R2:=λx y H Q=>∃a b xs ys,x=.ref a/\y=.ref b/\Yu K H a xs/\Yu K H b ys/\xs≠[]/\xs.length+ys.length<=sizeLine/\(ys=[]->Q (.ref a) H)/\(ys≠[]->∀p,H p=none->Q (.ref p) (c6 H p<|.tup<|xs++ys))
def Vals.ZY(r:Vals xs us):us=[]↔xs=[]:=by cases r with|nil=>simp|cons _ _=>simp
def OL:pQ X (binaryOp .Add) (TM X.K):=by intro pins s σ H x y v u Q I rx ry h;obtain⟨a,b,xs,ys,rfl,rfl,ha,hb,hx,hz,q1,q2⟩:=h;cases rx;cases ry;obtain⟨its,r1,p1,_⟩:=I.tuple ha;obtain⟨zAA,r2,p2,_⟩:=I.tuple hb;refine HT.zCU p1 p2 (λz=>hx<|r1.ZY.mp z) (λz=>⟨.ref a,H,I,rfl,q1<|r2.ZY.mp z⟩) (λz=>?_) (by rw[<-r1.length,<-r2.length];exact hz);refine⟨.ref s.heap.objs.size,_,I.laid (t':=s.toks) (o:=.tup<|xs++ys) (λb ob q=>Heap.get?_push_of_some _ q) (aj _) ?_,rfl,q2 (λw=>z<|r2.ZY.mpr w) _<|I.XR.fresh<|aj _⟩;exact⟨by rw[ac];exact hz,_,r1.append r2,IsTup.new _ _⟩
end
def Ji(n:Nat)(i:Int):Option Nat:=if 0<=i then(if i<n then some i.toNat else none)else if-(n:Int)<=i then some (i+n).toNat else none
def qL{α:Type}(xs:List α)(i:Int):Option α:=(Ji xs.length i).bind λj=>xs[j]?
def Jh{i:Int}(h:Ji n i=some j):seqIndex? i n=some j/\j<n/\-(n:Int)<=i/\i<n:=by
 unfold Ji at h;by_cases h0:0<=i
 ·rw[ar h0]at h;by_cases h1:i<n;·rw[ar h1]at h;have e:i.toNat=j:=bG h;exact⟨by rw[Vd h0 h1,e],by lia,by lia,h1⟩
  ·rw[ak h1]at h;cases h
 ·rw[ak h0]at h;by_cases h1: -(n:Int)<=i;·rw[ar h1]at h;have e:(i+n).toNat=j:=bG h;exact⟨by rw[SX (by lia) h1,e],by lia,h1,by lia⟩
  ·rw[ak h1]at h;cases h
def z4{i:Int}{α:Type}{xs:List α}{v:α}(h:qL xs i=some v):∃j,seqIndex? i xs.length=some j/\xs[j]?=some v/\j<xs.length/\-(xs.length:Int)<=i/\i<xs.length:=by
 unfold qL at h;cases e:Ji xs.length i with
 |none=>rw[e]at h;cases h
 |some j=>rw[e]at h;obtain⟨h1,h2,h3,h4⟩:=Jh e;exact⟨j,h1,h,h2,h3,h4⟩
def jN{j:Nat}{α:Type}{xs:List α}{v:α}(h:xs[j]?=some v):qL xs (j:Int)=some v:=by
 have hj:j<xs.length:=(List.getElem?_eq_some_iff.mp h).1;have e:Ji xs.length (j:Int)=some j:=by unfold Ji;rw[ar<|by lia,ar<|by lia];simp
 unfold qL;rw[e];exact h
def mP(b:Expr):Prop:=∀o i,subscripted b false o i=operate [o,i] (getItem o i)
def S9(X:Cx)(r:R2):Prop:=∀(value slice:Expr)(pins:gQ)(s:Shared)(σ:St)(H:Hp)(x y:V)(v u:Value)(Q:VK),Inv X pins σ H s->RelV x v->RelV y u->r x y H Q->subscripted slice false v u=operate [v,u] (getItem v u)->fh X (subscriptTail value slice v u) (EP X pins σ Q) X.xe s
def S8(X:Cx)(id:String)(r:V->dW->Hp->VK->Prop):Prop:=∀(pins:gQ)(s:Shared)(σ:St)(H:Hp)(x:V)(xs:dW)(v:Value)(us:gC)(Q:VK),Inv X pins σ H s->RelV x v->Vals xs us->r x xs H Q->fh X (call (.builtin id)<|v::us) (EP X pins σ Q) X.xe s
section
def C4{r:R2}(hr:S9 X r)(ha:PE X a ta)(hb:PE X b tb)(hs:mP b):PE X (.Subscript a b pos) (U4 r ta tb):=by intro pins s σ H Q I h;exact Subscript_ (SF ha hb I h λv u s2 x y H2 I2 rx ry q=>hr a b pins s2 σ H2 x y v u Q I2 rx ry q<|hs _ _)
def TL(K:bL):R2:=λx y H Q=>∃p xs i v,x=.ref p/\y=.int i/\XZ K H p xs/\qL xs i=some v/\Q v H
def VJ(K:bL):R2:=λx y H Q=>∃p xs i v,x=.ref p/\y=.int i/\Yu K H p xs/\qL xs i=some v/\Q v H
def VL:R2:=λx y H Q=>∃z i c,x=.str z/\y=.int i/\z.length<=sizeLine/\qL z.cps.toList i=some c/\Q (.str ⟨#[c]⟩) H
def Jg:S9 X (TL X.K):=by
 intro value slice pins s σ H x y v u Q I rx ry h hs;obtain⟨p,xs,i,z,rfl,rfl,hq,he,q⟩:=h;cases rx;obtain⟨t,rfl⟩:=ry;obtain⟨its,r,pl,hz⟩:=I.list hq;obtain⟨j,h1,h2,h3,h4,h5⟩:=z4 he;obtain⟨w,ew,Zx⟩:=r.get h2;have hl:=r.length;have hn:=rD;have fin:EP X pins σ Q w s:=⟨z,H,I,Zx,q⟩;by_cases h0:0<=i
 ·have hj:i.toNat=j:=by rw[Vd h0 h5]at h1;exact bG h1
  exact item_listR pl.isList h0 (by lia) (by rw[hj];simpa using ew) fin hs
 ·have hj:(i+(its.toArray.size:Int)).toNat=j:=by rw[SX (by lia) h4]at h1;rw[aD,<-hl];exact bG h1
  exact kJ (x:=w) pl.isList.typeIs slot_list_getitem.lookup (wpAny_getItem_list_neg (Q:=λr s'=>r=w/\EP X pins σ Q r s') pl.isList (by lia) (by rw[aD]<;>lia) (by lia) (by rw[hj];simpa using ew) ⟨rfl,fin⟩) hs
def RN:S9 X (VJ X.K):=by intro value slice pins s σ H x y v u Q I rx ry h hs;obtain⟨p,xs,i,z,rfl,rfl,hq,he,q⟩:=h;cases rx;obtain⟨t,rfl⟩:=ry;obtain⟨its,r,pl,hz⟩:=I.tuple hq;obtain⟨j,h1,h2,h3,h4,h5⟩:=z4 he;obtain⟨w,ew,Zx⟩:=r.get h2;have hl:=r.length;have hn:=rD;have fin:EP X pins σ Q w s:=⟨z,H,I,Zx,q⟩;exact kJ (x:=w) pl.typeIs slot_tuple_getitem.lookup (getItem_tuple (j:=j) (Q:=λr s'=>r=w/\EP X pins σ Q r s') pl (by lia) (by lia) (by rw[aD,<-hl];exact h1) (by simpa using ew) ⟨rfl,fin⟩) hs
def RO:S9 X VL:=by
 intro value slice pins s σ H x y v u Q I rx ry h hs;obtain⟨z,i,c,rfl,rfl,hz,he,q⟩:=h;obtain⟨t,rfl⟩:=rx;obtain⟨t',rfl⟩:=ry;obtain⟨j,h1,h2,h3,h4,h5⟩:=z4 he;have hl:z.cps.toList.length=z.length:=by simp[Str.length]
 rw[hl]at h1 h4 h5;have hn:=rD;exact tail_any (Xb s z t) slot_str_getitem.lookup (getItem_str (c:=c) (by have e1:decide (i< -(2 ^ 63:Int))=false:=ao (by lia);have e2:decide (i≥2 ^ 63)=false:=ao (by lia);rw[e1,e2,xD]) (by rw[h1];simpa using h2) ⟨.str ⟨#[c]⟩,H,I.tok _,⟨_,rfl⟩,q⟩) hs
def Hy(its:gC)(n j:Nat)(u:Value):Obj.mapSeq (·.setIfInBounds j u) {cls:=.type "list",data:=.seq its.toArray n}={cls:=.type "list",data:=.seq (its.set j u).toArray n}:=by simp[Obj.mapSeq]
def Inv.lst{p:Addr}(I:Inv X pins σ H s)(h:H p=some (.lst xs)):∃(its:gC)(n:Nat),Vals xs its/\s.heap.get? p=some {cls:=.type "list",data:=.seq its.toArray n}/\xs.length<=sizeLine:=by obtain⟨z,its,n,r,e⟩:=I.XR p _ h;exact⟨its,n,r,e,z⟩
def Inv.zDP{p:Addr}{its its':gC}{f:Obj->Obj}(I:Inv X pins σ H s)(h:H p=some (.lst xs))(ho:s.heap.get? p=some {cls:=.type "list",data:=.seq its.toArray n})(hf:f {cls:=.type "list",data:=.seq its.toArray n}={cls:=.type "list",data:=.seq its'.toArray n'})(r:Vals ys its')(hz:ys.length<=sizeLine)(t:Nat):Inv X pins σ (c6 H p<|.lst ys) {s with heap:=s.heap.update p f,toks:=t}:=by
 have e:(s.heap.update p f).get? p=some {cls:=.type "list",data:=.seq its'.toArray n'}:=by rw[Heap.get?_update_self f ho<|by rw[hf]<;>rfl,hf]
 refine I.write (x:=p) (e:=p) (by rw[h];trivial) (.inl rfl) (λb u hb q=>(Heap.get?_update_other _ _<|dU hb).trans q) ⟨_,e⟩ ?_;exact⟨hz,its',n',r,e⟩
def TH:V->V->V->Hp->(Hp->Prop)->Prop:=λo i v H Q=>∃p xs k j,o=.ref p/\i=.int k/\H p=some (.lst xs)/\Ji xs.length k=some j/\Q (c6 H p<|.lst<|xs.set j v)
def Fs:PU X TH:=by
 intro pins s σ H o i v ov iv u Q I ro ri rv h;obtain⟨p,xs,k,j,rfl,rfl,hp,hj,q⟩:=h;cases ro;obtain⟨t,rfl⟩:=ri;obtain⟨its,n,r,ho,hz⟩:=I.lst hp;obtain⟨h1,h2,h3,h4⟩:=Jh hj;have hl:=r.length;have hn:=rD;have I':Inv X pins σ (c6 H p<|.lst<|xs.set j v) {s with heap:=s.heap.update p (Obj.mapSeq (·.setIfInBounds j u))}:=I.zDP hp ho (Hy its n j u) (r.set rv j) (by rw[bx];exact hz) s.toks;by_cases h0:0<=k
 ·have hk:k.toNat=j:=by rw[Vd h0 h4]at h1;exact bG h1
  exact PySem.W.ki_setAt ho h0 (by lia) (by rw[aD,<-hl];exact h4)<|by rw[hk];exact⟨_,I',q⟩
 ·have hk:(k+(its.toArray.size:Int)).toNat=j:=by rw[SX (by lia) h3]at h1;rw[aD,<-hl];exact bG h1
  exact PySem.W.ki_setBack ho (by lia) (by rw[aD,<-hl];exact h3) (by lia)<|by rw[hk];exact⟨_,I',q⟩
def DL(lo hi:Option Int)(n:Nat):(sliceBounds lo hi none n).1=((HT.XS n 0 lo:Nat):Int)/\(sliceBounds lo hi none n).2.1=((HT.XS n n hi:Nat):Int)/\(sliceBounds lo hi none n).2.2=1:=by
 refine⟨?_,?_,rfl⟩
 ·cases lo with
  |none=>simp[sliceBounds,HT.XS]
  |some i=>
   simp only[sliceBounds,HT.XS,Option.getD_none,show(1:Int)>0 by decide,Qz];by_cases h:i<0;·simp only[h,Qz]<;>lia
   ·simp only[h,KY]<;>lia
 ·cases hi with
  |none=>simp[sliceBounds,HT.XS]
  |some i=>
   simp only[sliceBounds,HT.XS,Option.getD_none,show(1:Int)>0 by decide,Qz];by_cases h:i<0;·simp only[h,Qz]<;>lia
   ·simp only[h,KY]<;>lia
def BO(its:gC)(lo hi:Option Int):slicePick its.toArray lo hi none=((its.drop<|HT.XS its.length 0 lo).take<|HT.XS its.length its.length hi-HT.XS its.length 0 lo).toArray:=by obtain⟨h1,h2,h3⟩:=DL lo hi its.toArray.size;unfold slicePick;rw[h1,h2,h3];simp only[sliceRange_one,pick_run,aD]<;>rfl
def VG(K:bL):V->Option Int->Option Int->Hp->VK->Prop:=λx lo hi H Q=>∃a xs,x=.ref a/\XZ K H a xs/\∀p,H p=none->Q (.ref p) (c6 H p<|.lst<|Gi xs lo hi)
def Oe:UJ X (VG X.K):=by intro pins s σ H x v vl vu lo hi sl Q I rx hs pl pu h;obtain⟨a,xs,rfl,hx,q⟩:=h;cases rx;obtain⟨its,r,ht,hz⟩:=I.list hx;have hlen:=r.length;refine⟨"list",_,slot_list_getitem.lookup,ht.isList.typeIs,?_⟩;refine wpAny_getItem_list_slice ht.isList hs pl pu .none (by simp) ?_ (by rw[aD]<;>lia);rw[BO,<-hlen];refine⟨.ref s.heap.objs.size,_,I.laid (t':=s.toks) (o:=.lst<|Gi xs lo hi) (λb ob q=>Heap.get?_push_of_some _ q) (aj _) ?_,rfl,q _<|I.XR.fresh<|aj _⟩;exact⟨aJ (xR xs lo hi) hz,_,0,(r.drop<|HT.XS xs.length 0 lo).take<|HT.XS xs.length xs.length hi-HT.XS xs.length 0 lo,Heap.get?_push_size _ rfl⟩
def wB:iK X (.builtin "len") (λxs H Q=>∃p ys,xs=[.ref p]/\(XZ X.K H p ys\/Yu X.K H p ys)/\Q (.int ys.length) H):=by
 intro pins s σ H xs us Q I r h;obtain⟨p,ys,rfl,hq,q⟩:=h;obtain⟨u,rfl,rx⟩:=jS r;cases rx;have hn:=rD;rcases hq with hq |hq;·obtain⟨its,r',pl,hz⟩:=I.list hq;have hlen:=r'.length;exact Calls.call_len_list pl.isList (by simp only[aD]<;>lia) ⟨.int ys.length,H,I.tok _,⟨s.toks+1,by rw[aD,hlen]⟩,q⟩
 ·obtain⟨its,r',pl,hz⟩:=I.tuple hq;have hlen:=r'.length;exact len_tuple pl (by simp only[aD]<;>lia) ⟨.int ys.length,H,I.tok _,⟨s.toks+1,by rw[aD,hlen]⟩,q⟩
def EA:iK X (.builtin "len") (λxs H Q=>∃z,xs=[.str z]/\z.length<=sizeLine/\Q (.int z.length) H):=by intro pins s σ H xs us Q I r h;obtain⟨z,rfl,hz,q⟩:=h;obtain⟨u,rfl,t,rfl⟩:=jS r;have hn:=rD;exact len_str (by lia) ⟨.int z.length,H,I.tok _,⟨_,rfl⟩,q⟩
def Ez:iK X (.type "list") (λxs H Q=>∃p ys,xs=[.ref p]/\(XZ X.K H p ys\/Yu X.K H p ys)/\∀l,H l=none->Q (.ref l) (c6 H l<|.lst ys)):=by
 intro pins s σ H xs us Q I r h;obtain⟨p,ys,rfl,hq,q⟩:=h;obtain⟨u,rfl,rx⟩:=jS r;cases rx;have fin:∀(its:gC),Vals ys its->ys.length<=sizeLine->∀(h':Heap)(c':Nat),(∀b o',s.heap.get? b=some o'->h'.get? b=some o')->h'.get? s.heap.objs.size=some {cls:=.type "list",dict:=none,data:=.seq its.toArray c',slots:=#[]}->EP X pins σ Q (.ref s.heap.objs.size) {s with heap:=h'}:=λits r' hz h' c' kp e=>⟨.ref s.heap.objs.size,_,I.laid (t':=s.toks) kp (aj _) (show XI X.prog X.w _ h' _ (.lst ys)from⟨hz,its,c',r',e⟩),rfl,q _<|I.XR.fresh<|aj _⟩;rcases hq with hq |hq;·obtain⟨its,r',pl,hz⟩:=I.list hq;have hlen:=r'.length;obtain⟨o,ho,hc,n,hd⟩:=pl.isList;exact call_list_seq p (.inl rfl) ho hc hd (λh' c' kp e=>fin its r' hz h' c' kp e)<|by simp only[aD]<;>lia
 ·obtain⟨its,r',pl,hz⟩:=I.tuple hq;have hlen:=r'.length;obtain⟨o,ho,hc,n,hd⟩:=pl;exact call_list_seq p (.inr rfl) ho hc hd (λh' c' kp e=>fin its r' hz h' c' kp e)<|by simp only[aD]<;>lia
def Cf:iK X (.type "tuple") (λxs H Q=>∃p ys,xs=[.ref p]/\((XZ X.K H p ys/\∀l,H l=none->Q (.ref l) (c6 H l<|.tup ys))\/(Yu X.K H p ys/\Q (.ref p) H))):=by
 intro pins s σ H xs us Q I r h;obtain⟨p,ys,rfl,h⟩:=h;obtain⟨u,rfl,rx⟩:=jS r;cases rx;rcases h with⟨hq,q⟩ |⟨hq,q⟩;·obtain⟨its,r',pl,hz⟩:=I.list hq;have hlen:=r'.length;refine call_tuple_list pl.isList (λh' kp=>?_) (by simp only[aD]<;>lia);have I1:Inv X pins σ H {s with heap:=h'}:=I.kept (t':=s.toks) kp;have I2:Inv X pins σ (c6 H h'.objs.size<|.tup ys) {s with heap:=h'.push {cls:=.type "tuple",data:=.seq its.toArray}}:=I1.laid (t':=s.toks) (λb o e=>Heap.get?_push_of_some _ e) (aj _) (show XI X.prog X.w _ _ _ (.tup ys)from⟨hz,its,r',IsTup.new _ _⟩);exact⟨.ref h'.objs.size,_,I2,rfl,q _<|I1.XR.fresh<|aj _⟩
 ·obtain⟨its,r',pl,hz⟩:=I.tuple hq;exact call_tuple_same pl ⟨.ref p,H,I,rfl,q⟩
def Vl(K:bL)(T:String)(x:V)(H:Hp):Prop:=match x with
 |.str _=>T="str"|.int _=>T="int"
 |.ref p=>(T="list"/\∃xs,XZ K H p xs)\/(T="tuple"/\∃o,K.lookup p=some o/\o.cls=.type "tuple"/\o.dict=none)\/(T="dict"/\((∃kvs,H p=some (.dK kvs))\/∃kvs,H p=some (.dT kvs)))\/(T="set"/\∃S n,H p=some (.set S n))|_=>False
def Lj(I:Inv X pins σ H s)(r:RelV x v)(ty:Vl X.K T x H):s.TypeIs v T/\∀a,v=.ref a->∃ob,s.heap.get? a=some ob/\ob.dict=none:=by
 cases x with
 |str z=>obtain⟨t,rfl⟩:=r;cases(show T="str"from ty);exact⟨Xb s z t,λ_ e=>nomatch e⟩
 |int i=>obtain⟨t,rfl⟩:=r;cases(show T="int"from ty);exact⟨typeIs_int s i t,λ_ e=>nomatch e⟩
 |ref p=>
  cases r;rcases ty with⟨rfl,xs,hq⟩ |⟨rfl,o,hk,hc,hd⟩ |⟨rfl,hk⟩ |⟨rfl,S,n,hk⟩;·obtain⟨its,_,pl,_⟩:=I.list hq;refine⟨pl.isList.typeIs,λa e=>?_⟩;cases e;obtain⟨o,n,e,c,hd,_⟩:=pl;exact⟨o,e,hd⟩
  ·refine⟨⟨o,I.Y9 p o hk,hc⟩,λa e=>?_⟩;cases e;exact⟨o,I.Y9 _ o hk,hd⟩
  ·have z:∃o,s.heap.get? p=some o/\o.ExactDict:=by
    rcases hk with⟨kvs,hk⟩ |⟨kvs,hk⟩;·obtain⟨_,_,_,_,o,_,_,e,ex,_⟩:=I.XR p _ hk;exact⟨o,e,ex⟩
    ·obtain⟨_,_,_,_,o,_,_,e,ex,_⟩:=I.XR p _ hk;exact⟨o,e,ex⟩
   obtain⟨o,e,ex⟩:=z;refine⟨⟨o,e,ex.1⟩,λa e2=>?_⟩;cases e2;exact⟨o,e,ex.2.1⟩
  ·obtain⟨o,_,_,_,e,ex,_⟩:=I.XR p _ hk;refine⟨⟨o,e,ex.1⟩,λa e2=>?_⟩;cases e2;exact⟨o,e,ex.2.1⟩
 |_=>exact False.elim ty
def Vy(K:bL)(T:String)(r:V->dW->Hp->VK->Prop)(to:TE):TE:=λσ H Q=>to σ H λx H1=>Vl K T x H1/\r x [] H1 Q
def W3(K:bL)(T:String)(r:V->dW->Hp->VK->Prop)(to:TE)(t:TA):TE:=λσ H Q=>to σ H λx H1=>Vl K T x H1/\t σ H1 λxs H2=>r x xs H2 Q
variable {id:String}{r:V->dW->Hp->VK->Prop}
def DZ{apos:Pos}{Xz:Pos}(pa:PlainAttrs T)(slot:Slot T name id)(hty:typeOf (.builtin id)=pure (.type "method_descriptor"))(hm:S8 X id r)(ho:PE X o to)(YC:attributeBase o name X.env (eval o X.env)=eval o X.env:=by rfl)(XN:(apos.endLine==Xz.line)=true:=by rfl):PE X (.Call (.Attribute o name apos) [] [] Xz) (Vy X.K T r to):=by intro pins s σ H Q I h;refine wpAny_Call_method0_late YC XN (dM (ho pins s σ H _ I h) λv s1 ⟨x,H1,I1,r1,ty,q1⟩=>?_);obtain⟨h1,h2⟩:=Lj I1 r1 ty;exact⟨T,id,pa,slot,hty,h1,h2,GQ rfl<|PySem.evalArgs_none<|hm pins s1 σ H1 x [] v [] Q I1 r1 .nil q1⟩
def vt{apos:Pos}(pa:PlainAttrs T)(slot:Slot T name id)(hty:typeOf (.builtin id)=pure (.type "method_descriptor"))(hm:S8 X id r)(ho:PE X o to)(ha:PA X (e::es) t)(YC:attributeBase o name X.env (eval o X.env)=eval o X.env:=by rfl)(YA:((backTo Xz<|starEach (e::es) X.env).all (λx=>!x.1)&&(backToKw Xz<|keywordEach [] X.env).all (λx=>x.1.isSome)&&decide ((e::es).length+([]:List Keyword).length+(if([]:List Keyword).isEmpty then 0 else 1)<30))=true:=by rfl)(XN:(apos.endLine==Xz.line)=true:=by rfl)(hs:DA e es X.env:=by rfl)(zAL:uL Xz es X.env:=by rfl):PE X (.Call (.Attribute o name apos) (e::es) [] Xz) (W3 X.K T r to t):=by intro pins s σ H Q I h;refine wpAny_Call_method_late YC YA XN rfl (dM (ho pins s σ H _ I h) λv s1 ⟨x,H1,I1,r1,ty,q1⟩=>?_);obtain⟨h1,h2⟩:=Lj I1 r1 ty;refine⟨T,id,pa,slot,hty,h1,h2,?_⟩;have hA:=ha Xz pins s1 σ H1 _ I1 q1;rw[hs]at hA ⊢;refine GQ (by show(false||(backTo Xz<|starEach es X.env).any (·.1))=false;rw[zAL]<;>rfl)<|Calls.evalArgs_plain ?_;exact dM hA λus s2 ⟨vs,H2,I2,r2,q2⟩=>hm pins s2 σ H2 x vs v us Q I2 r1 r2 q2
end
def Wn(X:Cx)(id:String)(r:V->dW->Hp->VK->Prop):Prop:=∀(pins:gQ)(s:Shared)(σ:St)(H:Hp)(x:V)(xs:dW)(v:Value)(us:gC)(Q:VK),Inv X pins σ H s->RelV x v->Vals xs us->r x xs H Q->fh X (call (.builtin id)<|v::us) (EP X pins σ Q) X.xe s
def Vals.one:∀{x:V}{us:gC},Vals [x] us->∃u,us=[u]/\RelV x u|_,_,.cons r .nil=>⟨_,rfl,r⟩
def Vals.zero:∀{us:gC},Vals [] us->us=[]|_,.nil=>rfl
def Vals.dropLast(h:Vals xs us):Vals xs.dropLast us.dropLast:=by induction h with|nil=>exact .nil|cons r t ih=>cases t with|nil=>exact .nil|cons q t'=>exact .cons r ih
def Vals.reverse(h:Vals xs us):Vals xs.reverse us.reverse:=by induction h with|nil=>exact .nil|cons r t ih=>rw[jk,jk];exact Vals.append ih<|.cons r .nil
def Vals.rep(h:Vals xs us):∀k:Nat,Vals (List.replicate k xs).flatten (List.replicate k us).flatten|0=>.nil|k+1=>by rw[bg,bg,fg,fg];exact Vals.append h<|Vals.rep h k
def HP{α:Type}(l:List α):l.eraseIdx (l.length-1)=l.dropLast:=by
 induction l with
 |nil=>rfl
 |cons a r ih=>
  cases r with
  |nil=>rfl
  |cons b r=>
   have e:(a::b::r).length-1=((b::r).length-1)+1:=by have h1:(a::b::r).length=r.length+2:=rfl;have h2:(b::r).length=r.length+1:=rfl;lia
   rw[e,List.eraseIdx_cons_succ,ih];all_goals rfl
def Df(its:gC):∀(k:Nat)(acc:gC),List.foldl (λx1 x2=>x1++x2) acc.toArray (List.replicate k its.toArray)=(acc++(List.replicate k its).flatten).toArray
 |0,acc=>by simp
 |k+1,acc=>by
  have e:acc.toArray++its.toArray=(acc++its).toArray:=by simp
  have e2:(acc++its)++(List.replicate k its).flatten=acc++(List.replicate (k+1) its).flatten:=by rw[bg,fg,az]
  rw[<-e2,<-Df its k (acc++its),<-e,bg,dB]
def Inv.zDQ{its its':gC}{t':Nat}{l:Addr}{f:Array Value->Array Value}(I:Inv X pins σ H s)(hH:H l=some (.lst xs))(e:s.heap.get? l=some {cls:=.type "list",data:=.seq its.toArray n})(hf:f its.toArray=its'.toArray)(hv:Vals ys its')(hz:ys.length<=sizeLine):Inv X pins σ (c6 H l<|.lst ys) {s with heap:=s.heap.update l<|Obj.mapSeq f,toks:=t'}:=by have q:=PySem.IsL.update e f;rw[hf]at q;refine I.write (x:=l) (e:=l) (by rw[hH];exact trivial) (.inl rfl) (λb' u hb hu=>(Heap.get?_update_other s.heap (Obj.mapSeq f)<|dU hb).trans hu) ⟨_,q⟩ ?_;exact⟨hz,its',_,hv,q⟩
def Inv.zDR{t':Nat}(I:Inv X pins σ H s)(hv:Vals ys its)(hz:ys.length<=sizeLine):Inv X pins σ (c6 H s.heap.objs.size<|.lst ys) {s with heap:=s.heap.push {cls:=.type "list",data:=.seq its.toArray},toks:=t'}:=I.laid (λ_ _ q=>Heap.get?_push_of_some _ q) (aj _) ⟨hz,its,0,hv,Heap.get?_push_size _ rfl⟩
def Inv.fresh(I:Inv X pins σ H s):H s.heap.objs.size=none:=I.XR.fresh<|aj _
def Inv.zAJ{l:Addr}(I:Inv X pins σ H s)(hH:H l=some (.lst xs)):xs.length<=sizeLine/\∃(its:gC)(n:Nat),Vals xs its/\xs.length=its.length/\s.heap.get? l=some {cls:=.type "list",data:=.seq its.toArray n}:=by obtain⟨z,its,n,r,e⟩:=I.XR l _ hH;exact⟨z,its,n,r,r.length,e⟩
def FF{n:Nat}(h:n<=sizeLine):Builtin.List.listTooLong n=false:=by unfold Builtin.List.listTooLong;exact ao<|by lia
def Ou:V->dW->Hp->VK->Prop:=λx vs H Q=>∃l xs y,x=.ref l/\vs=[y]/\H l=some (.lst xs)/\xs.length<sizeLine/\Q .XY (c6 H l<|.lst<|xs++[y])
def oH:Wn X "list.append" Ou:=by intro pins s σ H x vs v us Q I rx rv h;obtain⟨l,xs,y,rfl,rfl,hH,hz,q⟩:=h;cases rx;obtain⟨u,rfl,ru⟩:=rv.one;obtain⟨z,its,n,r,hl,e⟩:=I.zAJ hH;refine GK F.slot_list_append ⟨_,e,rfl⟩ F.entry_list_append (F.args_list_append_2 _ _) (PySem.list_append l its.toArray n u<|by rw[aD];lia) ⟨e,?_⟩;refine⟨.XY,_,I.zDQ (its':=its++[u]) hH e (by simp) (r.append<|.cons ru .nil) ?_,rfl,q⟩;rw[ac,bO];lia
def Ot:V->dW->Hp->VK->Prop:=λx vs H Q=>∃l b xs zs,x=.ref l/\vs=[.ref b]/\H l=some (.lst xs)/\H b=some (.lst zs)/\xs.length+zs.length<=sizeLine/\Q .XY (c6 H l<|.lst<|xs++zs)
def C9:Wn X "list.extend" Ot:=by
 intro pins s σ H x vs v us Q I rx rv h;obtain⟨l,b,xs,zs,rfl,rfl,hH,hB,hz,q⟩:=h;cases rx;obtain⟨u,rfl,ru⟩:=rv.one;cases ru;obtain⟨z,its,n,r,hl,e⟩:=I.zAJ hH;obtain⟨z2,zAA,n2,r2,hl2,e2⟩:=I.zAJ hB;have hsz:its.toArray.size+zAA.toArray.size<=sizeLine:=by rw[aD,aD];lia
 have zBX:¬(!its.toArray.isEmpty&&Builtin.List.listTooLong (its.toArray.size+zAA.toArray.size))=true:=by rw[FF hsz,S1];exact aC
 refine GK F.slot_list_extend ⟨_,e,rfl⟩ F.entry_list_extend (F.args_list_extend_2 _ _) (AutoSeq1.list_extend_list_list_0 l its.toArray n b zAA.toArray n2 zBX (by rw[aD];lia)<|by lia) ⟨e,e2,?_⟩;refine⟨.XY,_,I.zDQ (its':=its++zAA) hH e (by simp) (r.append r2) ?_,rfl,q⟩;rw[ac];lia
def VI:V->dW->Hp->VK->Prop:=λx vs H Q=>∃l xs y,x=.ref l/\vs=[]/\H l=some (.lst xs)/\xs[xs.length-1]?=some y/\Q y (c6 H l<|.lst xs.dropLast)
def Hu:Wn X "list.pop" VI:=by
 intro pins s σ H x vs v us Q I rx rv h;obtain⟨l,xs,y,rfl,rfl,hH,hy,q⟩:=h;cases rx;have hus:=rv.zero;subst hus;obtain⟨z,its,n,r,hl,e⟩:=I.zAJ hH;obtain⟨u,hu,ru⟩:=r.get hy;have hy':its.toArray[its.toArray.size-1]?=some u:=by show its.toArray[its.length-1]?=some u;rw[<-Array.getElem?_toList,<-hl];exact hu
 refine GK F.slot_list_pop ⟨_,e,rfl⟩ F.entry_list_pop (F.args_list_pop_1 _) (MeetsSeq.list_pop_last l its.toArray n u hy'<|by rw[aD];lia) ⟨e,?_⟩;refine⟨y,_,I.zDQ (its':=its.dropLast) hH e ?_ r.dropLast ?_,ru,q⟩;·show its.toArray.eraseIdxIfInBounds (its.toArray.size-1)=its.dropLast.toArray;rw[aD,List.eraseIdxIfInBounds_toArray,HP]
 ·rw[List.length_dropLast];lia
def VM:R2:=λx y H Q=>∃l b xs zs,x=.ref l/\y=.ref b/\H l=some (.lst xs)/\H b=some (.lst zs)/\xs.length+zs.length<=sizeLine/\∀p,H p=none->Q (.ref p) (c6 H p<|.lst<|xs++zs)
def Ro:pQ X (binaryOp .Add) VM:=by
 intro pins s σ H x y v u Q I rx ry h;obtain⟨l,b,xs,zs,rfl,rfl,hH,hB,hz,q⟩:=h;cases rx;cases ry;obtain⟨z,its,n,r,hl,e⟩:=I.zAJ hH;obtain⟨z2,zAA,n2,r2,hl2,e2⟩:=I.zAJ hB;refine PySem.P.add_list e e2 ?_ (by rw[aD,aD];lia);have ea:its.toArray++zAA.toArray=(its++zAA).toArray:=by simp
 rw[ea];exact⟨.ref _,_,I.zDR (t':=s.toks) (r.append r2)<|by rw[ac];lia,rfl,q _ I.fresh⟩
def VH:R2:=λx y H Q=>∃l k xs,x=.ref l/\y=.int k/\H l=some (.lst xs)/\-(2 ^ 63)<=k/\k<2 ^ 63/\xs.length*k.toNat<=sizeLine/\∀p,H p=none->Q (.ref p) (c6 H p<|.lst (List.replicate k.toNat xs).flatten)
def OT{α:Type}(xs:List α)(k:Nat):(List.replicate k xs).flatten.length=k*xs.length:=by induction k with|zero=>simp|succ k ih=>rw[bg,fg,ac,ih,BG,Nat.add_comm]
def Rk:pQ X (binaryOp .Mult) VH:=by
 intro pins s σ H x y v u Q I rx ry h;obtain⟨l,k,xs,rfl,rfl,hH,h1,h2,hz,q⟩:=h;cases rx;obtain⟨t,rfl⟩:=ry;obtain⟨z,its,n,r,hl,e⟩:=I.zAJ hH;have hlen:its.toArray.size*k.toNat<=sizeLine:=by rw[aD,<-hl];exact hz
 have zIQ:¬its.toArray.size*k.toNat>(2 ^ 63-1) / 8:=by
  have:(sizeLine:Nat)<=(2 ^ 63-1) / 8:=by decide
  lia
 have zII:¬(!Builtin.List.listFitsIndex k)=true:=by rw[fitsIndex_both h1 h2];exact aC
 have zBX:¬Builtin.List.listTooLong (its.toArray.size*k.toNat)=true:=by rw[FF hlen];exact aC
 have zIB:List.foldl (λx1 x2=>x1++x2) #[] (List.replicate (if its.toArray.isEmpty=true then 0 else k.toNat) its.toArray)=(List.replicate k.toNat its).flatten.toArray:=by
  have f0:∀m:Nat,List.foldl (λx1 x2=>x1++x2) #[] (List.replicate m its.toArray)=(List.replicate m its).flatten.toArray:=λm=>by have:=Df its m [];rw[List.nil_append]at this;exact this
  rw[f0];cases its with|nil=>simp|cons a r'=>rw[ak<|by simp]
 refine wpAny_binaryOp_repeat_ref (T:="list") (U:="int") (by decide) ⟨_,e,rfl⟩ (λs'=>typeIs_int s' k t) noFill_list_mul F.fills_int_mul F.slot_int_rmul repeat_list F.slot_int_index.lookup<|GK F.slot_int_rmul (typeIs_int s k t) F.entry_int_rmul (F.args_int_rmul_2 _ _) (int___rmul___int_list k t l its.toArray n) ⟨e,rfl,⟨_,e,rfl⟩,GK F.slot_list_mul ⟨_,e,rfl⟩ F.entry_list_mul (F.args_list_mul_2 _ _) (AutoListH.list___mul___list_int_3 l its.toArray n k t zII zIQ zBX) ⟨e,?_⟩⟩;rw[zIB];exact⟨.ref _,_,I.zDR (t':=s.toks) (r.rep k.toNat)<|by rw[OT,Nat.mul_comm];exact hz,rfl,q _ I.fresh⟩
end L2
namespace Att
open PySem PySem.W PySem.Calls PyProof.Rows
variable {K:bL}
def yk{P:Params}:∀(ns:be)(vs:gC),WellAll P h vs (ns.map WData.int)->IntsAre vs ns:=by
 intro ns;induction ns with
 |nil=>intro vs w;rw[K1]at w;cases w;exact .nil
 |cons n ns ih=>intro vs w;rw[aH]at w;cases w with|cons a b=>cases a;exact .cons _ _<|ih _ b
def J6{l:OpenLaw}(hn:l.most=some n){P:Params}{args:List WData}(zCQ:l.row.toRowW.claim.pre args=true)(hwl:WellAll P h vals args):∃a vs ns,vals=[Value.ref a]/\args=[WData.list<|ns.map WData.int]/\h.get? a=some {cls:=.type "list",data:=.seq vs.toArray}/\IntsAre vs ns/\ns.length<=n:=by
 have hsh:WShape.hasAll [] args [.list .int]=true:=(pre_splitW zCQ).1;have hc:l.pre.holds [] {args:=args}=true:=(pre_splitW zCQ).2;obtain⟨d,r,rfl,h1,h2⟩:=hasAllW_cons hsh;obtain rfl:=hasAllW_nil h2;obtain⟨xs,rfl,h3⟩:=hasW_list h1;obtain⟨ns,rfl⟩:=items_int h3;have hlen:ns.length<=n:=by
  unfold OpenLaw.pre at hc;have h4:(WTm.not<|.lt (.lit<|.int (n:Int))<|.len<|.arg 0).holds [] {args:=[.list<|ns.map .int]}=true:=by have h4:=(holds_andW hc).1;rw[hn]at h4;exact h4
  have h5:=condW_of h4<|w_not<|w_lt w_lit<|w_len_list<|w_arg rfl;rw[ae]at h5;refine Nat.le_of_not_lt λq=>?_;have q':(n:Int)<((ns.length:Nat):Int):=by lia
  first
   |(rw[aF q']at h5;exact absurd h5<|by decide)|(simp at h5;lia)
 cases hwl with|cons w1 w2=>cases w2;cases w1 with|list ho zD4=>exact⟨_,_,ns,rfl,rfl,ho,yk ns _ zD4,hlen⟩
def Kc(l:OpenLaw)(args:List WData):l.row.toRowW.claim.post args (.bool true) args=true:=postW_of (r:=l.row.toRowW) (X:=(true==true)) (show WShape.has [] (.bool true) .bool=true by first |rfl |decide |simp[WShape.has,WShape.arms,WShape.armsAll]) (show(WTm.eq .res<|.lit<|.bool true).value [] {args:=args,res:=some<|.bool true,after:=args}=some (.bool<|true==true)from w_eq_bool (w_res rfl) w_lit) rfl
def zAD{l:OpenLaw}{XP:(Str->Option Value)->Heap->Prop}{YP:World->Heap->Prop}{d:DefRec}(hn:l.most=some n)(hdf:d.params.defaults=[])(call:∀(w:World)(s₀ s₁:Shared)(mg mb:xX)(fa:Addr)(o:Obj)(pm cd doc:Value)(a:Addr)(vs:gC)(ns:be),Ground q loose [] XP w s₀ mg mb s₁.heap->YP w s₁.heap->s₁.heap.get? fa=some o->o.data=.func (docDef d.name d.params d.body d.scope pm cd doc)->s₁.heap.CodeRec cd d.name->mg d.name=some (.ref fa)->s₁.heap.get? a=some {cls:=.type "list",data:=.seq vs.toArray}->IntsAre vs ns->ns.length<=n->s₁.gens=#[]->codeAny (model l.prog w) callerA (.call (.ref fa) ⟨[.ref a],[]⟩) (λr s'=>r=.ok (.ret<|.bool true)/\OldK s₁.heap s'.heap/\s'.os=s₁.os/\AllBare s'.gens) s₁):WalkO q loose XP YP l.row.toRowW d [] (λf vs=>PySem.call f vs):=by intro w s₀ s₁ mg mb G Y fa o pm cd doc dV kV ho hd hcd hD hmg hg args vals as zCQ zP7 hrd hwl hlo;obtain rfl:dV=.none:=Dflts.none hD hdf;obtain rfl:kV=.none:=Dflts.noKw hD;obtain⟨a,vs,ns,rfl,rfl,zDU,hints,hlen⟩:=J6 hn zCQ hwl;refine enter_call (SY (call w s₀ s₁ mg mb fa o pm cd doc a vs ns G Y ho (fd_plain hd) hcd hmg zDU hints hlen hg) λr s' hq=>?_);obtain⟨rfl,h2,h3,h4⟩:=hq;exact⟨.inl ⟨.bool true,.bool true,[],rfl,λ_=>rfl,.bool true,Kc l _,λ_=>⟨List.Pairwise.nil,λ_ hm=>(nomatch hm)⟩⟩,h2,h3,h4⟩
section
variable {K:Frag}
def VT(h:Heap)(L d:Addr):gQ:=(List.range h.objs.size).filterMap λa=>if a=L\/a=d then none else(h.get? a).map λo=>(a,o)
end
end Att
namespace L2
open PySem PySem.Spec PyProof.Rows
variable {K:bL}
def CJ:∀{vs:gC}{ns:be},IntsAre vs ns->Vals (ns.map V.int) vs|_,_,.nil=>.nil|_,_,.cons n t h=>.cons ⟨t,rfl⟩<|CJ h
def SM(H:Hp):Prop:=∀b,H b=none\/∃o xs,H b=some (.YR o<|.lst xs)
def Mx{K:bL}{a:Addr}{x:Str}{s₁:Shared}{vs:gC}(KX:K.In s₁.heap)(hns:s₁.heap.Ns mainGlobals mg)(hb:s₁.heap.Ns builtinsNs mb)(hbb:∀x:Str,x≠"__name__"->mb x=bootBuiltins x)(zIC:s₁.heap.NoLimit)(zAX:s₁.heap.NoSeer)(hg:s₁.gens=#[])(ha:s₁.heap.get? a=some {cls:=.type "list",data:=.seq vs.toArray})(hi:IntsAre vs ns)(hl:ns.length<=sizeLine)(hr:X6 k callerA)(F:∀base:Heap,K.In base->base.Ns mainGlobals mg->fj P w K mg base CX k fa fd [x] sp)(zFX:∀(s:Shared)(u:Value),BindsTo s fd ⟨[u],[]⟩ [(x,u)])(hsp:∀H:Hp,SM H->XZ K H a (ns.map V.int)->sp [.ref a] H (λv _=>v=.bl true) λ_ _ _=>False)(hCX:∀H e s',CX [] H s₁ (λ_ _ _=>False) e s'->False):
  codeAny (model P w) callerA (.call (.ref fa) ⟨[.ref a],[]⟩) (λr s'=>r=.ok (.ret<|.bool true)/\OldK s₁.heap s'.heap/\s'.os=s₁.os/\AllBare s'.gens) s₁:=by
 have rv:=CJ hi
 have zHT:=hi.length
 have core:∀H:Hp,SM H->XZ K H a (ns.map V.int)->ZD P w H s₁.heap->(∀b,H b≠none->b=a)->(H a≠none->K.lookup a=none)->
   codeAny (model P w) callerA (.call (.ref fa) ⟨[.ref a],[]⟩) (λr s'=>r=.ok (.ret<|.bool true)/\OldK s₁.heap s'.heap/\s'.os=s₁.os/\AllBare s'.gens) s₁:=by
  intro H hO hS XR hA hK
  have Z0:∀{b:Addr}{o:Obj},s₁.heap.get? b=some o->H b=none->(Ca s₁.heap H).get? b=some o:=λe n=>MD e n
  have noA:∀{b:Addr}{o:Obj}{es:Array DictEntry}{ep:Nat},s₁.heap.get? b=some o->o.data=.dict es ep->H b=none:=λ{b o es ep}e d=>by
   cases q:H b with
   |none=>rfl
   |some u=>
    have e':b=a:=hA b<|by rw[q];simp
    subst e'
    rw[ha]at e;cases e
    have d':Data.seq vs.toArray _=Data.dict es ep:=d
    cases d'
  have nsK:∀{b:Addr}{m:xX},s₁.heap.Ns b m->(Ca s₁.heap H).Ns b m:=λ{b m} ⟨o,es,ep,e,d,r⟩=>⟨o,es,ep,Z0 e<|noA e d,d,r⟩
  have hKb:K.In (Ca s₁.heap H):=λb o e=>Z0 (KX b o e) (by
   cases q:H b with
   |none=>rfl
   |some u=>
    have e':b=a:=hA b<|by rw[q];simp
    subst e'
    rw[hK (by rw[q];simp)]at e;cases e)
  have zF1:(Ca s₁.heap H).NoSeer:={
   statics:=let⟨mc,a1,b1⟩:=zAX.statics;⟨mc,nsK a1,b1⟩
   mods:=let⟨mc,a1,b1⟩:=zAX.mods;⟨mc,nsK a1,b1⟩
   imp:=let⟨mc,a1,b1⟩:=zAX.imp;⟨mc,nsK a1,b1⟩
   main:=let⟨YQ,bm,ob,a1,b1,c1,d1,e1⟩:=zAX.main;⟨YQ,bm,ob,nsK a1,b1,Z0 c1 (by
    cases q:H bm with
    |none=>rfl
    |some u=>
     have e':bm=a:=hA bm<|by rw[q];simp
     subst e'
     rw[ha]at c1;cases c1
     injection d1 with d2
     exact absurd d2 (by decide)),d1,e1⟩}
  have hM:Mod K mg (Ca s₁.heap H):=⟨hKb,nsK hns,⟨mb,nsK hb,hbb⟩,let⟨mc,h1,h2⟩:=zIC;⟨mc,nsK h1,h2⟩,zF1⟩
  have e0:zAR P w K mg (Ca s₁.heap H) callerA [] s₁ H:=⟨rfl,hM,λb o e=>OO e,gt<|Kt _ _,trivial,λb hb=>absurd (show b∈([]:List Addr)from hb)<|by simp,XR,.of_eq hg⟩
  refine SY ((F _ hKb<|nsK hns).run callerA [] s₁ H ⟨[.ref a],[]⟩ [.ref a] [.ref a] _ _ hr e0 (zFX s₁<|.ref a) (.cons rfl .nil)<|hsp H hO hS) λr s' h=>?_
  cases r with
  |error e=>exact(hCX H e s' h).elim
  |ok fl=>
   cases fl with
   |next=>exact False.elim h
   |brk=>exact False.elim h
   |cont=>exact False.elim h
   |ret u=>
    obtain⟨v,H',os,bare,un,zH7,r',q⟩:=h
    have q':v=.bl true:=q
    subst q'
    obtain rfl:u=Value.bool true:=r'
    refine⟨rfl,OldK.of_keep λb o e=>?_,os,bare⟩
    cases q:H b with
    |none=>exact un.keep b o e q (by intro z;exact absurd (show b∈([]:List Addr)from z)<|by simp)<|by simp
    |some u=>
     rcases hO b with z |⟨ob,xs,z⟩
     ·rw[q]at z;cases z
     ·have z2:=un.Zr b ob _ z
      obtain⟨e1,_⟩:=XR b _ z
      obtain⟨e2,_⟩:=zH7 b _ z2
      rw[e]at e1;cases e1
      exact e2
 cases hk:K.lookup a with
 |some o=>
  have e:=KX a o hk
  rw[ha]at e
  cases e
  refine core (λ_=>none) (λ_=>.inl rfl) (.inr ⟨_,vs.toArray,_,hk,rfl,rfl,rfl,by rw[aD,zHT];exact hl,by simpa using rv⟩) (λb u z=>by have z':(none:Option HO)=some u:=z;cases z') (λb z=>absurd rfl z) λz=>absurd rfl z
 |none=>
  refine core (λb=>if b=a then some (.YR {cls:=.type "list",data:=.seq vs.toArray}<|.lst<|ns.map V.int)else none) (λb=>?_) (.inl<|.inr ⟨{cls:=.type "list",data:=.seq vs.toArray},ar rfl⟩) (λb u z=>?_) (λb z=>?_) λ_=>hk
  ·by_cases hb:b=a
   ·exact .inr ⟨_,_,ar hb⟩
   ·exact .inl<|ak hb
  ·by_cases hb:b=a
   ·have z':=(ar hb).symm.trans z
    cases z'
    subst hb
    exact⟨ha,by rw[ae];exact hl,vs,_,rv,ha⟩
   ·have z':=(ak hb).symm.trans z
    cases z'
  ·by_cases hb:b=a
   ·exact hb
   ·exact absurd (ak hb) z
def zCH{q:Program}{l:PySem.W.OpenLaw}{XP:(Str->Option Value)->Heap->Prop}{YP:World->Heap->Prop}{d:DefRec}{K:Params->bL}{CX:World->Tc}{sp:World->Sp}(hq:importsNone q=true)(hn:l.most=some n)(hn2:n<=sizeLine)(hdf:d.params.defaults=[])(hr:X6 k callerA)(hY:∀(w:World)(h:Heap),YP w h->(K w.params).In h)(F:∀(w:World)(mg:xX)(fa:Addr)(h:Heap),(K w.params).In h->h.Ns mainGlobals mg->mg d.name=some (.ref fa)->∃fd:FuncData,(∀(s:Shared)(u:Value),BindsTo s fd ⟨[u],[]⟩ [(x,u)])/\∀base:Heap,(K w.params).In base->base.Ns mainGlobals mg->fj l.prog w (K w.params) mg base (CX w) k fa fd [x] (sp w))(hsp:∀(w:World)(H:Hp)(a:Addr)(ns:be),ns.length<=n->SM H->XZ (K w.params) H a (ns.map V.int)->sp w [.ref a] H (λv _=>v=.bl true) λ_ _ _=>False)(hCX:∀(w:World)(H:Hp)(s:Shared)(e:Value)(s':Shared),CX w [] H s (λ_ _ _=>False) e s'->False):PySem.W.WalkO q loose XP YP l.row.toRowW d [] (λf vs=>PySem.call f vs):=by refine Att.zAD hn hdf λw s₀ s₁ mg mb fa o pm cd doc a vs ns G Y ho hd hcd hmg zDU hints hlen hg=>?_;have KX:=hY w _ Y;obtain⟨fd,hb,hF⟩:=F w mg fa _ KX G.T.g hmg;exact Mx KX G.T.g G.T.b G.T.builtins G.T.nolimit (G.T.seer hq) hg zDU hints (aJ hlen hn2) hr hF hb (λH hO hS=>hsp w H a ns hlen hO hS) λH e s'=>hCX w H s₁ e s'
def i7(s:Stmt):Arguments:=match s with|.FunctionDef _ a _ _ _ _ _ _ _ _=>a|_=>{posonlyargs:=[],args:=[],vararg:=none,kwonlyargs:=[],kw_defaults:=[],kwarg:=none,defaults:=[]}
def bA(s:Stmt):List Stmt:=match s with|.FunctionDef _ _ b _ _ _ _ _ _ _=>b|_=>[]
def ah(s:Stmt):Scope:=match s with|.FunctionDef _ _ _ _ _ _ sc _ _ _=>sc|_=>{kind:=.function,names:=[],isGenerator:=false,isCoroutine:=false}
abbrev jq:Tc:=λ_ _ _ _ _ _=>False
abbrev E0:XK:=λ_ _ _=>False
def vv:i8 jq X E0:=λ_ _ _ _ _ _ _ h=>h.elim
structure Fun(K:bL)(x qual:Str)(st:Stmt)(f:Addr)(fd:FuncData):Prop where
 ex:∃(oc:Value)(od:Option Addr)(kV doc pm:Value)(an:Option Addr)(Yd ct:Value)(osl:Array (Option Value)),
  fd=PySem.W.fnOf x qual (i7 st) (bA st) (ah st) .none kV doc pm an Yd ct/\K.lookup f=some ⟨oc,od,.func fd,osl⟩/\PySem.W.codeIn K Yd qual=true
 kp:PySem.W.keepIn K (.ref f)=true
def Fun.ok{st:Stmt}{sp:Sp}(F:Fun K x qual st f fd)(S:aE N ps (ah st))(len:∀vs H Q E,sp vs H Q E->vs.length=ps.length)(zBZ:∀(Yd:Value)(A:Around)(outer:List Env)(s:Shared)(H:Hp)(vs:dW)(Q:VK)(E:XK),X6 k (A.deeper<|envOfC qual (ah st) s.heap.objs.size f Yd)->sp vs H Q E->∃t,PSs (wx jq P w K mg base N qual (ah st) f Yd A outer s H E).Z2 (bA st) t/\t {nx:=λ_ H'=>Q .XY H',rt:=Q} (start N vs) H):fj P w K mg base jq (k+1) f fd ps sp:=by obtain⟨oc,od,kV,doc,pm,an,Yd,ct,osl,rfl,lk,hcd⟩:=F.ex;refine Ul lk hcd S len λA outer s H vs Q E hr hsp=>?_;obtain⟨t,h,q⟩:=zBZ Yd A outer s H vs Q E hr hsp;exact⟨t,h.Z2,q⟩
def Fun.binds{st:Stmt}{ps:bM}(F:Fun K x qual st f fd)(h:∀(kV doc pm:Value)(an:Option Addr)(Yd ct:Value)(us:gC),us.length=ps.length->bindArgs (PySem.W.fnOf x qual (i7 st) (bA st) (ah st) .none kV doc pm an Yd ct) ⟨us,[]⟩=pure (ps.zip us)):Binds K fd ps []:=by obtain⟨oc,od,kV,doc,pm,an,Yd,ct,osl,rfl,lk,hcd⟩:=F.ex;exact .all<|h kV doc pm an Yd ct
def MF{x qual:Str}{st:Stmt}{f:Addr}{an:Option Addr}{kV doc pm Yd ct:Value}(l:K.lookup f=some ⟨oc,od,.func<|PySem.W.fnOf x qual (i7 st) (bA st) (ah st) .none kV doc pm an Yd ct,osl⟩)(c:PySem.W.codeIn K Yd qual=true)(k:PySem.W.keepIn K (.ref f)=true):Fun K x qual st f (PySem.W.fnOf x qual (i7 st) (bA st) (ah st) .none kV doc pm an Yd ct):=⟨⟨oc,od,kV,doc,pm,an,Yd,ct,osl,rfl,l,c⟩,k⟩
def pv{X:Cx}(i:Nat)(hN:X.N[i]?=some x:=by rfl)(hv:S5 X.env.scope x:=by first |exact Or.inl rfl |exact Or.inr (Or.inl rfl) |exact Or.inr<|Or.inr rfl)(hd:tH x:=by decide)(hcd:(x==("__classdict__":Str))=false:=by decide):PE X (.Name x pos) (QL i):=Ma hN hv hd hcd
def XC(H H':Hp):Prop:=∀b o,H b=some o->H' b=some o
def XC.refl(H:Hp):XC H H:=λ_ _ h=>h
def XC.trans(a:XC H H1)(b:XC H1 H2):XC H H2:=λc o h=>b c o<|a c o h
def XC.free{l:Addr}(e:XC H H')(h:H' l=Option.none):H l=Option.none:=by cases q:H l with|none=>rfl|some o=>rw[e l o q]at h;cases h
def XC.seq{K:bL}(e:XC H H')(h:XZ K H a xs):XZ K H' a xs:=by
 rcases h with(h |⟨o,h⟩) |h;·exact .inl<|.inl<|e _ _ h
 ·exact .inl<|.inr ⟨o,e _ _ h⟩
 ·exact .inr h
end L2
namespace L2.EV
open PySem PySem.Spec PyProof.Rows
variable {K:bL}
inductive D where
 |XY |bl (b:Bool) |int (i:Int) |str (x:Str) |tup (xs:List D) |lst (xs:List D) |Zf (ns:be) |exc (C:Addr) |exh (C ea:Addr) |XQ (kvs:List (be×Int)) |adr (p:Addr) |stt (q:Addr)
abbrev aU:=List D
def Qv(a C:Addr):Heap->Prop:=λh=>∃ob vs,h.get? a=some ob/\ob.cls=.ref C/\ob.data=.fields vs/\vs[2]?=some .none
def Ut(o:Obj)(xs:List (be×Addr×Int)):Prop:=o.ExactDict/\∃(es:Array DictEntry)(ep:Nat)(ys:List (be×Addr×Value)),o.data=.dict es ep/\(∀(P:Program)(w:World),es.toList=ys.map (entryOfKey<|tupleKind<|intKind P w))/\Paired (λ(x:be×Addr×Int)(y:be×Addr×Value)=>y.1=x.1/\y.2.1=x.2.1/\RelV (.int x.2.2) y.2.2) xs ys/\(ys.map (·.1)).Nodup
def eJ(a:Addr)(xs:List (be×Addr×Int)):Heap->Prop:=λh=>xs.length<=sizeLine/\(a==sysModules)=false/\∃o,h.get? a=some o/\Ut o xs
def Yv(F:Hp)(kvs:List (be×Int))(xs:List (be×Addr×Int)):Prop:=kvs=xs.map (λx=>(x.1,x.2.2))/\∀x∈xs,F x.2.1=some (.tup<|x.1.map V.int)
def Yv.mono{kvs:List (be×Int)}{xs:List (be×Addr×Int)}(h:XC F F')(r:Yv F kvs xs):Yv F' kvs xs:=⟨r.1,λx hx=>h _ _<|r.2 x hx⟩
mutual
inductive Rep(K:bL)(F:Hp):V->D->Prop where
 |XY:Rep K F .XY .XY
 |bl (b:Bool):Rep K F (.bl b) (.bl b)
 |int (i:Int):Rep K F (.int i) (.int i)
 |str (x:Str):Rep K F (.str x) (.str x)
 |tup {a:Addr} {vs:dW} {ds:aU}:F a=some (.tup vs)->Xv K F vs ds->Rep K F (.ref a) (.tup ds)
 |lst {a:Addr} {vs:dW} {ds:aU}:F a=some (.lst vs)->Xv K F vs ds->Rep K F (.ref a) (.lst ds)
 |Zf {a:Addr} {ns:be}:XZ K F a (ns.map V.int)->Rep K F (.ref a) (.Zf ns)
 |exc {a C:Addr} {ob:Obj}:F a=some (.YR ob<|.ext<|Qv a C)->Rep K F (.ref a) (.exc C)
 |exh {a C:Addr} {ob:Obj}:F a=some (.YR ob<|.ext<|Qv a C)->Rep K F (.ref a) (.exh C a)
 |XQ {a:Addr} {ob:Obj} {kvs:List (be×Int)} {xs:List (be×Addr×Int)}:F a=some (.YR ob<|.ext<|eJ a xs)->Yv F kvs xs->Rep K F (.ref a) (.XQ kvs)
 |adr (a:Addr):Rep K F (.ref a) (.adr a)
 |stt {a q:Addr}:F a=some (.dK [(Sum.inr "xs",.ref q)])->Rep K F (.ref a) (.stt q)
inductive Xv(K:bL)(F:Hp):dW->aU->Prop where
 |nil:Xv K F [] []
 |cons {v:V} {d:D} {vs:dW} {ds:aU}:Rep K F v d->Xv K F vs ds->Xv K F (v::vs) (d::ds)
end
mutual
def Rep.mono(h:XC F F'):∀{v:V}{d:D},Rep K F v d->Rep K F' v d
 |_,_,.XY=>.XY|_,_,.bl b=>.bl b
 |_,_,.int i=>.int i|_,_,.str x=>.str x
 |_,_,.tup e r=>.tup (h _ _ e) (Xv.mono h r)|_,_,.lst e r=>.lst (h _ _ e)<|Xv.mono h r
 |_,_,.Zf e=>.Zf (h.seq e)|_,_,.exc e=>.exc<|h _ _ e
 |_,_,.exh e=>.exh (h _ _ e)|_,_,.XQ e r=>.XQ (h _ _ e)<|r.mono h
 |_,_,.adr a=>.adr a|_,_,.stt e=>.stt<|h _ _ e
def Xv.mono(h:XC F F'):∀{vs:dW}{ds:aU},Xv K F vs ds->Xv K F' vs ds|_,_,.nil=>.nil|_,_,.cons r t=>.cons (Rep.mono h r)<|Xv.mono h t
end
def Xv.length:∀{vs:dW}{ds:aU},Xv K F vs ds->vs.length=ds.length|_,_,.nil=>rfl|_,_,.cons _ t=>aY Nat.succ<|Xv.length t
def Xv.get:∀{vs:dW}{ds:aU}{i:Nat}{d:D},Xv K F vs ds->ds[i]?=some d->∃v,vs[i]?=some v/\Rep K F v d
 |_,_,_,_,.nil,e=>by simp at e|_,_,0,_,.cons r _,e=>by simp at e;subst e;exact⟨_,rfl,r⟩
 |_,_,i+1,d,.cons _ t,e=>by obtain⟨v,h1,h2⟩:=Xv.get (i:=i) (d:=d) t (by simpa using e);exact⟨v,by simpa using h1,h2⟩
def Xv.append:∀{vs us:dW}{ds es:aU},Xv K F vs ds->Xv K F us es->Xv K F (vs++us) (ds++es)|_,_,_,_,.nil,s=>s|_,_,_,_,.cons r t,s=>.cons r<|Xv.append t s
def Xv.take:∀{vs:dW}{ds:aU}(n:Nat),Xv K F vs ds->Xv K F (vs.take n) (ds.take n)
 |_,_,0,_=>.nil|_,_,_+1,.nil=>.nil
 |_,_,n+1,.cons r t=>.cons r<|Xv.take n t
def Xv.drop:∀{vs:dW}{ds:aU}(n:Nat),Xv K F vs ds->Xv K F (vs.drop n) (ds.drop n)
 |_,_,0,r=>r|_,_,_+1,.nil=>.nil
 |_,_,n+1,.cons _ t=>Xv.drop n t
def Xv.set(r:Rep K F v d):∀{vs:dW}{ds:aU}(i:Nat),Xv K F vs ds->Xv K F (vs.set i v) (ds.set i d)
 |_,_,_,.nil=>.nil|_,_,0,.cons _ t=>.cons r t
 |_,_,i+1,.cons q t=>.cons q<|Xv.set r i t
def Xv.dropLast{ds:aU}(h:Xv K F vs ds):Xv K F vs.dropLast ds.dropLast:=by rw[WS,WS,h.length];exact h.take _
def Xv.reverse:∀{vs:dW}{ds:aU},Xv K F vs ds->Xv K F vs.reverse ds.reverse|_,_,.nil=>.nil|_,_,.cons r t=>by rw[jk,jk];exact Xv.append (Xv.reverse t)<|.cons r .nil
def Xv.rep{ds:aU}(h:Xv K F vs ds):∀k:Nat,Xv K F (List.replicate k vs).flatten (List.replicate k ds).flatten|0=>.nil|k+1=>by rw[bg,bg,fg,fg];exact Xv.append h<|Xv.rep h k
def Xv.ints:∀ns:be,Xv K F (ns.map V.int) (ns.map D.int)|[]=>.nil|n::ns=>.cons (.int n)<|Xv.ints ns
def Xv.YJ:∀{ns:be}{vs:dW},Xv K F vs (ns.map D.int)->vs=ns.map V.int
 |[],_,h=>by cases h;rfl
 |n::ns,_,h=>by cases h with|cons r t=>cases r;rw[aH,Xv.YJ t]
structure B0 where
 F:Hp
 H:Hp
structure Ext(B:B0)(F H:Hp):Prop where
 sub:XC F H
 sh:XC B.H H
 sf:XC B.F F
 nw:∀a,F a≠none->B.F a≠none\/B.H a=none
inductive Sl where
 |un |val (d:D) |own (xs:aU) |Ye (kvs:List (be×Int))
structure DOk(B:B0)(F H:Hp)(σ:St)(ρ:List Sl):Prop where
 Za:∀(i:Nat)kvs,ρ[i]?=some (.Ye kvs)->∃a es,σ[i]?=some (some<|.ref a)/\H a=some (.ext<|eJ a es)/\F a=none/\B.H a=none/\Yv F kvs es
 Y6:∀(i j:Nat)xs ys a,ρ[i]?=some (.Ye xs)->ρ[j]?=some (.Ye ys)->σ[i]?=some (some<|.ref a)->σ[j]?=some (some<|.ref a)->i=j
def DOk.to{H':Hp}{σ':St}{ρ ρ':List Sl}(k:DOk B F H σ ρ)(hF:XC F F')(hH:∀a φ,H a=some (.ext φ)->F a=none->B.H a=none->H' a=some (.ext φ)/\F' a=none)(hρ:∀(i:Nat)kvs,ρ'[i]?=some (.Ye kvs)->ρ[i]?=some (.Ye kvs)/\σ'[i]?=σ[i]?):DOk B F' H' σ' ρ':=by
 refine⟨λi kvs e=>?_,λi j xs ys a e1 e2 e3 e4=>?_⟩;·obtain⟨q,z⟩:=hρ i kvs e;obtain⟨a,es,h1,h2,h3,h4,h5⟩:=k.Za i kvs q;obtain⟨g1,g2⟩:=hH a _ h2 h3 h4;exact⟨a,es,z.trans h1,g1,g2,h4,h5.mono hF⟩
 ·obtain⟨q1,z1⟩:=hρ i xs e1;obtain⟨q2,z2⟩:=hρ j ys e2;exact k.Y6 i j xs ys a q1 q2 (z1▸e3)<|z2▸e4
def DO{σ:St}{ρ:List Sl}{v:Option V}{s:Sl}(hs:∀kvs,s≠.Ye kvs)(j:Nat)(kvs:List (be×Int))(h:(ρ.set i s)[j]?=some (.Ye kvs)):ρ[j]?=some (.Ye kvs)/\(σ.set i v)[j]?=σ[j]?:=by
 by_cases e:i=j
 ·subst e;rw[List.getElem?_set_self']at h;cases z:ρ[i]? with
  |none=>rw[z]at h;cases h
  |some w=>rw[z]at h;exact absurd (bG h)<|hs kvs
 ·rw[List.getElem?_set_ne e]at h ⊢;exact⟨h,rfl⟩
def Aj{σ:St}{ρ:List Sl}{s:Sl}(hs:∀kvs,s≠.Ye kvs)(j:Nat)(kvs:List (be×Int))(h:(ρ.set i s)[j]?=some (.Ye kvs)):ρ[j]?=some (.Ye kvs)/\σ[j]?=σ[j]?:=⟨(DO (σ:=[]) (v:=none) hs j kvs h).1,rfl⟩
structure Ok(K:bL)(B:B0)(F H:Hp)(σ:St)(ρ:List Sl):Prop extends Ext B F H where
 len:σ.length=ρ.length
 vals:∀(i:Nat)d,ρ[i]?=some (.val d)->∃v,σ[i]?=some (some v)/\Rep K F v d
 Yk:∀(i:Nat)xs,ρ[i]?=some (.own xs)->∃a vs,σ[i]?=some (some<|.ref a)/\H a=some (.lst vs)/\F a=none/\B.H a=none/\Xv K F vs xs
 dist:∀(i j:Nat)xs ys a,ρ[i]?=some (.own xs)->ρ[j]?=some (.own ys)->σ[i]?=some (some<|.ref a)->σ[j]?=some (some<|.ref a)->i=j
 XQ:DOk B F H σ ρ
def aR{H:Hp}{p:Addr}(h:H p=none):XC H (c6 H p o):=λb u q=>by rw[aK<|dR q h];exact q
def Fb(h:XC F H):XC (c6 F p o) (c6 H p o):=λb u q=>by
 by_cases hb:b=p;·subst hb;rw[aM]at q ⊢;exact q
 ·rw[aK hb]at q ⊢;exact h b u q
section
variable {K:bL}{ρ:List Sl}
def Ext.refl(h:XC F H):Ext ⟨F,H⟩ F H:=⟨h,.refl _,.refl _,λa q=>.inl q⟩
def Ext.trans(x:Ext B F H)(y:Ext ⟨F,H⟩ F' H'):Ext B F' H':=⟨y.sub,x.sh.trans y.sh,x.sf.trans y.sf,λa q=>by
  rcases y.nw a q with z |z;·exact x.nw a z
  ·exact .inr (x.sh.free z)⟩
def Ext.kf{a:Addr}(y:Ext B F' H')(h1:B.F a=none)(h2:B.H a=some o):F' a=none:=by
 cases q:F' a with
 |none=>rfl
 |some u=>
  rcases y.nw a (by rw[q];exactλz=>nomatch z)with z |z
  ·exact absurd h1 z
  ·exact nomatch h2.symm.trans z
def Ext.grow{p:Addr}(x:Ext B F H)(hp:H p=none):Ext B (c6 F p o) (c6 H p o):=⟨Fb x.sub,x.sh.trans<|aR hp,x.sf.trans<|aR<|x.sub.free hp,λa q=>by
  by_cases h:a=p;·subst h;exact .inr<|x.sh.free hp
  ·rw[aK h]at q;exact x.nw a q⟩
def Ok.ext(k:Ok K B F H σ ρ)(y:Ext ⟨F,H⟩ F' H'):Ok K B F' H' σ ρ:=by
 refine⟨k.toExt.trans y,k.len,λi d e=>?_,λi xs e=>?_,k.dist,k.XQ.to y.sf (λa φ e1 e2 e3=>⟨y.sh _ _ e1,?_⟩) λ_ _ e=>⟨e,rfl⟩⟩;rotate_left 2;·exact y.kf e2 e1
 ·obtain⟨v,h1,h2⟩:=k.vals i d e;exact⟨v,h1,h2.mono y.sf⟩
 ·obtain⟨a,vs,h1,h2,h3,h4,h5⟩:=k.Yk i xs e;refine⟨a,vs,h1,y.sh _ _ h2,?_,h4,h5.mono y.sf⟩;exact y.kf h3 h2
def Ok.zF2{p:Addr}(k:Ok K B F H σ ρ)(hp:H p=none):Ok K B F (c6 H p o) σ ρ:=k.ext ⟨k.sub.trans<|aR hp,aR hp,.refl _,λa q=>.inl q⟩
def Yi(σ:St)(ρ:List Sl)(p:Addr):Prop:=∀(i:Nat)xs,ρ[i]?=some (.own xs)->σ[i]?≠some (some<|.ref p)
def Ok.noOwn{p:Addr}(k:Ok K B F H σ ρ)(hp:H p=none):Yi σ ρ p:=λi xs e q=>by obtain⟨a,vs,h1,h2,_⟩:=k.Yk i xs e;rw[h1]at q;cases q;rw[hp]at h2;cases h2
def Ok.XM(k:Ok K B F H σ ρ)(i:Nat)(r:Rep K F v d):Ok K B F H (σ.set i<|some v) (ρ.set i<|.val d):=by
 refine⟨k.toExt,by rw[bx,bx,k.len],λj e q=>?_,λj xs q=>?_,λj l xs ys a q1 q2 q3 q4=>?_,k.XQ.to (.refl _) (λ_ _ e1 e2 _=>⟨e1,e2⟩) (DO λ_ z=>nomatch z)⟩
 ·by_cases h:i=j
  ·subst h;rw[List.getElem?_set_self']at q;cases z:ρ[i]? with
   |none=>rw[z]at q;cases q
   |some w=>
    rw[z]at q;cases q;have hi:i<σ.length:=by rw[k.len];exact(List.getElem?_eq_some_iff.mp z).1
    exact⟨v,by rw[List.getElem?_set_self hi],r⟩
  ·rw[List.getElem?_set_ne h]at q ⊢;exact k.vals j e q
 ·by_cases h:i=j
  ·subst h;rw[List.getElem?_set_self']at q;cases z:ρ[i]? with
   |none=>rw[z]at q;cases q
   |some w=>rw[z]at q;cases q
  ·rw[List.getElem?_set_ne h]at q ⊢;exact k.Yk j xs q
 ·have n1:i≠j:=by
   rintro rfl;rw[List.getElem?_set_self']at q1;cases z:ρ[i]? with
   |none=>rw[z]at q1;cases q1
   |some w=>rw[z]at q1;cases q1
  have n2:i≠l:=by
   rintro rfl;rw[List.getElem?_set_self']at q2;cases z:ρ[i]? with
   |none=>rw[z]at q2;cases q2
   |some w=>rw[z]at q2;cases q2
  rw[List.getElem?_set_ne n1]at q1 q3;rw[List.getElem?_set_ne n2]at q2 q4;exact k.dist j l xs ys a q1 q2 q3 q4
def Ok.ZJ{ds:aU}{p:Addr}(k:Ok K B F H σ ρ)(i:Nat)(hp:H p=some (.lst vs))(hf:F p=none)(hb:B.H p=none)(hn:Yi σ ρ p)(r:Xv K F vs ds):Ok K B F H (σ.set i<|some<|.ref p) (ρ.set i<|.own ds):=by
 refine⟨k.toExt,by rw[bx,bx,k.len],λj e q=>?_,λj xs q=>?_,λj l xs ys a q1 q2 q3 q4=>?_,k.XQ.to (.refl _) (λ_ _ e1 e2 _=>⟨e1,e2⟩) (DO λ_ z=>nomatch z)⟩
 ·by_cases h:i=j
  ·subst h;rw[List.getElem?_set_self']at q;cases z:ρ[i]? with
   |none=>rw[z]at q;cases q
   |some w=>rw[z]at q;cases q
  ·rw[List.getElem?_set_ne h]at q ⊢;exact k.vals j e q
 ·by_cases h:i=j
  ·subst h;rw[List.getElem?_set_self']at q;cases z:ρ[i]? with
   |none=>rw[z]at q;cases q
   |some w=>
    rw[z]at q;cases q;have hi:i<σ.length:=by rw[k.len];exact(List.getElem?_eq_some_iff.mp z).1
    exact⟨p,vs,by rw[List.getElem?_set_self hi],hp,hf,hb,r⟩
  ·rw[List.getElem?_set_ne h]at q ⊢;exact k.Yk j xs q
 ·by_cases n1:i=j
  ·by_cases n2:i=l;·exact n1.symm.trans n2
   ·subst n1;rw[List.getElem?_set_ne n2]at q2 q4;have hi:i<σ.length:=by have:=(List.getElem?_eq_some_iff.mp q3).1;rw[bx]at this;exact this
    rw[List.getElem?_set_self hi]at q3;cases q3;exact absurd q4<|hn l ys q2
  ·by_cases n2:i=l
   ·subst n2;rw[List.getElem?_set_ne n1]at q1 q3;have hi:i<σ.length:=by have:=(List.getElem?_eq_some_iff.mp q4).1;rw[bx]at this;exact this
    rw[List.getElem?_set_self hi]at q4;cases q4;exact absurd q3<|hn j xs q1
   ·rw[List.getElem?_set_ne n1]at q1 q3;rw[List.getElem?_set_ne n2]at q2 q4;exact k.dist j l xs ys a q1 q2 q3 q4
def Ok.Zs{vs:dW}{ds:aU}{i:Nat}(k:Ok K B F H σ ρ)(hi:ρ[i]?=some (.own xs))(hs:σ[i]?=some (some<|.ref p))(r:Xv K F ws ds):Ok K B F (c6 H p<|.lst ws) σ (ρ.set i<|.own ds):=by
 obtain⟨a,us,h1,h2,h3,h4,h5⟩:=k.Yk i xs hi;rw[h1]at hs;cases hs;have X3:i<ρ.length:=(List.getElem?_eq_some_iff.mp hi).1;refine⟨⟨λb u q=>?_,λb u q=>?_,k.sf,k.nw⟩,by rw[bx,k.len],λj e q=>?_,λj ys q=>?_,λj l ys zs b q1 q2 q3 q4=>?_,k.XQ.to (.refl _) (λb φ e1 e2 _=>⟨by rw[aK λz=>by subst z;rw[h2]at e1;cases e1];exact e1,e2⟩) (Aj λ_ z=>nomatch z)⟩
 ·have ne:b≠p:=λz=>by subst z;rw[h3]at q;cases q
  rw[aK ne];exact k.sub b u q
 ·have ne:b≠p:=λz=>by subst z;rw[h4]at q;cases q
  rw[aK ne];exact k.sh b u q
 ·by_cases h:i=j;·subst h;rw[List.getElem?_set_self X3]at q;cases q
  ·rw[List.getElem?_set_ne h]at q;exact k.vals j e q
 ·by_cases h:i=j;·subst h;rw[List.getElem?_set_self X3]at q;cases q;exact⟨p,ws,h1,aM,h3,h4,r⟩
  ·rw[List.getElem?_set_ne h]at q;obtain⟨b,Zd,g1,g2,g3,g4,g5⟩:=k.Yk j ys q;have ne:b≠p:=λz=>by subst z;exact h<|k.dist i j xs ys b hi q h1 g1
   exact⟨b,Zd,g1,by rw[aK ne];exact g2,g3,g4,g5⟩
 ·have own:∀(m:Nat)ys,(ρ.set i<|.own ds)[m]?=some (.own ys)->∃zs,ρ[m]?=some (.own zs):=λm ys q=>by
   by_cases h:i=m;·subst h;exact⟨xs,hi⟩
   ·rw[List.getElem?_set_ne h]at q;exact⟨ys,q⟩
  obtain⟨y1,z1⟩:=own j ys q1;obtain⟨y2,z2⟩:=own l zs q2;exact k.dist j l _ _ b z1 z2 q3 q4
def Ok.zB2{i:Nat}(k:Ok K B F H σ ρ)(hi:ρ[i]?=some (.own xs)):∃F',XC F F'/\Ok K B F' H σ (ρ.set i<|.val<|.lst xs):=by
 obtain⟨a,us,h1,h2,h3,h4,h5⟩:=k.Yk i xs hi;have X3:i<ρ.length:=(List.getElem?_eq_some_iff.mp hi).1;have sf:XC F (c6 F a<|.lst us):=aR h3;have zA8:∀(j:Nat)ys,(ρ.set i<|.val<|.lst xs)[j]?=some (.own ys)->i≠j/\ρ[j]?=some (.own ys):=λj ys q=>by
  by_cases h:i=j;·subst h;rw[List.getElem?_set_self X3]at q;cases q
  ·rw[List.getElem?_set_ne h]at q;exact⟨h,q⟩
 refine⟨c6 F a<|.lst us,sf,⟨λb u q=>?_,k.sh,k.sf.trans sf,λb q=>?_⟩,by rw[bx,k.len],λj e q=>?_,λj ys q=>?_,λj l ys zs b q1 q2 q3 q4=>?_,k.XQ.to sf (λb φ e1 e2 _=>⟨e1,by rw[aK λz=>by subst z;rw[h2]at e1;cases e1];exact e2⟩) (Aj λ_ z=>nomatch z)⟩
 ·by_cases h:b=a;·subst h;rw[aM]at q;cases q;exact h2
  ·rw[aK h]at q;exact k.sub b u q
 ·by_cases h:b=a;·subst h;exact .inr h4
  ·rw[aK h]at q;exact k.nw b q
 ·by_cases h:i=j;·subst h;rw[List.getElem?_set_self X3]at q;cases q;exact⟨_,h1,.lst aM<|h5.mono sf⟩
  ·rw[List.getElem?_set_ne h]at q;obtain⟨v,g1,g2⟩:=k.vals j e q;exact⟨v,g1,g2.mono sf⟩
 ·obtain⟨h,q⟩:=zA8 j ys q;obtain⟨b,Zd,g1,g2,g3,g4,g5⟩:=k.Yk j ys q;have ne:b≠a:=λz=>by subst z;exact h<|k.dist i j xs ys b hi q h1 g1
  exact⟨b,Zd,g1,g2,by rw[aK ne];exact g3,g4,g5.mono sf⟩
 ·exact k.dist j l _ _ b (zA8 j ys q1).2 (zA8 l zs q2).2 q3 q4
end
set_option autoImplicit true
structure wE(X:Cx)(e:Expr)(σ:St)(H:Hp)(Q:VK):Prop where
 go:∀(pins:gQ)(s:Shared),Inv X pins σ H s->fh X (eval e X.env) (EP X pins σ Q) X.xe s
instance zNK {X:Cx} {e:Expr} {σ:St} {H:Hp} {Q:VK}:CoeFun (wE X e σ H Q) (λ_=>∀(pins:gQ)(s:Shared),Inv X pins σ H s->fh X (eval e X.env) (EP X pins σ Q) X.xe s):=⟨wE.go⟩
structure wT(X:Cx)(e:Expr)(σ:St)(H:Hp)(Q:(Bool->Hp->Prop)):Prop where
 go:∀(pins:gQ)(s:Shared),Inv X pins σ H s->fh X (isTrue e X.env<|eval e X.env) (TP X pins σ Q) X.xe s
instance zNF {X:Cx} {e:Expr} {σ:St} {H:Hp} {Q:Bool->Hp->Prop}:CoeFun (wT X e σ H Q) (λ_=>∀(pins:gQ)(s:Shared),Inv X pins σ H s->fh X (isTrue e X.env<|eval e X.env) (TP X pins σ Q) X.xe s):=⟨wT.go⟩
structure wW(X:Cx)(e:Expr)(σ:St)(H:Hp)(Q:(Bool->Hp->Prop)):Prop where
 go:∀(whole:Sem Value)(pins:gQ)(s:Shared),Inv X pins σ H s->fh X (isTrue e X.env whole) (TP X pins σ Q) X.xe s
instance zNE {X:Cx} {e:Expr} {σ:St} {H:Hp} {Q:Bool->Hp->Prop}:CoeFun (wW X e σ H Q) (λ_=>∀(whole:Sem Value)(pins:gQ)(s:Shared),Inv X pins σ H s->fh X (isTrue e X.env whole) (TP X pins σ Q) X.xe s):=⟨wW.go⟩
structure wA(X:Cx)(es:tu)(σ:St)(H:Hp)(Q:(dW->Hp->Prop)):Prop where
 go:∀(pos:Pos)(pins:gQ)(s:Shared),Inv X pins σ H s->fh X (spliced<|backTo pos<|starEach es X.env) (AP X pins σ Q) X.xe s
instance zNL {X:Cx} {es:tu} {σ:St} {H:Hp} {Q:dW->Hp->Prop}:CoeFun (wA X es σ H Q) (λ_=>∀(pos:Pos)(pins:gQ)(s:Shared),Inv X pins σ H s->fh X (spliced<|backTo pos<|starEach es X.env) (AP X pins σ Q) X.xe s):=⟨wA.go⟩
structure wS(X:Cx)(st:Stmt)(D:ma)(σ:St)(H:Hp):Prop where
 go:∀(pins:gQ)(s:Shared),Inv X pins σ H s->fh X (exec st X.env) (SP X pins D) X.xe s
instance zNG {X:Cx} {st:Stmt} {D:ma} {σ:St} {H:Hp}:CoeFun (wS X st D σ H) (λ_=>∀(pins:gQ)(s:Shared),Inv X pins σ H s->fh X (exec st X.env) (SP X pins D) X.xe s):=⟨wS.go⟩
structure wSs(X:Cx)(st:List Stmt)(D:ma)(σ:St)(H:Hp):Prop where
 go:∀(pins:gQ)(s:Shared),Inv X pins σ H s->fh X (execs st X.env) (SP X pins D) X.xe s
instance zJG {X:Cx} {st:List Stmt} {D:ma} {σ:St} {H:Hp}:CoeFun (wSs X st D σ H) (λ_=>∀(pins:gQ)(s:Shared),Inv X pins σ H s->fh X (execs st X.env) (SP X pins D) X.xe s):=⟨wSs.go⟩
structure wO(X:Cx)(e:Option Expr)(σ:St)(H:Hp)(Q:(Option Int->Hp->Prop)):Prop where
 go:∀(pins:gQ)(s:Shared),Inv X pins σ H s->fh X (evalPart e X.env) (λu s'=>∃o H',Inv X pins σ H' s'/\IsPart u o/\Q o H') X.xe s
instance zNH {X:Cx} {e:Option Expr} {σ:St} {H:Hp} {Q:Option Int->Hp->Prop}:CoeFun (wO X e σ H Q) (λ_=>∀(pins:gQ)(s:Shared),Inv X pins σ H s->fh X (evalPart e X.env) (λu s'=>∃o H',Inv X pins σ H' s'/\IsPart u o/\Q o H') X.xe s):=⟨wO.go⟩
structure wG(X:Cx)(e:Expr)(v:V)(σ:St)(H:Hp)(Q:(St->Hp->Prop)):Prop where
 go:∀(pins:gQ)(s:Shared)(u:Value),Inv X pins σ H s->RelV v u->fh X (assign e X.env u) (λ_ s'=>∃σ' H',Inv X pins σ' H' s'/\Q σ' H') X.xe s
instance zNJ {X:Cx} {e:Expr} {v:V} {σ:St} {H:Hp} {Q:St->Hp->Prop}:CoeFun (wG X e v σ H Q) (λ_=>∀(pins:gQ)(s:Shared)(u:Value),Inv X pins σ H s->RelV v u->fh X (assign e X.env u) (λ_ s'=>∃σ' H',Inv X pins σ' H' s'/\Q σ' H') X.xe s):=⟨wG.go⟩
section
variable {st:Stmt}{oe:Option Expr}
def aN:PE X e (wE X e):=λpins s _ _ _ I h=>h pins s I
def oE:PT X e (wT X e):=λpins s _ _ _ I h=>h pins s I
def Ov:PW X e (wW X e):=λwh pins s _ _ _ I h=>h wh pins s I
def vw:PA X es (wA X es):=λpos pins s _ _ _ I h=>h pos pins s I
def Az:PS X st (wS X st):=λpins s _ _ _ I h=>h pins s I
def ej:PSs X ZH (wSs X ZH):=λpins s _ _ _ I h=>h pins s I
def Kf:PO X oe (wO X oe):=λpins s _ _ _ I h=>h pins s I
def L8:PG X e (wG X e):=λpins s _ _ _ u _ I r h=>h pins s u I r
end
abbrev cJ:=List Sl
def Xs(X:Cx)(ρ:cJ)(e:Expr)(d:D):Prop:=∀(B:B0)(F H:Hp)(σ:St)(Q:VK),Ok X.K B F H σ ρ->(∀v F' H',Ext ⟨F,H⟩ F' H'->Rep X.K F' v d->Q v H')->wE X e σ H Q
def XF(X:Cx)(ρ:cJ)(e:Expr)(xs:aU):Prop:=∀(B:B0)(F H:Hp)(σ:St)(Q:VK),Ok X.K B F H σ ρ->(∀p vs F' H',Ext ⟨F,H⟩ F' H'->H p=none->H' p=some (.lst vs)->F' p=none->Xv X.K F' vs xs->Q (.ref p) H')->wE X e σ H Q
def SqB(K:bL)(k:Bool)(H:Hp)(a:Addr)(vs:dW):Prop:=if k=true then XZ K H a vs else Yu K H a vs
def Y4(X:Cx)(ρ:cJ)(e:Expr)(k:Bool)(xs:aU):Prop:=∀(B:B0)(F H:Hp)(σ:St)(Q:VK),Ok X.K B F H σ ρ->(∀a vs F' H',Ext ⟨F,H⟩ F' H'->SqB X.K k H' a vs->Xv X.K F' vs xs->Q (.ref a) H')->wE X e σ H Q
def Xu(X:Cx)(ρ:cJ)(e:Expr)(b:Bool):Prop:=∀(B:B0)(F H:Hp)(σ:St)(Q:Bool->Hp->Prop),Ok X.K B F H σ ρ->(∀F' H',Ext ⟨F,H⟩ F' H'->Q b H')->wT X e σ H Q
def YB(X:Cx)(ρ:cJ)(e:Expr)(b:Bool):Prop:=∀(B:B0)(F H:Hp)(σ:St)(Q:Bool->Hp->Prop),Ok X.K B F H σ ρ->(∀F' H',Ext ⟨F,H⟩ F' H'->Q b H')->wW X e σ H Q
def Pl(e:Expr):Prop:=∀(es:tu)(env:Env),starEach (e::es) env=(false,eval e env)::starEach es env
def PlA:tu->Prop|[]=>True|e::es=>Pl e/\PlA es
def PlA.any{env:Env}:∀{es:tu},PlA es->(backTo pos<|starEach es env).any (·.1)=false|[],_=>rfl|e::es,h=>by rw[h.1 es env];show(false||(backTo pos<|starEach es env).any (·.1))=false;rw[PlA.any h.2];rfl
def Yj(X:Cx)(ρ:cJ)(es:tu)(ds:aU):Prop:=PlA es/\∀(B:B0)(F H:Hp)(σ:St)(Q:dW->Hp->Prop),Ok X.K B F H σ ρ->(∀vs F' H',Ext ⟨F,H⟩ F' H'->Xv X.K F' vs ds->Q vs H')->wA X es σ H Q
def NR(X:Cx)(ρ:cJ)(e:Option Expr)(o:Option Int):Prop:=∀(B:B0)(F H:Hp)(σ:St)(Q:Option Int->Hp->Prop),Ok X.K B F H σ ρ->(∀F' H',Ext ⟨F,H⟩ F' H'->Q o H')->wO X e σ H Q
inductive Out where
 |nx (ρ:cJ) |rt (d:D)
def ZC(K:bL)(B:B0)(F₀:Hp)(E:ma):Out->Prop|.nx ρ=>∀F H σ,Ok K B F H σ ρ->XC F₀ F->E.nx σ H|.rt d=>∀v F H,Ext B F H->Rep K F v d->E.rt v H
def ZC.later{K:bL}(h:ZC K B F₀ E o)(s:XC F₀ F₁):ZC K B F₁ E o:=by
 cases o with
 |nx ρ=>exactλF H σ k s'=>h F H σ k<|s.trans s'
 |rt d=>exact h
def X5(X:Cx)(ρ:cJ)(st:Stmt)(o:Out):Prop:=∀(B:B0)(F H:Hp)(σ:St)(E:ma),Ok X.K B F H σ ρ->ZC X.K B F E o->wS X st E σ H
def Xt(X:Cx)(ρ:cJ)(ZH:List Stmt)(o:Out):Prop:=∀(B:B0)(F H:Hp)(σ:St)(E:ma),Ok X.K B F H σ ρ->ZC X.K B F E o->wSs X ZH E σ H
def EvG(X:Cx)(ρ:cJ)(tg:Expr)(d:D)(ρ':cJ):Prop:=∀(B:B0)(F H:Hp)(σ:St)(v:V)(Q:St->Hp->Prop),Ok X.K B F H σ ρ->Rep X.K F v d->(∀F' H' σ',Ok X.K B F' H' σ' ρ'->XC F F'->Q σ' H')->wG X tg v σ H Q
def ZE(X:Cx)(ρ:cJ)(tg:Expr)(d:D)(ρ':cJ):Prop:=∀(B:B0)(F H:Hp)(σ:St)(v:V)(Q:St->Hp->Prop),Ok X.K B F H σ ρ->Rep X.K F v d->(∀σ',Ok X.K B F H σ' ρ'->(∀p,Yi σ ρ p->Yi σ' ρ' p)->Q σ' H)->wG X tg v σ H Q
def Ext.t{H:Hp}(x:Ext ⟨F,H⟩ F' H')(y:Ext ⟨F',H'⟩ F2 H2):Ext ⟨F,H⟩ F2 H2:=x.trans y
def Xs.of(h:PE X e t)(r:∀(B:B0)(F H:Hp)(σ:St)(Q:VK),Ok X.K B F H σ ρ->(∀v F' H',Ext ⟨F,H⟩ F' H'->Rep X.K F' v d->Q v H')->t σ H Q):Xs X ρ e d:=λB F H σ Q k q=>.mk λpins s I=>h pins s σ H Q I<|r B F H σ Q k q
def XF.of(h:PE X e t)(r:∀(B:B0)(F H:Hp)(σ:St)(Q:VK),Ok X.K B F H σ ρ->(∀p vs F' H',Ext ⟨F,H⟩ F' H'->H p=none->H' p=some (.lst vs)->F' p=none->Xv X.K F' vs xs->Q (.ref p) H')->t σ H Q):XF X ρ e xs:=λB F H σ Q k q=>.mk λpins s I=>h pins s σ H Q I<|r B F H σ Q k q
def Y4.of(h:PE X e t)(r:∀(B:B0)(F H:Hp)(σ:St)(Q:VK),Ok X.K B F H σ ρ->(∀a vs F' H',Ext ⟨F,H⟩ F' H'->SqB X.K k H' a vs->Xv X.K F' vs xs->Q (.ref a) H')->t σ H Q):Y4 X ρ e k xs:=λB F H σ Q k q=>.mk λpins s I=>h pins s σ H Q I<|r B F H σ Q k q
def Xu.of{t:TT}(h:PT X e t)(r:∀(B:B0)(F H:Hp)(σ:St)(Q:Bool->Hp->Prop),Ok X.K B F H σ ρ->(∀F' H',Ext ⟨F,H⟩ F' H'->Q b H')->t σ H Q):Xu X ρ e b:=λB F H σ Q k q=>.mk λpins s I=>h pins s σ H Q I<|r B F H σ Q k q
def YB.of{t:TT}(h:PW X e t)(r:∀(B:B0)(F H:Hp)(σ:St)(Q:Bool->Hp->Prop),Ok X.K B F H σ ρ->(∀F' H',Ext ⟨F,H⟩ F' H'->Q b H')->t σ H Q):YB X ρ e b:=λB F H σ Q k q=>.mk λwh pins s I=>h wh pins s σ H Q I<|r B F H σ Q k q
def X5.of{st:Stmt}(h:PS X st t)(r:∀(B:B0)(F H:Hp)(σ:St)(E:ma),Ok X.K B F H σ ρ->ZC X.K B F E o->t E σ H):X5 X ρ st o:=λB F H σ E k q=>.mk λpins s I=>h pins s σ H E I<|r B F H σ E k q
def Xt.of(h:PSs X ZH t)(r:∀(B:B0)(F H:Hp)(σ:St)(E:ma),Ok X.K B F H σ ρ->ZC X.K B F E o->t E σ H):Xt X ρ ZH o:=λB F H σ E k q=>.mk λpins s I=>h pins s σ H E I<|r B F H σ E k q
def EvG.of(h:PG X e t)(r:∀(B:B0)(F H:Hp)(σ:St)(v:V)(Q:St->Hp->Prop),Ok X.K B F H σ ρ->Rep X.K F v d->(∀F' H' σ',Ok X.K B F' H' σ' ρ'->XC F F'->Q σ' H')->t v σ H Q):EvG X ρ e d ρ':=λB F H σ v Q k rv q=>.mk λpins s u I ru=>h pins s σ H v u Q I ru<|r B F H σ v Q k rv q
def ZE.of(h:PG X e t)(r:∀(B:B0)(F H:Hp)(σ:St)(v:V)(Q:St->Hp->Prop),Ok X.K B F H σ ρ->Rep X.K F v d->(∀σ',Ok X.K B F H σ' ρ'->(∀p,Yi σ ρ p->Yi σ' ρ' p)->Q σ' H)->t v σ H Q):ZE X ρ e d ρ':=λB F H σ v Q k rv q=>.mk λpins s u I ru=>h pins s σ H v u Q I ru<|r B F H σ v Q k rv q
def Yi.XM(h:Yi σ ρ p)(i:Nat)(v:Option V)(d:D):Yi (σ.set i v) (ρ.set i<|.val d) p:=λj xs e q=>by
 by_cases hj:i=j
 ·subst hj;rw[List.getElem?_set_self']at e;cases z:ρ[i]? with
  |none=>rw[z]at e;cases e
  |some w=>rw[z]at e;cases e
 ·rw[List.getElem?_set_ne hj]at e q;exact h j xs e q
def Ext.freeze{H:Hp}{p:Addr}(x:Ext ⟨F,H⟩ F' H')(h0:H p=none)(hp:H' p=some (.lst vs))(hf:F' p=none):Ext ⟨F,H⟩ (c6 F' p<|.lst vs) H':=⟨λb u q=>by
  by_cases h:b=p;·subst h;rw[aM]at q;cases q;exact hp
  ·rw[aK h]at q;exact x.sub b u q,x.sh,x.sf.trans<|aR hf,λa q=>by
  by_cases h:a=p;·subst h;exact .inr h0
  ·rw[aK h]at q;exact x.nw a q⟩
def XF.Ya(h:XF X ρ e xs):Xs X ρ e (.lst xs):=λB F H σ Q k q=>h B F H σ Q k λp vs F' H' x h0 hp hf r=>q _ _ _ (x.freeze h0 hp hf)<|.lst aM<|r.mono<|aR hf
def SqB.mono{K:bL}(s:XC H H')(h:SqB K k H a vs):SqB K k H' a vs:=by
 cases k with
 |true=>exact s.seq h
 |false=>
  have h':Yu K H a vs:=h;show Yu K H' a vs;rcases h' with(h |⟨o,h⟩) |h;·exact .inl<|.inl<|s _ _ h
  ·exact .inl<|.inr ⟨o,s _ _ h⟩
  ·exact .inr h
def Xs.ql(h:Xs X ρ e (.lst xs)):Y4 X ρ e true xs:=λB F H σ Q k q=>h B F H σ Q k λv F' H' x r=>by cases r with|lst hf rl=>exact q _ _ _ _ x (show XZ _ _ _ _ from XZ.of<|x.sub _ _ hf) rl
def Xs.qt(h:Xs X ρ e (.tup xs)):Y4 X ρ e false xs:=λB F H σ Q k q=>h B F H σ Q k λv F' H' x r=>by cases r with|tup hf rl=>exact q _ _ _ _ x (show Yu _ _ _ _ from Yu.of<|x.sub _ _ hf) rl
def Xs.qs(h:Xs X ρ e (.Zf ns)):Y4 X ρ e true (ns.map D.int):=λB F H σ Q k q=>h B F H σ Q k λv F' H' x r=>by cases r with|Zf hs=>exact q _ _ _ _ x (show XZ _ _ _ _ from x.sub.seq hs)<|Xv.ints ns
def XF.toQ(h:XF X ρ e xs):Y4 X ρ e true xs:=h.Ya.ql
structure At(X:Cx)(N:bM)(sc:Scope):Prop where
 eN:X.N=N
 eS:X.env.scope=sc
 calm:X.calm=true
 nd:X.N.Nodup
 Z2:X.xe=λ_ _=>False
 un:X.A.units+64<cLine
 dp:X.A.depth+100<recursionLimit
 tree:X.prog.given.tree=none
 fr:∃env l,X.stack=env::l/\env.scope.isGenerator=false/\env.scope.isCoroutine=false/\env.builtins=builtinsNs/\env.globals=mainGlobals
structure At0(X:Cx)(N:bM)(sc:Scope):Prop where
 eN:X.N=N
 eS:X.env.scope=sc
 nd:X.N.Nodup
 Z2:X.xe=λ_ _=>False
 un:X.A.units+64<cLine
 dp:X.A.depth+100<recursionLimit
 tree:X.prog.given.tree=none
 fr:∃env l,X.stack=env::l/\env.scope.isGenerator=false/\env.scope.isCoroutine=false/\env.builtins=builtinsNs/\env.globals=mainGlobals
def At.z(t:At X N sc):At0 X N sc:=⟨t.eN,t.eS,t.nd,t.Z2,t.un,t.dp,t.tree,t.fr⟩
def At0.at(t:At0 X N sc)(h:X.calm=true):At X N sc:=⟨t.eN,t.eS,h,t.nd,t.Z2,t.un,t.dp,t.tree,t.fr⟩
def UO(A:Around)(H:Hp):Prop:=∃(ea:Addr)(oe:Obj)(u:HO)(vs:Array Value),A.handled=some (.ref ea)/\H ea=some (.YR oe u)/\oe.data=.fields vs/\vs[2]?=some .none
class Z1 (X:Cx):Prop where
 fn:∀x,X.fn x=true
def At.pass(a:At X N sc):PassesOwn (model X.prog X.w) X.A X.env X.xe:=by rw[a.Z2];exact PassesOwn.never
def fB(sc:Scope)(x:Str):Bool:=match sc.names.lookup x with
 |some .local=>true|some .cell=>true
 |some .free=>true|_=>false
def nc(sc:Scope)(x:Str):Bool:=match sc.names.lookup x with
 |some .local=>true|some .cell=>true
 |_=>false
def QD{x:Str}(h:fB sc x=true):S5 sc x:=by
 unfold fB at h;cases e:sc.names.lookup x with
 |none=>rw[e]at h;cases h
 |some k=>rw[e]at h;cases k<;>first |exact .inl e |exact .inr (.inl e) |exact .inr (.inr e) |cases h
def RC{x:Str}(h:nc sc x=true):SO sc x:=by
 unfold nc at h;cases e:sc.names.lookup x with
 |none=>rw[e]at h;cases h
 |some k=>rw[e]at h;cases k<;>first |exact .inl e |exact .inr e |cases h
def cv(x:Str):Bool:=!(x==("__debug__":Str))&& !(x==("__classdict__":Str))
def xY{i:Nat}(t:At X N sc)(hN:N[i]?=some x)(hv:fB sc x=true)(hx:cv x=true):PE X (.Name x pos) (QL i):=by unfold cv at hx;rw[eO,Bool.not_eq_true',Bool.not_eq_true']at hx;exact Ma (by rw[t.eN];exact hN) (by rw[t.eS];exact QD hv) hx.1 hx.2
def aa{ρ:cJ}(t:At X N sc)(i:Nat)(hr:ρ[i]?=some (.val d):=by rfl)(hN:N[i]?=some x:=by rfl)(hv:fB sc x=true:=by rfl)(hx:cv x=true:=by rfl):Xs X ρ (.Name x pos) d:=.of (xY t hN hv hx) λB F H σ Q k q=>by obtain⟨v,h1,h2⟩:=k.vals i d hr;exact⟨v,h1,q v F H (.refl k.sub) h2⟩
def dL{ρ:cJ}(t:At X N sc)(i:Nat)(hr:ρ[i]?=some (.own xs))(hN:N[i]?=some x:=by rfl)(hv:fB sc x=true:=by rfl)(hx:cv x=true:=by rfl):Y4 X ρ (.Name x pos) true xs:=.of (xY t hN hv hx) λB F H σ Q k q=>by obtain⟨p,vs,h1,h2,h3,h4,h5⟩:=k.Yk i xs hr;exact⟨_,h1,q p vs F H (.refl k.sub) (show XZ _ _ _ _ from XZ.of h2) h5⟩
def ai:Xs X ρ (.Constant (.int i) j pos) (.int i):=.of Ho λB F H σ Q k q=>q _ F H (.refl k.sub)<|.int i
def t5:Xs X ρ (.Constant (.bool b) j pos) (.bl b):=.of TU λB F H σ Q k q=>q _ F H (.refl k.sub)<|.bl b
def Xr:Xs X ρ (.Constant (.str x) j pos) (.str x):=.of Rb λB F H σ Q k q=>q _ F H (.refl k.sub)<|.str x
def two{X:Cx}{ρ:cJ}{a:Expr}{b:Expr}{da db:D}(ha:Xs X ρ a da)(hb:Xs X ρ b db){B:B0}{F H:Hp}{σ:St}{R:V->V->Hp->Prop}(k:Ok X.K B F H σ ρ)(h:∀x y F' H',Ext ⟨F,H⟩ F' H'->Rep X.K F' x da->Rep X.K F' y db->R x y H'):wE X a σ H λx H1=>wE X b σ H1 λy H2=>R x y H2:=ha B F H σ _ k λx F1 H1 x1 r1=>hb B F1 H1 σ _ (k.ext x1) λy F2 H2 x2 r2=>h x y F2 H2 (x1.t x2) (r1.mono x2.sf) r2
def zu{i j m:Int}{C:Int->Int->Prop}{g:Int->Int->Int}(ho:pQ X (binaryOp op) (rI C λi j=>.int<|g i j))(ha:Xs X ρ a (.int i))(hb:Xs X ρ b (.int j))(hc:C i j)(hm:g i j=m):Xs X ρ (.BinOp a op b pos) (.int m):=.of (xL ho aN aN) λB F H σ Q k q=>two ha hb k λx y F' H' x' rx ry=>by cases rx;cases ry;subst hm;exact⟨i,j,rfl,rfl,hc,q _ F' H' x'<|.int _⟩
def Be{i j m:Int}{g:Int->Int->Int}(ho:pQ X (binaryOp op) (NH λi j=>.int<|g i j))(ha:Xs X ρ a (.int i))(hb:Xs X ρ b (.int j))(hm:g i j=m):Xs X ρ (.BinOp a op b pos) (.int m):=.of (xL ho aN aN) λB F H σ Q k q=>two ha hb k λx y F' H' x' rx ry=>by cases rx;cases ry;subst hm;exact⟨i,j,rfl,rfl,q _ F' H' x'<|.int _⟩
def cu(ha:Xs X ρ a (.int i))(hb:Xs X ρ b (.int j)):Xs X ρ (.BinOp a .Add b pos) (.int<|i+j):=Be Rq ha hb rfl
def fV(ha:Xs X ρ a (.int i))(hb:Xs X ρ b (.int j)):Xs X ρ (.BinOp a .Sub b pos) (.int<|i-j):=Be Rj ha hb rfl
def OJ:pQ X (binaryOp .Mult) (rI IntMulOk λi j=>.int<|i*j):=TW λ_ _ _ _ _ _ _ hc q=>mul_int q hc
def At.zDJ(t:At X N sc)(I:Inv X pins σ H s):PylongRoom (model X.prog X.w) X.A s:=by obtain⟨env,l,h1,h2,h3,h4,h5⟩:=t.fr;exact PylongRoom.of I.nolimit t.dp<|SeerAt.of (I.ok.mod.seer.keeps I.bk) t.tree (by rw[I.ok.frames,h1]) h2 h3 h4 h5
def OK(t:At X N sc):pQ X (binaryOp .FloorDiv) (rI (λ_ j=>j≠0) λi j=>.int<|i.fdiv j):=by intro pins s σ H x y v u Q I rx ry h;obtain⟨i,j,rfl,rfl,hc,q⟩:=h;obtain⟨t1,rfl⟩:=rx;obtain⟨t2,rfl⟩:=ry;exact floordiv_int hc ⟨.int<|i.fdiv j,H,I.tok _,⟨_,rfl⟩,q⟩<|.inr<|t.zDJ I
def mU(ha:Xs X ρ a (.int i))(hb:Xs X ρ b (.int j))(hc:IntMulOk i j):Xs X ρ (.BinOp a .Mult b pos) (.int<|i*j):=zu OJ ha hb hc rfl
def pL(t:At X N sc)(ha:Xs X ρ a (.int i))(hb:Xs X ρ b (.int j))(h0:0<j):Xs X ρ (.BinOp a .FloorDiv b pos) (.int<|i / j):=zu (OK t) ha hb (by lia)<|Int.fdiv_eq_ediv_of_nonneg i<|by lia
def bS(ha:Xs X ρ a (.int i))(hb:Xs X ρ b (.int j))(h0:0<j):Xs X ρ (.BinOp a .Mod b pos) (.int<|i%j):=zu Rm ha hb h0 rfl
def MN(ha:Xs X ρ a (.int i))(hb:Xs X ρ b (.int j))(h0:US i j):Xs X ρ (.BinOp a .Pow b pos) (.int<|i ^ j.toNat):=zu Rl ha hb h0 rfl
def gX(ha:Xs X ρ a (.int i)):Xs X ρ (.UnaryOp .USub a pos) (.int (-i)):=.of (TR QF aN) λB F H σ Q k q=>ha B F H σ _ k λx F' H' x' rx=>by cases rx;exact⟨i,rfl,q _ F' H' x'<|.int _⟩
def Po{i j:Int}{op:CmpOp}{g:Int->Int->Bool}(ho:pQ X (compareOp op) (NH λi j=>.bl<|g i j))(ha:Xs X ρ a (.int i))(hb:Xs X ρ b (.int j))(hm:behindInMarks op b=false):Xs X ρ (.Compare a [op] [b] pos) (.bl<|g i j):=.of (k7 ho aN aN hm) λB F H σ Q k q=>two ha hb k λx y F' H' x' rx ry=>by cases rx;cases ry;exact⟨i,j,rfl,rfl,q _ F' H' x'<|.bl _⟩
def MT(ha:Xs X ρ a (.int i))(hb:Xs X ρ b (.int j)):Xs X ρ (.Compare a [.Gt] [b] pos) (.bl<|decide<|j<i):=Po Qh ha hb<|dX _ (by decide)<|by decide
mutual
def dY:D->PyData
 |.XY=>.none|.bl b=>.bool b
 |.int i=>.int i|.str x=>.str x
 |.tup xs=>.tuple (XB xs)|.lst xs=>.list<|XB xs
 |.Zf ns=>.list (ns.map PyData.int)|.exc _=>.dict []
 |.exh _ _=>.dict []|.XQ _=>.dict []
 |.adr _=>.dict []|.stt _=>.dict []
def XB:aU->List PyData|[]=>[]|d::ds=>dY d::XB ds
end
def Fg(xs:aU):XB xs=xs.map dY:=by induction xs with|nil=>rfl|cons d ds ih=>rw[XB,ih,aH]
def lu(ns:be):XB (ns.map D.int)=ns.map PyData.int:=by rw[Fg,bu];rfl
def C0{s:Shared}:∀{ns:be}{us:gC},Vals (ns.map V.int) us->∃as,ReadsAll s.heap us (ns.map PyData.int) as
 |[],_,r=>by cases r;exact⟨_,.nil⟩
 |n::ns,_,r=>by rw[aH]at r;cases r with|cons r1 r2=>obtain⟨as,h⟩:=C0 r2;obtain⟨t,rfl⟩:=r1;exact⟨_,.cons (Reads.int n t) h⟩
mutual
def Rep.reads(I:Inv X pins σ H s)(sub:XC F H):∀{v:V}{d:D}{u:Value},Rep X.K F v d->RelV v u->(dY d).canLay0=true->∃as,Reads s.heap u (dY d) as
 |_,_,u,.XY,r,hs=>by cases(show u=Value.none from r);exact⟨_,Reads.none⟩
 |_,_,u,.bl b,r,hs=>by cases(show u=Value.bool b from r);exact⟨_,Reads.bool b⟩
 |_,_,u,.int i,r,hs=>by obtain⟨t,e⟩:=(show∃t,u=Value.int i t from r);cases e;exact⟨_,Reads.int i t⟩
 |_,_,u,.str x,r,hs=>by obtain⟨t,e⟩:=(show∃t,u=Value.str x t from r);cases e;exact⟨_,Reads.str x t⟩
 |_,_,u,.tup (a:=a) h rl,r,hs=>by cases(show u=Value.ref a from r);obtain⟨its,rv,p,_⟩:=I.tuple<|Yu.of<|sub _ _ h;obtain⟨o,e,c,n,dt⟩:=p;obtain⟨as,ra⟩:=Xv.reads I sub rl rv (by simpa[dY,PyData.canLay0]using hs);exact⟨_,Reads.tuple e c dt<|by simpa using ra⟩
 |_,_,u,.lst (a:=a) h rl,r,hs=>by cases(show u=Value.ref a from r);obtain⟨its,rv,p,_⟩:=I.list<|XZ.of<|sub _ _ h;obtain⟨o,e,c,n,dt⟩:=p.isList;obtain⟨as,ra⟩:=Xv.reads I sub rl rv (by simpa[dY,PyData.canLay0]using hs);exact⟨_,Reads.list e c dt<|by simpa using ra⟩
 |_,_,u,.exc h,r,hs=>by simp[dY,PyData.canLay0]at hs|_,_,u,.exh h,r,hs=>by simp[dY,PyData.canLay0]at hs
 |_,_,u,.XQ h _,r,hs=>by simp[dY,PyData.canLay0]at hs|_,_,u,.adr _,r,hs=>by simp[dY,PyData.canLay0]at hs
 |_,_,u,.stt _,r,hs=>by simp[dY,PyData.canLay0]at hs|_,_,u,.Zf (a:=a) h,r,hs=>by cases(show u=Value.ref a from r);obtain⟨its,rv,p,_⟩:=I.list<|sub.seq h;obtain⟨o,e,c,n,dt⟩:=p.isList;obtain⟨as,ra⟩:=C0 (s:=s) rv;exact⟨_,Reads.list e c dt<|by simpa using ra⟩
def Xv.reads(I:Inv X pins σ H s)(sub:XC F H):∀{vs:dW}{ds:aU}{us:gC},Xv X.K F vs ds->Vals vs us->PyData.canLayAll0 (XB ds)=true->∃as,ReadsAll s.heap us (XB ds) as
 |_,_,_,.nil,r,hs=>by cases r;exact⟨_,.nil⟩
 |_,_,_,.cons r1 r2,r,hs=>by cases r with|cons q1 q2=>rw[XB,PyData.canLayAll0,eO]at hs;have hs2:=hs;obtain⟨as,h1⟩:=Rep.reads I sub r1 q1 hs2.1;obtain⟨bs,h2⟩:=Xv.reads I sub r2 q2 hs2.2;exact⟨_,.cons h1 h2⟩
end
def SqB.reads(I:Inv X pins σ H s)(sub:XC F H)(h:SqB X.K k H a vs)(r:Xv X.K F vs xs)(hs:(if k=true then PyData.list (XB xs)else .tuple<|XB xs).canLay0=true):∃as,Reads s.heap (.ref a) (if k=true then PyData.list (XB xs)else .tuple<|XB xs) as:=by
 cases k with
 |true=>obtain⟨its,rv,p,_⟩:=I.list (show XZ _ _ _ _ from h);obtain⟨o,e,c,n,dt⟩:=p.isList;obtain⟨as,ra⟩:=Xv.reads I sub r rv (by simpa[PyData.canLay0]using hs);exact⟨_,Reads.list e c dt<|by simpa using ra⟩
 |false=>obtain⟨its,rv,p,_⟩:=I.tuple (show Yu _ _ _ _ from h);obtain⟨o,e,c,n,dt⟩:=p;obtain⟨as,ra⟩:=Xv.reads I sub r rv (by simpa[PyData.canLay0]using hs);exact⟨_,Reads.tuple e c dt<|by simpa using ra⟩
def Z5(X:Cx)(H:Hp)(v:V)(p:PyData):Prop:=p.canLay0=true->∀(H':Hp),XC H H'->∀(pins:gQ)(σ:St)(s:Shared)(u:Value),Inv X pins σ H' s->RelV v u->∃as,Reads s.heap u p as
def BJ(X:Cx)(ρ:cJ)(e:Expr)(p:PyData):Prop:=∀(B:B0)(F H:Hp)(σ:St)(Q:VK),Ok X.K B F H σ ρ->(∀v F' H',Ext ⟨F,H⟩ F' H'->Z5 X H' v p->Q v H')->wE X e σ H Q
def Xs.p(h:Xs X ρ e d):BJ X ρ e (dY d):=λB F H σ Q k q=>h B F H σ Q k λv F' H' x r=>q v F' H' x λhs H2 s2 pins σ s u I ru=>r.reads I (x.sub.trans s2) ru hs
def Y4.p(h:Y4 X ρ e k xs):BJ X ρ e (if k=true then PyData.list (XB xs)else .tuple<|XB xs):=λB F H σ Q k' q=>h B F H σ Q k' λa vs F' H' x hs r=>q _ F' H' x λhc H2 s2 pins σ s u I ru=>by cases(show u=Value.ref a from ru);exact SqB.reads I (x.sub.trans s2) (hs.mono s2) r hc
def LW{p q:PyData}(t:At X N sc)(sp:SeqAt.shaped p=true)(sq:SeqAt.shaped q=true):pQ X (compareOp .Eq) (λx y H Q=>Z5 X H x p/\Z5 X H y q/\Q (.bl<|p.eqv q) H):=by intro pins s σ H x y v u Q I rx ry h;obtain⟨h1,h2,h3⟩:=h;obtain⟨as,r1⟩:=h1 (qK sp) H (.refl _) pins σ s v I rx;obtain⟨bs,r2⟩:=h2 (qK sq) H (.refl _) pins σ s u I ry;exact eq_dataH r1 r2 sp sq t.un ⟨.bl _,H,I,rfl,h3⟩
def LV{p q:PyData}(t:At X N sc)(sp:SeqAt.shaped p=true)(sq:SeqAt.shaped q=true):pQ X (compareOp .NotEq) (λx y H Q=>Z5 X H x p/\Z5 X H y q/\Q (.bl (!p.eqv q)) H):=by intro pins s σ H x y v u Q I rx ry h;obtain⟨h1,h2,h3⟩:=h;obtain⟨as,r1⟩:=h1 (qK sp) H (.refl _) pins σ s v I rx;obtain⟨bs,r2⟩:=h2 (qK sq) H (.refl _) pins σ s u I ry;exact ne_dataH r1 r2 sp sq t.un ⟨.bl _,H,I,rfl,h3⟩
def Z5.mono(h:Z5 X H v p)(s:XC H H'):Z5 X H' v p:=λhc H2 s2=>h hc H2<|s.trans s2
def wN(ha:BJ X ρ a p)(hb:BJ X ρ b q){R:V->V->Hp->Prop}(k:Ok X.K B F H σ ρ)(h:∀x y F' H',Ext ⟨F,H⟩ F' H'->Z5 X H' x p->Z5 X H' y q->R x y H'):wE X a σ H λx H1=>wE X b σ H1 λy H2=>R x y H2:=ha B F H σ _ k λx F1 H1 x1 r1=>hb B F1 H1 σ _ (k.ext x1) λy F2 H2 x2 r2=>h x y F2 H2 (x1.t x2) (r1.mono x2.sh) r2
def Bb{r:Bool}(t:At X N sc)(ha:BJ X ρ a p)(hb:BJ X ρ b q)(sp:SeqAt.shaped p=true)(sq:SeqAt.shaped q=true)(hr:p.eqv q=r):Xs X ρ (.Compare a [.Eq] [b] pos) (.bl r):=.of (k7 (LW t sp sq) aN aN<|dX _ (by decide)<|by decide) λB F H σ Q k q=>wN ha hb k λx y F' H' x' rx ry=>⟨rx,ry,by rw[hr];exact q _ F' H' x'<|.bl r⟩
def MO{r:Bool}(t:At X N sc)(ha:BJ X ρ a p)(hb:BJ X ρ b q)(sp:SeqAt.shaped p=true)(sq:SeqAt.shaped q=true)(hr:(!p.eqv q)=r):Xs X ρ (.Compare a [.NotEq] [b] pos) (.bl r):=.of (k7 (LV t sp sq) aN aN<|dX _ (by decide)<|by decide) λB F H σ Q k q=>wN ha hb k λx y F' H' x' rx ry=>⟨rx,ry,by rw[hr];exact q _ F' H' x'<|.bl r⟩
def Si(t:At X N sc)(ha:Xs X ρ a (.int i))(hb:Xs X ρ b (.int j)):Xs X ρ (.Compare a [.Eq] [b] pos) (.bl<|decide<|i=j):=.of (k7 Qi aN aN<|dX _ (by decide)<|by decide) λB F H σ Q k q=>two ha hb k λx y F' H' x' rx ry=>by
  cases rx;cases ry;refine⟨rfl,?_⟩;have e:decide (V.int i=V.int j)=decide (i=j):=by rw[ww,CC]
  rw[e];exact q _ F' H' x'<|.bl _
def Sd(t:At X N sc)(ha:Xs X ρ a (.int i))(hb:Xs X ρ b (.int j)):Xs X ρ (.Compare a [.NotEq] [b] pos) (.bl (!decide (i=j))):=.of (k7 Qf aN aN<|dX _ (by decide)<|by decide) λB F H σ Q k q=>two ha hb k λx y F' H' x' rx ry=>by
  cases rx;cases ry;refine⟨rfl,?_⟩;have e:decide (V.int i=V.int j)=decide (i=j):=by rw[ww,CC]
  rw[e];exact q _ F' H' x'<|.bl _
def Xv.at{K:bL}{i:Int}(r:Xv K F vs xs)(h:qL xs i=some d):∃v,qL vs i=some v/\Rep K F v d:=by
 unfold qL at h ⊢;rw[r.length];cases e:Ji xs.length i with
 |none=>rw[e]at h;cases h
 |some j=>rw[e]at h;obtain⟨v,h1,h2⟩:=r.get h;exact⟨v,h1,h2⟩
def qe(ha:Y4 X ρ a k xs)(hb:Xs X ρ b db){R:V->V->Hp->Prop}(k':Ok X.K B F H σ ρ)(h:∀l vs y F' H',Ext ⟨F,H⟩ F' H'->SqB X.K k H' l vs->Xv X.K F' vs xs->Rep X.K F' y db->R (.ref l) y H'):wE X a σ H λx H1=>wE X b σ H1 λy H2=>R x y H2:=ha B F H σ _ k' λl vs F1 H1 x1 s1 r1=>hb B F1 H1 σ _ (k'.ext x1) λy F2 H2 x2 r2=>h l vs y F2 H2 (x1.t x2) (s1.mono x2.sh) (r1.mono x2.sf) r2
def bU(ha:Y4 X ρ a k xs)(hb:Xs X ρ b (.int i))(h:qL xs i=some d)(hs:mP b:=by intro _ _;rfl):Xs X ρ (.Subscript a b pos) d:=by
 cases k with
 |true=>exact .of (C4 Jg aN aN hs) λB F H σ Q k' q=>qe ha hb k' λl vs y F' H' x' sl rl ry=>by cases ry;obtain⟨v,h1,h2⟩:=rl.at h;exact⟨l,vs,i,v,rfl,rfl,sl,h1,q v F' H' x' h2⟩
 |false=>exact .of (C4 RN aN aN hs) λB F H σ Q k' q=>qe ha hb k' λl vs y F' H' x' sl rl ry=>by cases ry;obtain⟨v,h1,h2⟩:=rl.at h;exact⟨l,vs,i,v,rfl,rfl,sl,h1,q v F' H' x' h2⟩
def dD:NR X ρ none none:=λB F H σ Q k q=>.mk λpins s I=>OE pins s σ H Q I<|q F H<|.refl k.sub
def dG(h:Xs X ρ e (.int i)):NR X ρ (some e) (some i):=λB F H σ Q k q=>.mk λpins s I=>DW aN pins s σ H Q I (h B F H σ _ k λv F' H' x r=>by cases r;exact⟨i,rfl,q F' H' x⟩)
def cutD(xs:aU)(lo hi:Option Int):aU:=(xs.drop<|HT.XS xs.length 0 lo).take<|HT.XS xs.length xs.length hi-HT.XS xs.length 0 lo
def Xv.cut{K:bL}(r:Xv K F vs xs)(lo hi:Option Int):Xv K F (Gi vs lo hi) (cutD xs lo hi):=by unfold Gi cutD;rw[r.length];exact(r.drop _).take _
def fu{lo hi:Option Expr}{l h:Option Int}(ha:Y4 X ρ a true xs)(hl:NR X ρ lo l)(hh:NR X ρ hi h):XF X ρ (.Subscript a (.Slice lo hi none p2) pos) (cutD xs l h):=.of (vp Oe aN Kf Kf) λB F H σ Q k q=>ha B F H σ _ k λp vs F1 H1 x1 s1 r1=>hl B F1 H1 σ _ (k.ext x1) λF2 H2 x2=>hh B F2 H2 σ _ (k.ext<|x1.t x2) λF3 H3 x3=>by have x:=x1.t<|x2.t x3;refine⟨p,vs,rfl,(s1.mono x2.sh).mono x3.sh,λl' hl'=>?_⟩;have r3:=(r1.mono x2.sf).mono x3.sf;exact q l' _ F3 _ ⟨x.sub.trans<|aR hl',x.sh.trans<|aR hl',x.sf,x.nw⟩ (x.sh.free hl') aM (x.sub.free hl')<|r3.cut l h
def Pn{lo hi:Option Expr}{l h:Option Int}(ha:Y4 X ρ a false xs)(hl:NR X ρ lo l)(hh:NR X ρ hi h)(hw:¬(HT.XS xs.length 0 l=0/\HT.XS xs.length xs.length h=xs.length)):Xs X ρ (.Subscript a (.Slice lo hi none p2) pos) (.tup<|cutD xs l h):=.of (vp QR aN Kf Kf) λB F H σ Q k q=>ha B F H σ _ k λp vs F1 H1 x1 s1 r1=>hl B F1 H1 σ _ (k.ext x1) λF2 H2 x2=>hh B F2 H2 σ _ (k.ext<|x1.t x2) λF3 H3 x3=>by have x:=x1.t<|x2.t x3;have r3:=(r1.mono x2.sf).mono x3.sf;refine⟨p,vs,rfl,(s1.mono x2.sh).mono x3.sh,by rw[r3.length];exact hw,λl' hl'=>?_⟩;exact q _ _ _ (x.grow hl')<|.tup aM<|(r3.cut l h).mono<|aR<|x.sub.free hl'
def ag:Yj X ρ [] []:=⟨trivial,λB F H σ Q k q=>.mk λpos pins s I=>cq pos pins s σ H Q I<|q [] F H (.refl k.sub) .nil⟩
def ab{ds:aU}(h1:Xs X ρ e d)(h2:Yj X ρ es ds)(hs:Pl e:=by intro _ _;rfl):Yj X ρ (e::es) (d::ds):=⟨⟨hs,h2.1⟩,λB F H σ Q k q=>.mk λpos pins s I=>bf aN vw (hs _ _) pos pins s σ H Q I (h1 B F H σ _ k λv F1 H1 x1 r1=>h2.2 B F1 H1 σ _ (k.ext x1) λvs F2 H2 x2 r2=>q _ F2 H2 (x1.t x2)<|.cons (r1.mono x2.sf) r2)⟩
def aG{ds:aU}(h:Yj X ρ es ds)(hl:ds.length<=sizeLine:=by exact cF rfl):Xs X ρ (.Tuple es x1 pos) (.tup ds):=.of (Hm vw) λB F H σ Q k q=>h.2 B F H σ _ k λvs F' H' x r=>⟨by rw[r.length];exact hl,λp hp=>q _ _ _ (x.grow hp)<|.tup aM<|r.mono<|aR<|x.sub.free hp⟩
def bI{ds:aU}(h:Yj X ρ es ds)(hl:ds.length<=sizeLine:=by exact cF rfl):XF X ρ (.List es pos) ds:=.of (Mb vw) λB F H σ Q k q=>h.2 B F H σ _ k λvs F' H' x r=>⟨by rw[r.length];exact hl,λp hp=>q p vs F' _ ⟨x.sub.trans<|aR hp,x.sh.trans<|aR hp,x.sf,x.nw⟩ (x.sh.free hp) aM (x.sub.free hp) r⟩
def M4(ha:Xs X ρ a (.lst xs))(hb:Xs X ρ b (.lst ys))(hz:xs.length+ys.length<=sizeLine):XF X ρ (.BinOp a .Add b pos) (xs++ys):=.of (xL Ro aN aN) λB F H σ Q k q=>two ha hb k λx y F' H' x' rx ry=>by cases rx with|lst h1 r1=>cases ry with|lst h2 r2=>refine⟨_,_,_,_,rfl,rfl,x'.sub _ _ h1,x'.sub _ _ h2,by rw[r1.length,r2.length];exact hz,λp hp=>?_⟩;exact q p _ F' _ ⟨x'.sub.trans<|aR hp,x'.sh.trans<|aR hp,x'.sf,x'.nw⟩ (x'.sh.free hp) aM (x'.sub.free hp)<|r1.append r2
def M1(ha:Xs X ρ a (.lst xs))(hb:Xs X ρ b (.int n))(h1: -(2 ^ 63)<=n)(h2:n<2 ^ 63)(hz:xs.length*n.toNat<=sizeLine):XF X ρ (.BinOp a .Mult b pos) (List.replicate n.toNat xs).flatten:=.of (xL Rk aN aN) λB F H σ Q k q=>two ha hb k λx y F' H' x' rx ry=>by cases rx with|lst g1 r1=>cases ry;refine⟨_,n,_,rfl,rfl,x'.sub _ _ g1,h1,h2,by rw[r1.length];exact hz,λp hp=>?_⟩;exact q p _ F' _ ⟨x'.sub.trans<|aR hp,x'.sh.trans<|aR hp,x'.sf,x'.nw⟩ (x'.sh.free hp) aM (x'.sub.free hp)<|r1.rep _
def wn(ha:Xu X ρ a r):YB X ρ (.BoolOp .And [a] pos) r:=.of (Ow oE) λB F H σ Q k q=>ha B F H σ Q k q
def lT(ha:Xu X ρ a r):YB X ρ (.BoolOp .Or [a] pos) r:=.of (Q3 oE) λB F H σ Q k q=>ha B F H σ Q k q
def wl{bQ:tu}(ha:Xu X ρ a true)(hb:YB X ρ (.BoolOp .And (b::bQ) pos) r):YB X ρ (.BoolOp .And (a::b::bQ) pos) r:=.of (LY oE Ov) λB F H σ Q k q=>ha B F H σ _ k λF1 H1 x1=>by rw[ar rfl];exact hb B F1 H1 σ _ (k.ext x1) λF2 H2 x2=>q F2 H2<|x1.t x2
def wm{bQ:tu}(ha:Xu X ρ a false):YB X ρ (.BoolOp .And (a::b::bQ) pos) false:=.of (LY oE Ov) λB F H σ Q k q=>ha B F H σ _ k λF1 H1 x1=>by rw[ak aC];exact q F1 H1 x1
def fU{bQ:tu}(ha:Xu X ρ a false)(hb:YB X ρ (.BoolOp .Or (b::bQ) pos) r):YB X ρ (.BoolOp .Or (a::b::bQ) pos) r:=.of (Qd oE Ov) λB F H σ Q k q=>ha B F H σ _ k λF1 H1 x1=>by rw[ak aC];exact hb B F1 H1 σ _ (k.ext x1) λF2 H2 x2=>q F2 H2<|x1.t x2
def pJ{bQ:tu}(ha:Xu X ρ a true):YB X ρ (.BoolOp .Or (a::b::bQ) pos) true:=.of (Qd oE Ov) λB F H σ Q k q=>ha B F H σ _ k λF1 H1 x1=>by rw[ar rfl];exact q F1 H1 x1
def YB.toT(h:YB X ρ e r):Xu X ρ e r:=λB F H σ Q k q=>.mk λpins s I=>h B F H σ Q k q _ pins s I
def iC(ha:Xu X ρ a r):Xu X ρ (.UnaryOp .Not a pos) (!r):=.of (Q5 oE) λB F H σ Q k q=>ha B F H σ _ k q
def Ek{op:BoolOp}(h:Xs X ρ a d):Xs X ρ (.BoolOp op [a] pos) d:=.of (Rc aN) λB F H σ Q k q=>h B F H σ Q k q
def Jy{bQ:tu}(ha:Xs X ρ a (.bl true))(hb:Xs X ρ (.BoolOp .And (b::bQ) pos) d):Xs X ρ (.BoolOp .And (a::b::bQ) pos) d:=.of (Mc aN aN) λB F H σ Q k q=>ha B F H σ _ k λv F1 H1 x1 r=>by cases r;exact⟨true,rfl,by rw[ar rfl];exact hb B F1 H1 σ _ (k.ext x1) λv F2 H2 x2 r2=>q v F2 H2 (x1.t x2) r2⟩
def Jz{bQ:tu}(ha:Xs X ρ a (.bl false)):Xs X ρ (.BoolOp .And (a::b::bQ) pos) (.bl false):=.of (Mc aN aN) λB F H σ Q k q=>ha B F H σ _ k λv F1 H1 x1 r=>by cases r;exact⟨false,rfl,by rw[ak aC];exact q _ F1 H1 x1<|.bl false⟩
def HL{bQ:tu}(ha:Xs X ρ a (.bl false))(hb:Xs X ρ (.BoolOp .Or (b::bQ) pos) d):Xs X ρ (.BoolOp .Or (a::b::bQ) pos) d:=.of (Qe aN aN) λB F H σ Q k q=>ha B F H σ _ k λv F1 H1 x1 r=>by cases r;exact⟨false,rfl,by rw[ak aC];exact hb B F1 H1 σ _ (k.ext x1) λv F2 H2 x2 r2=>q v F2 H2 (x1.t x2) r2⟩
def HK{bQ:tu}(ha:Xs X ρ a (.bl true)):Xs X ρ (.BoolOp .Or (a::b::bQ) pos) (.bl true):=.of (Qe aN aN) λB F H σ Q k q=>ha B F H σ _ k λv F1 H1 x1 r=>by cases r;exact⟨true,rfl,by rw[ar rfl];exact q _ F1 H1 x1<|.bl true⟩
def wo(ha:Xs X ρ a (.bl r)):Xs X ρ (.UnaryOp .Not a pos) (.bl (!r)):=.of (Re aN) λB F H σ Q k q=>ha B F H σ _ k λv F1 H1 x1 rv=>by cases rv;exact⟨r,rfl,q _ F1 H1 x1<|.bl _⟩
def ke(hc:Xu X ρ c true)(ha:Xs X ρ a d):Xs X ρ (.IfExp c a b pos) d:=.of (vq oE aN aN) λB F H σ Q k q=>hc B F H σ _ k λF1 H1 x1=>by rw[ar rfl];exact ha B F1 H1 σ _ (k.ext x1) λv F2 H2 x2 r2=>q v F2 H2 (x1.t x2) r2
def kg(hc:Xu X ρ c false)(hb:Xs X ρ b d):Xs X ρ (.IfExp c a b pos) d:=.of (vq oE aN aN) λB F H σ Q k q=>hc B F H σ _ k λF1 H1 x1=>by rw[ak aC];exact hb B F1 H1 σ _ (k.ext x1) λv F2 H2 x2 r2=>q v F2 H2 (x1.t x2) r2
def MW(ha:Xs X ρ e (.int i))(he:∀whole,isTrue e X.env whole=(do let v <-whole;standAt e.pos;holding [v] (truthy v)):=by intro _;rfl):Xu X ρ e (i !=0):=.of (LZ aN he) λB F H σ Q k q=>ha B F H σ _ k λv F1 H1 x1 r=>by cases r;exact⟨_,rfl,q F1 H1 x1⟩
def eD(ha:Xs X ρ e (.bl r))(he:∀whole,isTrue e X.env whole=(do let v <-whole;standAt e.pos;holding [v] (truthy v)):=by intro _;rfl):Xu X ρ e r:=.of (Q4 aN he) λB F H σ Q k q=>ha B F H σ _ k λv F1 H1 x1 rv=>by cases rv;exact⟨r,rfl,q F1 H1 x1⟩
section
def Bh{op:CmpOp}{r:R2}(ho:pQ X (compareOp op) r)(ha:Xs X ρ a da)(hb:Xs X ρ b db)(hm:behindInMarks op b=false)(hr:∀(F H:Hp)x y(Q:VK),Rep X.K F x da->Rep X.K F y db->Q (.bl k) H->r x y H Q):Xu X ρ (.Compare a [op] [b] pos) k:=.of (gh ho aN aN hm) λB F H σ Q k' q=>two ha hb k' λx y F' H' x' rx ry=>hr F' H' x y _ rx ry ⟨k,rfl,q F' H' x'⟩
def fy(ha:Xs X ρ a (.int i))(hb:Xs X ρ b (.int j)):Xu X ρ (.Compare a [.Lt] [b] pos) (decide<|i<j):=Bh Qg ha hb (dX _ (by decide)<|by decide) λF H x y Q rx ry q=>by cases rx;cases ry;exact⟨i,j,rfl,rfl,q⟩
def i6(ha:Xs X ρ a (.int i))(hb:Xs X ρ b (.int j)):Xu X ρ (.Compare a [.Gt] [b] pos) (decide<|j<i):=Bh Qh ha hb (dX _ (by decide)<|by decide) λF H x y Q rx ry q=>by cases rx;cases ry;exact⟨i,j,rfl,rfl,q⟩
def Qw(ha:Xs X ρ a (.int i))(hb:Xs X ρ b (.int j)):Xu X ρ (.Compare a [.GtE] [b] pos) (decide<|j<=i):=Bh TV ha hb (dX _ (by decide)<|by decide) λF H x y Q rx ry q=>by cases rx;cases ry;exact⟨i,j,rfl,rfl,q⟩
def Ge{i:Int}:decide (V.int i=V.int j)=decide (i=j):=by rw[ww,CC]
def bZ(ha:Xs X ρ a (.int i))(hb:Xs X ρ b (.int j)):Xu X ρ (.Compare a [.Eq] [b] pos) (decide<|i=j):=Bh Qi ha hb (dX _ (by decide)<|by decide) λF H x y Q rx ry q=>by cases rx;cases ry;exact⟨rfl,by rw[Ge];exact q⟩
def xj(ha:Xs X ρ a (.int i))(hb:Xs X ρ b (.int j)):Xu X ρ (.Compare a [.NotEq] [b] pos) (!decide (i=j)):=Bh Qf ha hb (dX _ (by decide)<|by decide) λF H x y Q rx ry q=>by cases rx;cases ry;exact⟨rfl,by rw[Ge];exact q⟩
def iD{r:Bool}(t:At X N sc)(ha:BJ X ρ a p)(hb:BJ X ρ b q)(sp:SeqAt.shaped p=true)(sq:SeqAt.shaped q=true)(hr:p.eqv q=r):Xu X ρ (.Compare a [.Eq] [b] pos) r:=.of (gh (LW t sp sq) aN aN<|dX _ (by decide)<|by decide) λB F H σ Q k q=>wN ha hb k λx y F' H' x' rx ry=>⟨rx,ry,r,by rw[hr],q F' H' x'⟩
def kh{r:Bool}(t:At X N sc)(ha:BJ X ρ a p)(hb:BJ X ρ b q)(sp:SeqAt.shaped p=true)(sq:SeqAt.shaped q=true)(hr:(!p.eqv q)=r):Xu X ρ (.Compare a [.NotEq] [b] pos) r:=.of (gh (LV t sp sq) aN aN<|dX _ (by decide)<|by decide) λB F H σ Q k q=>wN ha hb k λx y F' H' x' rx ry=>⟨rx,ry,r,by rw[hr],q F' H' x'⟩
structure pd(X:Cx)(sc:Scope)(x:Str)(u:Value):Prop where
 g:z6 sc x
 m:X.mg x=none
 v:bootBuiltins x=some u
 n:x≠"__name__"
 d:tH x
def dO(t:At X N sc)(h:z6 sc x):Gl X x:=by show X.env.scope.names.lookup x=_;rw[t.eS];exact h
variable {ds:aU}
def Bc{id:String}(t:At X N sc){r:dW->Hp->VK->Prop}(bl:pd X sc x (.builtin id))(hc:iK X (.builtin id) r)(ha:Yj X ρ (e::es) ds)(hr:∀(F H:Hp)vs(Q:VK),XC F H->Xv X.K F vs ds->(∀v F' H',Ext ⟨F,H⟩ F' H'->Rep X.K F' v d->Q v H')->r vs H Q):Xs X ρ (.Call (.Name x p) (e::es) [] pos) d:=.of (jY hc (dO t bl.g) bl.m bl.v vw bl.n bl.d (ha.1.1 _ _)<|PlA.any ha.1.2) λB F H σ Q k q=>ha.2 B F H σ _ k λvs F' H' x' rv=>hr F' H' vs Q x'.sub rv λv F2 H2 x2 r2=>q v F2 H2 (x'.t x2) r2
def xh(t:At X N sc){r:dW->Hp->VK->Prop}(bl:pd X sc x (.type T))(hc:iK X (.type T) r)(ha:Yj X ρ (e::es) ds)(hr:∀(F H:Hp)vs(Q:VK),XC F H->Xv X.K F vs ds->(∀v F' H',Ext ⟨F,H⟩ F' H'->Rep X.K F' v d->Q v H')->r vs H Q):Xs X ρ (.Call (.Name x p) (e::es) [] pos) d:=.of (oF hc (dO t bl.g) bl.m bl.v vw bl.n bl.d (ha.1.1 _ _)<|PlA.any ha.1.2) λB F H σ Q k q=>ha.2 B F H σ _ k λvs F' H' x' rv=>hr F' H' vs Q x'.sub rv λv F2 H2 x2 r2=>q v F2 H2 (x'.t x2) r2
def Xv.one{K:bL}(h:Xv K F vs [d]):∃v,vs=[v]/\Rep K F v d:=by cases h with|cons r t=>cases t;exact⟨_,rfl,r⟩
def Xv.two{K:bL}(h:Xv K F vs [d,e]):∃v u,vs=[v,u]/\Rep K F v d/\Rep K F u e:=by cases h with|cons r t=>obtain⟨u,rfl,q⟩:=t.one;exact⟨_,_,rfl,r,q⟩
def c7(t:At X N sc)(bl:pd X sc x (.builtin "len"))(ha:Y4 X ρ e k xs)(YK:Pl e:=by intro _ _;rfl):Xs X ρ (.Call (.Name x p) [e] [] pos) (.int xs.length):=.of (jY wB (dO t bl.g) bl.m bl.v (bf aN cq<|YK _ _) bl.n bl.d (YK _ _) rfl) λB F H σ Q k' q=>ha B F H σ _ k' λl vs F' H' x' sl rl=>by
  refine⟨l,vs,rfl,?_,?_⟩;·cases k with|true=>exact .inl sl|false=>exact .inr sl
  ·rw[rl.length];exact q _ F' H' x'<|.int _
def HM(t:At X N sc)(bl:pd X sc x (.builtin "abs"))(ha:Xs X ρ e (.int i))(YK:Pl e:=by intro _ _;rfl):Xs X ρ (.Call (.Name x p) [e] [] pos) (.int i.natAbs):=Bc t bl Nd (ab ha ag YK) λF H vs Q sub r q=>by
  obtain⟨v,rfl,rv⟩:=r.one;cases rv;have e:(if i<0 then-i else i)=(i.natAbs:Int):=by split<;>lia
  exact⟨i,rfl,by rw[e];exact q _ F H (.refl sub)<|.int _⟩
def Jq(t:At X N sc)(bl:pd X sc x (.builtin "max"))(ha:Xs X ρ a (.int i))(hb:Xs X ρ b (.int j))(hpa:Pl a:=by intro _ _;rfl)(hpb:Pl b:=by intro _ _;rfl):Xs X ρ (.Call (.Name x p) [a,b] [] pos) (.int<|max i j):=Bc t bl (KF t.calm) (ab ha (ab hb ag hpb) hpa) λF H vs Q sub r q=>by
  obtain⟨v,u,rfl,rv,ru⟩:=r.two;cases rv;cases ru;have e:(if j>i then j else i)=max i j:=by split<;>lia
  exact⟨i,j,rfl,by rw[e];exact q _ F H (.refl sub)<|.int _⟩
def Ju(t:At X N sc)(bl:pd X sc x (.type "int"))(ha:Xs X ρ e (.bl k))(YK:Pl e:=by intro _ _;rfl):Xs X ρ (.Call (.Name x p) [e] [] pos) (.int (if k then 1 else 0)):=xh t bl KG (ab ha ag YK) λF H vs Q sub r q=>by obtain⟨v,rfl,rv⟩:=r.one;cases rv;exact .inr ⟨k,rfl,q _ F H (.refl sub)<|.int _⟩
def Et(t:At X N sc)(bl:pd X sc x (.type "list"))(ha:Y4 X ρ e k xs)(YK:Pl e:=by intro _ _;rfl):XF X ρ (.Call (.Name x p) [e] [] pos) xs:=.of (oF Ez (dO t bl.g) bl.m bl.v (bf aN cq<|YK _ _) bl.n bl.d (YK _ _) rfl) λB F H σ Q k' q=>ha B F H σ _ k' λl vs F' H' x' sl rl=>by
  refine⟨l,vs,rfl,?_,λp hp=>?_⟩;·cases k with|true=>exact .inl sl|false=>exact .inr sl
  ·exact q p vs F' _ ⟨x'.sub.trans<|aR hp,x'.sh.trans<|aR hp,x'.sf,x'.nw⟩ (x'.sh.free hp) aM (x'.sub.free hp) rl
def fw(t:At X N sc)(bl:pd X sc x (.type "tuple"))(ha:Y4 X ρ e true xs)(YK:Pl e:=by intro _ _;rfl):Xs X ρ (.Call (.Name x p) [e] [] pos) (.tup xs):=.of (oF Cf (dO t bl.g) bl.m bl.v (bf aN cq<|YK _ _) bl.n bl.d (YK _ _) rfl) λB F H σ Q k' q=>ha B F H σ _ k' λl vs F' H' x' sl rl=>by refine⟨l,vs,rfl,.inl ⟨sl,λp hp=>?_⟩⟩;exact q _ _ _ (x'.grow hp)<|.tup aM<|rl.mono<|aR<|x'.sub.free hp
def U2:D->Value|.XY=>.type "NoneType" |.bl _=>.type "bool" |.int _=>.type "int" |.str _=>.type "str" |.tup _=>.type "tuple" |.lst _=>.type "list" |.Zf _=>.type "list" |.exc C=>.ref C |.exh C _=>.ref C |.XQ _=>.type "dict" |.adr _=>.type "dict" |.stt _=>.type "dict"
def Vm{X:Cx}(sub:XC F H)(r:Rep X.K F v d)(hd:∀ns,d≠.Zf ns)(hx:∀C ea,d≠.exc C/\d≠.exh C ea/\d≠.adr C:=by intro _ _;exact And.intro (λh=>by cases h)<|And.intro (λh=>by cases h) λh=>by cases h)(hq:∀kvs,d≠.XQ kvs:=by intro _ h;cases h):xq X.K H v (U2 d):=by
 cases r with
 |XY=>exact .XY|bl b=>exact .bl b
 |int i=>exact .int i|str x=>exact .str x
 |tup h _=>exact .tup (sub _ _ h)|lst h _=>exact .lst<|sub _ _ h
 |Zf h=>exact absurd rfl (hd _)|exc h=>exact absurd rfl (hx _ 0).1
 |exh h=>exact absurd rfl (hx _ _).2.1|adr a=>exact absurd rfl (hx a 0).2.2
 |stt h=>exact .dK (sub _ _ h)|XQ h _=>exact absurd rfl<|hq _
def RW{X:Cx}{d:D}(hx:∀C ea,d≠.exc C/\d≠.exh C ea/\d≠.adr C)(hd:∀ns,d≠.Zf ns)(hq:∀kvs,d≠.XQ kvs)(hk:PySem.W.kitOne X.K (U2 d) (.type T)=some k):iK X (.builtin "isinstance") (λxs H Q=>∃x F,xs=[x,.ty T]/\XC F H/\Rep X.K F x d/\Q (.bl k) H):=by intro pins s σ H xs us Q I r h;obtain⟨v,F,rfl,sub,rv,q⟩:=h;obtain⟨u,w,rfl,ru,Zx⟩:=CK r;cases(show w=Value.type T from Zx);exact Kr I ru (Vm sub rv hd hx hq) hk λtk=>⟨.bl k,H,I.tok tk,rfl,q⟩
def pK(t:At X N sc)(bl:pd X sc x (.builtin "isinstance"))(bt:pd X sc y (.type T))(ha:Xs X ρ a d)(hk:PySem.W.kitOne X.K (U2 d) (.type T)=some k)(hd:∀ns,d≠.Zf ns:=by intro _ h;cases h)(hpa:Pl a:=by intro _ _;rfl)(hx:∀C ea,d≠.exc C/\d≠.exh C ea/\d≠.adr C:=by intro _ _;exact And.intro (λh=>by cases h)<|And.intro (λh=>by cases h) λh=>by cases h)(hq:∀kvs,d≠.XQ kvs:=by intro _ h;cases h):Xs X ρ (.Call (.Name x p) [a,.Name y py] [] pos) (.bl k):=.of (jY (RW hx hd hq hk) (dO t bl.g) bl.m bl.v (bf aN (bf (D0 (v:=.ty T) (dO t bt.g) bt.m bt.v rfl bt.n bt.d) cq)<|hpa _ _) bl.n bl.d (hpa _ _) rfl) λB F H σ Q k' q=>ha B F H σ _ k' λv F' H' x' r=>⟨v,F',rfl,x'.sub,r,q _ F' H' x'<|.bl k⟩
def Xv.bls{K:bL}:∀{bs:List Bool}{vs:dW},Xv K F vs (bs.map D.bl)->vs=bs.map V.bl
 |[],_,h=>by cases h;rfl
 |b::bs,_,h=>by cases h with|cons r t=>cases r;rw[aH,Xv.bls t]
def Bq:∀{bs:List Bool}{us:gC},Vals (bs.map V.bl) us->LSm.BoolsAre us bs
 |[],_,r=>by cases r;exact .nil
 |b::bs,_,r=>by rw[aH]at r;cases r with|cons r1 r2=>cases(show _=Value.bool b from r1);exact .cons b<|Bq r2
def KI{X:Cx}(hc:X.calm=true):iK X (.builtin "all") (λxs H Q=>∃(l:Addr)(bs:List Bool),xs=[.ref l]/\XZ X.K H l (bs.map V.bl)/\Q (.bl<|bs.all id) H):=by
 intro pins s σ H xs us Q I r h;obtain⟨l,bs,rfl,sl,q⟩:=h;obtain⟨u,rfl,ru⟩:=jS r;cases(show u=Value.ref l from ru);obtain⟨vs,rv,pl,hz⟩:=I.list sl;have hb:=Bq rv;have hl:=pl.isList;have X3:l<s.heap.objs.size:=by obtain⟨_,e,_⟩:=hl;exact aI e
 refine call_all_walk<|qJ hl ?_;refine⟨s.heap.objs.size,[s.heap.objs.size,l],[s.heap.objs.size],vs.toArray.size,_,_,λi=>(bs[i]?).getD true,rfl,Walks.list (A:=X.A.in1) (I.ok.hd hc) _ l (bi X3) vs.toArray,⟨⟨_,Heap.get?_push_size _ rfl,rfl,rfl⟩,hl.push _⟩,λi v s' Q' E' hP hQ=>?_,λh' tk hk=>?_⟩;·obtain⟨b,e,rfl⟩:=hb.get i v (by simpa using hP);simp only[e,Option.getD_some]at hQ;exact dC hQ
 ·have e:((List.range vs.toArray.size).all λi=>(bs[i]?).getD true)=bs.all id:=by rw[aD,hb.length];exact LSm.range_all bs
  rw[e];exact⟨.bl _,H,I.kept<|LSm.kept_iter hk,rfl,q⟩
def KH{X:Cx}(hc:X.calm=true):iK X (.builtin "any") (λxs H Q=>∃(l:Addr)(bs:List Bool),xs=[.ref l]/\XZ X.K H l (bs.map V.bl)/\Q (.bl<|bs.any id) H):=by
 intro pins s σ H xs us Q I r h;obtain⟨l,bs,rfl,sl,q⟩:=h;obtain⟨u,rfl,ru⟩:=jS r;cases(show u=Value.ref l from ru);obtain⟨vs,rv,pl,hz⟩:=I.list sl;have hb:=Bq rv;have hl:=pl.isList;have X3:l<s.heap.objs.size:=by obtain⟨_,e,_⟩:=hl;exact aI e
 refine call_any_walk<|qJ hl ?_;refine⟨s.heap.objs.size,[s.heap.objs.size,l],[s.heap.objs.size],vs.toArray.size,_,_,λi=>(bs[i]?).getD false,rfl,Walks.list (A:=X.A.in1) (I.ok.hd hc) _ l (bi X3) vs.toArray,⟨⟨_,Heap.get?_push_size _ rfl,rfl,rfl⟩,hl.push _⟩,λi v s' Q' E' hP hQ=>?_,λh' tk hk=>?_⟩;·obtain⟨b,e,rfl⟩:=hb.get i v (by simpa using hP);simp only[e,Option.getD_some]at hQ;exact dC hQ
 ·have e:((List.range vs.toArray.size).any λi=>(bs[i]?).getD false)=bs.any id:=by rw[aD,hb.length];exact LSm.range_any bs
  rw[e];exact⟨.bl _,H,I.kept<|LSm.kept_iter hk,rfl,q⟩
def xi(t:At X N sc){bs:List Bool}(bl:pd X sc x (.builtin "all"))(ha:Y4 X ρ e true (bs.map D.bl))(YK:Pl e:=by intro _ _;rfl):Xs X ρ (.Call (.Name x p) [e] [] pos) (.bl<|bs.all id):=.of (jY (KI t.calm) (dO t bl.g) bl.m bl.v (bf aN cq<|YK _ _) bl.n bl.d (YK _ _) rfl) λB F H σ Q k' q=>ha B F H σ _ k' λl vs F' H' x' sl rl=>by have e:=rl.bls;subst e;exact⟨l,bs,rfl,sl,q _ F' H' x'<|.bl _⟩
def Sk(t:At X N sc){bs:List Bool}(bl:pd X sc x (.builtin "any"))(ha:Y4 X ρ e true (bs.map D.bl))(YK:Pl e:=by intro _ _;rfl):Xs X ρ (.Call (.Name x p) [e] [] pos) (.bl<|bs.any id):=.of (jY (KH t.calm) (dO t bl.g) bl.m bl.v (bf aN cq<|YK _ _) bl.n bl.d (YK _ _) rfl) λB F H σ Q k' q=>ha B F H σ _ k' λl vs F' H' x' sl rl=>by have e:=rl.bls;subst e;exact⟨l,bs,rfl,sl,q _ F' H' x'<|.bl _⟩
def Ly(K:bL)(C:aU->D->Prop):Sp:=λvs H Q _=>∃F ds d,XC F H/\Xv K F vs ds/\C ds d/\∀v F' H',Ext ⟨F,H⟩ F' H'->Rep K F' v d->Q v H'
def Callee(X:Cx)(x:Str)(C:aU->D->Prop):Prop:=∃(f:Addr)(fd:FuncData)(ps:bM)(k:Nat),fj X.prog X.w X.K X.mg X.base jq k f fd ps (Ly X.K C)/\X6 k X.A/\X.mg x=some (.ref f)/\PySem.W.keepIn X.K (.ref f)=true/\Binds X.K fd ps []
def aB(t:At X N sc){C:aU->D->Prop}(h:Callee X x C)(ha:Yj X ρ (e::es) ds)(hC:C ds d)(hg:z6 sc x:=by rfl)(Yt:tH x:=by rfl):Xs X ρ (.Call (.Name x p) (e::es) [] pos) d:=by obtain⟨f,fd,ps,k,F,hr,hm,hk,hb⟩:=h;have pz:i8 jq X E0:=vv;refine .of (mK F hr (dO t hg) hm hk hb .nil pz vw Yt (ha.1.1 _ _)<|PlA.any ha.1.2) λB F' H σ Q k' q=>ha.2 B F' H σ _ k' λvs F1 H1 x1 r1=>?_;refine⟨F1,ds,d,x1.sub,by rw[aV];exact r1,hC,λv F2 H2 x2 r2=>q v F2 H2 (x1.t x2) r2⟩
def dE(sc:Scope):Env:={scope:=sc,locals:=0,globals:=0,cells:=[],qual:="",func:=none,code:=.none,frame:=none,builtins:=0}
def uO{env zF9:Env}(h:env.scope=zF9.scope):swappedStores ts v env=swappedStores ts v zF9:=by unfold swappedStores Env.blockKind Env.kindOf;rw[h]
variable {st:Stmt}{bQ:List Stmt}
def bc:Xt X ρ [] (.nx ρ):=.of Oy λB F H σ E k q=>q F H σ k<|.refl _
def au(h1:X5 X ρ st (.nx ρ'))(h2:Xt X ρ' bQ o):Xt X ρ (st::bQ) o:=.of (ib Az ej) λB F H σ E k q=>h1 B F H σ _ k λF1 H1 σ1 k1 s1=>h2 B F1 H1 σ1 E k1<|q.later s1
def ei(h1:X5 X ρ st (.rt d)):Xt X ρ (st::bQ) (.rt d):=.of (ib Az ej) λB F H σ E k q=>h1 B F H σ _ k q
def aq(h1:X5 X ρ st o):Xt X ρ [st] o:=.of (pF Az) λB F H σ E k q=>h1 B F H σ E k q
def fQ{ρ:cJ}(i:Nat)(hi:ρ[i]?=some (.own xs))(h:Xt X (ρ.set i<|.val<|.lst xs) bQ o):Xt X ρ bQ o:=λB F H σ E k q=>by obtain⟨F',sf,k'⟩:=k.zB2 hi;exact h B F' H σ E k'<|q.later sf
def aW(h:Xs X ρ e d):X5 X ρ (.Return (some e) pos) (.rt d):=.of (AA aN) λB F H σ E k q=>h B F H σ _ k λv F' H' x r=>q v F' H' (k.toExt.trans x) r
def dj(hc:Xu X ρ c true)(h:Xt X ρ ss o):X5 X ρ (.If c ss us pos) o:=.of (C1 oE ej ej) λB F H σ E k q=>hc B F H σ _ k λF1 H1 x1=>by rw[ar rfl];exact h B F1 H1 σ E (k.ext x1)<|q.later x1.sf
def bw(hc:Xu X ρ c false)(h:Xt X ρ us o):X5 X ρ (.If c ss us pos) o:=.of (C1 oE ej ej) λB F H σ E k q=>hc B F H σ _ k λF1 H1 x1=>by rw[ak aC];exact h B F1 H1 σ E (k.ext x1)<|q.later x1.sf
def Jk{x:Str}[Z1 X]:X.fn x=true\/X.env.scope.names.lookup x=some .local:=.inl<|Z1.fn x
def At.loc{x:Str}(t:At X N sc)(hx:nc sc x=true):SO X.env.scope x:=by rw[t.eS];exact RC hx
def At.ix{i:Nat}(t:At X N sc)(h:N[i]?=some x):X.N[i]?=some x:=by rw[t.eN];exact h
def df{pos:Pos}[Z1 X](t:At X N sc)(i:Nat)(h:Xs X ρ e d)(hi:N[i]?=some x:=by rfl)(hx:nc sc x=true:=by rfl)(hs:swapsWith e (some<|.Name x pos') pos.line X.env=pure false:=by rfl):X5 X ρ (.Assign [.Name x pos'] e pos) (.nx<|ρ.set i<|.val d):=.of (rf (i:=i) t.nd (t.ix hi) (t.loc hx) aN hs Jk) λB F H σ E k q=>h B F H σ _ k λv F' H' x' r=>q F' H' _ ((k.ext x').XM i r) x'.sf
def gV{pos:Pos}[Z1 X](t:At X N sc)(i:Nat)(h:XF X ρ e xs)(hi:N[i]?=some x:=by rfl)(hx:nc sc x=true:=by rfl)(hs:swapsWith e (some<|.Name x pos') pos.line X.env=pure false:=by rfl):X5 X ρ (.Assign [.Name x pos'] e pos) (.nx<|ρ.set i<|.own xs):=.of (rf (i:=i) t.nd (t.ix hi) (t.loc hx) aN hs Jk) λB F H σ E k q=>h B F H σ _ k λp vs F' H' x' h0 hp hf r=>q F' H' _ ((k.ext x').ZJ i hp hf (k.sh.free h0) (k.noOwn h0) r) x'.sf
def LC{ρ:cJ}[Z1 X](t:At X N sc)(i:Nat){g:Int->Int->Int}{C:Int->Int->Prop}(ho:pQ X (inplaceOp op) (rI C λi j=>.int<|g i j))(hr:ρ[i]?=some (.val<|.int n))(h:Xs X ρ e (.int m))(hc:C n m)(hi:N[i]?=some x:=by rfl)(hx:nc sc x=true:=by rfl):X5 X ρ (.AugAssign (.Name x pos') op e pos) (.nx<|ρ.set i<|.val<|.int<|g n m):=.of (Hh (i:=i) t.nd (t.ix hi) (t.loc hx) aN (show S6 X op (rI C λi j=>.int<|g i j)from ho) Jk) λB F H σ E k q=>by obtain⟨v,h1,h2⟩:=k.vals i _ hr;cases h2;exact⟨_,h1,h B F H σ _ k λv F' H' x' r=>by cases r;exact⟨n,m,rfl,rfl,hc,q F' H' _ ((k.ext x').XM i<|.int _) x'.sf⟩⟩
def FT:pQ X (inplaceOp .Add) (rI (λ_ _=>True) λi j=>.int<|i+j):=TW λ_ _ _ _ _ _ _ _ q=>iadd_int q
def MB:pQ X (inplaceOp .Sub) (rI (λ_ _=>True) λi j=>.int<|i-j):=TW λ_ _ _ _ _ _ _ _ q=>isub_int q
def LD{ρ:cJ}[Z1 X](t:At X N sc)(i:Nat)(hr:ρ[i]?=some (.val<|.int n))(h:Xs X ρ e (.int m))(hi:N[i]?=some x:=by rfl)(hx:nc sc x=true:=by rfl):X5 X ρ (.AugAssign (.Name x pos') .Add e pos) (.nx<|ρ.set i<|.val<|.int<|n+m):=LC t i FT hr h trivial hi hx
def Ft{ρ:cJ}[Z1 X](t:At X N sc)(i:Nat)(hr:ρ[i]?=some (.val<|.int n))(h:Xs X ρ e (.int m))(hi:N[i]?=some x:=by rfl)(hx:nc sc x=true:=by rfl):X5 X ρ (.AugAssign (.Name x pos') .Sub e pos) (.nx<|ρ.set i<|.val<|.int<|n-m):=LC t i MB hr h trivial hi hx
def dA[Z1 X](t:At X N sc)(i:Nat)(hi:N[i]?=some x:=by rfl)(hx:nc sc x=true:=by rfl):EvG X ρ (.Name x pos) d (ρ.set i<|.val d):=.of (pG (i:=i) t.nd (t.ix hi) (t.loc hx) Jk) λB F H σ v Q k r q=>q F H _ (k.XM i r)<|.refl _
def gN[Z1 X](t:At X N sc)(i j:Nat)(hi:N[i]?=some x:=by rfl)(hj:N[j]?=some y:=by rfl)(hx:nc sc x=true:=by rfl)(hy:nc sc y=true:=by rfl):EvG X ρ (.Tuple [.Name x px,.Name y py] kt pos) (.tup [u,v]) ((ρ.set i<|.val u).set j<|.val v):=.of (Hl t.calm<|rh (pG (i:=i) t.nd (t.ix hi) (t.loc hx) Jk)<|rh (pG (i:=j) t.nd (t.ix hj) (t.loc hy) Jk) DY) λB F H σ w Q k r q=>by cases r with|tup h rl=>obtain⟨v1,v2,rfl,r1,r2⟩:=rl.two;exact⟨_,_,rfl,Yu.of<|k.sub _ _ h,rfl,_,_,rfl,_,_,rfl,rfl,q F H _ ((k.XM i r1).XM j r2)<|.refl _⟩
def br(t:At X N sc)(i:Nat)(hi:N[i]?=some x:=by rfl)(hx:sc.names.lookup x=some .local:=by rfl):ZE X ρ (.Name x pos) d (ρ.set i<|.val d):=.of (pG (i:=i) t.nd (t.ix hi) (by rw[t.eS];exact .inl hx)<|by rw[t.eS];exact .inr hx) λB F H σ v Q k r q=>q _ (k.XM i r) λp h=>h.XM i _ d
def Ga(t:At X N sc)(i j:Nat)(hi:N[i]?=some x:=by rfl)(hj:N[j]?=some y:=by rfl)(hx:sc.names.lookup x=some .local:=by rfl)(hy:sc.names.lookup y=some .local:=by rfl):ZE X ρ (.Tuple [.Name x px,.Name y py] kt pos) (.tup [u,v]) ((ρ.set i<|.val u).set j<|.val v):=.of (Hl t.calm<|rh (pG (i:=i) t.nd (t.ix hi) (by rw[t.eS];exact .inl hx)<|by rw[t.eS];exact .inr hx)<|rh (pG (i:=j) t.nd (t.ix hj) (by rw[t.eS];exact .inl hy)<|by rw[t.eS];exact .inr hy) DY) λB F H σ w Q k r q=>by cases r with|tup h rl=>obtain⟨v1,v2,rfl,r1,r2⟩:=rl.two;exact⟨_,_,rfl,Yu.of<|k.sub _ _ h,rfl,_,_,rfl,_,_,rfl,rfl,q _ ((k.XM i r1).XM j r2) λp h=>(h.XM i _ u).XM j _ v⟩
def Ar{pos:Pos}(t:At X N sc)(h:Xs X ρ e d)(hg:EvG X ρ tg d ρ')(hs:swapsWithSole [tg] e pos.line X.env=pure false:=by rfl)(hw:swappedStores [tg] e (dE sc)=pure none:=by rfl)(h1:(assignEach [tg] X.env).map (·.2)=[assign tg X.env]:=by rfl):X5 X ρ (.Assign [tg] e pos) (.nx ρ'):=.of (L1 aN L8 hs ((uO (show X.env.scope=(dE sc).scope from t.eS)).trans hw) h1) λB F H σ E k q=>h B F H σ _ k λv F1 H1 x1 r1=>hg B F1 H1 σ v _ (k.ext x1) r1 λF2 H2 σ2 k2 s2=>q F2 H2 σ2 k2<|x1.sf.trans s2
def rj{i:Nat}{Q:VK}{ρ:cJ}(t:At X N sc)(hr:ρ[i]?=some (.own xs))(hN:N[i]?=some x)(hv:fB sc x=true)(hx:cv x=true)(k:Ok X.K B F H σ ρ)(h:∀p vs,σ[i]?=some (some<|.ref p)->H p=some (.lst vs)->Xv X.K F vs xs->Q (.ref p) H):wE X (.Name x pos) σ H Q:=.mk λpins s I=>by obtain⟨p,vs,h1,h2,h3,h4,h5⟩:=k.Yk i xs hr;exact xY t hN hv hx pins s σ H Q I ⟨_,h1,h p vs h1 h2 h5⟩
def dI{apos Xz:Pos}{ρ:cJ}{pos:Pos}(t:At X N sc)(i:Nat)(hr:ρ[i]?=some (.own xs))(h:Xs X ρ e d)(hz:xs.length<sizeLine)(hN:N[i]?=some y:=by rfl)(hv:fB sc y=true:=by rfl)(hx:cv y=true:=by rfl)(hs:DA e [] X.env:=by rfl)(XN:(apos.endLine==Xz.line)=true:=by rfl)(Zy:uL Xz [] X.env:=by rfl)(YA:DB Xz [e] X.env:=by rfl)(ZL:swapsWith (.Call (.Attribute (.Name y p) "append" apos) [e] [] Xz) none pos.line X.env=pure false:=by rfl):X5 X ρ (.Expr (.Call (.Attribute (.Name y p) "append" apos) [e] [] Xz) pos) (.nx<|ρ.set i<|.own<|xs++[d]):=.of (iW (vt b0 lm lj oH aN (bf aN cq hs) rfl YA XN hs Zy) ZL) λB F H σ E k q=>rj t hr hN hv hx k λl vs h1 h2 h3=>⟨.inl ⟨rfl,_,XZ.of h2⟩,h B F H σ _ k λv F' H' x' r=>by have k':=k.ext x';have h2':=x'.sh _ _ h2;refine⟨l,vs,v,rfl,rfl,h2',by rw[h3.length];exact hz,?_⟩;exact q F' _ _ (k'.Zs (vs:=vs) hr h1<|(h3.mono x'.sf).append<|.cons r .nil) x'.sf⟩
def Qc{apos Xz:Pos}{ρ:cJ}{pos:Pos}(t:At X N sc)(i:Nat)(hr:ρ[i]?=some (.own xs))(hz:xs≠[])(hN:N[i]?=some y:=by rfl)(hv:fB sc y=true:=by rfl)(hx:cv y=true:=by rfl)(XN:(apos.endLine==Xz.line)=true:=by rfl)(ZL:swapsWith (.Call (.Attribute (.Name y p) "pop" apos) [] [] Xz) none pos.line X.env=pure false:=by rfl):X5 X ρ (.Expr (.Call (.Attribute (.Name y p) "pop" apos) [] [] Xz) pos) (.nx<|ρ.set i<|.own xs.dropLast):=.of (iW (DZ b0 CB CA Hu aN rfl XN) ZL) λB F H σ E k q=>rj t hr hN hv hx k λl vs h1 h2 h3=>⟨.inl ⟨rfl,_,XZ.of h2⟩,by have hl:=h3.length;have ZT:vs≠[]:=λz=>hz<|aT (by rw[<-hl,z];rfl);obtain⟨w,hw⟩:∃w,vs[vs.length-1]?=some w:=⟨vs[vs.length-1]'(by have:=List.length_pos_iff.mpr ZT;lia),List.getElem?_eq_getElem _⟩;exact⟨l,vs,w,rfl,rfl,h2,hw,q F _ _ (k.Zs (vs:=vs) hr h1 h3.dropLast)<|.refl _⟩⟩
def Pv{ρ:cJ}(t:At X N sc)(i:Nat)(hr:ρ[i]?=some (.own xs))(h:Xs X ρ b (.int n))(hj:Ji xs.length n=some j)(hN:N[i]?=some y:=by rfl)(hv:fB sc y=true:=by rfl)(hx:cv y=true:=by rfl)(ha:∀v,assign (.Subscript (.Name y p) b pos) X.env v=(do
   let ov <-holding [v] (eval (.Name y p) X.env)
   let iv <-holding [v,ov] (eval b X.env)
   standAt pos
   holding [v,ov,iv] (setItem ov iv v)
   release [v,ov,iv] []):=by intro _;rfl):EvG X ρ (.Subscript (.Name y p) b pos) d (ρ.set i (.own (xs.set j d))):=
 .of (L9 aN aN Fs ha) λB F H σ v Q k r q=>
  rj t hr hN hv hx k λl vs h1 h2 h3=>h B F H σ _ k λw F' H' x' Zx=>by
   cases Zx
   have h2':=x'.sh _ _ h2
   refine⟨l,vs,n,j,rfl,rfl,h2',by rw[h3.length];exact hj,?_⟩
   exact q F' _ _ ((k.ext x').Zs (vs:=vs) hr h1<|(h3.mono x'.sf).set (r.mono x'.sf) j) x'.sf
def Kw:UN X (TL X.K):=by
 intro pins s σ H o i ov iv Q I ro ri h;obtain⟨p,xs,n,z,rfl,rfl,hq,he,q⟩:=h;cases ro;obtain⟨t,rfl⟩:=ri;obtain⟨its,r,pl,hz⟩:=I.list hq;obtain⟨j,h1,h2,h3,h4,h5⟩:=z4 he;obtain⟨w,ew,Zx⟩:=r.get h2;have hl:=r.length;have hn:=rD;have fin:EP X pins σ Q w s:=⟨z,H,I,Zx,q⟩;by_cases h0:0<=n
 ·have hj:n.toNat=j:=by rw[Vd h0 h5]at h1;exact bG h1
  exact wpAny_getItem_list pl.isList h0 (by lia) (by rw[hj];simpa using ew) fin
 ·have hj:(n+(its.toArray.size:Int)).toNat=j:=by rw[SX (by lia) h4]at h1;rw[aD,<-hl];exact bG h1
  exact wpAny_getItem_list_neg pl.isList (by lia) (by rw[aD]<;>lia) (by lia) (by rw[hj];simpa using ew) fin
def J7{j:Nat}{ρ:cJ}(t:At X N sc)(i:Nat){g:Int->Int->Int}{C:Int->Int->Prop}(ho:pQ X (inplaceOp op) (rI C λi j=>.int<|g i j))(hr:ρ[i]?=some (.own xs))(hb:Xs X ρ b (.int n))(hj:Ji xs.length n=some j)(hu:xs[j]?=some (.int u))(he:Xs X ρ e (.int m))(hc:C u m)(hN:N[i]?=some y:=by rfl)(hv:fB sc y=true:=by rfl)(hx:cv y=true:=by rfl)(ha:∀ov iv new,augStore b ov iv new=(do holding [new,ov,iv] (setItem ov iv new);release [new,ov,iv] [];pure .next):=by intros;rfl):X5 X ρ (.AugAssign (.Subscript (.Name y p) b zEW) op e pos) (.nx<|ρ.set i<|.own<|xs.set j<|.int<|g u m):=.of (OA aN aN Kw aN (show S6 X op (rI C λi j=>.int<|g i j)from ho) Fs ha) λB F H σ E k q=>rj t hr hN hv hx k λl vs h1 h2 h3=>hb B F H σ _ k λw F1 H1 x1 Zx=>by
   cases Zx;have h21:=x1.sh _ _ h2;have hat:qL xs n=some (.int u):=by unfold qL;rw[hj];exact hu
   obtain⟨w,hw1,hw2⟩:=(h3.mono x1.sf).at hat;cases hw2;refine⟨l,vs,n,_,rfl,rfl,XZ.of h21,hw1,he B F1 H1 σ _ (k.ext x1) λw F2 H2 x2 rw2=>?_⟩;cases rw2;have h22:=x2.sh _ _ h21;refine⟨u,m,rfl,rfl,hc,l,vs,n,j,rfl,rfl,h22,by rw[h3.length];exact hj,?_⟩;exact q F2 _ _ ((k.ext<|x1.t x2).Zs (vs:=vs) hr h1<|((h3.mono x1.sf).mono x2.sf).set (.int _) j) (x1.t x2).sf
end
structure wI(X:Cx)(tg e:Expr)(σ:St)(H:Hp)(R:It->Hp->Prop):Prop where
 go:∀(pins:gQ)(s:Shared),Inv X pins σ H s->fh X (eval e X.env) (λv s1=>fh X (pyIter v) (UM X pins σ tg R) X.xe s1) X.xe s
instance zNI {X:Cx} {tg e:Expr} {σ:St} {H:Hp} {R:It->Hp->Prop}:CoeFun (wI X tg e σ H R) (λ_=>∀(pins:gQ)(s:Shared),Inv X pins σ H s->fh X (eval e X.env) (λv s1=>fh X (pyIter v) (UM X pins σ tg R) X.xe s1) X.xe s):=⟨wI.go⟩
def VQ:PI X tg e (wI X tg e):=λpins s _ _ _ I h=>h pins s I
def Bz(K:bL)(J:It)(F:Hp)(ds:aU):Prop:=∀(i:Nat)(F2 H2:Hp),XC F F2->XC F2 H2->(∀d,ds[i]?=some d->J.go i H2/\∀x H',J.yld i H2 x H'->∃F',Ext ⟨F2,H2⟩ F' H'/\Rep K F' x d)/\(ds.length<=i->J.stop i H2)
def ZX(X:Cx)(ρ:cJ)(tg e:Expr)(ds:aU):Prop:=∀(B:B0)(F H:Hp)(σ:St)(R:It->Hp->Prop),Ok X.K B F H σ ρ->(∀J F' H',Ext ⟨F,H⟩ F' H'->Bz X.K J F' ds->R J H')->wI X tg e σ H R
def ZX.of(h:PI X tg e t)(r:∀(B:B0)(F H:Hp)(σ:St)(R:It->Hp->Prop),Ok X.K B F H σ ρ->(∀J F' H',Ext ⟨F,H⟩ F' H'->Bz X.K J F' ds->R J H')->t σ H R):ZX X ρ tg e ds:=λB F H σ R k q=>.mk λpins s I=>h pins s σ H R I<|r B F H σ R k q
def O1{K:bL}(hs:∀H,XC F H->XZ K H l vs)(r:Xv K F vs ds):Bz K (Ws K l) F ds:=λi F2 H2 s1 s2=>⟨λd hd=>by obtain⟨v,hv,rv⟩:=r.get hd;have sq:=hs H2<|s1.trans s2;refine⟨⟨vs,v,sq,hv⟩,λx H' y=>?_⟩;obtain⟨rfl,y⟩:=y;have e:=y vs sq;rw[hv]at e;cases e;exact⟨F2,.refl s2,rv.mono s1⟩,λh=>⟨vs,hs H2<|s1.trans s2,by rw[r.length];exact h⟩⟩
def MA{K:bL}(hs:∀H,XC F H->Yu K H l vs)(r:Xv K F vs ds):Bz K (Wq K l) F ds:=λi F2 H2 s1 s2=>⟨λd hd=>by obtain⟨v,hv,rv⟩:=r.get hd;have sq:=hs H2<|s1.trans s2;refine⟨⟨vs,v,sq,hv⟩,λx H' y=>?_⟩;obtain⟨rfl,y⟩:=y;have e:=y vs sq;rw[hv]at e;cases e;exact⟨F2,.refl s2,rv.mono s1⟩,λh=>⟨vs,hs H2<|s1.trans s2,by rw[r.length];exact h⟩⟩
def mV(h:Xs X ρ e (.lst ds)):ZX X ρ tg e ds:=.of (IT aN) λB F H σ R k q=>h B F H σ _ k λv F' H' x r=>by cases r with|lst hf rl=>exact⟨_,rfl,⟨_,XZ.of<|x.sub _ _ hf⟩,q _ F' H' x<|O1 (λH2 s2=>XZ.of<|s2 _ _ hf) rl⟩
def ki(h:Xs X ρ e (.tup ds)):ZX X ρ tg e ds:=.of (L6 aN) λB F H σ R k q=>h B F H σ _ k λv F' H' x r=>by cases r with|tup hf rl=>exact⟨_,rfl,⟨_,Yu.of<|x.sub _ _ hf⟩,q _ F' H' x<|MA (λH2 s2=>Yu.of<|s2 _ _ hf) rl⟩
def fv(lo:Int)(n:Nat):aU:=(List.range n).map λ(i:Nat)=>D.int<|lo+(i:Int)
def RS{K:bL}{lo:Int}:Bz K (Va lo n) F (fv lo n):=λi F2 H2 s1 s2=>⟨λd hd=>by
  unfold fv at hd;rw[List.getElem?_map]at hd;have hi:i<n:=by
   by_cases h:i<n;·exact h
   ·rw[List.getElem?_eq_none<|by simpa using h]at hd;cases hd
  rw[List.getElem?_range hi]at hd;cases hd;refine⟨hi,λx H' y=>?_⟩;obtain⟨rfl,rfl⟩:=y;exact⟨F2,.refl s2,.int _⟩,λh=>by
   have h':n<=i:=by simpa[fv]using h
   exact h'⟩
def fz(t:At X N sc)(bl:pd X sc "range" (.type "range"))(h:Xs X ρ a (.int j))(h1: -(2 ^ 62)<=j)(h2:j<2 ^ 62)(hs:Pl a:=by intro _ _;rfl):ZX X ρ tg (.Call (.Name "range" p) [a] [] pos) (fv 0 j.toNat):=.of (Kh (dO t bl.g) bl.m (bf aN cq<|hs _ _)<|hs _ _) λB F H σ R k q=>h B F H σ _ k λv F' H' x r=>by cases r;exact⟨j,rfl,h1,h2,q _ F' H' x RS⟩
inductive XO(X:Cx)(tg:Expr)(body:List Stmt):aU->cJ->Out->Prop where
 |nil {ρ:cJ}:XO X tg body [] ρ (.nx ρ)
 |cons {d:D} {ds:aU} {ρ ρ1 ρ2:cJ} {o:Out}:EvG X ρ tg d ρ1->Xt X ρ1 body (.nx ρ2)->XO X tg body ds ρ2 o->XO X tg body (d::ds) ρ o
 |ret {d r:D} {ds:aU} {ρ ρ1:cJ}:EvG X ρ tg d ρ1->Xt X ρ1 body (.rt r)->XO X tg body (d::ds) ρ (.rt r)
def lC{i:Nat}{α:Type}{xs ys:List α}{x:α}(h:xs.drop i=x::ys):xs[i]?=some x/\xs.drop (i+1)=ys/\i<xs.length:=by
 have hi:i<xs.length:=by
  by_cases q:i<xs.length;·exact q
  ·rw[ny<|by lia]at h;cases h
 have e:=cm hi;rw[h]at e;injection e with e1 e2;exact⟨by rw[List.getElem?_eq_getElem hi,e1],e2.symm,hi⟩
def fF(t:At X N sc)(hi:ZX X ρ tg e ds)(h:XO X tg body ds ρ o)(hs:∀x,foldedSetIterable e X.env x=pure x:=by intro _;rfl):X5 X ρ (.For tg e body [] pos) o:=.of (L0 t.pass t.calm VQ L8 ej hs) λB F H σ E k q=>hi B F H σ _ k λJ F1 H1 x1 J1=>by
  refine⟨λi m σ H=>∃ρ' F',Ok X.K B F' H σ ρ'/\XC F1 F'/\XO X tg body (ds.drop i) ρ' o/\m=ds.length-i,⟨ds.length,ρ,F1,k.ext x1,.refl _,by simpa using h,by simp⟩,?_⟩;rintro i m σ H ⟨ρ',F',k',sf,run,rfl⟩;have q':ZC X.K B F' E o:=q.later<|x1.sf.trans sf;have J2:=J1 i F' H sf k'.sub;generalize e1:ds.drop i=bQ at run;cases run with
  |nil=>
   have hl:ds.length<=i:=by have:=aY List.length e1;rw[de,cZ]at this;lia
   exact .inl ⟨J2.2 hl,q' F' H σ k'<|.refl _⟩
  |@cons d0 ds0 ρ0 ρ1 ρ2 o0 g b r=>obtain⟨hd,hr,X3⟩:=lC e1;obtain⟨go,yl⟩:=J2.1 _ hd;refine .inr ⟨go,λσ' H'=>∃Zw,Ok X.K B Zw H' σ' ρ2/\XC F1 Zw,λσ' H' ⟨Zw,k'',s''⟩=>⟨ds.length-(i+1),by lia,_,Zw,k'',s'',by rw[hr];exact r,rfl⟩,λx H' y=>?_⟩;obtain⟨F2,x2,rx⟩:=yl x H' y;refine g B F2 H' σ x _ (k'.ext x2) rx λF3 H3 σ3 k3 s3=>b B F3 H3 σ3 _ k3 λF4 H4 σ4 k4 s4=>⟨F4,k4,sf.trans<|x2.sf.trans<|s3.trans s4⟩
  |ret g b=>obtain⟨hd,hr,X3⟩:=lC e1;obtain⟨go,yl⟩:=J2.1 _ hd;refine .inr ⟨go,λ_ _=>False,λσ' H' z=>z.elim,λx H' y=>?_⟩;obtain⟨F2,x2,rx⟩:=yl x H' y;exact g B F2 H' σ x _ (k'.ext x2) rx λF3 H3 σ3 k3 s3=>b B F3 H3 σ3 _ k3 q
def XO.of(body:List Stmt)(R:Nat->cJ):∀(ds:aU)(i:Nat),(∀(j:Nat)d,ds[j]?=some d->∃ρ1,EvG X (R<|i+j) tg d ρ1/\Xt X ρ1 body (.nx<|R<|i+j+1))->XO X tg body ds (R i) (.nx<|R<|i+ds.length)
 |[],i,_=>.nil
 |d::ds,i,h=>by
  obtain⟨ρ1,h1,h2⟩:=h 0 d rfl;refine .cons h1 h2 ?_;have r:=XO.of body R ds (i+1) λj e he=>by have:=h (j+1) e (by simpa using he);rw[show i+1+j=i+(j+1)by lia];exact this
  rw[show i+(d::ds).length=i+1+ds.length by simp;lia];exact r
inductive Zm(X:Cx)(c:Expr)(body:List Stmt):Nat->cJ->Out->Prop where
 |stop {ρ:cJ}:Xu X ρ c false->Zm X c body 0 ρ (.nx ρ)
 |step {n:Nat} {ρ ρ1:cJ} {o:Out}:Xu X ρ c true->Xt X ρ body (.nx ρ1)->Zm X c body n ρ1 o->Zm X c body (n+1) ρ o
 |ret {ρ:cJ} {r:D}:Xu X ρ c true->Xt X ρ body (.rt r)->Zm X c body 0 ρ (.rt r)
def vf(t:At X N sc)(h:∃n,Zm X c body n ρ o):X5 X ρ (.While c body [] pos) o:=.of (Ay t.pass oE ej) λB F H σ E k q=>by
  obtain⟨n,h⟩:=h;refine⟨λm σ H=>∃ρ' F',Ok X.K B F' H σ ρ'/\XC F F'/\Zm X c body m ρ' o,⟨n,ρ,F,k,.refl _,h⟩,?_⟩;rintro m σ H ⟨ρ',F',k',sf,run⟩;cases run with
  |stop hc=>refine hc B F' H σ _ k' λF1 H1 x1=>?_;rw[ak aC];exact q F1 H1 σ (k'.ext x1)<|sf.trans x1.sf
  |@step n0 ρ0 ρ1 o0 hc hb r=>refine hc B F' H σ _ k' λF1 H1 x1=>?_;rw[ar rfl];exact⟨λσ' H'=>∃Zw,Ok X.K B Zw H' σ' ρ1/\XC F Zw,λσ' H' ⟨Zw,k'',s''⟩=>⟨_,eL _,_,Zw,k'',s'',r⟩,hb B F1 H1 σ _ (k'.ext x1) λF2 H2 σ2 k2 s2=>⟨F2,k2,sf.trans<|x1.sf.trans s2⟩⟩
  |ret hc hb=>refine hc B F' H σ _ k' λF1 H1 x1=>?_;rw[ar rfl];exact⟨λ_ _=>False,λσ' H' z=>z.elim,hb B F1 H1 σ _ (k'.ext x1) q⟩
structure DefX(P:Program)(w:World)(K:bL)(mg:xX)(base:Heap)(k:Nat)(N:bM)(sc:Scope)(X:Cx):Prop where
 at':At X N sc
 prog:X.prog=P
 w':X.w=w
 k':X.K=K
 YQ:X.mg=mg
 zA1:X.base=base
 room:X6 k X.A
 X1:Z1 X
 ZI:X.stack=X.env::X.outer/\X.env.frame=some X.env.locals
def lL{K:bL}(sub:XC F H)(r:Xv K F vs ds)(n:Nat):Ok K ⟨F,H⟩ F H (vs.map some++List.replicate n none) (ds.map Sl.val++List.replicate n Sl.un):=by
 have hl:=r.length;have own:∀(i:Nat)xs,(ds.map Sl.val++List.replicate n Sl.un)[i]?≠some (.own xs):=λi xs h=>by
  by_cases hi:i<ds.length
  ·rw[List.getElem?_append_left<|by simpa using hi,List.getElem?_map]at h;cases e:ds[i]? with
   |none=>rw[e]at h;cases h
   |some d=>rw[e]at h;cases h
  ·rw[List.getElem?_append_right<|by simpa using hi,List.getElem?_replicate]at h;split at h<;>cases h
 have zE2:∀(i:Nat)xs,(ds.map Sl.val++List.replicate n Sl.un)[i]?≠some (.Ye xs):=λi xs h=>by
  by_cases hi:i<ds.length
  ·rw[List.getElem?_append_left<|by simpa using hi,List.getElem?_map]at h;cases e:ds[i]? with
   |none=>rw[e]at h;cases h
   |some d=>rw[e]at h;cases h
  ·rw[List.getElem?_append_right<|by simpa using hi,List.getElem?_replicate]at h;split at h<;>cases h
 refine⟨.refl sub,by simp[hl],λi d h=>?_,λi xs h=>absurd h<|own i xs,λi j xs ys a h=>absurd h<|own i xs,⟨λi kvs h=>absurd h<|zE2 i kvs,λi j xs ys a h=>absurd h<|zE2 i xs⟩⟩;by_cases hi:i<ds.length
 ·rw[List.getElem?_append_left<|by simpa using hi,List.getElem?_map]at h;cases e:ds[i]? with
  |none=>rw[e]at h;cases h
  |some d'=>rw[e]at h;cases h;obtain⟨v,hv,rv⟩:=r.get e;exact⟨v,by rw[List.getElem?_append_left<|by rw[ae];lia,List.getElem?_map,hv];rfl,rv⟩
 ·rw[List.getElem?_append_right<|by simpa using hi,List.getElem?_replicate]at h;split at h<;>cases h
def Um{P:Program}(Yp:P.given.tree=none){w:World}{K:bL}{mg:xX}{base:Heap}{x qual:Str}{st:Stmt}{f:Addr}{fd:FuncData}{N ps:bM}{k:Nat}{C:aU->D->Prop}(F:Fun K x qual st f fd)(S:aE N ps (ah st))(len:∀ds d,C ds d->ds.length=ps.length)(body:∀X,DefX P w K mg base k N (ah st) X->∀ds d,C ds d->Xt X (ds.map Sl.val++List.replicate (N.length-ds.length) Sl.un) (bA st) (.rt d)):fj P w K mg base jq (k+1) f fd ps (Ly K C):=by
 refine F.ok S (λvs H Q E h=>?_) λYd A outer s H vs Q E hr h=>?_;·obtain⟨F',ds,d,sub,r,hC,q⟩:=h;rw[r.length];exact len ds d hC
 ·obtain⟨F',ds,d,sub,r,hC,q⟩:=h;refine⟨_,ej,?_⟩;have hx:DefX P w K mg base k N (ah st) (wx jq P w K mg base N qual (ah st) f Yd A outer s H E).Z2:=⟨⟨rfl,rfl,rfl,S.nd,rfl,hr.units,hr.Zu,Yp,⟨_,_,rfl,S.gen,S.co,rfl,rfl⟩⟩,rfl,rfl,rfl,rfl,rfl,hr,⟨λ_=>rfl⟩,rfl,rfl⟩;have hb:=body _ hx ds d hC;have hk:Ok K ⟨F',H⟩ F' H (start N vs) (ds.map Sl.val++List.replicate (N.length-ds.length) Sl.un):=by unfold start;rw[r.length];exact lL sub r _
  exact hb ⟨F',H⟩ F' H _ _ hk λv F2 H2 x2 r2=>q v F2 H2 x2 r2
def DefX.callee{K:bL}{x:Str}{C:aU->D->Prop}(h:DefX P w K mg base k N sc X)(F:fj P w K mg base jq j f fd ps (Ly K C))(hj:j<=k)(hm:mg x=some (.ref f))(hk:PySem.W.keepIn K (.ref f)=true)(hb:Binds K fd ps []):Callee X x C:=by obtain⟨h0,rfl,rfl,rfl,rfl,rfl,hr,_⟩:=h;exact⟨f,fd,ps,j,F,hr.mono hj,hm,hk,hb⟩
def Av(scope sc:Scope):Scope:={scope with names:=scope.names.map λ(n,k)=>if(k==.free&&sc.kind==.function&&sc.names.lookup n==some .cell)then(n,.cell)else(n,k)}
def DR{sc:Scope}{env:Env}(h:env.scope=sc):relabel scope env=Av scope sc:=by subst h;rfl
def Ex(env:Env):∀(names:List (Str×NameKind))(cs:List (Str×Addr)),(∀n,(n,NameKind.free)∈names->∃c,env.cells.lookup n=some c)->(∀n c,cs.lookup n=some c->env.cells.lookup n=some c)->∃cl:List (Str×Addr),(forIn (m:=Sem) names cs λ(x:Str×NameKind)r=>if x.2==.free then do let c <-cellOf env x.1;pure (ForInStep.yield<|(x.1,c)::r)else pure<|ForInStep.yield r)=pure cl/\(∀n c,cl.lookup n=some c->env.cells.lookup n=some c)/\(∀n,(n,NameKind.free)∈names->∃c,cl.lookup n=some c)/\(∀n c,cs.lookup n=some c->∃c',cl.lookup n=some c')
 |[],cs,_,h=>⟨cs,rfl,h,(λn hn=>nomatch hn),λn c e=>⟨c,e⟩⟩
 |(n,k)::r,cs,hf,h=>by
  rw[P2];by_cases hk:k=.free
  ·subst hk;obtain⟨c,hc⟩:=hf n bo;have Zk:cellOf env n=pure c:=by unfold cellOf;rw[hc]
   have h':∀m c',((n,c)::cs).lookup m=some c'->env.cells.lookup m=some c':=λm c' e=>by
    rw[c9]at e;cases hm:m==n with
    |true=>rw[hm]at e;cases e;rw[eq_of_beq hm];exact hc
    |false=>rw[hm]at e;exact h m c' e
   obtain⟨cl,e1,e2,e3,e4⟩:=Ex env r ((n,c)::cs) (λm hm=>hf m<|aO _ hm) h';refine⟨cl,?_,e2,λm hm=>?_,λm c' e=>?_⟩;·show((do let c <-cellOf env n;pure (ForInStep.yield<|(n,c)::cs))>>=_:Sem (List<|Str×Addr))=_;rw[Zk];exact e1
   ·rcases ax.mp hm with z |z;·cases z;exact e4 n c<|by rw[c9,beq_self_eq_true]
    ·exact e3 m z
   ·by_cases hm:m=n;·subst hm;exact e4 m c<|by rw[c9,beq_self_eq_true]
    ·exact e4 m c'<|by rw[c9,bJ.mpr hm];exact e
  ·have hb:(k==NameKind.free)=false:=bJ.mpr hk;obtain⟨cl,e1,e2,e3,e4⟩:=Ex env r cs (λm hm=>hf m<|aO _ hm) h;refine⟨cl,?_,e2,λm hm=>?_,e4⟩;·show((if(k==NameKind.free)=true then _ else pure<|ForInStep.yield cs)>>=_:Sem (List<|Str×Addr))=_;rw[hb,ak aC];exact e1
   ·rcases ax.mp hm with z |z;·cases z;exact absurd rfl hk
    ·exact e3 m z
def HV{scope:Scope}{env:Env}(hf:∀n,(n,NameKind.free)∈scope.names->∃c,env.cells.lookup n=some c):∃cl:List (Str×Addr),closureFor scope env=pure cl/\(∀n c,cl.lookup n=some c->env.cells.lookup n=some c)/\(∀n,(n,NameKind.free)∈scope.names->∃c,cl.lookup n=some c):=by obtain⟨cl,e1,e2,e3,_⟩:=Ex env scope.names [] hf λn c e=>nomatch e;refine⟨cl,?_,e2,e3⟩;show(forIn (m:=Sem) scope.names ([]:List (Str×Addr)) (λ(x:Str×NameKind)r=>if x.2==.free then do let c <-cellOf env x.1;pure (ForInStep.yield<|(x.1,c)::r)else pure<|ForInStep.yield r)>>=λs=>pure s)=pure cl;rw[e1];rfl
structure uI(N:bM)(sc:Scope)(N':bM)(scope:Scope):Prop where
 kind:scope.kind=.function
 cells:∀y∈scope.names,y.2=.cell->scope.names.lookup y.1=some .cell
 names:∀y∈scope.names,y.2=.local->scope.names.lookup y.1=some .local
 free:∀y∈scope.names,y.2=.free->sc.names.lookup y.1=some .cell
 zF5:sc.kind=.function
 nd:N'.Nodup
 old:∀(i:Nat)x,i<N.length->N'[i]?=some x->fB (Av scope sc) x=true->N[i]?=some x/\scope.names.lookup x=some .free
 len:N.length<=N'.length
def Hq(scope:Scope)(x:Str):Bool:=match scope.names.lookup x with|some .cell=>true|_=>false
structure FC(names:List (Str×NameKind))(cells:List (Str×Addr))(n:Nat)(cl:List (Str×Addr))(h:Heap):Prop where
 look:∀m c,cl.lookup m=some c->(cells.lookup m=some c/\¬(m,NameKind.cell)∈names)\/(n<=c/\(m,NameKind.cell)∈names/\h.IsCell c none)
 has:∀m,((m,NameKind.cell)∈names\/∃c,cells.lookup m=some c)->∃c,cl.lookup m=some c
 inj:∀x y c,n<=c->cl.lookup x=some c->cl.lookup y=some c->x=y
def rK:∀(names:List (Str×NameKind))(cells:List (Str×Addr))(s:Shared)(Q:List (Str×Addr)->Shared->Prop),(∀m c,cells.lookup m=some c->c<s.heap.objs.size)->
  (∀cl h,(∀b o,s.heap.get? b=some o->h.get? b=some o)->FC names cells s.heap.objs.size cl h->Q cl {s with heap:=h})->
  wpAny M A (forIn names cells λx __s=>match x with
   |(name,kind)=>if(kind==NameKind.cell)=true then do
     let a <-alloc {cls:=Value.type "cell",data:=Data.cell none}
     pure (ForInStep.yield<|(name,a)::__s)
    else pure (ForInStep.yield __s)) Q E s
 |[],cells,s,Q,hb,q=>by
  refine av<|q cells s.heap (λ_ _ e=>e) ⟨λm c e=>.inl ⟨e,λz=>nomatch z⟩,λm hm=>hm.elim (λz=>nomatch z) id,λx y c hc e _=>absurd (hb x c e)<|j7 hc⟩
 |(name,kind)::bQ,cells,s,Q,hb,q=>by
  rw[P2]
  by_cases hk:kind=.cell
  ·subst hk
   refine af ?_
   show wpAny M A (alloc _>>=_) _ _ s
   refine af<|wpAny_alloc<|av ?_
   have hsz:(s.heap.push {cls:=Value.type "cell",data:=Data.cell none}).objs.size=s.heap.objs.size+1:=by rw[eG]
   refine rK bQ _ _ _ (λm c e=>?_) λcl h kp f=>q cl h (λb o e=>kp b o<|Heap.get?_push_of_some _ e) ⟨λm c e=>?_,λm hm=>f.has m ?_,λx y c hc ex ey=>?_⟩
   ·show c<(s.heap.push {cls:=Value.type "cell",data:=Data.cell none}).objs.size
    rw[hsz]
    rw[c9]at e
    split at e
    ·cases e;exact eL _
    ·exact jj<|hb m c e
   ·have f':=f.look m c e
    rcases f' with⟨e1,e2⟩ |⟨e1,e2,e3⟩
    ·rw[c9]at e1
     split at e1
     ·rename_i hm
      cases e1
      have hm':m=name:=by simpa using hm
      subst hm'
      exact .inr ⟨aj _,by simp,⟨_,kp _ _<|Heap.get?_push_size _ rfl,rfl⟩⟩
     ·rename_i hm
      have hm':m≠name:=by simpa using hm
      exact .inl ⟨e1,λz=>by
       rcases ax.mp z with z |z
       ·exact hm'<|aY Prod.fst z
       ·exact e2 z⟩
    ·have e1':s.heap.objs.size+1<=c:=by rw[<-hsz];exact e1
     exact .inr ⟨by lia,by simp[e2],e3⟩
   ·rcases hm with hm |⟨c,hc⟩
    ·rcases ax.mp hm with z |z
     ·right
      have:m=name:=aY Prod.fst z
      subst this
      exact⟨s.heap.objs.size,by rw[c9];simp⟩
     ·exact .inl z
    ·right
     rw[c9]
     split
     ·exact⟨_,rfl⟩
     ·exact⟨c,hc⟩
   ·by_cases Z4:s.heap.objs.size+1<=c
    ·exact f.inj x y c (by show(s.heap.push _).objs.size<=c;rw[hsz];exact Z4) ex ey
    ·have one:∀z,cl.lookup z=some c->z=name:=λz ez=>by
      rcases f.look z c ez with⟨e1,_⟩ |⟨e1,_⟩
      ·rw[c9]at e1
       split at e1
       ·rename_i hm;simpa using hm
       ·exact absurd (hb z c e1)<|j7 hc
      ·exact absurd (show s.heap.objs.size+1<=c from aJ (gt hsz.symm) e1) Z4
     rw[one x ex,one y ey]
  ·have hk':(kind==NameKind.cell)=false:=by simpa using hk
   have mem:∀m,(m,NameKind.cell)∈(name,kind)::bQ↔(m,NameKind.cell)∈bQ:=λm=>by
    constructor
    ·intro z
     rcases ax.mp z with z |z
     ·exact absurd (aY Prod.snd z).symm hk
     ·exact z
    ·intro z;simp[z]
   refine af ?_
   show wpAny M A (if(kind==NameKind.cell)=true then _ else _) _ _ s
   rw[hk',ak aC]
   refine av (rK bQ cells s Q hb λcl h kp f=>q cl h kp ⟨λm c e=>?_,λm hm=>f.has m ?_,f.inj⟩)
   ·rw[mem];exact f.look m c e
   ·rw[mem]at hm;exact hm
def FH{s:Shared}{scope:Scope}{env:Env}{cl:List (Str×Addr)}{Q:Env->Shared->Prop}(hb:∀m c,cl.lookup m=some c->c<s.heap.objs.size)(h:∀cl' h',(∀b o,s.heap.get? b=some o->h'.get? b=some o)->(∃m,h'.Ns s.heap.objs.size m)->FC scope.names cl s.heap.objs.size cl' h'->Q {scope:=scope,locals:=s.heap.objs.size,globals:=env.globals,cells:=cl',qual:=env.qual,func:=none,code:=env.code,frame:=env.frame,builtins:=env.builtins} {s with heap:=h'}):wpAny M A (newFunctionEnv scope env.globals cl [] env.qual none .none<|some env) Q E s:=by
 unfold newFunctionEnv;refine af<|wpAny_alloc ?_;have hsz:(s.heap.push {cls:=Value.type "dict",data:=Data.dict #[]}).objs.size=s.heap.objs.size+1:=by rw[eG]
 refine af (rK scope.names cl _ _ (λm c e=>?_) λcl' h' kp f=>?_);·show c<(s.heap.push {cls:=Value.type "dict",data:=Data.dict #[]}).objs.size;rw[hsz];exact jj<|hb m c e
 ·refine af<|av<|av ?_;obtain⟨o,es,ep,g1,g2,g3,g4⟩:=Heap.Ns.new s.heap<|.type "dict";refine h cl' h' (λb o e=>kp b o<|Heap.get?_push_of_some _ e) ⟨_,o,es,ep,kp _ _ g1,g2,g3,g4⟩ ⟨λm c e=>?_,f.has,λx y c hc ex ey=>?_⟩
  ·rcases f.look m c e with z |⟨z1,z2,z3⟩;·exact .inl z
   ·have z1':s.heap.objs.size+1<=c:=aJ (gt hsz.symm) z1;exact .inr ⟨Nat.le_of_succ_le z1',z2,z3⟩
  ·by_cases Z4:s.heap.objs.size+1<=c;·exact f.inj x y c (aJ (gt hsz) Z4) ex ey
   ·have e:c=s.heap.objs.size:=Nat.le_antisymm (Nat.le_of_lt_succ<|Nat.lt_of_not_le Z4) hc;rcases f.look x c ex with⟨z,_⟩ |⟨z,_⟩;·exact absurd (hb x c z)<|j7 hc
    ·have z':s.heap.objs.size+1<=c:=aJ (gt hsz.symm) z;exact absurd z' Z4
structure ZN(X X':Cx)(N':bM)(sc':Scope)(ow:Str->Bool):Prop where
 at0:At0 X' N' sc'
 cal:X'.calm=X.calm
 prog:X'.prog=X.prog
 w':X'.w=X.w
 k':X'.K=X.K
 YQ:X'.mg=X.mg
 zA1:X'.base=X.base
 a':X'.A=X.A
 fn':∀x,ow x=true->X'.fn x=true
structure zAG(X X':Cx)(N':bM)(sc':Scope)(ow:Str->Bool):Prop where
 at':At X' N' sc'
 prog:X'.prog=X.prog
 w':X'.w=X.w
 k':X'.K=X.K
 YQ:X'.mg=X.mg
 zA1:X'.base=X.base
 a':X'.A=X.A
 fn':∀x,ow x=true->X'.fn x=true
section
variable {ow:Str->Bool}
def ZN.calm(h:ZN X X' N' sc' ow)(hc:X.calm=true):zAG X X' N' sc' ow:=⟨h.at0.at<|h.cal.trans hc,h.prog,h.w',h.k',h.YQ,h.zA1,h.a',h.fn'⟩
def zAG.callee{C:aU->D->Prop}(h:zAG X X' N' sc' ow)(c:Callee X x C):Callee X' x C:=by
 obtain⟨f,fd,ps,k,F,hr,hm,hk,hb⟩:=c;refine⟨f,fd,ps,k,?_,?_,?_,?_,?_⟩;·rw[h.prog,h.w',h.k',h.YQ,h.zA1];exact F
 ·rw[h.a'];exact hr
 ·rw[h.YQ];exact hm
 ·rw[h.k'];exact hk
 ·rw[h.k'];exact hb
end
inductive X0(X:Cx)(tg elt:Expr)(ifs:tu):aU->cJ->aU->Prop where
 |nil {ρ:cJ}:X0 X tg elt ifs [] ρ []
 |take {d r:D} {ds rs:aU} {ρ ρ1:cJ}:ZE X ρ tg d ρ1->(ifs=[]\/∃c,ifs=[c]/\Xu X ρ1 c true)->Xs X ρ1 elt r->X0 X tg elt ifs ds ρ1 rs->X0 X tg elt ifs (d::ds) ρ (r::rs)
 |skip {d:D} {ds rs:aU} {ρ ρ1:cJ} {c:Expr}:ZE X ρ tg d ρ1->ifs=[c]->Xu X ρ1 c false->X0 X tg elt ifs ds ρ1 rs->X0 X tg elt ifs (d::ds) ρ rs
section
variable {R:Result->Shared->Prop}
def Ew{env:Env}(I:Nat->Shared->Prop)(turn:∀n s,I n s->wpAny (model prog w) A (pyNext it) (λr s₁=>match r with
   |none=>R (.ok .next) s₁
   |some v=>wpAny (model prog w) A (letOwnedTupleGo target it v) (λ_ s₀=>wpAny (model prog w) A (assign target env v) (λ_ s₂=>
     wpAny (model prog w) A (forIn ifs true λc r=>if r=true then do let ok <-isTrue c env (eval c env);pure (ForInStep.yield ok)else pure<|ForInStep.yield r) (λok s₃=>
      if ok=true then wpAny (model prog w) A (eval elt env) (λx s₄=>
       wpAny (model prog w) A (call (.builtin "list.append") [acc,x]) (λ_ s₅=>∃m,m<n/\I m s₅) (λ_ _=>False) s₄) (λ_ _=>False) s₃
      else∃m,m<n/\I m s₃) (λ_ _=>False) s₂) (λ_ _=>False) s₀) (λ_ _=>False) s₁) (λ_ _=>False) s)(n:Nat)(h:I n s):
  codeAny (model prog w) A (.compLoop (.ListComp elt [⟨target,iter,ifs,0⟩] scope pos) 0 it acc env) R s:=by
 refine codeAny_loop rfl I (λn s hI=>?_) n h
 show wpAny _ A ((compTurn (.ListComp elt [⟨target,iter,ifs,0⟩] scope pos) 0 it acc env).onRaise λx=>do noteFrame x env;theTreesLotGoes x) _ _ s
 refine wpAny_noted ?_
 rw[compTurn_list]
 refine af<|ua<|af (oX (turn n s hI) (λr s₁ h₁=>?_) λ_ _ h'=>h'.elim)
 cases r with
 |none=>exact av h₁
 |some v=>
  refine af (oX h₁ (λ_ s₀ h₀=>af (oX h₀ (λ_ s₂ h₂=>af (oX h₂ (λok s₃ h₃=>?_) λ_ _ h'=>h'.elim)) λ_ _ h'=>h'.elim)) λ_ _ h'=>h'.elim)
  cases ok with
  |false=>exact av ⟨rfl,h₃⟩
  |true=>
   exact af<|af (oX h₃ (λx s₄ h₄=>af (oX h₄ (λ_ s₅ h₅=>av<|av ⟨rfl,h₅⟩) λ_ _ h'=>h'.elim)) λ_ _ h'=>h'.elim)
end
def Ok.zCT{K:bL}{p:Addr}(k:Ok K B F H σ ρ)(hf:F p=none)(hb:B.H p=none)(hn:Yi σ ρ p)(hl:∃vs,H p=some (.lst vs)):Ok K B F (c6 H p o) σ ρ:=by
 refine⟨⟨λb u q=>?_,λb u q=>?_,k.sf,k.nw⟩,k.len,k.vals,λi xs e=>?_,k.dist,k.XQ.to (.refl _) (λb φ e1 e2 _=>⟨by rw[aK λz=>by subst z;obtain⟨vs,hl⟩:=hl;rw[hl]at e1;cases e1];exact e1,e2⟩) λ_ _ e=>⟨e,rfl⟩⟩
 ·have ne:b≠p:=λz=>by subst z;rw[hf]at q;cases q
  rw[aK ne];exact k.sub b u q
 ·have ne:b≠p:=λz=>by subst z;rw[hb]at q;cases q
  rw[aK ne];exact k.sh b u q
 ·obtain⟨a,vs,h1,h2,h3,h4,h5⟩:=k.Yk i xs e;have ne:a≠p:=λz=>by subst z;exact hn i xs e h1
  exact⟨a,vs,h1,by rw[aK ne];exact h2,h3,h4,h5⟩
def Ok.more{K:bL}(k:Ok K B F H σ ρ)(n:Nat):Ok K B F H (σ++List.replicate n none) (ρ++List.replicate n .un):=by
 have get:∀(i:Nat)s,(ρ++List.replicate n Sl.un)[i]?=some s->s≠.un->ρ[i]?=some s/\(σ++List.replicate n none)[i]?=σ[i]?:=λi s h hn=>by
  by_cases hi:i<ρ.length;·rw[List.getElem?_append_left hi]at h;exact⟨h,List.getElem?_append_left<|by rw[k.len];exact hi⟩
  ·rw[List.getElem?_append_right<|by lia,List.getElem?_replicate]at h;split at h;·cases h;exact absurd rfl hn
   ·cases h
 refine⟨k.toExt,by simp[k.len],λi d h=>?_,λi xs h=>?_,λi j xs ys a h1 h2 h3 h4=>?_,k.XQ.to (.refl _) (λ_ _ e1 e2 _=>⟨e1,e2⟩) λi kvs h=>get i _ h λz=>nomatch z⟩;·obtain⟨e1,e2⟩:=get i _ h λz=>nomatch z;rw[e2];exact k.vals i d e1
 ·obtain⟨e1,e2⟩:=get i _ h λz=>nomatch z;rw[e2];exact k.Yk i xs e1
 ·obtain⟨e1,e2⟩:=get i _ h1 λz=>nomatch z;obtain⟨g1,g2⟩:=get j _ h2 λz=>nomatch z;rw[e2]at h3;rw[g2]at h4;exact k.dist i j xs ys a e1 g1 h3 h4
def lN{x:Str}{names:List (Str×NameKind)}{k:NameKind}(h:names.lookup x=some k):(x,k)∈names:=gR h
def Au{scope sc:Scope}{x:Str}(hf:sc.kind=.function)(fr:∀y∈scope.names,y.2=.free->sc.names.lookup y.1=some .cell){k:NameKind}(h:(Av scope sc).names.lookup x=some k):∃k',scope.names.lookup x=some k'/\(k'=.free->k=.cell)/\(k'≠.free->k=k'):=by
 have go:∀names:List (Str×NameKind),(∀y∈names,y.2=.free->sc.names.lookup y.1=some .cell)->(names.map λ(n,k)=>if(k==NameKind.free&&sc.kind==.function&&sc.names.lookup n==some .cell)then(n,NameKind.cell)else(n,k)).lookup x=some k->∃k',names.lookup x=some k'/\(k'=.free->k=.cell)/\(k'≠.free->k=k'):=by
  intro names;induction names with
  |nil=>intro _ h;cases h
  |cons y r ih=>
   intro fr h;obtain⟨n,kk⟩:=y;have hr:=ih λy hy=>fr y<|aO _ hy;by_cases hkk:kk=.free
   ·subst hkk;have hc:=fr (n,.free) bo rfl;have e:(if(NameKind.free==NameKind.free&&sc.kind==.function&&sc.names.lookup n==some .cell)=true then(n,NameKind.cell)else(n,NameKind.free))=(n,NameKind.cell):=by have Z4:sc.names.lookup n=some .cell:=hc;rw[Z4,hf];rfl
    rw[aH]at h;simp only[e]at h;rw[c9]at h ⊢;cases hx:x==n with
    |true=>rw[hx]at h;cases h;exact⟨.free,rfl,λ_=>rfl,λz=>absurd rfl z⟩
    |false=>rw[hx]at h;exact hr h
   ·have e:(if(kk==NameKind.free&&sc.kind==.function&&sc.names.lookup n==some .cell)=true then(n,NameKind.cell)else(n,kk))=(n,kk):=by have hb:(kk==NameKind.free)=false:=bJ.mpr hkk;rw[hb];rfl
    rw[aH]at h;simp only[e]at h;rw[c9]at h ⊢;cases hx:x==n with
    |true=>rw[hx]at h;cases h;exact⟨_,rfl,λz=>absurd z hkk,λ_=>rfl⟩
    |false=>rw[hx]at h;exact hr h
 exact go scope.names fr h
def U6(X:Cx)(N':bM)(scope:Scope)(cl:List (Str×Addr))(C:Addr)(s3:Shared)(H3:Hp)(fp:List Addr):Cx:={X with N:=N',s₀:=s3,H₀:=H3,env:=compEnvC scope cl C X.env,outer:=X.stack,stack:=X.stack,ex:=fp,fn:=Hq scope,pn:=[],xe:=λ_ _=>False}
section
variable {tn:Nat->Heap->Prop}{J:It}{ds rs:aU}
def Sz{cl cl0:List (Str×Addr)}(t:At0 X N sc)(S:uI N sc N' scope)(I3:Inv X pins σ H3 s3)(hc1:∀n c,cl0.lookup n=some c->X.env.cells.lookup n=some c)(hc2:∀n,(n,NameKind.free)∈scope.names->∃c,cl0.lookup n=some c)(CN:FC scope.names cl0 s3.heap.objs.size cl h₁)(fo:∀b∈fp,uF X pins H3 b)(fl:∀b∈fp,b<s3.heap.objs.size):(U6 X N' scope cl s3.heap.objs.size s3 H3 fp).Ok:=by
 refine⟨I3.ok.mod,?_,I3.ok.glob,I3.ok.blt,aj _,λx y c h1 h2=>?_,λx hx=>?_,(λx c hf h=>?_),I3.ok.hd,I3.ok.frames,.inl rfl,λb hb=>⟨?_,λx c h=>?_⟩,I3.bs,aJ I3.ok.bsz I3.sz,λb o h hb=>?_,λb hb h=>?_,I3.stack,I3.zAT⟩;·exact S.kind
 ·by_cases hc:s3.heap.objs.size<=c;·exact CN.inj x y c hc h1 h2
  ·have old:∀z,cl.lookup z=some c->X.env.cells.lookup z=some c:=λz ez=>by
    rcases CN.look z c ez with⟨e,_⟩ |⟨e,_⟩;·exact hc1 z c e
    ·exact absurd e hc
   exact I3.ok.inj x y c (old x h1)<|old y h2
 ·have hx':(relabel scope X.env).names.lookup x=some .cell\/(relabel scope X.env).names.lookup x=some .free:=hx;rw[DR t.eS]at hx';have hk:∃k,(k=NameKind.cell\/k=.free)/\(Av scope sc).names.lookup x=some k:=by
   rcases hx' with h |h;·exact⟨_,.inl rfl,h⟩
   ·exact⟨_,.inr rfl,h⟩
  obtain⟨k,hk,h⟩:=hk;obtain⟨k',h1,h2,h3⟩:=Au S.zF5 S.free h;by_cases hf:k'=.free;·subst hf;exact CN.has x<|.inr<|hc2 x<|lN h1
  ·have e:=h3 hf;rcases hk with hk |hk;·have e':k'=.cell:=e.symm.trans hk;subst e';exact CN.has x<|.inl<|lN h1
   ·exact absurd (e.symm.trans hk) hf
 ·have hm:(x,NameKind.cell)∈scope.names:=by
   have hf':Hq scope x=true:=hf;unfold Hq at hf';cases e:scope.names.lookup x with
   |none=>rw[e]at hf';cases hf'
   |some kk=>rw[e]at hf';cases kk<;>first |exact lN e |cases hf'
  rcases CN.look x c h with⟨_,e⟩ |⟨e,_⟩;·exact absurd hm e
  ·exact e
 ·exact bi<|fl b hb
 ·rcases CN.look x c h with⟨e,_⟩ |⟨e,_⟩;·exact(fo b hb).2.2.2.2.1 x c<|hc1 x c e
  ·exactλz=>absurd (fl b hb)<|by rw[<-z];exact j7 e
 ·rcases(fo b hb).2.2.2.1 with z |z;·exact I3.ok.zBQ b o h z
  ·have h1:=aI h;have h2:=I3.ok.bsz;exact absurd (a9 h1<|aJ h2 z)<|dQ _
 ·have h':b∈oZ X.stack:=h;rcases ax.mp (I3.zAH b h')with z |z;·exact(fo b hb).2.1 z
  ·exact(fo b hb).2.2.1 z
def Px{tk:Nat}{cl cl0:List (Str×Addr)}(t:At0 X N sc)(S:uI N sc N' scope)(I3:Inv X pins σ H3 s3)(hc1:∀n c,cl0.lookup n=some c->X.env.cells.lookup n=some c)(hc2:∀n,(n,NameKind.free)∈scope.names->∃c,cl0.lookup n=some c)(CN:FC scope.names cl0 s3.heap.objs.size cl h₁)(fo:∀b∈fp,uF X pins H3 b)(fl:∀b∈fp,b<s3.heap.objs.size)(hns:∃m,h₁.Ns s3.heap.objs.size m)(kp:∀b o,s3.heap.get? b=some o->h₁.get? b=some o):Inv (U6 X N' scope cl s3.heap.objs.size s3 H3 fp) [] (σ++List.replicate (N'.length-N.length) none) H3 {s3 with heap:=h₁,toks:=tk}:=by
 obtain⟨m,hm⟩:=hns;have hlen:σ.length=N.length:=by rw[I3.len,t.eN]
 refine⟨Sz t S I3 hc1 hc2 CN fo fl,rfl,I3.bare,Un.kept kp,⟨m,hm,λi x v h1 h2 h3=>?_⟩,λx c h=>?_,I3.XR.fresh<|aj _,λx c h=>(CN.look x c h).elim (λz=>I3.YY x c<|hc1 x c z.1) λz=>I3.XR.fresh z.1,(λp hp=>nomatch hp),I3.XR.kept kp,?_⟩
 ·have hi:i<σ.length:=by
   by_cases hi:i<σ.length;·exact hi
   ·rw[List.getElem?_append_right<|by lia,List.getElem?_replicate]at h2;split at h2<;>cases h2
  rw[List.getElem?_append_left hi]at h2;have h3':S5 (Av scope sc) x:=by rw[<-DR t.eS];exact h3
  have hv:fB (Av scope sc) x=true:=by unfold fB;rcases h3' with z |z |z<;>rw[z]
  obtain⟨e1,e2⟩:=S.old i x (by lia) h1 hv;have Zk:sc.names.lookup x=some .cell:=S.free _ (lN e2) rfl;obtain⟨m0,hn0,hl0⟩:=I3.loc;obtain⟨u,ru,lk⟩:=hl0 i x v (by rw[t.eN];exact e1) h2 (by rw[t.eS];exact .inr<|.inl Zk);refine⟨u,ru,?_⟩;have hkx:X.env.kindOf x=some .cell:=by show X.env.scope.names.lookup x=_;rw[t.eS];exact Zk
  rcases lk with⟨k,_⟩ |⟨_,c,hc,hcc⟩;·rw[hkx]at k;cases k
  ·obtain⟨c',Z4⟩:=CN.has x<|.inr<|hc2 x<|lN e2;have ho:cl0.lookup x=some c':=by
    rcases CN.look x c' Z4 with⟨z,_⟩ |⟨_,z,_⟩;·exact z
    ·have z':=S.cells _ z rfl;rw[e2]at z';cases z'
   have e:c'=c:=bG<|(hc1 x c' ho).symm.trans hc;subst e;refine .inr ⟨?_,c',Z4,?_⟩
   ·show(relabel scope X.env).names.lookup x=_\/(relabel scope X.env).names.lookup x=_;rw[DR t.eS];rcases h3' with z |z |z
    ·obtain⟨k',g1,g2,g3⟩:=Au S.zF5 S.free z;by_cases hk':k'=.free;·have:=g2 hk';cases this
     ·have e:=g3 hk';subst e;rw[e2]at g1;cases g1
    ·exact .inl z
    ·exact .inr z
   ·obtain⟨oc,ho,hd⟩:=hcc;exact⟨oc,kp _ _ ho,hd⟩
 ·rcases CN.look x c h with⟨z,_⟩ |⟨_,_,z⟩;·obtain⟨v,oc,ho,hd⟩:=I3.cell x c<|hc1 x c z;exact⟨v,oc,kp _ _ ho,hd⟩
  ·exact⟨_,z⟩
 ·show(σ++List.replicate (N'.length-N.length) none).length=N'.length;have:=S.len;rw[ac,fL,hlen];lia
end
def UT(X:Cx)(pins:gQ)(σ:St)(F2 H2:Hp)(rs:aU)(D' C:Addr)(s':Shared):Prop:=∃(F' H':Hp)(vs:dW)(m:xX),Inv X pins σ H' s'/\s'.heap.Ns C m/\H' C=none/\C≠X.env.locals/\X.s₀.heap.objs.size<=C/\(∀x c,X.env.cells.lookup x=some c->c≠C)/\(∀p∈X.pn++pins,p.1≠C)/\Ext ⟨F2,H2⟩ F' H'/\H2 D'=none/\H' D'=some (.lst vs)/\F' D'=none/\Xv X.K F' vs rs/\D'≠C
section
variable {tn:Nat->Heap->Prop}{J:It}{ds rs:aU}
def KD{s3:Shared}{DD C:Addr}{h₁:Heap}{tk:Nat}{cl cl0:List (Str×Addr)}(t:At0 X N sc)(md:X.calm=true\/(J.hot/\UO X.A H2))(S:uI N sc N' scope)(hC:s3.heap.objs.size=C)(hDC:DD≠C)(I3:Inv X pins σ (c6 H2 DD<|.lst []) s3)(hD0:H2 DD=none)(fo3:∀b∈fp,uF X pins (c6 H2 DD<|.lst []) b)(fl3:∀b∈fp,b<s3.heap.objs.size)(T:Bu X.prog X.w X.K tg J fp it tn)(tn3:tn 0 s3.heap)(zDW:∃m,h₁.Ns s3.heap.objs.size m)(kp4:∀b o,s3.heap.get? b=some o->h₁.get? b=some o)(k2:Ok X.K B F2 H2 σ ρ)(JO:Bz X.K J F2 ds)(hz:ds.length<sizeLine)(hc1:∀n c,cl0.lookup n=some c->X.env.cells.lookup n=some c)(hc2:∀n,(n,NameKind.free)∈scope.names->∃c,cl0.lookup n=some c)(CN:FC scope.names cl0 s3.heap.objs.size cl h₁)(run:∀X',ZN X X' N' (Av scope sc) (Hq scope)->X0 X' tg elt ifs ds (ρ++List.replicate (N'.length-N.length) .un) rs){RR:Value->Addr->Result->Shared->Prop}(hRR:∀D' C s',UT X pins σ F2 H2 rs D' C s'->RR (.ref D') C (.ok .next) s'):codeAny (model X.prog X.w) X.A (.compStart (.ListComp elt [⟨tg,iter,ifs,0⟩] scope pos) 0 (.ref it) (.ref DD)<|compEnvC scope cl C X.env) (RR (.ref DD) C) {s3 with heap:=h₁,toks:=tk}:=by
 have I4:Inv (U6 X N' scope cl C s3 (c6 H2 DD<|.lst []) fp) [] (σ++List.replicate (N'.length-N.length) none) (c6 H2 DD<|.lst []) {s3 with heap:=h₁,toks:=tk}:=by have q:=Px (N':=N') (tk:=tk) (fp:=fp) t S I3 hc1 hc2 CN fo3 fl3 zDW kp4;rw[hC]at q;exact q
 generalize hX':U6 X N' scope cl C s3 (c6 H2 DD<|.lst []) fp=X' at I4;have cx:ZN X X' N' (Av scope sc) (Hq scope):=by subst hX';exact⟨⟨rfl,DR t.eS,S.nd,rfl,t.un,t.dp,t.tree,t.fr⟩,rfl,rfl,rfl,rfl,rfl,rfl,rfl,λx hx=>hx⟩
 have md':X'.calm=true\/(J.hot/\SQ X'):=by
  rcases md with z |⟨z,ea,oe,u,vs,k1,k2,k3,k4⟩;·exact .inl<|cx.cal.trans z
  ·refine .inr ⟨z,ea,oe,u,vs,by rw[cx.a'];exact k1,?_,k3,k4⟩;have e:X'.H₀=c6 H2 DD (.lst []):=by subst hX';rfl
   rw[e,aK<|dR k2 hD0];exact k2
 have run':=run X' cx;have eP:X'.prog=X.prog:=cx.prog;have eW:X'.w=X.w:=cx.w';have eA:X'.A=X.A:=cx.a';have eK:X'.K=X.K:=cx.k';have zB5:X'.env=compEnvC scope cl C X.env:=by subst hX';rfl
 have eX:X'.xe=λ_ _=>False:=cx.at0.Z2;have eEx:X'.ex=fp:=by subst hX';rfl
 have ePn:X'.pn=[]:=by subst hX';rfl
 have k4:Ok X.K B F2 (c6 H2 DD<|.lst []) (σ++List.replicate (N'.length-N.length) none) (ρ++List.replicate (N'.length-N.length) .un):=(k2.zF2 hD0).more _;have no4:Yi (σ++List.replicate (N'.length-N.length) none) (ρ++List.replicate (N'.length-N.length) .un) DD:=(k2.more _).noOwn hD0;have bD:B.H DD=none:=k2.sh.free hD0;have fD:F2 DD=none:=k2.sub.free hD0;have fp4:∀{H':Hp},(∀b∈fp,H' b=none)->∀b∈fp,uF X' [] H' b:=λ{H'}hn b hb=>by
  refine⟨hn b hb,?_,?_,.inl<|by rw[eEx];exact hb,λx c h=>?_,λp hp=>?_⟩;·exact(I4.ok.exf b<|by rw[eEx];exact hb).1
  ·exact I4.ok.zB4 b<|by rw[eEx];exact hb
  ·exact(I4.ok.exf b<|by rw[eEx];exact hb).2 x c h
  ·rw[ePn]at hp;exact nomatch hp
 have fin:∀(σ':St)(F' H':Hp)(vs:dW)(s':Shared),Inv X' [] σ' H' s'->Ext ⟨F2,H2⟩ F' H'->H' DD=some (.lst vs)->F' DD=none->Xv X.K F' vs rs->RR (.ref DD) C (.ok .next) s':=λσ' F' H' vs s' I' x' h1 h2 h3=>by
  refine hRR DD C s' ?_;have base:=I'.base;have hos:=I'.os;have zFS:=I'.XR;have Zj:=I'.free;obtain⟨m,hm,_⟩:=I'.loc;rw[zB5]at Zj hm;rw[eEx]at base;have e1:X'.fs=oZ X.stack:=by subst hX';rfl
  have e2:X'.H₀=c6 H2 DD (.lst []):=by subst hX';rfl
  have e3:X'.s₀=s3:=by subst hX';rfl
  rw[e1,e2,e3]at base;rw[e3]at hos;rw[eP,eW]at zFS;have IX:Inv X pins σ H' s':=I3.zGG (ch:=fp) hos base zFS I'.bare λb hb=>⟨(fo3 b hb).2.2.2.1,(fo3 b hb).2.1,(fo3 b hb).2.2.2.2.1,(fo3 b hb).2.2.2.2.2⟩;refine⟨F',H',vs,m,IX,hm,Zj,?_,?_,λx c h z=>?_,λp hp z=>?_,x',hD0,h1,h2,h3,hDC⟩;·have:=I3.lt;rw[hC]at this;exactλz=>absurd (z▸this)<|dQ _
  ·have:=I3.sz;rw[hC]at this;exact this
  ·obtain⟨v,q⟩:=I3.cell x c h;have:=q.lt;rw[hC,z]at this;exact absurd this<|dQ _
  ·have:=aI (I3.pin p hp).1;rw[hC,z]at this;exact absurd this<|dQ _
 have tn4:tn 0 h₁:=T.keep 0 _ _ tn3 λb hb o e=>kp4 b o e;have loop:∀s4:Shared,s4={s3 with heap:=h₁,toks:=tk}->codeAny (model X.prog X.w) X.A (.compLoop (.ListComp elt [⟨tg,iter,ifs,0⟩] scope pos) 0 (.ref it) (.ref DD)<|compEnvC scope cl C X.env) (RR (.ref DD) C) s4:=by
  rintro s4 rfl;obtain⟨P,hP⟩:∃P:Nat->Shared->Prop,P=λn s'=>∃(i:Nat)(σ':St)(F' H':Hp)(ρ':cJ)(vs:dW)(r0 r1:aU),Inv X' [] σ' H' s'/\tn i s'.heap/\(∀b∈fp,H' b=none)/\Ok X.K B F' H' σ' ρ'/\Ext ⟨F2,H2⟩ F' H'/\H' DD=some (.lst vs)/\F' DD=none/\Yi σ' ρ' DD/\Xv X.K F' vs r0/\X0 X' tg elt ifs (ds.drop i) ρ' r1/\r0++r1=rs/\r0.length<=i/\i<=ds.length/\n=ds.length+1-i:=⟨_,rfl⟩;refine Ew P ?_ (ds.length+1)<|hP▸⟨0,_,F2,_,_,[],[],rs,I4,tn4,λb hb=>(fo3 b hb).1,k4,⟨k2.sub.trans<|aR hD0,aR hD0,.refl _,λa h=>.inl h⟩,aM,fD,no4,.nil,by simpa using run',rfl,bB _,bB _,by simp⟩;intro n s' hs;rw[hP]at hs;obtain⟨i,σ',F',H',ρ',vs,r0,r1,I',tni,fpi,k',x',hH,hF,no',rv,cr,er,hr0,hi,rfl⟩:=hs;have JO':=JO i F' H' x'.sf k'.sub;have TI:=T.item X' eP eW eK md' i [] s' σ' H' (λ_ _=>False) I' (fp4 fpi) tni;have TD:=T.done X' eP eW eK md' i [] s' σ' H' (λ_ _=>False) I' (fp4 fpi) tni;rw[eA]at TI TD;generalize e1:ds.drop i=bQ at cr
  have stepI:∀{TT:Shared->Prop}{d:D}{ρ1:cJ}(hd:ds[i]?=some d)(g:ZE X' ρ' tg d ρ1)(K:∀(Yh:gQ)(s5:Shared)(σ5:St)(F5 H5:Hp),Inv X' Yh σ5 H5 s5->Ok X.K B F5 H5 σ5 ρ1->Ext ⟨F2,H2⟩ F5 H5->H5 DD=some (.lst vs)->F5 DD=none->Yi σ5 ρ1 DD->Xv X.K F5 vs r0->(∀(s6:Shared)(σ6:St)(H6:Hp),Inv X' Yh σ6 H6 s6->Inv X' [] σ6 H6 s6/\tn (i+1) s6.heap/\∀b∈fp,H6 b=none)->TT s5),fh X (pyNext<|.ref it) (λr s₁=>match r with
   |none=>RR (.ref DD) C (.ok .next) s₁
   |some v=>fh X (letOwnedTupleGo tg (.ref it) v) (λ_ s₀=>fh X (assign tg (compEnvC scope cl C X.env) v) (λ_=>TT) (λ_ _=>False) s₀) (λ_ _=>False) s₁) (λ_ _=>False) s':=by
   intro TT d ρ1 hd g K
   obtain⟨go,yl⟩:=JO'.1 _ hd
   refine dM (TI go) λr s4 ⟨u,hr,h4⟩=>?_
   subst hr
   refine dM h4 λ_ s5 ⟨x,H5,I5,r5,y5,st5,fr5⟩=>?_
   obtain⟨F5,x5,rx⟩:=yl x H5 y5
   have I5':=I5.pinned (fp4 fr5)<|T.obj _ _ st5
   have gg:=g B F5 H5 σ' x (λσ6 H6=>H6=H5/\Ok X.K B F5 H5 σ6 ρ1/\Yi σ6 ρ1 DD) (by rw[eK];exact k'.ext x5) (by rw[eK];exact rx) (λσ6 k6 n6=>⟨rfl,by rw[eK]at k6;exact k6,n6 DD no'⟩) _ s5 u I5' r5
   unfold fh at gg;rw[eP,eW,eA,zB5,eX]at gg
   refine dM gg λ_ s6 ⟨σ6,H6,I6,e6,k6,n6⟩=>?_
   subst e6
   refine K _ s6 σ6 F5 H6 I6 k6 (x'.t x5) (x5.sh _ _ hH) ?_ n6 (rv.mono x5.sf) λs7 σ7 H7 I7=>⟨I7.Ze,T.keep _ _ _ st5 λb hb o e=>(I7.pin (b,o)<|bE _<|bE _<|pH hb e).1,λb hb=>?_⟩
   ·exact x5.kf hF hH
   ·obtain⟨o,e,d⟩:=T.obj _ _ st5 b hb;exact(I7.pin (b,o)<|bE _<|bE _<|pH hb e).2.1
  have zGA:∀{d r:D}{zBO rs':aU}{ρ1:cJ}(X3:i<ds.length)(hdr:ds.drop (i+1)=zBO)(ev:Xs X' ρ1 elt r)(cr':X0 X' tg elt ifs zBO ρ1 rs')(er':r0++(r::rs')=rs)(Yh:gQ)(s5:Shared)(σ5:St)(F5 H5:Hp),Inv X' Yh σ5 H5 s5->Ok X.K B F5 H5 σ5 ρ1->Ext ⟨F2,H2⟩ F5 H5->H5 DD=some (.lst vs)->F5 DD=none->Yi σ5 ρ1 DD->Xv X.K F5 vs r0->(∀(s6:Shared)(σ6:St)(H6:Hp),Inv X' Yh σ6 H6 s6->Inv X' [] σ6 H6 s6/\tn (i+1) s6.heap/\∀b∈fp,H6 b=none)->fh X (eval elt<|compEnvC scope cl C X.env) (λx s₄=>fh X (call (.builtin "list.append") [.ref DD,x]) (λ_ s₅=>∃m,m<ds.length+1-i/\P m s₅) (λ_ _=>False) s₄) (λ_ _=>False) s5:=by
   subst hP;intro d r zBO rs' ρ1 X3 hdr ev cr' er' Yh s5 σ5 F5 H5 I5 k5 x5 h5 f5 n5 rv5 back;have ee:=ev B F5 H5 σ5 (λv H6=>∃F6,Ext ⟨F5,H5⟩ F6 H6/\Rep X.K F6 v r) (by rw[eK];exact k5) (λv F6 H6 x6 r6=>⟨F6,x6,by rw[eK]at r6;exact r6⟩) Yh s5 I5;unfold fh at ee;rw[eP,eW,eA,zB5,eX]at ee;refine dM ee λu s6 ⟨v,H6,I6,ru,F6,x6,r6⟩=>?_;have h6:=x6.sh _ _ h5;have f6:F6 DD=none:=x6.kf f5 h5;have hlen:vs.length<sizeLine:=by have:=rv5.length;lia
   have app:=oH (X:=X') Yh s6 σ5 H6 (.ref DD) [v] (.ref DD) [u] (λz H7=>H7=c6 H6 DD (.lst<|vs++[v])) I6 rfl (.cons ru .nil) ⟨DD,vs,v,rfl,rfl,h6,hlen,rfl⟩;unfold fh at app;rw[eP,eW,eA,eX]at app;refine dM app λ_ s7 ⟨z,H7,I7,_,e7⟩=>?_;subst e7;obtain⟨I8,t8,f8⟩:=back s7 σ5 _ I7;have x7:=x5.t x6;refine⟨ds.length+1-(i+1),by lia,i+1,σ5,F6,_,ρ1,vs++[v],r0++[r],rs',I8,t8,f8,(k5.ext x6).zCT f6 bD n5 ⟨_,h6⟩,⟨λb w q=>?_,λb w q=>?_,x7.sf,x7.nw⟩,aM,f6,n5,(rv5.mono x6.sf).append<|.cons r6 .nil,by rw[hdr];exact cr',by rw[az];exact er',by rw[ac,bO];lia,X3,rfl⟩
   ·have ne:b≠DD:=λz=>by subst z;rw[f6]at q;cases q
    rw[aK ne];exact x6.sub b w q
   ·have ne:b≠DD:=λz=>by subst z;have q':H2 b=some w:=q;rw[hD0]at q';cases q'
    rw[aK ne];exact x7.sh b w q
  cases cr with
  |nil=>
   have hl:ds.length<=i:=by have:=aY List.length e1;rw[de,cZ]at this;lia
   refine dM (TD<|JO'.2 hl) λr s4 ⟨hr,I4'⟩=>?_;subst hr;rw[aV]at er;subst er;exact fin σ' F' H' vs s4 I4' x' hH hF rv
  |@take d r ds0 rs0 ρ0 ρ1 g ci ev cr'=>
   obtain⟨hd,hdr,X3⟩:=lC e1;refine stepI hd g λYh s5 σ5 F5 H5 I5 k5 x5 h5 f5 n5 rv5 back=>?_;rcases ci with rfl |⟨c,rfl,et⟩;·refine wpAny_tests_nil ?_;rw[ar rfl];exact zGA (d:=d) X3 hdr ev cr' er Yh s5 σ5 F5 H5 I5 k5 x5 h5 f5 n5 rv5 back
   ·have tt:=et B F5 H5 σ5 (λb H6=>b=true/\∃F6,Ext ⟨F5,H5⟩ F6 H6) (by rw[eK];exact k5) (λF6 H6 x6=>⟨rfl,F6,x6⟩) Yh s5 I5;unfold fh at tt;rw[eP,eW,eA,zB5,eX]at tt;refine wpAny_tests_one (dM tt λb s6 ⟨H6,I6,eb,F6,x6⟩=>?_);subst eb;rw[ar rfl];have f6:F6 DD=none:=x6.kf f5 h5;exact zGA (d:=d) X3 hdr ev cr' er Yh s6 σ5 F6 H6 I6 (k5.ext x6) (x5.t x6) (x6.sh _ _ h5) f6 n5 (rv5.mono x6.sf) back
  |@skip d ds0 rs0 ρ0 ρ1 c g hc et cr'=>obtain⟨hd,hdr,X3⟩:=lC e1;subst hc;refine stepI hd g λYh s5 σ5 F5 H5 I5 k5 x5 h5 f5 n5 rv5 back=>?_;have tt:=et B F5 H5 σ5 (λb H6=>b=false/\∃F6,Ext ⟨F5,H5⟩ F6 H6) (by rw[eK];exact k5) (λF6 H6 x6=>⟨rfl,F6,x6⟩) Yh s5 I5;unfold fh at tt;rw[eP,eW,eA,zB5,eX]at tt;refine wpAny_tests_one (dM tt λb s6 ⟨H6,I6,eb,F6,x6⟩=>?_);subst eb;rw[ak aC];have f6:F6 DD=none:=x6.kf f5 h5;obtain⟨I8,t8,f8⟩:=back s6 σ5 _ I6;subst hP;exact⟨ds.length+1-(i+1),by lia,i+1,σ5,F6,H6,ρ1,vs,r0,_,I8,t8,f8,k5.ext x6,x5.t x6,x6.sh _ _ h5,f6,n5,rv5.mono x6.sf,by rw[hdr];exact cr',er,by lia,X3,rfl⟩
 exact codeAny_compStart_list (loop _ rfl)<|T.self _ 0 _ _ _ tn4<|loop _ rfl
def Nc{cl:List (Str×Addr)}(t:At0 X N sc)(md:X.calm=true\/(J.hot/\UO X.A H2))(S:uI N sc N' scope)(I2:Inv X pins σ H2 s2)(T:Bu X.prog X.w X.K tg J fp it tn)(t0:tn 0 s2.heap)(fo2:∀b∈fp,uF X pins H2 b)(k2:Ok X.K B F2 H2 σ ρ)(JO:Bz X.K J F2 ds)(hz:ds.length<sizeLine)(hc1:∀n c,cl.lookup n=some c->X.env.cells.lookup n=some c)(hc2:∀n,(n,NameKind.free)∈scope.names->∃c,cl.lookup n=some c)(run:∀X',ZN X X' N' (Av scope sc) (Hq scope)->X0 X' tg elt ifs ds (ρ++List.replicate (N'.length-N.length) .un) rs){RR:Value->Addr->Result->Shared->Prop}(hRR:∀D' C s',UT X pins σ F2 H2 rs D' C s'->RR (.ref D') C (.ok .next) s'):fh X (newList []) (λacc s₃=>fh X (newFunctionEnv scope X.env.globals cl [] X.env.qual none .none<|some X.env) (λzGF s₄=>codeAny (model X.prog X.w) X.A (.compStart (.ListComp elt [⟨tg,iter,ifs,0⟩] scope pos) 0 (.ref it) acc {zGF with scope:=relabel scope X.env}) (RR acc zGF.locals) s₄) E s₃) E s2:=by
 have zIP:∀m c,cl.lookup m=some c->c<(s2.heap.push {cls:=.type "list",data:=.seq ([]:gC).toArray}).objs.size:=λm c e=>by obtain⟨v,q⟩:=I2.cell m c<|hc1 m c e;rw[eG];exact jj q.lt
 refine bP (FH zIP λcl' h₁ kp₁ zDW CN=>?_);have I3:Inv X pins σ (c6 H2 s2.heap.objs.size<|.lst []) {s2 with heap:=s2.heap.push {cls:=.type "list",data:=.seq ([]:gC).toArray}}:=I2.zDR (t':=s2.toks) (ys:=[]) .nil<|bB _;have hD0:H2 s2.heap.objs.size=none:=I2.XR.fresh<|aj _;have hsz:(s2.heap.push {cls:=.type "list",data:=.seq ([]:gC).toArray}).objs.size=s2.heap.objs.size+1:=by rw[eG]
 have tfp:∀b∈fp,b<s2.heap.objs.size:=λb hb=>by obtain⟨o,e,_⟩:=T.obj 0 _ t0 b hb;exact aI e
 refine KD (s3:={s2 with heap:=s2.heap.push {cls:=.type "list",data:=.seq ([]:gC).toArray}}) t md S rfl (by show s2.heap.objs.size≠(s2.heap.push {cls:=.type "list",data:=.seq ([]:gC).toArray}).objs.size;rw[hsz];exact bi<|eL _) I3 hD0 (λb hb=>?_) (λb hb=>?_) T (T.keep 0 _ _ t0 λb hb o e=>Heap.get?_push_of_some _ e) zDW kp₁ k2 JO hz hc1 hc2 CN run hRR
 ·obtain⟨f0,f1⟩:=fo2 b hb;exact⟨by rw[aK<|bi<|tfp b hb];exact f0,f1⟩
 ·show b<(s2.heap.push {cls:=.type "list",data:=.seq ([]:gC).toArray}).objs.size;rw[hsz];exact jj<|tfp b hb
end
section
variable {ds rs:aU}
def PB(t:At0 X N sc)(S:uI N sc N' scope)(I:Inv X pins σ H s):∃cl:List (Str×Addr),closureFor scope X.env=pure cl/\(∀n c,cl.lookup n=some c->X.env.cells.lookup n=some c)/\(∀n,(n,NameKind.free)∈scope.names->∃c,cl.lookup n=some c):=HV λn hn=>I.ok.has n<|.inl<|by show X.env.scope.names.lookup n=_;rw[t.eS];exact S.free _ hn rfl
def dP(t:At X N sc)(N':bM)(S:uI N sc N' scope)(hi:ZX X ρ tg iter ds)(hz:ds.length<sizeLine)(run:∀X',zAG X X' N' (Av scope sc) (Hq scope)->X0 X' tg elt ifs ds (ρ++List.replicate (N'.length-N.length) .un) rs)(hs:∀x,foldedSetIterable iter X.env x=pure x:=by intro _;rfl):XF X ρ (.ListComp elt [⟨tg,iter,ifs,0⟩] scope pos) rs:=λB F H σ Q k q=>.mk λpins s I=>by obtain⟨cl,e1,e2,e3⟩:=PB t.z S I;rw[eval_ListComp];have h1:=hi B F H σ (λJ H1=>∃F1,Ext ⟨F,H⟩ F1 H1/\Bz X.K J F1 ds) k (λJ F' H' x j=>⟨F',x,j⟩) pins s I;refine wpAny_comprehension_free (use:=none) rfl hs e1 S.kind S.names (dM h1 λv s1 h=>dM h λitv s2 h2=>?_);obtain⟨it,fp,tn,J,H',e,I2,T,t0,fo,F1,x1,JO⟩:=h2;subst e;refine Nc (RR:=λacc C=>compPost (model X.prog X.w) X.A X.xe none (EP X pins σ Q) acc C) t.z (.inl t.calm) S I2 T t0 fo (k.ext x1) JO hz e2 e3 (λX' c0=>run X'<|c0.calm t.calm) ?_;rintro D' C s' ⟨F',H'',vs,m,IX,hm,h0,hL,hs0,hcl,hpn,x',hd0,hd,hf,rv,hDC⟩;refine⟨m,hm,λh'' sb=>?_⟩;have IX':Inv X pins σ H'' {s' with heap:=h''}:=IX.turned (t':=s'.toks) (it:=C) (λb o hb e=>sb.extBut b o hb e) h0 hL (.inr hs0) hcl hpn;exact⟨.ref D',H'',IX',rfl,q D' vs F' H'' (x1.t x') (x1.sh.free hd0) hd hf rv⟩
def X0.all(R:D->cJ)(f:D->D):∀(ds:aU)(ρ:cJ),(∀d∈ds,ZE X ρ tg d<|R d)->(∀d∈ds,∀e∈ds,ZE X (R d) tg e<|R e)->(∀d∈ds,Xs X (R d) elt<|f d)->X0 X tg elt [] ds ρ (ds.map f)|[],_,_,_,_=>.nil|d::ds,ρ,h1,h2,h3=>.take (h1 d bo) (.inl rfl) (h3 d bo) (X0.all R f ds (R d) (λe he=>h2 d bo e<|aO _ he) (λa ha e he=>h2 a (aO _ ha) e<|aO _ he) λe he=>h3 e<|aO _ he)
end
def Ux(N:bM)(sc:Scope)(N':bM)(scope:Scope):Bool:=
 decide (scope.kind=.function)&&scope.names.all (λy=>decide<|y.2=.cell->scope.names.lookup y.1=some .cell)&&scope.names.all (λy=>decide<|y.2=.local->scope.names.lookup y.1=some .local)&&scope.names.all (λy=>decide<|y.2=.free->sc.names.lookup y.1=some .cell)&&decide (sc.kind=.function)&&decide N'.Nodup&&(List.range N.length).all (λi=>match N'[i]? with
   |some x=>!(fB (Av scope sc) x)||(decide (N[i]?=some x)&&decide (scope.names.lookup x=some .free))
   |none=>true)&&decide (N.length<=N'.length)
def Do{scope:Scope}(h:Ux N sc N' scope=true):uI N sc N' scope:=by unfold Ux at h;simp only[eO,bj,NF]at h;obtain⟨⟨⟨⟨⟨⟨⟨h1,h2⟩,h3⟩,h4⟩,h5⟩,h6⟩,h7⟩,h8⟩:=h;refine⟨h1,h2,h3,h4,h5,h6,λi x hi hx hv=>?_,h8⟩;have q:=h7 i<|List.mem_range.mpr hi;rw[hx]at q;simp only[hv,Bool.not_true,GW,eO,bj]at q;exact q
def EG{X:Cx}{x:Str}(hm:X.mg x=none)(g:z6 sc x:=by rfl)(v:bootBuiltins x=some u:=by rfl)(n:x≠"__name__":=by decide)(d:tH x:=by rfl):pd X sc x u:=⟨g,hm,v,n,d⟩
abbrev bh(f:be):D:=.tup<|f.map D.int
abbrev dJ(f:be):D:=.lst<|f.map D.int
def zz{xs:be}{i:Int}{n:Nat}(h0:0<=i)(hn:i.toNat=n)(h:n<xs.length):qL (xs.map D.int) i=some (.int xs[n]):=by
 have e:i=((n:Nat):Int):=by lia
 subst e;exact jN<|by rw[List.getElem?_map,List.getElem?_eq_getElem h];rfl
def A3{n:Nat}{i:Int}{j:Nat}(h0:0<=i)(hn:i.toNat=j)(h:j<n):Ji n i=some j:=by unfold Ji;rw[ar h0,ar<|by lia,hn]
def F8(xs ys:be):PyData.eqvAll (xs.map PyData.int) (ys.map PyData.int)=decide (xs=ys):=by
 induction xs generalizing ys with
 |nil=>cases ys<;>simp[PyData.eqvAll]
 |cons x xs ih=>cases ys with|nil=>simp[PyData.eqvAll]|cons y ys=>simp only[aH,PyData.eqvAll,PyData.eqv,ih];by_cases h1:x=y<;>by_cases h2:xs=ys<;>simp[h1,h2]
def io(xs ys:be):(dY<|bh xs).eqv (dY<|bh ys)=decide (xs=ys):=by show(PyData.tuple<|XB<|xs.map D.int).eqv (.tuple<|XB<|ys.map D.int)=_;rw[lu,lu];simp only[PyData.eqv];exact F8 xs ys
def Er(xs ys:be):(PyData.list<|XB<|xs.map D.int).eqv (.list<|XB<|ys.map D.int)=decide (xs=ys):=by rw[lu,lu];simp only[PyData.eqv];exact F8 xs ys
def Gk(xs:be):PyData.canLayAll0 (xs.map PyData.int)=true:=PySem.W.canLayAll0_ints xs
def bz(xs:be):SeqAt.shaped (dY<|bh xs)=true:=by
 show SeqAt.shaped (.tuple<|XB<|xs.map D.int)=true;rw[lu];have h1:=PySem.W.depthAll_ints xs;have h2:PyData.depth (.tuple<|xs.map PyData.int)<=64:=by simp only[PyData.depth];lia
 show(PyData.canLay0 (.tuple<|xs.map PyData.int)&&decide (PyData.depth (.tuple<|xs.map PyData.int)<=64))=true;rw[eO];exact⟨by simp only[PyData.canLay0];exact Gk xs,aF h2⟩
def iw(xs:be):SeqAt.shaped (PyData.list<|XB<|xs.map D.int)=true:=by rw[lu];exact PySem.W.shaped_ints xs
inductive Zt:cJ->cJ->Prop where
 |nil:Zt [] []
 |keep {s:Sl} {a b:cJ}:Zt a b->Zt (s::a) (s::b)
 |forget {s:Sl} {a b:cJ}:Zt a b->Zt (s::a) (.un::b)
def Zt.len:∀{a b:cJ},Zt a b->a.length=b.length
 |_,_,.nil=>rfl|_,_,.keep h=>aY Nat.succ h.len
 |_,_,.forget h=>aY Nat.succ h.len
def Zt.get:∀{a b:cJ},Zt a b->∀(i:Nat)(s:Sl),b[i]?=some s->s≠.un->a[i]?=some s
 |_,_,.nil,_,_,h,_=>by simp at h|_,_,.keep h,0,s,e,_=>by simpa using e
 |_,_,.keep h,i+1,s,e,hn=>by simpa using h.get i s (by simpa using e) hn|_,_,.forget h,0,s,e,hn=>by simp at e;exact absurd e.symm hn
 |_,_,.forget h,i+1,s,e,hn=>by simpa using h.get i s (by simpa using e) hn
def Ok.weak{K:bL}(k:Ok K B F H σ a)(w:Zt a b):Ok K B F H σ b:=⟨k.toExt,k.len.trans w.len,λi d h=>k.vals i d (w.get i _ h λz=>nomatch z),λi xs h=>k.Yk i xs (w.get i _ h λz=>nomatch z),λi j xs ys p h1 h2=>k.dist i j xs ys p (w.get i _ h1 λz=>nomatch z) (w.get j _ h2 λz=>nomatch z),k.XQ.to (.refl _) (λ_ _ e1 e2 _=>⟨e1,e2⟩) λi kvs h=>⟨w.get i _ h (λz=>nomatch z),rfl⟩⟩
def Xt.weak(h:Xt X ρ ZH (.nx ρ1))(w:Zt ρ1 ρ2):Xt X ρ ZH (.nx ρ2):=λB F H σ E k q=>h B F H σ E k λF' H' σ' k' s'=>q F' H' σ' (k'.weak w) s'
def Xu.eq{b':Bool}(h:Xu X ρ e b)(q:b=b'):Xu X ρ e b':=q▸h
def Xs.eq{d':D}(h:Xs X ρ e d)(q:d=d'):Xs X ρ e d':=q▸h
def XF.eq{d':aU}(h:XF X ρ e d)(q:d=d'):XF X ρ e d':=q▸h
def Y4.eq{d':aU}(h:Y4 X ρ e k d)(q:d=d'):Y4 X ρ e k d':=q▸h
def ZX.eq{d':aU}(h:ZX X ρ tg e d)(q:d=d'):ZX X ρ tg e d':=q▸h
def Xt.eq{o':Out}(h:Xt X ρ ZH o)(q:o=o'):Xt X ρ ZH o':=q▸h
def X5.eq{st:Stmt}{o':Out}(h:X5 X ρ st o)(q:o=o'):X5 X ρ st o':=q▸h
def XO.same(ρ:cJ):∀(ds:aU),(∀d∈ds,∃ρ1,EvG X ρ tg d ρ1/\Xt X ρ1 body (.nx ρ))->XO X tg body ds ρ (.nx ρ)|[],_=>.nil|d::ds,h=>by obtain⟨ρ1,h1,h2⟩:=h d bo;exact .cons h1 h2 (XO.same ρ ds λe he=>h e<|aO _ he)
def XO.zHC{ds:aU}(R:Nat->cJ)(h:∀(j:Nat)d,ds[j]?=some d->∃ρ1,EvG X (R j) tg d ρ1/\Xt X ρ1 body (.nx<|R<|j+1)):XO X tg body ds (R 0) (.nx<|R ds.length):=by
 have q:=XO.of (X:=X) (tg:=tg) body R ds 0 λj d e=>by obtain⟨ρ1,h1,h2⟩:=h j d e;exact⟨ρ1,by simpa using h1,by simpa using h2⟩
 simpa using q
def XO.XW{ds:aU}{ρ ρ':cJ}(R:Nat->cJ)(h:∀(j:Nat)d,ds[j]?=some d->∃ρ1,EvG X (R j) tg d ρ1/\Xt X ρ1 body (.nx<|R<|j+1))(e0:R 0=ρ)(e1:R ds.length=ρ'):XO X tg body ds ρ (.nx ρ'):=by subst e0;subst e1;exact XO.zHC R h
def oG{j:Int}(h1: -(2 ^ 64)<j)(h2:j<2 ^ 64):IntMulOk i j:=.of_right<|intBits_le_64 h1 h2
def rq{i j:Int}(h1: -(2 ^ 64)<i)(h2:i<2 ^ 64):IntMulOk i j:=.of_left<|intBits_le_64 h1 h2
def fX(xs:be)(lo hi:Option Int):be:=(xs.drop<|HT.XS xs.length 0 lo).take<|HT.XS xs.length xs.length hi-HT.XS xs.length 0 lo
def ic(xs:be)(lo hi:Option Int):cutD (xs.map D.int) lo hi=(fX xs lo hi).map D.int:=by unfold cutD fX;rw[ae,UY,List.map_drop]
def Nb(xs:be)(lo hi:Option Int):(fX xs lo hi).length<=xs.length:=by unfold fX;rw[bC,de];lia
def LR(k:Nat)(n:Int):(List.replicate k [D.int n]).flatten=(List.replicate k n).map D.int:=by induction k with|zero=>rfl|succ k ih=>rw[bg,fg,ih,bg,aH];rfl
def X0.gen{α:Type}(g f:α->D)(R:α->cJ):∀(xs:List α)(ρ:cJ),(∀x∈xs,ZE X ρ tg (g x)<|R x)->(∀x∈xs,∀y∈xs,ZE X (R x) tg (g y)<|R y)->(∀x∈xs,Xs X (R x) elt<|f x)->X0 X tg elt [] (xs.map g) ρ (xs.map f)|[],_,_,_,_=>.nil|x::xs,ρ,h1,h2,h3=>.take (h1 x bo) (.inl rfl) (h3 x bo) (X0.gen g f R xs (R x) (λe he=>h2 x bo e<|aO _ he) (λa ha e he=>h2 a (aO _ ha) e<|aO _ he) λe he=>h3 e<|aO _ he)
def tY:(sizeLine:Nat)=16777216:=cO
open AutoSeq1 (wpAny_loadPart')
def x8{Q:wL}{s:Shared}(hit:s.heap.IsTupleIter it t i)(ht:s.heap.IsTuple t items)(hx:items[i]?=some x)(hQ:∀h',h'.IsTupleIter it t (i+1)->Heap.SameBut it s.heap h'->Q x {s with heap:=h'}):wpAny (model prog w) A (Builtin.SmallTypes.nextOf<|.ref it) Q E s:=by obtain⟨o,ho,hc,hd⟩:=id hit;obtain⟨ol,hol,_,nl,hdl⟩:=ht;unfold Builtin.SmallTypes.nextOf;refine af<|wpAny_callSpecial?_slot (name:=Str.ofString "__next__") hit.typeIs lp<|fc lp hit.typeIs WT ?_<|WE _;show wpAny _ _ (field (.ref it) 0>>=_) _ _ s;refine af<|fR ho hd (x:=.ref t) rfl ?_;show wpAny _ _ (if(Value.ref t==Value.none)=true then _ else _) _ _ s;rw[ak (show¬((Value.ref t==Value.none)=true)from aC)];show wpAny _ _ (field (.ref it) 1>>=_) _ _ s;refine af<|fR ho hd (x:=.int i 0) rfl ?_;show wpAny _ _ (seqItems? (.ref t)>>=_) _ _ s;refine af<|yv hol hdl ?_;simp only[dw,hx];refine af<|KW ho hd (by simp)<|av ⟨x,rfl,av<|hQ _ ?_<|Heap.SameBut.update ..⟩;exact⟨_,Heap.get?_update_self _ ho<|Obj.isFreed_of_fields<|Obj.data_mapFields hd _,(Obj.cls_mapFields ..).trans hc,by rw[Obj.data_mapFields hd];simp[rawInt]⟩
def rm{A:Around}{E:wL}{s:Shared}(hh:A.handled=none)(hit:s.heap.IsTupleIter it t i)(ht:s.heap.IsTuple t items)(hx:items[i]?=none)(hE:∀h' e,Heap.ExtBut it s.heap h'->(∃o,h'.get? e=some o/\o.cls=.type "StopIteration")->E (.ref e) {s with heap:=h'}):wpAny (model prog w) A (Builtin.SmallTypes.nextOf<|.ref it) Q E s:=by
 obtain⟨o,ho,hc,hd⟩:=id hit;obtain⟨ol,hol,_,nl,hdl⟩:=ht;unfold Builtin.SmallTypes.nextOf;refine af<|wpAny_callSpecial?_slot (name:=Str.ofString "__next__") hit.typeIs lp<|fc lp hit.typeIs WT ?_<|WE _;show wpAny _ _ (field (.ref it) 0>>=_) _ _ s;refine af<|fR ho hd (x:=.ref t) rfl ?_;show wpAny _ _ (if(Value.ref t==Value.none)=true then _ else _) _ _ s;rw[ak (show¬((Value.ref t==Value.none)=true)from aC)];show wpAny _ _ (field (.ref it) 1>>=_) _ _ s;refine af<|fR ho hd (x:=.int i 0) rfl ?_;show wpAny _ _ (seqItems? (.ref t)>>=_) _ _ s;refine af<|yv hol hdl ?_;simp only[dw,hx];refine af<|Xa<|af<|KW ho hd (by simp) ?_;show wpAny _ _ (newExc (.type "StopIteration") []>>=_) _ _ _;refine af ?_;simp only[newExc,newTuple];refine af<|bP ?_ (by size_fits);refine af (m:=firstArgMember _ _)<|fq (a:=Value.none) (by first |rfl |(simp only[firstArgMember];rfl)) ?_;refine bP ?_ (by size_fits);simp only[raiseNew];refine af<|wpAny_handled ?_;first |rw[show A.in1.handled=none from hh] |rw[hh]
 refine af<|av<|wpAny_throw ?_;exact hE _ _ (((Heap.SameBut.update ..).extBut.push _).push _) ⟨_,Heap.get?_push_size _ rfl,rfl⟩
def KA{A:Around}(hh:A.handled=none)(it t:Addr)(ZT:t≠it)(items:Array Value):Draws prog w A it [it,t] items.size (λi v=>items[i]?=some v) (λi h=>h.IsTupleIter it t i/\h.IsTuple t items) where
 live:=λ_ _ st=>let⟨o,ho,_⟩:=st.1;⟨o,ho⟩
 frame:=λ_ _ _ st hk=>⟨st.1.at λo e=>hk it (by simp) o e,let⟨o,e,r⟩:=st.2;⟨o,hk t (by simp) o e,r⟩⟩
 item:=λi s Q E hi st hQ=>by refine x8 st.1 st.2 (x:=items[i]) (by simp[hi]) λh' zIG hs'=>?_;exact hQ _ h' s.toks (by simp[hi]) ⟨zIG,let⟨o,e,r⟩:=st.2;⟨o,hs'.extBut t o ZT e,r⟩⟩ hs'
 done:=λs Q E st hE=>rm hh st.1 st.2 (by simp) hE
def FJ(l:Addr)(items:Array Value)(n:Nat)(Ye:Option Addr)(sl:Array (Option Value)):Meets (Builtin.«enumerate.__new__» ⟨[.type "enumerate",.ref l],[]⟩) (λ_ R s=>s.heap.get? l=some {cls:=.type "tuple",dict:=Ye,data:=.seq items n,slots:=sl}/\R (.ok<|.ret<|.ref (s.heap.push {cls:=.type "tuple_iterator",data:=.fields #[.ref l,.int 0 0]}).objs.size) {s with heap:=(s.heap.push {cls:=.type "tuple_iterator",data:=.fields #[.ref l,.int 0 0]}).push {cls:=.type "enumerate",data:=.fields #[.none,.bool false,.ref s.heap.objs.size,rawInt 0,.none,.none]}}):=.of_wp λprog w A R s h=>by
  obtain⟨hp,g,d,tk,os⟩:=s;obtain⟨hl,h⟩:=h;have zPX:=sub_enumerate;have hL:Heap.IsTuple (Shared.heap ⟨hp,g,d,tk,os⟩) l items:=⟨_,hl,rfl,n,rfl⟩
  wp_walk using jB hl
  refine wpAny_stack_any λst=>av ?_;split
  ·rename_i c _ _ _ _ _;cases(c==Value.type "enumerate")
   ·wp_walk using jB hl,yw hL
    exact⟨_,rfl,h⟩
   ·wp_walk using jB hl,yw hL
    exact⟨_,rfl,h⟩
  ·wp_walk using jB hl,yw hL
   exact⟨_,rfl,h⟩
def HX{Q:wL}{s:Shared}(hL:s.heap.IsTuple l items)(h:∀h',IsEnum h' (s.heap.objs.size+1) s.heap.objs.size 0 .none->h'.IsTupleIter s.heap.objs.size l 0->h'.objs.size=s.heap.objs.size+2->(∀b o,s.heap.get? b=some o->h'.get? b=some o)->Q (.ref<|s.heap.objs.size+1) {s with heap:=h'}):wpAny (model prog w) A (call (.type "enumerate") [.ref l]) Q E s:=by
 obtain⟨⟨c,Ye,dt,sl⟩,hl,hc,n,hd⟩:=hL;replace hc:c=.type "tuple":=hc;replace hd:dt=.seq items n:=hd;subst hc hd;refine callType_new F.called_enumerate (by decide) (F.typeCall_enumerate_1 _) (F.newCall_enumerate_1 _) (λobj=>F.args_object_init_2 obj _) F.entry_enumerate_new (FJ l items n Ye sl) ⟨hl,?_⟩;have hz:(s.heap.push {cls:=.type "tuple_iterator",data:=.fields #[.ref l,.int 0 0]}).objs.size=s.heap.objs.size+1:=eG ..;show _/\_;rw[hz];have he:IsEnum ((s.heap.push {cls:=.type "tuple_iterator",data:=.fields #[.ref l,.int 0 0]}).push {cls:=.type "enumerate",data:=.fields #[.none,.bool false,.ref s.heap.objs.size,rawInt 0,.none,.none]}) (s.heap.objs.size+1) s.heap.objs.size 0 .none:=by have:=Heap.get?_push_size (s.heap.push {cls:=.type "tuple_iterator",data:=.fields #[.ref l,.int 0 0]}) (o:={cls:=.type "enumerate",data:=.fields #[.none,.bool false,.ref s.heap.objs.size,rawInt 0,.none,.none]}) rfl;rw[hz]at this;exact this
 refine⟨⟨_,he,rfl⟩,h _ he ⟨_,Heap.get?_push_of_some _<|Heap.get?_push_size _ rfl,rfl,rfl⟩ (by rw[eG,hz]) λb o x=>Heap.get?_push_of_some _<|Heap.get?_push_of_some _ x⟩
def Wt(K:bL)(a:Addr):It:=⟨λi H=>∃xs x,Yu K H a xs/\xs[i]?=some x,λi H x H'=>∃p,H p=none/\x=.ref p/\∀xs,Yu K H a xs->∃v,xs[i]?=some v/\H'=c6 H p (.tup [.int i,v]),λi H=>∃xs,Yu K H a xs/\xs.length<=i,False⟩
def Inv.zEV{h':Heap}{t':Nat}{e it:Addr}(I:Inv X pins σ H s)(k:∀b o,b≠e->b≠it->s.heap.get? b=some o->h'.get? b=some o)(fe:uF X pins H e)(fi:uF X pins H it):Inv X pins σ H {s with heap:=h',toks:=t'}:=by
 obtain⟨e0,e1,e2,e3,e4,e5⟩:=fe;obtain⟨i0,i1,i2,i3,i4,i5⟩:=fi;refine I.step (g':=s.gens) (d':=s.drawn) (ch:=[e,it]) (λb hb=>?_) (λb o _ _ hc q _=>k b o (λz=>hc<|by simp[z]) (λz=>hc<|by simp[z]) q) (λb o _ _ hc q _=>⟨o.slots,k b o (λz=>hc<|by simp[z]) (λz=>hc<|by simp[z]) q⟩) (λ_ _ _ _ n=>n) (λb o hc q=>⟨o,k b o (λz=>hc<|by simp[z]) (λz=>hc<|by simp[z]) q⟩) (λ_ _ q=>q) (λ_ _ _ q=>q) (λb ps q=>⟨#[],by rw[q];simp⟩) (λm hm=>?_) (λb u q=>?_) I.bare
 ·rcases ax.mp hb with rfl |hb;·exact⟨e3,e1,e4,e5⟩
  ·rw[aP.mp hb];exact⟨i3,i1,i4,i5⟩
 ·obtain⟨o,es,ep,ho,r⟩:=hm;exact⟨o,es,ep,k _ o (dU e1) (dU i1) ho,r⟩
 ·have ne:∀c v,H c=some v->c≠e/\c≠it:=λc v q=>⟨(λz=>by rw[z,e0]at q;cases q),(λz=>by rw[z,i0]at q;cases q)⟩;refine(I.XR b u q).Z8 (λc v hc r=>?_) (λ_ r=>r) λ_ _ r=>r;rcases hc with z |z;·subst z;exact k c v (ne c _ q).1 (ne c _ q).2 r
  ·exact k c v (ne c _ z).1 (ne c _ z).2 r
def Inv.zC2{p:Addr}(I:Inv X pins σ H s)(hp:H p=none)(h1:X.s₀.heap.objs.size<=p)(h2:p≠X.env.locals)(h3:∀x c,X.env.cells.lookup x=some c->c≠p)(h4:∀q∈X.pn++pins,q.1≠p)(new:XI X.prog X.w (c6 H p o) s.heap p o):Inv X pins σ (c6 H p o) s:=by
 have old:∀b ob,X.s₀.heap.get? b=some ob->b≠p:=λb ob e=>bi<|a9 (aI e) h1;refine⟨I.ok,I.os,I.bare,⟨I.base.keep,I.base.slot,λb ob e n hx=>by rw[aK<|old b ob e];exact I.base.free b ob e n hx,I.base.there,λb xs e=>?_,λb ob u e=>?_,λb ps e=>?_⟩,I.loc,I.cell,by rw[aK<|dU h2];exact I.free,λx c e=>by rw[aK<|h3 x c e];exact I.YY x c e,λq hq=>?_,λb u e=>?_,I.len⟩;·have q:=I.base.ZR b xs e;rw[aK<|dR q hp];exact q
 ·have q:=I.base.Zr b ob u e;rw[aK<|dR q hp];exact q
 ·obtain⟨more,q⟩:=I.base.ZS b ps e;exact⟨more,by rw[aK<|dR q hp];exact q⟩
 ·obtain⟨a,b,c⟩:=I.pin q hq;exact⟨a,by rw[aK<|h4 q hq];exact b,c⟩
 ·by_cases hb:b=p;·subst hb;rw[aM]at e;cases e;exact new
  ·rw[aK hb]at e;exact(I.XR b u e).Z8 (λ_ _ _ q=>q) (λc q=>by rw[aK<|dR q hp];exact q) λc xs q=>by rw[aK<|dR q hp];exact q
def JV{K:bL}(a e it:Addr)(ZT:e≠it):Bu P w K (.Tuple es x1 pos) (Wt K a) [e,it] e (λi h=>(∃old,IsEnum h e it i old)/\h.IsTupleIter it a i) where
 mem:=by simp
 obj:=λi h st b hb=>by
  obtain⟨⟨old,he⟩,o,ho,c,d⟩:=st;rcases ax.mp hb with rfl |hb;·exact⟨_,he,λv z=>by cases z⟩
  ·rw[aP.mp hb];exact⟨o,ho,λv z=>by rw[d]at z;cases z⟩
 keep:=λi h h' st k=>by obtain⟨⟨old,he⟩,hi⟩:=st;exact⟨⟨old,k e (by simp) _ he⟩,hi.at λo q=>k it (by simp) o q⟩
 item:=by
  intro X hP hw hK hc i pins s σ H E I hf st hg;subst hP hw hK;replace hc:=hc.resolve_right λz=>z.1;obtain⟨⟨old,he⟩,hit⟩:=st;obtain⟨xs,x,hq,hx⟩:=hg;obtain⟨its,rv,p,hz⟩:=I.tuple hq;obtain⟨u,hu,ru⟩:=rv.get hx;have fe:=hf e (by simp);have fi:=hf it (by simp);have X3:i<its.length:=(List.getElem?_eq_some_iff.mp hu).1;obtain⟨oa,hoa,hca,na,hda⟩:=id p;have hae:e≠a:=λz=>by subst z;rw[he]at hoa;cases hoa;have z':Value.type "enumerate"=Value.type "tuple":=hca;injection z' with z2;exact absurd z2<|by decide
  have hai:a≠it:=λz=>by subst z;obtain⟨oi,hoi,hci,_⟩:=hit;rw[hoa]at hoi;cases hoi;rw[hca]at hci;injection hci with z2;exact absurd z2<|by decide
  have Dr:=KA (prog:=X.prog) (w:=X.w) (A:=X.A.in1) (I.ok.hd hc) it a hai its.toArray;refine wpAny_pyNext_enum_itemD Dr he ⟨hit,p⟩ (by simpa using X3) ZT (by simp[hae,ZT]) λy h' tk hy ho hst hT hsz hk=>?_;have ey:y=u:=by
   have:its[i]?=some y:=by simpa using hy
   rw[hu]at this;exact(bG this).symm
  subst ey;refine⟨_,rfl,wpAny_letOwnedTupleGo_enum ho λh2 he2 sb=>?_⟩;have hTe:s.heap.objs.size≠e:=iG<|aI he;have hTi:s.heap.objs.size≠it:=by obtain⟨oi,hoi,_⟩:=id hit;exact iG<|aI hoi
  have sb':Heap.SameBut e h' h2:=sb;have kk:∀b o,b≠e->b≠it->s.heap.get? b=some o->h2.get? b=some o:=λb o h1 h2' q=>sb'.extBut b o h1<|hk b o h1 h2' q;have I1:Inv X pins σ H {s with heap:=h2,toks:=tk+1}:=Inv.zEV I kk fe fi;have hp0:H s.heap.objs.size=none:=I.XR.fresh<|aj _;have hT2:h2.get? s.heap.objs.size=some {cls:=.type "tuple",data:=.seq #[.int i tk,y]}:=sb'.extBut _ _ hTe hT;have I2:Inv X pins σ (c6 H s.heap.objs.size<|.tup [.int i,x]) {s with heap:=h2,toks:=tk+1}:=by
   refine Inv.zC2 I1 hp0 I.sz (iG I.lt) (λz c h=>?_) (λq hq2 z=>?_) ⟨cF rfl,[.int i tk,y],.cons ⟨tk,rfl⟩<|.cons ru .nil,⟨_,hT2,rfl,0,rfl⟩⟩;·obtain⟨v,hv⟩:=I.cell z c h;exact bi hv.lt
   ·have:=aI (I.pin q hq2).1;rw[z]at this;exact absurd this<|dQ _
  refine⟨.ref s.heap.objs.size,_,I2,rfl,⟨s.heap.objs.size,hp0,rfl,λys hys=>⟨x,by rw[I.ZV hys hq];exact hx,rfl⟩⟩,⟨⟨_,by simpa using he2⟩,hst.1.at λo q=>sb'.extBut it o (dU ZT) q⟩,λb hb=>?_⟩;have bT:b≠s.heap.objs.size:=by
   rcases ax.mp hb with rfl |hb;·exact dU hTe
   ·rw[aP.mp hb];exact dU hTi
  rw[aK bT];exact(hf b hb).1
 done:=by intro X hP hw hK hc i pins s σ H E I hf st hg;subst hP hw hK;replace hc:=hc.resolve_right λz=>z.1;obtain⟨⟨old,he⟩,hit⟩:=st;obtain⟨xs,hq,hx⟩:=hg;obtain⟨its,rv,p,hz⟩:=I.tuple hq;have fi:=hf it (by simp);obtain⟨f0,f1,f2,f3,f4,f5⟩:=fi;have hl:=rv.length;have hT:s.TypeIs (.ref e) "enumerate":=⟨_,he,rfl⟩;unfold pyNext;refine af<|NS<|wpAny_callSpecial?_slot (name:=Str.ofString "__next__") hT F.slot_enumerate_next<|fc F.slot_enumerate_next hT F.entry_enumerate_next ?_<|F.args_enumerate_next_1 _;show wpAny _ _ (field (.ref e) 2>>=_) _ _ _;refine af<|fR he rfl (x:=.ref it) rfl ?_;refine af (rm (I.ok.hd hc) hit p (by simp;lia) λh' x he' hx'=>?_);obtain⟨o,ho,Z4⟩:=hx';refine af<|UU (T:="StopIteration") (b:=true) ⟨o,ho,Z4⟩ Xc ?_;exact av ⟨rfl,I.turned (t':=s.toks) (λb o hb e=>he' b o hb e) f0 f1 f3 f4 f5⟩
 self:=λ_ _ s Q E st h=>by obtain⟨⟨old,he⟩,hit⟩:=st;exact wpAny_pyIter_enum he h
def Ug(K:bL)(ta:TA):TI:=λσ H R=>ta σ H λvs H1=>∃a,vs=[.ref a]/\(∃xs,Yu K H1 a xs)/\R (Wt K a) H1
def OF(hg:Gl X "enumerate")(hm:X.mg "enumerate"=none)(hl:PA X [a] ta)(hs:Pl a):PI X (.Tuple es x1 tp) (.Call (.Name "enumerate" p) [a] [] pos) (Ug X.K ta):=by
 intro pins s σ H R I h;refine Call_<|rH I hg hm (show bootBuiltins "enumerate"=some (.type "enumerate")by decide)<|fC (dM (hl pos pins s σ H _ I h) λus s1 ⟨vs,H1,I1,r1,q1⟩=>?_) (hs _ _) rfl;obtain⟨l,rfl,⟨xs,hq⟩,q⟩:=q1;obtain⟨u,rfl,ru⟩:=jS r1;cases(show u=Value.ref l from ru);obtain⟨its,rv,pt,hz⟩:=I1.tuple hq;refine HX pt λh' he hi hsz kp=>?_;have I2:Inv X pins σ H1 {s1 with heap:=h'}:=I1.kept (t':=s1.toks) kp;refine wpAny_pyIter_enum he ?_;have fr:∀b,s1.heap.objs.size<=b->uF X pins H1 b:=λb hb=>I1.zAC hb<|I1.XR.fresh hb;refine⟨s1.heap.objs.size+1,[s1.heap.objs.size+1,s1.heap.objs.size],_,_,H1,rfl,I2,JV l _ _<|iG<|eL _,⟨⟨_,he⟩,hi⟩,λb hb=>?_,q⟩;rcases ax.mp hb with rfl |hb;·exact fr _<|by lia
 ·rw[aP.mp hb];exact fr _<|aj _
def Dj(ds:aU):aU:=(List.range ds.length).map λ(i:Nat)=>.tup [.int (i:Int),ds.getD i .XY]
def oO{i:Nat}(h:(Dj ds)[i]?=some d):∃e,ds[i]?=some e/\d=.tup [.int (i:Int),e]:=by
 unfold Dj at h;rw[List.getElem?_map]at h;by_cases hi:i<ds.length;·rw[List.getElem?_range hi]at h;cases h;exact⟨ds[i],List.getElem?_eq_getElem hi,by show D.tup [D.int (i:Int),ds.getD i .XY]=_;rw[List.getD_eq_getElem?_getD,List.getElem?_eq_getElem hi];rfl⟩
 ·rw[List.getElem?_eq_none<|by simpa using hi]at h;cases h
def oN:(Dj ds).length=ds.length:=by simp[Dj]
def RT{K:bL}{F:Hp}{l:Addr}(hf:F l=some (.tup vs))(r:Xv K F vs ds):Bz K (Wt K l) F (Dj ds):=λi F2 H2 s1 s2=>⟨λd hd=>by obtain⟨e,he,rfl⟩:=oO hd;obtain⟨v,hv,rv⟩:=r.get he;have sq:Yu K H2 l vs:=Yu.of<|s2 _ _<|s1 _ _ hf;refine⟨⟨vs,v,sq,hv⟩,λx H' y=>?_⟩;obtain⟨p,hp,rfl,y⟩:=y;obtain⟨v',hv',rfl⟩:=y vs sq;rw[hv]at hv';cases hv';exact⟨_,(Ext.refl s2).grow hp,.tup aM<|.cons (.int _)<|.cons ((rv.mono s1).mono<|aR<|s2.free hp) .nil⟩,λh=>⟨vs,Yu.of<|s2 _ _<|s1 _ _ hf,by rw[r.length];rw[oN]at h;exact h⟩⟩
def zw(t:At X N sc)(bl:pd X sc "enumerate" (.type "enumerate"))(h:Xs X ρ a (.tup ds))(hs:Pl a:=by intro _ _;rfl):ZX X ρ (.Tuple es x1 tp) (.Call (.Name "enumerate" p) [a] [] pos) (Dj ds):=.of (OF (dO t bl.g) bl.m (bf aN cq<|hs _ _) hs) λB F H σ R k q=>h B F H σ _ k λv F' H' x r=>by cases r with|tup hf rl=>exact⟨_,rfl,⟨_,Yu.of<|x.sub _ _ hf⟩,q _ F' H' x<|RT hf rl⟩
abbrev vB:gC:=[.type "ValueError",.type "Exception",.type "BaseException",.type "object"]
def W7(h base:Heap)(e C:Addr)(fl:Value):Prop:=∃(oe:Obj)(vs:Array Value)(T:Addr)(oT:Obj)(ts:Array Value),h.get? e=some oe/\oe.cls=.ref C/\oe.data=.fields vs/\vs[1]?=some (.ref T)/\vs[2]?=some .none/\base.get? T=none/\T≠e/\h.get? T=some oT/\oT.data=.fields ts/\ts[3]?=some fl
def Wv(base:Heap)(l:List Env)(e C:Addr)(fl:Value)(h:Heap):Prop:=base.StaysIn h/\base.get? e=none/\h.FunFrames base l/\W7 h base e C fl
structure W9(P:Program)(w:World)(l:List Env)(H:Hp)(s:Shared)(H':Hp)(C:Addr)(e:Value)(s':Shared):Prop where
 ex:∃(ea:Addr)(B:Heap),e=.ref ea/\Wv B l ea C .none s'.heap/\ZD P w H' B/\
  (∀b o,s.heap.get? b=some o->H b=none->b∉oZ l->B.get? b=some o)/\(∀b o,s.heap.get? b=some o->b∉oZ l->∃o',B.get? b=some o')
 os:s'.os=s.os
 bare:AllBare s'.gens
 slot:∀b o,s.heap.get? b=some o->H b=none->b∈oZ l->∃sl,s'.heap.get? b=some {o with slots:=sl}
 free:∀b o,s.heap.get? b=some o->H b=none->H' b=none
 ZR:∀b xs,H b=some (.tup xs)->H' b=some (.tup xs)
 Zr:∀b o u,H b=some (.YR o u)->H' b=some (.YR o u)
 ZS:∀b ps,H b=some (.tbl ps)->∃more,H' b=some (.tbl<|ps++more)
inductive Ik(X:Cx)(m:Bool)(H:Hp)(s:Shared)(H':Hp)(C:Addr)(e:Value)(s':Shared):Prop where
 |fly:W9 X.prog X.w X.stack H s H' C e s'->Ik X m H s H' C e s'
 |made {ea:Addr} {vs:gC}:m=true->H'=H->e=.ref ea->Heap.MadeExcOf s.heap s'.heap ea (.ref C) vs->s'.os=s.os->s'.gens=s.gens->Ik X m H s H' C e s'
def XP(X:Cx)(m:Bool)(pins:gQ)(B:B0)(F:Hp)(ρ':cJ)(C:Addr)(e:Value)(s':Shared):Prop:=∃(σ1:St)(H1:Hp)(s1:Shared)(F' H':Hp),Inv X pins σ1 H1 s1/\Ok X.K B F' H' σ1 ρ'/\XC F F'/\Ik X m H1 s1 H' C e s'
def Ur{it l:Addr}(ZT:l≠it):∀(n i:Nat)(s:Shared)(Q:gC->Shared->Prop),s.heap.IsListIter it l i->s.heap.IsList l xs->i+n<=xs.size->(∀h',h'.IsListIter it l (i+n)->Heap.SameBut it s.heap h'->Q ((xs.toList.drop i).take n) {s with heap:=h'})->wpAny (model prog w) A (draw (.ref it) n) Q E s:=by
 intro n;induction n with
 |zero=>intro i s Q hit _ _ hQ;have z:=hQ s.heap hit<|Heap.SameBut.refl ..;rw[EW]at z;exact av z
 |succ n ih=>
  intro i s Q hit hl hle hQ;have X3:i<xs.size:=a9 (Nat.lt_succ_of_le<|qz i n) hle;have hx:xs[i]?=some xs[i]:=Array.getElem?_eq_getElem X3;show wpAny _ _ (pyNext (.ref it)>>=_) Q E s;refine af (wpAny_pyNext_list_item hit hl hx λh1 zDZ hs1=>af<|cp (ih (i+1) _ _ zDZ (hl.extBut hs1.extBut ZT) (by lia) λh2 zIF hs2=>av ?_));have e1:xs.toList.drop i=xs[i]::xs.toList.drop (i+1):=by rw[cm<|by simpa using X3];simp
  have z:=hQ h2 (by rw[show i+(n+1)=i+1+n by lia];exact zIF)<|hs1.trans hs2;rw[e1,List.take_succ_cons]at z;exact z
def wH{s:Shared}{A:Around}{env:Env}{Q:Unit->Shared->Prop}(hh:A.handled=none)(hl:s.heap.IsList l xs)(hn:(assignEach elts env).length=xs.size)(zFD:(assignEach elts env).findIdx? (·.1)=none)(h:∀h',Heap.ExtBut s.heap.objs.size s.heap h'->wpAny (model prog w) A (assignInOrder ((assignEach elts env).map (·.2)) xs.toList) Q E {s with heap:=h'}):wpAny (model prog w) A (assign (.Tuple elts x1 pos) env<|.ref l) Q E s:=by
 have ne:l≠s.heap.objs.size:=by obtain⟨o,ho,_⟩:=hl;exact bi<|aI ho
 rw[assign_Tuple];refine af<|ua ?_;unfold unpack;rw[hn,zFD];refine af<|cp ?_;unfold unpackItems;refine af ?_;unfold notIterableAtAll;refine af<|wpAny_specialOf hl.typeIs slot_list_iter.lookup<|av ?_;simp only[Bool.false_eq_true,KY];refine af<|cp<|qJ hl ?_;refine af<|cp (Ur ne xs.size 0 _ _ ⟨_,Heap.get?_push_size _ rfl,rfl,rfl⟩ (hl.push _) (gt<|Nat.zero_add _) λh1 zDZ hs1=>?_);have all:(xs.toList.drop 0).take xs.size=xs.toList:=by rw[EY];exact c8<|by simp
 rw[all,ak<|by simp];refine af<|cp (wpAny_pyNext_list_end hh zDZ ((hl.push _).extBut hs1.extBut ne) (by simp) λh2 he2=>?_);simp only[Option.isSome_none,Bool.false_eq_true,KY];exact av (h h2 λb o hb e=>he2 b o hb<|hs1.extBut b o hb<|Heap.get?_push_of_some _ e)
def V8(K:bL)(n:Nat)(t:PR):TG:=λv σ H Q=>∃a xs,v=.ref a/\XZ K H a xs/\xs.length=n/\t xs σ H Q
def Ra{X:Cx}{n:Nat}{t:PR}(hc:X.calm=true)(h:S7 X es t)(hn:(assignEach es X.env).length=n:=by rfl)(hst:(assignEach es X.env).findIdx? (·.1)=none:=by rfl):PG X (.Tuple es k pos) (V8 X.K n t):=by
 intro pins s σ H v u Q I r hw;obtain⟨a,xs,e1,hq,hl,hw⟩:=hw;subst e1;cases r;obtain⟨its,rv,ht,hz⟩:=I.list hq;have len:(assignEach es X.env).length=its.toArray.size:=by rw[hn,<-hl,rv.length];simp
 refine wH (I.ok.hd hc) ht.isList len hst λh' hx=>?_;have I1:Inv X pins σ H {s with heap:=h'}:=I.kept (t':=s.toks) λb o e=>hx b o (bi<|aI e) e;exact h pins _ σ H xs _ Q I1 (by simpa using rv) hw
structure WG(X:Cx)(es:tu)(vs:dW)(σ:St)(H:Hp)(Q:St->Hp->Prop):Prop where
 go:∀(pins:gQ)(s:Shared)(us:gC),Inv X pins σ H s->Vals vs us->fh X (assignInOrder ((assignEach es X.env).map (·.2)) us) (λ_ s'=>∃σ' H',Inv X pins σ' H' s'/\Q σ' H') X.xe s
def L7:S7 X es (WG X es):=λpins s _ _ _ us _ I r h=>h.go pins s us I r
def Ny(X:Cx)(ρ:cJ)(es:tu)(ds:aU)(ρ':cJ):Prop:=((∀env,(assignEach es env).length=ds.length)/\∀env,(assignEach es env).findIdx? (·.1)=none)/\∀(B:B0)(F H:Hp)(σ:St)(vs:dW)(Q:St->Hp->Prop),Ok X.K B F H σ ρ->Xv X.K F vs ds->(∀F' H' σ',Ok X.K B F' H' σ' ρ'->XC F F'->Q σ' H')->WG X es vs σ H Q
def W8(e:Expr):Prop:=∀(es:tu)(env:Env),assignEach (e::es) env=(false,assign e env)::assignEach es env
def JA:Ny X ρ [] [] ρ:=⟨⟨λ_=>rfl,λ_=>rfl⟩,λB F H σ vs Q k r q=>.mk λpins s us I ru=>by cases r;exact DY pins s σ H [] us Q I ru ⟨rfl,q F H σ k<|.refl _⟩⟩
def rO(h1:EvG X ρ e d ρ1)(h2:Ny X ρ1 es ds ρ')(hs:W8 e:=by intro _ _;rfl):Ny X ρ (e::es) (d::ds) ρ':=⟨⟨λenv=>by rw[hs es env,aS,aS,h2.1.1 env],λenv=>by
  rw[hs es env,List.findIdx?_cons]
  simp[h2.1.2 env]⟩,λB F H σ vs Q k r q=>.mk λpins s us I ru=>by
 cases r with
 |cons r1 r2=>
  refine rh L8 L7 (by rw[hs es X.env];rfl) pins s σ H _ us Q I ru ⟨_,_,rfl,?_⟩
  exact h1 B F H σ _ _ k r1 λF1 H1 σ1 k1 s1=>h2.2 B F1 H1 σ1 _ _ k1 (r2.mono s1) λF2 H2 σ2 k2 s2=>q F2 H2 σ2 k2 (s1.trans s2)⟩
def Sq(t:At X N sc)(h:Ny X ρ es ds ρ'):EvG X ρ (.Tuple es k pos) (.tup ds) ρ':=.of (Hl (n:=ds.length) t.calm L7 (h.1.1 _)<|h.1.2 _) λB F H σ v Q k r q=>by cases r with|tup hf rl=>exact⟨_,_,rfl,Yu.of<|k.sub _ _ hf,rl.length,h.2 B F H σ _ Q k rl q⟩
def Sr(t:At X N sc)(h:Ny X ρ es ds ρ'):EvG X ρ (.Tuple es k pos) (.lst ds) ρ':=.of (Ra (n:=ds.length) t.calm L7 (h.1.1 _)<|h.1.2 _) λB F H σ v Q k r q=>by cases r with|lst hf rl=>exact⟨_,_,rfl,XZ.of<|k.sub _ _ hf,rl.length,h.2 B F H σ _ Q k rl q⟩
open AutoSeq1 (wpAny_loadPart')
section
variable {ds:aU}{st:Stmt}{bQ:List Stmt}
def OI:pQ X (binaryOp .Sub) (λx y H Q=>∃k j:Bool,x=.bl k/\y=.bl j/\Q (.int<|b2i k-b2i j) H):=by intro pins s σ H x y v u Q I rx ry h;obtain⟨k,j,rfl,rfl,q⟩:=h;cases rx;cases ry;exact sub_bool ⟨.int<|b2i k-b2i j,H,I.tok _,⟨_,rfl⟩,q⟩
def Pe(ha:Xs X ρ a (.bl k))(hb:Xs X ρ b (.bl j)):Xs X ρ (.BinOp a .Sub b pos) (.int<|b2i k-b2i j):=.of (xL OI aN aN) λB F H σ Q k' q=>two ha hb k' λx y F' H' x' rx ry=>by cases rx;cases ry;exact⟨k,j,rfl,rfl,q _ F' H' x'<|.int _⟩
def vh{xs:aU}{apos Xz:Pos}{ρ:cJ}{pos:Pos}[Z1 X](t:At X N sc)(i j:Nat)(hr:ρ[i]?=some (.own<|xs++[d]))(hij:i≠j)(hN:N[i]?=some y:=by rfl)(hv:fB sc y=true:=by rfl)(hx:cv y=true:=by rfl)(hj:N[j]?=some x:=by rfl)(hl:nc sc x=true:=by rfl)(XN:(apos.endLine==Xz.line)=true:=by rfl)(hs:swapsWith (.Call (.Attribute (.Name y p) "pop" apos) [] [] Xz) (some<|.Name x pos') pos.line X.env=pure false:=by rfl):X5 X ρ (.Assign [.Name x pos'] (.Call (.Attribute (.Name y p) "pop" apos) [] [] Xz) pos) (.nx<|(ρ.set i<|.own xs).set j<|.val d):=.of (rf (i:=j) t.nd (t.ix hj) (t.loc hl) (DZ b0 CB CA Hu aN rfl XN) hs Jk) λB F H σ E k q=>rj t hr hN hv hx k λl vs h1 h2 h3=>⟨.inl ⟨rfl,_,XZ.of h2⟩,by
   have hlen:=h3.length;obtain⟨w,hw,Zx⟩:=h3.get (i:=xs.length) (d:=d) (by simp);have hll:vs.length-1=xs.length:=by rw[hlen];simp
   refine⟨l,vs,w,rfl,rfl,h2,by rw[hll];exact hw,?_⟩;have k2:=k.Zs (vs:=vs) (ds:=xs) hr h1 (by have:=h3.dropLast;rwa[Xf]at this);exact q F _ _ (k2.XM j Zx) (.refl _)⟩
end
end L2.EV
namespace HT
open PySem PyProof.Rows PySem.Spec
variable {K:bL}{ds:aU}
def zBP(xs:Array Value):((List.range xs.size).filterMap λ(m:Nat)=>xs[((xs.size:Int)-1+(m:Int)*(-1)).toNat]?).toArray=xs.toList.reverse.toArray:=by
 have zGD:∀(f g:Nat->Option Value)(l:bH),(∀m∈l,f m=g m)->l.filterMap f=l.filterMap g:=by intro f g l;induction l with|nil=>intro _;rfl|cons m l ih=>intro h;have h1:=ih λm hm=>h m<|aO _ hm;rw[kE,kE,h m<|bo ..,h1]
 have h2:∀(n:Nat)(r:gC),r.length=n->(List.range r.length).filterMap (λm=>r[m]?)=r:=by
  intro n;induction n with
  |zero=>intro r hr;rw[aT hr];rfl
  |succ n ih=>
   intro r hr;rcases bV r with e |⟨ys,y,e⟩;·subst e;simp at hr
   ·rw[cG]at e;subst e;have hl:ys.length=n:=by simpa using hr
    rw[ac,bO,gj,WR];have e1:=zGD (λm=>(ys++[y])[m]?) (λm=>ys[m]?) (List.range ys.length) λm hm=>List.getElem?_append_left<|List.mem_range.mp hm;rw[e1,ih ys hl];congr 1;simp
 have key:∀l:gC,(List.range l.length).filterMap (λ(m:Nat)=>l[((l.length:Int)-1+(m:Int)*(-1)).toNat]?)=l.reverse:=by
  intro l;have h1:=zGD (λ(m:Nat)=>l[((l.length:Int)-1+(m:Int)*(-1)).toNat]?) (λm=>l.reverse[m]?) (List.range l.length) λm hm=>by have hm':=List.mem_range.mp hm;show l[((l.length:Int)-1+(m:Int)*(-1)).toNat]?=l.reverse[m]?;rw[List.getElem?_reverse hm'];congr 1;lia
  rw[h1];have:=h2 _ l.reverse rfl;rw[dv]at this;exact this
 have:=key xs.toList;rw[bX]at this;have e:(λ(m:Nat)=>xs.toList[((xs.size:Int)-1+(m:Int)*(-1)).toNat]?)=λ(m:Nat)=>xs[((xs.size:Int)-1+(m:Int)*(-1)).toNat]?:=by funext m;exact Array.getElem?_toList
 rw[e]at this;rw[this]
end HT
namespace L2.EV
open PySem PySem.Spec PyProof.Rows
variable {K:bL}{ds:aU}
def Xk(F:Hp)(p:Addr):Hp:=λa=>if a=p then none else F a
end L2.EV
namespace L2
open PySem PySem.Spec PyProof.Rows
variable {K:bL}{ds:aU}
def PY(lo st:Int)(n:Nat):It:=⟨λi _=>i<n,λi H x H'=>H'=H/\x=.int (lo+(i:Nat)*st),λi _=>n<=i,True⟩
def Fe{K:bL}(it:Addr)(lo st:Int)(n:Nat):Bu P w K tg (PY lo st n) [it] it (λi h=>IsRangeIter h it (lo+(i:Nat)*st) ((n:Int)-(i:Nat)) st) where
 mem:=by simp
 obj:=λi h st b hb=>by
  have e:b=it:=by simpa using hb
  subst e;exact⟨_,st,λv z=>by have z':Data.fields _=Data.cell v:=z;cases z'⟩
 keep:=λi h h' st k=>k it (by simp) _ st
 item:=by
  intro X hP hw hK hc i pins s σ H E I hf YG hg;subst hP hw hK;obtain⟨f0,f1,f2,f3,f4,f5⟩:=hf it (by simp);refine wpAny_pyNext_range_item YG (by have:i<n:=hg;lia) λh' YG sb=>?_;have I1:Inv X pins σ H {s with heap:=h',toks:=s.toks+1}:=I.turned (λb o hb e=>(sb.2 b hb).trans e) f0 f1 f3 f4 f5;have e1:lo+(i:Nat)*st+st=lo+((i+1:Nat):Int)*st:=by rw[iN,Int.add_mul];lia
  have e2:(n:Int)-(i:Nat)-1=(n:Int)-((i+1:Nat):Int):=by lia
  rw[e1,e2]at YG;exact⟨_,rfl,FV (s:={s with heap:=h',toks:=s.toks+1}) (n:="range_iterator") YG rfl rfl (by decide) ⟨.int<|lo+(i:Nat)*st,H,I1,⟨s.toks,rfl⟩,⟨rfl,rfl⟩,YG,λb hb=>(hf b hb).1⟩⟩
 done:=by
  intro X hP hw hK hc i pins s σ H E I hf YG hg;subst hP hw hK;obtain⟨f0,f1,f2,f3,f4,f5⟩:=hf it (by simp);rcases hc with hc |⟨_,ea,oe,u,vs,k1,k2,k3,k4⟩;rotate_left;·obtain⟨ho,_⟩:=(show XI X.prog X.w H s.heap ea (.YR oe u)from I.XR ea _<|I.base.Zr ea oe u k2);exact tW k1 ho k3 k4 YG (by have:n<=i:=hg;lia) λh' eb=>⟨rfl,I.turned (t':=s.toks) (λb o hb e=>eb b o hb e) f0 f1 f3 f4 f5⟩
  exact wpAny_pyNext_range_end (I.ok.hd hc) YG (by have:n<=i:=hg;lia) λh' eb=>⟨rfl,I.turned (t':=s.toks) (λb o hb e=>eb b o hb e) f0 f1 f3 f4 f5⟩
 self:=λ_ _ _ _ _ st h=>wpAny_pyIter_rangeiter st h
end L2
namespace L2.EV
open PySem PySem.Spec PyProof.Rows
variable {K:bL}{ds:aU}
section
variable {e:DictEntry}
def HR{s:Shared}{Q:Option Value->Shared->Prop}(hit:s.heap.IsKeyIter it d i n ep)(hd:s.heap.get? d=some o)(ho:o.data=.dict es ep)(hn:es.size=n)(he:es[i]?=some e)(hQ:∀h',h'.IsKeyIter it d (i+1) n ep->Heap.SameBut it s.heap h'->Q (some e.key) {s with heap:=h'}):wpAny (model prog w) A (pyNext<|.ref it) Q E s:=by have hT:s.TypeIs (.ref it) "dict_keyiterator":=hit.typeIs;obtain⟨⟨cl,di,da,sl⟩,h1,h2,h3⟩:=id hit;replace h2:cl=_:=h2;replace h3:da=_:=h3;subst h2 h3;unfold pyNext;refine af<|NS<|wpAny_callSpecial?_slot (name:=Str.ofString "__next__") hT jC<|fc jC hT Vf ?_<|U0 _;show wpAny _ _ (Builtin.Dict_items.slot0 "__next__" {pos:=[Value.ref it]}>>=_) _ _ s;refine af<|fq (a:=Value.ref it) (by rfl) ?_;show wpAny _ _ (((typeNameOfWhole (.ref it)>>=_)>>=_)>>=_) _ _ s;refine af<|af<|af<|ji hT ?_;refine av ?_;refine af<|wpAny_fieldsOf h1 rfl ?_;show wpAny _ _ (Builtin.Dict_items.addrOf (.ref d)>>=_) _ _ s;refine af<|fq (a:=d) (by rfl) ?_;refine af<|SW hd ho ?_;dsimp only;rw[ak<|by rw[hn];simp];refine af<|fq (a:=d) (by rfl) ?_;refine af<|Wx hd ho ?_;rw[ak<|by simp];refine av ?_;dsimp only;rw[ak<|by lia,dw,he];dsimp only;show wpAny _ _ ((typeNameOfWhole (.ref it)>>=_)>>=_) _ _ s;refine af<|af<|ji hT ?_;refine av ?_;refine af<|wpAny_isOneOf_keyiter hT ?_;refine af<|KW h1 rfl (show 1<4 by decide) ?_;show wpAny _ _ _ _ _ {s with heap:=s.heap.update it (Obj.mapFields λx_1=>x_1.setIfInBounds 1<|rawInt<|i+1)};have e2:=Heap.get?_update_self (Obj.mapFields λx_1=>x_1.setIfInBounds 1<|rawInt<|i+1) h1 (by rfl);have hT':Shared.TypeIs {s with heap:=s.heap.update it (Obj.mapFields λx_1=>x_1.setIfInBounds 1<|rawInt<|i+1)} (.ref it) "dict_keyiterator":=⟨_,e2,rfl⟩;refine af<|cp ?_;show wpAny _ _ (Builtin.Dict_items.isOneOf (.ref it) ["dict_keyiterator","dict_reversekeyiterator"]>>=_) _ _ _;refine af<|wpAny_isOneOf_keyiter hT' ?_;rw[ar<|by decide];refine av ?_;refine av ⟨_,rfl,?_⟩;refine av ?_;refine hQ _ ⟨_,e2,rfl,rfl⟩ ⟨Heap.size_update _ _ _,λb hb=>Heap.get?_update_other _ _<|dU hb⟩
def KC{A:Around}{s:Shared}{Q:Option Value->Shared->Prop}(hh:A.handled=none)(hit:s.heap.IsKeyIter it d i n ep)(hd:s.heap.get? d=some o)(ho:o.data=.dict es ep)(hn:es.size=n)(he:es[i]?=none)(hQ:∀h',Heap.ExtBut it s.heap h'->Q none {s with heap:=h'}):wpAny (model prog w) A (pyNext<|.ref it) Q E s:=by have hT:s.TypeIs (.ref it) "dict_keyiterator":=hit.typeIs;obtain⟨⟨cl,di,da,sl⟩,h1,h2,h3⟩:=id hit;replace h2:cl=_:=h2;replace h3:da=_:=h3;subst h2 h3;unfold pyNext;refine af<|NS<|wpAny_callSpecial?_slot (name:=Str.ofString "__next__") hT jC<|fc jC hT Vf ?_<|U0 _;show wpAny _ _ (Builtin.Dict_items.slot0 "__next__" {pos:=[Value.ref it]}>>=_) _ _ s;refine af<|fq (a:=Value.ref it) (by rfl) ?_;show wpAny _ _ (((typeNameOfWhole (.ref it)>>=_)>>=_)>>=_) _ _ s;refine af<|af<|af<|ji hT ?_;refine av ?_;refine af<|wpAny_fieldsOf h1 rfl ?_;show wpAny _ _ (Builtin.Dict_items.addrOf (.ref d)>>=_) _ _ s;refine af<|fq (a:=d) (by rfl) ?_;refine af<|SW hd ho ?_;dsimp only;rw[ak<|by rw[hn];simp];refine af<|fq (a:=d) (by rfl) ?_;refine af<|Wx hd ho ?_;rw[ak<|by simp];refine av ?_;dsimp only;rw[ak<|by lia,dw,he];dsimp only;show wpAny _ _ ((typeNameOfWhole (.ref it)>>=_)>>=_) _ _ s;refine af<|af<|ji hT ?_;refine av ?_;refine af<|KW h1 rfl (show 0<4 by decide) ?_;show wpAny _ _ _ _ _ {s with heap:=s.heap.update it (Obj.mapFields λx_1=>x_1.setIfInBounds 0 Value.none)};refine af ?_;simp only[newExc,newTuple];refine af<|bP ?_ (by size_fits);refine af (m:=firstArgMember _ _)<|fq (a:=Value.none) (by first |rfl |(simp only[firstArgMember];rfl)) ?_;refine bP ?_ (by size_fits);simp only[raiseNew];refine af<|wpAny_handled ?_;rw[show A.in1.handled=none from hh];dsimp only;refine wpAny_throw ?_;refine af<|UU (T:="StopIteration") (b:=true) ⟨_,Heap.get?_push_size _ rfl,rfl⟩ Xc ?_;refine av (hQ _ λb o hb q=>?_);exact Heap.get?_push_of_some _<|Heap.get?_push_of_some _<|by rw[Heap.get?_update_other _ _<|dU hb];exact q
def Us{Q:wL}{s:Shared}{d:Addr}(hs:(d==sysModules)=false)(hd:s.heap.get? d=some o)(hx:o.ExactDict)(ho:o.data=.dict es ep)(hQ:Q (.ref s.heap.objs.size) {s with heap:=s.heap.push {cls:=.type "dict_keyiterator",data:=.fields #[.ref d,rawInt 0,rawInt es.size,rawInt ep]}}):wpAny (model prog w) A (pyIter<|.ref d) Q E s:=by have hT:s.TypeIs (.ref d) "dict":=⟨o,hd,hx.1⟩;refine wpAny_pyIter_slot hT F.slot_dict_iter<|fc F.slot_dict_iter hT F.entry_dict_iter ?_<|F.args_dict_iter_1 _;unfold Builtin.«dict.__iter__»;show wpAny _ _ ((Builtin.Dict.notOrdered "__iter__" {pos:=[Value.ref d]}>>=_)>>=_) _ _ s;refine af<|af ?_;unfold Builtin.Dict.notOrdered;rw[ar<|by decide];refine af<|SV hT ?_;rw[ak<|by decide];refine av ?_;refine af<|fq (a:=(Value.ref d,[])) (by rfl) ?_;refine av ?_;refine af<|fq (a:=d) (by rfl) ?_;unfold Builtin.Dict.showsAll;rw[ak<|by rw[hs];decide];refine af<|av ?_;refine af<|SW hd ho ?_;refine af<|Wx hd ho ?_;refine af ?_;unfold newFields;refine bP ?_ (by size_fits);refine av ⟨_,rfl,"dict_keyiterator",_,⟨_,Heap.get?_push_size _ rfl,rfl⟩,by rfl,hQ⟩
end
abbrev gn:=List<|be×Int
abbrev Dx:=List<|be×Addr×Int
def fM(kvs:gn)(k:be):Option Int:=(kvs.find? λp=>decide<|p.1=k).map (·.2)
def fG(kvs:gn)(k:be)(n:Int):gn:=if(fM kvs k).isSome=true then kvs.map (λp=>if p.1=k then(p.1,n)else p)else kvs++[(k,n)]
def GR(xs:Dx)(k:be)(b:Addr)(n:Int):Dx:=if(xs.find? λp=>decide<|p.1=k).isSome=true then xs.map (λp=>if p.1=k then(p.1,p.2.1,n)else p)else xs++[(k,b,n)]
abbrev kv(x:be×Addr×Int):be×Int:=(x.1,x.2.2)
def DC(xs:Dx)(k:be):fM (xs.map kv) k=(xs.find? λp=>decide<|p.1=k).map (·.2.2):=by
 unfold fM;induction xs with
 |nil=>rfl
 |cons x xs ih=>
  rw[aH,List.find?_cons,List.find?_cons];by_cases h:x.1=k;·simp[kv,h]
  ·have h':decide ((kv x).1=k)=false:=by simp[kv,h]
   have h2:decide (x.1=k)=false:=by simp[h]
   rw[h'];exact ih
def Ox(xs:Dx)(k:be)(b:Addr)(n:Int):fG (xs.map kv) k n=(GR xs k b n).map kv:=by
 unfold fG GR;rw[DC,Option.isSome_map];by_cases h:(xs.find? λp=>decide<|p.1=k).isSome=true
 ·rw[ar h,ar h,bu,bu];refine kD λx _=>?_;show(if x.1=k then(x.1,n)else kv x)=kv (if x.1=k then(x.1,x.2.1,n)else x);by_cases e:x.1=k;·rw[ar e,ar e]
  ·rw[ak e,ak e]
 ·rw[ak h,ak h,aA];rfl
abbrev X8:Dx->List (be×Addr×Value)->Prop:=Paired λ(x:be×Addr×Int)(y:be×Addr×Value)=>y.1=x.1/\y.2.1=x.2.1/\RelV (.int x.2.2) y.2.2
def X8.at{ys:List (be×Addr×Value)}(r:X8 xs ys)(k:be):((xs.find? λp=>decide<|p.1=k)=none->atKey ys k=none)/\∀x,(xs.find? λp=>decide<|p.1=k)=some x->∃v,atKey ys k=some (x.2.1,v)/\RelV (.int x.2.2) v:=by
 induction r with
 |nil=>exact⟨λ_=>rfl,λx h=>by cases h⟩
 |@cons p q ps qs h t ih=>
  obtain⟨h1,h2,h3⟩:=h;rw[List.find?_cons];by_cases e:p.1=k
  ·have e':decide (p.1=k)=true:=by simp[e]
   rw[e'];refine⟨λz=>(by cases z),λx z=>?_⟩;cases z;refine⟨q.2.2,?_,h3⟩;have e2:decide (q.1=k)=true:=by simp[h1,e]
   show(List.find? _<|q::qs).map _=_;rw[List.find?_cons,e2];show some q.2=some (p.2.1,q.2.2);rw[<-h2]
  ·have e':decide (p.1=k)=false:=by simp[e]
   have e2:decide (q.1=k)=false:=by simp[h1,e]
   rw[e'];have e3:atKey (q::qs) k=atKey qs k:=by show(List.find? _<|q::qs).map _=_;rw[List.find?_cons,e2];rfl
   rw[e3];exact ih
def X8.isSome{ys:List (be×Addr×Value)}(r:X8 xs ys)(k:be):(atKey ys k).isSome=(xs.find? λp=>decide<|p.1=k).isSome:=by obtain⟨h1,h2⟩:=r.at k;cases q:(xs.find? λp=>decide<|p.1=k)with|none=>rw[h1 q];rfl|some x=>obtain⟨v,e,_⟩:=h2 x q;rw[e];rfl
def X8.snoc{p:be×Addr×Int}{q:be×Addr×Value}(h:q.1=p.1/\q.2.1=p.2.1/\RelV (.int p.2.2) q.2.2):∀{xs:Dx}{ys:List (be×Addr×Value)},X8 xs ys->X8 (xs++[p]) (ys++[q])|_,_,.nil=>.cons h .nil|_,_,.cons a t=>.cons a<|X8.snoc h t
def X8.put{ys:List (be×Addr×Value)}(r:X8 xs ys)(k:be)(b:Addr)(ru:RelV (.int n) u):X8 (GR xs k b n) (storedH ys k b u):=by
 unfold GR storedH;rw[r.isSome k];by_cases h:(xs.find? λp=>decide<|p.1=k).isSome=true
 ·rw[ar h,ar h];clear h;induction r with
  |nil=>exact .nil
  |@cons p q ps qs h t ih=>
   obtain⟨h1,h2,h3⟩:=h;rw[aH,aH];refine .cons ?_ ih;unfold putAt;by_cases e:p.1=k;·rw[ar e,ar<|h1.trans e];exact⟨h1,h2,ru⟩
   ·rw[ak e,ak λz=>e<|h1.symm.trans z];exact⟨h1,h2,h3⟩
 ·rw[ak h,ak h];exact X8.snoc ⟨rfl,rfl,ru⟩ r
def X8.len{ys:List (be×Addr×Value)}(r:X8 xs ys):xs.length=ys.length:=by induction r with|nil=>rfl|cons h t ih=>rw[aS,aS,ih]
def Iw(xs:Dx)(k:be)(b:Addr)(n:Int):(GR xs k b n).length<=xs.length+1:=by
 unfold GR;split;·rw[ae];lia
 ·rw[ac,bO];lia
def Yv.put{k:be}{b:Addr}(r:Yv F kvs xs)(hb:F b=some (.tup<|k.map V.int))(n:Int):Yv F (fG kvs k n) (GR xs k b n):=by
 refine⟨?_,λx hx=>?_⟩;·rw[r.1];exact Ox xs k b n
 ·unfold GR at hx;split at hx
  ·obtain⟨y,hy,rfl⟩:=List.mem_map.mp hx;by_cases e:y.1=k;·rw[ar e];exact r.2 y hy
   ·rw[ak e];exact r.2 y hy
  ·rcases aL.mp hx with h |h;·exact r.2 x h
   ·rw[aP]at h;subst h;exact hb
def Y5(H:Hp)(a:Addr)(xs:Dx):Prop:=H a=some (.ext<|eJ a xs)\/∃ob,H a=some (.YR ob<|.ext<|eJ a xs)
def Y5.mono(s:XC H H')(h:Y5 H a xs):Y5 H' a xs:=h.elim (λz=>.inl<|s _ _ z) λ⟨ob,z⟩=>.inr ⟨ob,s _ _ z⟩
def items_int:∀{ks:be}{us:gC},Vals (ks.map V.int) us->ItemsAre (intKind P w) ks us
 |[],_,r=>by rw[K1]at r;cases r;exact .nil
 |k::ks,_,r=>by rw[aH]at r;cases r with|cons h t=>obtain⟨tk,rfl⟩:=(show∃t,_=Value.int k t from h);exact .cons (by show Value.isInt k (.int k tk)=true;simp[Value.isInt])<|items_int t
def JY{k:be}{b:Addr}(I:Inv X pins σ H s)(e:H b=some (.tup<|k.map V.int)):(tupleKind<|intKind X.prog X.w).is s.heap k b:=by obtain⟨_,its,r,o,h1,h2,n,h3⟩:=(show XI X.prog X.w H s.heap b (.tup<|k.map V.int)from I.XR b _ e);exact⟨o,its.toArray,n,h1,h2,h3,by simpa using items_int r⟩
def Y5.is(I:Inv X pins σ H s)(h:Y5 H a xs):eJ a xs s.heap:=by
 rcases h with e |⟨ob,e⟩;·exact(show XI X.prog X.w H s.heap a (.ext<|eJ a xs)from I.XR a _ e).1
 ·exact(show XI X.prog X.w H s.heap a (.YR ob<|.ext<|eJ a xs)from I.XR a _ e).2.1
def zy(I:Inv X pins σ H s)(h:eJ a xs s.heap)(hk:∀x∈xs,H x.2.1=some (.tup<|x.1.map V.int)):xs.length<=sizeLine/\(a==sysModules)=false/\∃ys,X8 xs ys/\s.heap.DictOfH (tupleKind<|intKind X.prog X.w) a ys:=by
 obtain⟨z,hd,o,ho,hx,es,ep,ys,h1,h2,r,nd⟩:=h;refine⟨z,hd,ys,r,o,es,ep,ho,hx,h1,h2 _ _,λy hy=>?_,nd⟩;have all:∀{l:Dx}{m:List (be×Addr×Value)},X8 l m->(∀x∈l,H x.2.1=some (.tup<|x.1.map V.int))->∀y∈m,(tupleKind<|intKind X.prog X.w).is s.heap y.1 y.2.1:=by
  intro l m q;induction q with
  |nil=>intro _ y hy;exact nomatch hy
  |@cons p q ps qs hq t ih=>
   intro hl y hy;rcases ax.mp hy with e |hy;·subst e;rw[hq.1,hq.2.1];exact JY I<|hl p<|by simp
   ·exact ih (λx hx=>hl x<|by simp[hx]) y hy
 exact all r hk y hy
def HS{h:Heap}{a:Addr}{xs:Dx}{ys:List (be×Addr×Value)}(z:xs.length<=sizeLine)(hd:(a==sysModules)=false)(r:X8 xs ys)(dd:h.DictOfH (tupleKind<|intKind P w) a ys):eJ a xs h:=by obtain⟨o,es,ep,h1,h2,h3,h4,h5,h6⟩:=dd;exact⟨z,hd,o,h1,h2,es,ep,ys,h3,λ_ _=>h4,r,h6⟩
def Ev(z:eJ a xs h):XI P w H' h a (.ext<|eJ a xs):=by refine⟨z,let⟨_,_,o,h1,_⟩:=z;⟨o,h1⟩,λh1 h2 y k=>?_⟩;obtain⟨q1,q2,o,h3,h4⟩:=y;exact⟨q1,q2,o,k o h3,h4⟩
def Inv.zF6{a:Addr}(I:Inv X pins σ H s)(h:H a=some (.ext<|eJ a xs)):∃ob,Inv X pins σ (c6 H a<|.YR ob<|.ext<|eJ a xs) s:=by have z:=Y5.is I<|.inl h;obtain⟨q1,q2,ob,h1,h2⟩:=id z;refine⟨ob,?_⟩;exact I.write (x:=a) (e:=a) (t':=s.toks) (by rw[h];exact True.intro) (.inl rfl) (λb u _ q=>q) ⟨ob,h1⟩ ⟨h1,Ev z⟩
section
variable {K:bL}{ρ:List Sl}
def Qy(σ:St)(ρ:List Sl)(p:Addr):Prop:=∀(i:Nat)xs,ρ[i]?=some (.Ye xs)->σ[i]?≠some (some<|.ref p)
def Ok.zE5{p:Addr}(k:Ok K B F H σ ρ)(hp:H p=none):Qy σ ρ p:=λi xs e q=>by obtain⟨a,vs,h1,h2,_⟩:=k.XQ.Za i xs e;rw[h1]at q;cases q;rw[hp]at h2;cases h2
def gU{s:Sl}(j:Nat)(t:Sl)(h:(ρ.set i s)[j]?=some t)(hn:t≠s):i≠j/\ρ[j]?=some t:=by
 by_cases e:i=j
 ·subst e;rw[List.getElem?_set_self']at h;cases z:ρ[i]? with
  |none=>rw[z]at h;cases h
  |some w=>rw[z]at h;exact absurd (bG h).symm hn
 ·rw[List.getElem?_set_ne e]at h;exact⟨e,h⟩
def Ok.zDH{p:Addr}(k:Ok K B F H σ ρ)(i:Nat)(hp:H p=some (.ext<|eJ p es))(hf:F p=none)(hb:B.H p=none)(hn:Qy σ ρ p)(r:Yv F kvs es):Ok K B F H (σ.set i<|some<|.ref p) (ρ.set i<|.Ye kvs):=by
 refine⟨k.toExt,by rw[bx,bx,k.len],λj d q=>?_,λj xs q=>?_,λj l xs ys a q1 q2 q3 q4=>?_,λj ks q=>?_,λj l xs ys a q1 q2 q3 q4=>?_⟩;·obtain⟨n,q'⟩:=gU j _ q λz=>nomatch z;rw[List.getElem?_set_ne n];exact k.vals j d q'
 ·obtain⟨n,q'⟩:=gU j _ q λz=>nomatch z;rw[List.getElem?_set_ne n];exact k.Yk j xs q'
 ·obtain⟨n1,q1⟩:=gU j _ q1 λz=>nomatch z;obtain⟨n2,q2⟩:=gU l _ q2 λz=>nomatch z;rw[List.getElem?_set_ne n1]at q3;rw[List.getElem?_set_ne n2]at q4;exact k.dist j l xs ys a q1 q2 q3 q4
 ·by_cases h:i=j
  ·subst h;rw[List.getElem?_set_self']at q;cases z:ρ[i]? with
   |none=>rw[z]at q;cases q
   |some w=>
    rw[z]at q;cases q;have hi:i<σ.length:=by rw[k.len];exact(List.getElem?_eq_some_iff.mp z).1
    exact⟨p,es,by rw[List.getElem?_set_self hi],hp,hf,hb,r⟩
  ·rw[List.getElem?_set_ne h]at q ⊢;exact k.XQ.Za j ks q
 ·by_cases n1:i=j
  ·by_cases n2:i=l;·exact n1.symm.trans n2
   ·subst n1;rw[List.getElem?_set_ne n2]at q2 q4;have hi:i<σ.length:=by have:=(List.getElem?_eq_some_iff.mp q3).1;rw[bx]at this;exact this
    rw[List.getElem?_set_self hi]at q3;cases q3;exact absurd q4<|hn l ys q2
  ·by_cases n2:i=l
   ·subst n2;rw[List.getElem?_set_ne n1]at q1 q3;have hi:i<σ.length:=by have:=(List.getElem?_eq_some_iff.mp q4).1;rw[bx]at this;exact this
    rw[List.getElem?_set_self hi]at q4;cases q4;exact absurd q3<|hn j xs q1
   ·rw[List.getElem?_set_ne n1]at q1 q3;rw[List.getElem?_set_ne n2]at q2 q4;exact k.XQ.Y6 j l xs ys a q1 q2 q3 q4
def Ok.zEC{i:Nat}(k:Ok K B F H σ ρ)(hi:ρ[i]?=some (.Ye kvs))(hs:σ[i]?=some (some<|.ref p))(r:Yv F zBS es'):Ok K B F (c6 H p<|.ext<|eJ p es') σ (ρ.set i<|.Ye zBS):=by
 obtain⟨a,us,h1,h2,h3,h4,h5⟩:=k.XQ.Za i kvs hi;rw[h1]at hs;cases hs;have X3:i<ρ.length:=(List.getElem?_eq_some_iff.mp hi).1;refine⟨⟨λb u q=>?_,λb u q=>?_,k.sf,k.nw⟩,by rw[bx,k.len],λj d q=>?_,λj xs q=>?_,λj l xs ys a q1 q2=>?_,λj ks q=>?_,λj l xs ys a q1 q2 q3 q4=>?_⟩
 ·have ne:b≠p:=λz=>by subst z;rw[h3]at q;cases q
  rw[aK ne];exact k.sub b u q
 ·have ne:b≠p:=λz=>by subst z;rw[h4]at q;cases q
  rw[aK ne];exact k.sh b u q
 ·exact k.vals j d (gU j _ q λz=>nomatch z).2
 ·obtain⟨b,vs,g1,g2,g3⟩:=k.Yk j xs (gU j _ q λz=>nomatch z).2;have ne:b≠p:=λz=>by subst z;rw[h2]at g2;cases g2
  exact⟨b,vs,g1,by rw[aK ne];exact g2,g3⟩
 ·exact k.dist j l xs ys a (gU j _ q1 λz=>nomatch z).2 (gU l _ q2 λz=>nomatch z).2
 ·by_cases h:i=j;·subst h;rw[List.getElem?_set_self X3]at q;cases q;exact⟨p,es',h1,aM,h3,h4,r⟩
  ·rw[List.getElem?_set_ne h]at q;obtain⟨b,Zd,g1,g2,g3,g4,g5⟩:=k.XQ.Za j ks q;have ne:b≠p:=λz=>by subst z;exact h<|k.XQ.Y6 i j kvs ks b hi q h1 g1
   exact⟨b,Zd,g1,by rw[aK ne];exact g2,g3,g4,g5⟩
 ·have own:∀(m:Nat)ys,(ρ.set i<|.Ye zBS)[m]?=some (.Ye ys)->∃zs,ρ[m]?=some (.Ye zs):=λm ys q=>by
   by_cases h:i=m;·subst h;exact⟨kvs,hi⟩
   ·rw[List.getElem?_set_ne h]at q;exact⟨ys,q⟩
  obtain⟨y1,z1⟩:=own j xs q1;obtain⟨y2,z2⟩:=own l ys q2;exact k.XQ.Y6 j l _ _ a z1 z2 q3 q4
def Ok.ZZ{i:Nat}(k:Ok K B F H σ ρ)(hi:ρ[i]?=some (.Ye kvs)):∃a es,H a=some (.ext<|eJ a es)/\∀ob,XC F (c6 F a<|.YR ob<|.ext<|eJ a es)/\Ok K B (c6 F a<|.YR ob<|.ext<|eJ a es) (c6 H a<|.YR ob<|.ext<|eJ a es) σ (ρ.set i<|.val<|.XQ kvs):=by
 obtain⟨a,es,h1,h2,h3,h4,h5⟩:=k.XQ.Za i kvs hi;have X3:i<ρ.length:=(List.getElem?_eq_some_iff.mp hi).1;refine⟨a,es,h2,λob=>?_⟩;have sf:XC F (c6 F a<|.YR ob<|.ext<|eJ a es):=aR h3;refine⟨sf,⟨λb u q=>?_,λb u q=>?_,k.sf.trans sf,λb q=>?_⟩,by rw[bx,k.len],λj d q=>?_,λj xs q=>?_,λj l xs ys a q1 q2=>?_,λj ks q=>?_,λj l xs ys a q1 q2=>?_⟩
 ·by_cases h:b=a;·subst h;rw[aM]at q ⊢;exact q
  ·rw[aK h]at q ⊢;exact k.sub b u q
 ·have ne:b≠a:=λz=>by subst z;rw[h4]at q;cases q
  rw[aK ne];exact k.sh b u q
 ·by_cases h:b=a;·subst h;exact .inr h4
  ·rw[aK h]at q;exact k.nw b q
 ·by_cases h:i=j;·subst h;rw[List.getElem?_set_self X3]at q;cases q;exact⟨_,h1,.XQ aM<|h5.mono sf⟩
  ·rw[List.getElem?_set_ne h]at q;obtain⟨v,g1,g2⟩:=k.vals j d q;exact⟨v,g1,g2.mono sf⟩
 ·obtain⟨b,vs,g1,g2,g3,g4,g5⟩:=k.Yk j xs (gU j _ q λz=>nomatch z).2;have ne:b≠a:=λz=>by subst z;rw[h2]at g2;cases g2
  exact⟨b,vs,g1,by rw[aK ne];exact g2,by rw[aK ne];exact g3,g4,g5.mono sf⟩
 ·exact k.dist j l xs ys a (gU j _ q1 λz=>nomatch z).2 (gU l _ q2 λz=>nomatch z).2
 ·obtain⟨n,q⟩:=gU j _ q λz=>nomatch z;obtain⟨b,Zd,g1,g2,g3,g4,g5⟩:=k.XQ.Za j ks q;have ne:b≠a:=λz=>by subst z;exact n<|k.XQ.Y6 i j kvs ks b hi q h1 g1
  exact⟨b,Zd,g1,by rw[aK ne];exact g2,by rw[aK ne];exact g3,g4,g5.mono sf⟩
 ·exact k.XQ.Y6 j l xs ys a (gU j _ q1 λz=>nomatch z).2 (gU l _ q2 λz=>nomatch z).2
end
def P0(X:Cx)(ρ:cJ)(e:Expr)(kvs:gn):Prop:=∀(B:B0)(F H:Hp)(σ:St)(Q:VK),Ok X.K B F H σ ρ->(∀a xs F' H',Ext ⟨F,H⟩ F' H'->Y5 H' a xs->Yv F' kvs xs->Q (.ref a) H')->wE X e σ H Q
def Yc(X:Cx)(ρ:cJ)(e:Expr)(kvs:gn):Prop:=∀(B:B0)(F H:Hp)(σ:St)(Q:VK),Ok X.K B F H σ ρ->(∀p xs F' H',Ext ⟨F,H⟩ F' H'->H p=none->H' p=some (.ext<|eJ p xs)->F' p=none->Yv F' kvs xs->Q (.ref p) H')->wE X e σ H Q
def Xs.dr(h:Xs X ρ e (.XQ kvs)):P0 X ρ e kvs:=λB F H σ Q k q=>h B F H σ Q k λv F' H' x' r=>by cases r with|XQ hf r=>exact q _ _ F' H' x' (.inr ⟨_,x'.sub _ _ hf⟩) r
def Sj{ρ:cJ}(t:At X N sc)(i:Nat)(hr:ρ[i]?=some (.Ye kvs))(hN:N[i]?=some x:=by rfl)(hv:fB sc x=true:=by rfl)(hx:cv x=true:=by rfl):P0 X ρ (.Name x pos) kvs:=λB F H σ Q k q=>.mk λpins s I=>by obtain⟨a,es,h1,h2,h3,h4,h5⟩:=k.XQ.Za i kvs hr;exact xY t hN hv hx pins s σ H Q I ⟨_,h1,q a es F H (.refl k.sub) (.inl h2) h5⟩
def Ext.ZZ{H:Hp}{q:Addr}(x:Ext ⟨F,H⟩ F' H')(h0:H q=none)(hf:F' q=none):Ext ⟨F,H⟩ (c6 F' q<|.YR ob<|.ext<|eJ q xs) (c6 H' q<|.YR ob<|.ext<|eJ q xs):=⟨Fb x.sub,λb u z=>by
  have ne:b≠q:=λw=>by subst w;have z':H b=some u:=z;rw[h0]at z';cases z'
  rw[aK ne];exact x.sh b u z,x.sf.trans<|aR hf,λb z=>by
  by_cases h:b=q;·subst h;exact .inr h0
  ·rw[aK h]at z;exact x.nw b z⟩
def Yc.Ya(h:Yc X ρ e kvs):Xs X ρ e (.XQ kvs):=λB F H σ Q k q=>.mk λpins s I=>dM (h B F H σ (λv H'=>∃p xs F',v=.ref p/\Ext ⟨F,H⟩ F' H'/\H p=none/\H' p=some (.ext<|eJ p xs)/\F' p=none/\Yv F' kvs xs) k (λp xs F' H' x' h0 h1 h2 r=>⟨p,xs,F',rfl,x',h0,h1,h2,r⟩) pins s I) λu s1 ⟨v,H',I1,rv,p,xs,F',ev,x',h0,h1,h2,r⟩=>by subst ev;obtain⟨ob,I2⟩:=Inv.zF6 I1 h1;exact⟨_,_,I2,rv,q _ _ _ (x'.ZZ h0 h2)<|.XQ aM<|r.mono<|aR h2⟩
def uq{ρ:cJ}(i:Nat)(hi:ρ[i]?=some (.Ye kvs))(h:Xt X (ρ.set i<|.val<|.XQ kvs) ZH o):Xt X ρ ZH o:=λB F H σ E k q=>.mk λpins s I=>by obtain⟨a,es,h2,g⟩:=k.ZZ hi;obtain⟨ob,I2⟩:=Inv.zF6 I h2;obtain⟨sf,k'⟩:=g ob;exact h B _ _ σ E k' (q.later sf) pins s I2
def Bj:Yc X ρ (.Dict [] [] pos) []:=λB F H σ Q k q=>.mk λpins s I=>by have hn:=I.XR.fresh<|aj s.heap.objs.size;have hb:sysModules<s.heap.objs.size:=tG (by decide) (show mainGlobals<s.heap.objs.size from(I.mod.glob.keeps I.bk).lt);have z:eJ s.heap.objs.size [] (s.heap.push {cls:=.type "dict",data:=.dict #[]}):=HS (P:=X.prog) (w:=X.w) (bB _) (bJ.mpr<|dU<|bi hb) .nil<|Heap.DictOfH.new s.heap;refine wpAny_Dict_empty ⟨.ref s.heap.objs.size,_,I.laid (a:=s.heap.objs.size) (o:=.ext<|eJ s.heap.objs.size []) (t':=s.toks) (λ_ _ q=>Heap.get?_push_of_some _ q) (aj _)<|Ev z,rfl,?_⟩;exact q _ [] F _ ⟨k.sub.trans<|aR hn,aR hn,.refl _,λ_ z=>.inl z⟩ hn aM (k.sub.free hn) ⟨rfl,λ_ z=>nomatch z⟩
def wU{pos:Pos}[Z1 X](t:At X N sc)(i:Nat)(h:Yc X ρ e kvs)(hi:N[i]?=some x:=by rfl)(hx:nc sc x=true:=by rfl)(hs:swapsWith e (some<|.Name x pos') pos.line X.env=pure false:=by rfl):X5 X ρ (.Assign [.Name x pos'] e pos) (.nx<|ρ.set i<|.Ye kvs):=.of (rf (i:=i) t.nd (t.ix hi) (t.loc hx) aN hs Jk) λB F H σ E k q=>h B F H σ _ k λp vs F' H' x' h0 hp hf r=>q F' H' _ ((k.ext x').zDH i hp hf (k.sh.free h0) (by have hd:=k.zE5 h0;exact hd) r) x'.sf
def Em{k:be}(t:At X N sc)(ha:P0 X ρ a kvs)(hb:Xs X ρ b (.tup<|k.map D.int))(h:fM kvs k=some n)(hs:mP b:=by intro _ _;rfl):Xs X ρ (.Subscript a b pos) (.int n):=λB F H σ Q kk q=>.mk λpins s I=>by
 refine Subscript_ (dM (ha B F H σ (λv H1=>∃p xs F1,v=.ref p/\Ext ⟨F,H⟩ F1 H1/\Y5 H1 p xs/\Yv F1 kvs xs) kk (λp xs F1 H1 x1 r1 r2=>⟨p,xs,F1,rfl,x1,r1,r2⟩) pins s I) λu s1 ⟨v,H1,I1,rv,p,xs,F1,ev,x1,r1,r2⟩=>?_);subst ev;cases(show u=Value.ref p from rv);refine dM (hb B F1 H1 σ (λv H2=>∃F2,Ext ⟨F1,H1⟩ F2 H2/\Rep X.K F2 v (.tup<|k.map D.int)) (kk.ext x1) (λv F2 H2 x2 r3=>⟨F2,x2,r3⟩) pins s1 I1) λiv s2 ⟨w,H2,I2,Zx,F2,x2,r3⟩=>?_;cases r3 with
 |@tup bt vs ds hf rl=>
  have ev:=Xv.YJ rl;subst ev;cases(show iv=Value.ref bt from Zx);have hd:=Y5.is I2<|r1.mono x2.sh;have r2':=r2.mono x2.sf;obtain⟨z,hsm,ys,rel,dd⟩:=zy I2 hd λx hx=>x2.sub _ _<|r2'.2 x hx;have hv:fM (xs.map kv) k=some n:=by rw[<-h,r2.1]
  rw[DC]at hv;obtain⟨x0,hx0,e0⟩:=Option.map_eq_some_iff.mp hv;obtain⟨w0,hw0,rw0⟩:=(rel.at k).2 x0 hx0;refine kJ (x:=w0) dd.typeIs PySem.F.slot_dict_getitem.lookup ?_<|hs _ _;refine wpAny_getItem_heap (Q:=λr s'=>r=w0/\EP X pins σ Q r s') (yx<|by have:=t.un;lia) (JY I2<|x2.sub _ _ hf) dd hw0 ⟨rfl,.int n,H2,I2.tok _,?_,q _ F2 H2 (x1.t x2)<|.int n⟩;rw[<-e0];exact rw0
def Na{a b:Addr}{k:be}{h':Heap}{t':Nat}(I:Inv X pins σ H s)(h:H a=some (.ext<|eJ a xs))(hk:∀x∈xs,H x.2.1=some (.tup<|x.1.map V.int))(hb:H b=some (.tup<|k.map V.int))(hz:xs.length<sizeLine)(ru:RelV (.int n) u){ys:List (be×Addr×Value)}(rel:X8 xs ys)(hs:(a==sysModules)=false)(dd:h'.DictOfH (tupleKind<|intKind X.prog X.w) a (storedH ys k b u))(sb:Heap.SameBut a s.heap h'):Inv X pins σ (c6 H a<|.ext<|eJ a<|GR xs k b n) {s with heap:=h',toks:=t'}:=by have z:eJ a (GR xs k b n) h':=HS (by have:=Iw xs k b n;lia) hs (rel.put k b ru) dd;exact I.write (x:=a) (e:=a) (by rw[h];exact True.intro) (.inl rfl) (λc q hc w=>(sb.2 c hc).trans w) (let⟨_,_,o,h1,_⟩:=z;⟨o,h1⟩)<|Ev z
def TJ:KS:=λo i v H Q=>∃a xs k b n,o=.ref a/\i=.ref b/\v=.int n/\H a=some (.ext<|eJ a xs)/\(∀x∈xs,H x.2.1=some (.tup<|x.1.map V.int))/\H b=some (.tup<|k.map V.int)/\xs.length<sizeLine/\Q (c6 H a<|.ext<|eJ a<|GR xs k b n)
def QU{X:Cx}(hu:X.A.units+1<cLine):PU X TJ:=by intro pins s σ H o i v ov iv u Q I ro ri rv h;obtain⟨a,xs,k,b,n,rfl,rfl,rfl,h1,h2,h3,h4,q⟩:=h;cases(show ov=Value.ref a from ro);cases(show iv=Value.ref b from ri);obtain⟨z,hs,ys,rel,dd⟩:=zy I (Y5.is I<|.inl h1) h2;refine wpAny_setItem_heap (hsz:=by rw[<-rel.len];exact z) (yx hu) (JY I h3) dd λh' dd' sb=>⟨_,Na I h1 h2 h3 h4 rv rel hs dd' sb,q⟩
def CQ(xs:Dx)(is:Dx):Dx:=is.foldl (λacc x=>GR acc x.1 x.2.1 x.2.2) xs
def M9{a:Addr}{X:Cx}(hu:X.A.units<cLine){Q:PUnit->Shared->Prop}:∀(is:Dx)(ws:List (Value×Value))(xs:Dx)(H:Hp)(s:Shared),Inv X pins σ H s->H a=some (.ext<|eJ a xs)->(∀x∈xs,H x.2.1=some (.tup<|x.1.map V.int))->(∀x∈is,H x.2.1=some (.tup<|x.1.map V.int))->
  Paired (λ(x:be×Addr×Int)(w:Value×Value)=>w.1=.ref x.2.1/\RelV (.int x.2.2) w.2) is ws->xs.length+is.length<sizeLine->(∀s',Inv X pins σ (c6 H a<|.ext<|eJ a<|CQ xs is) s'->Q PUnit.unit s')->
  fh X (forIn ws PUnit.unit λx _=>do
   dictSet a x.fst x.snd
   pure (ForInStep.yield PUnit.unit)) Q E s:=by
 intro is
 induction is with
 |nil=>
  intro ws xs H s I h1 h2 h3 r hz q
  cases r
  have e:c6 H a (.ext<|eJ a xs)=H:=funext λb=>by
   by_cases hb:b=a
   ·subst hb;rw[aM,h1]
   ·rw[aK hb]
  have q':=q s
  rw[show CQ xs []=xs from rfl,e]at q'
  exact av<|q' I
 |cons x is ih=>
  intro ws xs H s I h1 h2 h3 r hz q
  cases r with
  |@cons _ w _ ws hw t=>
  obtain⟨k,b,n⟩:=x
  obtain⟨w1,w2⟩:=w
  obtain⟨e1,rn⟩:=hw
  cases(show w1=Value.ref b from e1)
  rw[aS]at hz
  rw[P2]
  obtain⟨z,hs,ys,rel,dd⟩:=zy I (Y5.is I<|.inl h1) h2
  have hb:H b=some (.tup<|k.map V.int):=h3 (k,b,n)<|by simp
  refine af<|af<|wpAny_dictSet_heap (by show X.A.units<cLine;exact hu) (JY I hb) dd (λh' dd' sb=>?_)<|by rw[<-rel.len];exact z
  refine av ?_
  have I2:=Na (t':=s.toks+(tupleKind<|intKind X.prog X.w).draws k) I h1 h2 hb (by lia) rn rel hs dd' sb
  have tn:∀c ks,H c=some (.tup ks)->c6 H a (.ext<|eJ a<|GR xs k b n) c=some (.tup ks):=λc ks hc=>by
   rw[aK λz=>by subst z;rw[h1]at hc;cases hc];exact hc
  refine ih ws (GR xs k b n) _ _ I2 aM (λy hy=>?_) (λy hy=>tn _ _<|h3 y<|by simp[hy]) t (by have:=Iw xs k b n;lia) λs' I3=>q s' ?_
  ·unfold GR at hy
   split at hy
   ·obtain⟨y',hy',rfl⟩:=List.mem_map.mp hy
    by_cases e:y'.1=k
    ·rw[ar e];exact tn _ _<|h2 y' hy'
    ·rw[ak e];exact tn _ _<|h2 y' hy'
   ·rcases aL.mp hy with h |h
    ·exact tn _ _<|h2 y h
    ·rw[aP]at h;subst h;exact tn _ _ hb
  ·rw[Ip]at I3;exact I3
def wu{ρ:cJ}{k:be}(t:At X N sc)(i:Nat)(hr:ρ[i]?=some (.Ye kvs))(hb:Xs X ρ b (.tup<|k.map D.int))(hz:kvs.length<sizeLine)(hN:N[i]?=some y:=by rfl)(hv:fB sc y=true:=by rfl)(hx:cv y=true:=by rfl)(ha:∀v,assign (.Subscript (.Name y p) b pos) X.env v=(do
   let ov <-holding [v] (eval (.Name y p) X.env)
   let iv <-holding [v,ov] (eval b X.env)
   standAt pos
   holding [v,ov,iv] (setItem ov iv v)
   release [v,ov,iv] []):=by intro _;rfl):EvG X ρ (.Subscript (.Name y p) b pos) (.int n) (ρ.set i (.Ye (fG kvs k n))):=
 .of (L9 aN aN (QU<|by have:=t.un;lia) ha) λB F H σ v Q kk r q=>by
  cases r
  refine .mk λpins s I=>?_
  obtain⟨l,es,h1,h2,h3,h4,h5⟩:=kk.XQ.Za i kvs hr
  refine xY t hN hv hx pins s σ H _ I ⟨_,h1,?_⟩
  refine hb B F H σ _ kk λw F' H' x' Zx=>?_
  cases Zx with
  |@tup bt vs ds hf rl=>
   have ev:=Xv.YJ rl
   subst ev
   have h5':=h5.mono x'.sf
   refine⟨l,es,k,bt,n,rfl,rfl,rfl,x'.sh _ _ h2,λx hx=>x'.sub _ _<|h5'.2 x hx,x'.sub _ _ hf,?_,?_⟩
   ·have e:=aY List.length h5.1
    rw[ae]at e;lia
   ·exact q F' _ _ ((kk.ext x').zEC hr h1<|h5'.put hf n) x'.sf
def Jw{n0:Int}{apos:Pos}{k:be}(t:At X N sc)(ho:P0 X ρ a kvs)(ha:Yj X ρ [e,f] [.tup<|k.map D.int,.int n0])(YC:attributeBase a "get" X.env (eval a X.env)=eval a X.env:=by rfl)(YA:((backTo Xz<|starEach [e,f] X.env).all (λx=>!x.1)&&(backToKw Xz<|keywordEach [] X.env).all (λx=>x.1.isSome)&&decide (([e,f]:tu).length+([]:List Keyword).length+(if([]:List Keyword).isEmpty then 0 else 1)<30))=true:=by rfl)(XN:(apos.endLine==Xz.line)=true:=by rfl)(hs:DA e [f] X.env:=by rfl)(zAL:(backTo Xz<|starEach [f] X.env).any (·.1)=false:=by rfl):Xs X ρ (.Call (.Attribute a "get" apos) [e,f] [] Xz) (.int<|(fM kvs k).getD n0):=λB F H σ Q kk q=>.mk λpins s I=>by
 refine wpAny_Call_method_late YC YA XN rfl (dM (ho B F H σ (λv H1=>∃p xs F1,v=.ref p/\Ext ⟨F,H⟩ F1 H1/\Y5 H1 p xs/\Yv F1 kvs xs) kk (λp xs F1 H1 x1 r1 r2=>⟨p,xs,F1,rfl,x1,r1,r2⟩) pins s I) λu s1 ⟨v,H1,I1,rv,p,xs,F1,ev,x1,r1,r2⟩=>?_);subst ev;cases(show u=Value.ref p from rv);have hd:=Y5.is I1 r1;obtain⟨_,_,ob,g1,g2,_⟩:=id hd;refine⟨"dict","dict.get",PySem.F.plainAttrs_dict,WQ,PySem.F.type_dict_get,⟨ob,g1,g2.1⟩,λc ec=>(by cases ec;exact⟨ob,g1,g2.2.1⟩),?_⟩;have hA:=ha.2 B F1 H1 σ (λvs H2=>∃F2,Ext ⟨F1,H1⟩ F2 H2/\Xv X.K F2 vs [.tup<|k.map D.int,.int n0]) (kk.ext x1) (λvs F2 H2 x2 r3=>⟨F2,x2,r3⟩) Xz pins s1 I1;rw[hs]at hA ⊢;refine GQ (by show(false||(backTo Xz<|starEach [f] X.env).any (·.1))=false;rw[zAL]<;>rfl)<|Calls.evalArgs_plain ?_;refine dM hA λus s2 ⟨vs,H2,I2,rvs,F2,x2,r3⟩=>?_;cases r3 with|cons ra rb=>
 cases rb with|cons rn zHH=>
 cases zHH;cases rn;cases ra with|@tup bt ks ds hf rl=>
 have ev:=Xv.YJ rl;subst ev;obtain⟨u1,u2,rfl,ru1,ru2⟩:=CK rvs;cases(show u1=Value.ref bt from ru1);have r2':=r2.mono x2.sf;obtain⟨z,hsm,ys,rel,dd⟩:=zy I2 (Y5.is I2<|r1.mono x2.sh) λx hx=>x2.sub _ _<|r2'.2 x hx;refine call_meetsIn WQ dd.typeIs PySem.F.entry_dict_get (PySem.F.args_dict_get_3 _ _ _) (meetsH_dict_get_default (tupleKind<|intKind X.prog X.w) p bt hsm u2) ⟨yx<|by have:=t.un;lia,k,ys,JY I2<|x2.sub _ _ hf,dd,?_⟩;refine⟨.int<|(fM kvs k).getD n0,H2,I2.tok _,?_,q _ F2 H2 (x1.t x2)<|.int _⟩;rw[r2.1,DC];obtain⟨hN,hS⟩:=rel.at k;cases qq:(xs.find? λp=>decide<|p.1=k)with|none=>rw[hN qq];exact ru2|some x0=>obtain⟨w0,hw0,rw0⟩:=hS x0 qq;rw[hw0];exact rw0
def WO(l:Addr)(ob:Obj)(xs:Dx):It:=⟨λi H=>H l=some (.YR ob<|.ext<|eJ l xs)/\i<xs.length,λi H v H'=>H'=H/\∃x,xs[i]?=some x/\v=.ref x.2.1,λi H=>H l=some (.YR ob<|.ext<|eJ l xs)/\xs.length<=i,False⟩
def Qx{es:Array DictEntry}{ys:List (be×Addr×Value)}(h:∀(P:Program)(w:World),es.toList=ys.map (entryOfKey<|tupleKind<|intKind P w))(P:Program)(w:World)(r:X8 xs ys):es.size=xs.length/\∀(i:Nat)x,xs[i]?=some x->∃e,es[i]?=some e/\e.key=.ref x.2.1:=by
 have h':=h P w;have hl:es.size=ys.length:=by rw[<-bX,h',ae]
 refine⟨by rw[hl,r.len],λi x hx=>?_⟩;have g:∀{xs:Dx}{ys:List (be×Addr×Value)},X8 xs ys->∀(i:Nat)x,xs[i]?=some x->∃y,ys[i]?=some y/\y.2.1=x.2.1:=by intro xs ys r;induction r with|nil=>intro i x hx;simp at hx|@cons p q ps qs hq t ih=>intro i x hx;cases i with|zero=>simp at hx;subst hx;exact⟨q,by simp,hq.2.1⟩|succ i=>simpa using ih i x (by simpa using hx)
 obtain⟨y,hy,ey⟩:=g r i x hx;refine⟨entryOfKey (tupleKind<|intKind P w) y,?_,?_⟩;·rw[<-Array.getElem?_toList,h',List.getElem?_map,hy];rfl
 ·show Value.ref y.2.1=_;rw[ey]
def Lm{P:Program}{w:World}{K:bL}(l it:Addr)(ob:Obj)(xs:Dx){ys:List (be×Addr×Value)}(h1:ob.data=.dict es ep)(h2:∀(P:Program)(w:World),es.toList=ys.map (entryOfKey<|tupleKind<|intKind P w))(r:X8 xs ys):Bu P w K tg (WO l ob xs) [it] it (λi h=>h.IsKeyIter it l i es.size ep) where
 mem:=by simp
 obj:=λi h st b hb=>by
  have e:b=it:=by simpa using hb
  subst e;obtain⟨o,e,c,d⟩:=st;exact⟨o,e,λv z=>by rw[d]at z;cases z⟩
 keep:=λi h h' st k=>st.at λo e=>k it (by simp) o e
 item:=by intro X hP hw hK hc i pins s σ H E I hf st hg;subst hP hw hK;replace hc:=hc.resolve_right λz=>z.1;obtain⟨hq,hx⟩:=hg;obtain⟨f0,f1,f2,f3,f4,f5⟩:=hf it (by simp);have ho:=(show XI X.prog X.w H s.heap l (.YR ob<|.ext<|eJ l xs)from I.XR l _ hq).1;obtain⟨hl,hg⟩:=Qx h2 X.prog X.w r;obtain⟨e,he,ek⟩:=hg i xs[i]<|List.getElem?_eq_getElem hx;refine HR st ho h1 rfl he λh' YG sb=>?_;have I1:Inv X pins σ H {s with heap:=h'}:=I.turned (t':=s.toks) (λb o hb e=>(sb.2 b hb).trans e) f0 f1 f3 f4 f5;exact⟨e.key,rfl,letGo_keyiter (s':={s with heap:=h'}) YG ⟨.ref xs[i].2.1,H,I1,ek,⟨rfl,_,List.getElem?_eq_getElem hx,rfl⟩,YG,λb hb=>(hf b hb).1⟩⟩
 done:=by intro X hP hw hK hc i pins s σ H E I hf st hg;subst hP hw hK;replace hc:=hc.resolve_right λz=>z.1;obtain⟨hq,hx⟩:=hg;obtain⟨f0,f1,f2,f3,f4,f5⟩:=hf it (by simp);have ho:=(show XI X.prog X.w H s.heap l (.YR ob<|.ext<|eJ l xs)from I.XR l _ hq).1;obtain⟨hl,hg⟩:=Qx h2 X.prog X.w r;exact KC (I.ok.hd hc) st ho h1 rfl (Array.getElem?_eq_none<|by lia) λh' eb=>⟨rfl,I.turned (t':=s.toks) (λb o hb e=>eb b o hb e) f0 f1 f3 f4 f5⟩
 self:=λ_ _ _ _ _ st h=>wpAny_pyIter_keyiter st h
def V2(tl:TE):TI:=λσ H R=>tl σ H λx H1=>∃l ob xs,x=.ref l/\H1 l=some (.YR ob<|.ext<|eJ l xs)/\R (WO l ob xs) H1
def Q9(hl:PE X l tl):PI X tg l (V2 tl):=by
 intro pins s σ H R I h;refine dM (hl pins s σ H _ I h) λv s1 ⟨x,H1,I1,r1,q1⟩=>?_;obtain⟨a,ob,xs,e,hq,q⟩:=q1;subst e;cases(show v=Value.ref a from r1);obtain⟨ho,hz⟩:=(show XI X.prog X.w H1 s1.heap a (.YR ob<|.ext<|eJ a xs)from I1.XR a _ hq);obtain⟨_,hs,o,g1,g2,es,ep,ys,g3,g4,g5,_⟩:=hz.1;have eo:o=ob:=by rw[ho]at g1;exact(bG g1).symm
 subst eo;refine Us hs ho g2 g3 ?_;refine⟨s1.heap.objs.size,[s1.heap.objs.size],_,_,H1,rfl,I1.kept (t':=s1.toks) λb o e=>Heap.get?_push_of_some _ e,Lm a _ _ xs g3 g4 g5,⟨_,Heap.get?_push_size _ rfl,rfl,rfl⟩,λb hb=>?_,q⟩;have e:b=s1.heap.objs.size:=by simpa using hb
 subst e;exact I1.zAC (aj _)<|I1.XR.fresh<|aj _
abbrev T7(q:be×Int):D:=.tup<|q.1.map D.int
def Eu(h:Xs X ρ e (.XQ kvs)):ZX X ρ tg e (kvs.map T7):=.of (Q9 aN) λB F H σ R kk q=>h B F H σ _ kk λv F' H' x' r=>by cases r with|@XQ l ob ks xs hf r=>refine⟨l,ob,xs,rfl,x'.sub _ _ hf,q _ F' H' x' λi F2 H2 s1 s2=>⟨λd hd=>?_,λhl=>⟨s2 _ _<|s1 _ _ hf,by rw[r.1,ae,ae]at hl;exact hl⟩⟩⟩;rw[r.1,bu,List.getElem?_map]at hd;obtain⟨x,hx,e⟩:=Option.map_eq_some_iff.mp hd;subst e;refine⟨⟨s2 _ _<|s1 _ _ hf,(List.getElem?_eq_some_iff.mp hx).1⟩,λv H3 hy=>?_⟩;obtain⟨rfl,x',hx',rfl⟩:=hy;rw[hx]at hx';cases hx';exact⟨F2,.refl s2,.tup (s1 _ _<|r.2 x<|List.mem_of_getElem? hx)<|Xv.ints x.1⟩
section
variable {st:Stmt}{bQ:List Stmt}{ds:aU}
inductive YN(X:Cx)(ρ:cJ):List (Option Expr)->tu->gn->Prop where
 |nil:YN X ρ [] [] []
 |cons {a b:Expr} {as:List (Option Expr)} {bs:tu} {k:be} {n:Int} {r:gn}:Xs X ρ a (.tup<|k.map D.int)->Xs X ρ b (.int n)->YN X ρ as bs r->YN X ρ (some a::as) (b::bs) ((k,n)::r)
def YN.len{bs:tu}(h:YN X ρ as bs kvs):as.all (·.isSome)=true/\as.length=bs.length/\as.length=kvs.length:=by induction h with|nil=>exact⟨rfl,rfl,rfl⟩|cons h1 h2 h3 ih=>exact⟨by rw[List.all_cons,ih.1];rfl,aY Nat.succ ih.2.1,aY Nat.succ ih.2.2⟩
def DU(kvs more:gn):gn:=more.foldl (λacc q=>fG acc q.1 q.2) kvs
def YN.walk{bs:tu}(h:YN X ρ as bs kvs):∀{B:B0}{F H:Hp}{σ:St},Ok X.K B F H σ ρ->∀{pins:gQ}{s:Shared},Inv X pins σ H s->fh X (evalPairs<|pairTrees as bs X.env pos) (λws s'=>∃F' H' xs,Inv X pins σ H' s'/\Ext ⟨F,H⟩ F' H'/\Yv F' kvs xs/\Paired (λ(x:be×Addr×Int)(w:Value×Value)=>w.1=.ref x.2.1/\RelV (.int x.2.2) w.2) xs ws) X.xe s:=by
 induction h with
 |nil=>intro B F H σ kk pins s I;exact pairTrees_nil_walk ⟨F,H,[],I,.refl kk.sub,⟨rfl,λ_ z=>nomatch z⟩,.nil⟩
 |@cons a b as bs k n r h1 h2 h3 ih=>
  intro B F H σ kk pins s I;refine pairTrees_cons_walk (dM (h1 B F H σ (λv H1=>∃F1,Ext ⟨F,H⟩ F1 H1/\Rep X.K F1 v (.tup<|k.map D.int)) kk (λv F1 H1 x1 r1=>⟨F1,x1,r1⟩) pins s I) λu s1 ⟨v,H1,I1,rv,F1,x1,r1⟩=>?_);have k1:=kk.ext x1;refine dM (h2 B F1 H1 σ (λv H2=>∃F2,Ext ⟨F1,H1⟩ F2 H2/\Rep X.K F2 v (.int n)) k1 (λv F2 H2 x2 r2=>⟨F2,x2,r2⟩) pins s1 I1) λu2 s2 ⟨v2,H2,I2,rv2,F2,x2,r2⟩=>?_;refine dM (ih (k1.ext x2) I2) λws s3 ⟨F3,H3,xs,I3,x3,r3,pr⟩=>?_;cases r2;cases r1 with|@tup bt vs ds hf rl=>
  have ev:=Xv.YJ rl;subst ev;cases(show u=Value.ref bt from rv);refine⟨F3,H3,(k,bt,n)::xs,I3,(x1.t x2).t x3,⟨by rw[r3.1];rfl,λx hx=>?_⟩,.cons ⟨rfl,rv2⟩ pr⟩;rcases ax.mp hx with e |hx;·subst e;exact x3.sf _ _<|x2.sf _ _ hf
  ·exact r3.2 x hx
def ID:∀(is:Dx)(kvs:gn)(xs:Dx),Yv F kvs xs->(∀x∈is,F x.2.1=some (.tup<|x.1.map V.int))->Yv F (DU kvs<|is.map kv) (CQ xs is)|[],kvs,xs,r,_=>r|(k,b,n)::is,kvs,xs,r,h=>by show Yv F (DU (fG kvs k n)<|is.map kv) (CQ (GR xs k b n) is);exact ID is _ _ (r.put (h (k,b,n)<|by simp) n) λx hx=>h x<|by simp[hx]
def zx{bs:tu}(t:At X N sc)(h:YN X ρ as bs kvs)(h0:as≠[]:=by exactλz=>nomatch z)(h15:as.length<=15:=by decide):Yc X ρ (.Dict as bs pos) (DU [] kvs):=λB F H σ Q kk q=>.mk λpins s I=>by
 obtain⟨l1,l2,l3⟩:=h.len;rw[arm_eval_Dict,zip_pairTrees as bs X.env pos l1 l2];have Zy:(pairTrees as bs X.env pos).length=as.length:=pairTrees_length as bs X.env pos l1 l2;rw[dictDisplay_pairs _ (λz=>h0<|aT<|by rw[<-Zy,z];rfl)<|by lia];refine af<|ua<|af ?_;unfold subDict;refine af<|wpAny_alloc ?_;have hn:=I.XR.fresh<|aj s.heap.objs.size;have hb:sysModules<s.heap.objs.size:=tG (by decide) (show mainGlobals<s.heap.objs.size from(I.mod.glob.keeps I.bk).lt);have z:eJ s.heap.objs.size [] (s.heap.push {cls:=.type "dict",data:=.dict #[]}):=HS (P:=X.prog) (w:=X.w) (bB _) (bJ.mpr<|dU<|bi hb) .nil<|Heap.DictOfH.new s.heap;have I1:=I.laid (a:=s.heap.objs.size) (o:=.ext<|eJ s.heap.objs.size []) (h':=s.heap.push {cls:=.type "dict",data:=.dict #[]}) (t':=s.toks) (λ_ _ q=>Heap.get?_push_of_some _ q) (aj _)<|Ev z;have x1:Ext ⟨F,H⟩ F (c6 H s.heap.objs.size<|.ext<|eJ s.heap.objs.size []):=⟨kk.sub.trans<|aR hn,aR hn,.refl _,λ_ z=>.inl z⟩;refine af<|cp ?_;rw[ar<|by lia];refine af (dM (h.walk (kk.ext x1) I1) λws s2 ⟨F2,H2,is,I2,x2,r2,pr⟩=>?_);refine cp<|af ?_;have hf2:F2 s.heap.objs.size=none:=x2.kf (kk.sub.free hn) aM;have h2:H2 s.heap.objs.size=some (.ext<|eJ s.heap.objs.size []):=x2.sh _ _ aM;have hlen:is.length=kvs.length:=by rw[r2.1,ae]
 refine M9 (by have:=t.un;lia) is ws [] H2 s2 I2 h2 (λ_ z=>nomatch z) (λx hx=>x2.sub _ _<|r2.2 x hx) pr (by rw[cZ,cO];lia) λs3 I3=>?_;refine av<|av<|av ⟨.ref s.heap.objs.size,_,I3,rfl,?_⟩;have x12:=x1.t x2;have R:Yv F2 (DU [] kvs) (CQ [] is):=by have:=ID is [] [] ⟨rfl,λ_ z=>nomatch z⟩ r2.2;rw[<-r2.1]at this;exact this
 refine q _ (CQ [] is) F2 _ ⟨λc u w=>?_,λc u w=>?_,x12.sf,x12.nw⟩ hn aM hf2 R
 ·have ne:c≠s.heap.objs.size:=λz=>by subst z;rw[hf2]at w;cases w
  rw[aK ne];exact x12.sub c u w
 ·have ne:c≠s.heap.objs.size:=λz=>by subst z;have w':H s.heap.objs.size=some u:=w;rw[hn]at w';cases w'
  rw[aK ne];exact x12.sh c u w
def Yc.eq{zBS:gn}(h:Yc X ρ e kvs)(q:kvs=zBS):Yc X ρ e zBS:=q▸h
def U5(K:bL)(C:aU->gn->Prop):Sp:=λvs H Q _=>∃F ds kvs,XC F H/\Xv K F vs ds/\C ds kvs/\∀p us F' H',Ext ⟨F,H⟩ F' H'->H p=none->H' p=some (.ext<|eJ p us)->F' p=none->Yv F' kvs us->Q (.ref p) H'
def Yz(X:Cx)(x:Str)(C:aU->gn->Prop):Prop:=∃(f:Addr)(fd:FuncData)(ps:bM)(k:Nat),fj X.prog X.w X.K X.mg X.base jq k f fd ps (U5 X.K C)/\X6 k X.A/\X.mg x=some (.ref f)/\PySem.W.keepIn X.K (.ref f)=true/\Binds X.K fd ps []
def oS(X:Cx)(ρ:cJ)(ZH:List Stmt)(kvs:gn):Prop:=∀(B:B0)(F H:Hp)(σ:St)(E:ma),Ok X.K B F H σ ρ->(∀p us F' H',Ext B F' H'->B.H p=none->H' p=some (.ext<|eJ p us)->F' p=none->Yv F' kvs us->E.rt (.ref p) H')->wSs X ZH E σ H
def ip(t:At X N sc){C:aU->gn->Prop}(h:Yz X x C)(ha:Yj X ρ (e::es) ds)(hC:C ds kvs)(hg:z6 sc x:=by rfl)(Yt:tH x:=by rfl):Yc X ρ (.Call (.Name x p) (e::es) [] pos) kvs:=by obtain⟨f,fd,ps,k,F,hr,hm,hk,hb⟩:=h;have pz:i8 jq X E0:=vv;intro B F' H σ Q k' q;refine .mk λpins s I=>?_;refine mK F hr (dO t hg) hm hk hb .nil pz vw Yt (ha.1.1 _ _) (PlA.any ha.1.2) pins s σ H Q I (ha.2 B F' H σ _ k' λvs F1 H1 x1 r1=>?_);exact⟨F1,ds,kvs,x1.sub,by rw[aV];exact r1,hC,λp us F2 H2 x2 h0 hp hf r2=>q p us F2 H2 (x1.t x2) (x1.sh.free h0) hp hf r2⟩
def j0(h1:X5 X ρ st (.nx ρ'))(h2:oS X ρ' bQ kvs):oS X ρ (st::bQ) kvs:=λB F H σ E k q=>(.mk λpins s I=>ib Az ej pins s σ H E I (h1 B F H σ _ k λF1 H1 σ1 k1 s1=>h2 B F1 H1 σ1 E k1 q))
def Ep{ρ:cJ}(t:At X N sc)(i:Nat)(hr:ρ[i]?=some (.Ye kvs))(hN:N[i]?=some x:=by rfl)(hv:fB sc x=true:=by rfl)(hx:cv x=true:=by rfl):oS X ρ [.Return (some<|.Name x pos') pos] kvs:=λB F H σ E k q=>by obtain⟨a,us,h1,h2,h3,h4,h5⟩:=k.XQ.Za i kvs hr;exact .mk λpins s I=>pF (AA<|xY t hN hv hx) pins s σ H E I ⟨_,h1,q a us F H k.toExt h4 h2 h3 h5⟩
def MZ(h:Yc X ρ e kvs):oS X ρ [.Return (some e) pos] kvs:=λB F H σ E k q=>.mk λpins s I=>pF (AA aN) pins s σ H E I (h B F H σ _ k λp us F' H' x' h0 h1 h2 r=>q p us F' H' (k.toExt.trans x') (k.sh.free h0) h1 h2 r)
def R5{P:Program}(Yp:P.given.tree=none){w:World}{K:bL}{mg:xX}{base:Heap}{x qual:Str}{st:Stmt}{f:Addr}{fd:FuncData}{N ps:bM}{k:Nat}{C:aU->gn->Prop}(F:Fun K x qual st f fd)(S:aE N ps (ah st))(len:∀ds xs,C ds xs->ds.length=ps.length)(body:∀X,DefX P w K mg base k N (ah st) X->∀ds xs,C ds xs->oS X (ds.map Sl.val++List.replicate (N.length-ds.length) Sl.un) (bA st) xs):fj P w K mg base jq (k+1) f fd ps (U5 K C):=by
 refine F.ok S (λvs H Q E h=>?_) λYd A outer s H vs Q E hr h=>?_;·obtain⟨F',ds,d,sub,r,hC,q⟩:=h;rw[r.length];exact len ds d hC
 ·obtain⟨F',ds,d,sub,r,hC,q⟩:=h;refine⟨_,ej,?_⟩;have hx:DefX P w K mg base k N (ah st) (wx jq P w K mg base N qual (ah st) f Yd A outer s H E).Z2:=⟨⟨rfl,rfl,rfl,S.nd,rfl,hr.units,hr.Zu,Yp,⟨_,_,rfl,S.gen,S.co,rfl,rfl⟩⟩,rfl,rfl,rfl,rfl,rfl,hr,⟨λ_=>rfl⟩,rfl,rfl⟩;have hb:=body _ hx ds d hC;have hk:Ok K ⟨F',H⟩ F' H (start N vs) (ds.map Sl.val++List.replicate (N.length-ds.length) Sl.un):=by unfold start;rw[r.length];exact lL sub r _
  exact hb ⟨F',H⟩ F' H _ _ hk λp us F2 H2 x2 h0 hp hf r2=>q p us F2 H2 x2 h0 hp hf r2
def DefX.zCW{K:bL}{x:Str}{C:aU->gn->Prop}(h:DefX P w K mg base k N sc X)(F:fj P w K mg base jq j f fd ps (U5 K C))(hj:j<=k)(hm:mg x=some (.ref f))(hk:PySem.W.keepIn K (.ref f)=true)(hb:Binds K fd ps []):Yz X x C:=by obtain⟨h0,rfl,rfl,rfl,rfl,rfl,hr,_⟩:=h;exact⟨f,fd,ps,j,F,hr.mono hj,hm,hk,hb⟩
end
section
variable {R:Result->Shared->Prop}{P:Nat->Value->Prop}{St:Nat->Heap->Prop}
def OR:(toString "max"++toString ".loop")="max.loop":=by decide
def Ko{A:Around}(W:Walks prog w A.in1 I fp wr n P St)(bt:Nat->Nat->Bool)(cmp:CmpOf prog w A.in1 CmpOp.Gt P bt)(S:Addr)(hS:¬S∈fp)(kw:List (Str×Value)):∀(k j:Nat)(s:Shared)(vb:Value)(c:Nat),n-(j+1)=k->j+1<=n->St (j+1) s.heap->P (argBest bt j) vb->s.heap.get? S=some {cls:=Value.type "list",data:=Data.seq #[vb,vb] c}->(∀(v:Value)(h':Heap)(tk:Nat),P (argBest bt<|n-1) v->(∀(b:Addr)(o:Obj),¬b∈wr->b≠S->s.heap.get? b=some o->h'.get? b=some o)->R (Except.ok<|Flow.ret v) {s with heap:=h',toks:=tk})->codeAny (model prog w) A (Code.builtin "max.loop" {pos:=[Value.ref I,Value.none,Value.ref S],kw:=kw}) R s:=by
 intro k;induction k with
 |zero=>
  intro j s vb c hk hj st hb hs hR;refine GT UZ ?_;show wpAny (model prog w) A.in1 (seqItems? (.ref S)>>=_) _ _ s;refine af<|yv hs rfl ?_;refine af<|KU ?_;have e:j+1=n:=by lia
  rw[e]at st;refine W.done s _ _ st λh' tk kp=>?_;have hs':h'.get? S=some {cls:=Value.type "list",data:=Data.seq #[vb,vb] c}:=kp S _ (λz=>hS<|W.sub S z) hs;show wpAny (model prog w) A.in1 (updateSeq S (λ_=>#[])>>=_) _ _ _;refine af<|Ww hs' rfl ?_;refine af<|Vc<|av ?_;refine hR vb _ tk (by rw[show n-1=j by lia];exact hb) λb o hw hb' e'=>?_;rw[Heap.get?_update_other _ _<|dU hb'];exact kp b o hw e'
 |succ k ih=>
  intro j s vb c hk hj st hb hs hR;refine GT UZ ?_;show wpAny (model prog w) A.in1 (seqItems? (.ref S)>>=_) _ _ s;refine af<|yv hs rfl ?_;refine af<|KU ?_;refine W.item (j+1) s _ _ (by lia) st λv h' tk pv YG kp=>?_;have hs':h'.get? S=some {cls:=Value.type "list",data:=Data.seq #[vb,vb] c}:=kp S _ (λz=>hS<|W.sub S z) hs;refine af<|av ?_;show wpAny (model prog w) A.in1 (tryCatch _ _>>=_) _ _ _;refine af<|KU<|cp<|af<|cmp (j+1) (argBest bt j) v vb _ _ _ pv hb ?_;refine af<|cp<|dC ?_;refine af<|Vc<|av ?_;have ea:argBest bt (j+1)=if bt (j+1) (argBest bt j)=true then j+1 else argBest bt j:=rfl;by_cases hbt:bt (j+1) (argBest bt j)=true
  ·rw[hbt,ar rfl];refine af<|Ww hs' rfl ?_;refine af<|Vc<|av ?_;dsimp only;rw[OR];refine⟨NT EZ _,?_⟩;rw[ar hbt]at ea;refine ih (j+1) _ v c (by lia) (by lia) (W.frame _ _ _ YG λb hb' o e'=>?_) (by rw[ea];exact pv) ?_ λv' h'' tk' pv' kp'=>hR v' h'' tk' pv' λb o hw hS' e'=>kp' b o hw hS' ?_;·show(h'.update S _).get? b=some o;rw[Heap.get?_update_other _ _ λz=>hS<|by rw[z];exact hb'];exact e'
   ·exact Heap.get?_update_self _ hs' rfl
   ·show(h'.update S _).get? b=some o;rw[Heap.get?_update_other _ _<|dU hS'];exact kp b o hw e'
  ·rw[Bool.not_eq_true]at hbt;rw[hbt,ak<|by decide];refine af<|Vc<|av ?_;dsimp only;rw[OR];refine⟨NT EZ _,?_⟩;rw[ak<|by rw[hbt];decide]at ea;exact ih (j+1) _ vb c (by lia) (by lia) YG (by rw[ea];exact hb) hs' λv' h'' tk' pv' kp'=>hR v' h'' tk' pv' λb o hw hS' e'=>kp' b o hw hS'<|kp b o hw e'
def Hw{s:Shared}{A:Around}(W:Walks prog w A.in1 I fp wr n P St)(bt:Nat->Nat->Bool)(cmp:CmpOf prog w A.in1 CmpOp.Gt P bt)(S:Addr)(hS:¬S∈fp)(k0:Str)(d:Value)(st:St 0 s.heap)(hs:s.heap.get? S=some {cls:=Value.type "list",data:=Data.seq #[] c})(hR:∀(v:Value)(h':Heap)(tk:Nat),(if 0<n then P (argBest bt<|n-1) v else v=d)->(∀(b:Addr)(o:Obj),¬b∈wr->b≠S->s.heap.get? b=some o->h'.get? b=some o)->R (Except.ok<|Flow.ret v) {s with heap:=h',toks:=tk}):codeAny (model prog w) A (Code.builtin "max.loop" {pos:=[Value.ref I,Value.none,Value.ref S],kw:=[(k0,d)]}) R s:=by
 refine GT UZ ?_;show wpAny (model prog w) A.in1 (seqItems? (.ref S)>>=_) _ _ s;refine af<|yv hs rfl ?_;refine af<|KU ?_;by_cases hn:0<n
 ·refine W.item 0 s _ _ hn st λv h' tk pv YG kp=>?_;have hs':h'.get? S=some {cls:=Value.type "list",data:=Data.seq #[] c}:=kp S _ (λz=>hS<|W.sub S z) hs;refine af<|av ?_;show wpAny (model prog w) A.in1 (updateSeq S (λ_=>#[v,v])>>=_) _ _ _;refine af<|Ww hs' rfl<|av ?_;dsimp only;rw[OR];refine⟨NT EZ _,?_⟩;obtain⟨c',Z4⟩:∃c',(h'.update S (Obj.mapSeq λ_=>#[v,v])).get? S=some {cls:=Value.type "list",data:=Data.seq #[v,v] c'}:=⟨_,Heap.get?_update_self (Obj.mapSeq λ_=>#[v,v]) hs' rfl⟩;refine Ko W bt cmp S hS _ _ 0 _ v c' rfl hn (W.frame _ _ _ YG λb hb' o e'=>?_) pv ?_ λv' h'' tk' pv' kp'=>hR v' h'' tk' (by rw[ar hn];exact pv') λb o hw hS' e'=>kp' b o hw hS' ?_;·show(h'.update S _).get? b=some o;rw[Heap.get?_update_other _ _ λz=>hS<|by rw[z];exact hb'];exact e'
  ·exact Z4
  ·show(h'.update S _).get? b=some o;rw[Heap.get?_update_other _ _<|dU hS'];exact kp b o hw e'
 ·have e:n=0:=by lia
  subst e;refine W.done s _ _ st λh' tk kp=>?_;show wpAny (model prog w) A.in1 (rule _>>=_) _ _ _;refine af<|Xa<|av ?_;exact hR d h' tk (by rw[ak hn]) λb o hw hS' e'=>kp b o hw e'
def KE{Q:wL}{s:Shared}{A:Around}(hh:A.handled=none)(hl:s.heap.IsList l items)(bt:Nat->Nat->Bool)(cmp:CmpOf prog w A.in1 CmpOp.Gt (λi v=>items[i]?=some v) bt)(h:∀(v:Value)(h':Heap)(tk:Nat),(if 0<items.size then items[argBest bt<|items.size-1]?=some v else v=.int 0 t)->(∀(b:Addr)(o:Obj),s.heap.get? b=some o->h'.get? b=some o)->Q v {s with heap:=h',toks:=tk}):wpAny (model prog w) A (call (.builtin "max") [.ref l] [("default",.int 0 t)]) Q E s:=by
 refine wpAny_runValue<|codeAny_call_builtin F.plain_max F.entry_max ?_;refine fq (a:=()) (by first |rfl |decide) ?_;show wpAny _ A.in1 (Builtin.Builtins.bindParams "max" ["key","default"] 0 {kw:=[("default",.int 0 t)]}>>=_) _ _ s;refine af<|fq (a:=[none,some<|.int 0 t]) (by rfl) ?_;show wpAny _ A.in1 (pyIter (.ref l)>>=_) _ _ s;refine af<|qJ hl ?_;refine af ?_;unfold newList;refine bP ?_ (by size_fits);refine av ?_;dsimp only;rw[OR];refine⟨NT EZ _,?_⟩;obtain⟨ol,q1,q2⟩:=id hl;have X3:l<s.heap.objs.size:=aI q1;have hsz:(s.heap.push {cls:=.type "list_iterator",data:=.fields #[.ref l,.int 0 0]}).objs.size=s.heap.objs.size+1:=by rw[eG]
 have kp:∀(b:Addr)(o:Obj),s.heap.get? b=some o->((s.heap.push {cls:=.type "list_iterator",data:=.fields #[.ref l,.int 0 0]}).push {cls:=.type "list",data:=.seq #[]}).get? b=some o:=λb o e=>Heap.get?_push_of_some _<|Heap.get?_push_of_some _ e;refine Hw (I:=s.heap.objs.size) (P:=λi v=>items[i]?=some v) (Walks.list (A:=A.in1) hh s.heap.objs.size l (bi X3) items) bt cmp _ ?_ "default" (.int 0 t) ⟨⟨_,Heap.get?_push_of_some _<|Heap.get?_push_size _ rfl,rfl,rfl⟩,⟨ol,kp l ol q1,q2⟩⟩ (Heap.get?_push_size _ rfl) λv h' tk hv kp'=>h v h' tk hv λb o e=>kp' b o (λz=>?_) (λz=>?_)<|kp b o e
 ·rw[hsz];intro z;rcases ax.mp z with z |z;·exact absurd z<|iG<|eL _
  ·have z':=aP.mp z;rw[<-z']at X3;exact absurd X3<|j7<|NU _
 ·have z':=aP.mp z;rw[z']at e;exact absurd (aI e)<|dQ _
 ·rw[z,hsz]at e;exact absurd (aI e)<|j7<|NU _
end
abbrev Kp(ns:be):Int:=ns.foldl max 0
def xT(ns:be)(h0:∀n∈ns,0<=n):∀k,k<ns.length->ns.getD (argBest (λi j=>decide<|ns.getD i 0>ns.getD j 0) k) 0=Kp (ns.take<|k+1)/\argBest (λi j=>decide<|ns.getD i 0>ns.getD j 0) k<ns.length
 |0,h=>by refine⟨?_,h⟩;cases ns with|nil=>simp at h|cons a r=>have:=h0 a (by simp);show a=max 0 a;lia
 |k+1,h=>by
  obtain⟨e,hl⟩:=xT ns h0 k (by lia);have et:ns.take (k+1+1)=ns.take (k+1)++[ns[k+1]]:=by rw[List.take_add_one,List.getElem?_eq_getElem h];rfl
  have eg:ns.getD (k+1) 0=ns[k+1]:=by rw[List.getD_eq_getElem?_getD,List.getElem?_eq_getElem h];rfl
  have ea:argBest (λi j=>decide<|ns.getD i 0>ns.getD j 0) (k+1)=if decide (ns.getD (k+1) 0>ns.getD (argBest (λi j=>decide<|ns.getD i 0>ns.getD j 0) k) 0)=true then k+1 else argBest (λi j=>decide<|ns.getD i 0>ns.getD j 0) k:=rfl;have em:Kp (ns.take<|k+1+1)=max (Kp<|ns.take<|k+1) ns[k+1]:=by show List.foldl max 0 (ns.take<|k+1+1)=_;rw[et,gu];rfl
  rw[ea,em,<-e,<-eg];by_cases hc:ns.getD (k+1) 0>ns.getD (argBest (λi j=>decide<|ns.getD i 0>ns.getD j 0) k) 0;·rw[ar<|aF hc];exact⟨by lia,h⟩
  ·rw[ak<|by rw[ao hc];decide];exact⟨by lia,hl⟩
def z7:∀{ns:be}{us:gC}(i:Nat)(v:Value),Vals (ns.map V.int) us->us[i]?=some v->∃t,v=.int (ns.getD i 0) t
 |[],_,i,v,r,e=>by cases r;simp at e
 |n::ns,_,0,v,r,e=>by cases r with|cons h t=>simp at e;subst e;exact h
 |n::ns,_,i+1,v,r,e=>by cases r with|cons h t=>simpa using z7 i v t (by simpa using e)
def Pg{ns:be}(t:At X N sc)(bl:pd X sc x (.builtin "max"))(h:Y4 X ρ e true (ns.map D.int))(h0:∀n∈ns,0<=n)(YK:Pl e:=by intro _ _;rfl):Xs X ρ (.Call (.Name x p) [e] [⟨some "default",.Constant (.int 0) j kp,kq⟩] pos) (.int<|Kp ns):=λB F H σ Q k q=>.mk λpins s I=>by
 refine oY<|rH I (dO t bl.g) bl.m bl.v ?_ bl.n bl.d;have A1:=bf (X:=X) (e:=e) aN cq (YK _ _) pos pins s σ H (λvs H1=>∃l ws F1,vs=[.ref l]/\Ext ⟨F,H⟩ F1 H1/\XZ X.K H1 l ws/\Xv X.K F1 ws (ns.map D.int)) I (h B F H σ _ k λl ws F1 H1 x1 sq rl=>⟨l,ws,F1,rfl,x1,sq,rl⟩);rw[YK [] X.env]at A1 ⊢;refine callWith_builtin_kwB (by rfl) (by rfl)<|evalArgs_kwB (by rfl) (dM A1 λus s1 ⟨vs,H1,I1,r1,l,ws,F1,ev,x1,sq,rl⟩=>?_);subst ev;obtain⟨u,rfl,ru⟩:=jS r1;cases(show u=Value.ref l from ru);refine wpAny_evalAll_cons<|af (dM (Ho (X:=X) pins s1 σ H1 (λv H2=>H2=H1/\v=.int 0) I1 ⟨rfl,rfl⟩) λu2 s2 ⟨v2,H2,I2,rv2,e2,e3⟩=>?_);subst e2 e3;obtain⟨tk2,rfl⟩:=(show∃tk,u2=Value.int 0 tk from rv2);refine af<|ua<|av<|wpAny_evalAll_nil ?_;have ew:=Xv.YJ rl;subst ew;obtain⟨its,rv,pl,hz⟩:=I2.list sq;have hlen:ns.length=its.length:=by have:=rv.length;rw[ae]at this;exact this
 show fh X (call (.builtin "max") [.ref l] [("default",.int 0 tk2)]) _ _ s2;refine KE (I.ok.hd t.calm) pl.isList (λi j=>decide<|ns.getD i 0>ns.getD j 0) (CmpOf.ints_gt (λi=>ns.getD i 0) λi v hv=>z7 i v rv<|by simpa using hv) λv h' tk hv kp'=>?_;refine⟨.int<|Kp ns,H2,I2.kept (t':=tk) kp',?_,q _ F1 H2 x1<|.int _⟩;by_cases hn:0<its.toArray.size
 ·rw[ar hn]at hv;have Zp:0<ns.length:=by rw[hlen];simpa using hn
  have hs:its.toArray.size-1=ns.length-1:=by rw[hlen];simp
  rw[hs]at hv;obtain⟨e1,e2⟩:=xT ns h0 (ns.length-1) (by lia);rw[List.getElem?_toArray]at hv;obtain⟨tk',rfl⟩:=z7 _ v rv hv;rw[e1,show ns.length-1+1=ns.length by lia,a7];exact⟨tk',rfl⟩
 ·rw[ak hn]at hv;subst hv;have:ns=[]:=aT (by rw[hlen];simpa using hn);subst this;exact⟨tk2,rfl⟩
def Gb{ow:Str->Bool}(cx:zAG X X' N' sc' ow)(i:Nat)(hi:N'[i]?=some x:=by rfl)(hx:nc sc' x=true:=by rfl)(hw:ow x=true:=by rfl):ZE X' ρ (.Name x pos) d (ρ.set i<|.val d):=.of (pG (i:=i) cx.at'.nd (cx.at'.ix hi) (cx.at'.loc hx)<|.inl<|cx.fn' x hw) λB F H σ v Q k r q=>q _ (k.XM i r) λp h=>h.XM i _ d
def BM(its:gC):slicePick its.toArray none none (some (-1))=its.reverse.toArray:=by
 unfold slicePick;have e1:sliceBounds none none (some (-1)) its.toArray.size=((its.toArray.size:Int)-1,-1,-1):=rfl;rw[e1];show((sliceRange ((its.toArray.size:Int)-1) (-1) (-1)).filterMap (its.toArray[·]?)).toArray=_;have e2:sliceRange ((its.toArray.size:Int)-1) (-1) (-1)=(List.range its.toArray.size).map λ(k:Nat)=>((its.toArray.size:Int)-1+(k:Int)*(-1)).toNat:=by
  unfold sliceRange;have e3:(if(-1:Int)>0 then(if(its.toArray.size:Int)-1< -1 then(-1-((its.toArray.size:Int)-1)+ -1-1) / -1 else 0)else(if(its.toArray.size:Int)-1> -1 then((its.toArray.size:Int)-1- -1- -1-1) / (- -1)else 0)).toNat=its.toArray.size:=by
   rw[ak<|by decide];by_cases h:(its.toArray.size:Int)-1> -1;·rw[ar h];have:(- -1:Int)=1:=rfl;rw[this,Int.ediv_one];lia
   ·rw[ak h];lia
  show(List.range<|Int.toNat _).map _=_;rw[e3];exact kD λk _=>by congr 1;lia
 rw[e2,List.filterMap_map];have:=HT.zBP its.toArray;rw[<-this];rfl
def Es(ha:Y4 X ρ a true xs)(hc:Xs X ρ c (.int (-1))):XF X ρ (.Subscript a (.Slice none none (some c) p2) pos) xs.reverse:=λB F H σ Q k q=>.mk λpins s I=>by refine Subscript_ (dM (ha B F H σ (λv H1=>∃p vs F1,v=.ref p/\Ext ⟨F,H⟩ F1 H1/\SqB X.K true H1 p vs/\Xv X.K F1 vs xs) k (λp vs F1 H1 x1 s1 r1=>⟨p,vs,F1,rfl,x1,s1,r1⟩) pins s I) λv s1 z=>?_);obtain⟨x,H1,I1,r1,p,vs,F1,hx,x1,sq,rp⟩:=z;subst hx;cases r1;refine wpAny_Slice ?_;rw[evalPart_none];refine av ?_;refine av ?_;rw[evalPart_some];refine dM (hc B F1 H1 σ (λv H2=>∃F2,Ext ⟨F1,H1⟩ F2 H2/\v=.int (-1)) (k.ext x1) (λv F2 H2 x2 r=>by cases r;exact⟨F2,x2,rfl⟩) pins s1 I1) λu s2 z=>?_;obtain⟨y,H2,I2,r2,F2,x2,hy⟩:=z;subst hy;obtain⟨tk,rfl⟩:=r2;have I4:Inv X pins σ H2 {s2 with heap:=s2.heap.push {cls:=.type "slice",data:=.fields #[.none,.none,.int (-1) tk]}}:=I2.kept (t':=s2.toks) λb ob q=>Heap.get?_push_of_some _ q;have sq2:XZ X.K H2 p vs:=SqB.mono x2.sh sq;obtain⟨its,r,ht,hz⟩:=I4.list sq2;have hlen:=r.length;show fh X (subscriptTail a (.Slice none none (some c) p2) (.ref p)<|.ref s2.heap.objs.size) (EP X pins σ Q) X.xe {s2 with heap:=s2.heap.push {cls:=.type "slice",data:=.fields #[.none,.none,.int (-1) tk]}};refine tail_any (ops:=[.ref p,.ref s2.heap.objs.size]) ht.isList.typeIs slot_list_getitem.lookup (wpAny_getItem_list_slice ht.isList (Heap.IsSliceOf.new ..) .none .none (.int (-1) tk) (by decide) ?_<|by rw[aD]<;>lia) rfl;rw[BM];have xx:=x1.t x2;have r3:=rp.mono x2.sf;have hp:=I4.XR.fresh<|aj _;refine⟨.ref _,_,I4.laid (t':=s2.toks) (o:=.lst vs.reverse) (λb ob q=>Heap.get?_push_of_some _ q) (aj _) ?_,rfl,q _ vs.reverse F2 _ ⟨xx.sub.trans<|aR hp,xx.sh.trans<|aR hp,xx.sf,xx.nw⟩ (xx.sh.free hp) aM (xx.sub.free hp) r3.reverse⟩;exact⟨by rw[dv];exact hz,_,0,r.reverse,Heap.get?_push_size _ rfl⟩
def IF{pos:Pos}(t:At X N sc)(i j:Nat)(h1:XF X ρ a us)(h2:Xs X ρ b v)(hij:i≠j)(hi:N[i]?=some x:=by rfl)(hj:N[j]?=some y:=by rfl)(hx:sc.names.lookup x=some .local:=by rfl)(hy:sc.names.lookup y=some .local:=by rfl)(hw:swappedStores [.Tuple [.Name x px,.Name y py] kt pt] (.Tuple [a,b] k2 pt2) (dE sc)=pure (some [x,y]):=by rfl)(hs:swapsWithSole [.Tuple [.Name x px,.Name y py] kt pt] (.Tuple [a,b] k2 pt2) pos.line X.env=pure false:=by rfl)(hs1:DA a [b] X.env:=by rfl)(hs2:DA b [] X.env:=by rfl):X5 X ρ (.Assign [.Tuple [.Name x px,.Name y py] kt pt] (.Tuple [a,b] k2 pt2) pos) (.nx<|(ρ.set i<|.own us).set j<|.val v):=.of (Hf (i:=i) (j:=j) t.calm t.nd (t.ix hi) (t.ix hj) hij (by rw[t.eS];exact hx) (by rw[t.eS];exact hy) (bf aN (bf aN cq hs2) hs1) ((uO (show X.env.scope=(dE sc).scope from t.eS)).trans hw) hs) λB F H σ E k q=>h1 B F H σ _ k λp vs F1 H1 x1 h0 hp hf r=>h2 B F1 H1 σ _ (k.ext x1) λv2 F2 H2 x2 r2=>by have hf2:F2 p=none:=x2.kf hf hp;exact⟨.ref p,v2,rfl,q F2 H2 _ (((k.ext<|x1.t x2).ZJ i (x2.sh _ _ hp) hf2 (k.sh.free h0) (k.noOwn h0)<|r.mono x2.sf).XM j r2) (x1.t x2).sf⟩
def Oi{pos:Pos}(t:At X N sc)(i j:Nat)(h1:XF X ρ a us)(h2:XF X ρ b ws)(hij:i≠j)(hi:N[i]?=some x:=by rfl)(hj:N[j]?=some y:=by rfl)(hx:sc.names.lookup x=some .local:=by rfl)(hy:sc.names.lookup y=some .local:=by rfl)(hw:swappedStores [.Tuple [.Name x px,.Name y py] kt pt] (.Tuple [a,b] k2 pt2) (dE sc)=pure (some [x,y]):=by rfl)(hs:swapsWithSole [.Tuple [.Name x px,.Name y py] kt pt] (.Tuple [a,b] k2 pt2) pos.line X.env=pure false:=by rfl)(hs1:DA a [b] X.env:=by rfl)(hs2:DA b [] X.env:=by rfl):X5 X ρ (.Assign [.Tuple [.Name x px,.Name y py] kt pt] (.Tuple [a,b] k2 pt2) pos) (.nx<|(ρ.set i<|.own us).set j<|.own ws):=.of (Hf (i:=i) (j:=j) t.calm t.nd (t.ix hi) (t.ix hj) hij (by rw[t.eS];exact hx) (by rw[t.eS];exact hy) (bf aN (bf aN cq hs2) hs1) ((uO (show X.env.scope=(dE sc).scope from t.eS)).trans hw) hs) λB F H σ E k q=>h1 B F H σ _ k λp vs F1 H1 x1 h0 hp hf r=>h2 B F1 H1 σ _ (k.ext x1) λp2 vs2 F2 H2 x2 g0 gp gf r2=>by
   have hf2:F2 p=none:=x2.kf hf hp;have ZT:p≠p2:=λe=>by subst e;rw[hp]at g0;cases g0
   have g00:H p2=none:=x1.sh.free g0;have ko:=(k.ext<|x1.t x2).ZJ i (x2.sh _ _ hp) hf2 (k.sh.free h0) (k.noOwn h0)<|r.mono x2.sf;have no2:Yi (σ.set i<|some<|.ref p) (ρ.set i<|.own us) p2:=λm xs e z=>by
    by_cases him:i=m
    ·subst him;rw[List.getElem?_set]at z;rw[ar rfl]at z;split at z;·cases z;exact ZT rfl
     ·cases z
    ·rw[List.getElem?_set_ne him]at e z;exact k.noOwn g00 m xs e z
   exact⟨.ref p,.ref p2,rfl,q F2 H2 _ (ko.ZJ j gp gf (k.sh.free g00) no2 r2) (x1.t x2).sf⟩
def LU{p:PyData}(t:At X N sc){qs:List PyData}(sp:p.canLay0=true)(sd:p.depth<=62)(sq:PyData.canLayAll0 qs=true):pQ X (compareOp .NotIn) (λx y H Q=>Z5 X H x p/\Z5 X H y (.list qs)/\Q (.bl (!qs.any λy=>PyData.eqv y p)) H):=by intro pins s σ H x y v u Q I rx ry h;obtain⟨h1,h2,h3⟩:=h;obtain⟨as,r1⟩:=h1 sp H (.refl _) pins σ s v I rx;obtain⟨bs,r2⟩:=h2 (by simpa[PyData.canLay0]using sq) H (.refl _) pins σ s u I ry;refine SeqAt.notIn_list_reads r2 r1 sq sp ?_ ⟨.bl _,H,I,rfl,h3⟩;have hu:=t.un;have:min (PyData.depthAll qs) p.depth<=p.depth:=yy _ _;lia
def MU{r:Bool}(t:At X N sc)(ha:Xs X ρ a d)(i:Nat)(hr:ρ[i]?=some (.own xs))(sp:(dY d).canLay0=true)(sd:(dY d).depth<=62)(sq:PyData.canLayAll0 (XB xs)=true)(he:(!(XB xs).any λy=>PyData.eqv y<|dY d)=r)(hN:N[i]?=some x:=by rfl)(hv:fB sc x=true:=by rfl)(hx:cv x=true:=by rfl):Xu X ρ (.Compare a [.NotIn] [.Name x p] pos) r:=.of (gh (LU t sp sd sq) aN aN rfl) λB F H σ Q k q=>wN (Xs.p ha) (Y4.p<|dL t i hr hN hv hx) k λx y F' H' x' rx ry=>⟨rx,ry,r,by rw[he],q F' H' x'⟩
end L2.EV
namespace HT
open PySem PySem.Spec PyProof.Rows
variable {K:bL}{ds:aU}
def Y3{Q:wL}{s:Shared}{lo hi:Option Int}(ht:IsTup s.heap t items)(hs:s.heap.IsSliceOf sl vl vu .none)(pl:IsPart vl lo)(pu:IsPart vu hi)(hw:XS items.size 0 lo=0/\XS items.size items.size hi=items.size)(h:Q (.ref t) s):wpAny (model prog w) A (getItem (.ref t)<|.ref sl) Q E s:=by
 obtain⟨os,hos,hcs,hds⟩:=id hs;have hTs:s.TypeIs (.ref sl) "slice":=⟨os,hos,hcs⟩;unfold getItem;try with_reducible refine cp ?_
 first |refine af (av ?_) |skip
 refine af<|wpAny_sequenceKey ht.typeIs (by decide) ?_;refine af<|wpAny_callSpecial?_slot (name:=Str.ofString "__getitem__") ht.typeIs gB<|fc gB ht.typeIs entry_tuple_getitem ?_<|args_tuple_getitem _ _;show wpAny _ _ (Builtin.Tuple.tupleItemsOf (.ref t)>>=_) _ _ s;refine af<|tupleItemsOf_ ht ?_;refine af<|SV hTs ?_;rw[ar<|by decide];refine af<|oo hs pl pu ?_;have zHZ:(((XS items.size 0 lo:Nat):Int)==0&&(1:Int)==1&&(XS items.size items.size hi-XS items.size 0 lo)==items.size)=true:=by rw[hw.1,hw.2];simp
 show wpAny _ _ (if(((XS items.size 0 lo:Nat):Int)==0&&(1:Int)==1&&(XS items.size items.size hi-XS items.size 0 lo)==items.size)=true then _ else _) _ _ s;rw[ar zHZ];refine af<|af (m:=typeOf<|.ref t)<|SV ht.typeIs<|av ?_;rw[ar<|by decide];have fin:wpAny (model prog w) A.in1 (ret<|Value.ref t) (λfin s'=>∃v,fin=Fin.done (Flow.ret v)/\wpAny (model prog w) A (pure v) Q E s') E s:=av ⟨_,rfl,av h⟩;first
  |exact fin|exact af<|av fin
  |trace_state
end HT
namespace L2
open PySem PySem.Spec PyProof.Rows
variable {K:bL}{ds:aU}
def VE(K:bL):V->Option Int->Option Int->Hp->VK->Prop:=λx lo hi H Q=>∃a xs,x=.ref a/\Yu K H a xs/\(HT.XS xs.length 0 lo=0/\HT.XS xs.length xs.length hi=xs.length)/\Q (.ref a) H
def Od:UJ X (VE X.K):=by
 intro pins s σ H x v vl vu lo hi sl Q I rx hs pl pu h;obtain⟨a,xs,rfl,hx,hw,q⟩:=h;cases rx;obtain⟨its,r,ht,hz⟩:=I.tuple hx;have hlen:its.toArray.size=xs.length:=by rw[aD];exact r.length.symm
 refine⟨"tuple",_,PyProof.Rows.slot_tuple_getitem.lookup,ht.typeIs,?_⟩;exact HT.Y3 ht hs pl pu (by rw[hlen];exact hw) ⟨.ref a,H,I,rfl,q⟩
end L2
namespace L2.EV
open PySem PySem.Spec PyProof.Rows
variable {K:bL}{ds:aU}
def Pm{lo hi:Option Expr}{l h:Option Int}(ha:Xs X ρ a (.tup xs))(hl:NR X ρ lo l)(hh:NR X ρ hi h)(hw:HT.XS xs.length 0 l=0/\HT.XS xs.length xs.length h=xs.length):Xs X ρ (.Subscript a (.Slice lo hi none p2) pos) (.tup xs):=.of (vp Od aN Kf Kf) λB F H σ Q k q=>ha B F H σ _ k λv F1 H1 x1 r1=>hl B F1 H1 σ _ (k.ext x1) λF2 H2 x2=>hh B F2 H2 σ _ (k.ext<|x1.t x2) λF3 H3 x3=>by have x:=x1.t<|x2.t x3;have r3:=(r1.mono x2.sf).mono x3.sf;cases r3 with|tup hs rs=>exact⟨_,_,rfl,Yu.of<|x.sub _ _ hs,by rw[rs.length];exact hw,q _ F3 H3 x<|.tup hs rs⟩
def YT(B:B0)(p:Addr)(us:dW):B0:=⟨B.F,c6 B.H p<|.lst us⟩
def YT.same{B:B0}{p:Addr}(h:B.H p=some (.lst us)):YT B p us=B:=by
 have:c6 B.H p (.lst us)=B.H:=funext λb=>by
  by_cases z:b=p;·subst z;rw[aM,h]
  ·rw[aK z]
 show(⟨B.F,c6 B.H p<|.lst us⟩:B0)=B;rw[this]
def YT.up{ws:dW}:YT (YT B p us) p ws=YT B p ws:=by show(⟨B.F,c6 (c6 B.H p<|.lst us) p<|.lst ws⟩:B0)=⟨B.F,c6 B.H p<|.lst ws⟩;rw[Ip]
structure YU(K:bL)(B:B0)(p:Addr)(F:Hp)(us:dW)(xs:aU):Prop where
 st:B.H p=some (.lst us)
 fr:B.F p=none
 rep:Xv K F us xs
def YU.free{K:bL}(l:YU K B p F us xs)(x:Ext B F H):F p=none:=x.kf l.fr l.st
def Bv(K:bL)(B:B0)(p:Addr)(F₀:Hp)(E:ma)(xs':aU):Out->Prop|.nx ρ=>∀F H σ us,Ok K (YT B p us) F H σ ρ->Xv K F us xs'->XC F₀ F->E.nx σ H|.rt d=>∀v F H us,Ext (YT B p us) F H->Xv K F us xs'->Rep K F v d->E.rt v H
def PZ(X:Cx)(p:Addr)(ρ:cJ)(ZH:List Stmt)(o:Out)(xs xs':aU):Prop:=∀(B:B0)(F H:Hp)(σ:St)(E:ma)(us:dW),YU X.K B p F us xs->Ok X.K B F H σ ρ->Bv X.K B p F E xs' o->wSs X ZH E σ H
def Cy(X:Cx)(p:Addr)(ρ:cJ)(st:Stmt)(o:Out)(xs xs':aU):Prop:=∀(B:B0)(F H:Hp)(σ:St)(E:ma)(us:dW),YU X.K B p F us xs->Ok X.K B F H σ ρ->Bv X.K B p F E xs' o->wS X st E σ H
def Ok.now{K:bL}(k:Ok K B F H σ ρ):Ok K ⟨F,B.H⟩ F H σ ρ:=⟨⟨k.sub,k.sh,.refl _,λa q=>.inl q⟩,k.len,k.vals,k.Yk,k.dist,⟨k.XQ.Za,k.XQ.Y6⟩⟩
def Ext.zBM(x:Ext B F H)(y:Ext ⟨F,B.H⟩ F' H'):Ext B F' H':=⟨y.sub,y.sh,x.sf.trans y.sf,λa q=>by
  rcases y.nw a q with z |z;·exact x.nw a z
  ·exact .inr z⟩
section
variable {st:Stmt}{bQ:List Stmt}
def Ke{X:Cx}(l:YU X.K B p F us xs)(k:Ok X.K B F H σ ρ)(q:Bv X.K B p F E xs o):(∃ρ',o=.nx ρ'/\ZC X.K B F E o)\/(∃d,o=.rt d/\ZC X.K ⟨F,B.H⟩ F E o):=by cases o with|nx ρ'=>exact .inl ⟨ρ',rfl,λF' H' σ' k' s'=>q F' H' σ' us (by rw[YT.same l.st];exact k') (l.rep.mono s') s'⟩|rt d=>exact .inr ⟨d,rfl,λv F' H' x r=>q v F' H' us (by rw[YT.same l.st];exact k.toExt.zBM x) (l.rep.mono x.sf) r⟩
def X5.m(h:X5 X ρ st o):Cy X p ρ st o xs xs:=λB F H σ E us l k q=>by
 rcases Ke l k q with⟨_,_,z⟩ |⟨_,_,z⟩;·exact h B F H σ E k z
 ·exact h ⟨F,B.H⟩ F H σ E k.now z
def OD{X:Cx}(q:Bv X.K B p F E xs' o)(s:XC F F1):Bv X.K (YT B p us) p F1 E xs' o:=by
 cases o with
 |nx ρ'=>exactλF' H' σ' ws k r s'=>q F' H' σ' ws (by rw[YT.up]at k;exact k) r<|s.trans s'
 |rt d=>exactλv F' H' ws x r rv=>q v F' H' ws (by rw[YT.up]at x;exact x) r rv
def lM(h1:Cy X p ρ st (.nx ρ1) xs xs1)(h2:PZ X p ρ1 bQ o xs1 xs'):PZ X p ρ (st::bQ) o xs xs':=λB F H σ E us l k q=>(.mk λpins s I=>ib Az ej pins s σ H E I (h1 B F H σ _ us l k λF1 H1 σ1 ws k1 r1 s1=>h2 (YT B p ws) F1 H1 σ1 E ws ⟨aM,l.fr,r1⟩ k1<|OD q s1))
def dq(h1:Cy X p ρ st o xs xs'):PZ X p ρ [st] o xs xs':=λB F H σ E us l k q=>(.mk λpins s I=>pF Az pins s σ H E I<|h1 B F H σ E us l k q)
def Ok.zDC{K:bL}(k:Ok K B F H σ ρ)(l:YU K B p F us xs):Ok K (YT B p ws) F (c6 H p<|.lst ws) σ ρ:=by
 have hf:=l.free k.toExt;have ho:∀a,B.H a=none->a≠p:=λa h z=>by subst z;rw[l.st]at h;cases h
 refine⟨⟨λc u q=>?_,λc u q=>?_,k.sf,λa q=>?_⟩,k.len,k.vals,λi ys h=>?_,k.dist,⟨λi kvs h=>?_,k.XQ.Y6⟩⟩
 ·have ne:c≠p:=λz=>by subst z;rw[hf]at q;cases q
  rw[aK ne];exact k.sub c u q
 ·by_cases z:c=p;·subst z;have q':c6 B.H c (.lst ws) c=some u:=q;rw[aM]at q' ⊢;exact q'
  ·have q':c6 B.H p (.lst ws) c=some u:=q;rw[aK z]at q' ⊢;exact k.sh c u q'
 ·have ne:a≠p:=λz=>by subst z;exact q hf
  rcases k.nw a q with z |z;·exact .inl z
  ·refine .inr ?_;show c6 B.H p (.lst ws) a=none;rw[aK ne];exact z
 ·obtain⟨a,vs,h1,h2,h3,h4,h5⟩:=k.Yk i ys h;have ne:=ho a h4;exact⟨a,vs,h1,by rw[aK ne];exact h2,h3,by show c6 B.H p (.lst ws) a=none;rw[aK ne];exact h4,h5⟩
 ·obtain⟨a,es,h1,h2,h3,h4,h5⟩:=k.XQ.Za i kvs h;have ne:=ho a h4;exact⟨a,es,h1,by rw[aK ne];exact h2,h3,by show c6 B.H p (.lst ws) a=none;rw[aK ne];exact h4,h5⟩
def Bt{i:Nat}{Q:VK}{ρ:cJ}(t:At X N sc)(hr:ρ[i]?=some (.val<|.adr p))(hN:N[i]?=some x)(hv:fB sc x=true)(hx:cv x=true)(k:Ok X.K B F H σ ρ)(h:Q (.ref p) H):wE X (.Name x py) σ H Q:=.mk λpins s I=>by obtain⟨v,h1,h2⟩:=k.vals i _ hr;cases h2;exact xY t hN hv hx pins s σ H Q I ⟨_,h1,h⟩
end
def YU.ext{K:bL}{H:Hp}(l:YU K B p F us xs)(x:Ext ⟨F,H⟩ F' H'):YU K B p F' us xs:=⟨l.st,l.fr,l.rep.mono x.sf⟩
def Ok.back{K:bL}{i:Nat}(k:Ok K B F H σ ρ)(hi:ρ[i]?=some (.own xs))(hs:σ[i]?=some (some<|.ref a))(x:Ext (YT ⟨F,H⟩ a Zd) F' H')(r:Xv K F' Zd xs'):Ok K B F' H' σ (ρ.set i<|.own xs'):=by
 obtain⟨a',us,h1,h2,h3,h4,h5⟩:=k.Yk i xs hi;rw[h1]at hs;cases hs;have X3:i<ρ.length:=(List.getElem?_eq_some_iff.mp hi).1;have hu:∀b u,b≠a->H b=some u->H' b=some u:=λb u ne q=>x.sh b u (by show c6 H a (.lst Zd) b=some u;rw[aK ne];exact q);have Zj:∀b,F b=none->(b=a\/H b≠none)->F' b=none:=λb hf hh=>by
  cases e:F' b with
  |none=>rfl
  |some o=>
   exfalso;rcases x.nw b (by rw[e];exact GM o)with z |z;·exact z hf
   ·have z':c6 H a (.lst Zd) b=none:=z;by_cases y:b=a;·subst y;rw[aM]at z';cases z'
    ·rw[aK y]at z';rcases hh with w |w;·exact y w
     ·exact w z'
 have hn:∀b,B.H b=none\/B.H b≠none:=λb=>by cases B.H b<;>simp
 refine⟨⟨x.sub,λb u q=>?_,k.sf.trans x.sf,λc q=>?_⟩,by rw[bx,k.len],λj d q=>?_,λj ys q=>?_,λj l ys zs b q1 q2 q3 q4=>?_,?_⟩;·exact hu b u (λz=>by subst z;rw[h4]at q;cases q)<|k.sh b u q
 ·rcases x.nw c q with z |z;·exact k.nw c z
  ·refine .inr ?_;have z':c6 H a (.lst Zd) c=none:=z;by_cases y:c=a;·subst y;rw[aM]at z';cases z'
   ·rw[aK y]at z';exact k.sh.free z'
 ·by_cases h:i=j;·subst h;rw[List.getElem?_set_self X3]at q;cases q
  ·rw[List.getElem?_set_ne h]at q;obtain⟨v,g1,g2⟩:=k.vals j d q;exact⟨v,g1,g2.mono x.sf⟩
 ·by_cases h:i=j;·subst h;rw[List.getElem?_set_self X3]at q;cases q;exact⟨a,Zd,h1,x.sh a _<|by show c6 H a (.lst Zd) a=_;rw[aM],Zj a h3<|.inl rfl,h4,r⟩
  ·rw[List.getElem?_set_ne h]at q;obtain⟨b,vs,g1,g2,g3,g4,g5⟩:=k.Yk j ys q;have ne:b≠a:=λz=>by subst z;exact h<|k.dist i j xs ys b hi q h1 g1
   exact⟨b,vs,g1,hu b _ ne g2,Zj b g3<|.inr<|by rw[g2];exact GM _,g4,g5.mono x.sf⟩
 ·have back:∀(m:Nat)ys,(ρ.set i<|.own xs')[m]?=some (.own ys)->∃ws,ρ[m]?=some (.own ws):=λm ys e=>by
   by_cases h:i=m;·subst h;exact⟨xs,hi⟩
   ·rw[List.getElem?_set_ne h]at e;exact⟨ys,e⟩
  obtain⟨w1,e1⟩:=back j ys q1;obtain⟨w2,e2⟩:=back l zs q2;exact k.dist j l w1 w2 b e1 e2 q3 q4
 ·exact k.XQ.to x.sf (λb φ e1 e2 e3=>by
   have ne:b≠a:=λz=>by subst z;rw[h2]at e1;cases e1
   exact⟨hu b _ ne e1,Zj b e2 (.inr (by rw[e1];exact GM _))⟩) (Aj λ_ z=>nomatch z)
abbrev Tb:=List<|Addr×aU
def H8(x:Int)(k:Nat):Builtin.bitAnd x (2 ^ k-1)=x%2 ^ k:=by
 have e:((2:Int) ^ k-1)=((2 ^ k-1:Nat):Int):=by have:1<=2 ^ k:=Nat.one_le_two_pow;rw[Int.natCast_sub this,Int.natCast_pow];rfl
 have hp:(0:Int)<=2 ^ k-1:=by rw[e];exact Int.natCast_nonneg _
 have et:((2:Int) ^ k-1).toNat=2 ^ k-1:=by rw[e];exact dw _
 have ek:((2 ^ k:Nat):Int)=(2:Int) ^ k:=by rw[Int.natCast_pow];rfl
 by_cases hx:0<=x;·rw[bitAnd_pp hx hp,et,NE,Int.natCast_emod,ek,Xq hx]
 ·rw[bitAnd_np hx hp,et,Nat.and_comm,NE,Int.natCast_emod,ek];unfold Builtin.bitNot;rw[Xq<|by lia];have zFG:(0:Int)<2 ^ k:=by rw[<-ek];exact Int.natCast_pos.mpr<|Nat.two_pow_pos k
  generalize(2:Int) ^ k=m at*;have h1:=BK (-x-1)<|Int.ne_of_gt zFG;have h2:=uK (-x-1) zFG;have h3:=Int.mul_ediv_add_emod (-x-1) m;have h4:x=m-1-(-x-1)%m+m*(-((-x-1) / m)-1):=by
   have:m*(-((-x-1) / m)-1)=-(m*((-x-1) / m))-m:=by rw[Int.mul_sub,Int.mul_neg,Xg]
   lia
  have h5:x%m=(m-1-(-x-1)%m)%m:=by
   conv=>lhs;rw[h4]
   rw[Int.add_mul_emod_self_left]
  have h6:(m-1-(-x-1)%m)%m=m-1-(-x-1)%m:=Int.emod_eq_of_lt (by lia) (by lia);rw[h5,h6]
def Jr{k:Nat}(ha:Xs X ρ a (.int i))(hb:Xs X ρ b (.int<|2 ^ k-1)):Xs X ρ (.BinOp a .BitAnd b pos) (.int<|i%2 ^ k):=Be Rp ha hb<|H8 i k
def Pp(ha:Xs X ρ a (.tup xs))(hb:Xs X ρ b (.tup ys))(hx:xs≠[])(hy:ys≠[])(hz:xs.length+ys.length<=sizeLine):Xs X ρ (.BinOp a .Add b pos) (.tup<|xs++ys):=.of (xL OL aN aN) λB F H σ Q k q=>two ha hb k λx y F' H' x' rx ry=>by cases rx with|tup h1 r1=>cases ry with|tup h2 r2=>refine⟨_,_,_,_,rfl,rfl,Yu.of<|x'.sub _ _ h1,Yu.of<|x'.sub _ _ h2,λz=>hx<|aT<|by rw[<-r1.length,z];rfl,by rw[r1.length,r2.length];exact hz,λz=>absurd (aT<|by rw[<-r2.length,z];rfl) hy,λ_ p hp=>?_⟩;exact q _ _ _ (x'.grow hp)<|.tup aM<|(r1.append r2).mono<|aR<|x'.sub.free hp
def Aw{p:PyData}(t:At X N sc){qs:List PyData}(sp:p.canLay0=true)(sd:p.depth<=62)(sq:PyData.canLayAll0 qs=true):pQ X (compareOp .In) (λx y H Q=>Z5 X H x p/\Z5 X H y (.tuple qs)/\Q (.bl (qs.any λy=>PyData.eqv y p)) H):=by intro pins s σ H x y v u Q I rx ry h;obtain⟨h1,h2,h3⟩:=h;obtain⟨as,r1⟩:=h1 sp H (.refl _) pins σ s v I rx;obtain⟨bs,r2⟩:=h2 (by simpa[PyData.canLay0]using sq) H (.refl _) pins σ s u I ry;refine SeqAt.in_tuple_reads r2 r1 sq sp ?_ ⟨.bl _,H,I,rfl,h3⟩;have hu:=t.un;have:min (PyData.depthAll qs) p.depth<=p.depth:=yy _ _;lia
def js{r:Bool}(t:At X N sc)(ha:Xs X ρ a d)(hb:Xs X ρ b (.tup xs))(sp:(dY d).canLay0=true)(sd:(dY d).depth<=62)(sq:PyData.canLayAll0 (XB xs)=true)(he:((XB xs).any λy=>PyData.eqv y<|dY d)=r)(hm:behindInMarks .In b=false:=by rfl):Xu X ρ (.Compare a [.In] [b] pos) r:=.of (gh (Aw t sp sd sq) aN aN hm) λB F H σ Q k q=>wN (Xs.p ha) (Xs.p hb) k λx y F' H' x' rx ry=>⟨rx,ry,r,by rw[he],q F' H' x'⟩
def iz(ha:Xs X ρ a (.str z))(hb:Xs X ρ b (.int i))(hz:z.length<=sizeLine)(h:qL z.cps.toList i=some c)(hs:mP b:=by intro _ _;rfl):Xs X ρ (.Subscript a b pos) (.str ⟨#[c]⟩):=.of (C4 RO aN aN hs) λB F H σ Q k q=>two ha hb k λx y F' H' x' rx ry=>by cases rx;cases ry;exact⟨z,i,c,rfl,rfl,hz,h,q _ F' H' x'<|.str _⟩
def DS{p:PyData}(t:At X N sc){qs:List PyData}(sp:p.canLay0=true)(sd:p.depth<=62)(sq:PyData.canLayAll0 qs=true):pQ X (compareOp .NotIn) (λx y H Q=>Z5 X H x p/\Z5 X H y (.tuple qs)/\Q (.bl (!qs.any λy=>PyData.eqv y p)) H):=by intro pins s σ H x y v u Q I rx ry h;obtain⟨h1,h2,h3⟩:=h;obtain⟨as,r1⟩:=h1 sp H (.refl _) pins σ s v I rx;obtain⟨bs,r2⟩:=h2 (by simpa[PyData.canLay0]using sq) H (.refl _) pins σ s u I ry;refine SeqAt.notIn_tuple_reads r2 r1 sq sp ?_ ⟨.bl _,H,I,rfl,h3⟩;have hu:=t.un;have:min (PyData.depthAll qs) p.depth<=p.depth:=yy _ _;lia
def Eo{r:Bool}(t:At X N sc)(ha:Xs X ρ a d)(hb:Xs X ρ b (.tup xs))(sp:(dY d).canLay0=true)(sd:(dY d).depth<=62)(sq:PyData.canLayAll0 (XB xs)=true)(he:(!(XB xs).any λy=>PyData.eqv y<|dY d)=r)(hm:behindInMarks .NotIn b=false:=by rfl):Xu X ρ (.Compare a [.NotIn] [b] pos) r:=.of (gh (DS t sp sd sq) aN aN hm) λB F H σ Q k q=>wN (Xs.p ha) (Xs.p hb) k λx y F' H' x' rx ry=>⟨rx,ry,r,by rw[he],q F' H' x'⟩
def Sf{r:Bool}(t:At X N sc)(ha:Xs X ρ a d)(hb:Xs X ρ b (.tup xs))(sp:(dY d).canLay0=true)(sd:(dY d).depth<=62)(sq:PyData.canLayAll0 (XB xs)=true)(he:((XB xs).any λy=>PyData.eqv y<|dY d)=r)(hm:behindInMarks .In b=false:=by rfl):Xs X ρ (.Compare a [.In] [b] pos) (.bl r):=.of (k7 (Aw t sp sd sq) aN aN hm) λB F H σ Q k q=>wN (Xs.p ha) (Xs.p hb) k λx y F' H' x' rx ry=>⟨rx,ry,by rw[he];exact q _ F' H' x'<|.bl r⟩
def ZF(X:Cx)(q:Addr)(ρ:cJ)(e:Expr)(d:D)(xs xs':aU):Prop:=∀(B:B0)(F H:Hp)(σ:St)(Q:VK)(us:dW),YU X.K B q F us xs->Ok X.K B F H σ ρ->(∀v F' H' Zd,Ext (YT ⟨F,H⟩ q Zd) F' H'->Xv X.K F' Zd xs'->Rep X.K F' v d->Q v H')->wE X e σ H Q
def NA(X:Cx)(q:Addr)(ρ:cJ)(es:tu)(ds:aU)(xs xs':aU):Prop:=PlA es/\∀(B:B0)(F H:Hp)(σ:St)(Q:dW->Hp->Prop)(us:dW),YU X.K B q F us xs->Ok X.K B F H σ ρ->(∀vs F' H' Zd,Ext (YT ⟨F,H⟩ q Zd) F' H'->Xv X.K F' Zd xs'->Xv X.K F' vs ds->Q vs H')->wA X es σ H Q
def ZU(X:Cx)(q:Addr)(ρ:cJ)(e:Expr)(b:Bool)(xs:aU):Prop:=∀(B:B0)(F H:Hp)(σ:St)(Q:Bool->Hp->Prop)(us:dW),YU X.K B q F us xs->Ok X.K B F H σ ρ->(∀F' H',Ext ⟨F,H⟩ F' H'->Q b H')->wT X e σ H Q
def N0{H:Hp}(x:Ext (YT ⟨F,H⟩ q us) F1 H1)(hf:F q=none):F1 q=none:=x.kf hf aM
def Ext.zHJ{H:Hp}(x:Ext (YT ⟨F,H⟩ q us) F1 H1)(hf:F q=none):Ext (YT ⟨F,H⟩ q ws) F1 (c6 H1 q<|.lst ws):=by
 have h1:=N0 x hf;refine⟨λb u z=>?_,λb u z=>?_,x.sf,λa z=>?_⟩
 ·have ne:b≠q:=λw=>by subst w;rw[h1]at z;cases z
  rw[aK ne];exact x.sub b u z
 ·have z':c6 H q (.lst ws) b=some u:=z;by_cases ne:b=q;·subst ne;rw[aM]at z' ⊢;exact z'
  ·rw[aK ne]at z' ⊢;exact x.sh b u<|by show c6 H q (.lst us) b=some u;rw[aK ne];exact z'
 ·have ne:a≠q:=λw=>by subst w;exact z h1
  rcases x.nw a z with y |y;·exact .inl y
  ·refine .inr ?_;have y':c6 H q (.lst us) a=none:=y;show c6 H q (.lst ws) a=none;rw[aK ne]at y' ⊢;exact y'
def Ext.tM{H:Hp}(x:Ext (YT ⟨F,H⟩ q us) F1 H1)(hf:F q=none)(y:Ext (YT ⟨F1,H1⟩ q ws) F2 H2):Ext (YT ⟨F,H⟩ q ws) F2 H2:=(x.zHJ hf).trans y
def Ext.toM{H:Hp}{q:Addr}(x:Ext ⟨F,H⟩ F' H')(h:H q=some (.lst us)):Ext (YT ⟨F,H⟩ q us) F' H':=by rw[YT.same (B:=⟨F,H⟩) h];exact x
section
variable {st:Stmt}{bQ:List Stmt}{ds:aU}
def Ok.zB3{K:bL}(k:Ok K B F H σ ρ)(l:YU K B q F us xs)(x:Ext (YT ⟨F,H⟩ q ws) F' H'):Ok K (YT B q ws) F' H' σ ρ:=(k.zDC l).ext x
def YU.ff{K:bL}(l:YU K B q F us xs)(k:Ok K B F H σ ρ):F q=none:=l.free k.toExt
def Xs.em(h:Xs X ρ e d):ZF X q ρ e d xs xs:=λB F H σ Q us l k w=>h B F H σ Q k λv F' H' x r=>w v F' H' us (x.toM<|k.sh _ _ l.st) (l.rep.mono x.sf) r
def Yj.am(h:Yj X ρ es ds):NA X q ρ es ds xs xs:=⟨h.1,λB F H σ Q us l k w=>h.2 B F H σ Q k λv F' H' x r=>w v F' H' us (x.toM<|k.sh _ _ l.st) (l.rep.mono x.sf) r⟩
def mO(h1:ZF X q ρ e d xs xs1)(h2:NA X q ρ es ds xs1 xs')(hs:Pl e:=by intro _ _;rfl):NA X q ρ (e::es) (d::ds) xs xs':=⟨⟨hs,h2.1⟩,λB F H σ Q us l k w=>.mk λpos pins s I=>bf aN vw (hs _ _) pos pins s σ H Q I (h1 B F H σ _ us l k λv F1 H1 u1 x1 r1 rv=>h2.2 (YT B q u1) F1 H1 σ _ u1 ⟨aM,l.fr,r1⟩ (k.zB3 l x1) λvs F2 H2 u2 x2 r2 rvs=>w _ F2 H2 u2 (x1.tM (l.ff k) x2) r2<|.cons (rv.mono x2.sf) rvs)⟩
def M5(h:NA X q ρ es ds xs xs')(hl:ds.length<=sizeLine:=by exact cF rfl):ZF X q ρ (.Tuple es x1 pos) (.tup ds) xs xs':=λB F H σ Q us l k w=>.mk λpins s I=>Hm vw pins s σ H Q I (h.2 B F H σ _ us l k λvs F' H' u1 x r rv=>⟨by rw[rv.length];exact hl,λp hp=>w _ _ _ u1 (x.grow hp) (r.mono<|aR<|x.sub.free hp)<|.tup aM<|rv.mono<|aR<|x.sub.free hp⟩)
def mT{pos:Pos}[Z1 X](t:At X N sc)(i:Nat)(h:ZF X q ρ e d xs xs')(hi:N[i]?=some x:=by rfl)(hx:nc sc x=true:=by rfl)(hs:swapsWith e (some<|.Name x pos') pos.line X.env=pure false:=by rfl):Cy X q ρ (.Assign [.Name x pos'] e pos) (.nx<|ρ.set i<|.val d) xs xs':=λB F H σ E us l k w=>(.mk λpins s I=>rf (i:=i) t.nd (t.ix hi) (t.loc hx) aN hs Jk pins s σ H E I (h B F H σ _ us l k λv F' H' u1 x' r rv=>w F' H' _ u1 ((k.zB3 l x').XM i rv) r x'.sf))
def Xu.l{xs:aU}(h:Xu X ρ e r):ZU X q ρ e r xs:=λB F H σ Q us l k w=>h B F H σ Q k w
def I0{X:Cx}(w:Bv X.K B q F E xs' o)(s:XC F F1):Bv X.K B q F1 E xs' o:=by
 cases o with
 |nx ρ'=>exactλF' H' σ' ws k r s'=>w F' H' σ' ws k r<|s.trans s'
 |rt d=>exact w
def tX(hc:ZU X q ρ c true xs)(h:PZ X q ρ ss o xs xs'):Cy X q ρ (.If c ss Zd pos) o xs xs':=λB F H σ E us l k w=>(.mk λpins s I=>C1 oE ej ej pins s σ H E I (hc B F H σ _ us l k λF1 H1 x1=>by rw[ar rfl];exact h B F1 H1 σ E us (l.ext x1) (k.ext x1)<|I0 w x1.sf))
def jp(hc:ZU X q ρ c false xs)(h:PZ X q ρ Zd o xs xs'):Cy X q ρ (.If c ss Zd pos) o xs xs':=λB F H σ E us l k w=>(.mk λpins s I=>C1 oE ej ej pins s σ H E I (hc B F H σ _ us l k λF1 H1 x1=>by rw[ak aC];exact h B F1 H1 σ E us (l.ext x1) (k.ext x1)<|I0 w x1.sf))
end
mutual
inductive GP(K:bL):Value->PyData->Prop where
 |int (i:Int) (t:Tok):GP K (.int i t) (.int i)
 |str (x:Str) (t:Tok):GP K (.str x t) (.str x)
 |tup {a:Addr} {o:Obj} {its:Array Value} {n:Nat} {ps:List PyData}:K.lookup a=some o->o.cls=.type "tuple"->o.data=.seq its n->GPs K its.toList ps->GP K (.ref a) (.tuple ps)
inductive GPs(K:bL):gC->List PyData->Prop where
 |nil:GPs K [] []
 |cons {v:Value} {vs:gC} {p:PyData} {ps:List PyData}:GP K v p->GPs K vs ps->GPs K (v::vs) (p::ps)
end
mutual
def GP.reads{K:bL}(i:K.In h):∀{v:Value}{p:PyData},GP K v p->∃as,Reads h v p as
 |_,_,.int i t=>⟨_,.int i t⟩|_,_,.str x t=>⟨_,.str x t⟩
 |_,_,.tup e c d r=>by obtain⟨as,ra⟩:=GPs.reads i r;exact⟨_,.tuple (i _ _ e) c d ra⟩
def GPs.reads{K:bL}(i:K.In h):∀{vs:gC}{ps:List PyData},GPs K vs ps->∃as,ReadsAll h vs ps as|_,_,.nil=>⟨_,.nil⟩|_,_,.cons a b=>by obtain⟨as,ra⟩:=GP.reads i a;obtain⟨bs,rb⟩:=GPs.reads i b;exact⟨_,.cons ra rb⟩
end
def iZ{x:Str}(t:At X N sc)(hm:X.mg x=some (.ref l))(hk:GP X.K (.ref l) q)(hg:z6 sc x:=by rfl)(Yt:tH x:=by rfl):BJ X ρ (.Name x pos) q:=λB F H σ Q k w=>.mk λpins s I=>ze (v:=.ref l) (dO t hg) hm rfl Yt pins s σ H Q I (w _ F H (.refl k.sub) λhc H' s' pins σ s u I ru=>by cases(show u=Value.ref l from ru);exact hk.reads I.Y9)
def Bf{r:Bool}(t:At X N sc){qs:List PyData}(ha:BJ X ρ a q)(hb:BJ X ρ b (.tuple qs))(sp:q.canLay0=true)(sd:q.depth<=62)(sq:PyData.canLayAll0 qs=true)(he:(qs.any λy=>PyData.eqv y q)=r)(hm:behindInMarks .In b=false:=by rfl):Xu X ρ (.Compare a [.In] [b] pos) r:=.of (gh (Aw t sp sd sq) aN aN hm) λB F H σ Q k q=>wN ha hb k λx y F' H' x' rx ry=>⟨rx,ry,r,by rw[he],q F' H' x'⟩
def MR{r:Bool}(t:At X N sc){qs:List PyData}(ha:BJ X ρ a q)(hb:BJ X ρ b (.tuple qs))(sp:q.canLay0=true)(sd:q.depth<=62)(sq:PyData.canLayAll0 qs=true)(he:(qs.any λy=>PyData.eqv y q)=r)(hm:behindInMarks .In b=false:=by rfl):Xs X ρ (.Compare a [.In] [b] pos) (.bl r):=.of (k7 (Aw t sp sd sq) aN aN hm) λB F H σ Q k q=>wN ha hb k λx y F' H' x' rx ry=>⟨rx,ry,by rw[he];exact q _ F' H' x'<|.bl r⟩
def Ps{r:Bool}(t:At X N sc){qs:List PyData}(ha:BJ X ρ a q)(hb:BJ X ρ b (.tuple qs))(sp:q.canLay0=true)(sd:q.depth<=62)(sq:PyData.canLayAll0 qs=true)(he:(!qs.any λy=>PyData.eqv y q)=r)(hm:behindInMarks .NotIn b=false:=by rfl):Xu X ρ (.Compare a [.NotIn] [b] pos) r:=.of (gh (DS t sp sd sq) aN aN hm) λB F H σ Q k q=>wN ha hb k λx y F' H' x' rx ry=>⟨rx,ry,r,by rw[he],q F' H' x'⟩
def Jp{r:Bool}(t:At X N sc){qs:List PyData}(ha:BJ X ρ a q)(hb:BJ X ρ b (.tuple qs))(sp:q.canLay0=true)(sd:q.depth<=62)(sq:PyData.canLayAll0 qs=true)(he:(!qs.any λy=>PyData.eqv y q)=r)(hm:behindInMarks .NotIn b=false:=by rfl):Xs X ρ (.Compare a [.NotIn] [b] pos) (.bl r):=.of (k7 (DS t sp sd sq) aN aN hm) λB F H σ Q k q=>wN ha hb k λx y F' H' x' rx ry=>⟨rx,ry,by rw[he];exact q _ F' H' x'<|.bl r⟩
def Pk:D->Bool|.XY=>true |.bl _=>true |.int _=>true |.str _=>true |.tup _=>true |.lst _=>true |.XQ _=>true |_=>false
def O3{X:Cx}(hk:PySem.W.kitOne X.K (.type "dict") (.type T)=some k):iK X (.builtin "isinstance") (λxs H Q=>∃x F kvs,xs=[x,.ty T]/\XC F H/\Rep X.K F x (.XQ kvs)/\Q (.bl k) H):=by
 intro pins s σ H xs us Q I r h;obtain⟨v,F,kvs,rfl,sub,rv,q⟩:=h;obtain⟨u,w,rfl,ru,Zx⟩:=CK r;cases(show w=Value.type T from Zx);cases rv with|@XQ a ob _ zs hf _=>
 cases(show u=Value.ref a from ru);obtain⟨_,_,o,h1,h2,_⟩:=Y5.is I (.inr ⟨ob,sub _ _ hf⟩:Y5 H a zs);exact cz KZ I.Y9 ⟨o,h1,h2.1⟩ hk (λz=>nomatch z) λtk=>⟨.bl k,H,I.tok tk,rfl,q⟩
def zq(t:At X N sc)(bl:pd X sc x (.builtin "isinstance"))(bt:pd X sc y (.type T))(ha:Xs X ρ a d)(hp:Pk d=true)(hk:PySem.W.kitOne X.K (U2 d) (.type T)=some k)(hpa:Pl a:=by intro _ _;rfl):Xs X ρ (.Call (.Name x p) [a,.Name y py] [] pos) (.bl k):=by
 cases d with
 |XQ kvs=>exact .of (jY (O3 hk) (dO t bl.g) bl.m bl.v (bf aN (bf (D0 (v:=.ty T) (dO t bt.g) bt.m bt.v rfl bt.n bt.d) cq)<|hpa _ _) bl.n bl.d (hpa _ _) rfl) λB F H σ Q k' q=>ha B F H σ _ k' λv F' H' x' r=>⟨v,F',kvs,rfl,x'.sub,r,q _ F' H' x'<|.bl k⟩
 |XY=>exact pK t bl bt ha hk (hpa:=hpa)|bl _=>exact pK t bl bt ha hk (hpa:=hpa)
 |int _=>exact pK t bl bt ha hk (hpa:=hpa)|str _=>exact pK t bl bt ha hk (hpa:=hpa)
 |tup _=>exact pK t bl bt ha hk (hpa:=hpa)|lst _=>exact pK t bl bt ha hk (hpa:=hpa)
 |Zf _=>cases hp
 |exc _=>cases hp
 |exh _ _=>cases hp
 |adr _=>cases hp
 |stt _=>cases hp
def Ua:D->Bool|.tup _=>true |_=>false
def Qt:D->Bool|.str _=>true |_=>false
def VX:D->Bool|.bl _=>true |_=>false
def Ub:D->Bool|.int _=>true |.bl _=>true |_=>false
def wp(t:At X N sc)(bl:pd X sc x (.builtin "isinstance"))(bt:pd X sc y (.type "tuple"))(ha:Xs X ρ a d)(hp:Pk d=true)(hpa:Pl a:=by intro _ _;rfl):Xs X ρ (.Call (.Name x p) [a,.Name y py] [] pos) (.bl<|Ua d):=zq t bl bt ha hp (by cases d<;>first |rfl |cases hp) hpa
def rN(t:At X N sc)(bl:pd X sc x (.builtin "isinstance"))(bt:pd X sc y (.type "str"))(ha:Xs X ρ a d)(hp:Pk d=true)(hpa:Pl a:=by intro _ _;rfl):Xs X ρ (.Call (.Name x p) [a,.Name y py] [] pos) (.bl<|Qt d):=zq t bl bt ha hp (by cases d<;>first |rfl |cases hp) hpa
def Pj(t:At X N sc)(bl:pd X sc x (.builtin "isinstance"))(bt:pd X sc y (.type "bool"))(ha:Xs X ρ a d)(hp:Pk d=true)(hpa:Pl a:=by intro _ _;rfl):Xs X ρ (.Call (.Name x p) [a,.Name y py] [] pos) (.bl<|VX d):=zq t bl bt ha hp (by cases d<;>first |rfl |cases hp) hpa
def MP(t:At X N sc)(bl:pd X sc x (.builtin "isinstance"))(bt:pd X sc y (.type "int"))(ha:Xs X ρ a d)(hp:Pk d=true)(hpa:Pl a:=by intro _ _;rfl):Xs X ρ (.Call (.Name x p) [a,.Name y py] [] pos) (.bl<|Ub d):=zq t bl bt ha hp (by cases d<;>first |rfl |cases hp) hpa
def Jx{lo hi:Option Expr}{l h:Option Int}(ha:Xs X ρ a (.tup xs))(hl:NR X ρ lo l)(hh:NR X ρ hi h):Xs X ρ (.Subscript a (.Slice lo hi none p2) pos) (.tup<|cutD xs l h):=by
 by_cases hw:HT.XS xs.length 0 l=0/\HT.XS xs.length xs.length h=xs.length
 ·have e:cutD xs l h=xs:=by unfold cutD;rw[hw.1,hw.2];simp
  rw[e];exact Pm ha hl hh hw
 ·exact Pn ha.qt hl hh hw
def Aq{apos Xz:Pos}{ρ:cJ}{pos:Pos}(t:At X N sc)(i:Nat)(hr:ρ[i]?=some (.own xs))(h:Xs X ρ e (.lst ys))(hz:xs.length+ys.length<=sizeLine)(hN:N[i]?=some y:=by rfl)(hv:fB sc y=true:=by rfl)(hx:cv y=true:=by rfl)(hs:DA e [] X.env:=by rfl)(XN:(apos.endLine==Xz.line)=true:=by rfl)(Zy:uL Xz [] X.env:=by rfl)(YA:DB Xz [e] X.env:=by rfl)(ZL:swapsWith (.Call (.Attribute (.Name y p) "extend" apos) [e] [] Xz) none pos.line X.env=pure false:=by rfl):X5 X ρ (.Expr (.Call (.Attribute (.Name y p) "extend" apos) [e] [] Xz) pos) (.nx<|ρ.set i<|.own<|xs++ys):=.of (iW (vt b0 UW UV C9 aN (bf aN cq hs) rfl YA XN hs Zy) ZL) λB F H σ E k q=>rj t hr hN hv hx k λl vs h1 h2 h3=>⟨.inl ⟨rfl,_,XZ.of h2⟩,h B F H σ _ k λv F' H' x' r=>by
   cases r with|@lst b ws _ hf rl=>
   have k':=k.ext x';have h2':=x'.sh _ _ h2;refine⟨l,b,vs,ws,rfl,rfl,h2',x'.sub _ _ hf,by rw[h3.length,rl.length];exact hz,?_⟩;exact q F' _ _ (k'.Zs (vs:=vs) hr h1 ((h3.mono x'.sf).append rl)) x'.sf⟩
def fJ{α:Type}[DecidableEq α](u v:α):(u==v)=decide (u=v):=by
 by_cases h:u=v;·simp[h]
 ·simp[h]
def cj(w:Str):(dY<|.str w).depth<=62:=by simp[dY,PyData.depth]
def cH{w:Str}(h:PyData.strOk w=true):(dY<|.str w).canLay0=true:=by simp[dY,PyData.canLay0,h]
def gv{w:Str}(h:PyData.strOk w=true):SeqAt.shaped (dY<|.str w)=true:=by show((dY<|.str w).canLay0&&decide ((dY<|.str w).depth<=64))=true;rw[aF<|by have:=cj w;lia,cH h];rfl
def U7{u v:Str}(hu:PyData.strOk u=true)(hv:PyData.strOk v=true):PyData.canLayAll0 [.str u,.str v]=true:=by simp[PyData.canLayAll0,PyData.canLay0,hu,hv]
def bv(t:At X N sc)(ha:Xs X ρ a (.str u))(hb:Xs X ρ b (.str v))(hu:PyData.strOk u=true)(hv:PyData.strOk v=true:=by decide):Xu X ρ (.Compare a [.Eq] [b] pos) (decide<|u=v):=iD t ha.p hb.p (gv hu) (gv hv)<|by show(u==v)=_;exact fJ u v
def El(t:At X N sc)(ha:Xs X ρ a (.str u))(hb:Xs X ρ b (.str v))(hu:PyData.strOk u=true)(hv:PyData.strOk v=true:=by decide):Xs X ρ (.Compare a [.Eq] [b] pos) (.bl<|decide<|u=v):=Bb t ha.p hb.p (gv hu) (gv hv)<|by show(u==v)=_;exact fJ u v
def ES(u v w:Str):([PyData.str u,.str v].any λy=>PyData.eqv y<|.str w)=(decide (w=u)||decide (w=v)):=by show((u==w)||((v==w)||false))=_;rw[fJ,fJ,xD,decide_eq_decide.mpr<|BE (a:=u),decide_eq_decide.mpr<|BE (a:=v)]
def MX{u v:Str}(t:At X N sc)(ha:Xs X ρ a (.str w))(hw:PyData.strOk w=true)(hu:PyData.strOk u=true:=by decide)(hv:PyData.strOk v=true:=by decide):Xu X ρ (.Compare a [.In] [.Tuple [.Constant (.str u) i p1,.Constant (.str v) j p2] k p3] pos) (decide (w=u)||decide (w=v)):=js t (xs:=[.str u,.str v]) ha (aG<|ab Xr<|ab Xr ag) (cH hw) (cj w) (U7 hu hv)<|ES u v w
def Sh{u v:Str}(t:At X N sc)(ha:Xs X ρ a (.str w))(hw:PyData.strOk w=true)(hu:PyData.strOk u=true:=by decide)(hv:PyData.strOk v=true:=by decide):Xs X ρ (.Compare a [.In] [.Tuple [.Constant (.str u) i p1,.Constant (.str v) j p2] k p3] pos) (.bl<|decide (w=u)||decide (w=v)):=Sf t (xs:=[.str u,.str v]) ha (aG<|ab Xr<|ab Xr ag) (cH hw) (cj w) (U7 hu hv)<|ES u v w
def HN{x:Str}(t:At X N sc)(ha:Xs X ρ a (.str w))(hm:X.mg x=some (.ref l))(hk:GP X.K (.ref l) (.tuple [.str u,.str v]))(hw:PyData.strOk w=true)(hu:PyData.strOk u=true:=by decide)(hv:PyData.strOk v=true:=by decide)(hg:z6 sc x:=by rfl)(Yt:tH x:=by rfl):Xu X ρ (.Compare a [.In] [.Name x p] pos) (decide (w=u)||decide (w=v)):=Bf t ha.p (iZ t hm hk hg Yt) (cH hw) (cj w) (U7 hu hv)<|ES u v w
def MS{x:Str}(t:At X N sc)(ha:Xs X ρ a (.str w))(hm:X.mg x=some (.ref l))(hk:GP X.K (.ref l) (.tuple [.str u,.str v]))(hw:PyData.strOk w=true)(hu:PyData.strOk u=true:=by decide)(hv:PyData.strOk v=true:=by decide)(hg:z6 sc x:=by rfl)(Yt:tH x:=by rfl):Xs X ρ (.Compare a [.In] [.Name x p] pos) (.bl<|decide (w=u)||decide (w=v)):=MR t ha.p (iZ t hm hk hg Yt) (cH hw) (cj w) (U7 hu hv)<|ES u v w
def SH{xs:aU}(n:Nat)(h:xs[n]?=some d):qL xs (n:Int)=some d:=by unfold qL;have hn:n<xs.length:=(List.getElem?_eq_some_iff.mp h).1;rw[A3 (j:=n) (by lia) (by lia) hn];exact h
def eh(n:Nat)(ha:Xs X ρ a (.tup xs))(hb:Xs X ρ b (.int i))(hi:i=(n:Int))(h:xs[n]?=some d)(hs:mP b:=by intro _ _;rfl):Xs X ρ (.Subscript a b pos) d:=bU ha.qt hb (by subst hi;exact SH n h) hs
def wF{i:Int}{ys:aU}(hi:i=-1\/i=((ys++[d]).length:Int)-1):qL (ys++[d]) i=some d:=by
 unfold qL;have hl:(ys++[d]).length=ys.length+1:=by simp
 rcases hi with rfl |rfl
 ·have:Ji (ys++[d]).length (-1)=some ys.length:=by unfold Ji;simp[hl];lia
  rw[this];simp
 ·rw[A3 (j:=ys.length) (by lia) (by lia)<|by lia];simp
section
variable {bQ:List Stmt}
def mM(ha:Xs X ρ a (.bl u))(hb:u=true->Xs X ρ b (.bl v)):Xs X ρ (.BoolOp .And [a,b] pos) (.bl<|u&&v):=by cases u with|true=>exact Jy ha (Ek<|hb rfl)|false=>exact Jz ha
def xf(ha:Xs X ρ a (.bl u))(hb:u=false->Xs X ρ b (.bl v)):Xs X ρ (.BoolOp .Or [a,b] pos) (.bl<|u||v):=by cases u with|true=>exact HK ha|false=>exact HL ha<|Ek<|hb rfl
def Pq(ha:Xs X ρ a (.bl u))(hb:u=true->Xs X ρ b (.bl v))(hc:u=true->v=true->Xs X ρ c (.bl w)):Xs X ρ (.BoolOp .And [a,b,c] pos) (.bl<|u&&(v&&w)):=by cases u with|true=>exact Jy ha (show Xs X ρ (.BoolOp .And [b,c] pos) (.bl<|v&&w)from mM (hb rfl)<|hc rfl)|false=>exact Jz ha
def pM(ha:Xu X ρ a u)(hb:u=false->Xu X ρ b v):Xu X ρ (.BoolOp .Or [a,b] pos) (u||v):=by cases u with|true=>exact YB.toT (pJ ha)|false=>exact YB.toT<|fU ha<|lT<|hb rfl
def En(ha:Xu X ρ a u)(hb:u=false->Xu X ρ b v)(hc:u=false->v=false->Xu X ρ c w):Xu X ρ (.BoolOp .Or [a,b,c] pos) (u||(v||w)):=by cases u with|true=>exact YB.toT (pJ ha)|false=>cases v with|true=>exact YB.toT (fU ha<|pJ<|hb rfl)|false=>exact YB.toT<|fU ha<|fU (hb rfl)<|lT<|hc rfl rfl
def gi(ha:Xu X ρ a u)(hb:u=true->Xu X ρ b v):Xu X ρ (.BoolOp .And [a,b] pos) (u&&v):=by cases u with|true=>exact YB.toT (wl ha<|wn<|hb rfl)|false=>exact YB.toT<|wm ha
def xQ(hc:Xu X ρ c u)(h1:u=true->Xt X ρ body (.rt d))(h2:u=false->Xt X ρ bQ (.rt d)):Xt X ρ (.If c body [] pos::bQ) (.rt d):=by cases u with|true=>exact ei (dj hc<|h1 rfl)|false=>exact au (bw hc bc)<|h2 rfl
end
def Jc(xs:aU):xs=[]\/∃ys y,xs=ys++[y]:=by cases h:xs.getLast? with|none=>exact .inl (List.getLast?_eq_none_iff.mp h)|some y=>obtain⟨ys,e⟩:=List.getLast?_eq_some_iff.mp h;exact .inr ⟨ys,y,e⟩
def all_map(g:D->Bool)(xs:aU):(xs.map g).all id=xs.all g:=by rw[WD];rfl
def Zm.scan{σ:Type}(R:σ->cJ)(I F:σ->Prop)(μ:σ->Nat)(st:∀s,I s->(Xu X (R s) c false/\F s)\/(Xu X (R s) c true/\(Xt X (R s) body (.rt d0)\/∃s',Xt X (R s) body (.nx<|R s')/\I s'/\μ s'<μ s))):∀(n:Nat)(s:σ),μ s<=n->I s->∃m o,Zm X c body m (R s) o/\(o=.rt d0\/∃s',o=.nx (R s')/\F s')
 |n,s,hn,hI=>by
  rcases st s hI with⟨h1,h2⟩ |⟨h1,h2 |⟨s',h2,h3,h4⟩⟩;·exact⟨0,_,.stop h1,.inr ⟨s,rfl,h2⟩⟩
  ·exact⟨0,_,.ret h1 h2,.inl rfl⟩
  ·cases n with|zero=>lia|succ n=>obtain⟨m,o,hr,ho⟩:=Zm.scan R I F μ st n s' (by lia) h3;exact⟨m+1,o,.step h1 h2 hr,ho⟩
def oM{bQ:List Stmt}{σ:Type}(t:At X N sc)(R:σ->cJ)(I F:σ->Prop)(μ:σ->Nat)(s0:σ)(h0:I s0)(st:∀s,I s->(Xu X (R s) c false/\F s)\/(Xu X (R s) c true/\(Xt X (R s) body (.rt d0)\/∃s',Xt X (R s) body (.nx<|R s')/\I s'/\μ s'<μ s)))(fin:∀s,F s->Xt X (R s) bQ (.rt d0)):Xt X (R s0) (.While c body [] pos::bQ) (.rt d0):=by
 obtain⟨m,o,hr,ho⟩:=Zm.scan (X:=X) (c:=c) (body:=body) (d0:=d0) R I F μ st (μ s0) s0 (aj _) h0;have run:=vf (pos:=pos) t ⟨m,hr⟩;rcases ho with rfl |⟨s',rfl,hf⟩;·exact ei run
 ·exact au run<|fin s' hf
def Nw(mg:xX)(K:bL)(x:Str)(q:PyData):Prop:=∃l,mg x=some (.ref l)/\GP K (.ref l) q
def T0(n:Nat):(!(XB [D.int 2,.int 3]).any λy=>PyData.eqv y<|dY<|.int (n:Int))= !(decide (n=2)||decide (n=3)):=by show(!(((2:Int)==(n:Int))||(((3:Int)==(n:Int))||false)))=_;rw[fJ,fJ,xD,decide_eq_decide.mpr (show(2:Int)=(n:Int)↔n=2 by lia),decide_eq_decide.mpr (show(3:Int)=(n:Int)↔n=3 by lia)]
def Pw(i:Int):(dY<|.int i).depth<=62:=by simp[dY,PyData.depth]
def Uw(d:D)(xs:aU):L2.EV.cutD (d::xs) (some 1) none=xs:=by
 unfold L2.EV.cutD;have e1:HT.XS (d::xs).length 0 (some 1)=1:=by unfold HT.XS;simp;try lia
 have e2:HT.XS (d::xs).length (d::xs).length none=(d::xs).length:=rfl;rw[e1,e2];simp
def SI{xs:aU}{i:Int}{m:Nat}(hm:(m:Int)=(xs.length:Int))(h0:0<m)(d0:D):qL xs (i%(m:Int))=some (xs.getD (i%(m:Int)).toNat d0):=by
 have h1:0<=i%(m:Int):=BK _ (by lia);have h2:i%(m:Int)<(m:Int):=uK _ (by lia);have h3:(i%(m:Int)).toNat<xs.length:=by lia
 unfold qL;rw[A3 (j:=(i%(m:Int)).toNat) h1 rfl h3,List.getD_eq_getElem?_getD];show xs[_]?=_;rw[List.getElem?_eq_getElem h3];rfl
def mod_lt{x:Int}{xs:aU}(h:xs≠[]):(x%(xs.length:Int)).toNat<xs.length:=by have:0<xs.length:=List.length_pos_iff.mpr h;have:=uK x (show(0:Int)<(xs.length:Int)by lia);have:=BK x (show(xs.length:Int)≠0 by lia);lia
def Pz{n:Nat}:L2.EV.cutD xs (some (n:Int)) none=xs.drop n:=by
 unfold L2.EV.cutD;rw[HT.zBN,HT.YH];by_cases h:n<=xs.length;·rw[Nat.min_eq_left h];rw[<-de,a7]
 ·rw[Nat.min_eq_right<|by lia,ny<|aj _,ny<|by lia];simp
def oK{x:Str}(t:At X N sc)(hm:X.mg x=some (.ref l))(hg:z6 sc x:=by rfl)(Yt:tH x:=by rfl):Xs X ρ (.Name x pos) (.adr l):=.of (ze (v:=.ref l) (dO t hg) hm rfl Yt) λB F H σ Q k w=>w _ F H (.refl k.sub)<|.adr l
def Xs.zJD(h:Xs X ρ e (.adr l))(g:GP X.K (.ref l) q):BJ X ρ e q:=λB F H σ Q k w=>h B F H σ Q k λv F' H' x' r=>w v F' H' x' λhc H2 s2 pins σ s u I ru=>by cases r;cases(show u=Value.ref l from ru);exact g.reads I.Y9
structure LS where
 cs:Type
 ds:Type
 ov:cs->Addr->Option HO
 dom:∀c c' a,ov c a=none->ov c' a=none
 rep:bL->Hp->cs->ds->Prop
 mono:∀{K:bL}{F F':Hp}{c:cs}{s:ds},XC F F'->rep K F c s->rep K F' c s
def lK(o:Addr->Option HO)(H:Hp):Hp:=λa=>match o a with
 |some u=>some u|none=>H a
def gx{a:Addr}{o:Addr->Option HO}(h:o a=some u):lK o H a=some u:=by unfold lK;rw[h]
def dk{a:Addr}{o:Addr->Option HO}(h:o a=none):lK o H a=H a:=by unfold lK;rw[h]
def XH(S:LS)(B:B0)(c:S.cs):B0:=⟨B.F,lK (S.ov c) B.H⟩
structure Ln(S:LS)(K:bL)(B:B0)(F:Hp)(c:S.cs)(s:S.ds):Prop where
 st:∀a u,S.ov c a=some u->B.H a=some u
 fr:∀a u,S.ov c a=some u->B.F a=none
 rep:S.rep K F c s
section
variable {S:LS}{K:bL}{c c1 c2:S.cs}{s s1 s2:S.ds}
def XH.same{B:B0}(h:∀a u,S.ov c a=some u->B.H a=some u):XH S B c=B:=by
 have:lK (S.ov c) B.H=B.H:=funext λa=>by cases e:S.ov c a with|none=>exact dk e|some u=>rw[gx e,h a u e]
 show(⟨B.F,lK (S.ov c) B.H⟩:B0)=B;rw[this]
def XH.up:XH S (XH S B c) c1=XH S B c1:=by
 have:lK (S.ov c1) (lK (S.ov c) B.H)=lK (S.ov c1) B.H:=funext λa=>by cases e:S.ov c1 a with|some u=>rw[gx e,gx e]|none=>rw[dk e,dk e,dk<|S.dom c1 c a e]
 show(⟨B.F,lK (S.ov c1)<|lK (S.ov c) B.H⟩:B0)=⟨B.F,lK (S.ov c1) B.H⟩;rw[this]
def LS.has{a:Addr}(h:S.ov c1 a=some u)(c:S.cs):∃v,S.ov c a=some v:=by cases e:S.ov c a with|some v=>exact⟨v,rfl⟩|none=>rw[S.dom c c1 a e]at h;cases h
def Ln.free{a:Addr}(l:Ln S K B F c s)(x:Ext B F H)(h:S.ov c1 a=some u):F a=none:=by obtain⟨v,hv⟩:=LS.has h c;exact x.kf (l.fr a v hv)<|l.st a v hv
def Ln.up(l:Ln S K B F c s)(r:S.rep K F1 c1 s1):Ln S K (XH S B c1) F1 c1 s1:=⟨λa u h=>gx h,λa u h=>by obtain⟨v,hv⟩:=LS.has h c;exact l.fr a v hv,r⟩
def Ln.ext{H:Hp}(l:Ln S K B F c s)(x:Ext ⟨F,H⟩ F' H'):Ln S K B F' c s:=⟨l.st,l.fr,S.mono x.sf l.rep⟩
def Ok.zAM(k:Ok K B F H σ ρ)(l:Ln S K B F c s):Ok K (XH S B c1) F (lK (S.ov c1) H) σ ρ:=by
 have hf:∀a u,S.ov c1 a=some u->F a=none:=λa u h=>l.free k.toExt h;have ho:∀a,B.H a=none->S.ov c1 a=none:=λa h=>by cases e:S.ov c1 a with|none=>rfl|some u=>obtain⟨v,hv⟩:=LS.has e c;rw[l.st a v hv]at h;cases h
 refine⟨⟨λb u q=>?_,λb u q=>?_,k.sf,λa q=>?_⟩,k.len,k.vals,λi ys h=>?_,k.dist,⟨λi kvs h=>?_,k.XQ.Y6⟩⟩
 ·cases e:S.ov c1 b with
  |some v=>rw[hf b v e]at q;cases q
  |none=>rw[dk e];exact k.sub b u q
 ·have q':lK (S.ov c1) B.H b=some u:=q;cases e:S.ov c1 b with|some v=>rw[gx e]at q' ⊢;exact q'|none=>rw[dk e]at q' ⊢;exact k.sh b u q'
 ·rcases k.nw a q with z |z;·exact .inl z
  ·refine .inr ?_;show lK (S.ov c1) B.H a=none;rw[dk<|ho a z];exact z
 ·obtain⟨a,vs,h1,h2,h3,h4,h5⟩:=k.Yk i ys h;have e:=ho a h4;exact⟨a,vs,h1,by rw[dk e];exact h2,h3,by show lK (S.ov c1) B.H a=none;rw[dk e];exact h4,h5⟩
 ·obtain⟨a,es,h1,h2,h3,h4,h5⟩:=k.XQ.Za i kvs h;have e:=ho a h4;exact⟨a,es,h1,by rw[dk e];exact h2,h3,by show lK (S.ov c1) B.H a=none;rw[dk e];exact h4,h5⟩
def Ok.YD(k:Ok K B F H σ ρ)(l:Ln S K B F c s)(x:Ext (XH S ⟨F,H⟩ c1) F1 H1):Ok K (XH S B c1) F1 H1 σ ρ:=(k.zAM l).ext x
def NW{H:Hp}(x:Ext (XH S ⟨F,H⟩ c1) F1 H1)(hf:∀a u,S.ov c1 a=some u->F a=none)(h:S.ov c2 a=some u):F1 a=none:=by obtain⟨v,hv⟩:=LS.has h c1;exact x.kf (hf a v hv)<|gx hv
def Ext.reZ{H:Hp}(x:Ext (XH S ⟨F,H⟩ c1) F1 H1)(hf:∀a u,S.ov c1 a=some u->F a=none):Ext (XH S ⟨F,H⟩ c2) F1 (lK (S.ov c2) H1):=by
 refine⟨λb u z=>?_,λb u z=>?_,x.sf,λa z=>?_⟩
 ·cases e:S.ov c2 b with
  |some v=>rw[NW x hf e]at z;cases z
  |none=>rw[dk e];exact x.sub b u z
 ·have z':lK (S.ov c2) H b=some u:=z;cases e:S.ov c2 b with|some v=>rw[gx e]at z' ⊢;exact z'|none=>rw[dk e]at z' ⊢;exact x.sh b u<|by show lK (S.ov c1) H b=some u;rw[dk<|S.dom c2 c1 b e];exact z'
 ·rcases x.nw a z with y |y;·exact .inl y
  ·refine .inr ?_;have y':lK (S.ov c1) H a=none:=y;show lK (S.ov c2) H a=none;cases e:S.ov c1 a with
   |some v=>rw[gx e]at y';cases y'
   |none=>rw[dk e]at y';rw[dk<|S.dom c1 c2 a e];exact y'
def Ext.tZ{H:Hp}(x:Ext (XH S ⟨F,H⟩ c1) F1 H1)(hf:∀a u,S.ov c1 a=some u->F a=none)(y:Ext (XH S ⟨F1,H1⟩ c2) F2 H2):Ext (XH S ⟨F,H⟩ c2) F2 H2:=(x.reZ hf).trans y
def Ext.toZ{H:Hp}(x:Ext ⟨F,H⟩ F1 H1)(h:∀a u,S.ov c a=some u->H a=some u):Ext (XH S ⟨F,H⟩ c) F1 H1:=by rw[XH.same (B:=⟨F,H⟩) h];exact x
def Ln.now(l:Ln S K B F c s)(k:Ok K B F H σ ρ):∀a u,S.ov c a=some u->H a=some u:=λa u h=>k.sh _ _<|l.st a u h
def Ln.ff(l:Ln S K B F c s)(k:Ok K B F H σ ρ):∀a u,S.ov c1 a=some u->F a=none:=λa u h=>l.free k.toExt h
end
def XG(S:LS)(X:Cx)(ρ:cJ)(e:Expr)(d:D)(s s':S.ds):Prop:=∀(B:B0)(F H:Hp)(σ:St)(Q:VK)(c:S.cs),Ln S X.K B F c s->Ok X.K B F H σ ρ->(∀v F' H' c',Ext (XH S ⟨F,H⟩ c') F' H'->S.rep X.K F' c' s'->Rep X.K F' v d->Q v H')->wE X e σ H Q
def Nz(S:LS)(X:Cx)(ρ:cJ)(es:tu)(ds:aU)(s s':S.ds):Prop:=PlA es/\∀(B:B0)(F H:Hp)(σ:St)(Q:dW->Hp->Prop)(c:S.cs),Ln S X.K B F c s->Ok X.K B F H σ ρ->(∀vs F' H' c',Ext (XH S ⟨F,H⟩ c') F' H'->S.rep X.K F' c' s'->Xv X.K F' vs ds->Q vs H')->wA X es σ H Q
def Yb(S:LS)(X:Cx)(ρ:cJ)(e:Expr)(b:Bool)(s s':S.ds):Prop:=∀(B:B0)(F H:Hp)(σ:St)(Q:Bool->Hp->Prop)(c:S.cs),Ln S X.K B F c s->Ok X.K B F H σ ρ->(∀F' H' c',Ext (XH S ⟨F,H⟩ c') F' H'->S.rep X.K F' c' s'->Q b H')->wT X e σ H Q
def xU(S:LS)(K:bL)(B:B0)(F₀:Hp)(E:ma)(s':S.ds):Out->Prop|.nx ρ=>∀F H σ c,Ok K (XH S B c) F H σ ρ->S.rep K F c s'->XC F₀ F->E.nx σ H|.rt d=>∀v F H c,Ext (XH S B c) F H->S.rep K F c s'->Rep K F v d->E.rt v H
def YE(S:LS)(X:Cx)(ρ:cJ)(ZH:List Stmt)(o:Out)(s s':S.ds):Prop:=∀(B:B0)(F H:Hp)(σ:St)(E:ma)(c:S.cs),Ln S X.K B F c s->Ok X.K B F H σ ρ->xU S X.K B F E s' o->wSs X ZH E σ H
def X9(S:LS)(X:Cx)(ρ:cJ)(st:Stmt)(o:Out)(s s':S.ds):Prop:=∀(B:B0)(F H:Hp)(σ:St)(E:ma)(c:S.cs),Ln S X.K B F c s->Ok X.K B F H σ ρ->xU S X.K B F E s' o->wS X st E σ H
section
variable {S:LS}{st:Stmt}{bQ:List Stmt}{s s1 s2 s':S.ds}{ds:aU}
def Xs.z(h:Xs X ρ e d):XG S X ρ e d s s:=λB F H σ Q c l k w=>h B F H σ Q k λv F' H' x r=>w v F' H' c (x.toZ<|l.now k) (S.mono x.sf l.rep) r
def Yj.z(h:Yj X ρ es ds):Nz S X ρ es ds s s:=⟨h.1,λB F H σ Q c l k w=>h.2 B F H σ Q k λv F' H' x r=>w v F' H' c (x.toZ<|l.now k) (S.mono x.sf l.rep) r⟩
def Xu.z(h:Xu X ρ e r):Yb S X ρ e r s s:=λB F H σ Q c l k w=>h B F H σ Q k λF' H' x=>w F' H' c (x.toZ<|l.now k)<|S.mono x.sf l.rep
def XG.eq{d':D}(h:XG S X ρ e d s s')(q:d=d'):XG S X ρ e d' s s':=q▸h
def Yb.eq{r':Bool}(h:Yb S X ρ e r s s')(q:r=r'):Yb S X ρ e r' s s':=q▸h
def bK(h1:XG S X ρ e d s s1)(h2:Nz S X ρ es ds s1 s')(hs:Pl e:=by intro _ _;rfl):Nz S X ρ (e::es) (d::ds) s s':=⟨⟨hs,h2.1⟩,λB F H σ Q c l k w=>.mk λpos pins st I=>bf aN vw (hs _ _) pos pins st σ H Q I (h1 B F H σ _ c l k λv F1 H1 c1 x1 r1 rv=>h2.2 (XH S B c1) F1 H1 σ _ c1 (l.up r1) (k.YD l x1) λvs F2 H2 c2 x2 r2 rvs=>w _ F2 H2 c2 (x1.tZ (l.ff k) x2) r2<|.cons (rv.mono x2.sf) rvs)⟩
def R9(h:Nz S X ρ es ds s s')(hl:ds.length<=sizeLine:=by exact cF rfl):XG S X ρ (.Tuple es x1 pos) (.tup ds) s s':=λB F H σ Q c l k w=>.mk λpins st I=>Hm vw pins st σ H Q I (h.2 B F H σ _ c l k λvs F' H' c1 x r rv=>⟨by rw[rv.length];exact hl,λp hp=>w _ _ _ c1 (x.grow hp) (S.mono (aR<|x.sub.free hp) r)<|.tup aM<|rv.mono<|aR<|x.sub.free hp⟩)
def JS(ha:XG S X ρ a da s s1)(hb:XG S X ρ b db s1 s'){R:V->V->Hp->Prop}{c:S.cs}(l:Ln S X.K B F c s)(k:Ok X.K B F H σ ρ)(h:∀x y F' H' c',Ext (XH S ⟨F,H⟩ c') F' H'->S.rep X.K F' c' s'->Rep X.K F' x da->Rep X.K F' y db->R x y H'):wE X a σ H λx H1=>wE X b σ H1 λy H2=>R x y H2:=ha B F H σ _ c l k λx F1 H1 c1 x1 r1 rv=>hb (XH S B c1) F1 H1 σ _ c1 (l.up r1) (k.YD l x1) λy F2 H2 c2 x2 r2 ry=>h x y F2 H2 c2 (x1.tZ (l.ff k) x2) r2 (rv.mono x2.sf) ry
def Rep.rd{X:Cx}(sub:XC F H)(r:Rep X.K F v d):Z5 X H v (dY d):=λhs H2 s2 pins σ s u I ru=>r.reads I (sub.trans s2) ru hs
def Tk{r:Bool}(t:At X N sc)(ha:XG S X ρ a da s s1)(hb:XG S X ρ b db s1 s')(sp:SeqAt.shaped (dY da)=true)(sq:SeqAt.shaped (dY db)=true)(hr:(dY da).eqv (dY db)=r):Yb S X ρ (.Compare a [.Eq] [b] pos) r s s':=λB F H σ Q c l k w=>.mk λpins st I=>gh (LW t sp sq) aN aN (dX _ (by decide)<|by decide) pins st σ H Q I (JS ha hb l k λx y F' H' c' x' r' rx ry=>⟨rx.rd x'.sub,ry.rd x'.sub,r,by rw[hr],w F' H' c' x' r'⟩)
def P4{r:Bool}(t:At X N sc)(ha:XG S X ρ a da s s1)(hb:XG S X ρ b (.tup xs) s1 s')(sp:(dY da).canLay0=true)(sd:(dY da).depth<=62)(sq:PyData.canLayAll0 (XB xs)=true)(he:((XB xs).any λy=>PyData.eqv y<|dY da)=r)(hm:behindInMarks .In b=false:=by rfl):Yb S X ρ (.Compare a [.In] [b] pos) r s s':=λB F H σ Q c l k w=>.mk λpins st I=>gh (Aw t sp sd sq) aN aN hm pins st σ H Q I (JS ha hb l k λx y F' H' c' x' r' rx ry=>⟨rx.rd x'.sub,(ry.rd x'.sub:Z5 X H' y (.tuple<|XB xs)),r,by rw[he],w F' H' c' x' r'⟩)
def Li(ha:XG S X ρ a (.int i) s s1)(hb:XG S X ρ b (.int j) s1 s'):Yb S X ρ (.Compare a [.Lt] [b] pos) (decide<|i<j) s s':=λB F H σ Q c l k w=>.mk λpins st I=>gh Qg aN aN (dX _ (by decide)<|by decide) pins st σ H Q I (JS ha hb l k λx y F' H' c' x' r' rx ry=>by cases rx;cases ry;exact⟨i,j,rfl,rfl,_,rfl,w F' H' c' x' r'⟩)
def Sb(hc:Yb S X ρ cd true s s1)(ha:XG S X ρ a d s1 s'):XG S X ρ (.IfExp cd a b pos) d s s':=λB F H σ Q c l k w=>.mk λpins st I=>vq oE aN aN pins st σ H Q I (hc B F H σ _ c l k λF1 H1 c1 x1 r1=>by rw[ar rfl];exact ha (XH S B c1) F1 H1 σ _ c1 (l.up r1) (k.YD l x1) λv F2 H2 c2 x2 r2 rv=>w v F2 H2 c2 (x1.tZ (l.ff k) x2) r2 rv)
def Sc(hc:Yb S X ρ cd false s s1)(hb:XG S X ρ b d s1 s'):XG S X ρ (.IfExp cd a b pos) d s s':=λB F H σ Q c l k w=>.mk λpins st I=>vq oE aN aN pins st σ H Q I (hc B F H σ _ c l k λF1 H1 c1 x1 r1=>by rw[ak aC];exact hb (XH S B c1) F1 H1 σ _ c1 (l.up r1) (k.YD l x1) λv F2 H2 c2 x2 r2 rv=>w v F2 H2 c2 (x1.tZ (l.ff k) x2) r2 rv)
def AD{X:Cx}{c:S.cs}(l:Ln S X.K B F c s)(k:Ok X.K B F H σ ρ)(q:xU S X.K B F E s o):(∃ρ',o=.nx ρ'/\ZC X.K B F E o)\/(∃d,o=.rt d/\ZC X.K ⟨F,B.H⟩ F E o):=by cases o with|nx ρ'=>exact .inl ⟨ρ',rfl,λF' H' σ' k' s'=>q F' H' σ' c (by rw[XH.same l.st];exact k') (S.mono s' l.rep) s'⟩|rt d=>exact .inr ⟨d,rfl,λv F' H' x r=>q v F' H' c (by rw[XH.same l.st];exact k.toExt.zBM x) (S.mono x.sf l.rep) r⟩
def Xt.z(h:Xt X ρ ZH o):YE S X ρ ZH o s s:=λB F H σ E c l k q=>by
 rcases AD l k q with⟨_,_,z⟩ |⟨_,_,z⟩;·exact h B F H σ E k z
 ·exact h ⟨F,B.H⟩ F H σ E k.now z
def X5.z(h:X5 X ρ st o):X9 S X ρ st o s s:=λB F H σ E c l k q=>by
 rcases AD l k q with⟨_,_,z⟩ |⟨_,_,z⟩;·exact h B F H σ E k z
 ·exact h ⟨F,B.H⟩ F H σ E k.now z
def AC{X:Cx}{c:S.cs}(q:xU S X.K B F E s' o)(sf:XC F F1):xU S X.K (XH S B c) F1 E s' o:=by
 cases o with
 |nx ρ'=>exactλF' H' σ' c' k r s'=>q F' H' σ' c' (by rw[XH.up]at k;exact k) r<|sf.trans s'
 |rt d=>exactλv F' H' c' x r rv=>q v F' H' c' (by rw[XH.up]at x;exact x) r rv
def aZ(h1:X9 S X ρ st (.nx ρ1) s s1)(h2:YE S X ρ1 bQ o s1 s'):YE S X ρ (st::bQ) o s s':=λB F H σ E c l k q=>.mk λpins w I=>ib Az ej pins w σ H E I (h1 B F H σ _ c l k λF1 H1 σ1 c1 k1 r1 sf=>h2 (XH S B c1) F1 H1 σ1 E c1 (l.up r1) k1<|AC q sf)
def bY(h1:X9 S X ρ st o s s'):YE S X ρ [st] o s s':=λB F H σ E c l k q=>.mk λpins w I=>pF Az pins w σ H E I<|h1 B F H σ E c l k q
def qM:YE S X ρ [] (.nx ρ) s s:=Xt.z bc
def K8(h1:X9 S X ρ st (.rt d) s s'):YE S X ρ (st::bQ) (.rt d) s s':=λB F H σ E c l k w=>.mk λpins q I=>ib Az ej pins q σ H E I<|h1 B F H σ _ c l k w
def j9{pos:Pos}[Z1 X](t:At X N sc)(i:Nat)(h:XG S X ρ e d s s')(hi:N[i]?=some x:=by rfl)(hx:nc sc x=true:=by rfl)(hs:swapsWith e (some<|.Name x pos') pos.line X.env=pure false:=by rfl):X9 S X ρ (.Assign [.Name x pos'] e pos) (.nx<|ρ.set i<|.val d) s s':=λB F H σ E c l k w=>.mk λpins q I=>rf (i:=i) t.nd (t.ix hi) (t.loc hx) aN hs Jk pins q σ H E I (h B F H σ _ c l k λv F' H' c1 x' r rv=>w F' H' _ c1 ((k.YD l x').XM i rv) r x'.sf)
def z5(h:XG S X ρ e d s s'):X9 S X ρ (.Return (some e) pos) (.rt d) s s':=λB F H σ E c l k w=>.mk λpins q I=>AA aN pins q σ H E I (h B F H σ _ c l k λv F' H' c1 x' r rv=>w v F' H' c1 (k.YD l x').toExt r rv)
def dN{pos:Pos}(h:XG S X ρ e d s s')(ZL:swapsWith e none pos.line X.env=pure false:=by rfl):X9 S X ρ (.Expr e pos) (.nx ρ) s s':=λB F H σ E c l k w=>.mk λpins q I=>iW aN ZL pins q σ H E I (h B F H σ _ c l k λv F' H' c1 x' r rv=>w F' H' σ c1 (k.YD l x') r x'.sf)
def uc(hc:Yb S X ρ cd true s s1)(h:YE S X ρ ss o s1 s'):X9 S X ρ (.If cd ss us pos) o s s':=λB F H σ E c l k w=>.mk λpins q I=>C1 oE ej ej pins q σ H E I (hc B F H σ _ c l k λF1 H1 c1 x1 r1=>by rw[ar rfl];exact h (XH S B c1) F1 H1 σ E c1 (l.up r1) (k.YD l x1)<|AC w x1.sf)
def lD(hc:Yb S X ρ cd false s s1)(h:YE S X ρ us o s1 s'):X9 S X ρ (.If cd ss us pos) o s s':=λB F H σ E c l k w=>.mk λpins q I=>C1 oE ej ej pins q σ H E I (hc B F H σ _ c l k λF1 H1 c1 x1 r1=>by rw[ak aC];exact h (XH S B c1) F1 H1 σ E c1 (l.up r1) (k.YD l x1)<|AC w x1.sf)
inductive Yw(S:LS)(X:Cx)(cd:Expr)(body:List Stmt):Nat->cJ->S.ds->cJ->S.ds->Prop where
 |stop {ρ:cJ} {s s1:S.ds}:Yb S X ρ cd false s s1->Yw S X cd body 0 ρ s ρ s1
 |step {n:Nat} {ρ ρ1 ρ2:cJ} {s s1 s2 s3:S.ds}:Yb S X ρ cd true s s1->YE S X ρ body (.nx ρ1) s1 s2->Yw S X cd body n ρ1 s2 ρ2 s3->Yw S X cd body (n+1) ρ s ρ2 s3
def E5(t:At X N sc)(h:∃n,Yw S X cd body n ρ s ρ' s'):X9 S X ρ (.While cd body [] pos) (.nx ρ') s s':=λB F H σ E c l k q=>.mk λpins w I=>Ay t.pass oE ej pins w σ H E I (by
  obtain⟨n,h⟩:=h;refine⟨λm σ H=>∃ρ1 F1 c1 s1,Ok X.K (XH S B c1) F1 H σ ρ1/\S.rep X.K F1 c1 s1/\XC F F1/\Yw S X cd body m ρ1 s1 ρ' s',⟨n,ρ,F,c,s,by rw[XH.same l.st];exact k,l.rep,.refl _,h⟩,?_⟩;rintro m σ H ⟨ρ1,F1,c1,s1,k1,r1,sf,run⟩;have l1:Ln S X.K (XH S B c1) F1 c1 s1:=l.up r1;cases run with
  |stop hc=>refine hc (XH S B c1) F1 H σ _ c1 l1 k1 λF2 H2 c2 x2 r2=>?_;rw[ak aC];have k2:=k1.YD l1 x2;rw[XH.up]at k2;exact q F2 H2 σ c2 k2 r2<|sf.trans x2.sf
  |@step n0 _ ρa _ _ sa sb _ hc hb r=>refine hc (XH S B c1) F1 H σ _ c1 l1 k1 λF2 H2 c2 x2 r2=>?_;rw[ar rfl];have k2:=k1.YD l1 x2;rw[XH.up]at k2;refine⟨λσ' H'=>∃Zw c'',Ok X.K (XH S B c'') Zw H' σ' ρa/\S.rep X.K Zw c'' sb/\XC F Zw,λσ' H' ⟨Zw,c'',k'',r'',s''⟩=>⟨_,eL _,_,Zw,c'',_,k'',r'',s'',r⟩,hb (XH S B c2) F2 H2 σ _ c2 (l.up r2) k2 λF3 H3 σ3 c3 k3 r3 s3=>⟨F3,c3,?_,r3,sf.trans (x2.sf.trans s3)⟩⟩;rw[XH.up]at k3;exact k3)
def YE.weak(h:YE S X ρ ZH (.nx ρ1) s s')(w:Zt ρ1 ρ2):YE S X ρ ZH (.nx ρ2) s s':=λB F H σ E c l k pq=>h B F H σ E c l k λF' H' σ' ws k' r sf=>pq F' H' σ' ws (k'.weak w) r sf
end
structure wK where
 C:Addr
 p:Addr
 dx:Addr
 q:Addr
 l:Addr
 toks:bM
def MC(r:wK)(n:Int):HO:=.ins r.C r.dx [("tokens",.ref r.l),("done",.int n),("steps",.ref r.q)]
def XE(r:wK):LS where
 cs:=Int×dW
 ds:=Int×aU
 ov c a:=if a=r.p then some (MC r c.1)else if a=r.q then some (.lst c.2)else none
 dom c c' a h:=by
  by_cases h1:a=r.p;·rw[ar h1]at h;cases h
  ·rw[ak h1]at h ⊢;by_cases h2:a=r.q;·rw[ar h2]at h;cases h
   ·rw[ak h2]
 rep K F c s:=c.1=s.1/\Xv K F c.2 s.2/\F r.l=some (.lst<|r.toks.map V.str)
 mono:=λsf h=>⟨h.1,h.2.1.mono sf,sf _ _ h.2.2⟩
structure mW(K:bL)(r:wK):Prop where
 cls:Cls K r.C
 n1:XT K r.C "tokens"
 n2:XT K r.C "done"
 n3:XT K r.C "steps"
 ne:r.q≠r.p
def CZ{K:bL}:∀ts:bM,Xv K F (ts.map V.str) (ts.map D.str)|[]=>.nil|t::ts=>.cons (.str t)<|CZ ts
def XE.atP{c:Int×dW}:(XE r).ov c r.p=some (MC r c.1):=ar rfl
def XE.atQ{r:wK}(ok:r.q≠r.p){c:Int×dW}:(XE r).ov c r.q=some (.lst c.2):=by show(if r.q=r.p then _ else if r.q=r.q then _ else _)=_;rw[ak ok,ar rfl]
def KP{i:Nat}{Q:VK}{ρ:cJ}(t:At X N sc)(hr:ρ[i]?=some (.val<|.adr q))(hN:N[i]?=some x)(hv:fB sc x=true)(hx:cv x=true)(k:Ok X.K B F H σ ρ)(h:Q (.ref q) H):wE X (.Name x py) σ H Q:=.mk λpins s I=>by obtain⟨v,h1,h2⟩:=k.vals i _ hr;cases h2;exact xY t hN hv hx pins s σ H Q I ⟨_,h1,h⟩
def zb{ρ:cJ}(t:At X N sc)(ok:mW X.K r)(i:Nat){s:Int×aU}(hr:ρ[i]?=some (.val<|.adr r.p))(hN:N[i]?=some x:=by rfl)(hv:fB sc x=true:=by rfl)(hx:cv x=true:=by rfl)(hb:attributeBase (.Name x py) "tokens" X.env (eval (.Name x py) X.env)=eval (.Name x py) X.env:=by rfl):XG (XE r) X ρ (.Attribute (.Name x py) "tokens" pos) (.lst<|r.toks.map D.str) s s:=λB F H σ Q c l k w=>.mk λpins st I=>AE aN hb pins st σ H Q I<|KP t hr hN hv hx k ⟨r.p,r.C,r.dx,_,.ref r.l,rfl,l.now k _ _ XE.atP,ok.cls,ok.n1,rfl,w _ F H c ((Ext.refl k.sub).toZ<|l.now k) l.rep<|.lst l.rep.2.2<|CZ _⟩
def zd{ρ:cJ}(t:At X N sc)(ok:mW X.K r)(i:Nat){s:Int×aU}(hr:ρ[i]?=some (.val<|.adr r.p))(hN:N[i]?=some x:=by rfl)(hv:fB sc x=true:=by rfl)(hx:cv x=true:=by rfl)(hb:attributeBase (.Name x py) "done" X.env (eval (.Name x py) X.env)=eval (.Name x py) X.env:=by rfl):XG (XE r) X ρ (.Attribute (.Name x py) "done" pos) (.int s.1) s s:=λB F H σ Q c l k w=>.mk λpins st I=>AE aN hb pins st σ H Q I<|KP t hr hN hv hx k ⟨r.p,r.C,r.dx,_,.int c.1,rfl,l.now k _ _ XE.atP,ok.cls,ok.n2,rfl,w _ F H c ((Ext.refl k.sub).toZ<|l.now k) l.rep<|by rw[l.rep.1];exact .int _⟩
def Ri{H:Hp}{r:wK}{c c':Int×dW}(ok:r.q≠r.p)(h:∀a u,(XE r).ov c a=some u->H a=some u)(hc:c'.2=c.2):lK ((XE r).ov c') H=c6 H r.p (MC r c'.1):=funext λa=>by
 by_cases h1:a=r.p;·subst h1;rw[gx XE.atP,aM]
 ·rw[aK h1];by_cases h2:a=r.q;·subst h2;rw[gx<|XE.atQ ok,h _ _<|XE.atQ ok,hc]
  ·exact dk (show(if a=r.p then _ else if a=r.q then _ else _)=_ by rw[ak h1,ak h2])
def Me{H:Hp}{r:wK}{c c':Int×dW}(ok:r.q≠r.p)(h:∀a u,(XE r).ov c a=some u->H a=some u)(hc:c'.1=c.1):lK ((XE r).ov c') H=c6 H r.q (.lst c'.2):=funext λa=>by
 by_cases h1:a=r.p;·subst h1;rw[gx XE.atP,aK<|dU ok,h _ _ XE.atP,hc]
 ·by_cases h2:a=r.q;·subst h2;rw[gx<|XE.atQ ok,aM]
  ·rw[aK h2];exact dk (show(if a=r.p then _ else if a=r.q then _ else _)=_ by rw[ak h1,ak h2])
def Os{ρ:cJ}(t:At X N sc)(ok:mW X.K r)(i:Nat)(hr:ρ[i]?=some (.val<|.adr r.p))(he:Xs X ρ e (.int m))(hN:N[i]?=some x:=by rfl)(hv:fB sc x=true:=by rfl)(hx:cv x=true:=by rfl):X9 (XE r) X ρ (.AugAssign (.Attribute (.Name x py) "done" ps) .Add e pos) (.nx ρ) (n,xs) (n+m,xs):=λB F H σ E c l k w=>.mk λpins st I=>Kb (op:=.Add) (rd:=VN) aN aN (λpins s σ H x y u v Q I rx ry h=>by obtain⟨i,j,rfl,rfl,q⟩:=h;obtain⟨t1,rfl⟩:=rx;obtain⟨t2,rfl⟩:=ry;exact iadd_int ⟨.int<|i+j,H,I.tok _,⟨_,rfl⟩,q⟩) pins st σ H E I<|KP t hr hN hv hx k ⟨r.p,r.C,r.dx,_,.int c.1,rfl,l.now k _ _ XE.atP,ok.cls,ok.n2,rfl,he B F H σ _ k λv F1 H1 x1 r1=>by cases r1;have k1:=k.ext x1;have l1:Ln (XE r) X.K B F1 c (n,xs):=l.ext x1;refine⟨c.1,m,rfl,rfl,r.dx,_,l1.now k1 _ _ XE.atP,cF rfl,?_⟩;have e1:c.1=n:=l.rep.1;have hq:=w F1 (lK ((XE r).ov (c.1+m,c.2)) H1) σ (c.1+m,c.2) (k1.zAM l1) ⟨by rw[e1],l1.rep.2⟩ x1.sf;rw[Ri (c:=c) (c':=(c.1+m,c.2)) ok.ne (l1.now k1) rfl]at hq;exact hq⟩
def mI{ρ:cJ}{pos:Pos}{apos:Pos}{Xz:Pos}(t:At X N sc)(ok:mW X.K r)(i:Nat){s s1:Int×aU}(hr:ρ[i]?=some (.val<|.adr r.p))(he:XG (XE r) X ρ e d s s1)(hz:s1.2.length<sizeLine)(hN:N[i]?=some x:=by rfl)(hv:fB sc x=true:=by rfl)(hx:cv x=true:=by rfl)(hb:attributeBase (.Name x py) "steps" X.env (eval (.Name x py) X.env)=eval (.Name x py) X.env:=by rfl)(hb2:attributeBase (.Attribute (.Name x py) "steps" ps) "append" X.env (eval (.Attribute (.Name x py) "steps" ps) X.env)=eval (.Attribute (.Name x py) "steps" ps) X.env:=by rfl)(hs:DA e [] X.env:=by rfl)(XN:(apos.endLine==Xz.line)=true:=by rfl)(Zy:uL Xz [] X.env:=by rfl)(YA:DB Xz [e] X.env:=by rfl)(ZL:swapsWith (.Call (.Attribute (.Attribute (.Name x py) "steps" ps) "append" apos) [e] [] Xz) none pos.line X.env=pure false:=by rfl):X9 (XE r) X ρ (.Expr (.Call (.Attribute (.Attribute (.Name x py) "steps" ps) "append" apos) [e] [] Xz) pos) (.nx ρ) s (s1.1,s1.2++[d]):=λB F H σ E c l k w=>.mk λpins st I=>iW (vt b0 lm lj oH (AE aN hb) (bf aN cq hs) hb2 YA XN hs Zy) ZL pins st σ H E I<|KP t hr hN hv hx k ⟨r.p,r.C,r.dx,_,.ref r.q,rfl,l.now k _ _ XE.atP,ok.cls,ok.n3,rfl,.inl ⟨rfl,_,XZ.of<|l.now k _ _<|XE.atQ ok.ne⟩,he B F H σ _ c l k λv F1 H1 c1 x1 r1 rv=>by have k1:=k.YD l x1;have l1:Ln (XE r) X.K (XH (XE r) B c1) F1 c1 s1:=l.up r1;refine⟨r.q,c1.2,v,rfl,rfl,l1.now k1 _ _<|XE.atQ ok.ne,by rw[r1.2.1.length];exact hz,?_⟩;have k2:Ok X.K (XH (XE r) (XH (XE r) B c1) (c1.1,c1.2++[v])) F1 (lK ((XE r).ov (c1.1,c1.2++[v])) H1) σ ρ:=k1.zAM l1;have e1:XH (XE r) (XH (XE r) B c1) (c1.1,c1.2++[v])=XH (XE r) B (c1.1,c1.2++[v]):=XH.up (S:=XE r);rw[e1,Me (c:=c1) (c':=(c1.1,c1.2++[v])) ok.ne (l1.now k1) rfl]at k2;exact w F1 _ σ (c1.1,c1.2++[v]) k2 ⟨r1.1,r1.2.1.append<|.cons rv .nil,r1.2.2⟩ x1.sf⟩
section
variable {S:LS}{s s1 s':S.ds}
def HJ(t:At X N sc)(bl:pd X sc x (.builtin "len"))(ha:XG S X ρ e (.lst xs) s s')(YK:Pl e:=by intro _ _;rfl):XG S X ρ (.Call (.Name x p) [e] [] pos) (.int xs.length) s s':=λB F H σ Q c l k w=>.mk λpins st I=>jY wB (dO t bl.g) bl.m bl.v (bf aN cq<|YK _ _) bl.n bl.d (YK _ _) rfl pins st σ H Q I (ha B F H σ _ c l k λv F1 H1 c1 x1 r1 rv=>by cases rv with|lst hf rl=>exact⟨_,_,rfl,.inl<|XZ.of<|x1.sub _ _ hf,by rw[rl.length];exact w _ F1 H1 c1 x1 r1<|.int _⟩)
def Sa(ha:XG S X ρ a (.lst xs) s s1)(hb:XG S X ρ b (.int i) s1 s')(h:qL xs i=some d)(hs:mP b:=by intro _ _;rfl):XG S X ρ (.Subscript a b pos) d s s':=λB F H σ Q c l k w=>.mk λpins st I=>C4 Jg aN aN hs pins st σ H Q I (JS ha hb l k λx y F' H' c' x' r' rx ry=>by cases ry;cases rx with|lst hf rl=>obtain⟨z,h1,h2⟩:=rl.at h;exact⟨_,_,i,z,rfl,rfl,XZ.of<|x'.sub _ _ hf,h1,w z F' H' c' x' r' h2⟩)
end
def TC(K:bL)(C:bM->aU->Int×aU->D->Int×aU->Prop):Sp:=λvs H Q _=>∃(r:wK)(F:Hp)(ds:aU)(d:D)(c:Int×dW)(s s':Int×aU),XC F H/\mW K r/\(∀a u,(XE r).ov c a=some u->H a=some u)/\(∀a u,(XE r).ov c a=some u->F a=none)/\(XE r).rep K F c s/\Xv K F vs (.adr r.p::ds)/\C r.toks ds s d s'/\∀v F' H' c',Ext (XH (XE r) ⟨F,H⟩ c') F' H'->(XE r).rep K F' c' s'->Rep K F' v d->Q v H'
def Xx(X:Cx)(x:Str)(C:bM->aU->Int×aU->D->Int×aU->Prop):Prop:=∃(f:Addr)(fd:FuncData)(ps:bM)(k:Nat),fj X.prog X.w X.K X.mg X.base jq k f fd ps (TC X.K C)/\X6 k X.A/\X.mg x=some (.ref f)/\PySem.W.keepIn X.K (.ref f)=true/\Binds X.K fd ps []
section
variable {ds:aU}{s s1 s':Int×aU}
def R3{P:Program}(Yp:P.given.tree=none){w:World}{K:bL}{mg:xX}{base:Heap}{x qual:Str}{st:Stmt}{f:Addr}{fd:FuncData}{N ps:bM}{k:Nat}{C:bM->aU->Int×aU->D->Int×aU->Prop}(F:Fun K x qual st f fd)(S:aE N ps (ah st))(len:∀ts ds s d s',C ts ds s d s'->ds.length+1=ps.length)(body:∀X,DefX P w K mg base k N (ah st) X->∀(r:wK),mW X.K r->∀ds s d s',C r.toks ds s d s'->YE (XE r) X (.val (.adr r.p)::ds.map Sl.val++List.replicate (N.length-(ds.length+1)) Sl.un) (bA st) (.rt d) s s'\/(d=.XY/\∃ρ',YE (XE r) X (.val (.adr r.p)::ds.map Sl.val++List.replicate (N.length-(ds.length+1)) Sl.un) (bA st) (.nx ρ') s s')):fj P w K mg base jq (k+1) f fd ps (TC K C):=by
 refine F.ok S (λvs H Q E h=>?_) λYd A outer s H vs Q E hr h=>?_;·obtain⟨r,F',ds,d,c,s,s',sub,ok,h1,h2,h3,rv,hC,q⟩:=h;rw[rv.length];exact len r.toks ds s d s' hC
 ·obtain⟨r,F',ds,d,c,s1,s',sub,ok,h1,h2,h3,rv,hC,q⟩:=h;refine⟨_,ej,?_⟩;have hx:DefX P w K mg base k N (ah st) (wx jq P w K mg base N qual (ah st) f Yd A outer s H E).Z2:=⟨⟨rfl,rfl,rfl,S.nd,rfl,hr.units,hr.Zu,Yp,⟨_,_,rfl,S.gen,S.co,rfl,rfl⟩⟩,rfl,rfl,rfl,rfl,rfl,hr,⟨λ_=>rfl⟩,rfl,rfl⟩;have hk:Ok K ⟨F',H⟩ F' H (start N vs) (.val (.adr r.p)::ds.map Sl.val++List.replicate (N.length-(ds.length+1)) Sl.un):=by unfold start;rw[rv.length];exact lL sub rv _
  rcases body _ hx r ok ds s1 d s' hC with hb |⟨rfl,ρ',hb⟩;·exact hb ⟨F',H⟩ F' H _ _ c ⟨h1,h2,h3⟩ hk λv F2 H2 c2 x2 r2 rv=>q v F2 H2 c2 x2 r2 rv
  ·exact hb ⟨F',H⟩ F' H _ _ c ⟨h1,h2,h3⟩ hk λF2 H2 σ2 c2 k2 r2 s2=>q .XY F2 H2 c2 k2.toExt r2 .XY
def DefX.zCV{K:bL}{x:Str}{C:bM->aU->Int×aU->D->Int×aU->Prop}(h:DefX P w K mg base k N sc X)(F:fj P w K mg base jq j f fd ps (TC K C))(hj:j<=k)(hm:mg x=some (.ref f))(hk:PySem.W.keepIn K (.ref f)=true)(hb:Binds K fd ps []):Xx X x C:=by obtain⟨h0,rfl,rfl,rfl,rfl,rfl,hr,_⟩:=h;exact⟨f,fd,ps,j,F,hr.mono hj,hm,hk,hb⟩
def bR(t:At X N sc)(ok:mW X.K r){C:bM->aU->Int×aU->D->Int×aU->Prop}(h:Xx X x C)(ha:Nz (XE r) X ρ (e::es) (.adr r.p::ds) s s1)(hC:C r.toks ds s1 d s')(hg:z6 sc x:=by rfl)(Yt:tH x:=by rfl):XG (XE r) X ρ (.Call (.Name x p) (e::es) [] pos) d s s':=λB F0 H σ Q c l k w=>.mk λpins st I=>by obtain⟨f,fd,ps,kk,F,hr',hm,hk,hb⟩:=h;have pz:i8 jq X E0:=vv;refine mK F hr' (dO t hg) hm hk hb .nil pz vw Yt (ha.1.1 _ _) (PlA.any ha.1.2) pins st σ H Q I (ha.2 B F0 H σ _ c l k λvs F1 H1 c1 x1 r1 rv=>?_);have k1:=k.YD l x1;have l1:Ln (XE r) X.K (XH (XE r) B c1) F1 c1 s1:=l.up r1;refine⟨r,F1,ds,d,c1,s1,s',k1.sub,ok,l1.now k1,l1.ff k1,r1,by rw[aV];exact rv,hC,λv F2 H2 c2 x2 r2 rv2=>w v F2 H2 c2 (x1.tZ (l.ff k) x2) r2 rv2⟩
end
section
variable {S:LS}{K:bL}{c c1:S.cs}
def Ok.pin(k:Ok K B F H σ ρ)(hb:∀a u,S.ov c a=some u->B.H a=none)(hh:∀a u,S.ov c a=some u->H a=some u)(hf:∀a u,S.ov c a=some u->F a=none)(ho:∀(i:Nat)xs a,ρ[i]?=some (.own xs)->σ[i]?=some (some<|.ref a)->S.ov c a=none)(hd:∀(i:Nat)xs a,ρ[i]?=some (.Ye xs)->σ[i]?=some (some<|.ref a)->S.ov c a=none):Ok K (XH S B c) F H σ ρ:=by
 refine⟨⟨k.sub,λb u q=>?_,k.sf,λa q=>?_⟩,k.len,k.vals,λi ys h=>?_,k.dist,⟨λi kvs h=>?_,k.XQ.Y6⟩⟩
 ·have q':lK (S.ov c) B.H b=some u:=q;cases e:S.ov c b with
  |some v=>rw[gx e]at q';cases q';exact hh b _ e
  |none=>rw[dk e]at q';exact k.sh b u q'
 ·rcases k.nw a q with z |z;·exact .inl z
  ·refine .inr ?_;show lK (S.ov c) B.H a=none;cases e:S.ov c a with|some v=>exact absurd (hf a v e) q|none=>rw[dk e];exact z
 ·obtain⟨a,vs,h1,h2,h3,h4,h5⟩:=k.Yk i ys h;exact⟨a,vs,h1,h2,h3,by show lK (S.ov c) B.H a=none;rw[dk<|ho i ys a h h1];exact h4,h5⟩
 ·obtain⟨a,es,h1,h2,h3,h4,h5⟩:=k.XQ.Za i kvs h;exact⟨a,es,h1,h2,h3,by show lK (S.ov c) B.H a=none;rw[dk<|hd i kvs a h h1];exact h4,h5⟩
def Ext.zEU(x:Ext (XH S B c1) F H)(hb:∀a u,S.ov c1 a=some u->B.H a=none):Ext B F H:=by
 refine⟨x.sub,λb u q=>?_,x.sf,λa q=>?_⟩
 ·refine x.sh b u ?_;show lK (S.ov c1) B.H b=some u;cases e:S.ov c1 b with
  |some v=>rw[hb b v e]at q;cases q
  |none=>rw[dk e];exact q
 ·rcases x.nw a q with z |z;·exact .inl z
  ·refine .inr ?_;have z':lK (S.ov c1) B.H a=none:=z;cases e:S.ov c1 a with
   |some v=>rw[gx e]at z';cases z'
   |none=>rw[dk e]at z';exact z'
end
def Wm(K:bL)(F H F' H':Hp)(r:wK):Prop:=mW K r/\Ext ⟨F,H⟩ F' H'/\H r.p=none/\H r.q=none/\H' r.p=some (MC r 0)/\H' r.q=some (.lst [])/\F' r.p=none/\F' r.q=none/\F' r.l=some (.lst<|r.toks.map V.str)
def Oa(K:bL)(C:aU->bM->Prop):Sp:=λvs H Q _=>∃F ds toks,XC F H/\Xv K F vs ds/\C ds toks/\∀r F' H',r.toks=toks->Wm K F H F' H' r->Q (.ref r.p) H'
def Zn(X:Cx)(x:Str)(C:aU->bM->Prop):Prop:=∃(f:Addr)(fd:FuncData)(ps:bM)(k:Nat),fj X.prog X.w X.K X.mg X.base jq k f fd ps (Oa X.K C)/\X6 k X.A/\X.mg x=some (.ref f)/\PySem.W.keepIn X.K (.ref f)=true/\Binds X.K fd ps []
def GJ(X:Cx)(ρ:cJ)(ZH:List Stmt)(toks:bM):Prop:=∀(B:B0)(F H:Hp)(σ:St)(E:ma),Ok X.K B F H σ ρ->(∀r F' H',r.toks=toks->mW X.K r->Ext B F' H'->B.H r.p=none->B.H r.q=none->H' r.p=some (MC r 0)->H' r.q=some (.lst [])->F' r.p=none->F' r.q=none->F' r.l=some (.lst<|toks.map V.str)->E.rt (.ref r.p) H')->wSs X ZH E σ H
section
variable {ds:aU}{st:Stmt}{bQ:List Stmt}
def wt(h1:X5 X ρ st (.nx ρ'))(h2:GJ X ρ' bQ toks):GJ X ρ (st::bQ) toks:=λB F H σ E k q=>.mk λpins s I=>ib Az ej pins s σ H E I (h1 B F H σ _ k λF1 H1 σ1 k1 s1=>h2 B F1 H1 σ1 E k1 q)
def O8{P:Program}(Yp:P.given.tree=none){w:World}{K:bL}{mg:xX}{base:Heap}{x qual:Str}{st:Stmt}{f:Addr}{fd:FuncData}{N ps:bM}{k:Nat}{C:aU->bM->Prop}(F:Fun K x qual st f fd)(S:aE N ps (ah st))(len:∀ds ts,C ds ts->ds.length=ps.length)(body:∀X,DefX P w K mg base k N (ah st) X->∀ds ts,C ds ts->GJ X (ds.map Sl.val++List.replicate (N.length-ds.length) Sl.un) (bA st) ts):fj P w K mg base jq (k+1) f fd ps (Oa K C):=by
 refine F.ok S (λvs H Q E h=>?_) λYd A outer s H vs Q E hr h=>?_;·obtain⟨F',ds,ts,sub,rv,hC,q⟩:=h;rw[rv.length];exact len ds ts hC
 ·obtain⟨F',ds,ts,sub,rv,hC,q⟩:=h;refine⟨_,ej,?_⟩;have hx:DefX P w K mg base k N (ah st) (wx jq P w K mg base N qual (ah st) f Yd A outer s H E).Z2:=⟨⟨rfl,rfl,rfl,S.nd,rfl,hr.units,hr.Zu,Yp,⟨_,_,rfl,S.gen,S.co,rfl,rfl⟩⟩,rfl,rfl,rfl,rfl,rfl,hr,⟨λ_=>rfl⟩,rfl,rfl⟩;have hb:=body _ hx ds ts hC;have hk:Ok K ⟨F',H⟩ F' H (start N vs) (ds.map Sl.val++List.replicate (N.length-ds.length) Sl.un):=by unfold start;rw[rv.length];exact lL sub rv _
  exact hb ⟨F',H⟩ F' H _ _ hk λr F2 H2 e ok x2 h1 h2 h3 h4 h5 h6 h7=>q r F2 H2 e ⟨ok,x2,h1,h2,h3,h4,h5,h6,by rw[e];exact h7⟩
def DefX.zB6{K:bL}{x:Str}{C:aU->bM->Prop}(h:DefX P w K mg base k N sc X)(F:fj P w K mg base jq j f fd ps (Oa K C))(hj:j<=k)(hm:mg x=some (.ref f))(hk:PySem.W.keepIn K (.ref f)=true)(hb:Binds K fd ps []):Zn X x C:=by obtain⟨h0,rfl,rfl,rfl,rfl,rfl,hr,_⟩:=h;exact⟨f,fd,ps,j,F,hr.mono hj,hm,hk,hb⟩
def Pu{pos:Pos}[Z1 X](t:At X N sc)(i:Nat){C:aU->bM->Prop}(h:Zn X x C)(ha:Yj X ρ (e::es) ds)(hC:C ds toks)(zAB:∀r:wK,mW X.K r->r.toks=toks->∃s',YE (XE r) X (ρ.set i<|.val<|.adr r.p) bQ (.rt d) (0,[]) s')(hg:z6 sc x:=by rfl)(Yt:tH x:=by rfl)(hi:N[i]?=some y:=by rfl)(hx:nc sc y=true:=by rfl)(hs:swapsWith (.Call (.Name x p) (e::es) [] Xz) (some<|.Name y pos') pos.line X.env=pure false:=by rfl):Xt X ρ (.Assign [.Name y pos'] (.Call (.Name x p) (e::es) [] Xz) pos::bQ) (.rt d):=λB F0 H σ E k w=>.mk λpins s I=>by
 obtain⟨f,fd,ps,kk,F,hr',hm,hk,hb⟩:=h;have pz:i8 jq X E0:=vv;refine ib Az ej pins s σ H E I (.mk λpins s I=>rf (i:=i) t.nd (t.ix hi) (t.loc hx) (mK F hr' (dO t hg) hm hk hb .nil pz vw Yt (ha.1.1 _ _)<|PlA.any ha.1.2) hs Jk pins s σ H _ I (ha.2 B F0 H σ _ k λvs F1 H1 x1 r1=>?_));refine⟨F1,ds,toks,x1.sub,by rw[aV];exact r1,hC,λr F2 H2 et nr=>?_⟩;obtain⟨ok,x2,n1,n2,h1,h2,f1,f2,hl⟩:=nr;have k1:=k.ext x1;have k2:=(k1.ext x2).XM i (.adr r.p:Rep X.K F2 (.ref r.p) (.adr r.p));have dm:∀a u,(XE r).ov ((0:Int),([]:dW)) a=some u->H1 a=none/\H2 a=some u/\F2 a=none:=λa u z=>by
  by_cases e1:a=r.p;·subst e1;rw[XE.atP]at z;cases z;exact⟨n1,h1,f1⟩
  ·by_cases e2:a=r.q;·subst e2;rw[XE.atQ ok.ne]at z;cases z;exact⟨n2,h2,f2⟩
   ·rw[show(XE r).ov ((0:Int),([]:dW)) a=none from(show(if a=r.p then _ else if a=r.q then _ else _)=_ by rw[ak e1,ak e2])]at z;cases z
 have hb0:∀(c:(XE r).cs)a u,(XE r).ov c a=some u->B.H a=none:=λc a u z=>by obtain⟨v,hv⟩:=LS.has z ((0:Int),([]:dW));exact k1.sh.free (dm a v hv).1
 have no:∀(j:Nat)xs a,(ρ.set i<|.val<|.adr r.p)[j]?=some (.own xs)->(σ.set i<|some<|.ref r.p)[j]?=some (some<|.ref a)->(XE r).ov ((0:Int),([]:dW)) a=none:=λj xs a q1 q2=>by obtain⟨ZT,q1'⟩:=gU j _ q1 λz=>nomatch z;rw[List.getElem?_set_ne ZT]at q2;obtain⟨a',vs',g1,g2,_⟩:=k1.Yk j xs q1';rw[g1]at q2;cases q2;cases e:(XE r).ov ((0:Int),([]:dW)) a with|none=>rfl|some u=>rw[(dm a u e).1]at g2;cases g2
 have nd:∀(j:Nat)xs a,(ρ.set i<|.val<|.adr r.p)[j]?=some (.Ye xs)->(σ.set i<|some<|.ref r.p)[j]?=some (some<|.ref a)->(XE r).ov ((0:Int),([]:dW)) a=none:=λj xs a q1 q2=>by obtain⟨ZT,q1'⟩:=gU j _ q1 λz=>nomatch z;rw[List.getElem?_set_ne ZT]at q2;obtain⟨a',vs',g1,g2,_⟩:=k1.XQ.Za j xs q1';rw[g1]at q2;cases q2;cases e:(XE r).ov ((0:Int),([]:dW)) a with|none=>rfl|some u=>rw[(dm a u e).1]at g2;cases g2
 have k3:Ok X.K (XH (XE r) B ((0:Int),([]:dW))) F2 H2 (σ.set i<|some<|.ref r.p) (ρ.set i<|.val<|.adr r.p):=k2.pin (S:=XE r) (c:=((0:Int),([]:dW))) (λa u z=>hb0 _ a u z) (λa u z=>(dm a u z).2.1) (λa u z=>(dm a u z).2.2) no nd;obtain⟨s',hz⟩:=zAB r ok et;refine hz (XH (XE r) B ((0:Int),([]:dW))) F2 H2 _ E ((0:Int),([]:dW)) ⟨λa u z=>gx z,λa u z=>?_,⟨rfl,.nil,hl⟩⟩ k3 λv F3 H3 c3 x3 r3 rv=>?_;·cases eb:B.F a with|none=>exact eb|some o=>have:=k3.sf a o eb;rw[(dm a u z).2.2]at this;cases this
 ·have e3:XH (XE r) (XH (XE r) B ((0:Int),([]:dW))) c3=XH (XE r) B c3:=XH.up (S:=XE r);rw[e3]at x3;exact w v F3 H3 (x3.zEU λa u z=>hb0 c3 a u z) rv
end
def DK(C:Addr):Sp:=λvs H Q _=>∃x dx l,vs=[.ref x,.ref l]/\H x=some (.ins C dx [])/\∀q H',H q=none->q≠x->H'=c6 (c6 H q<|.lst []) x (.ins C dx [("tokens",.ref l),("done",.int 0),("steps",.ref q)])->Q .XY H'
structure Wo(X:Cx)(x:Str)(C:Addr):Prop where
 fn:∃(f:Addr)(fd:FuncData)(ps:bM)(k:Nat),Mk X.K C f/\fj X.prog X.w X.K X.mg X.base jq k f fd ps (DK C)/\X6 (k+1) X.A/\Binds X.K fd ps []
 m:X.mg x=some (.ref C)
 cls:Cls X.K C
 n1:XT X.K C "tokens"
 n2:XT X.K C "done"
 n3:XT X.K C "steps"
def DI{K:bL}:∀{ts:bM}{vs:dW},Xv K F vs (ts.map D.str)->vs=ts.map V.str
 |[],_,h=>by cases h;rfl
 |t::ts,_,h=>by cases h with|cons r q=>cases r;rw[aH,DI q]
def MY{toks:bM}(t:At X N sc)(M:Wo X x C)(h:Xs X ρ e (.lst<|toks.map D.str))(hg:z6 sc x:=by rfl)(Yt:tH x:=by rfl)(YK:Pl e:=by intro _ _;rfl):GJ X ρ [.Return (some<|.Call (.Name x p) [e] [] Xz) pos] toks:=λB F H σ E k w=>.mk λpins s I=>by
 obtain⟨f,fd,ps,kk,mk,fo,hr,hb⟩:=M.fn;have pz:i8 jq X E0:=vv;refine pF (AA<|OG mk fo hr (dO t hg) M.m hb .nil pz (bf aN cq<|YK _ _) Yt (YK _ _) rfl) pins s σ H E I (h B F H σ _ k λv F1 H1 x1 r1=>?_);intro x0 dx hx hdx ZT;cases r1 with|@lst l vs _ hf rl=>
 have ev:=DI rl;subst ev;refine⟨x0,dx,l,rfl,by rw[aM],λq H' hq hqx eH=>⟨rfl,?_⟩⟩;rw[aK hqx]at hq;have hqd:q≠dx:=λz=>by subst z;rw[aM]at hq;cases hq
 rw[aK hqd]at hq;have k1:=k.ext x1;have x2:Ext ⟨F1,H1⟩ F1 H':=by
  refine⟨λb u z=>?_,λb u z=>?_,.refl _,λa z=>.inl z⟩;·have z':=x1.sub b u z;rw[eH,aK (λe=>by subst e;rw[hx]at z';cases z'),aK (λe=>by subst e;rw[hq]at z';cases z'),aK (λe=>by subst e;rw[hx]at z';cases z'),aK λe=>by subst e;rw[hdx]at z';cases z'];exact z'
  ·have z':H1 b=some u:=z;rw[eH,aK (λe=>by subst e;rw[hx]at z';cases z'),aK (λe=>by subst e;rw[hq]at z';cases z'),aK (λe=>by subst e;rw[hx]at z';cases z'),aK λe=>by subst e;rw[hdx]at z';cases z'];exact z'
 refine w ⟨C,x0,dx,q,l,toks⟩ F1 H' rfl ⟨M.cls,M.n1,M.n2,M.n3,hqx⟩ (k1.toExt.trans x2) (k1.sh.free hx) (k1.sh.free hq) (by rw[eH,aM];rfl) (by rw[eH];show c6 _ x0 _ q=_;rw[aK hqx,aM]) (x1.sub.free hx) (x1.sub.free hq) hf
def K7{ρ:cJ}(t:At X N sc)(ok:mW X.K r)(i:Nat){s:Int×aU}(hr:ρ[i]?=some (.val<|.adr r.p))(h:XO X tg body s.2 ρ (.nx ρ'))(hN:N[i]?=some x:=by rfl)(hv:fB sc x=true:=by rfl)(hx:cv x=true:=by rfl)(hb:attributeBase (.Name x py) "steps" X.env (eval (.Name x py) X.env)=eval (.Name x py) X.env:=by rfl)(hs:∀z,foldedSetIterable (.Attribute (.Name x py) "steps" ps) X.env z=pure z:=by intro _;rfl):X9 (XE r) X ρ (.For tg (.Attribute (.Name x py) "steps" ps) body [] pos) (.nx ρ') s s:=λB F H σ E c l k q=>.mk λpins w I=>L0 t.pass t.calm (IT<|AE aN hb) L8 ej hs pins w σ H E I (KP t hr hN hv hx k ⟨r.p,r.C,r.dx,_,.ref r.q,rfl,l.now k _ _ XE.atP,ok.cls,ok.n3,rfl,r.q,rfl,⟨_,XZ.of<|l.now k _ _<|XE.atQ ok.ne⟩,by
  refine⟨λi m σ H=>∃ρ1 F1,Ok X.K B F1 H σ ρ1/\XC F F1/\XO X tg body (s.2.drop i) ρ1 (.nx ρ')/\m=s.2.length-i,⟨s.2.length,ρ,F,k,.refl _,by simpa using h,by simp⟩,?_⟩;rintro i m σ H ⟨ρ1,F1,k1,sf,run,rfl⟩;have hq:H r.q=some (.lst c.2):=k1.sh _ _<|l.st _ _<|XE.atQ ok.ne;have rl:Xv X.K F1 c.2 s.2:=l.rep.2.1.mono sf;generalize e1:s.2.drop i=bQ at run;cases run with
  |nil=>
   have hl:s.2.length<=i:=by have:=aY List.length e1;rw[de,cZ]at this;lia
   refine .inl ⟨⟨c.2,XZ.of hq,by rw[rl.length];exact hl⟩,q F1 H σ c (by rw[XH.same l.st];exact k1) (zEG l sf) sf⟩
  |@cons d0 ds0 _ ρa ρb _ g bd rr=>obtain⟨hd,zAB,X3⟩:=lC e1;obtain⟨v,hv1,rv⟩:=rl.get hd;refine .inr ⟨⟨c.2,v,XZ.of hq,hv1⟩,λσ' H'=>∃Zw,Ok X.K B Zw H' σ' ρb/\XC F Zw,λσ' H' ⟨Zw,k'',s''⟩=>⟨s.2.length-(i+1),by lia,_,Zw,k'',s'',by rw[zAB];exact rr,rfl⟩,λxv H' y=>?_⟩;obtain⟨rfl,y⟩:=y;have ex:=y c.2 (XZ.of hq);rw[hv1]at ex;cases ex;exact g B F1 H' σ v _ k1 rv λF3 H3 σ3 k3 s3=>bd B F3 H3 σ3 _ k3 λF4 H4 σ4 k4 s4=>⟨F4,k4,sf.trans (s3.trans s4)⟩⟩)
where
 zEG {B:B0} {F F1:Hp} {c:(XE r).cs} {s:Int×aU} (l:Ln (XE r) X.K B F c s) (sf:XC F F1):(XE r).rep X.K F1 c s:=(XE r).mono sf l.rep
def eZ{ρ:cJ}{xs:aU}{xs':aU}{Xz:Pos}{apos:Pos}(t:At X N sc)(i:Nat)(hr:ρ[i]?=some (.val<|.adr q))(hxs:xs=xs'++[d])(hN:N[i]?=some x:=by rfl)(hv:fB sc x=true:=by rfl)(hx:cv x=true:=by rfl)(XN:(apos.endLine==Xz.line)=true:=by rfl):ZF X q ρ (.Call (.Attribute (.Name x py) "pop" apos) [] [] Xz) d xs xs':=λB F H σ Q us l k w=>.mk λpins s I=>by
 subst hxs;refine DZ b0 CB CA Hu aN rfl XN pins s σ H Q I ?_;refine Bt t hr hN hv hx k ?_;have h2:H q=some (.lst us):=k.sh _ _ l.st;refine⟨.inl ⟨rfl,_,XZ.of h2⟩,?_⟩;have hl:=l.rep.length;obtain⟨v,hw,Zx⟩:=l.rep.get (i:=xs'.length) (d:=d) (by simp);have hll:us.length-1=xs'.length:=by rw[hl];simp
 refine⟨q,us,v,rfl,rfl,h2,by rw[hll];exact hw,?_⟩;have hf:=l.ff k;have rd:=l.rep.dropLast;rw[Xf]at rd;exact w v F _ us.dropLast ⟨λb u z=>by rw[aK λe=>by subst e;rw[hf]at z;cases z];exact k.sub b u z,λb u z=>z,.refl _,λa z=>.inl z⟩ rd Zx
def fP{ρ:cJ}{pos:Pos}{Xz:Pos}{apos:Pos}(t:At X N sc)(i:Nat)(hr:ρ[i]?=some (.val<|.adr q))(he:ZF X q ρ e d xs xs1)(hz:xs1.length<sizeLine)(hN:N[i]?=some x:=by rfl)(hv:fB sc x=true:=by rfl)(hx:cv x=true:=by rfl)(hb2:attributeBase (.Name x py) "append" X.env (eval (.Name x py) X.env)=eval (.Name x py) X.env:=by rfl)(hs:DA e [] X.env:=by rfl)(XN:(apos.endLine==Xz.line)=true:=by rfl)(Zy:uL Xz [] X.env:=by rfl)(YA:DB Xz [e] X.env:=by rfl)(ZL:swapsWith (.Call (.Attribute (.Name x py) "append" apos) [e] [] Xz) none pos.line X.env=pure false:=by rfl):Cy X q ρ (.Expr (.Call (.Attribute (.Name x py) "append" apos) [e] [] Xz) pos) (.nx ρ) xs (xs1++[d]):=λB F H σ E us l k w=>.mk λpins st I=>iW (vt b0 lm lj oH aN (bf aN cq hs) hb2 YA XN hs Zy) ZL pins st σ H E I<|Bt t hr hN hv hx k ⟨.inl ⟨rfl,_,XZ.of<|k.sh _ _ l.st⟩,he B F H σ _ us l k λv F1 H1 u1 x1 r1 rv=>by have k1:=k.zB3 l x1;have l1:YU X.K (YT B q u1) q F1 u1 xs1:=⟨aM,l.fr,r1⟩;refine⟨q,u1,v,rfl,rfl,k1.sh _ _ aM,by rw[r1.length];exact hz,?_⟩;have k2:Ok X.K (YT (YT B q u1) q<|u1++[v]) F1 (c6 H1 q<|.lst<|u1++[v]) σ ρ:=k1.zDC l1;rw[YT.up]at k2;exact w F1 _ σ (u1++[v]) k2 (r1.append<|.cons rv .nil) x1.sf⟩
def Oc(K:bL)(C:D->aU->aU->Prop):Sp:=λvs H Q _=>∃q F d0 us xs xs',XC F H/\H q=some (.lst us)/\F q=none/\Xv K F us xs/\Xv K F vs [d0,.adr q]/\C d0 xs xs'/\∀v F' H' Zd,Ext (YT ⟨F,H⟩ q Zd) F' H'->Xv K F' Zd xs'->Rep K F' v .XY->Q v H'
def YF(X:Cx)(x:Str)(C:D->aU->aU->Prop):Prop:=∃(f:Addr)(fd:FuncData)(ps:bM)(k:Nat),fj X.prog X.w X.K X.mg X.base jq k f fd ps (Oc X.K C)/\X6 k X.A/\X.mg x=some (.ref f)/\PySem.W.keepIn X.K (.ref f)=true/\Binds X.K fd ps []
def Pa{P:Program}(Yp:P.given.tree=none){w:World}{K:bL}{mg:xX}{base:Heap}{x qual:Str}{st:Stmt}{f:Addr}{fd:FuncData}{N ps:bM}{k:Nat}{C:D->aU->aU->Prop}(F:Fun K x qual st f fd)(S:aE N ps (ah st))(len:2=ps.length)(body:∀X,DefX P w K mg base k N (ah st) X->∀q d0 xs xs',C d0 xs xs'->∃ρ',PZ X q (.val d0::.val (.adr q)::List.replicate (N.length-2) Sl.un) (bA st) (.nx ρ') xs xs'):fj P w K mg base jq (k+1) f fd ps (Oc K C):=by
 refine F.ok S (λvs H Q E h=>?_) λYd A outer s H vs Q E hr h=>?_;·obtain⟨p,F',d0,us,xs,xs',sub,hp,hf,ru,r,hC,q⟩:=h;rw[r.length];exact len
 ·obtain⟨p,F',d0,us,xs,xs',sub,hp,hf,ru,r,hC,q⟩:=h;refine⟨_,ej,?_⟩;have hx:DefX P w K mg base k N (ah st) (wx jq P w K mg base N qual (ah st) f Yd A outer s H E).Z2:=⟨⟨rfl,rfl,rfl,S.nd,rfl,hr.units,hr.Zu,Yp,⟨_,_,rfl,S.gen,S.co,rfl,rfl⟩⟩,rfl,rfl,rfl,rfl,rfl,hr,⟨λ_=>rfl⟩,rfl,rfl⟩;have hk:Ok K ⟨F',H⟩ F' H (start N vs) ([d0,.adr p].map Sl.val++List.replicate (N.length-2) Sl.un):=by unfold start;rw[r.length];exact lL sub r _
  obtain⟨ρ',hb⟩:=body _ hx p d0 xs xs' hC;exact hb ⟨F',H⟩ F' H _ _ us ⟨hp,hf,ru⟩ hk λF2 H2 σ2 us2 k2 r2 s2=>q .XY F2 H2 us2 k2.toExt r2 .XY
def DefX.zB8{K:bL}{x:Str}{C:D->aU->aU->Prop}(h:DefX P w K mg base k N sc X)(F:fj P w K mg base jq j f fd ps (Oc K C))(hj:j<=k)(hm:mg x=some (.ref f))(hk:PySem.W.keepIn K (.ref f)=true)(hb:Binds K fd ps []):YF X x C:=by obtain⟨h0,rfl,rfl,rfl,rfl,rfl,hr,_⟩:=h;exact⟨f,fd,ps,j,F,hr.mono hj,hm,hk,hb⟩
def LA{ρ:cJ}{pos:Pos}(t:At X N sc){C:D->aU->aU->Prop}(h:YF X x C)(i:Nat)(hr:ρ[i]?=some (.own xs))(ha:Xs X ρ e d0)(hC:C d0 xs xs')(hN:N[i]?=some y:=by rfl)(hv:fB sc y=true:=by rfl)(hx:cv y=true:=by rfl)(hg:z6 sc x:=by rfl)(Yt:tH x:=by rfl)(hs:Pl (.Name y py):=by intro _ _;rfl)(he:Pl e:=by intro _ _;rfl)(ZL:swapsWith (.Call (.Name x p) [e,.Name y py] [] Xz) none pos.line X.env=pure false:=by rfl):X5 X ρ (.Expr (.Call (.Name x p) [e,.Name y py] [] Xz) pos) (.nx<|ρ.set i<|.own xs'):=by
 obtain⟨f,fd,ps,k,F,hr',hm,hk,hb⟩:=h;have pz:i8 jq X E0:=vv;refine .of (iW (mK F hr' (dO t hg) hm hk hb .nil pz (bf aN (bf aN cq<|hs _ _)<|he _ _) Yt (he _ _)<|by unfold uL;rw[hs];rfl) ZL) λB F' H σ E k' q=>?_;refine ha B F' H σ _ k' λv0 F1 H1 x1 r1=>?_;have k1:=k'.ext x1;refine rj t hr hN hv hx k1 λl us h1 h2 h3=>?_;have hf1:F1 l=none:=by obtain⟨a,vs,o1,o2,o3,o4,o5⟩:=k1.Yk i xs hr;rw[h1]at o1;cases o1;exact o3
 refine⟨l,F1,d0,us,xs,xs',x1.sub,h2,hf1,h3,?_,hC,λv F2 H2 us2 x2 r2 rv=>q F2 H2 σ (k1.back hr h1 x2 r2)<|x1.sf.trans x2.sf⟩;exact .cons r1<|.cons (.adr l) .nil
def Hc{ρ:cJ}[Z1 X](t:At X N sc)(i:Nat)(hr:ρ[i]?=some (.val<|.str z))(h:Xs X ρ e (.str w))(hz:z.length+w.length<=sizeLine)(hi:N[i]?=some x:=by rfl)(hx:nc sc x=true:=by rfl):X5 X ρ (.AugAssign (.Name x pos') .Add e pos) (.nx<|ρ.set i<|.val<|.str<|z++w):=.of (Hh (i:=i) t.nd (t.ix hi) (t.loc hx) aN (show S6 X .Add _ from xO) Jk) λB F H σ E k q=>by obtain⟨v,h1,h2⟩:=k.vals i _ hr;cases h2;exact⟨_,h1,h B F H σ _ k λv F' H' x' r=>by cases r;exact⟨z,w,rfl,rfl,hz,q F' H' _ ((k.ext x').XM i<|.str _) x'.sf⟩⟩
def MQ{r:Bool}(ha:Xs X ρ a (.str z))(hb:Xs X ρ b (.str w))(hr:(!(Builtin.Str.occurrences w z 0 w.length 1).isEmpty)=r)(hm:behindInMarks .In b=false:=by rfl):Xs X ρ (.Compare a [.In] [b] pos) (.bl r):=.of (k7 Kk aN aN hm) λB F H σ Q k q=>two ha hb k λx y F' H' x' rx ry=>by cases rx;cases ry;subst hr;exact⟨z,w,rfl,rfl,q _ F' H' x'<|.bl _⟩
def gL(t:At X N sc)(bl:pd X sc x (.builtin "len"))(ha:Xs X ρ e (.str z))(hz:z.length<=sizeLine)(YK:Pl e:=by intro _ _;rfl):Xs X ρ (.Call (.Name x p) [e] [] pos) (.int z.length):=Bc t bl EA (ab ha ag YK) λF H vs Q sub r q=>by obtain⟨v,rfl,rv⟩:=r.one;cases rv;exact⟨z,rfl,hz,q _ F H (.refl sub)<|.int _⟩
def Pf(t:At X N sc)(bl:pd X sc x (.type "str"))(ha:Xs X ρ e (.int i))(hz:i.natAbs.log2<1920)(YK:Pl e:=by intro _ _;rfl):Xs X ρ (.Call (.Name x p) [e] [] pos) (.str<|toString i):=xh t bl Ey (ab ha ag YK) λF H vs Q sub r q=>by obtain⟨v,rfl,rv⟩:=r.one;cases rv;exact⟨i,rfl,hz,q _ F H (.refl sub)<|.str _⟩
def EB:iK X (.type "int") (λxs H Q=>∃z n,xs=[.str z]/\PySem.intText? z=some n/\z.length<=640/\Q (.int n) H):=by intro pins s σ H xs us Q I r h;obtain⟨z,n,rfl,h1,h2,q⟩:=h;obtain⟨u,rfl,t,rfl⟩:=jS r;exact PySem.W.KIN.call_text h1 h2 ⟨.int n,H,I.tok _,⟨_,rfl⟩,q⟩
def Jt(t:At X N sc)(bl:pd X sc x (.type "int"))(ha:Xs X ρ e (.str z))(hn:PySem.intText? z=some n)(hz:z.length<=640)(YK:Pl e:=by intro _ _;rfl):Xs X ρ (.Call (.Name x p) [e] [] pos) (.int n):=xh t bl EB (ab ha ag YK) λF H vs Q sub r q=>by obtain⟨v,rfl,rv⟩:=r.one;cases rv;exact⟨z,n,rfl,hn,hz,q _ F H (.refl sub)<|.int _⟩
def Hv:S8 X "str.isalnum" (λx xs H Q=>∃z,x=.str z/\xs=[]/\Q (.bl<|Txt.isalnum z) H):=by intro pins s σ H x xs v us Q I rx rs h;obtain⟨z,rfl,rfl,q⟩:=h;obtain⟨t,rfl⟩:=rx;cases rs;exact SC.isalnum ⟨.bl _,H,I,rfl,q⟩
def lU{apos Xz:Pos}(ho:Xs X ρ a (.str z))(YC:attributeBase a "isalnum" X.env (eval a X.env)=eval a X.env:=by rfl)(XN:(apos.endLine==Xz.line)=true:=by rfl):Xs X ρ (.Call (.Attribute a "isalnum" apos) [] [] Xz) (.bl<|Txt.isalnum z):=.of (DZ nt PySem.F.slot_str_isalnum PySem.F.type_str_isalnum Hv aN YC XN) λB F H σ Q k q=>ho B F H σ _ k λv F1 H1 x1 r1=>by cases r1;exact⟨rfl,z,rfl,rfl,q _ F1 H1 x1<|.bl _⟩
end L2.EV
namespace L2
open PySem PySem.Spec PyProof.Rows
variable {K:bL}{ds:aU}
def Wr(z:Str):It:=⟨λi _=>i<z.cps.size,λi H x H'=>H'=H/\∃c,z.cps[i]?=some c/\x=.str ⟨#[c]⟩,λi _=>z.cps.size<=i,False⟩
def JT{K:bL}(it:Addr)(z:Str)(t:Tok):Bu P w K tg (Wr z) [it] it (λi h=>h.IsStrIter it "str_ascii_iterator" z t i) where
 mem:=by simp
 obj:=λi h st b hb=>by
  have e:b=it:=by simpa using hb
  subst e;obtain⟨o,e,c,d⟩:=st;exact⟨o,e,λv z=>by rw[d]at z;cases z⟩
 keep:=λi h h' st k=>let⟨o,e,r⟩:=st;⟨o,k it (by simp) o e,r⟩
 item:=by intro X hP hw hK hc i pins s σ H E I hf st hg;subst hP hw hK;replace hc:=hc.resolve_right λz=>z.1;obtain⟨f0,f1,f2,f3,f4,f5⟩:=hf it (by simp);have hi:i<z.cps.size:=hg;refine wpAny_pyNext_ascii_item st (c:=z.cps[i]) (by simp[hi]) λh' YG sb=>?_;have I1:Inv X pins σ H {s with heap:=h',toks:=s.toks+1}:=I.turned (λb o hb e=>(sb.2 b hb).trans e) f0 f1 f3 f4 f5;obtain⟨o,e,c,d⟩:=id YG;exact⟨_,rfl,FV (s:={s with heap:=h',toks:=s.toks+1}) e c d (by decide) ⟨.str ⟨#[z.cps[i]]⟩,H,I1,⟨_,rfl⟩,⟨rfl,_,by simp[hi],rfl⟩,YG,λb hb=>(hf b hb).1⟩⟩
 done:=by intro X hP hw hK hc i pins s σ H E I hf st hg;subst hP hw hK;replace hc:=hc.resolve_right λz=>z.1;obtain⟨f0,f1,f2,f3,f4,f5⟩:=hf it (by simp);have hi:z.cps.size<=i:=hg;exact wpAny_pyNext_ascii_end (I.ok.hd hc) st (by simp[hi]) λh' eb=>⟨rfl,I.turned (t':=s.toks) (λb o hb e=>eb b o hb e) f0 f1 f3 f4 f5⟩
 self:=λ_ _ _ _ _ st h=>wpAny_pyIter_striter_ascii st h
def V1(tl:TE):TI:=λσ H R=>tl σ H λx H1=>∃z,x=.str z/\z.cps.all (·<128)=true/\R (Wr z) H1
def Q8(hl:PE X l tl):PI X tg l (V1 tl):=by
 intro pins s σ H R I h;refine dM (hl pins s σ H _ I h) λv s1 ⟨x,H1,I1,r1,q1⟩=>?_;obtain⟨z,e,ha,q⟩:=q1;subst e;obtain⟨t,rfl⟩:=r1;refine wpAny_pyIter_ascii ha ?_;refine⟨s1.heap.objs.size,[s1.heap.objs.size],_,_,H1,rfl,I1.kept (t':=s1.toks) λb o e=>Heap.get?_push_of_some _ e,JT _ z t,⟨_,Heap.get?_push_size _ rfl,rfl,rfl⟩,λb hb=>?_,q⟩;have e:b=s1.heap.objs.size:=by simpa using hb
 subst e;exact I1.zAC (aj _)<|I1.XR.fresh<|aj _
def J8{lo hi:Int}{tk:Nat}{R:It->Hp->Prop}(I:Inv X pins σ H s)(h1: -(2 ^ 62)<=lo)(h2:lo<2 ^ 62)(h3: -(2 ^ 62)<=hi)(h4:hi<2 ^ 62)(q:R (PY lo (-1) (lo-hi).toNat) H):fh X (pyIter<|.ref s.heap.objs.size) (UM X pins σ tg R) E {s with heap:=s.heap.push {cls:=.type "range",data:=.fields #[.int lo t,.int hi u,.int (-1) v]},toks:=tk}:=by
 refine wpAny_pyIter_range (IsRange.new ..) (PySem.W.small_down h1 h2 h3 h4) ?_;have I1:Inv X pins σ H {s with heap:=s.heap.push {cls:=.type "range",data:=.fields #[.int lo t,.int hi u,.int (-1) v]},toks:=tk}:=I.kept λb o e=>Heap.get?_push_of_some _ e;refine⟨(s.heap.push {cls:=.type "range",data:=.fields #[.int lo t,.int hi u,.int (-1) v]}).objs.size,[(s.heap.push {cls:=.type "range",data:=.fields #[.int lo t,.int hi u,.int (-1) v]}).objs.size],_,_,H,rfl,I1.kept (t':=tk) λb o e=>Heap.get?_push_of_some _ e,Fe _ lo (-1) (lo-hi).toNat,?_,λb hb=>?_,q⟩
 ·have e1:lo+((0:Nat):Int)*(-1)=lo:=by simp
  have e2:(((lo-hi).toNat:Nat):Int)-((0:Nat):Int)=Builtin.Range.rangeSize lo hi (-1):=by rw[PySem.W.rangeSize_downNat];simp
  show IsRangeIter _ _ (lo+((0:Nat):Int)*(-1)) ((((lo-hi).toNat:Nat):Int)-((0:Nat):Int)) (-1);rw[e1,e2];exact Heap.get?_push_size _ rfl
 ·have e:b=(s.heap.push {cls:=.type "range",data:=.fields #[.int lo t,.int hi u,.int (-1) v]}).objs.size:=by simpa using hb
  subst e;exact I1.zAC (aj _)<|I1.XR.fresh<|aj _
def Ud(ta:TA):TI:=λσ H R=>ta σ H λvs H1=>∃i j:Int,vs=[.int i,.int j,.int (-1)]/\(-(2 ^ 62)<=i/\i<2 ^ 62/\-(2 ^ 62)<=j/\j<2 ^ 62)/\R (PY i (-1) (i-j).toNat) H1
def Kg(hg:Gl X "range")(hm:X.mg "range"=none)(ha:PA X [a,b,c] ta)(hs:starEach [a,b,c] X.env=(false,eval a X.env)::starEach [b,c] X.env:=by rfl)(hs2:(backTo pos<|starEach [b,c] X.env).any (·.1)=false:=by rfl):PI X tg (.Call (.Name "range" p) [a,b,c] [] pos) (Ud ta):=by intro pins s σ H R I h;refine Call_<|rH I hg hm boot_range<|fC (dM (ha pos pins s σ H _ I h) λus s1 ⟨vs,H1,I1,r1,q1⟩=>?_) hs hs2;obtain⟨i,j,e,⟨q1,q2,q3,q4⟩,q⟩:=q1;subst e;cases r1 with|cons r rr=>cases rr with|cons r' rr=>cases rr with|cons r'' rr=>cases rr;obtain⟨t,rfl⟩:=r;obtain⟨t',rfl⟩:=r';obtain⟨t'',rfl⟩:=r'';exact call_range_3 (by decide) (J8 I1 q1 q2 q3 q4 q)<|Or.inl<|PyProof.noPylong_small<|by lia
end L2
namespace L2.EV
open PySem PySem.Spec PyProof.Rows
variable {K:bL}{ds:aU}
def Qb(z:Str):aU:=z.cps.toList.map λc=>D.str ⟨#[c]⟩
def RQ{K:bL}:Bz K (Wr z) F (Qb z):=λi F2 H2 s1 s2=>⟨λd hd=>by
  unfold Qb at hd;rw[List.getElem?_map]at hd;cases e:z.cps.toList[i]? with
  |none=>rw[e]at hd;cases hd
  |some c=>
   rw[e]at hd;cases hd;have hi:=(List.getElem?_eq_some_iff.mp e).1;refine⟨(show i<z.cps.size by simpa using hi),λx H' y=>?_⟩;obtain⟨rfl,c',h1,rfl⟩:=y;have h2:z.cps[i]?=some c:=by simpa using e
   rw[h2]at h1;cases h1;exact⟨F2,.refl s2,.str _⟩,λh=>by
   have h':z.cps.size<=i:=by simpa[Qb]using h
   exact h'⟩
def So(h:Xs X ρ e (.str z))(ha:z.cps.all (·<128)=true):ZX X ρ tg e (Qb z):=.of (Q8 aN) λB F H σ R k q=>h B F H σ _ k λv F' H' x r=>by cases r;exact⟨z,rfl,ha,q _ F' H' x RQ⟩
def t6(i:Int)(n:Nat):aU:=(List.range n).map λ(k:Nat)=>D.int<|i-(k:Int)
def RU{K:bL}:Bz K (PY i (-1) n) F (t6 i n):=λk F2 H2 s1 s2=>⟨λd hd=>by
  unfold t6 at hd;rw[List.getElem?_map]at hd;have hi:k<n:=by
   by_cases h:k<n;·exact h
   ·rw[List.getElem?_eq_none<|by simpa using h]at hd;cases hd
  rw[List.getElem?_range hi]at hd;cases hd;refine⟨hi,λx H' y=>?_⟩;obtain⟨rfl,rfl⟩:=y;have e:i+(k:Nat)*(-1)=i-(k:Int):=by lia
  rw[e];exact⟨F2,.refl s2,.int _⟩,λh=>by
   have h':n<=k:=by simpa[t6]using h
   exact h'⟩
def Dk(t:At X N sc)(bl:pd X sc "range" (.type "range"))(ha:Xs X ρ a (.int i))(hb:Xs X ρ b (.int j))(hc:Xs X ρ c (.int (-1)))(h: -(2 ^ 62)<=i/\i<2 ^ 62/\-(2 ^ 62)<=j/\j<2 ^ 62)(hsa:Pl a:=by intro _ _;rfl)(hsb:Pl b:=by intro _ _;rfl)(hsc:Pl c:=by intro _ _;rfl):ZX X ρ tg (.Call (.Name "range" p) [a,b,c] [] pos) (t6 i (i-j).toNat):=.of (Kg (dO t bl.g) bl.m (bf aN (bf aN (bf aN cq<|hsc _ _)<|hsb _ _)<|hsa _ _) (hsa _ _)<|by rw[hsb,hsc];rfl) λB F H σ R k q=>ha B F H σ _ k λv F1 H1 x1 r1=>hb B F1 H1 σ _ (k.ext x1) λw F2 H2 x2 r2=>hc B F2 H2 σ _ (k.ext<|x1.t x2) λu F3 H3 x3 r3=>by cases r1;cases r2;cases r3;exact⟨i,j,rfl,h,q _ F3 H3 (x1.t<|x2.t x3) RU⟩
section
variable {lo:Expr}
def QS:UJ X (λx lo hi H Q=>∃z,x=.str z/\z.length<=sizeLine/\Q (.str<|Txt.slice z lo hi) H):=by
 intro pins s σ H x v vl vu lo hi sl Q I rx hs pl pu h;obtain⟨z,rfl,hz,q⟩:=h;obtain⟨t,rfl⟩:=rx;have part:∀{v:Value}{o:Option Int},IsPart v o->∃l:Option (Int×Tok),v=partValue l/\l.map (·.1)=o:=λh=>by cases h with|none=>exact⟨none,rfl,rfl⟩|int i t=>exact⟨some (i,t),rfl,rfl⟩
 obtain⟨l,rfl,rfl⟩:=part pl;obtain⟨u,rfl,rfl⟩:=part pu;exact⟨"str",_,PySem.F.slot_str_getitem.lookup,Xb _ _ _,wpAny_getItem_str_slice (l:=l) (u:=u) (st:=none) hs rfl (post_val_or_str ⟨aJ (Txt.slice_le z _ _) hz,λt' k=>⟨.str (Txt.slice z (l.map (·.1)) (u.map (·.1))),H,I.tok _,⟨_,rfl⟩,q⟩⟩)⟩
def zr(h:Xs X ρ e (.str z))(h1:Xs X ρ lo (.int i))(h2:Xs X ρ hi (.int j))(hz:z.length<=sizeLine):Xs X ρ (.Subscript e (.Slice (some lo) (some hi) none p2) pos) (.str<|Txt.slice z (some i)<|some j):=.of (vp QS aN (DW aN)<|DW aN) λB F H σ Q k q=>h B F H σ _ k λv F1 H1 x1 r1=>h1 B F1 H1 σ _ (k.ext x1) λv2 F2 H2 x2 r2=>by cases r1;cases r2;exact⟨i,rfl,h2 B F2 H2 σ _ (k.ext<|x1.t x2) λv3 F3 H3 x3 r3=>by cases r3;exact⟨j,rfl,z,rfl,hz,q _ F3 H3 (x1.t<|x2.t x3)<|.str _⟩⟩
def FA(cs:Array Nat)(i:Nat):∀n,i+n<=cs.size->((List.range n).map λk=>i+k).filterMap (cs[·]?)=(cs.toList.drop i).take n
 |0,_=>by simp
 |n+1,h=>by
  rw[gj,aA,WR,FA cs i n<|by lia,nu,List.getElem?_drop];congr 1;have:i+n<cs.size:=by lia
  simp[this]
def Fa:∀(xs:dW)(us:gC),us.length=xs.length->(∀(j:Nat)x u,xs[j]?=some x->us[j]?=some u->RelV x u)->Vals xs us|[],[],_,_=>.nil|x::xs,u::us,hl,h=>.cons (h 0 x u rfl rfl) (Fa xs us (by simpa using hl) λj y v h1 h2=>h (j+1) y v h1 h2)
def JG{z:Str}{i j:Nat}(h:i<=j)(hi:i<=z.length):Txt.slice z (some (i:Int)) (some (j:Int))=⟨((z.cps.toList.drop i).take<|j-i).toArray⟩:=by
 have hz:z.length=z.cps.size:=rfl;have e1:Builtin.Str.strSliceIndices (some (i:Int)) (some (j:Int)) 1 z.length=(List.range<|min j z.length-i).map λk=>i+k:=by
  unfold Builtin.Str.strSliceIndices sliceRange;have a1:¬((i:Int)<0):=by lia
  have a2:¬((j:Int)<0):=by lia
  simp only[a1,a2,KY,show(1:Int)>0 by decide,Qz];have b1:max 0 (min (i:Int) (z.length:Int))=i:=by lia
  have b2:max 0 (min (j:Int) (z.length:Int))=(min j z.length:Nat):=by lia
  rw[b1,b2];have b3:(if(i:Int)<(min j z.length:Nat)then(((min j z.length:Nat):Int)-i+1-1) / 1 else 0).toNat=min j z.length-i:=by split<;>lia
  rw[b3];exact kD λk _=>by lia
 have e2:((List.range<|min j z.length-i).map λk=>i+k).filterMap (z.cps[·]?)=(z.cps.toList.drop i).take (j-i):=by
  rw[FA z.cps i (min j z.length-i)<|by lia];by_cases hj:j<=z.length;·rw[Nat.min_eq_left hj]
  ·rw[c8<|by rw[de,bX];lia,c8<|by rw[de,bX];lia]
 unfold Txt.slice;rw[e1,e2];split
 ·rename_i h0;rw[eO,BF,BF,ae,nv]at h0;have h1:=h0.2;have hi0:i=0\/z.length=0:=by lia
  rcases hi0 with rfl |e;·rw[EY,Nat.sub_zero,c8<|by rw[bX];lia]
  ·have:z.cps.toList=[]:=aT (by rw[bX];lia);rw[this];obtain⟨c⟩:=z;have hc:c=#[]:=Array.eq_empty_of_size_eq_zero e;subst hc;simp
 ·rfl
def Fj:∀{ys:bM}{us:gC},Vals (ys.map V.str) us->StrsAre us ys
 |[],_,h=>by cases h;exact .nil
 |y::ys,_,h=>by cases h with|cons r q=>obtain⟨t,rfl⟩:=r;exact .cons y t<|Fj q
def OQ:S8 X "str.join" (λx xs H Q=>∃z l ys,x=.str z/\xs=[.ref l]/\XZ X.K H l (ys.map V.str)/\(ys.map (·.length)).sum+ys.length*z.length<=16777216/\Q (.str<|Txt.join z ys) H):=by intro pins s σ H x xs v us Q I rx rs h;obtain⟨z,l,ys,rfl,rfl,hl,hz,q⟩:=h;obtain⟨t,rfl⟩:=rx;obtain⟨u,rfl,ru⟩:=Vals.one rs;cases ru;obtain⟨its,r',pl,_⟩:=I.list hl;exact join_list pl.isList (by simpa using Fj r') hz λt' k=>⟨.str _,H,I.tok _,⟨_,rfl⟩,q⟩
def Js{ys:bM}{apos:Pos}(ho:Xs X ρ a (.str z))(ha:Y4 X ρ e true (ys.map D.str))(hz:(ys.map (·.length)).sum+ys.length*z.length<=16777216)(hs:Pl e:=by intro _ _;rfl)(YC:attributeBase a "join" X.env (eval a X.env)=eval a X.env:=by rfl)(YA:DB Xz [e] X.env:=by rfl)(XN:(apos.endLine==Xz.line)=true:=by rfl):Xs X ρ (.Call (.Attribute a "join" apos) [e] [] Xz) (.str<|Txt.join z ys):=.of (vt nt PySem.F.slot_str_join PySem.F.type_str_join OQ aN (bf aN cq<|hs _ _) YC YA XN (hs _ _) rfl) λB F H σ Q k q=>ho B F H σ _ k λv F1 H1 x1 r1=>by cases r1;refine⟨rfl,ha B F1 H1 σ _ (k.ext x1) λl vs F2 H2 x2 sl rl=>?_⟩;have ev:=DI rl;subst ev;exact⟨z,l,ys,rfl,rfl,sl,hz,q _ F2 H2 (x1.t x2)<|.str _⟩
def HW{X:Cx}(hc:X.calm=true):iK X (.type "list") (λxs H Q=>∃z,xs=[.str z]/\z.length<=sizeLine/\∀l,H l=none->Q (.ref l) (c6 H l<|.lst (z.cps.toList.map λc=>V.str ⟨#[c]⟩))):=by
 intro pins s σ H xs us Q I r h;obtain⟨z,rfl,hz,q⟩:=h;obtain⟨u,rfl,t,rfl⟩:=jS r;refine call_list_str (I.ok.hd hc) z t (hn:=hz) λh' tk zCB c' kp e zCS=>?_;have rv:Vals (z.cps.toList.map λc=>V.str ⟨#[c]⟩) zCB.toList:=by obtain⟨h1,h2⟩:=zCS;refine Fa _ _ (by simp[h1]) λj x u e1 e2=>?_;obtain⟨c,t',hc,rfl⟩:=h2 j u (by simpa using e2);rw[List.getElem?_map,show z.cps.toList[j]?=some c by simpa using hc]at e1;cases e1;exact⟨t',rfl⟩
 exact⟨.ref s.heap.objs.size,_,I.laid (t':=tk) kp (aj _) (show XI X.prog X.w _ h' _ (.lst _)from⟨by rw[ae,bX];exact hz,zCB.toList,c',rv,by simpa using e⟩),rfl,q _<|I.XR.fresh<|aj _⟩
def CY{K:bL}:∀cs:bH,Xv K F (cs.map λc=>V.str ⟨#[c]⟩) (cs.map λc=>D.str ⟨#[c]⟩)|[]=>.nil|c::cs=>.cons (.str _)<|CY cs
def M2(t:At X N sc)(bl:pd X sc x (.type "list"))(ha:Xs X ρ e (.str z))(hz:z.length<=sizeLine)(YK:Pl e:=by intro _ _;rfl):XF X ρ (.Call (.Name x p) [e] [] pos) (Qb z):=.of (oF (HW t.calm) (dO t bl.g) bl.m bl.v (bf aN cq<|YK _ _) bl.n bl.d (YK _ _) rfl) λB F H σ Q k' q=>ha B F H σ _ k' λv F' H' x' r=>by cases r;exact⟨z,rfl,hz,λl hl=>q l _ F' _ ⟨x'.sub.trans<|aR hl,x'.sh.trans<|aR hl,x'.sf,x'.nw⟩ (x'.sh.free hl) aM (x'.sub.free hl)<|CY _⟩
def Jv{sep:Str}(ha:Xs X ρ a (.str z))(hb:Xs X ρ b (.int i))(hi:i.natAbs.log2<1920)(hz:z.length+sep.length<=1000):Xs X ρ (.JoinedStr [.FormattedValue a (-1) none p1,.Constant (.str sep) j p2,.FormattedValue b (-1) none p3] pos) (.str<|z++sep++(toString i:Str)):=λB F H σ Q k q=>.mk λpins s I=>by
 have hl:=PyProof.Rows.int_text_len_1921 hi;have e0:Str.empty++z=z:=by obtain⟨c⟩:=z;show(⟨#[]++c⟩:Str)=⟨c⟩;rw[Array.empty_append]
 have hs:sizeLine=16777216:=rfl;have l1:(Str.empty++z).length<=sizeLine:=by rw[e0];lia
 have l2:(Str.empty++z++sep).length<=sizeLine:=by rw[e0,ub];lia
 have l3:(Str.empty++z++sep++(toString i:Str)).length<=sizeLine:=by rw[e0,ub,ub];exact aJ (GN hl _)<|by lia
 refine JoinedStr_many<|E4<|Te (dM (ha B F H σ (λv H'=>∃F',Ext ⟨F,H⟩ F' H'/\Rep X.K F' v (.str z)) k (λv F' H' x r=>⟨F',x,r⟩) pins s I) λu s1 ⟨v,H1,I1,rv,F1,x1,r1⟩=>?_);cases r1;obtain⟨t,rfl⟩:=rv;refine formatField_str (λt' tk=>?_) (by lia);refine⟨l1,E4<|P3 ⟨l2,E4<|Te (dM (hb B F1 H1 σ (λv H'=>∃F',Ext ⟨F1,H1⟩ F' H'/\Rep X.K F' v (.int i)) (k.ext x1) (λv F' H' x r=>⟨F',x,r⟩) pins _<|I1.tok _) λu s2 ⟨v2,H2,I2,rv2,F2,x2,r2⟩=>?_)⟩⟩;cases r2;obtain⟨t2,rfl⟩:=rv2;refine formatField_int_small hi ⟨l3,joinParts_nil ?_ l3⟩;rw[e0];exact⟨.str _,H2,I2.tok _,⟨_,rfl⟩,q _ F2 H2 (x1.t x2)<|.str _⟩
end
def Ba{x:Str}(t:At X N sc)(hm:∃tk,X.mg x=some (.str z tk))(hg:z6 sc x:=by rfl)(Yt:tH x:=by rfl):Xs X ρ (.Name x p) (.str z):=by obtain⟨tk,hm⟩:=hm;exact .of (ze (dO t hg) hm (show RelV (.str z) (.str z tk)from⟨_,rfl⟩) Yt) λB F H σ Q k q=>q _ F H (.refl k.sub)<|.str _
def wq{x:Str}(t:At X N sc)(hm:∃tk,X.mg x=some (.int z tk))(hg:z6 sc x:=by rfl)(Yt:tH x:=by rfl):Xs X ρ (.Name x p) (.int z):=by obtain⟨tk,hm⟩:=hm;exact .of (ze (dO t hg) hm (show RelV (.int z) (.int z tk)from⟨_,rfl⟩) Yt) λB F H σ Q k q=>q _ F H (.refl k.sub)<|.int _
def Hb{pos:Pos}(h:Xs X ρ e d)(ZL:swapsWith e none pos.line X.env=pure false:=by rfl):X5 X ρ (.Expr e pos) (.nx ρ):=λB F H σ E k q=>.mk λpins s I=>iW aN ZL pins s σ H E I (h B F H σ _ k λv F' H' x' r=>q F' H' σ (k.ext x') x'.sf)
def QY:X5 X ρ (.Return none pos) (.rt .XY):=λB F H σ E k q=>.mk λpins s I=>Oz pins s σ H E I<|q .XY F H k.toExt .XY
def R4{P:Program}(Yp:P.given.tree=none){w:World}{K:bL}{mg:xX}{base:Heap}{x qual:Str}{st:Stmt}{f:Addr}{fd:FuncData}{N ps:bM}{k:Nat}{C:aU->D->Prop}(F:Fun K x qual st f fd)(S:aE N ps (ah st))(len:∀ds d,C ds d->ds.length=ps.length)(body:∀X,DefX P w K mg base k N (ah st) X->∀ds d,C ds d->Xt X (ds.map Sl.val++List.replicate (N.length-ds.length) Sl.un) (bA st) (.rt d)\/(d=.XY/\∃ρ',Xt X (ds.map Sl.val++List.replicate (N.length-ds.length) Sl.un) (bA st)<|.nx ρ')):fj P w K mg base jq (k+1) f fd ps (Ly K C):=by
 refine F.ok S (λvs H Q E h=>?_) λYd A outer s H vs Q E hr h=>?_;·obtain⟨F',ds,d,sub,r,hC,q⟩:=h;rw[r.length];exact len ds d hC
 ·obtain⟨F',ds,d,sub,r,hC,q⟩:=h;refine⟨_,ej,?_⟩;have hx:DefX P w K mg base k N (ah st) (wx jq P w K mg base N qual (ah st) f Yd A outer s H E).Z2:=⟨⟨rfl,rfl,rfl,S.nd,rfl,hr.units,hr.Zu,Yp,⟨_,_,rfl,S.gen,S.co,rfl,rfl⟩⟩,rfl,rfl,rfl,rfl,rfl,hr,⟨λ_=>rfl⟩,rfl,rfl⟩;have hk:Ok K ⟨F',H⟩ F' H (start N vs) (ds.map Sl.val++List.replicate (N.length-ds.length) Sl.un):=by unfold start;rw[r.length];exact lL sub r _
  rcases body _ hx ds d hC with hb |⟨rfl,ρ',hb⟩;·exact hb ⟨F',H⟩ F' H _ _ hk λv F2 H2 x2 r2=>q v F2 H2 x2 r2
  ·exact hb ⟨F',H⟩ F' H _ _ hk λF2 H2 σ2 k2 s2=>q .XY F2 H2 k2.toExt .XY
def S(cs:bH):Str:=⟨cs.toArray⟩
def e8(cs:bH):(S cs).length=cs.length:=by show cs.toArray.size=_;simp
def j1(cs:bH):(S cs).cps.toList=cs:=by show cs.toArray.toList=_;simp
def iJ(a b:bH):S a++S b=S (a++b):=by show(⟨a.toArray++b.toArray⟩:Str)=⟨_⟩;simp
def e9{a:bH}(h:S a=S b):a=b:=by rw[<-j1 a,h,j1]
def Wl(z:Str):z=S z.cps.toList:=by obtain⟨c⟩:=z;show(⟨c⟩:Str)=⟨_⟩;simp
def fO{cs:bH}(h:∀c∈cs,c<128):PyData.strOk (S cs)=true:=by show cs.toArray.all (·<0x110000)=true;simp only[List.all_toArray,NF,bj];intro c hc;have:=h c hc;lia
def UL{cs:bH}(h:∀c∈cs,c<128):(S cs).cps.all (·<128)=true:=by show cs.toArray.all (·<128)=true;simp only[List.all_toArray,NF,bj];exact h
def al(c:Nat):Bool:=PySem.Unicode.isAlnum c
def Nr(c:Nat):Txt.isalnum (S [c])=al c:=by show(decide ((#[c]:Array Nat).size>0)&&(#[c]:Array Nat).all PySem.Unicode.isAlnum)=_;simp[al]
def Cw{pre:bH}{c:Nat}:qL (S<|pre++c::post).cps.toList (pre.length:Int)=some c:=by rw[j1];exact jN<|by simp
def UK(pre w post:bH):Txt.slice (S<|pre++w++post) (some (pre.length:Int)) (some<|(pre.length:Int)+(w.length:Int))=S w:=by
 have e:(pre.length:Int)+(w.length:Int)=((pre.length+w.length:Nat):Int):=by lia
 rw[e,JG (by lia)<|by rw[e8];simp,j1];show(⟨_⟩:Str)=⟨_⟩;simp[List.drop_append,yz]
def Il(pre post:bH)(c:Nat):Txt.slice (S<|pre++c::post) (some (pre.length:Int)) (some<|(pre.length:Int)+2)=S (c::post.take 1):=by
 have e:(pre.length:Int)+2=((pre.length+2:Nat):Int):=by lia
 rw[e,JG (by lia)<|by rw[e8];simp,j1];show(⟨_⟩:Str)=⟨_⟩;simp[List.drop_append,yz]
def UA:Stmt->Stmt|.ClassDef _ _ _ (b::_) _ _ _ _ _ _ _=>b|s=>s
def O7{P:Program}{K:bL}{st:Stmt}{k:Nat}(Yp:P.given.tree=none)(F:Fun K x qual st f fd)(S:aE ["self","tokens"] ["self","tokens"] (ah st))(c:Cls K C)(n1:XT K C "tokens")(n2:XT K C "done")(n3:XT K C "steps")(hb:bA st=[.Assign [.Attribute (.Name "self" p1) "tokens" p2] (.Name "tokens" p3) a1,.Assign [.Attribute (.Name "self" p4) "done" p5] (.Constant (.int 0) j p6) a2,.Assign [.Attribute (.Name "self" p7) "steps" p8] (.List [] p9) a3])(v1:fB (ah st) "self"=true)(v2:fB (ah st) "tokens"=true):fj P w K mg base jq (k+1) f fd ["self","tokens"] (DK C):=by
 refine F.ok S (λvs H Q E h=>?_) λYd A outer s H vs Q E hr h=>?_;·obtain⟨x,dx,l,rfl,_⟩:=h;rfl
 ·obtain⟨x0,dx,l,rfl,hx,q⟩:=h;have hX:DefX P w K mg base k ["self","tokens"] (ah st) (wx jq P w K mg base ["self","tokens"] qual (ah st) f Yd A outer s H E).Z2:=⟨⟨rfl,rfl,rfl,S.nd,rfl,hr.units,hr.Zu,Yp,⟨_,_,rfl,S.gen,S.co,rfl,rfl⟩⟩,rfl,rfl,rfl,rfl,rfl,hr,⟨λ_=>rfl⟩,rfl,rfl⟩;have t:=hX.at';rw[hb];refine⟨_,ib (Hg (xY t (i:=0) rfl v1 rfl) (xY t (i:=1) rfl v2 rfl) rfl)<|ib (Hg (xY t (i:=0) rfl v1 rfl) Ho rfl)<|pF<|Hg (xY t (i:=0) rfl v1 rfl) (Mb cq) rfl,?_⟩;refine⟨.ref l,rfl,.ref x0,rfl,x0,C,dx,[],rfl,hx,c,n1,by decide,?_⟩;refine⟨.ref x0,rfl,x0,C,dx,_,rfl,aM,c,n2,(by show 1<1000;decide),?_⟩;refine⟨bB _,λp hp=>⟨.ref x0,rfl,x0,C,dx,pE "done" (.int 0)<|pE "tokens" (.ref l) [],rfl,?_,c,n3,(show(2:Nat)<1000 by decide),?_⟩⟩
  ·have hpx:x0≠p:=λe=>by subst e;rw[aM]at hp;cases hp
   rw[aK hpx,aM]
  ·have hpx:p≠x0:=λe=>by subst e;rw[aM]at hp;cases hp
   refine q p _ (by rwa[aK hpx,aK hpx]at hp) hpx ?_;funext b;unfold c6;by_cases h1:b=x0;·rw[ar h1,ar h1];rfl
   ·rw[ak h1,ak h1];by_cases h2:b=p;·simp[h1,h2,hpx]
    ·simp[h1,h2]
def DefX.mkR{x:Str}{K:bL}(h:DefX P w K mg base k N sc X)(F:fj P w K mg base jq j f fd ps (DK C))(hj:j+1<=k)(M:Mk K C f)(hm:mg x=some (.ref C))(hb:Binds K fd ps [])(c:Cls K C)(n1:XT K C "tokens")(n2:XT K C "done")(n3:XT K C "steps"):Wo X x C:=by obtain⟨h0,rfl,rfl,rfl,rfl,rfl,hr,_⟩:=h;exact⟨⟨f,fd,ps,j,M,F,hr.mono hj,hb⟩,hm,c,n1,n2,n3⟩
def T9(k:be):Int:=reduceHash<|Builtin.Tuple.tupleHashOf<|k.map hashInt
def LS.lst(S:LS)(q:Addr):LS where
 cs:=S.cs×dW
 ds:=S.ds×aU
 ov c a:=match S.ov c.1 a with|some u=>some u|none=>if a=q then some (.lst c.2)else none
 dom c c' a h:=by
  cases e:S.ov c.1 a with
  |some u=>rw[e]at h;cases h
  |none=>
   rw[e]at h;rw[S.dom c.1 c'.1 a e];by_cases h1:a=q;·have h':(if a=q then some (HO.lst c.2)else none)=none:=h;rw[ar h1]at h';cases h'
   ·show(if a=q then _ else _)=_;rw[ak h1]
 rep K F c s:=S.rep K F c.1 s.1/\Xv K F c.2 s.2
 mono:=λsf h=>⟨S.mono sf h.1,h.2.mono sf⟩
section
variable {S:LS}{st:Stmt}{bQ:List Stmt}{s s1 s':S.ds}{ds:aU}
def w6{a:Addr}{c:S.cs}(h:S.ov c a=some u):(S.lst q).ov (c,us) a=some u:=by show(match S.ov c a with |some u=>some u |none=>if a=q then some (HO.lst us)else none)=some u;rw[h]
def AK{q:Addr}{c:S.cs}(h:S.ov c q=none):(S.lst q).ov (c,us) q=some (.lst us):=by show(match S.ov c q with |some u=>some u |none=>if q=q then some (HO.lst us)else none)=_;rw[h];exact ar rfl
def wa{a:Addr}{q:Addr}{c:S.cs}(h:S.ov c a=none)(hq:a≠q):(S.lst q).ov (c,us) a=none:=by show(match S.ov c a with |some u=>some u |none=>if a=q then some (HO.lst us)else none)=none;rw[h];exact ak hq
def Fc{H:Hp}{q:Addr}{c:S.cs}(hq:H q=some (.lst us))(h0:S.ov c q=none):XH (S.lst q) ⟨F,H⟩ (c,us)=XH S ⟨F,H⟩ c:=by
 have:lK ((S.lst q).ov (c,us)) H=lK (S.ov c) H:=funext λa=>by
  cases e:S.ov c a with
  |some u=>rw[gx<|w6 e,gx e]
  |none=>
   rw[dk e];by_cases h:a=q;·subst h;rw[gx<|AK e,hq]
   ·rw[dk<|wa e h]
 show(⟨F,lK ((S.lst q).ov (c,us)) H⟩:B0)=⟨F,lK (S.ov c) H⟩;rw[this]
def Iq{H:Hp}{q:Addr}{c:S.cs}(hc:∀a u,S.ov c a=some u->H a=some u)(h0:S.ov c q=none):XH (S.lst q) ⟨F,H⟩ (c,us)=YT ⟨F,H⟩ q us:=by
 have:lK ((S.lst q).ov (c,us)) H=c6 H q (.lst us):=funext λa=>by
  by_cases h:a=q;·subst h;rw[gx<|AK h0,aM]
  ·rw[aK h];cases e:S.ov c a with|some u=>rw[gx<|w6 e,hc a u e]|none=>rw[dk<|wa e h]
 show(⟨F,lK ((S.lst q).ov (c,us)) H⟩:B0)=⟨F,c6 H q<|.lst us⟩;rw[this]
def oW(S:LS)(q:Addr):Prop:=∀c,S.ov c q=none
def Ln.fst{K:bL}(hq:oW S q){c:(S.lst q).cs}{s:(S.lst q).ds}(l:Ln (S.lst q) K B F c s):Ln S K B F c.1 s.1:=⟨λa u h=>l.st a u<|w6 h,λa u h=>l.fr a u<|w6 h,l.rep.1⟩
def Ln.snd{K:bL}(hq:oW S q){c:(S.lst q).cs}{s:(S.lst q).ds}(l:Ln (S.lst q) K B F c s):YU K B q F c.2 s.2:=⟨l.st q _<|AK<|hq c.1,l.fr q _<|AK<|hq c.1,l.rep.2⟩
def XG.l(hq:oW S q)(h:XG S X ρ e d s s'):XG (S.lst q) X ρ e d (s,xs) (s',xs):=λB F H σ Q c l k w=>h B F H σ Q c.1 (l.fst hq) k λv F' H' c' x r rv=>w v F' H' (c',c.2) (by rw[Fc (k.sh _ _ (l.snd hq).st)<|hq c'];exact x) ⟨r,l.rep.2.mono x.sf⟩ rv
def RE{X:Cx}(hq:oW S q){c:(S.lst q).cs}(l:Ln (S.lst q) X.K B F c (s,xs))(k:Ok X.K B F H σ ρ)(w:xU (S.lst q) X.K B F E (s',xs) o):xU S X.K B F E s' o\/xU S X.K ⟨F,B.H⟩ F E s' o:=by
 have e:∀c':S.cs,XH (S.lst q) B (c',c.2)=XH S B c':=λc'=>Fc (F:=B.F) (H:=B.H) (l.snd hq).st<|hq c';cases o with
 |nx ρ'=>exact .inl λF' H' σ' c' k' r' sf=>w F' H' σ' (c',c.2) (by rw[e];exact k') ⟨r',l.rep.2.mono sf⟩ sf
 |rt d=>exact .inr λv F' H' c' x' r' rv=>w v F' H' (c',c.2) (by rw[e];exact(k.zAM<|l.fst hq).toExt.zBM x') ⟨r',l.rep.2.mono x'.sf⟩ rv
def Ln.zHP{K:bL}{c:S.cs}(l:Ln S K B F c s)(x:Ext B F H):Ln S K ⟨F,B.H⟩ F c s:=⟨l.st,λa u h=>l.free x h,l.rep⟩
def X9.l(hq:oW S q)(h:X9 S X ρ st o s s'):X9 (S.lst q) X ρ st o (s,xs) (s',xs):=λB F H σ E c l k w=>by
 rcases RE hq l k w with z |z;·exact h B F H σ E c.1 (l.fst hq) k z
 ·exact h ⟨F,B.H⟩ F H σ E c.1 ((l.fst hq).zHP k.toExt) k.now z
def ZF.zl(hq:oW S q)(h:ZF X q ρ e d xs xs'):XG (S.lst q) X ρ e d (s,xs) (s,xs'):=λB F H σ Q c l k w=>h B F H σ Q c.2 (l.snd hq) k λv F' H' Zd x r rv=>w v F' H' (c.1,Zd) (by rw[Iq ((l.fst hq).now k)<|hq c.1];exact x) ⟨S.mono x.sf l.rep.1,r⟩ rv
def ZU.zl(hq:oW S q)(h:ZU X q ρ e b xs):Yb (S.lst q) X ρ e b (s,xs) (s,xs):=λB F H σ Q c l k w=>h B F H σ Q c.2 (l.snd hq) k λF' H' x=>w F' H' c (x.toZ<|l.now k)<|(S.lst q).mono x.sf l.rep
def OH{H:Hp}{q:Addr}{c:S.cs}(hc:∀a u,S.ov c a=some u->H a=some u)(h0:S.ov c q=none):lK ((S.lst q).ov (c,us)) H=c6 H q (.lst us):=aY B0.H<|Iq (F:=H) (H:=H) hc h0
def N1{H:Hp}{q:Addr}{c:S.cs}(h0:S.ov c q=none):XH (S.lst q) ⟨F,H⟩ (c,us)=YT (XH S ⟨F,H⟩ c) q us:=by
 have:lK ((S.lst q).ov (c,us)) H=c6 (lK (S.ov c) H) q (.lst us):=funext λa=>by
  by_cases h:a=q;·subst h;rw[gx<|AK h0,aM]
  ·rw[aK h];cases e:S.ov c a with|some u=>rw[gx<|w6 e,gx e]|none=>rw[dk<|wa e h,dk e]
 show(⟨F,lK ((S.lst q).ov (c,us)) H⟩:B0)=⟨F,c6 (lK (S.ov c) H) q<|.lst us⟩;rw[this]
def Ln.apart{K:bL}{q:Addr}{c:S.cs}(l:Ln S K B F c s)(h:B.H q=none):oW S q:=λc'=>by cases e:S.ov c' q with|none=>rfl|some u=>obtain⟨v,hv⟩:=LS.has e c;rw[l.st q v hv]at h;cases h
def JP{ρ:cJ}{pos:Pos}{apos:Pos}{Xz:Pos}(hq:oW S q)(t:At X N sc)(i:Nat)(hr:ρ[i]?=some (.val<|.adr q))(he:XG (S.lst q) X ρ e d (s,xs) (s1,xs1))(hz:xs1.length<sizeLine)(hN:N[i]?=some x:=by rfl)(hv:fB sc x=true:=by rfl)(hx:cv x=true:=by rfl)(hb2:attributeBase (.Name x py) "append" X.env (eval (.Name x py) X.env)=eval (.Name x py) X.env:=by rfl)(hs:DA e [] X.env:=by rfl)(XN:(apos.endLine==Xz.line)=true:=by rfl)(Zy:uL Xz [] X.env:=by rfl)(YA:DB Xz [e] X.env:=by rfl)(ZL:swapsWith (.Call (.Attribute (.Name x py) "append" apos) [e] [] Xz) none pos.line X.env=pure false:=by rfl):X9 (S.lst q) X ρ (.Expr (.Call (.Attribute (.Name x py) "append" apos) [e] [] Xz) pos) (.nx ρ) (s,xs) (s1,xs1++[d]):=λB F H σ E c l k w=>.mk λpins st I=>iW (vt b0 lm lj oH aN (bf aN cq hs) hb2 YA XN hs Zy) ZL pins st σ H E I<|Bt t hr hN hv hx k ⟨.inl ⟨rfl,_,XZ.of<|k.sh _ _ (l.snd hq).st⟩,he B F H σ _ c l k λv F1 H1 c1 x1 r1 rv=>by have k1:=k.YD l x1;have l1:Ln (S.lst q) X.K (XH (S.lst q) B c1) F1 c1 (s1,xs1):=l.up r1;refine⟨q,c1.2,v,rfl,rfl,l1.now k1 _ _<|AK<|hq c1.1,by rw[r1.2.length];exact hz,?_⟩;have k2:Ok X.K (XH (S.lst q) (XH (S.lst q) B c1) (c1.1,c1.2++[v])) F1 (lK ((S.lst q).ov (c1.1,c1.2++[v])) H1) σ ρ:=k1.zAM l1;have e1:XH (S.lst q) (XH (S.lst q) B c1) (c1.1,c1.2++[v])=XH (S.lst q) B (c1.1,c1.2++[v]):=XH.up (S:=S.lst q);rw[e1,OH ((l1.fst hq).now k1)<|hq c1.1]at k2;exact w F1 _ σ (c1.1,c1.2++[v]) k2 ⟨r1.1,r1.2.append<|.cons rv .nil⟩ x1.sf⟩
def y4{r:Bool}{ρ:cJ}(t:At X N sc)(i:Nat)(hr:ρ[i]?=some (.val<|.adr q))(sh:SeqAt.shaped (PyData.list<|XB xs)=true)(he:r= !xs.isEmpty)(hN:N[i]?=some x:=by rfl)(hv:fB sc x=true:=by rfl)(hx:cv x=true:=by rfl):ZU X q ρ (.Compare (.Name x py) [.NotEq] [.List [] p3] pos) r xs:=λB F H σ Q us l k w=>.mk λpins s I=>by
 refine gh (LV t (p:=.list<|XB xs) (q:=.list []) sh rfl) aN aN (dX _ (by decide)<|by decide) pins s σ H Q I ?_;refine Bt t hr hN hv hx k ?_;refine(bI (X:=X) (ρ:=ρ) ag).toQ.p B F H σ _ k λv F' H' x' rd=>?_;refine⟨λhc H2 s2 pins σ s u I ru=>?_,rd,r,?_,w F' H' x'⟩;·cases(show u=Value.ref q from ru);exact SqB.reads (k:=true) I (x'.sub.trans s2) (show XZ _ _ _ _ from XZ.of<|s2 _ _<|x'.sh _ _<|k.sh _ _ l.st) (l.rep.mono x'.sf) hc
 ·subst he;cases xs with|nil=>rfl|cons n ns=>rfl
def Dz{pos:Pos}(t:At X N sc)(h:XG S X ρ e d s s')(hg:EvG X ρ tg d ρ')(hs:swapsWithSole [tg] e pos.line X.env=pure false:=by rfl)(hw:swappedStores [tg] e (dE sc)=pure none:=by rfl)(h1:(assignEach [tg] X.env).map (·.2)=[assign tg X.env]:=by rfl):X9 S X ρ (.Assign [tg] e pos) (.nx ρ') s s':=λB F H σ E c l k w=>.mk λpins st I=>L1 aN L8 hs ((uO (show X.env.scope=(dE sc).scope from t.eS)).trans hw) h1 pins st σ H E I (h B F H σ _ c l k λv F1 H1 c1 x1 r1 rv=>hg (XH S B c1) F1 H1 σ v _ (k.YD l x1) rv λF2 H2 σ2 k2 s2=>w F2 H2 σ2 c1 k2 (S.mono s2 r1)<|x1.sf.trans s2)
def NX{ρ:cJ}[Z1 X](t:At X N sc)(i:Nat)(hr:ρ[i]?=some (.val<|.str z))(h:XG S X ρ e (.str w) s s')(hz:z.length+w.length<=sizeLine)(hi:N[i]?=some x:=by rfl)(hx:nc sc x=true:=by rfl):X9 S X ρ (.AugAssign (.Name x pos') .Add e pos) (.nx<|ρ.set i<|.val<|.str<|z++w) s s':=λB F H σ E c l k q=>.mk λpins st I=>Hh (i:=i) t.nd (t.ix hi) (t.loc hx) aN (show S6 X .Add _ from xO) Jk pins st σ H E I<|by obtain⟨v,h1,h2⟩:=k.vals i _ hr;cases h2;exact⟨_,h1,h B F H σ _ c l k λv F' H' c1 x' r rv=>by cases rv;exact⟨z,w,rfl,rfl,hz,q F' H' _ c1 ((k.YD l x').XM i<|.str _) r x'.sf⟩⟩
def Ej(ha:XG S X ρ a (.str z) s s1)(hb:XG S X ρ b (.str w) s1 s')(hz:z.length+w.length<=sizeLine):XG S X ρ (.BinOp a .Add b pos) (.str<|z++w) s s':=λB F H σ Q c l k q=>.mk λpins st I=>xL AI aN aN pins st σ H Q I (JS ha hb l k λx y F' H' c' x' r' rx ry=>by cases rx;cases ry;exact⟨z,w,rfl,rfl,hz,q _ F' H' c' x' r'<|.str _⟩)
end
section
variable {ds:aU}{s s1 s':Int×aU}
def sV{ρ:cJ}{pos:Pos}{apos:Pos}{Xz:Pos}(t:At X N sc)(ok:mW X.K r)(i:Nat)(hr:ρ[i]?=some (.val<|.adr r.p))(he:XG (XE r) X ρ e (.lst ys) s s1)(hz:s1.2.length+ys.length<=sizeLine)(hN:N[i]?=some x:=by rfl)(hv:fB sc x=true:=by rfl)(hx:cv x=true:=by rfl)(hb:attributeBase (.Name x py) "steps" X.env (eval (.Name x py) X.env)=eval (.Name x py) X.env:=by rfl)(hb2:attributeBase (.Attribute (.Name x py) "steps" ps) "extend" X.env (eval (.Attribute (.Name x py) "steps" ps) X.env)=eval (.Attribute (.Name x py) "steps" ps) X.env:=by rfl)(hs:DA e [] X.env:=by rfl)(XN:(apos.endLine==Xz.line)=true:=by rfl)(Zy:uL Xz [] X.env:=by rfl)(YA:DB Xz [e] X.env:=by rfl)(ZL:swapsWith (.Call (.Attribute (.Attribute (.Name x py) "steps" ps) "extend" apos) [e] [] Xz) none pos.line X.env=pure false:=by rfl):X9 (XE r) X ρ (.Expr (.Call (.Attribute (.Attribute (.Name x py) "steps" ps) "extend" apos) [e] [] Xz) pos) (.nx ρ) s (s1.1,s1.2++ys):=λB F H σ E c l k w=>.mk λpins st I=>iW (vt b0 UW UV C9 (AE aN hb) (bf aN cq hs) hb2 YA XN hs Zy) ZL pins st σ H E I (KP t hr hN hv hx k ⟨r.p,r.C,r.dx,_,.ref r.q,rfl,l.now k _ _ XE.atP,ok.cls,ok.n3,rfl,.inl ⟨rfl,_,XZ.of<|l.now k _ _<|XE.atQ ok.ne⟩,he B F H σ _ c l k λv F1 H1 c1 x1 r1 rv=>by
   have k1:=k.YD l x1;have l1:Ln (XE r) X.K (XH (XE r) B c1) F1 c1 s1:=l.up r1;cases rv with|@lst b ws _ hf rl=>
   refine⟨r.q,b,c1.2,ws,rfl,rfl,l1.now k1 _ _ (XE.atQ ok.ne),x1.sub _ _ hf,by rw[r1.2.1.length,rl.length];exact hz,?_⟩;have k2:Ok X.K (XH (XE r) (XH (XE r) B c1) (c1.1,c1.2++ws)) F1 (lK ((XE r).ov (c1.1,c1.2++ws)) H1) σ ρ:=k1.zAM l1;have e1:XH (XE r) (XH (XE r) B c1) (c1.1,c1.2++ws)=XH (XE r) B (c1.1,c1.2++ws):=XH.up (S:=XE r);rw[e1,Me (c:=c1) (c':=(c1.1,c1.2++ws)) ok.ne (l1.now k1) rfl]at k2;exact w F1 _ σ (c1.1,c1.2++ws) k2 ⟨r1.1,r1.2.1.append rl,r1.2.2⟩ x1.sf⟩)
def Ob(K:bL)(C:bM->Int×aU->aU->D->Int×aU->aU->Prop):Sp:=λvs H Q _=>∃(r:wK)(q:Addr)(F:Hp)(d:D)(c:((XE r).lst q).cs)(s s':Int×aU)(xs xs':aU),XC F H/\mW K r/\oW (XE r) q/\(∀a u,((XE r).lst q).ov c a=some u->H a=some u)/\(∀a u,((XE r).lst q).ov c a=some u->F a=none)/\((XE r).lst q).rep K F c (s,xs)/\Xv K F vs [.adr r.p,.adr q]/\C r.toks s xs d s' xs'/\∀v F' H' c',Ext (XH ((XE r).lst q) ⟨F,H⟩ c') F' H'->((XE r).lst q).rep K F' c' (s',xs')->Rep K F' v d->Q v H'
def Zo(X:Cx)(x:Str)(C:bM->Int×aU->aU->D->Int×aU->aU->Prop):Prop:=∃(f:Addr)(fd:FuncData)(ps:bM)(k:Nat),fj X.prog X.w X.K X.mg X.base jq k f fd ps (Ob X.K C)/\X6 k X.A/\X.mg x=some (.ref f)/\PySem.W.keepIn X.K (.ref f)=true/\Binds X.K fd ps []
def O9{P:Program}(Yp:P.given.tree=none){w:World}{K:bL}{mg:xX}{base:Heap}{x qual:Str}{st:Stmt}{f:Addr}{fd:FuncData}{N ps:bM}{k:Nat}{C:bM->Int×aU->aU->D->Int×aU->aU->Prop}(F:Fun K x qual st f fd)(S:aE N ps (ah st))(len:2=ps.length)(body:∀X,DefX P w K mg base k N (ah st) X->∀(r:wK)(q:Addr),mW X.K r->oW (XE r) q->∀s xs d s' xs',C r.toks s xs d s' xs'->YE ((XE r).lst q) X (.val (.adr r.p)::.val (.adr q)::List.replicate (N.length-2) Sl.un) (bA st) (.rt d) (s,xs) (s',xs')):fj P w K mg base jq (k+1) f fd ps (Ob K C):=by
 refine F.ok S (λvs H Q E h=>?_) λYd A outer s H vs Q E hr h=>?_;·obtain⟨r,q,F',d,c,s,s',xs,xs',sub,ok,ap,h1,h2,h3,rv,hC,g⟩:=h;rw[rv.length];exact len
 ·obtain⟨r,q,F',d,c,s1,s',xs,xs',sub,ok,ap,h1,h2,h3,rv,hC,g⟩:=h;refine⟨_,ej,?_⟩;have hx:DefX P w K mg base k N (ah st) (wx jq P w K mg base N qual (ah st) f Yd A outer s H E).Z2:=⟨⟨rfl,rfl,rfl,S.nd,rfl,hr.units,hr.Zu,Yp,⟨_,_,rfl,S.gen,S.co,rfl,rfl⟩⟩,rfl,rfl,rfl,rfl,rfl,hr,⟨λ_=>rfl⟩,rfl,rfl⟩;have hk:Ok K ⟨F',H⟩ F' H (start N vs) ([.adr r.p,.adr q].map Sl.val++List.replicate (N.length-2) Sl.un):=by unfold start;rw[rv.length];exact lL sub rv _
  exact body _ hx r q ok ap s1 xs d s' xs' hC ⟨F',H⟩ F' H _ _ c ⟨h1,h2,h3⟩ hk λv F2 H2 c2 x2 r2 rv=>g v F2 H2 c2 x2 r2 rv
def DefX.zB7{K:bL}{x:Str}{C:bM->Int×aU->aU->D->Int×aU->aU->Prop}(h:DefX P w K mg base k N sc X)(F:fj P w K mg base jq j f fd ps (Ob K C))(hj:j<=k)(hm:mg x=some (.ref f))(hk:PySem.W.keepIn K (.ref f)=true)(hb:Binds K fd ps []):Zo X x C:=by obtain⟨h0,rfl,rfl,rfl,rfl,rfl,hr,_⟩:=h;exact⟨f,fd,ps,j,F,hr.mono hj,hm,hk,hb⟩
def CF{pos:Pos}[Z1 X](t:At X N sc)(ok:mW X.K r){C:bM->Int×aU->aU->D->Int×aU->aU->Prop}(h:Zo X x C)(i j:Nat)(ha:Xs X ρ e0 (.adr r.p))(hr:ρ[i]?=some (.own xs))(hC:C r.toks s xs d s' xs')(hN:N[i]?=some z:=by rfl)(hv:fB sc z=true:=by rfl)(hx:cv z=true:=by rfl)(hj:N[j]?=some y:=by rfl)(hy:nc sc y=true:=by rfl)(hg:z6 sc x:=by rfl)(Yt:tH x:=by rfl)(hs:Pl (.Name z pz):=by intro _ _;rfl)(he:Pl e0:=by intro _ _;rfl)(ZL:swapsWith (.Call (.Name x p) [e0,.Name z pz] [] Xz) (some<|.Name y pos') pos.line X.env=pure false:=by rfl):X9 (XE r) X ρ (.Assign [.Name y pos'] (.Call (.Name x p) [e0,.Name z pz] [] Xz) pos) (.nx<|(ρ.set i<|.own xs').set j<|.val d) s s':=λB F0 H σ E c l k w=>.mk λpins st I=>by
 obtain⟨f,fd,ps,kk,F,hr',hm,hk,hb⟩:=h;have pz':i8 jq X E0:=vv;refine rf (i:=j) t.nd (t.ix hj) (t.loc hy) (mK F hr' (dO t hg) hm hk hb .nil pz' (bf aN (bf aN cq<|hs _ _)<|he _ _) Yt (he _ _)<|by unfold uL;rw[hs];rfl) ZL Jk pins st σ H E I ?_;refine ha B F0 H σ _ k λv0 F1 H1 x1 rv1=>?_;have k1:=k.ext x1;have l1:Ln (XE r) X.K B F1 c s:=l.ext x1;refine rj t hr hN hv hx k1 λa us h1 h2 h3=>?_;obtain⟨a',Zd,o1,o2,o3,o4,o5⟩:=k1.Yk i xs hr;rw[h1]at o1;cases o1;have ap:oW (XE r) a:=l1.apart o4;refine⟨r,a,F1,d,(c,us),s,s',xs,xs',k1.sub,ok,ap,λb u hb=>?_,λb u hb=>?_,⟨l1.rep,h3⟩,?_,hC,λv F2 H2 c2 x2 r2 rv=>?_⟩
 ·by_cases hba:b=a;·subst hba;rw[AK<|ap c]at hb;cases hb;exact h2
  ·cases e:(XE r).ov c b with
   |some u'=>rw[w6 e]at hb;cases hb;exact l1.now k1 _ _ e
   |none=>rw[wa e hba]at hb;cases hb
 ·by_cases hba:b=a;·subst hba;exact o3
  ·cases e:(XE r).ov c b with|some u'=>exact l1.ff k1 _ _ e|none=>rw[wa e hba]at hb;cases hb
 ·exact .cons rv1<|.cons (.adr a) .nil
 ·have x2:Ext (YT (XH (XE r) ⟨F1,H1⟩ c2.1) a c2.2) F2 H2:=(N1 (S:=XE r) (F:=F1) (H:=H1) (us:=c2.2)<|ap c2.1)▸x2;have k2:Ok X.K (XH (XE r) B c2.1) F1 (lK ((XE r).ov c2.1) H1) σ ρ:=k1.zAM l1;have k3:=k2.back hr h1 x2 r2.2;exact w F2 H2 _ c2.1 (k3.XM j rv) r2.1<|x1.sf.trans x2.sf
end
inductive Yx(S:LS)(X:Cx)(cd:Expr)(body:List Stmt):Nat->cJ->S.ds->Out->S.ds->Prop where
 |stop {ρ:cJ} {s s1:S.ds}:Yb S X ρ cd false s s1->Yx S X cd body 0 ρ s (.nx ρ) s1
 |ret {ρ:cJ} {s s1 s2:S.ds} {d:D}:Yb S X ρ cd true s s1->YE S X ρ body (.rt d) s1 s2->Yx S X cd body 0 ρ s (.rt d) s2
 |step {n:Nat} {ρ ρ1:cJ} {o:Out} {s s1 s2 s3:S.ds}:Yb S X ρ cd true s s1->YE S X ρ body (.nx ρ1) s1 s2->Yx S X cd body n ρ1 s2 o s3->Yx S X cd body (n+1) ρ s o s3
section
variable {S:LS}{s s':S.ds}
def CD(t:At X N sc)(h:∃n,Yx S X cd body n ρ s o s'):X9 S X ρ (.While cd body [] pos) o s s':=λB F H σ E c l k q=>.mk λpins w I=>Ay t.pass oE ej pins w σ H E I (by
  obtain⟨n,h⟩:=h;refine⟨λm σ H=>∃ρ1 F1 c1 s1,Ok X.K (XH S B c1) F1 H σ ρ1/\S.rep X.K F1 c1 s1/\XC F F1/\Yx S X cd body m ρ1 s1 o s',⟨n,ρ,F,c,s,by rw[XH.same l.st];exact k,l.rep,.refl _,h⟩,?_⟩;rintro m σ H ⟨ρ1,F1,c1,s1,k1,r1,sf,run⟩;have l1:Ln S X.K (XH S B c1) F1 c1 s1:=l.up r1;cases run with
  |stop hc=>refine hc (XH S B c1) F1 H σ _ c1 l1 k1 λF2 H2 c2 x2 r2=>?_;rw[ak aC];have k2:=k1.YD l1 x2;rw[XH.up]at k2;exact q F2 H2 σ c2 k2 r2<|sf.trans x2.sf
  |@ret _ _ sa _ d hc hb=>refine hc (XH S B c1) F1 H σ _ c1 l1 k1 λF2 H2 c2 x2 r2=>?_;rw[ar rfl];have k2:=k1.YD l1 x2;rw[XH.up]at k2;refine⟨λσ' H'=>False,λσ' H' h=>h.elim,hb (XH S B c2) F2 H2 σ _ c2 (l.up r2) k2 λv F3 H3 c3 x3 r3 rv=>?_⟩;rw[XH.up]at x3;exact q v F3 H3 c3 x3 r3 rv
  |@step n0 _ ρa _ _ sa sb _ hc hb r=>refine hc (XH S B c1) F1 H σ _ c1 l1 k1 λF2 H2 c2 x2 r2=>?_;rw[ar rfl];have k2:=k1.YD l1 x2;rw[XH.up]at k2;refine⟨λσ' H'=>∃Zw c'',Ok X.K (XH S B c'') Zw H' σ' ρa/\S.rep X.K Zw c'' sb/\XC F Zw,λσ' H' ⟨Zw,c'',k'',r'',s''⟩=>⟨_,eL _,_,Zw,c'',_,k'',r'',s'',r⟩,hb (XH S B c2) F2 H2 σ _ c2 (l.up r2) k2 λF3 H3 σ3 c3 k3 r3 s3=>⟨F3,c3,?_,r3,sf.trans (x2.sf.trans s3)⟩⟩;rw[XH.up]at k3;exact k3)
end
structure EU(P:Program)(w:World)(K:bL)(a:Addr)(kvs:List (Str×Addr))(ep:Nat):Prop where
 lo:(a==sysModules)=false
 at':∀h:Heap,K.In h->h.DictAt (jM P w) a (kvs.map λp=>((Sum.inr p.1:yu),Value.ref p.2)) ep
section
variable {ds:aU}{kvs:List (Str×Addr)}
abbrev xb(kvs:List (Str×Addr)):List (yu×Value):=kvs.map λp=>((Sum.inr p.1:yu),Value.ref p.2)
def Rn{X:Cx}(g:EU X.prog X.w X.K q kvs ep):pQ X (compareOp .In) (λx y H Q=>∃k,x=.str k/\y=.ref q/\Q (.bl (valueAt (xb kvs)<|Sum.inr k).isSome) H):=by intro pins s σ H x y v u Q I rx ry h;obtain⟨k,rfl,rfl,z⟩:=h;obtain⟨t,rfl⟩:=rx;cases ry;exact wpAny_in_of (knd:=jM X.prog X.w) (k:=Sum.inr k) (sZ k t) g.lo (g.at' _ I.Y9).dictOf.mapOf ⟨.bl _,H,I.tok _,rfl,z⟩
def Bg{r:Bool}{x:Str}(t:At X N sc)(g:EU X.prog X.w X.K q kvs ep)(ha:Xs X ρ a (.str k))(hm:X.mg x=some (.ref q))(he:(valueAt (xb kvs)<|Sum.inr k).isSome=r)(hg:z6 sc x:=by rfl)(Yt:tH x:=by rfl)(hb:behindInMarks .In (.Name x py)=false:=by rfl):Xu X ρ (.Compare a [.In] [.Name x py] pos) r:=.of (gh (Rn g) aN aN hb) λB F H σ Q k' w=>two ha (oK t hm hg Yt) k' λu v F' H' x' ru rv=>by cases ru;cases rv;exact⟨k,rfl,rfl,_,rfl,by rw[he];exact w F' H' x'⟩
def RP{X:Cx}(g:EU X.prog X.w X.K q kvs ep):S9 X (λx y H Q=>∃k l,x=.ref q/\y=.str k/\valueAt (xb kvs) (Sum.inr k)=some (.ref l)/\Q (.ref l) H):=by intro value slice pins s σ H x y v u Q I rx ry h hs;obtain⟨k,l,rfl,rfl,hv,z⟩:=h;cases rx;obtain⟨t,rfl⟩:=ry;have dd:=g.at' _ I.Y9;exact kJ (x:=.ref l) dd.dictOf.typeIs PySem.F.slot_dict_getitem.lookup (wpAny_getItem_of (knd:=jM X.prog X.w) (Q:=λr s'=>r=.ref l/\EP X pins σ Q r s') (k:=Sum.inr k) (sZ k t) dd.dictOf.mapOf hv ⟨rfl,.ref l,H,I.tok _,rfl,z⟩) hs
def Se{x:Str}(t:At X N sc)(g:EU X.prog X.w X.K q kvs ep)(ha:Xs X ρ a (.str k))(hm:X.mg x=some (.ref q))(he:valueAt (xb kvs) (Sum.inr k)=some (.ref l))(hg:z6 sc x:=by rfl)(Yt:tH x:=by rfl)(hs:mP a:=by intro _ _;rfl):Xs X ρ (.Subscript (.Name x py) a pos) (.adr l):=.of (C4 (RP g) aN aN hs) λB F H σ Q k' w=>two (oK t hm hg Yt) ha k' λu v F' H' x' ru rv=>by cases ru;cases rv;exact⟨k,l,rfl,rfl,he,w _ F' H' x'<|.adr l⟩
def CI:∀(kvs:List (Str×Addr))(us:gC),us.length=kvs.length->(∀(j:Nat)(v:Value),us[j]?=some v->∃k x,(xb kvs)[j]?=some (k,x)/\FS k v=true)->Vals (kvs.map λp=>V.str p.1) us
 |[],[],_,_=>.nil
 |p::kvs,u::us,hl,h=>by
  obtain⟨k,x,e,hk⟩:=h 0 u rfl;cases e;rcases eC hk with⟨i,t,e,_⟩ |⟨z,t,e,rfl⟩;·cases e
  ·cases e;exact .cons ⟨t,rfl⟩ (CI kvs us (by simpa using hl) λj v hj=>h (j+1) v hj)
 |[],u::us,hl,_=>by simp at hl|p::kvs,[],hl,_=>by simp at hl
def Cg{X:Cx}(g:EU X.prog X.w X.K q kvs ep)(hc:X.calm=true)(hz:kvs.length<=sizeLine):iK X (.type "list") (λxs H Q=>xs=[.ref q]/\∀l,H l=none->Q (.ref l) (c6 H l<|.lst (kvs.map λp=>V.str p.1))):=by intro pins s σ H xs us Q I r h;obtain⟨rfl,z⟩:=h;obtain⟨u,rfl,rx⟩:=jS r;cases rx;have dd:=g.at' _ I.Y9;have hl:(xb kvs).length=kvs.length:=ae _;refine PySem.W.kdl_call (PySem.W.kdl_dict (knd:=jM X.prog X.w) g.lo) (I.ok.hd hc) dd (by rw[hl];exact hz) λh' tk zCB c' kp e zCS=>?_;refine⟨.ref s.heap.objs.size,_,I.laid (t':=tk) (o:=.lst (kvs.map λp=>V.str p.1)) kp (aj _) (show XI X.prog X.w _ h' _ (.lst _)from⟨by rw[ae];exact hz,zCB.toList,c',?_,by simpa using e⟩),rfl,z _<|I.XR.fresh<|aj _⟩;exact CI kvs zCB.toList (by rw[bX,zCS.1,hl]) λj v e=>zCS.2 j v<|by rw[<-Array.getElem?_toList];exact e
def M3{x:Str}(t:At X N sc)(g:EU X.prog X.w X.K q kvs ep)(bl:pd X sc y (.type "list"))(hm:X.mg x=some (.ref q))(hz:kvs.length<=sizeLine)(hg:z6 sc x:=by rfl)(Yt:tH x:=by rfl)(YK:Pl (.Name x py):=by intro _ _;rfl):XF X ρ (.Call (.Name y p) [.Name x py] [] pos) (kvs.map λp=>D.str p.1):=.of (oF (Cg g t.calm hz) (dO t bl.g) bl.m bl.v (bf aN cq<|YK _ _) bl.n bl.d (YK _ _) rfl) λB F H σ Q k' w=>(oK t hm hg Yt) B F H σ _ k' λv F' H' x' r=>by
  cases r;refine⟨rfl,λp hp=>?_⟩;have rl:∀kvs:List (Str×Addr),Xv X.K F' (kvs.map λp=>V.str p.1) (kvs.map λp=>D.str p.1):=λkvs=>by induction kvs with|nil=>exact .nil|cons p kvs ih=>exact .cons (.str _) ih
  exact w p _ F' _ ⟨x'.sub.trans<|aR hp,x'.sh.trans<|aR hp,x'.sf,x'.nw⟩ (x'.sh.free hp) aM (x'.sub.free hp)<|rl kvs
def Y7(K:bL)(l:Addr)(ns:be):Prop:=∃(o:Obj)(its:Array Value)(n:Nat),K.lookup l=some o/\o.cls=.type "tuple"/\o.data=.seq its n/\its.size<=sizeLine/\Vals (ns.map V.int) its.toList
def Y7.sq{K:bL}(g:Y7 K l ns)(H:Hp):Yu K H l (ns.map V.int):=.inr g
def Uq(h:Xs X ρ e (.adr l))(g:Y7 X.K l ns):ZX X ρ tg e (ns.map D.int):=.of (L6 aN) λB F H σ R k w=>h B F H σ _ k λv F' H' x r=>by cases r;exact⟨_,rfl,⟨_,g.sq H'⟩,w _ F' H' x<|MA (λH2 s2=>g.sq H2)<|Xv.ints ns⟩
def RX{X:Cx}(g:Y7 X.K l ns)(hk:PySem.W.kitOne X.K (.type "tuple") (.type T)=some k):iK X (.builtin "isinstance") (λxs H Q=>xs=[.ref l,.ty T]/\Q (.bl k) H):=by intro pins s σ H xs us Q I r h;obtain⟨rfl,z⟩:=h;obtain⟨u,w,rfl,ru,Zx⟩:=CK r;cases(show w=Value.type T from Zx);cases(show u=Value.ref l from ru);obtain⟨o,its,n,h1,h2,h3,h4,h5⟩:=g;exact cz PySem.W.kitx_tuple I.Y9 ⟨o,I.Y9 _ _ h1,h2⟩ hk (λz=>nomatch z) λtk=>⟨.bl k,H,I.tok tk,rfl,z⟩
def Pi(t:At X N sc)(g:Y7 X.K l ns)(bl:pd X sc x (.builtin "isinstance"))(bt:pd X sc y (.type T))(ha:Xs X ρ a (.adr l))(hk:PySem.W.kitOne X.K (.type "tuple") (.type T)=some k)(hpa:Pl a:=by intro _ _;rfl):Xs X ρ (.Call (.Name x p) [a,.Name y py] [] pos) (.bl k):=.of (jY (RX g hk) (dO t bl.g) bl.m bl.v (bf aN (bf (D0 (v:=.ty T) (dO t bt.g) bt.m bt.v rfl bt.n bt.d) cq)<|hpa _ _) bl.n bl.d (hpa _ _) rfl) λB F H σ Q k' w=>ha B F H σ _ k' λv F' H' x' r=>by cases r;exact⟨rfl,w _ F' H' x'<|.bl k⟩
def Km:S8 X "str.startswith" (λv vs H Q=>∃(z w:Str),v=.str z/\vs=[.str w]/\Q (.bl<|Txt.startswith z w) H):=by intro pins s σ H v vs u us Q I rv rvs h;obtain⟨z,w,rfl,rfl,q⟩:=h;obtain⟨t,rfl⟩:=rv;obtain⟨u2,rfl,⟨t2,rfl⟩⟩:=jS rvs;exact PySem.SC.startswith ⟨.bl _,H,I,rfl,q⟩
def td{r:Bool}{apos:Pos}(ho:Xs X ρ a (.str z))(ha:Xs X ρ e (.str w))(hi:Txt.startswith z w=r)(hs:Pl e:=by intro _ _;rfl)(YC:attributeBase a "startswith" X.env (eval a X.env)=eval a X.env:=by rfl)(YA:DB Xz [e] X.env:=by rfl)(XN:(apos.endLine==Xz.line)=true:=by rfl):Xs X ρ (.Call (.Attribute a "startswith" apos) [e] [] Xz) (.bl r):=.of (vt nt PySem.F.slot_str_startswith PySem.F.type_str_startswith Km aN (bf aN cq<|hs _ _) YC YA XN (hs _ _) rfl) λB F H σ Q k q=>ho B F H σ _ k λv F1 H1 x1 r1=>by cases r1;refine⟨rfl,ha B F1 H1 σ _ (k.ext x1) λv2 F2 H2 x2 r2=>?_⟩;cases r2;subst hi;exact⟨z,w,rfl,rfl,q _ F2 H2 (x1.t x2)<|.bl _⟩
def xk(z w:Str):bM:=Builtin.Str.partsBetween z (Builtin.Str.occurrences z w 0 z.length<|z.length+1) w.length
structure NB(z w:Str):Prop where
 h1:(decide (z.length<w.length)||decide (Builtin.Str.strKind z<Builtin.Str.strKind w))=false
 h2:(w.length==0)=false
 h3:(Builtin.Str.occurrences z w 0 z.length<|z.length+1).isEmpty=false
 h4:z.length<=sizeLine
 h5:(xk z w).length<=sizeLine
def CH:∀(ps:bM)(n:Nat),Vals (ps.map V.str) (strsFrom n ps)|[],_=>.nil|p::ps,n=>.cons ⟨_,rfl⟩<|CH ps<|n+1
def Mj:S8 X "str.split" (λv vs H Q=>∃(z w:Str),v=.str z/\vs=[.str w]/\NB z w/\∀l,H l=none->Q (.ref l) (c6 H l<|.lst<|(xk z w).map V.str)):=by intro pins s σ H v vs u us Q I rv rvs h;obtain⟨z,w,rfl,rfl,ok,q⟩:=h;obtain⟨t,rfl⟩:=rv;obtain⟨u2,rfl,⟨t2,rfl⟩⟩:=jS rvs;refine GK WA (Xb _ _ _) PySem.F.entry_str_split (PySem.F.args_str_split_2 _ _) (meets_str_split_sep z w t t2 ok.h1 ok.h2 ok.h3 ok.h4 ok.h5) ?_;exact⟨.ref s.heap.objs.size,_,I.laid (o:=.lst<|(xk z w).map V.str) (λb o e=>Heap.get?_push_of_some _ e) (aj _) (show XI X.prog X.w _ _ _ (.lst _)from⟨by rw[ae];exact ok.h5,_,_,CH _ _,Heap.get?_push_size _ rfl⟩),rfl,q _<|I.XR.fresh<|aj _⟩
def M0{apos:Pos}(ho:Xs X ρ a (.str z))(ha:Xs X ρ e (.str w))(ok:NB z w)(hs:Pl e:=by intro _ _;rfl)(YC:attributeBase a "split" X.env (eval a X.env)=eval a X.env:=by rfl)(YA:DB Xz [e] X.env:=by rfl)(XN:(apos.endLine==Xz.line)=true:=by rfl):XF X ρ (.Call (.Attribute a "split" apos) [e] [] Xz) ((xk z w).map D.str):=.of (vt nt WA PySem.F.type_str_split Mj aN (bf aN cq<|hs _ _) YC YA XN (hs _ _) rfl) λB F H σ Q k q=>ho B F H σ _ k λv F1 H1 x1 r1=>by
   cases r1;refine⟨rfl,ha B F1 H1 σ _ (k.ext x1) λv2 F2 H2 x2 r2=>?_⟩;cases r2;have x':=x1.t x2;have rl:∀ps:bM,Xv X.K F2 (ps.map V.str) (ps.map D.str):=λps=>by induction ps with|nil=>exact .nil|cons p ps ih=>exact .cons (.str _) ih
   exact⟨z,w,rfl,rfl,ok,λp hp=>q p _ F2 _ ⟨x'.sub.trans<|aR hp,x'.sh.trans<|aR hp,x'.sf,x'.nw⟩ (x'.sh.free hp) aM (x'.sub.free hp)<|rl _⟩
def Mq{ρ:cJ}{pos:Pos}(t:At X N sc){C:D->aU->aU->Prop}(h:YF X x C)(i:Nat)(hr:ρ[i]?=some (.val<|.adr q))(ha:Xs X ρ e d0)(hC:C d0 xs xs')(hN:N[i]?=some y:=by rfl)(hv:fB sc y=true:=by rfl)(hx:cv y=true:=by rfl)(hg:z6 sc x:=by rfl)(Yt:tH x:=by rfl)(hs:Pl (.Name y py):=by intro _ _;rfl)(he:Pl e:=by intro _ _;rfl)(ZL:swapsWith (.Call (.Name x p) [e,.Name y py] [] Xz) none pos.line X.env=pure false:=by rfl):Cy X q ρ (.Expr (.Call (.Name x p) [e,.Name y py] [] Xz) pos) (.nx ρ) xs xs':=λB F0 H σ E us l0 k w=>.mk λpins st I=>by obtain⟨f,fd,ps,kk,F,hr',hm,hk,hb⟩:=h;have pz:i8 jq X E0:=vv;refine iW (mK F hr' (dO t hg) hm hk hb .nil pz (bf aN (bf aN cq<|hs _ _)<|he _ _) Yt (he _ _)<|by unfold uL;rw[hs];rfl) ZL pins st σ H E I ?_;refine ha B F0 H σ _ k λv0 F1 H1 x1 r1=>?_;have k1:=k.ext x1;have l1:YU X.K B q F1 us xs:=l0.ext x1;refine Bt t hr hN hv hx k1 ?_;refine⟨q,F1,d0,us,xs,xs',k1.sub,k1.sh _ _ l1.st,l1.ff k1,l1.rep,.cons r1<|.cons (.adr q) .nil,hC,λv F2 H2 us2 x2 r2 rv=>w F2 H2 σ us2 (k1.zB3 l1 x2) r2<|x1.sf.trans x2.sf⟩
end
def TB(z:Str):Str.empty++z=z:=by obtain⟨c⟩:=z;show(⟨#[]++c⟩:Str)=⟨c⟩;rw[Array.empty_append]
def Tz(z:Str):z++Str.empty=z:=by obtain⟨c⟩:=z;show(⟨c++#[]⟩:Str)=⟨c⟩;rw[Array.append_empty]
def CP(x y z:Str):x++y++z=x++(y++z):=by obtain⟨a⟩:=x;obtain⟨b⟩:=y;obtain⟨c⟩:=z;show(⟨a++b++c⟩:Str)=⟨a++(b++c)⟩;rw[Array.append_assoc]
def Ta(X:Cx)(ρ:cJ)(es:tu)(w:Str):Prop:=∀(B:B0)(F H:Hp)(σ:St)(Q:VK)(out:Str),Ok X.K B F H σ ρ->out.length+w.length<=sizeLine->(∀F' H',Ext ⟨F,H⟩ F' H'->Q (.str<|out++w) H')->∀(pins:gQ)(s:Shared),Inv X pins σ H s->fh X (joinParts out<|evalEach es X.env) (EP X pins σ Q) X.xe s
def HQ:Ta X ρ [] Str.empty:=λB F H σ Q out k hz h pins s I=>joinParts_nilE<|joinParts_nil ⟨.str out,H,I.tok _,⟨_,rfl⟩,by have:=h F H<|.refl k.sub;rw[Tz]at this;exact this⟩<|by lia
def oP(h:Ta X ρ es w):Ta X ρ (.Constant (.str z) j p::es) (z++w):=λB F H σ Q out k hz g pins s I=>by
 have Z3:(out++z).length+w.length<=sizeLine:=by rw[ub]at hz ⊢;lia
 refine joinParts_consE<|E4<|P3 ⟨by lia,?_⟩;refine h B F H σ Q (out++z) k Z3 (λF' H' x'=>?_) pins _<|I.tok _;rw[CP];exact g F' H' x'
def Bi(ha:Xs X ρ a (.str z))(h:Ta X ρ es w):Ta X ρ (.FormattedValue a (-1) none p::es) (z++w):=λB F H σ Q out k hz g pins s I=>by
 have Z3:(out++z).length+w.length<=sizeLine:=by rw[ub]at hz ⊢;lia
 refine joinParts_consE<|E4<|Te (dM (ha B F H σ (λv H'=>∃F',Ext ⟨F,H⟩ F' H'/\Rep X.K F' v (.str z)) k (λv F' H' x r=>⟨F',x,r⟩) pins s I) λu s1 ⟨v,H1,I1,rv,F1,x1,r1⟩=>?_);cases r1;obtain⟨t,rfl⟩:=rv;refine formatField_str (λt' tk=>?_) (by rw[ub]at hz;lia);refine⟨by lia,h B F1 H1 σ Q (out++z) (k.ext x1) Z3 (λF' H' x'=>?_) pins _<|I1.tok _⟩;rw[CP];exact g F' H'<|x1.t x'
def xg(h:Ta X ρ (e1::e2::es) w)(hz:w.length<=sizeLine):Xs X ρ (.JoinedStr (e1::e2::es) pos) (.str w):=λB F H σ Q k g=>.mk λpins s I=>JoinedStr_many<|h B F H σ Q Str.empty k (by show 0+_<=_;lia) (λF' H' x'=>by rw[TB];exact g _ F' H' x'<|.str w) pins s I
def JN(P:Program)(w:World)(K:bL)(q:Addr)(xs:List (be×Addr×Value)):Prop:=∀h:Heap,K.In h->h.DictOfH (tupleKind<|intKind P w) q xs
def O0{xs:List (be×Addr×Value)}(t:At X N sc)(g:JN X.prog X.w X.K q xs):S9 X (λx y H Q=>∃k b c z tk,x=.ref q/\y=.ref b/\H b=some (.tup<|List.map V.int k)/\atKey xs k=some (c,.str z tk)/\Q (.str z) H):=by intro value slice pins s σ H x y v u Q I rx ry h hs;obtain⟨k,b,c,z,tk,rfl,rfl,hb,hv,q'⟩:=h;cases rx;cases ry;have dd:=g _ I.Y9;exact kJ (x:=.str z tk) dd.typeIs PySem.F.slot_dict_getitem.lookup (wpAny_getItem_heap (Q:=λr s'=>r=.str z tk/\EP X pins σ Q r s') (yx<|by have:=t.un;lia) (JY I hb) dd hv ⟨rfl,.str z,H,I.tok _,⟨_,rfl⟩,q'⟩) hs
def Ph{k:be}{x:Str}{xs:List (be×Addr×Value)}(t:At X N sc)(g:JN X.prog X.w X.K q xs)(ha:Xs X ρ a (.tup<|k.map D.int))(hm:X.mg x=some (.ref q))(he:atKey xs k=some (c,.str z tk))(hg:z6 sc x:=by rfl)(Yt:tH x:=by rfl)(hs:mP a:=by intro _ _;rfl):Xs X ρ (.Subscript (.Name x py) a pos) (.str z):=.of (C4 (O0 t g) aN aN hs) λB F H σ Q k' w=>two (oK t hm hg Yt) ha k' λu v F' H' x' ru rv=>by cases ru;cases rv with|@tup bt vs ds hf rl=>have ev:=Xv.YJ rl;subst ev;exact⟨k,bt,c,z,tk,rfl,rfl,x'.sub _ _ hf,he,w _ F' H' x'<|.str z⟩
def Oj{pos:Pos}(t:At X N sc)(i j:Nat)(h1:Xs X ρ a u)(h2:XF X ρ b ws)(hij:i≠j)(hi:N[i]?=some x:=by rfl)(hj:N[j]?=some y:=by rfl)(hx:sc.names.lookup x=some .local:=by rfl)(hy:sc.names.lookup y=some .local:=by rfl)(hw:swappedStores [.Tuple [.Name x px,.Name y py] kt pt] (.Tuple [a,b] k2 pt2) (dE sc)=pure (some [x,y]):=by rfl)(hs:swapsWithSole [.Tuple [.Name x px,.Name y py] kt pt] (.Tuple [a,b] k2 pt2) pos.line X.env=pure false:=by rfl)(hs1:DA a [b] X.env:=by rfl)(hs2:DA b [] X.env:=by rfl):X5 X ρ (.Assign [.Tuple [.Name x px,.Name y py] kt pt] (.Tuple [a,b] k2 pt2) pos) (.nx<|(ρ.set i<|.val u).set j<|.own ws):=.of (Hf (i:=i) (j:=j) t.calm t.nd (t.ix hi) (t.ix hj) hij (by rw[t.eS];exact hx) (by rw[t.eS];exact hy) (bf aN (bf aN cq hs2) hs1) ((uO (show X.env.scope=(dE sc).scope from t.eS)).trans hw) hs) λB F H σ E k q=>h1 B F H σ _ k λv F1 H1 x1 r1=>h2 B F1 H1 σ _ (k.ext x1) λp2 vs2 F2 H2 x2 g0 gp gf r2=>by
   have g00:H p2=none:=x1.sh.free g0;have ko:=(k.ext<|x1.t x2).XM i<|r1.mono x2.sf;have no2:Yi (σ.set i<|some v) (ρ.set i<|.val u) p2:=λm xs e z=>by
    by_cases him:i=m;·subst him;rw[List.getElem?_set]at e;rw[ar rfl]at e;split at e<;>cases e
    ·rw[List.getElem?_set_ne him]at e z;exact k.noOwn g00 m xs e z
   exact⟨v,.ref p2,rfl,q F2 H2 _ (ko.ZJ j gp gf (k.sh.free g00) no2 r2) (x1.t x2).sf⟩
abbrev Xm:=List<|be×Addr×Value
abbrev Xn:=List<|be×Str
structure Kd(K:bL)(x:Str)(st:Stmt)(f:Addr)(fd:FuncData):Prop where
 a:PySem.W.nsIn K mainGlobals x=some (some<|.ref f)
 F:Fun K x x st f fd
structure Bn(K:bL)(mg:xX)(x:Str)(f:Addr)(fd:FuncData)(ps:bM):Prop where
 m:mg x=some (.ref f)
 k:PySem.W.keepIn K (.ref f)=true
 b:Binds K fd ps []
section
variable {K:bL}{st:Stmt}
def kd{an:Option Addr}{kV doc pm Yd ct:Value}{x:Str}(a:PySem.W.nsIn K mainGlobals x=some (some<|.ref f))(l:K.lookup f=some ⟨oc,od,.func<|PySem.W.fnOf x x (i7 st) (bA st) (ah st) .none kV doc pm an Yd ct,osl⟩)(c:PySem.W.codeIn K Yd x=true)(k:PySem.W.keepIn K (.ref f)=true):Kd K x st f (PySem.W.fnOf x x (i7 st) (bA st) (ah st) .none kV doc pm an Yd ct):=⟨a,MF l c k⟩
def Kd.b1(d:Kd K x st f fd)(X:K.In h)(G:h.Ns mainGlobals mg)(S:aE N [p] (ah st))(hb:∀(kV doc pm:Value)(an:Option Addr)(Yd ct a:Value),bindArgs (PySem.W.fnOf x x (i7 st) (bA st) (ah st) .none kV doc pm an Yd ct) ⟨[a],[]⟩=pure ([p].zip [a]):=by intros;rfl):Bn K mg x f fd [p]:=⟨a8 X G d.a,d.F.kp,d.F.binds λkV doc pm an Yd ct us hl=>match us,hl with |[a],_=>hb kV doc pm an Yd ct a⟩
def Kd.b2(d:Kd K x st f fd)(X:K.In h)(G:h.Ns mainGlobals mg)(S:aE N [p,q] (ah st))(hb:∀(kV doc pm:Value)(an:Option Addr)(Yd ct a b:Value),bindArgs (PySem.W.fnOf x x (i7 st) (bA st) (ah st) .none kV doc pm an Yd ct) ⟨[a,b],[]⟩=pure ([p,q].zip [a,b]):=by intros;rfl):Bn K mg x f fd [p,q]:=⟨a8 X G d.a,d.F.kp,d.F.binds λkV doc pm an Yd ct us hl=>match us,hl with |[a,b],_=>hb kV doc pm an Yd ct a b⟩
def Kd.b3(d:Kd K x st f fd)(X:K.In h)(G:h.Ns mainGlobals mg)(S:aE N [p,q,r] (ah st))(hb:∀(kV doc pm:Value)(an:Option Addr)(Yd ct a b c:Value),bindArgs (PySem.W.fnOf x x (i7 st) (bA st) (ah st) .none kV doc pm an Yd ct) ⟨[a,b,c],[]⟩=pure ([p,q,r].zip [a,b,c]):=by intros;rfl):Bn K mg x f fd [p,q,r]:=⟨a8 X G d.a,d.F.kp,d.F.binds λkV doc pm an Yd ct us hl=>match us,hl with |[a,b,c],_=>hb kV doc pm an Yd ct a b c⟩
def DefX.ca{C:aU->D->Prop}(h:DefX P w K mg base k N sc X)(F:fj P w K mg base jq j f fd ps (Ly K C))(b:Bn K mg x f fd ps)(hj:j<=k:=by decide):EV.Callee X x C:=h.callee F hj b.m b.k b.b
def DefX.caD{C:aU->gn->Prop}(h:DefX P w K mg base k N sc X)(F:fj P w K mg base jq j f fd ps (U5 K C))(b:Bn K mg x f fd ps)(hj:j<=k:=by decide):EV.Yz X x C:=h.zCW F hj b.m b.k b.b
def DefX.zGI{C:D->aU->aU->Prop}(h:DefX P w K mg base k N sc X)(F:fj P w K mg base jq j f fd ps (Oc K C))(b:Bn K mg x f fd ps)(hj:j<=k:=by decide):EV.YF X x C:=h.zB8 F hj b.m b.k b.b
def DefX.Zc{C:bM->aU->Int×aU->D->Int×aU->Prop}(h:DefX P w K mg base k N sc X)(F:fj P w K mg base jq j f fd ps (TC K C))(b:Bn K mg x f fd ps)(hj:j<=k:=by decide):EV.Xx X x C:=h.zCV F hj b.m b.k b.b
def DefX.zJA{C:aU->bM->Prop}(h:DefX P w K mg base k N sc X)(F:fj P w K mg base jq j f fd ps (Oa K C))(b:Bn K mg x f fd ps)(hj:j<=k:=by decide):EV.Zn X x C:=h.zB6 F hj b.m b.k b.b
def DefX.zJB{C:bM->Int×aU->aU->D->Int×aU->aU->Prop}(h:DefX P w K mg base k N sc X)(F:fj P w K mg base jq j f fd ps (Ob K C))(b:Bn K mg x f fd ps)(hj:j<=k:=by decide):EV.Zo X x C:=h.zB7 F hj b.m b.k b.b
end
def DefX.bt{K:bL}{x:Str}(h:DefX P w K mg base k N sc X)(m:mg x=none)(g:z6 sc x:=by rfl)(v:bootBuiltins x=some u:=by rfl)(n:x≠"__name__":=by decide)(d:tH x:=by rfl):pd X sc x u:=⟨g,by rw[h.YQ];exact m,v,n,d⟩
def fK{N P:bM}{sc:Scope}(h:sc.kind=.function/\sc.isCoroutine=false/\sc.isGenerator=false/\N.Nodup/\N.take P.length=P/\(∀x∈P,sc.names.lookup x=some .local\/sc.names.lookup x=some .cell)/\∀y∈sc.names,y.2≠.free):aE N P sc:=⟨h.1,h.2.1,h.2.2.1,h.2.2.2.1,h.2.2.2.2.1,h.2.2.2.2.2.1,h.2.2.2.2.2.2⟩
abbrev Go(X:Cx)(N:bM)(st:Stmt)(C:aU->D->Prop):Prop:=∀ds d,C ds d->Xt X (ds.map Sl.val++List.replicate (N.length-ds.length) Sl.un) (bA st) (.rt d)
abbrev K5(X:Cx)(N:bM)(st:Stmt)(C:bM->aU->Int×aU->D->Int×aU->Prop):Prop:=∀(r:wK),mW X.K r->∀ds s d s',C r.toks ds s d s'->YE (XE r) X (.val (.adr r.p)::ds.map Sl.val++List.replicate (N.length-(ds.length+1)) Sl.un) (bA st) (.rt d) s s'\/(d=.XY/\∃ρ',YE (XE r) X (.val (.adr r.p)::ds.map Sl.val++List.replicate (N.length-(ds.length+1)) Sl.un) (bA st) (.nx ρ') s s')
abbrev Xo(X:Cx)(N:bM)(st:Stmt)(C:aU->aU->D->aU->Prop):Prop:=∀q ds xs d xs',C ds xs d xs'->PZ X q (.val (.stt q)::ds.map Sl.val++List.replicate (N.length-(ds.length+1)) Sl.un) (bA st) (.rt d) xs xs'
def La(n a b:Nat)(h1:a<n)(h2:b<n):ZipApart (n+4) (n+2) (n+3) n (n+1) a b:=by constructor<;>exactλz=>by have:∀x y:Nat,x=y->x<=y/\y<=x:=λ_ _ e=>⟨gt e,gt e.symm⟩;have:=this _ _ z;lia
def WN(K:bL)(a b:Addr):It:=⟨λi H=>∃xs ys x y,XZ K H a xs/\XZ K H b ys/\xs[i]?=some x/\ys[i]?=some y,λi H v H'=>∃p,H p=none/\v=.ref p/\∀xs ys,XZ K H a xs->XZ K H b ys->∃x y,xs[i]?=some x/\ys[i]?=some y/\H'=c6 H p (.tup [x,y]),λi H=>∃xs ys,XZ K H a xs/\XZ K H b ys/\(xs.length<=i\/ys.length<=i),False⟩
def Inv.zC1{X:Cx}{pins:gQ}{σ:St}{H:Hp}{s:Shared}{h':Heap}{t':Nat}{ch:List Addr}(I:Inv X pins σ H s)(k:∀b o,b∉ch->s.heap.get? b=some o->h'.get? b=some o)(f:∀b∈ch,uF X pins H b):Inv X pins σ H {s with heap:=h',toks:=t'}:=by
 refine I.step (g':=s.gens) (d':=s.drawn) (ch:=ch) (λb hb=>⟨(f b hb).2.2.2.1,(f b hb).2.1,(f b hb).2.2.2.2.1,(f b hb).2.2.2.2.2⟩) (λb o _ _ hc q _=>k b o hc q) (λb o _ _ hc q _=>⟨o.slots,k b o hc q⟩) (λ_ _ _ _ n=>n) (λb o hc q=>⟨o,k b o hc q⟩) (λ_ _ q=>q) (λ_ _ _ q=>q) (λb ps q=>⟨#[],by rw[q];simp⟩) (λm hm=>?_) (λb u q=>?_) I.bare;·obtain⟨o,es,ep,ho,r⟩:=hm;exact⟨o,es,ep,k _ o (λz=>(f _ z).2.1 rfl) ho,r⟩
 ·have ne:∀c v,H c=some v->c∉ch:=λc v q z=>by rw[(f c z).1]at q;cases q
  refine(I.XR b u q).Z8 (λc v hc r=>?_) (λ_ r=>r) λ_ _ r=>r;rcases hc with z |z;·subst z;exact k c v (ne c _ q) r
  ·exact k c v (ne c _ z) r
def Lk{P:Program}{w:World}{K:bL}{es:tu}{x1:Nat}{pos:Pos}(a b n:Nat)(ha:a<n)(hb:b<n):Bu P w K (.Tuple es x1 pos) (WN K a b) [n+4,n+2,n+3,n,n+1] (n+4) (λi h=>IsZip h (n+4) (n+2) (n+3) .none/\IsPair h (n+2) (.ref n) (.ref<|n+1)/\(∃u v,IsPair h (n+3) u v)/\h.IsListIter n a i/\h.IsListIter (n+1) b i) where
 mem:=by simp
 obj:=λi h st c hc=>by
  obtain⟨h1,h2,⟨u,v,h3⟩,⟨o4,h4,c4,d4⟩,⟨o5,h5,c5,d5⟩⟩:=st;simp only[ax,eM,uJ]at hc;rcases hc with rfl |rfl |rfl |rfl |rfl;·exact⟨_,h1,λv z=>by cases z⟩
  ·exact⟨_,h2,λv z=>by cases z⟩
  ·exact⟨_,h3,λv z=>by cases z⟩
  ·exact⟨_,h4,λv z=>by rw[d4]at z;cases z⟩
  ·exact⟨_,h5,λv z=>by rw[d5]at z;cases z⟩
 keep:=λi h h' st k=>by obtain⟨h1,h2,⟨u,v,h3⟩,h4,h5⟩:=st;exact⟨k _ (by simp) _ h1,k _ (by simp) _ h2,⟨u,v,k _ (by simp) _ h3⟩,h4.at λo q=>k _ (by simp) o q,h5.at λo q=>k _ (by simp) o q⟩
 item:=by
  intro X hP hw hK hc i pins s σ H E I hf st hg;subst hP hw hK;obtain⟨h1,h2,⟨u,v,h3⟩,h4,h5⟩:=st;obtain⟨xs,ys,x,y,qa,qb,hx,hy⟩:=hg;obtain⟨as,ra,pa,_⟩:=I.list qa;obtain⟨bs,rb,pb,_⟩:=I.list qb;obtain⟨x',hx',rx⟩:=ra.get hx;obtain⟨y',hy',ry⟩:=rb.get hy;have D:=La n a b ha hb;refine wpAny_pyNext_zip_item D h1 h2 h3 h4 h5 pa.isList pb.isList (by simpa using hx') (by simpa using hy') λh' a1 a2 a3 a4 a5 a6 hk=>?_;refine⟨_,rfl,wpAny_letOwnedTupleGo_zip a1 λh2' Z3 sb=>?_⟩;have lt:∀{c o},s.heap.get? c=some o->s.heap.objs.size≠c:=λe=>iG<|aI e;have kk:∀c o,c∉[n+4,n+2,n+3,n,n+1]->s.heap.get? c=some o->h2'.get? c=some o:=λc o hc e=>sb.extBut _ _ (λz=>hc<|by simp[z])<|hk c o (λz=>hc<|by simp[z]) (λz=>hc<|by simp[z]) (λz=>hc<|by simp[z]) (λz=>hc<|by simp[z]) e;have I1:Inv X pins σ H {s with heap:=h2'}:=Inv.zC1 (t':=s.toks) I kk hf;have hp0:H s.heap.objs.size=none:=I.XR.fresh<|aj _;have hT2:IsPair h2' s.heap.objs.size x' y':=sb.extBut _ _ (lt h1) a5;have I2:Inv X pins σ (c6 H s.heap.objs.size<|.tup [x,y]) {s with heap:=h2'}:=by
   refine Inv.zC2 I1 hp0 I.sz (iG I.lt) (λz c h=>?_) (λq hq2 z=>?_) ⟨cF rfl,[x',y'],.cons rx<|.cons ry .nil,⟨_,hT2,rfl,0,rfl⟩⟩;·obtain⟨v,hv⟩:=I.cell z c h;exact bi hv.lt
   ·have:=aI (I.pin q hq2).1;rw[z]at this;exact absurd this<|dQ _
  refine⟨.ref s.heap.objs.size,_,I2,rfl,⟨s.heap.objs.size,hp0,rfl,λus ws q1 q2=>⟨x,y,by rw[I.ZK q1 qa];exact hx,by rw[I.ZK q2 qb];exact hy,rfl⟩⟩,⟨Z3,sb.extBut _ _ D.TIz<|hk _ _ D.TIz D.TITO D.TIi1 D.TIi2 h2,⟨_,_,sb.extBut _ _ D.TOz a2⟩,a3.extBut sb.extBut D.i1z,a4.extBut sb.extBut D.i2z⟩,λc hc=>?_⟩;have bT:c≠s.heap.objs.size:=λz=>by
   obtain⟨o4,e4,_⟩:=h4;obtain⟨o5,e5,_⟩:=h5;simp only[ax,eM,uJ]at hc;rcases hc with rfl |rfl |rfl |rfl |rfl;·exact lt h1 z.symm
   ·exact lt h2 z.symm
   ·exact lt h3 z.symm
   ·exact lt e4 z.symm
   ·exact lt e5 z.symm
  rw[aK bT];exact(hf c hc).1
 done:=by
  intro X hP hw hK hc i pins s σ H E I hf st hg;subst hP hw hK;replace hc:=hc.resolve_right λz=>z.1;obtain⟨h1,h2,⟨u,v,h3⟩,h4,h5⟩:=st;obtain⟨xs,ys,qa,qb,hx⟩:=hg;obtain⟨as,ra,pa,_⟩:=I.list qa;obtain⟨bs,rb,pb,_⟩:=I.list qb;have la:=ra.length;have lb:=rb.length;refine wpAny_pyNext_zip_end (I.ok.hd hc) (La n a b ha hb) h1 h2 h3 h4 h5 pa.isList pb.isList ?_ λh' hk=>⟨rfl,Inv.zC1 (t':=s.toks) I (λc o hc e=>hk c o (λz=>hc<|by simp[z]) (λz=>hc<|by simp[z]) (λz=>hc<|by simp[z]) (λz=>hc<|by simp[z]) e) hf⟩;rcases hx with z |z;·exact .inl<|by simp;lia
  ·exact .inr<|by simp;lia
 self:=λ_ _ s Q E st h=>wpAny_pyIter_zip st.1 h
def Q7{X:Cx}{a:Expr}{b:Expr}{pos:Pos}{el:tu}{x1:Nat}{tp p:Pos}{ta:TA}(hg:Gl X "zip")(hm:X.mg "zip"=none)(hl:PA X [a,b] ta)(hs:Pl a)(hb:Pl b):PI X (.Tuple el x1 tp) (.Call (.Name "zip" p) [a,b] [] pos) (λσ H R=>ta σ H λvs H1=>∃l m,vs=[.ref l,.ref m]/\(∃xs,XZ X.K H1 l xs)/\(∃xs,XZ X.K H1 m xs)/\R (WN X.K l m) H1):=by
 intro pins s σ H R I h;refine Call_<|rH I hg hm (show bootBuiltins "zip"=some (.type "zip")by decide)<|fC (dM (hl pos pins s σ H _ I h) λus s1 ⟨vs,H1,I1,r1,q1⟩=>?_) (hs _ _) (by rw[hb];rfl);obtain⟨l,m,rfl,⟨xs,qa⟩,⟨ys,qb⟩,q⟩:=q1;obtain⟨u,u',rfl,ru,ru'⟩:=CK r1;cases(show u=Value.ref l from ru);cases(show u'=Value.ref m from ru');obtain⟨as,ra,pa,_⟩:=I1.list qa;obtain⟨bs,rb,pb,_⟩:=I1.list qb;refine call_zip_2 pa.isList pb.isList λh' a1 a2 a3 a4 a5 a6 kp=>?_;refine wpAny_pyIter_zip a1 ?_;have lt:∀{c:Addr}{v:Array Value},s1.heap.IsList c v->c<s1.heap.objs.size:=λ⟨_,e,_⟩=>aI e;refine⟨_,_,_,_,H1,rfl,I1.kept (t':=s1.toks) kp,Lk l m s1.heap.objs.size (lt pa.isList)<|lt pb.isList,⟨a1,a2,⟨_,_,a3⟩,a4,a5⟩,λc hc=>?_,q⟩;have:s1.heap.objs.size<=c:=by
  simp only[ax,eM,uJ]at hc;rcases hc with rfl |rfl |rfl |rfl |rfl;·exact qz _ _
  ·exact qz _ _
  ·exact qz _ _
  ·exact aj _
  ·exact qz _ _
 exact I1.zAC this<|I1.XR.fresh this
def xW:aU->aU->aU|d::ds,e::es=>.tup [d,e]::xW ds es|_,_=>[]
def E8:∀{ds es:aU}{i:Nat}{d:D},(xW ds es)[i]?=some d->∃x y,ds[i]?=some x/\es[i]?=some y/\d=.tup [x,y]
 |[],_,_,_,h=>by simp[xW]at h|_::_,[],_,_,h=>by simp[xW]at h
 |x::ds,y::es,0,_,h=>by simp[xW]at h;exact⟨x,y,rfl,rfl,h.symm⟩|x::ds,y::es,i+1,_,h=>by simp[xW]at h;simpa using E8 h
def E7:∀ds es:aU,(xW ds es).length=min ds.length es.length
 |[],_=>by simp[xW]|_::_,[]=>by simp[xW]
 |_::ds,_::es=>by simp[xW,E7 ds es]<;>lia
def Sn{X:Cx}{ρ:cJ}{a:Expr}{b:Expr}{pos:Pos}{N:bM}{sc:Scope}{es:aU}(t:At X N sc){el:tu}{x1:Nat}{tp p:Pos}(bl:pd X sc "zip" (.type "zip"))(h:Xs X ρ a (.lst ds))(g:Xs X ρ b (.lst es))(hs:Pl a:=by intro _ _;rfl)(hb:Pl b:=by intro _ _;rfl):ZX X ρ (.Tuple el x1 tp) (.Call (.Name "zip" p) [a,b] [] pos) (xW ds es):=.of (Q7 (dO t bl.g) bl.m (bf aN (bf aN cq<|hb _ _)<|hs _ _) hs hb) λB F H σ R k q=>two h g k λu v F' H' x ru rv=>by
  cases ru with
  |lst h1 r1=>cases rv with
   |lst h2 r2=>
   refine⟨_,_,rfl,⟨_,XZ.of<|x.sub _ _ h1⟩,⟨_,XZ.of<|x.sub _ _ h2⟩,q _ F' H' x λi F2 H2 s1 s2=>?_⟩
   have q1:XZ X.K H2 _ _:=XZ.of<|s2 _ _<|s1 _ _ h1
   have q2:XZ X.K H2 _ _:=XZ.of<|s2 _ _<|s1 _ _ h2
   refine⟨λd hd=>?_,λhl=>⟨_,_,q1,q2,by rw[r1.length,r2.length];rw[E7]at hl;lia⟩⟩
   obtain⟨x,y,hx,hy,rfl⟩:=E8 hd
   obtain⟨vx,hvx,rx⟩:=r1.get hx
   obtain⟨vy,hvy,ry⟩:=r2.get hy
   refine⟨⟨_,_,vx,vy,q1,q2,hvx,hvy⟩,λx H' z=>?_⟩
   obtain⟨p,hp,rfl,z⟩:=z
   obtain⟨vx',vy',e1,e2,rfl⟩:=z _ _ q1 q2
   rw[hvx]at e1;cases e1
   rw[hvy]at e2;cases e2
   have m:=aR (o:=.tup [vx,vy])<|s2.free hp
   exact⟨_,(Ext.refl s2).grow hp,.tup aM<|.cons ((rx.mono s1).mono m)<|.cons ((ry.mono s1).mono m) .nil⟩
end L2.EV
set_option maxHeartbeats 4000000
namespace My
open PySem L2 L2.EV
variable {K:bL}
def top(i:Nat):Stmt:=PySem.Challenge.pw_planestacks_k37_whole_kinds_go_along.main.body.getD i<|.Pass ⟨0,0,0,0⟩
abbrev pA:Stmt:=top 4
abbrev uB:bM:=["thing"]
def xH:aE uB ["thing"] (ah pA):=fK<|by decide
abbrev vj:Stmt:=top 6
abbrev By:bM:=["thing"]
def CW:aE By ["thing"] (ah vj):=fK<|by decide
abbrev jD:Stmt:=top 7
abbrev mX:bM:=["parts","nought","many"]
def qR:aE mX ["parts","nought"] (ah jD):=fK<|by decide
abbrev sR:Stmt:=top 8
abbrev xr:bM:=["parts","power","nought"]
def Ak:aE xr ["parts","power","nought"] (ah sR):=fK<|by decide
abbrev vi:Stmt:=top 9
abbrev Bx:bM:=["numbers"]
def CV:aE Bx ["numbers"] (ah vi):=fK<|by decide
abbrev pi:Stmt:=top 10
abbrev uy:bM:=["f","g","many"]
def xF:aE uy ["f","g"] (ah pi):=fK<|by decide
abbrev kP:Stmt:=top 11
abbrev pV:bM:=["f"]
def tN:aE pV ["f"] (ah kP):=fK<|by decide
abbrev jU:Stmt:=top 12
abbrev rR:bM:=["f","g","numbers","j","one","k","other"]
def uX:aE rR ["f","g"] (ah jU):=fK<|by decide
abbrev pC:Stmt:=top 14
abbrev uD:bM:=["thing"]
def xJ:aE uD ["thing"] (ah pC):=fK<|by decide
abbrev pD:Stmt:=top 15
abbrev uE:bM:=["rows"]
def xK:aE uE ["rows"] (ah pD):=fK<|by decide
abbrev kS:Stmt:=top 16
abbrev pY:bM:=["f","g","many"]
def tQ:aE pY ["f","g"] (ah kS):=fK<|by decide
abbrev jL:Stmt:=top 17
abbrev m9:bM:=["f","g"]
def q9:aE m9 ["f","g"] (ah jL):=fK<|by decide
abbrev hZ:Stmt:=top 18
abbrev m8:bM:=["f","g","rows","j","one","k","other"]
def q8:aE m8 ["f","g"] (ah hZ):=fK<|by decide
abbrev gJ:Stmt:=top 19
abbrev jw:bM:=["f"]
def mh:aE jw ["f"] (ah gJ):=fK<|by decide
abbrev il:Stmt:=top 20
abbrev ku:bM:=["letter","f"]
def oA:aE ku ["letter","f"] (ah il):=fK<|by decide
abbrev vg:Stmt:=top 21
abbrev Bw:bM:=["f"]
def CU:aE Bw ["f"] (ah vg):=fK<|by decide
abbrev fE:Stmt:=top 23
abbrev gA:bM:=["thing"]
def iP:aE gA ["thing"] (ah fE):=fK<|by decide
abbrev mv:Stmt:=top 28
abbrev rX:bM:=["thing"]
def u5:aE rX ["thing"] (ah mv):=fK<|by decide
abbrev mz:Stmt:=top 29
abbrev sg:bM:=["thing"]
def u9:aE sg ["thing"] (ah mz):=fK<|by decide
abbrev sT:Stmt:=top 30
abbrev xu:bM:=["thing"]
def Am:aE xu ["thing"] (ah sT):=fK<|by decide
abbrev kM:Stmt:=top 31
abbrev pS:bM:=["S"]
def tJ:aE pS ["S"] (ah kM):=fK<|by decide
abbrev ms:Stmt:=top 32
abbrev rV:bM:=["thing","waiting","part"]
def u3:aE rV ["thing"] (ah ms):=fK<|by decide
abbrev pp:Stmt:=top 33
abbrev uA:bM:=["S","stops","parts","waiting","part"]
def xG:aE uA ["S","stops"] (ah pp):=fK<|by decide
abbrev my:Stmt:=top 34
abbrev se:bM:=["S","boards","part"]
def u8:aE se ["S"] (ah my):=fK<|by decide
abbrev pB:Stmt:=top 35
abbrev uC:bM:=["S"]
def xI:aE uC ["S"] (ah pB):=fK<|by decide
abbrev mx:Stmt:=top 36
abbrev rZ:bM:=["part","other"]
def u7:aE rZ ["part","other"] (ah mx):=fK<|by decide
abbrev sS:Stmt:=top 37
abbrev xt:bM:=["S","letter","other"]
def Al:aE xt ["S","letter"] (ah sS):=fK<|by decide
abbrev jK:Stmt:=top 38
abbrev m7:bM:=["part"]
def q0:aE m7 ["part"] (ah jK):=fK<|by decide
abbrev mw:Stmt:=top 39
abbrev rY:bM:=["S"]
def u6:aE rY ["S"] (ah mw):=fK<|by decide
abbrev jV:Stmt:=top 45
abbrev rW:bM:=["token"]
def u4:aE rW ["token"] (ah jV):=fK<|by decide
abbrev kR:Stmt:=top 46
abbrev pX:bM:=["text","start","end"]
def tP:aE pX ["text","start"] (ah kR):=fK<|by decide
abbrev eI:Stmt:=top 47
abbrev XU:bM:=["run"]
def kF:aE XU ["run"] (ah eI):=fK<|by decide
abbrev ph:Stmt:=top 48
abbrev ux:bM:=["text","start","run"]
def xE:aE ux ["text","start"] (ah ph):=fK<|by decide
abbrev mj:Stmt:=top 49
abbrev rP:bM:=["text","tokens","at"]
def uU:aE rP ["text"] (ah mj):=fK<|by decide
abbrev hJ:Stmt:=top 50
abbrev Yg:bM:=["tokens","opening","closing","many","token"]
def qV:aE Yg ["tokens","opening","closing"] (ah hJ):=fK<|by decide
abbrev mo:Stmt:=top 52
abbrev Y0:bM:=["text","most","tokens"]
def uY:aE Y0 ["text","most"] (ah mo):=fK<|by decide
abbrev kQ:Stmt:=top 53
abbrev pW:bM:=["reader"]
def tO:aE pW ["reader"] (ah kQ):=fK<|by decide
abbrev kL:Stmt:=top 54
abbrev pR:bM:=["reader","token"]
def tI:aE pR ["reader"] (ah kL):=fK<|by decide
abbrev jE:Stmt:=top 55
abbrev mY:bM:=["reader","tokens","token"]
def qS:aE mY ["reader","tokens"] (ah jE):=fK<|by decide
abbrev jG:Stmt:=top 56
abbrev m3:bM:=["reader"]
def qU:aE m3 ["reader"] (ah jG):=fK<|by decide
abbrev pj:Stmt:=top 59
abbrev uz:bM:=["reader","sign"]
def qW:aE uz ["reader"] (ah pj):=fK<|by decide
abbrev iT:Stmt:=top 60
abbrev lZ:bM:=["reader"]
def qD:aE lZ ["reader"] (ah iT):=fK<|by decide
abbrev jI:Stmt:=top 61
abbrev m5:bM:=["reader","minuses"]
def qY:aE m5 ["reader"] (ah jI):=fK<|by decide
abbrev kO:Stmt:=top 62
abbrev pU:bM:=["reader"]
def tL:aE pU ["reader"] (ah kO):=fK<|by decide
abbrev mq:Stmt:=top 63
abbrev rS:bM:=["reader","token"]
def uZ:aE rS ["reader"] (ah mq):=fK<|by decide
abbrev sU:Stmt:=top 64
abbrev xw:bM:=["token","number"]
def An:aE xw ["token"] (ah sU):=fK<|by decide
abbrev gI:Stmt:=top 65
abbrev jv:bM:=["f","many","power","k"]
def mf:aE jv ["f","many"] (ah gI):=fK<|by decide
abbrev gH:Stmt:=top 66
abbrev Yf:bM:=["step","boards","last","first"]
def me:aE Yf ["step","boards"] (ah gH):=fK<|by decide
abbrev ik:Stmt:=top 67
abbrev kr:bM:=["x_power","y_power","shown","letter","power"]
def ou:aE kr ["x_power","y_power"] (ah ik):=fK<|by decide
abbrev ij:Stmt:=top 68
abbrev kn:bM:=["size","x_power","y_power","letters"]
def ot:aE kn ["size","x_power","y_power"] (ah ij):=fK<|by decide
abbrev jJ:Stmt:=top 69
abbrev m6:bM:=["board","products","y_power","row","x_power"]
def qZ:aE m6 ["board"] (ah jJ):=fK<|by decide
abbrev mn:Stmt:=top 70
abbrev rQ:bM:=["board","text","number","x_power","y_power"]
def uW:aE rQ ["board"] (ah mn):=fK<|by decide
abbrev gd:Stmt:=top 76
abbrev i9:bM:=["reader","sign"]
def lH:aE i9 ["reader"] (ah gd):=fK<|by decide
abbrev ig:Stmt:=top 77
abbrev km:bM:=["reader","prefixes","word"]
def oq:aE km ["reader"] (ah ig):=fK<|by decide
abbrev iS:Stmt:=top 78
abbrev Yr:bM:=["reader","brackets","prefixes","word"]
def qC:aE Yr ["reader","brackets"] (ah iS):=fK<|by decide
abbrev kN:Stmt:=top 79
abbrev pT:bM:=["reader","brackets","ended","prefixes"]
def tK:aE pT ["reader"] (ah kN):=fK<|by decide
abbrev ml:Stmt:=top 80
abbrev YZ:bM:=["step","waiting","last","first","word","letter"]
def uV:aE YZ ["step","waiting"] (ah ml):=fK<|by decide
abbrev jH:Stmt:=top 81
abbrev m4:bM:=["text","reader","waiting","step"]
def qX:aE m4 ["text"] (ah jH):=fK<|by decide
abbrev mr:Stmt:=top 82
abbrev rT:bM:=["S"]
def u0:aE rT ["S"] (ah mr):=fK<|by decide
abbrev jF:Stmt:=top 83
abbrev mZ:bM:=["S","text","waiting","piece"]
def qT:aE mZ ["S"] (ah jF):=fK<|by decide
abbrev mG:Stmt:=top 85
abbrev sk:bM:=["_law_script","_law_k","_law_state","_law_cell_here"]
def vd:aE sk ["_law_script","_law_k"] (ah mG):=fK<|by decide
abbrev iV:Stmt:=top 86
abbrev l5:bM:=["_law_cell_here","_law_many","_law_found","_law_state","_law_digits","_law_k"]
def qF:aE l5 ["_law_cell_here","_law_many"] (ah iV):=fK<|by decide
abbrev mD:Stmt:=top 87
abbrev si:bM:=["_law_parts_here","_law_found"]
def va:aE si ["_law_parts_here"] (ah mD):=fK<|by decide
abbrev im:Stmt:=top 88
abbrev iq:bM:=["_law_parts_here","_law_rows","_law_k"]
def oB:aE iq ["_law_parts_here"] (ah im):=fK<|by decide
abbrev iU:Stmt:=top 89
abbrev Ys:bM:=["_law_one","_law_other","_law_found","_law_i","_law_k","_law_j","_law_m"]
def qE:aE Ys ["_law_one","_law_other"] (ah iU):=fK<|by decide
abbrev mF:Stmt:=top 90
abbrev Y1:bM:=["_law_xs"]
def vc:aE Y1 ["_law_xs"] (ah mF):=fK<|by decide
abbrev kX:Stmt:=top 91
abbrev YM:bM:=["_law_xs","_law_size","_law_found","_law_spots","_law_k"]
def tU:aE YM ["_law_xs"] (ah kX):=fK<|by decide
abbrev kY:Stmt:=top 92
abbrev qd:bM:=["_law_cell_here","_law_xs","_law_way"]
def tV:aE qd ["_law_cell_here"] (ah kY):=fK<|by decide
abbrev kU:Stmt:=top 93
abbrev YL:bM:=["_law_board_here","_law_found","_law_k","_law_i"]
def tS:aE YL ["_law_board_here"] (ah kU):=fK<|by decide
abbrev ge:Stmt:=top 94
abbrev ja:bM:=["_law_cell_here","_law_way","_law_parts_here","_law_found","_law_i","_law_k"]
def lJ:aE ja ["_law_cell_here","_law_way"] (ah ge):=fK<|by decide
abbrev mE:Stmt:=top 95
abbrev sj:bM:=["_law_xs","_law_boards","_law_deep","_law_x","_law_signs","_law_half","_law_one"]
def pf:aE sj ["_law_xs","_law_boards","_law_deep"] (ah mE):=fK<|by decide
abbrev gK:Stmt:=top 96
abbrev jx:bM:=["_law_saying","_law_parts_here","_law_found","_law_i","_law_k"]
def iQ:aE jx ["_law_saying"] (ah gK):=fK<|by decide
abbrev kW:Stmt:=top 97
abbrev qc:bM:=["_law_saying"]
def tT:aE qc ["_law_saying"] (ah kW):=fK<|by decide
abbrev mH:Stmt:=top 98
abbrev sn:bM:=["_law_one","_law_other"]
def ve:aE sn ["_law_one","_law_other"] (ah mH):=fK<|by decide
abbrev eQ:Stmt:=top 99
abbrev fY:bM:=["_law_one","_law_other","_law_found","_law_board_here"]
def iR:aE fY ["_law_one","_law_other"] (ah eQ):=fK<|by decide
abbrev kT:Stmt:=top 100
abbrev pZ:bM:=["_law_one","_law_other","_law_kinds_here","_law_more","_law_word","_law_pair"]
def tR:aE pZ ["_law_one","_law_other"] (ah kT):=fK<|by decide
abbrev Ap:Stmt:=top 101
abbrev Nu:bM:=["_law_script","_law_boards","_law_k","_law_cell_here","_law_xs","_law_one","_law_other"]
def QW:aE Nu ["_law_script"] (ah Ap):=fK<|by decide
abbrev ia:Stmt:=UA<|top 51
def Ao:aE ["self","tokens"] ["self","tokens"] (ah ia):=fK<|by decide
def qj(ds:aU)(d:D):Prop:=∃f:be,ds=[bh f]/\f.length<1000/\d=bh (f.map λx=>-x)
def AS:∀ds d,qj ds d->ds.length=1:=by rintro _ _ ⟨a,rfl,_⟩;rfl
def uR{n:Nat}(h:n<1000):n<sizeLine:=tG h<|by decide
def EL(h:DefX P w K mg base k pV (ah kP) X)(Xy:mg "tuple"=none):Go X pV kP qj:=by
 rintro ds d ⟨f,rfl,hf,rfl⟩;have t:=h.at';haveI:=h.X1;have bl:=h.bt Xy;show Xt X [.val<|bh f] _ _;refine aq<|aW<|fw t bl<|Y4.eq (XF.toQ (dP (rs:=(f.map D.int).map λd=>match d with |.int i=>.int (-i) |d=>d) t ["f","number"] (Do<|by decide) (ki<|aa t 0) (by rw[ae];exact uR hf) λX' cx=>?_)) ?_;·have t':=cx.at';refine X0.all (λd=>[.val<|bh f,.val d]) _ _ _ (λd hd=>br t' 1) (λd hd e he=>br t' 1) λd hd=>?_;obtain⟨i,_,rfl⟩:=List.mem_map.mp hd;exact gX<|aa t' 1 rfl
 ·rw[bu,bu];rfl
def iI{i:Nat}{α:Type}{xs:List α}{x:α}(h:xs[i]?=some x):xs.take (i+1)=xs.take i++[x]:=by rw[List.take_add_one,h];rfl
def Bl(s:Int)(xs:be):Int:=xs.foldl (λs x=>(s*69621+x)%2147483647) s
def t7(ns:be)(j:Int):Int:=if j<ns.length then ns.getD j.toNat 0 else Bl (48271*(j*j+7*j+11)%2147483647)<|fX ns none<|some 3
def sL(ds:aU)(d:D):Prop:=∃(ns:be)(j:Int),ds=[.Zf ns,.int j]/\0<=j/\j<1000/\d=.int (t7 ns j)
def B8:∀ds d,sL ds d->ds.length=2:=by rintro _ _ ⟨a,b,rfl,_⟩;rfl
def S3(s0:Int):Nat->Int|0=>s0|i+1=>(S3 s0 i*(S3 s0 i%65521+40487)+7*(i:Int)+5)%1999999973
def Su(d0:Int):Nat->Int|0=>d0|i+1=>Su d0 i / 1000000
def RV(s0 d0:Int)(i:Nat):Int:=if Su d0 i>0 then Su d0 i%1000000 else S3 s0<|i+1
def uT(c:Int):Int:=(c%1999999973+31)*765432101%1999999973
def tD(c:Int):Int:=if c<0\/c≥10 ^ 18 then c.natAbs else 0
def jZ(c:Int)(n:Nat):be:=(List.range n).map<|RV (uT c)<|tD c
def sY(c:Int)(n:Nat):(jZ c n).length=n:=by simp[jZ]
def jg(ds:aU)(d:D):Prop:=∃(c:Int)(n:Nat),ds=[.int c,.int n]/\n<1000/\d=dJ (jZ c n)
def xa:∀ds d,jg ds d->ds.length=2:=by rintro _ _ ⟨a,b,rfl,_⟩;rfl
def lz{i:Nat}(h:(fv 0 n)[i]?=some d):i<n/\d=.int (i:Int):=by
 unfold fv at h;rw[List.getElem?_map]at h;by_cases hi:i<n;·rw[List.getElem?_range hi]at h;cases h;exact⟨hi,by show D.int (0+(i:Int))=_;rw[iH]⟩
 ·rw[List.getElem?_eq_none<|by simpa using hi]at h;cases h
def GH(h:DefX P w K mg base k sk (ah mG) X)(XD:mg "len"=none):Go X sk mG sL:=by
 rintro ds d ⟨ns,j,rfl,h0,h1,rfl⟩;have t:=h.at';haveI:=h.X1;have bl:=h.bt XD;show Xt X [.val<|.Zf ns,.val<|.int j,.un,.un] _ _;by_cases hj:j<ns.length
 ·refine ei<|dj (Xu.eq (fy (aa t 1)<|c7 t bl<|Xs.qs<|aa t 0) ?_)<|aq<|aW<|bU (Xs.qs<|aa t 0) (aa t 1) ?_;·rw[ae];exact aF hj
  ·have hn:j.toNat<ns.length:=by lia
   rw[zz h0 rfl hn];unfold t7;rw[ar hj,List.getD_eq_getElem?_getD,List.getElem?_eq_getElem hn];rfl
 ·refine au (bw (Xu.eq (fy (aa t 1)<|c7 t bl<|Xs.qs<|aa t 0) ?_) bc) ?_;·rw[ae];exact ao hj
  refine au (df t 2<|bS (mU ai (cu (cu (mU (aa t 1) (aa t 1)<|rq (by lia)<|by lia)<|mU ai (aa t 1)<|rq (by decide)<|by decide) ai)<|rq (by decide)<|by decide) ai<|by decide) ?_;refine au (ρ':=[.val<|.Zf ns,.val<|.int j,.val<|.int<|t7 ns j,.un]) (fF t (mV<|Xs.eq (XF.Ya<|fu (Xs.qs<|aa t 0) dD<|dG ai)<|by rw[ic]) ?_)<|aq<|aW<|aa t 2;refine XO.XW (λi=>[.val<|.Zf ns,.val<|.int j,.val<|.int<|Bl (48271*(j*j+7*j+11)%2147483647)<|(fX ns none<|some 3).take i,.un]) (λi d hi=>?_) rfl ?_
  ·rw[List.getElem?_map]at hi;cases e:(fX ns none<|some 3)[i]? with
   |none=>rw[e]at hi;cases hi
   |some x=>
    rw[e]at hi;cases hi;refine⟨_,dA t 3,Xt.weak (aq<|df t 2<|bS (cu (mU (aa t 2) ai<|oG (by decide)<|by decide)<|aa t 3) ai<|by decide) ?_⟩;have e2:Bl (48271*(j*j+7*j+11)%2147483647) ((fX ns none<|some 3).take<|i+1)=(Bl (48271*(j*j+7*j+11)%2147483647) ((fX ns none<|some 3).take i)*69621+x)%2147483647:=by rw[iI e];unfold Bl;rw[gu];rfl
    rw[e2];exact .keep<|.keep<|.keep<|.forget .nil
  ·rw[ae,a7];unfold t7;rw[ak hj]
def Br(h:DefX P w K mg base k l5 (ah iV) X)(XJ:mg "range"=none)(zBR:mg "abs"=none)(Zi:mg "int"=none):Go X l5 iV jg:=by
 rintro ds d ⟨c,n,rfl,hn,rfl⟩;have t:=h.at';haveI:=h.X1;have b1:=h.bt XJ;have b2:=h.bt zBR;have b3:=h.bt Zi;show Xt X [.val<|.int c,.val<|.int n,.un,.un,.un,.un] _ _;refine au (gV t 2<|bI ag) ?_;refine au (df t 3<|bS (mU (cu (bS (aa t 0) ai<|by decide) ai) ai<|oG (by decide)<|by decide) ai<|by decide) ?_;refine au (df t 4 ai) ?_;refine au (ρ':=[.val<|.int c,.val<|.int n,.own [],.val<|.int<|uT c,.val<|.int<|tD c,.un]) ?_ ?_
 ·by_cases h1:c<0
  ·refine dj (YB.toT<|pJ<|Xu.eq (fy (aa t 0) ai)<|aF h1)<|Xt.eq (aq<|df t 4<|HM t b2<|aa t 0) ?_;have e:tD c=(c.natAbs:Int):=by unfold tD;rw[ar<|.inl h1]
   rw[e];rfl
  ·by_cases h2:c≥10 ^ 18
   ·refine dj (YB.toT<|fU (Xu.eq (fy (aa t 0) ai)<|ao h1)<|lT<|Xu.eq (Qw (aa t 0)<|MN ai ai ⟨by decide,by decide,by decide⟩)<|aF h2)<|Xt.eq (aq<|df t 4<|HM t b2<|aa t 0) ?_;have e:tD c=(c.natAbs:Int):=by unfold tD;rw[ar<|.inr h2]
    rw[e];rfl
   ·refine bw (YB.toT<|fU (Xu.eq (fy (aa t 0) ai)<|ao h1)<|lT<|Xu.eq (Qw (aa t 0)<|MN ai ai ⟨by decide,by decide,by decide⟩)<|ao h2)<|Xt.eq bc ?_;have e:tD c=0:=by unfold tD;rw[ak<|by rintro(z |z);exact h1 z;exact h2 z]
    rw[e];rfl
 refine au (fF t (fz t b1 (aa t 1) (by lia)<|by lia)<|XO.XW (ρ':=[.val<|.int c,.val<|.int n,.own<|(jZ c n).map D.int,.val<|.int<|S3 (uT c) n,.val<|.int<|Su (tD c) n,.un]) (λi=>[.val<|.int c,.val<|.int n,.own<|(jZ c i).map D.int,.val<|.int<|S3 (uT c) i,.val<|.int<|Su (tD c) i,.un]) (λi d hi=>?_) rfl ?_)<|fQ 2 rfl<|aq<|aW<|aa t 2
 ·obtain⟨hin,rfl⟩:=lz hi;have hi':i<n:=by simpa using hin
  refine⟨_,dA t 5,Xt.weak (au (df t 3<|bS (cu (cu (mU (aa t 3) (cu (bS (aa t 3) ai<|by decide) ai)<|oG (by lia)<|by lia)<|mU ai (aa t 5)<|rq (by decide)<|by decide) ai) ai<|by decide)<|au (dI t 2 rfl (d:=.int<|RV (uT c) (tD c) i) (bU (XF.toQ<|bI<|ab (aa t 3)<|ab (bS (aa t 4) ai<|by decide) ag) (Ju t b3<|MT (aa t 4) ai) ?_) ?_)<|aq<|df t 4<|pL t (aa t 4) ai<|by decide) ?_⟩
  ·by_cases hd:0<Su (tD c) i
   ·have e:RV (uT c) (tD c) i=Su (tD c) i%1000000:=by unfold RV;rw[ar hd]
    rw[e,aF hd];rfl
   ·have e:RV (uT c) (tD c) i=S3 (uT c) (i+1):=by unfold RV;rw[ak hd]
    rw[e,ao hd];rfl
  ·rw[ae,sY];exact uR<|by lia
  ·have e:jZ c (i+1)=jZ c i++[RV (uT c) (tD c) i]:=by unfold jZ;rw[gj,aA];rfl
   rw[e,aA];exact .keep<|.keep<|.keep<|.keep<|.keep<|.forget .nil
 ·have e:(fv 0 (n:Int).toNat).length=n:=by simp[fv]
  rw[e]
def eV(xs:be):be:=(xs.reverse.dropWhile (·==0)).reverse
def lr(xs:be):eV (xs++[0])=eV xs:=by simp[eV]
def sP{a:Int}(xs:be)(h:a≠0):eV (xs++[a])=xs++[a]:=by simp[eV,h]
def qO(xs:be):(eV xs).length<=xs.length:=by unfold eV;rw[dv];have:=(BH (l:=xs.reverse) (p:=λx=>x==0)).length_le;rw[dv]at this;exact this
def N3(xs:be):eV xs=[]\/∃ys a,eV xs=ys++[a]/\a≠0:=by
 induction h:xs.length generalizing xs with
 |zero=>left;rw[aT h];rfl
 |succ n ih=>
  rcases bV xs with e |⟨ys,y,e⟩;·subst e;left;rfl
  ·rw[cG]at e;subst e;by_cases hy:y=0;·subst hy;rw[lr];exact ih ys<|by simpa using h
   ·right;exact⟨ys,y,sP ys hy,hy⟩
def JW(R:be->cJ)(h1:Xu X (R []) c false)(h2:∀ys a,(ys++[a]).length<1000->Xu X (R<|ys++[a]) c (decide<|a=0))(h3:∀ys a,Xt X (R<|ys++[a]) body<|.nx<|R ys):∀(n:Nat)(ys:be),ys.length=n->ys.length<1000->∃m,Zm X c body m (R ys) (.nx<|R<|eV ys):=by
 intro n;induction n with
 |zero=>intro ys h _;rw[aT h];exact⟨0,.stop h1⟩
 |succ n ih=>
  intro ys h hl;rcases bV ys with e |⟨zs,a,e⟩;·subst e;exact⟨0,.stop h1⟩
  ·rw[cG]at e;subst e;by_cases ha:a=0
   ·subst ha;rw[lr];have hz:zs.length=n:=by simpa using h
    obtain⟨m,q⟩:=ih zs hz (by lia);exact⟨m+1,.step (Xu.eq (h2 zs 0 hl) rfl) (h3 zs 0) q⟩
   ·rw[sP zs ha];exact⟨0,.stop<|Xu.eq (h2 zs a hl)<|ao ha⟩
def sJ(ds:aU)(d:D):Prop:=∃xs:be,ds=[dJ xs]/\xs.length<1000/\d=bh (eV xs)
def B6:∀ds d,sJ ds d->ds.length=1:=by rintro _ _ ⟨a,rfl,_⟩;rfl
def zh(f g:be)(i:Nat)(acc:be):Nat->be|0=>acc|j+1=>(zh f g i acc j).set (i+j)<|(zh f g i acc j).getD (i+j) 0+f.getD i 0*g.getD j 0
def ul(f g:be):Nat->be|0=>List.replicate (f.length+g.length) 0|i+1=>zh f g i (ul f g i) g.length
def s8(f g:be)(i:Nat)(acc:be):∀j,(zh f g i acc j).length=acc.length|0=>rfl|j+1=>by rw[zh,bx,s8]
def AH(f g:be):∀i,(ul f g i).length=f.length+g.length|0=>by rw[ul,fL]|i+1=>by rw[ul,s8,AH]
def iO(f g:be):be:=eV<|ul f g f.length
def Ac(f g:be):(iO f g).length<=f.length+g.length:=by have:=qO<|ul f g f.length;rw[AH]at this;exact this
def zj{xs:be}{j:Nat}(h:j<xs.length):xs.getD j 0=xs[j]:=by rw[List.getD_eq_getElem?_getD,List.getElem?_eq_getElem h];rfl
def kj{xs:be}{n:Nat}(h:n<xs.length):qL (xs.map D.int) (n:Int)=some (.int<|xs.getD n 0):=by rw[zz (by lia) (dw n) h,zj h]
def GF(h:DefX P w K mg base k si (ah mD) X)(Y8:mg "list"=none)(Xy:mg "tuple"=none)(XD:mg "len"=none):Go X si mD sJ:=by
 rintro ds d ⟨xs,rfl,hl,rfl⟩;have t:=h.at';haveI:=h.X1;have b1:=h.bt Y8;have b2:=h.bt Xy;have b3:=h.bt XD;show Xt X [.val<|dJ xs,.un] _ _;refine au (gV t 1<|Et t b1<|Xs.ql<|aa t 0) ?_;refine au (vf t<|JW (λys=>[.val<|dJ xs,.own<|ys.map D.int]) ?_ (λys a hy=>?_) (λys a=>?_) _ xs rfl hl)<|aq<|aW<|fw t b2<|dL t 1 rfl;·exact YB.toT<|wm<|kh t (Y4.p<|dL t 1 rfl) (Xs.p<|XF.Ya<|bI ag) (iw []) (iw [])<|by have:=Er [] [];exact aY not this
 ·refine YB.toT<|wl (kh t (Y4.p<|dL t 1 rfl) (Xs.p<|XF.Ya<|bI ag) (iw<|ys++[a]) (iw [])<|by have:=Er (ys++[a]) [];rw[ao<|by simp]at this;exact aY not this)<|wn<|bZ (bU (d:=.int a) (dL t 1 rfl) (fV (c7 t b3<|dL t 1 rfl) ai) ?_) ai;rw[ae,zz (n:=ys.length) (by simp) (by simp)<|by simp];simp
 ·refine Xt.eq (aq<|Qc t 1 rfl<|by simp) ?_;rw[aA];have e:(ys.map D.int++[a].map D.int).dropLast=ys.map D.int:=by simp
  rw[e];rfl
def Yo(f:be):Prop:=f=[]\/∃ys a,f=ys++[a]/\a≠0
def Lp(xs:be):xs.take (eV xs).length=eV xs:=by
 induction h:xs.length generalizing xs with
 |zero=>rw[aT h];rfl
 |succ n ih=>
  rcases bV xs with e |⟨ys,y,e⟩;·subst e;rfl
  ·rw[cG]at e;subst e;by_cases hy:y=0;·subst hy;rw[lr];have q:=ih ys (by simpa using h);have l:=qO ys;rw[NV l];exact q
   ·rw[sP ys hy,a7]
def Gg(R:Nat->cJ)(xs:be)(h1:Xu X (R 0) c false)(h2:∀m(h:m<xs.length),Xu X (R<|m+1) c<|decide<|xs[m]=0)(h3:∀m,Xt X (R<|m+1) body<|.nx<|R m):∀m,m<=xs.length->∃n,Zm X c body n (R m) (.nx<|R (eV<|xs.take m).length)
 |0,_=>⟨0,.stop h1⟩
 |m+1,hm=>by
  have X3:m<xs.length:=hm;have e:xs.take (m+1)=xs.take m++[xs[m]]:=iI<|List.getElem?_eq_getElem X3;by_cases hz:xs[m]=0;·obtain⟨n,q⟩:=Gg R xs h1 h2 h3 m (by lia);refine⟨n+1,.step (Xu.eq (h2 m X3)<|aF hz) (h3 m) ?_⟩;rw[e,hz,lr];exact q
  ·refine⟨0,?_⟩;rw[e,sP _ hz];have el:(xs.take m++[xs[m]]).length=m+1:=by rw[<-e,bC];lia
   rw[el];exact .stop<|Xu.eq (h2 m X3)<|ao hz
def sv(ds:aU)(d:D):Prop:=∃xs:be,ds=[dJ xs]/\xs.length<1000/\d=bh (eV xs)
def HC:∀ds d,sv ds d->ds.length=1:=by rintro _ _ ⟨a,rfl,_⟩;rfl
def rg(f g:be):be:=eV ((List.range<|max f.length g.length).map λi=>f.getD i 0+g.getD i 0)
def qg(ds:aU)(d:D):Prop:=∃f g:be,ds=[bh f,bh g]/\f.length<1000/\g.length<1000/\d=bh (rg f g)
def D9:∀ds d,qg ds d->ds.length=2:=by rintro _ _ ⟨a,b,rfl,_⟩;rfl
def rk(f g:be):Nat->be|0=>List.replicate (f.length+g.length-1) 0|i+1=>zh f g i (rk f g i) g.length
def v6(f g:be):∀i,(rk f g i).length=f.length+g.length-1|0=>by rw[rk,fL]|i+1=>by rw[rk,s8,v6]
def FU(f g:be)(i:Nat)(acc:be)(z:Int):∀j,i+j<=acc.length->zh f g i (acc++[z]) j=zh f g i acc j++[z]
 |0,_=>rfl
 |j+1,h=>by
  have ih:=FU f g i acc z j (by lia);have hl:i+j<(zh f g i acc j).length:=by rw[s8];lia
  rw[zh,zh,ih,List.set_append_left _ _ hl];have e:(zh f g i acc j++[z]).getD (i+j) 0=(zh f g i acc j).getD (i+j) 0:=by rw[List.getD_eq_getElem?_getD,List.getD_eq_getElem?_getD,List.getElem?_append_left hl]
  rw[e]
def C6(f g:be)(hf:f≠[])(hg:g≠[]):∀i,i<=f.length->ul f g i=rk f g i++[0]|0,_=>by have h1:=List.length_pos_iff.mpr hf;rw[ul,rk,show f.length+g.length=(f.length+g.length-1)+1 by lia,Xe];rfl|i+1,h=>by have h1:=List.length_pos_iff.mpr hf;rw[ul,rk,C6 f g hf hg i<|by lia,FU];rw[v6];lia
def G6{f g:be}(hf:f≠[])(hg:g≠[]):eV (rk f g f.length)=iO f g:=by unfold iO;rw[C6 f g hf hg _<|aj _,lr]
def wQ:∀n,eV (List.replicate n (0:Int))=[]|0=>rfl|n+1=>by rw[Xe,lr,wQ]
def JZ(g:be):iO [] g=[]:=by unfold iO;rw[cZ,ul];exact wQ _
def FE(f:be):∀i,ul f [] i=List.replicate f.length 0|0=>rfl|i+1=>by rw[ul,cZ,zh,FE]
def G7(f:be):iO f []=[]:=by unfold iO;rw[FE];exact wQ _
def su(ds:aU)(d:D):Prop:=∃f g:be,ds=[bh f,bh g]/\f.length<100/\g.length<100/\(∀y∈g,-(2 ^ 63)<y/\y<2 ^ 63)/\d=bh (iO f g)
def BU:∀ds d,su ds d->ds.length=2:=by rintro _ _ ⟨a,b,rfl,_⟩;rfl
def Gv(h:DefX P w K mg base k rR (ah jU) X)(YW:mg "enumerate"=none)(XD:mg "len"=none)(c1:Callee X "row_of" sv):Go X rR jU su:=by
 rintro ds d ⟨f,g,rfl,hf,hg,hb,rfl⟩;have t:=h.at';haveI:=h.X1;have b1:pd X (ah jU) "enumerate" (.type "enumerate"):=EG (by rw[h.YQ];exact YW) rfl (by decide);have b2:=h.bt XD;show Xt X [.val<|bh f,.val<|bh g,.un,.un,.un,.un,.un] _ _;by_cases h1:f=[];·refine ei<|dj (YB.toT<|pJ<|iD t (Xs.p<|aa t 0) (Xs.p (d:=bh [])<|aG ag) (bz _) (bz _)<|by rw[io,h1];rfl)<|aq<|aW<|Xs.eq (d:=.tup []) (aG ag) ?_;rw[h1,JZ];rfl
 by_cases h2:g=[];·refine ei<|dj (YB.toT<|fU (iD t (Xs.p<|aa t 0) (Xs.p (d:=bh [])<|aG ag) (bz _) (bz _)<|by rw[io,ao h1])<|lT<|iD t (Xs.p<|aa t 1) (Xs.p (d:=bh [])<|aG ag) (bz _) (bz _)<|by rw[io,h2];rfl)<|aq<|aW<|Xs.eq (d:=.tup []) (aG ag) ?_;rw[h2,G7];rfl
 have lf:=List.length_pos_iff.mpr h1;have lg:=List.length_pos_iff.mpr h2;refine au (bw (YB.toT<|fU (iD t (Xs.p<|aa t 0) (Xs.p (d:=bh [])<|aG ag) (bz _) (bz _)<|by rw[io,ao h1])<|lT<|iD t (Xs.p<|aa t 1) (Xs.p (d:=bh [])<|aG ag) (bz _) (bz _)<|by rw[io,ao h2]) bc) ?_;have en:((f.length:Int)+g.length-1).toNat=f.length+g.length-1:=by lia
 refine au (gV (xs:=(rk f g 0).map D.int) t 2<|XF.eq (M1 (n:=(f.length:Int)+g.length-1) (XF.Ya<|bI<|ab ai ag) (Xs.eq (fV (cu (c7 t b2<|Xs.qt<|aa t 0)<|c7 t b2<|Xs.qt<|aa t 1) ai)<|by rw[ae,ae]) (by lia) (by lia)<|by rw[en];have:=tY;simp;lia)<|by rw[en,LR];rfl) ?_;refine au (ρ':=[.val<|bh f,.val<|bh g,.own<|(rk f g f.length).map D.int,.un,.un,.un,.un]) (fF t (zw t b1<|aa t 0)<|XO.XW (λi=>[.val<|bh f,.val<|bh g,.own<|(rk f g i).map D.int,.un,.un,.un,.un]) (λi d hi=>?_) rfl ?_) ?_
 ·obtain⟨e,he,rfl⟩:=oO hi;rw[List.getElem?_map]at he;cases hx:f[i]? with
  |none=>rw[hx]at he;cases he
  |some x=>
  rw[hx]at he;cases he;have hi':i<f.length:=(List.getElem?_eq_some_iff.mp hx).1;have ex:f.getD i 0=x:=by rw[List.getD_eq_getElem?_getD,hx];rfl
  refine⟨_,gN t 3 4,Xt.weak (ρ1:=[.val<|bh f,.val<|bh g,.own<|(rk f g<|i+1).map D.int,.val<|.int i,.val<|.int x,.un,.un]) (aq<|fF t (zw t b1<|aa t 1)<|XO.XW (λj=>[.val<|bh f,.val<|bh g,.own<|(zh f g i (rk f g i) j).map D.int,.val<|.int i,.val<|.int x,.un,.un]) (λj d hj=>?_) rfl ?_)<|.keep<|.keep<|.keep<|.forget<|.forget<|.keep<|.keep .nil⟩
  ·obtain⟨e,he,rfl⟩:=oO hj;rw[List.getElem?_map]at he;cases hy:g[j]? with
   |none=>rw[hy]at he;cases he
   |some y=>
   rw[hy]at he;cases he;have hj':j<g.length:=(List.getElem?_eq_some_iff.mp hy).1;have ey:g.getD j 0=y:=by rw[List.getD_eq_getElem?_getD,hy];rfl
   have hyb:=hb y<|List.mem_of_getElem? hy;have hl:(zh f g i (rk f g i) j).length=f.length+g.length-1:=by rw[s8,v6]
   have X3:i+j<(zh f g i (rk f g i) j).length:=by lia
   refine⟨_,gN t 5 6,Xt.weak (aq<|J7 (j:=i+j) (u:=(zh f g i (rk f g i) j).getD (i+j) 0) t 2 FT rfl (cu (aa t 3)<|aa t 5) ?_ ?_ (mU (aa t 4) (aa t 6)<|oG (by lia)<|by lia) trivial) ?_⟩;·rw[ae];exact A3 (by lia) (by lia)<|by lia
   ·rw[List.getElem?_map,List.getD_eq_getElem?_getD,List.getElem?_eq_getElem X3];rfl
   ·rw[zh,List.map_set,ex,ey];exact .keep<|.keep<|.keep<|.keep<|.keep<|.forget<|.forget .nil
  ·rw[oN,ae];rfl
 ·rw[oN,ae]
 ·refine fQ 2 rfl<|aq<|aW<|Xs.eq (aB t c1 (ab (aa t 2) ag) ⟨rk f g f.length,rfl,by rw[v6];lia,rfl⟩) ?_;rw[G6 h1 h2]
def C2(f g:be):(rg f g).length<=max f.length g.length:=by have:=qO ((List.range<|max f.length g.length).map λi=>f.getD i 0+g.getD i 0);rw[ae,nv]at this;exact this
def oJ{g:be}{i:Nat}(h:g.length<=i):g.getD i 0=0:=by rw[List.getD_eq_getElem?_getD,List.getElem?_eq_none h];rfl
def oh(xs:be)(i:Nat):(eV xs).getD i 0=xs.getD i 0:=by
 have key:∀ys:be,∀i,(ys.dropWhile (·==0)).reverse.getD i 0=ys.reverse.getD i 0:=by
  intro ys;induction ys with
  |nil=>intro i;rfl
  |cons y ys ih=>
   intro i;by_cases hy:y=0
   ·subst hy;have:((0:Int)::ys).dropWhile (·==0)=ys.dropWhile (·==0):=by simp[List.dropWhile]
    rw[this,ih i,jk];rw[List.getD_eq_getElem?_getD,List.getD_eq_getElem?_getD];by_cases hi:i<ys.reverse.length;·rw[List.getElem?_append_left hi]
    ·rw[List.getElem?_append_right<|by lia,List.getElem?_eq_none<|by lia];cases z:i-ys.reverse.length with|zero=>rfl|succ n=>rfl
   ·have:(y::ys).dropWhile (·==0)=y::ys:=by rw[List.dropWhile_cons_of_neg<|by simpa using hy]
    rw[this]
 have:=key xs.reverse i;rw[List.reverse_reverse]at this;exact this
def LN{g:be}(hf:Yo f)(h:∀i,f.getD i 0=g.getD i 0):f.length<=g.length:=by
 rcases hf with e |⟨ys,a,e,ha⟩;·subst e;exact bB _
 ·rcases K0 g.length f.length with z |z;·have h1:=h ys.length;subst e;rw[oJ (g:=g) (i:=ys.length)<|by simp at z;lia]at h1;rw[List.getD_eq_getElem?_getD,List.getElem?_append_right<|aj _,j6]at h1;exact absurd h1 ha
  ·exact z
def Oq(hf:Yo f)(hg:Yo g)(h:∀i,f.getD i 0=g.getD i 0):f=g:=by have h1:=LN hf h;have h2:=LN hg λi=>(h i).symm;refine List.ext_getElem (by lia) λi h3 h4=>?_;have:=h i;rw[zj h3,zj h4]at this;exact this
def G1(xs:be):Yo (eV xs):=N3 xs
def Mo{φ:Int->Int}(h0:φ 0=0)(f:be)(i:Nat):(f.map φ).getD i 0=φ (f.getD i 0):=by rw[List.getD_eq_getElem?_getD,List.getElem?_map,List.getD_eq_getElem?_getD];cases f[i]? with|none=>exact h0.symm|some x=>rfl
def dZ:Nat->(Nat->Int)->Int|0,_=>0|n+1,h=>dZ n h+h n
def uf(h:Nat->Int):∀n,dZ (n+1) h=h 0+dZ n (λi=>h<|i+1)|0=>by simp[dZ]|n+1=>by rw[dZ,uf h n,dZ];lia
def Ae(h g:Nat->Int):∀n,dZ n (λi=>h i+g i)=dZ n h+dZ n g|0=>rfl|n+1=>by rw[dZ,Ae h g n,dZ,dZ];lia
def dg{h g:Nat->Int}:∀n,(∀i,i<n->h i=g i)->dZ n h=dZ n g|0,_=>rfl|n+1,e=>by rw[dZ,dZ,dg n λi hi=>e i<|by lia,e n<|by lia]
def lv:∀n,dZ n (λ_=>0)=0|0=>rfl|n+1=>by rw[dZ,lv n];rfl
def rs:be->(Nat->Int)->Int|[],_=>0|a::f,ψ=>a*ψ 0+rs f (λi=>ψ<|i+1)
def iy:∀(f:be)(n:Nat)(ψ:Nat->Int),f.length<=n->rs f ψ=dZ n (λi=>f.getD i 0*ψ i)
 |[],n,ψ,_=>by exact((dg (g:=λ_=>0) n λi _=>by simp).trans<|lv n).symm|a::f,0,ψ,h=>by simp at h
 |a::f,n+1,ψ,h=>by rw[rs,uf,iy f n _<|by simpa using h];rfl
def LL:∀(f:be)(i:Nat),rs f (λj=>if j=i then 1 else 0)=f.getD i 0
 |[],i=>by simp[rs]
 |a::f,0=>by
  have e:rs f (λj=>if j+1=0 then 1 else 0)=0:=by have:(λj:Nat=>if j+1=0 then(1:Int)else 0)=λ_=>0:=funext λj=>ak (by lia);rw[this,iy f f.length _<|aj _];exact(dg (g:=λ_=>0) _ λi _=>by simp).trans<|lv _
  rw[rs,e];simp
 |a::f,i+1=>by
  have e:(λj:Nat=>if j+1=i+1 then(1:Int)else 0)=λj=>if j=i then 1 else 0:=funext λj=>by
   by_cases h:j=i;·rw[ar h,ar<|by lia]
   ·rw[ak h,ak<|by lia]
  rw[rs,e,LL f i];simp
def LM{f g:be}(h:∀i,f.getD i 0=g.getD i 0)(ψ:Nat->Int):rs f ψ=rs g ψ:=by rw[iy f (max f.length g.length) ψ<|by lia,iy g (max f.length g.length) ψ<|by lia];exact dg _ λi _=>by rw[h i]
def DQ(ψ:Nat->Int)(h:∀i,ψ i=0)(f:be):rs f ψ=0:=by rw[iy f f.length ψ<|aj _];exact(dg (g:=λ_=>0) _ λi _=>by rw[h i];simp).trans<|lv _
def LJ:∀(f:be)(m:Nat)(v:Int)(ψ:Nat->Int),m<f.length->rs (f.set m v) ψ=rs f ψ+(v-f.getD m 0)*ψ m
 |[],m,v,ψ,h=>by simp at h|a::f,0,v,ψ,_=>by show v*ψ 0+_=a*ψ 0+_+(v-a)*ψ 0;rw[Int.sub_mul];lia
 |a::f,m+1,v,ψ,h=>by show a*ψ 0+rs (f.set m v) _=a*ψ 0+rs f _+(v-f.getD m 0)*ψ (m+1);rw[LJ f m v _<|by simpa using h];lia
def Op(ψ χ:Nat->Int):∀(f:be),rs f (λi=>ψ i+χ i)=rs f ψ+rs f χ:=λf=>by rw[iy f f.length _<|aj _,iy f f.length _<|aj _,iy f f.length _<|aj _,<-Ae];exact dg _ λi _=>by rw[Xh]
abbrev Bd:=List be
def eT(b:Bd)(i k:Nat):Int:=(b.getD k []).getD i 0
def bs:Bd->(Nat->Nat->Int)->Int|[],_=>0|r::b,φ=>rs r (λi=>φ i 0)+bs b (λi k=>φ i<|k+1)
def wv(i k:Nat):Nat->Nat->Int:=λa c=>if a=i/\c=k then 1 else 0
def ED:∀(b:Bd)(φ:Nat->Nat->Int),(∀i k,φ i k=0)->bs b φ=0|[],_,_=>rfl|r::b,φ,h=>by rw[bs,DQ _ λi=>h i 0,ED b _ λi k=>h i<|k+1];rfl
def HY:∀(b:Bd)(i k:Nat),bs b (wv i k)=eT b i k
 |[],i,k=>by simp[bs,eT]
 |r::b,i,0=>by
  rw[bs,ED b (λa c=>wv i 0 a<|c+1) λa c=>ak<|by lia];have e:(λa:Nat=>wv i 0 a 0)=λa=>if a=i then 1 else 0:=funext λa=>by
   unfold wv;by_cases h:a=i;·rw[ar ⟨h,rfl⟩,ar h]
   ·rw[ak λz=>h z.1,ak h]
  rw[e,LL];simp[eT]
 |r::b,i,k+1=>by
  have e:rs r (λa=>wv i (k+1) a 0)=0:=DQ _ (λa=>ak<|by lia) r;have e2:(λa c:Nat=>wv i (k+1) a<|c+1)=wv i k:=funext λa=>funext λc=>by
   unfold wv;by_cases h:a=i/\c=k;·rw[ar h,ar ⟨h.1,by lia⟩]
   ·rw[ak h,ak λz=>h ⟨z.1,by lia⟩]
  rw[bs,e,e2,HY b i k];simp[eT]
def Nh:∀(b:Bd)(m:Nat)(r:be)(φ:Nat->Nat->Int),m<b.length->bs (b.set m r) φ=bs b φ+(rs r (λi=>φ i m)-rs (b.getD m []) (λi=>φ i m))
 |[],m,r,φ,h=>by simp at h|a::b,0,r,φ,_=>by show rs r _+_=rs a _+_+(rs r _-rs a _);lia
 |a::b,m+1,r,φ,h=>by show rs a _+bs (b.set m r) _=rs a _+bs b _+(rs r _-rs (b.getD m []) _);rw[Nh b m r _<|by simpa using h];lia
def Ni{φ χ:Nat->Nat->Int}:∀(b:Bd),(∀i k,φ i k=χ i k)->bs b φ=bs b χ:=λb h=>by rw[show φ=χ from funext λi=>funext λk=>h i k]
def ut:∀(b:Bd)(n:Nat)(φ:Nat->Nat->Int),b.length<=n->bs b φ=dZ n (λk=>rs (b.getD k []) λi=>φ i k)
 |[],n,φ,_=>by exact((dg (g:=λ_=>0) n λi _=>by simp[rs]).trans<|lv n).symm|r::b,0,φ,h=>by simp at h
 |r::b,n+1,φ,h=>by rw[bs,uf,ut b n _<|by simpa using h];rfl
abbrev ay(b:Bd):D:=.tup<|b.map bh
abbrev As(b:Bd):D:=.lst<|b.map bh
def fN(xs:Bd):Bd:=(xs.reverse.dropWhile (·==[])).reverse
def lE(xs:Bd):fN (xs++[[]])=fN xs:=by simp[fN]
def lF{a:be}(xs:Bd)(h:a≠[]):fN (xs++[a])=xs++[a]:=by simp[fN,h]
def sQ(xs:Bd):(fN xs).length<=xs.length:=by unfold fN;rw[dv];have:=(BH (l:=xs.reverse) (p:=λx=>x==[])).length_le;rw[dv]at this;exact this
def JX(xs:Bd):xs.take (fN xs).length=fN xs:=by
 induction h:xs.length generalizing xs with
 |zero=>rw[aT h];rfl
 |succ n ih=>
  rcases bV xs with e |⟨ys,y,e⟩;·subst e;rfl
  ·rw[cG]at e;subst e;by_cases hy:y=[];·subst hy;rw[lE];have q:=ih ys (by simpa using h);have l:=sQ ys;rw[NV l];exact q
   ·rw[lF ys hy,a7]
def Lq(xs:Bd):fN xs=[]\/∃ys a,fN xs=ys++[a]/\a≠[]:=by
 induction h:xs.length generalizing xs with
 |zero=>left;rw[aT h];rfl
 |succ n ih=>
  rcases bV xs with e |⟨ys,y,e⟩;·subst e;left;rfl
  ·rw[cG]at e;subst e;by_cases hy:y=[];·subst hy;rw[lE];exact ih ys<|by simpa using h
   ·right;exact⟨ys,y,lF ys hy,hy⟩
def Cb(ys:Bd)(i:Nat):(ys++[[]]).getD i []=ys.getD i []:=by
 rw[List.getD_eq_getElem?_getD,List.getD_eq_getElem?_getD];by_cases h:i<ys.length;·rw[List.getElem?_append_left h]
 ·rw[List.getElem?_append_right<|by lia,List.getElem?_eq_none (show ys.length<=i by lia)];cases(i-ys.length)with|zero=>rfl|succ n=>rfl
def ud(xs:Bd)(i:Nat):(fN xs).getD i []=xs.getD i []:=by
 induction h:xs.length generalizing xs with
 |zero=>rw[aT h];rfl
 |succ n ih=>
  rcases bV xs with e |⟨ys,y,e⟩;·subst e;rfl
  ·rw[cG]at e;subst e;by_cases hy:y=[];·subst hy;rw[lE,ih ys<|by simpa using h,Cb]
   ·rw[lF ys hy]
def Da{x:be}(h:x∈fN xs):x∈xs:=by unfold fN at h;rw[gY]at h;have:=(BH (l:=xs.reverse) (p:=λx=>x==[])).subset h;exact gY.mp this
def Dn(R:Nat->cJ)(xs:Bd)(h1:Xu X (R 0) c false)(h2:∀m(h:m<xs.length),Xu X (R<|m+1) c<|decide<|xs[m]=[])(h3:∀m,Xt X (R<|m+1) body<|.nx<|R m):∀m,m<=xs.length->∃n,Zm X c body n (R m) (.nx<|R (fN<|xs.take m).length)
 |0,_=>⟨0,.stop h1⟩
 |m+1,hm=>by
  have X3:m<xs.length:=hm;have e:xs.take (m+1)=xs.take m++[xs[m]]:=iI<|List.getElem?_eq_getElem X3;by_cases hz:xs[m]=[];·obtain⟨n,q⟩:=Dn R xs h1 h2 h3 m (by lia);refine⟨n+1,.step (Xu.eq (h2 m X3)<|aF hz) (h3 m) ?_⟩;rw[e,hz,lE];exact q
  ·refine⟨0,?_⟩;rw[e,lF _ hz];have el:(xs.take m++[xs[m]]).length=m+1:=by rw[<-e,bC];lia
   rw[el];exact .stop<|Xu.eq (h2 m X3)<|ao hz
def xp{i:Int}{n:Nat}{α:Type}{g:α->D}{xs:List α}(h0:0<=i)(hn:i.toNat=n)(h:n<xs.length):qL (xs.map g) i=some (g xs[n]):=by
 rw[show i=((n:Nat):Int)by lia];have e:(xs.map g)[n]?=some (g xs[n]):=by rw[List.getElem?_map,List.getElem?_eq_getElem h];rfl
 exact jN e
def Gf{m:Nat}{α:Type}(xs:List α)(g:α->D)(h:m<=xs.length):cutD (xs.map g) none (some (m:Int))=(xs.take m).map g:=by
 unfold cutD;rw[ae];have e1:HT.XS xs.length 0 none=0:=by simp[HT.XS]
 have e2:HT.XS xs.length xs.length (some (m:Int))=m:=by simp only[HT.XS];split<;>lia
 rw[e1,e2,EY,Nat.sub_zero,UY]
def jO(ds:aU)(d:D):Prop:=(∃xs:be,ds=[dJ xs,.int 0]/\xs.length<1000/\d=bh (eV xs))\/∃xs:Bd,ds=[As xs,.tup []]/\xs.length<1000/\d=ay (fN xs)
def x9:∀ds d,jO ds d->ds.length=2:=by rintro _ _ (⟨a,rfl,_⟩ |⟨a,rfl,_⟩)<;>rfl
def oV(ds:aU)(d:D):Prop:=(∃(f:be)(i:Nat),ds=[bh f,.int i,.int 0]/\d=.int (f.getD i 0))\/∃(f:Bd)(i:Nat),ds=[ay f,.int i,.tup []]/\d=bh (f.getD i [])
def FO:∀ds d,oV ds d->ds.length=3:=by rintro _ _ (⟨a,b,rfl,_⟩ |⟨a,b,rfl,_⟩)<;>rfl
def qp(ds:aU)(d:D):Prop:=∃xs:Bd,ds=[As xs]/\xs.length<1000/\d=ay (fN xs)
def Ee:∀ds d,qp ds d->ds.length=1:=by rintro _ _ ⟨a,rfl,_⟩;rfl
def mJ(f g:Bd):Bd:=fN ((List.range<|max f.length g.length).map λk=>rg (f.getD k [])<|g.getD k [])
def Yy(n:Nat)(f:Bd):Prop:=f.length<n/\∀r∈f,r.length<n
def lc(ds:aU)(d:D):Prop:=∃f g:Bd,ds=[ay f,ay g]/\Yy 1000 f/\Yy 1000 g/\d=ay (mJ f g)
def AV:∀ds d,lc ds d->ds.length=2:=by rintro _ _ ⟨a,b,rfl,_⟩;rfl
def v9(g:Bd):Bd:=g.map λr=>r.map λx=>-x
def jR(ds:aU)(d:D):Prop:=∃f g:Bd,ds=[ay f,ay g]/\Yy 1000 f/\Yy 1000 g/\d=ay (mJ f<|v9 g)
def yj:∀ds d,jR ds d->ds.length=2:=by rintro _ _ ⟨a,b,rfl,_⟩;rfl
def lQ(f g:Bd)(j:Nat)(acc:Bd):Nat->Bd|0=>acc|k+1=>(lQ f g j acc k).set (j+k)<|rg ((lQ f g j acc k).getD (j+k) [])<|iO (f.getD j [])<|g.getD k []
def k8(f g:Bd):Nat->Bd|0=>List.replicate (f.length+g.length-1) []|j+1=>lQ f g j (k8 f g j) g.length
def wk(f g:Bd)(j:Nat)(acc:Bd):∀k,(lQ f g j acc k).length=acc.length|0=>rfl|k+1=>by rw[lQ,bx,wk f g j acc k]
def v7(f g:Bd):∀j,(k8 f g j).length=f.length+g.length-1|0=>fL|j+1=>by rw[k8,wk,v7 f g j]
def kb(f g:Bd):Bd:=if f=[]\/g=[]then []else fN<|k8 f g f.length
def rJ{xs:Bd}(i:Nat):xs.getD i []=[]\/xs.getD i []∈xs:=by
 rw[List.getD_eq_getElem?_getD];by_cases h:i<xs.length;·right;rw[List.getElem?_eq_getElem h];exact y3 _
 ·left;rw[List.getElem?_eq_none<|by lia];rfl
def Yy.get(h:Yy n f)(h0:0<n)(i:Nat):(f.getD i []).length<n:=by
 rcases rJ (xs:=f) i with e |e;·rw[e];exact h0
 ·exact h.2 _ e
def zg{acc:Bd}(hf:Yy 100 f)(hg:Yy 100 g)(j:Nat)(ha:∀r∈acc,r.length<200):∀k,∀r∈lQ f g j acc k,r.length<200
 |0,r,hr=>ha r hr
 |k+1,r,hr=>by
  rw[lQ]at hr;rcases Td hr with h |h;·exact zg hf hg j ha k r h
  ·subst h;have h1:=C2 ((lQ f g j acc k).getD (j+k) [])<|iO (f.getD j [])<|g.getD k [];have h2:=Ac (f.getD j [])<|g.getD k [];have h3:=hf.get (by lia) j;have h4:=hg.get (by lia) k;have h5:((lQ f g j acc k).getD (j+k) []).length<200:=by
    rcases rJ (xs:=lQ f g j acc k) (j+k)with e |e;·rw[e];decide
    ·exact zg hf hg j ha k _ e
   lia
def IY(hf:Yy 100 f)(hg:Yy 100 g):∀j,∀r∈k8 f g j,r.length<200|0,r,hr=>by rw[k8]at hr;rw[(List.mem_replicate.mp hr).2];decide|j+1,r,hr=>zg hf hg j (IY hf hg j) g.length r hr
def jQ(ds:aU)(d:D):Prop:=∃f g:Bd,ds=[ay f,ay g]/\Yy 100 f/\Yy 100 g/\(∀r∈g,∀y∈r,-(2 ^ 63)<y/\y<2 ^ 63)/\d=ay (kb f g)
def yi:∀ds d,jQ ds d->ds.length=2:=by rintro _ _ ⟨a,b,rfl,_⟩;rfl
def Co(h:DefX P w K mg base k mX (ah jD) X)(XD:mg "len"=none)(Xy:mg "tuple"=none):Go X mX jD jO:=by
 have t:=h.at';haveI:=h.X1;have b1:=h.bt XD;have b2:=h.bt Xy;rintro ds d (⟨xs,rfl,hl,rfl⟩ |⟨xs,rfl,hl,rfl⟩)
 ·show Xt X [.val<|dJ xs,.val<|.int 0,.un] _ _;refine au (df t 2<|Xs.eq (c7 t b1<|Xs.ql<|aa t 0)<|by rw[ae]) ?_;refine au (vf t<|Gg (λm=>[.val<|dJ xs,.val<|.int 0,.val<|.int (m:Int)]) xs ?_ (λm hm=>?_) (λm=>?_) xs.length<|aj _)<|aq<|aW<|Xs.eq (fw t b2<|XF.toQ<|fu (Xs.ql<|aa t 0) dD<|dG<|aa t 2) ?_;·exact YB.toT<|wm<|Xu.eq (i6 (aa t 2) ai) rfl
  ·refine YB.toT<|wl (Xu.eq (i6 (aa t 2) ai)<|aF<|by lia)<|wn<|bZ (bU (Xs.ql<|aa t 0) (fV (aa t 2) ai) ?_)<|aa t 1;exact zz (by lia) (by lia) hm
  ·refine Xt.eq (aq<|Ft t 2 rfl ai) ?_;have e:((m+1:Nat):Int)-1=(m:Int):=by lia
   show Out.nx [_,_,.val<|.int<|((m+1:Nat):Int)-1]=_;rw[e]
  ·rw[a7,Gf xs D.int<|qO xs,Lp]
 ·show Xt X [.val<|As xs,.val<|.tup [],.un] _ _;refine au (df t 2<|Xs.eq (c7 t b1<|Xs.ql<|aa t 0)<|by rw[ae]) ?_;refine au (vf t<|Dn (λm=>[.val<|As xs,.val<|.tup [],.val<|.int (m:Int)]) xs ?_ (λm hm=>?_) (λm=>?_) xs.length<|aj _)<|aq<|aW<|Xs.eq (fw t b2<|XF.toQ<|fu (Xs.ql<|aa t 0) dD<|dG<|aa t 2) ?_;·exact YB.toT<|wm<|Xu.eq (i6 (aa t 2) ai) rfl
  ·refine YB.toT<|wl (Xu.eq (i6 (aa t 2) ai)<|aF<|by lia)<|wn<|iD t (Xs.p (d:=bh xs[m])<|bU (Xs.ql<|aa t 0) (fV (aa t 2) ai) ?_) (Xs.p (d:=bh [])<|aa t 1) (bz _) (bz _)<|io _ _;exact xp (by lia) (by lia) hm
  ·refine Xt.eq (aq<|Ft t 2 rfl ai) ?_;have e:((m+1:Nat):Int)-1=(m:Int):=by lia
   show Out.nx [_,_,.val<|.int<|((m+1:Nat):Int)-1]=_;rw[e]
  ·rw[a7,Gf xs bh<|sQ xs,JX]
def KJ(h:DefX P w K mg base k xr (ah sR) X)(XD:mg "len"=none):Go X xr sR oV:=by
 have t:=h.at';have b1:=h.bt XD;rintro ds d (⟨f,i,rfl,rfl⟩ |⟨f,i,rfl,rfl⟩)
 ·show Xt X [.val<|bh f,.val<|.int i,.val<|.int 0] _ _;by_cases hi:i<f.length;·exact aq<|aW<|ke (Xu.eq (fy (aa t 1)<|c7 t b1<|Xs.qt<|aa t 0)<|aF<|by rw[ae];lia)<|bU (Xs.qt<|aa t 0) (aa t 1)<|kj hi
  ·refine aq<|aW<|kg (Xu.eq (fy (aa t 1)<|c7 t b1<|Xs.qt<|aa t 0)<|ao<|by rw[ae];lia)<|Xs.eq (aa t 2) ?_;rw[List.getD_eq_getElem?_getD,List.getElem?_eq_none<|by lia];rfl
 ·show Xt X [.val<|ay f,.val<|.int i,.val<|.tup []] _ _;by_cases hi:i<f.length;·refine aq<|aW<|ke (Xu.eq (fy (aa t 1)<|c7 t b1<|Xs.qt<|aa t 0)<|aF<|by rw[ae];lia)<|bU (Xs.qt<|aa t 0) (aa t 1) ?_;rw[xp (g:=bh) (n:=i) (by lia) (by lia) hi,List.getD_eq_getElem?_getD,List.getElem?_eq_getElem hi];rfl
  ·refine aq<|aW<|kg (Xu.eq (fy (aa t 1)<|c7 t b1<|Xs.qt<|aa t 0)<|ao<|by rw[ae];lia)<|Xs.eq (aa t 2) ?_;rw[List.getD_eq_getElem?_getD,List.getElem?_eq_none<|by lia];rfl
def Nk(h:DefX P w K mg base k Bx (ah vi) X)(c1:Callee X "without_end" jO):Go X Bx vi sv:=by rintro ds d ⟨xs,rfl,hl,rfl⟩;have t:=h.at';show Xt X [.val<|dJ xs] _ _;exact aq<|aW<|aB t c1 (ab (aa t 0)<|ab ai ag)<|.inl ⟨xs,rfl,hl,rfl⟩
def Ih(h:DefX P w K mg base k uE (ah pD) X)(c1:Callee X "without_end" jO):Go X uE pD qp:=by rintro ds d ⟨xs,rfl,hl,rfl⟩;have t:=h.at';show Xt X [.val<|As xs] _ _;exact aq<|aW<|aB t c1 (ab (aa t 0)<|ab (aG ag) ag)<|.inr ⟨xs,rfl,hl,rfl⟩
def Ia(h:DefX P w K mg base k uy (ah pi) X)(Z9:mg "max"=none)(XD:mg "len"=none)(XJ:mg "range"=none)(c1:Callee X "row_of" sv)(c2:Callee X "part_at" oV):Go X uy pi qg:=by rintro ds d ⟨f,g,rfl,hf,hg,rfl⟩;have t:=h.at';haveI:=h.X1;have b1:=h.bt Z9;have b2:=h.bt XD;have b3:=h.bt XJ;show Xt X [.val<|bh f,.val<|bh g,.un] _ _;refine au (df (d:=.int ((max f.length g.length:Nat):Int)) t 2<|Xs.eq (Jq t b1 (c7 t b2<|Xs.qt<|aa t 0)<|c7 t b2<|Xs.qt<|aa t 1)<|by rw[ae,ae];congr 1;lia) ?_;refine aq<|aW<|aB t c1 (ab (d:=dJ ((List.range<|max f.length g.length).map λi=>f.getD i 0+g.getD i 0)) (Xs.eq (XF.Ya (dP (rs:=(List.range<|max f.length g.length).map λi=>D.int<|f.getD i 0+g.getD i 0) t ["f","g","many","power"] (Do<|by decide) (fz t b3 (aa t 2) (by lia)<|by lia) (by simp[fv];exact uR<|by lia) λX' cx=>?_))<|by show D.lst _=D.lst _;rw[bu];rfl) ag) ⟨_,rfl,by rw[ae,nv];lia,rfl⟩;rw[dw];exact X0.gen (λ(i:Nat)=>D.int<|0+(i:Int)) _ (λ(i:Nat)=>[.val<|bh f,.val<|bh g,.val<|.int ((max f.length g.length:Nat):Int),.val<|.int (i:Int)]) _ _ (λx hx=>by rw[iH];exact br cx.at' 3) (λx hx y hy=>by rw[iH];exact br cx.at' 3) λx hx=>cu (aB cx.at' (cx.callee c2) (ab (aa cx.at' 0 rfl)<|ab (aa cx.at' 3 rfl)<|ab ai ag)<|.inl ⟨f,x,rfl,rfl⟩)<|aB cx.at' (cx.callee c2) (ab (aa cx.at' 1 rfl)<|ab (aa cx.at' 3 rfl)<|ab ai ag)<|.inl ⟨g,x,rfl,rfl⟩
def EN(h:DefX P w K mg base k pY (ah kS) X)(Z9:mg "max"=none)(XD:mg "len"=none)(XJ:mg "range"=none)(c1:Callee X "board_of" qp)(c2:Callee X "row_plus" qg)(c3:Callee X "part_at" oV):Go X pY kS lc:=by rintro ds d ⟨f,g,rfl,hf,hg,rfl⟩;have t:=h.at';haveI:=h.X1;have b1:=h.bt Z9;have b2:=h.bt XD;have b3:=h.bt XJ;have lf:=hf.1;have lg:=hg.1;show Xt X [.val<|ay f,.val<|ay g,.un] _ _;refine au (df (d:=.int ((max f.length g.length:Nat):Int)) t 2<|Xs.eq (Jq t b1 (c7 t b2<|Xs.qt<|aa t 0)<|c7 t b2<|Xs.qt<|aa t 1)<|by rw[ae,ae];congr 1;lia) ?_;refine aq<|aW<|aB t c1 (ab (d:=As ((List.range<|max f.length g.length).map λk=>rg (f.getD k [])<|g.getD k [])) (Xs.eq (XF.Ya (dP (rs:=(List.range<|max f.length g.length).map λk=>bh<|rg (f.getD k [])<|g.getD k []) t ["f","g","many","power"] (Do<|by decide) (fz t b3 (aa t 2) (by lia)<|by lia) (by simp[fv];exact uR<|by lia) λX' cx=>?_))<|by show D.lst _=D.lst _;rw[bu];rfl) ag) ⟨_,rfl,by rw[ae,nv];lia,rfl⟩;rw[dw];exact X0.gen (λ(i:Nat)=>D.int<|0+(i:Int)) _ (λ(i:Nat)=>[.val<|ay f,.val<|ay g,.val<|.int ((max f.length g.length:Nat):Int),.val<|.int (i:Int)]) _ _ (λx hx=>by rw[iH];exact br cx.at' 3) (λx hx y hy=>by rw[iH];exact br cx.at' 3) λx hx=>aB cx.at' (cx.callee c2) (ab (aB cx.at' (cx.callee c3) (ab (aa cx.at' 0 rfl)<|ab (aa cx.at' 3 rfl)<|ab (aG ag) ag)<|.inr ⟨f,x,rfl,rfl⟩)<|ab (aB cx.at' (cx.callee c3) (ab (aa cx.at' 1 rfl)<|ab (aa cx.at' 3 rfl)<|ab (aG ag) ag)<|.inr ⟨g,x,rfl,rfl⟩) ag) ⟨_,_,rfl,hf.get (by lia) x,hg.get (by lia) x,rfl⟩
def Cv(h:DefX P w K mg base k m9 (ah jL) X)(Xy:mg "tuple"=none)(c1:Callee X "board_plus" lc)(c2:Callee X "other_sign" qj):Go X m9 jL jR:=by
 rintro ds d ⟨f,g,rfl,hf,hg,rfl⟩;have t:=h.at';haveI:=h.X1;have b1:=h.bt Xy;show Xt X [.val<|ay f,.val<|ay g] _ _;refine aq<|aW<|aB t c1 (ab (aa t 0)<|ab (d:=ay<|v9 g) (Xs.eq (fw t b1<|XF.toQ (dP (rs:=g.map λr=>bh (r.map λx=>-x)) t ["f","g","row"] (Do<|by decide) (ki<|aa t 1) (by rw[ae];exact uR hg.1) λX' cx=>?_))<|by show D.tup _=D.tup _;unfold v9;rw[bu];rfl) ag) ⟨f,v9 g,rfl,hf,?_,rfl⟩;·exact X0.gen bh _ (λr=>[.val<|ay f,.val<|ay g,.val<|bh r]) _ _ (λx hx=>br cx.at' 2) (λx hx y hy=>br cx.at' 2) λx hx=>aB cx.at' (cx.callee c2) (ab (aa cx.at' 2 rfl) ag) ⟨x,rfl,hg.2 x hx,rfl⟩
 ·unfold v9;refine⟨by rw[ae];exact hg.1,λr hr=>?_⟩;obtain⟨q,hq,rfl⟩:=List.mem_map.mp hr;rw[ae];exact hg.2 q hq
def LQ(n:Nat):(List.replicate n [D.tup []]).flatten=(List.replicate n ([]:be)).map bh:=by induction n with|zero=>rfl|succ n ih=>rw[bg,fg,ih,bg,aH];rfl
def jt(f:Bd):(dY<|ay f).eqv (dY<|.tup [])=decide (f=[]):=by show(PyData.tuple<|XB<|f.map bh).eqv (.tuple<|XB [])=_;cases f with|nil=>simp[XB,PyData.eqv,PyData.eqvAll]|cons r f=>simp[XB,PyData.eqv,PyData.eqvAll]
def Fn(n:Nat)(d:D):Prop:=(dY d).canLay0=true/\(dY d).depth<=n/\(dY d).eqv (dY d)=true
def Fn.int(i:Int):Fn 1 (.int i):=⟨rfl,by simp[dY,PyData.depth],by simp[dY,PyData.eqv]⟩
def Fn.bl(b:Bool):Fn 1 (.bl b):=⟨rfl,by simp[dY,PyData.depth],by simp[dY,PyData.eqv]⟩
def Fn.all:∀{xs:aU},(∀x∈xs,Fn n x)->PyData.canLayAll0 (XB xs)=true/\PyData.depthAll (XB xs)<=n/\PyData.eqvAll (XB xs) (XB xs)=true
 |[],_=>⟨rfl,by simp[XB,PyData.depthAll],by simp[XB,PyData.eqvAll]⟩
 |x::xs,h=>by
  obtain⟨a1,a2,a3⟩:=h x (by simp);obtain⟨b1,b2,b3⟩:=Fn.all (xs:=xs) λy hy=>h y (by simp[hy]);refine⟨?_,?_,?_⟩;·simp only[XB,PyData.canLayAll0,a1,b1];rfl
  ·simp only[XB,PyData.depthAll];lia
  ·simp only[XB,PyData.eqvAll,a3,b3];rfl
def Fn.tup{xs:aU}(h:∀x∈xs,Fn n x):Fn (n+1) (.tup xs):=by obtain⟨b1,b2,b3⟩:=Fn.all h;exact⟨by simp only[dY,PyData.canLay0];exact b1,by simp only[dY,PyData.depth];lia,by simp only[dY,PyData.eqv];exact b3⟩
def Fn.lst{xs:aU}(h:∀x∈xs,Fn n x):Fn (n+1) (.lst xs):=by obtain⟨b1,b2,b3⟩:=Fn.all h;exact⟨by simp only[dY,PyData.canLay0];exact b1,by simp only[dY,PyData.depth];lia,by simp only[dY,PyData.eqv];exact b3⟩
def Fn.sh(h:Fn n d)(hn:n<=64):SeqAt.shaped (dY d)=true:=by show((dY d).canLay0&&decide ((dY d).depth<=64))=true;rw[h.1,aF<|aJ h.2.1 hn];rfl
def A8(r:be):Fn 2 (bh r):=Fn.tup λx hx=>by obtain⟨i,_,rfl⟩:=List.mem_map.mp hx;exact Fn.int i
def lS(b:Bd):Fn 3 (ay b):=Fn.tup λx hx=>by obtain⟨r,_,rfl⟩:=List.mem_map.mp hx;exact A8 r
def O6(b:Bd):Fn 3 (As b):=Fn.lst λx hx=>by obtain⟨r,_,rfl⟩:=List.mem_map.mp hx;exact A8 r
def gG(f:Bd):SeqAt.shaped (dY<|ay f)=true:=(lS f).sh<|by decide
def mN(t:At X N sc)(f:Fn n d)(ha:Xs X ρ a d)(hb:Xs X ρ b d)(hn:n<=64:=by decide):Xu X ρ (.Compare a [.NotEq] [b] pos) false:=kh t ha.p hb.p (f.sh hn) (f.sh hn)<|by rw[f.2.2];rfl
def Cu(h:DefX P w K mg base k m8 (ah hZ) X)(YW:mg "enumerate"=none)(XD:mg "len"=none)(c1:Callee X "board_of" qp)(c2:Callee X "row_plus" qg)(c3:Callee X "row_times" su):Go X m8 hZ jQ:=by
 rintro ds d ⟨f,g,rfl,hf,hg,hb,rfl⟩;have t:=h.at';haveI:=h.X1;have b1:pd X (ah hZ) "enumerate" (.type "enumerate"):=EG (by rw[h.YQ];exact YW) rfl (by decide);have b2:=h.bt XD;have s0:SeqAt.shaped (dY<|.tup [])=true:=bz [];show Xt X [.val<|ay f,.val<|ay g,.un,.un,.un,.un,.un] _ _;by_cases h1:f=[];·refine ei<|dj (YB.toT<|pJ<|iD t (Xs.p<|aa t 0) (Xs.p (d:=.tup [])<|aG ag) (gG _) s0<|by rw[jt,h1];rfl)<|aq<|aW<|Xs.eq (d:=.tup []) (aG ag) ?_;unfold kb;rw[ar<|.inl h1];rfl
 by_cases h2:g=[];·refine ei<|dj (YB.toT<|fU (iD t (Xs.p<|aa t 0) (Xs.p (d:=.tup [])<|aG ag) (gG _) s0<|by rw[jt,ao h1])<|lT<|iD t (Xs.p<|aa t 1) (Xs.p (d:=.tup [])<|aG ag) (gG _) s0<|by rw[jt,h2];rfl)<|aq<|aW<|Xs.eq (d:=.tup []) (aG ag) ?_;unfold kb;rw[ar<|.inr h2];rfl
 have et:kb f g=fN (k8 f g f.length):=by unfold kb;rw[ak λz=>z.elim h1 h2]
 have lf:=List.length_pos_iff.mpr h1;have lg:=List.length_pos_iff.mpr h2;have lf':=hf.1;have lg':=hg.1;refine au (bw (YB.toT<|fU (iD t (Xs.p<|aa t 0) (Xs.p (d:=.tup [])<|aG ag) (gG _) s0<|by rw[jt,ao h1])<|lT<|iD t (Xs.p<|aa t 1) (Xs.p (d:=.tup [])<|aG ag) (gG _) s0<|by rw[jt,ao h2]) bc) ?_;have en:((f.length:Int)+g.length-1).toNat=f.length+g.length-1:=by lia
 refine au (gV (xs:=(k8 f g 0).map bh) t 2<|XF.eq (M1 (n:=(f.length:Int)+g.length-1) (XF.Ya<|bI<|ab (aG ag) ag) (Xs.eq (fV (cu (c7 t b2<|Xs.qt<|aa t 0)<|c7 t b2<|Xs.qt<|aa t 1) ai)<|by rw[ae,ae]) (by lia) (by lia)<|by rw[en];have:=tY;simp;lia)<|by rw[en,LQ];rfl) ?_;refine au (ρ':=[.val<|ay f,.val<|ay g,.own<|(k8 f g f.length).map bh,.un,.un,.un,.un]) (fF t (zw t b1<|aa t 0)<|XO.XW (λi=>[.val<|ay f,.val<|ay g,.own<|(k8 f g i).map bh,.un,.un,.un,.un]) (λi d hi=>?_) rfl ?_) ?_
 ·obtain⟨e,he,rfl⟩:=oO hi;rw[List.getElem?_map]at he;cases hx:f[i]? with
  |none=>rw[hx]at he;cases he
  |some x=>
  rw[hx]at he;cases he;have hi':i<f.length:=(List.getElem?_eq_some_iff.mp hx).1;have ex:f.getD i []=x:=by rw[List.getD_eq_getElem?_getD,hx];rfl
  refine⟨_,gN t 3 4,Xt.weak (ρ1:=[.val<|ay f,.val<|ay g,.own<|(k8 f g<|i+1).map bh,.val<|.int i,.val<|bh x,.un,.un]) (aq<|fF t (zw t b1<|aa t 1)<|XO.XW (λj=>[.val<|ay f,.val<|ay g,.own<|(lQ f g i (k8 f g i) j).map bh,.val<|.int i,.val<|bh x,.un,.un]) (λj d hj=>?_) rfl ?_)<|.keep<|.keep<|.keep<|.forget<|.forget<|.keep<|.keep .nil⟩
  ·obtain⟨e,he,rfl⟩:=oO hj;rw[List.getElem?_map]at he;cases hy:g[j]? with
   |none=>rw[hy]at he;cases he
   |some y=>
   rw[hy]at he;cases he;have hj':j<g.length:=(List.getElem?_eq_some_iff.mp hy).1;have ey:g.getD j []=y:=by rw[List.getD_eq_getElem?_getD,hy];rfl
   have hl:(lQ f g i (k8 f g i) j).length=f.length+g.length-1:=by rw[wk,v7]
   have X3:i+j<(lQ f g i (k8 f g i) j).length:=by lia
   have e1:((i:Int)+(j:Int))=((i+j:Nat):Int):=by lia
   have hix:qL ((lQ f g i (k8 f g i) j).map bh) ((i:Int)+(j:Int))=some (bh<|(lQ f g i (k8 f g i) j).getD (i+j) []):=by rw[xp (g:=bh) (n:=i+j) (by lia) (by lia) X3,List.getD_eq_getElem?_getD,List.getElem?_eq_getElem X3];rfl
   have h3:=hf.get (by lia) i;have h4:=hg.get (by lia) j;have h5:((lQ f g i (k8 f g i) j).getD (i+j) []).length<200:=by
    rcases rJ (xs:=lQ f g i (k8 f g i) j) (i+j)with e |e;·rw[e];decide
    ·exact zg hf hg i (IY hf hg i) j _ e
   have h6:=Ac (f.getD i [])<|g.getD j [];rw[ex]at h3 h6;rw[ey]at h4 h6;refine⟨_,gN t 5 6,Xt.weak (aq<|Ar t (aB t c2 (ab (bU (dL t 2 rfl) (cu (aa t 3)<|aa t 5) hix)<|ab (aB t c3 (ab (aa t 4)<|ab (aa t 6) ag) ⟨x,y,rfl,h3,h4,hb y<|List.mem_of_getElem? hy,rfl⟩) ag) ⟨_,_,rfl,by lia,by lia,rfl⟩)<|Pv (j:=i+j) t 2 rfl (cu (aa t 3)<|aa t 5) ?_) ?_⟩;·rw[ae];exact A3 (by lia) (by lia)<|by lia
   ·rw[lQ,List.map_set,ex,ey];exact .keep<|.keep<|.keep<|.keep<|.keep<|.forget<|.forget .nil
  ·rw[oN,ae];rfl
 ·rw[oN,ae]
 ·refine fQ 2 rfl<|aq<|aW<|Xs.eq (aB t c1 (ab (aa t 2) ag) ⟨k8 f g f.length,rfl,by rw[v7];lia,rfl⟩) ?_;rw[et]
abbrev nk(i k:Nat):be:=[(i:Int),(k:Int)]
def D5{k:Nat}(h:nk i k=nk a c):i=a/\k=c:=by have h1:=(GU h).1;have h2:=(GU (GU h).2).1;lia
def ds:gn->(Nat->Nat->Int)->Int|[],_=>0|p::r,φ=>p.2*φ (p.1.getD 0 0).toNat (p.1.getD 1 0).toNat+ds r φ
structure Zq(kvs:gn):Prop where
 keys:∀p∈kvs,∃i k:Nat,p.1=nk i k
 nd:(kvs.map (·.1)).Nodup
def Zq.nil:Zq []:=⟨λ_ h=>(nomatch h),List.nodup_nil⟩
def n9(p:be×Int)(r:gn)(k:be):fM (p::r) k=if p.1=k then some p.2 else fM r k:=by
 unfold fM;rw[List.find?_cons];by_cases h:p.1=k;·rw[ar h,aF h];rfl
 ·rw[ak h,ao h]
def lq{k:be}:∀{kvs:gn},(∀p∈kvs,p.1≠k)->fM kvs k=none|[],_=>rfl|p::r,h=>by rw[n9,ak<|h p<|by simp,lq λq hq=>h q<|by simp[hq]]
def n8:∀{kvs:gn},(kvs.map (·.1)).Nodup->(k,v)∈kvs->fM kvs k=some v
 |[],_,h=>nomatch h
 |p::r,nd,h=>by
  rw[aH,cY]at nd;rw[n9];rcases ax.mp h with e |h;·rw[<-e,ar rfl]
  ·have hm:k∈r.map (·.1):=List.mem_map.mpr ⟨_,h,rfl⟩;rw[ak λz:p.1=k=>nd.1<|by rw[z];exact hm,n8 nd.2 h]
def CM{k:be}:∀{kvs:gn},fM kvs k=some v->(k,v)∈kvs
 |[],h=>by cases h
 |p::r,h=>by
  rw[n9]at h;by_cases e:p.1=k;·rw[ar e]at h;cases h;rw[<-e];simp
  ·rw[ak e]at h;simp[CM h]
def re{q:be×Int}(h:q∈fG kvs k v):q=(k,v)\/q∈kvs:=by
 unfold fG at h;split at h
 ·obtain⟨p,hp,e⟩:=List.mem_map.mp h;by_cases z:p.1=k;·rw[ar z]at e;left;rw[<-e,z]
  ·rw[ak z]at e;right;rw[<-e];exact hp
 ·rcases aL.mp h with h |h;·exact .inr h
  ·exact .inl<|aP.mp h
def Ka:(fG kvs k v).map (·.1)=if(fM kvs k).isSome=true then kvs.map (·.1)else kvs.map (·.1)++[k]:=by
 unfold fG;split;·rw[bu];refine kD λp _=>?_;show(if p.1=k then(p.1,v)else p).1=p.1;split<;>rfl
 ·rw[aA];rfl
def Zq.put(h:Zq kvs)(i k:Nat)(v:Int):Zq (fG kvs (nk i k) v):=by
 refine⟨λp hp=>?_,?_⟩
 ·rcases re hp with e |e;·exact⟨i,k,by rw[e]⟩
  ·exact h.keys p e
 ·rw[Ka];split;·exact h.nd
  ·rename_i hn;refine List.nodup_append.mpr ⟨h.nd,by simp,λa ha b hb e=>hn ?_⟩;rw[aP]at hb;subst hb e;obtain⟨p,hp,e⟩:=List.mem_map.mp ha;have:fM kvs p.1=some p.2:=n8 h.nd hp;rw[<-e,this];rfl
def Dl(φ:Nat->Nat->Int):∀(a b:gn),ds (a++b) φ=ds a φ+ds b φ|[],b=>by simp[ds]|p::a,b=>by rw[List.cons_append,ds,ds,Dl φ a b];lia
def JB(φ:Nat->Nat->Int)(i k:Nat)(v:Int):∀(kvs:gn),(kvs.map (·.1)).Nodup->ds (kvs.map λp=>if p.1=nk i k then(p.1,v)else p) φ=ds kvs φ+(match fM kvs (nk i k)with |some o=>(v-o)*φ i k |none=>0)
 |[],_=>rfl
 |p::r,nd=>by
  rw[aH,cY]at nd;rw[aH,ds,ds,JB φ i k v r nd.2,n9];by_cases e:p.1=nk i k
  ·rw[ar e,ar e,lq λq hq z=>nd.1<|by rw[e,<-z];exact List.mem_map.mpr ⟨_,hq,rfl⟩];have e1:(p.1.getD 0 0).toNat=i:=by rw[e];simp
   have e2:(p.1.getD 1 0).toNat=k:=by rw[e];simp
   simp only[e1,e2];rw[Int.sub_mul];lia
  ·rw[ak e,ak e];lia
def M6(h:Zq kvs)(i k:Nat)(v:Int)(φ:Nat->Nat->Int):ds (fG kvs (nk i k) v) φ=ds kvs φ+(v-(fM kvs<|nk i k).getD 0)*φ i k:=by unfold fG;cases e:fM kvs (nk i k)with|none=>rw[ak<|by simp,Dl];show ds kvs φ+(v*φ i k+0)=_;simp|some o=>rw[ar<|by rfl,JB φ i k v kvs h.nd,e];rfl
def Ss(h:Zq kvs)(i k:Nat):ds kvs (wv i k)=(fM kvs<|nk i k).getD 0:=by
 obtain⟨hk,nd⟩:=h;induction kvs with
 |nil=>rfl
 |cons p r ih=>
  rw[aH,cY]at nd;obtain⟨a,c,e⟩:=hk p (by simp);have e1:(p.1.getD 0 0).toNat=a:=by rw[e];simp
  have e2:(p.1.getD 1 0).toNat=c:=by rw[e];simp
  have ih':=ih (λq hq=>hk q<|by simp[hq]) nd.2;rw[ds,ih',n9,e1,e2];by_cases z:a=i/\c=k
  ·have q:p.1=nk i k:=by rw[e,z.1,z.2]
   rw[ar q,lq λx hx w=>nd.1<|by rw[q,<-w];exact List.mem_map.mpr ⟨_,hx,rfl⟩];unfold wv;rw[ar z];simp
  ·rw[ak λq=>z<|D5<|e.symm.trans q];unfold wv;rw[ak z];simp
def gO(kvs:gn):Bd:=fN ((List.range 9).map λk=>eV ((List.range 9).map λi=>(fM kvs<|nk i k).getD 0))
def XA(b:Bd):Prop:=(b=[]\/∃ys a,b=ys++[a]/\a≠[])/\∀r∈b,Yo r
def Ax(n i:Nat)(h:Nat->Int):((List.range n).map h).getD i 0=if i<n then h i else 0:=by
 rw[List.getD_eq_getElem?_getD,List.getElem?_map];by_cases e:i<n;·rw[ar e,List.getElem?_range e];rfl
 ·rw[ak e,List.getElem?_eq_none<|by simpa using e];rfl
def uk(n i:Nat)(h:Nat->be):((List.range n).map h).getD i []=if i<n then h i else []:=by
 rw[List.getD_eq_getElem?_getD,List.getElem?_map];by_cases e:i<n;·rw[ar e,List.getElem?_range e];rfl
 ·rw[ak e,List.getElem?_eq_none<|by simpa using e];rfl
def pN(kvs:gn)(i k:Nat):eT (gO kvs) i k=if i<9/\k<9 then(fM kvs<|nk i k).getD 0 else 0:=by
 unfold eT gO;rw[ud,uk];by_cases hk:k<9
 ·rw[ar hk,oh,Ax];by_cases hi:i<9;·rw[ar hi,ar ⟨hi,hk⟩]
  ·rw[ak hi,ak λz=>hi z.1]
 ·rw[ak hk,ak λz=>hk z.2];rfl
def mS{xs:Bd}(h:∀r∈xs,Yo r):XA (fN xs):=⟨Lq xs,λr hr=>h r<|Da hr⟩
def pO(kvs:gn):XA (gO kvs):=mS λr hr=>by obtain⟨k,_,rfl⟩:=List.mem_map.mp hr;exact G1 _
def Yo.nil:Yo []:=.inl rfl
def XA.row(h:XA b)(k:Nat):Yo (b.getD k []):=by
 rcases rJ (xs:=b) k with e |e;·rw[e];exact .nil
 ·exact h.2 _ e
def Gn{b:Bd}(ha:XA a)(h:∀k,a.getD k []=b.getD k []):a.length<=b.length:=by
 rcases ha.1 with e |⟨ys,r,e,hr⟩;·subst e;exact bB _
 ·rcases K0 b.length a.length with z |z
  ·have h1:=h ys.length;have e2:b.getD ys.length []=[]:=by rw[List.getD_eq_getElem?_getD,List.getElem?_eq_none<|by rw[e]at z;simp at z;lia];rfl
   rw[e2,e,List.getD_eq_getElem?_getD,List.getElem?_append_right<|aj _,j6]at h1;exact absurd h1 hr
  ·exact z
def oR(ha:XA a)(hb:XA b)(h:∀i k,eT a i k=eT b i k):a=b:=by have hr:∀k,a.getD k []=b.getD k []:=λk=>Oq (ha.row k) (hb.row k) λi=>h i k;have h1:=Gn ha hr;have h2:=Gn hb λk=>(hr k).symm;refine List.ext_getElem (by lia) λk h3 h4=>?_;have:=hr k;rw[List.getD_eq_getElem?_getD,List.getD_eq_getElem?_getD,List.getElem?_eq_getElem h3,List.getElem?_eq_getElem h4]at this;exact this
def C3(f g:be)(i:Nat):(rg f g).getD i 0=f.getD i 0+g.getD i 0:=by
 unfold rg;rw[oh,Ax];by_cases h:i<max f.length g.length;·rw[ar h]
 ·rw[ak h,oJ (show f.length<=i by lia),oJ (show g.length<=i by lia)];rfl
def Fz(f g:be):Yo (rg f g):=G1 _
def ju(f g:Bd)(i k:Nat):eT (mJ f g) i k=eT f i k+eT g i k:=by
 unfold eT mJ;rw[ud,uk];by_cases h:k<max f.length g.length;·rw[ar h,C3]
 ·rw[ak h];have e1:f.getD k []=[]:=by rw[List.getD_eq_getElem?_getD,List.getElem?_eq_none<|by lia];rfl
  have e2:g.getD k []=[]:=by rw[List.getD_eq_getElem?_getD,List.getElem?_eq_none<|by lia];rfl
  rw[e1,e2];rfl
def vo(f g:Bd):XA (mJ f g):=mS λr hr=>by obtain⟨k,_,rfl⟩:=List.mem_map.mp hr;exact Fz _ _
def tj(g:Bd)(i k:Nat):eT (v9 g) i k=-eT g i k:=by
 unfold eT v9;have e:(g.map λr=>r.map λx=>-x).getD k []=(g.getD k []).map λx=>-x:=by rw[List.getD_eq_getElem?_getD,List.getElem?_map,List.getD_eq_getElem?_getD];cases g[k]?<;>rfl
 rw[e];exact Mo (φ:=λx=>-x) rfl _ i
def Oo(f g:be)(ψ:Nat->Int):rs (rg f g) ψ=rs f ψ+rs g ψ:=by have hl:=C2 f g;rw[iy (rg f g) (max f.length g.length) ψ hl,iy f (max f.length g.length) ψ<|by lia,iy g (max f.length g.length) ψ<|by lia,<-Ae];exact dg _ λi _=>by rw[C3,Int.add_mul]
def Fi(c:Int)(h:Nat->Int):∀n,dZ n (λi=>c*h i)=c*dZ n h|0=>by simp[dZ]|n+1=>by rw[dZ,Fi c h n,dZ,Xh]
def LK(f g:be)(i:Nat)(acc:be)(ψ:Nat->Int):∀j,i+j<=acc.length->rs (zh f g i acc j) ψ=rs acc ψ+dZ j (λa=>f.getD i 0*(g.getD a 0*ψ (i+a)))
 |0,_=>by simp[zh,dZ]
 |j+1,h=>by
  rw[zh,LJ _ _ _ _<|by rw[s8];lia,LK f g i acc ψ j<|by lia,dZ];have e:(zh f g i acc j).getD (i+j) 0+f.getD i 0*g.getD j 0-(zh f g i acc j).getD (i+j) 0=f.getD i 0*g.getD j 0:=by lia
  rw[e,GV];lia
def On(n:Nat)(ψ:Nat->Int):rs (List.replicate n 0) ψ=0:=by
 have h:∀i,(List.replicate n (0:Int)).getD i 0=([]:be).getD i 0:=λi=>by rw[List.getD_eq_getElem?_getD,List.getElem?_replicate];split<;>simp
 rw[LM h];rfl
def IK(f g:be)(ψ:Nat->Int):∀i,i<=f.length->rs (ul f g i) ψ=dZ i (λj=>f.getD j 0*rs g (λa=>ψ<|j+a))|0,_=>by rw[ul];exact On _ _|i+1,h=>by rw[ul,LK _ _ _ _ _ _<|by rw[AH];lia,IK f g ψ i<|by lia,dZ,Fi,iy g g.length _<|aj _]
def LI(f g:be)(ψ:Nat->Int):rs (iO f g) ψ=rs f (λi=>rs g λa=>ψ<|i+a):=by unfold iO;rw[LM<|oh _,IK f g ψ f.length<|aj _,iy f f.length _<|aj _]
def PD(b:Bd)(φ:Nat->Nat->Int):bs (fN b) φ=bs b φ:=by rw[ut (fN b) b.length φ<|sQ b,ut b b.length φ<|aj _];exact dg _ λk _=>by rw[ud]
def JK(f g:Bd)(j:Nat)(acc:Bd)(φ:Nat->Nat->Int):∀k,j+k<=acc.length->bs (lQ f g j acc k) φ=bs acc φ+dZ k (λc=>rs (iO (f.getD j [])<|g.getD c []) λi=>φ i<|j+c)|0,_=>by simp[lQ,dZ]|k+1,h=>by rw[lQ,Nh _ _ _ _<|by rw[wk];lia,JK f g j acc φ k<|by lia,dZ,Oo];lia
def PH(φ:Nat->Nat->Int)(n:Nat):bs (List.replicate n []) φ=0:=by induction n generalizing φ with|zero=>rfl|succ n ih=>rw[bg,bs,ih];rfl
def JJ(f g:Bd)(φ:Nat->Nat->Int):∀j,j<=f.length->bs (k8 f g j) φ=dZ j (λa=>dZ g.length λc=>rs (iO (f.getD a [])<|g.getD c []) λi=>φ i<|a+c)|0,_=>by rw[k8];exact PH _ _|j+1,h=>by rw[k8,JK _ _ _ _ _ _<|by rw[v7];lia,JJ f g φ j<|by lia,dZ]
def IJ(f:be)(h:Nat->Nat->Int):∀n,rs f (λi=>dZ n λc=>h i c)=dZ n (λc=>rs f λi=>h i c)|0=>DQ _ (λ_=>rfl) f|n+1=>by show rs f (λi=>dZ n (λc=>h i c)+h i n)=_;rw[Op,IJ f h n,dZ]
def Ng(f g:Bd)(φ:Nat->Nat->Int):bs (kb f g) φ=bs f (λi j=>bs g λa c=>φ (i+a)<|j+c):=by
 unfold kb;split
 ·rename_i h;rcases h with h |h;·subst h;rfl
  ·subst h;exact(ED f (λi j=>bs [] λa c=>φ (i+a)<|j+c) λ_ _=>rfl).symm
 ·rw[PD,JJ f g φ f.length<|aj _,ut f f.length _<|aj _];refine dg _ λj _=>?_;have e:(λi:Nat=>bs g λa c=>φ (i+a)<|j+c)=λi=>dZ g.length (λc=>rs (g.getD c []) λa=>φ (i+a)<|j+c):=funext λi=>ut g g.length _<|aj _;rw[e,IJ];exact dg _ λc _=>LI _ _ _
def Fit(n:Nat)(b:Bd):Prop:=b.length<=n/\∀k,(b.getD k []).length<=n
def Fit.out{i k:Nat}(h:Fit n b)(q:n<=i\/n<=k):eT b i k=0:=by
 unfold eT;rcases q with q |q;·exact oJ<|aJ (h.2 k) q
 ·have e:b.getD k []=[]:=by rw[List.getD_eq_getElem?_getD,List.getElem?_eq_none<|aJ h.1 q];rfl
  rw[e];rfl
def J0(f g:Bd):XA (kb f g):=by
 unfold kb;split;·exact⟨.inl rfl,λ_ h=>(nomatch h)⟩
 ·refine mS ?_;have h1:∀j(acc:Bd),(∀r∈acc,Yo r)->∀k,∀r∈lQ f g j acc k,Yo r:=by
   intro j acc ha k;induction k with
   |zero=>exact ha
   |succ k ih=>
    intro r hr;rw[lQ]at hr;rcases Td hr with h |h;·exact ih r h
    ·rw[h];exact Fz _ _
  have h2:∀j,∀r∈k8 f g j,Yo r:=by intro j;induction j with|zero=>intro r hr;rw[k8]at hr;rw[(List.mem_replicate.mp hr).2];exact .nil|succ j ih=>exact h1 j _ ih _
  exact h2 _
def Ei{n:Nat}(hb:XA b)(h:∀i k,n<=i\/n<=k->eT b i k=0):Fit n b:=by
 have hr:∀k,(b.getD k []).length<=n:=λk=>by
  rcases hb.row k with e |⟨ys,a,e,ha⟩;·rw[e];exact bB _
  ·rcases K0 n (b.getD k []).length with z |z;·rw[e,ac,bO]at z;have:=h ys.length k<|.inl (by lia);unfold eT at this;rw[e,List.getD_eq_getElem?_getD,List.getElem?_append_right<|aj _,j6]at this;exact absurd this ha
   ·exact z
 refine⟨?_,hr⟩;rcases hb.1 with e |⟨ys,r,e,hn⟩;·rw[e];exact bB _
 ·rcases K0 n b.length with z |z
  ·have hk:b.getD ys.length []=r:=by rw[e,List.getD_eq_getElem?_getD,List.getElem?_append_right<|aj _,j6];rfl
   have zFE:=hb.row ys.length;rw[hk]at zFE;rcases zFE with w |⟨zs,a,w,ha⟩;·exact absurd w hn
   ·rw[e,ac,bO]at z;have:=h zs.length ys.length<|.inr (by lia);unfold eT at this;rw[hk,w,List.getD_eq_getElem?_getD,List.getElem?_append_right<|aj _,j6]at this;exact absurd this ha
  ·exact z
def VB(M:Nat)(kvs:gn):Prop:=∀p∈kvs,p.2.natAbs<=M
def Zb(n:Nat)(kvs:gn):Prop:=∀p∈kvs,∃i k:Nat,p.1=nk i k/\i<n/\k<n
def vm(kvs:gn)(k:be)(v:Int):(fG kvs k v).length<=kvs.length+1:=by
 unfold fG;split;·rw[ae];lia
 ·rw[ac,bO];lia
def VB.put{v:Int}(h:VB M kvs)(hv:v.natAbs<=M):VB M (fG kvs k v):=λp hp=>by
 rcases re hp with e |e;·rw[e];exact hv
 ·exact h p e
def VB.val(h:VB M kvs)(k:be):((fM kvs k).getD 0).natAbs<=M:=by cases e:fM kvs k with|none=>exact bB _|some v=>exact h _<|CM e
def Zb.put{i k:Nat}(h:Zb n kvs)(hi:i<n)(hk:k<n)(v:Int):Zb n (fG kvs (nk i k) v):=λp hp=>by
 rcases re hp with e |e;·exact⟨i,k,by rw[e],hi,hk⟩
 ·exact h p e
def BB(M:Nat)(b:Bd):Prop:=∀i k,(eT b i k).natAbs<=M
def BB.lim(h:BB M b)(hM:M<2 ^ 63):∀r∈b,∀y∈r,-(2 ^ 63)<y/\y<2 ^ 63:=λr hr y hy=>by obtain⟨k,hk,rfl⟩:=tq hr;obtain⟨i,hi,rfl⟩:=tq hy;have:=h i k;unfold eT at this;rw[List.getD_eq_getElem?_getD (l:=b),List.getElem?_eq_getElem hk]at this;have e:(b[k]).getD i 0=b[k][i]:=zj hi;have e':((some b[k]).getD []).getD i 0=b[k][i]:=e;rw[e']at this;lia
def HZ(h:VB M kvs):BB M (gO kvs):=λi k=>by
 rw[pN];split;·exact h.val _
 ·exact bB _
def Gq(h:Zb n kvs):Fit n (gO kvs):=Ei (pO kvs) λi k q=>by
 rw[pN];split
 ·rw[lq λp hp e=>?_];·rfl
  ·obtain⟨a,c,e',h1,h2⟩:=h p hp;have:=D5<|e'.symm.trans e;lia
 ·rfl
def Fit.sm{m:Nat}(h:Fit n b)(hm:n<m):Yy m b:=⟨cn h.1 hm,λr hr=>by obtain⟨k,hk,rfl⟩:=tq hr;have:=h.2 k;rw[List.getD_eq_getElem?_getD,List.getElem?_eq_getElem hk]at this;exact cn this hm⟩
def IW(b:Bd)(k:Nat)(acc:gn):Nat->gn|0=>acc|i+1=>fG (IW b k acc i) (nk i k)<|(b.getD k []).getD i 0
def w5(b:Bd):Nat->gn|0=>[]|k+1=>IW b k (w5 b k) (b.getD k []).length
def jr(b:Bd):gn:=w5 b b.length
def D1(b:Bd)(k:Nat)(h:Zq acc)(hb:∀p∈acc,∃a c:Nat,p.1=nk a c/\c<k)(φ:Nat->Nat->Int):∀i,Zq (IW b k acc i)/\(∀p∈IW b k acc i,∃a c:Nat,p.1=nk a c/\(c<k\/c=k/\a<i))/\ds (IW b k acc i) φ=ds acc φ+dZ i (λa=>(b.getD k []).getD a 0*φ a k)/\(IW b k acc i).length<=acc.length+i
 |0=>⟨h,λp hp=>let⟨a,c,e,q⟩:=hb p hp;⟨a,c,e,.inl q⟩,by simp[IW,dZ],aj _⟩
 |i+1=>by
  obtain⟨h1,h2,h3,h4⟩:=D1 b k h hb φ i;refine⟨h1.put _ _ _,λp hp=>?_,?_,?_⟩
  ·rcases re hp with e |e;·exact⟨i,k,by rw[e],.inr ⟨rfl,by lia⟩⟩
   ·obtain⟨a,c,e',q⟩:=h2 p e;exact⟨a,c,e',by lia⟩
  ·have hn:fM (IW b k acc i) (nk i k)=none:=lq λp hp e=>by obtain⟨a,c,e',q⟩:=h2 p hp;have:=D5<|e'.symm.trans e;lia
   rw[IW,M6 h1,h3,hn,dZ];simp;lia
  ·have:=vm (IW b k acc i) (nk i k)<|(b.getD k []).getD i 0;rw[IW];lia
def vz(b:Bd)(φ:Nat->Nat->Int):∀k,Zq (w5 b k)/\(∀p∈w5 b k,∃a c:Nat,p.1=nk a c/\c<k)/\ds (w5 b k) φ=dZ k (λc=>rs (b.getD c []) λa=>φ a c)
 |0=>⟨.nil,λ_ h=>(nomatch h),rfl⟩
 |k+1=>by
  obtain⟨h1,h2,h3⟩:=vz b φ k;obtain⟨g1,g2,g3,_⟩:=D1 b k h1 h2 φ (b.getD k []).length;refine⟨g1,λp hp=>?_,?_⟩;·obtain⟨a,c,e,q⟩:=g2 p hp;exact⟨a,c,e,by lia⟩
  ·rw[w5,g3,h3,dZ,iy (b.getD k []) _ _<|aj _]
def AG(b:Bd)(h:Yy 100 b):∀k,(w5 b k).length<=100*k|0=>aj _|k+1=>by obtain⟨h1,h2,_⟩:=vz b (λ_ _=>0) k;obtain⟨_,_,_,g⟩:=D1 b k h1 h2 (λ_ _=>0) (b.getD k []).length;have:=AG b h k;have:=h.get (by lia) k;rw[w5];lia
def AF(b:Bd):Zq (jr b):=(vz b (λ_ _=>0) b.length).1
def M7(b:Bd)(φ:Nat->Nat->Int):ds (jr b) φ=bs b φ:=by rw[ut b b.length φ<|aj _];exact(vz b φ b.length).2.2
def IU{acc:gn}(b:Bd)(k:Nat)(h:∀p∈acc,∃i k,p.2=eT b i k):∀i,∀p∈IW b k acc i,∃i k,p.2=eT b i k
 |0,p,hp=>h p hp
 |i+1,p,hp=>by
  rcases re hp with e |e;·exact⟨i,k,by rw[e];rfl⟩
  ·exact IU b k h i p e
def FB(b:Bd):∀k,∀p∈w5 b k,∃i k,p.2=eT b i k|0,_,h=>nomatch h|k+1,p,hp=>IU b k (FB b k) _ p hp
def Md(h:BB M b):VB M (jr b):=λp hp=>by obtain⟨i,k,e⟩:=FB b _ p hp;rw[e];exact h i k
def C5(h:Yy 10 b):(jr b).length<=1000:=by have:=AG b ⟨by have:=h.1;lia,λr hr=>by have:=h.2 r hr;lia⟩ b.length;have:=h.1;unfold jr;lia
abbrev wJ(p q:be):be:=[p.getD 0 0+q.getD 0 0,p.getD 1 0+q.getD 1 0]
def kZ(p:be×Int)(acc B:gn):gn:=B.foldl (λacc q=>fG acc (wJ p.1 q.1)<|(fM acc<|wJ p.1 q.1).getD 0+p.2*q.2) acc
def AB(A B:gn):gn:=A.foldl (λacc p=>kZ p acc B) []
def JL(a c i k:Nat):wJ (nk a c) (nk i k)=nk (a+i) (c+k):=by simp[wJ,nk]
def DV(a c:Nat)(v:Int)(φ:Nat->Nat->Int):∀(B acc:gn),Zq acc->(∀p∈B,∃i k:Nat,p.1=nk i k)->Zq (kZ (nk a c,v) acc B)/\ds (kZ (nk a c,v) acc B) φ=ds acc φ+v*ds B (λi k=>φ (a+i)<|c+k)/\(kZ (nk a c,v) acc B).length<=acc.length+B.length
 |[],acc,h,_=>⟨h,by simp[kZ,ds],aj _⟩
 |(k,x)::B,acc,h,hB=>by
  obtain⟨i,j,e⟩:=hB (k,x) (by simp);have e':k=nk i j:=e;subst e';have ea:wJ (nk a c) (nk i j)=nk (a+i) (c+j):=JL a c i j;obtain⟨g1,g2,g3⟩:=DV a c v φ B (fG acc (nk (a+i)<|c+j)<|(fM acc<|nk (a+i)<|c+j).getD 0+v*x) (h.put _ _ _) λp hp=>hB p (by simp[hp]);have e0:kZ (nk a c,v) acc ((nk i j,x)::B)=kZ (nk a c,v) (fG acc (nk (a+i)<|c+j)<|(fM acc<|nk (a+i)<|c+j).getD 0+v*x) B:=by show kZ (nk a c,v) (fG acc (wJ (nk a c)<|nk i j)<|(fM acc<|wJ (nk a c)<|nk i j).getD 0+v*x) B=_;rw[ea]
  rw[e0];refine⟨g1,?_,?_⟩
  ·rw[g2,M6 h,ds];have e1:(fM acc<|nk (a+i)<|c+j).getD 0+v*x-(fM acc<|nk (a+i)<|c+j).getD 0=v*x:=by lia
   have e2:((nk i j).getD 0 0).toNat=i:=by simp
   have e3:((nk i j).getD 1 0).toNat=j:=by simp
   simp only[e2,e3];rw[e1,Xh,<-GV];lia
  ·have:=vm acc (nk (a+i)<|c+j)<|(fM acc<|nk (a+i)<|c+j).getD 0+v*x;rw[aS];lia
def IN(B:gn)(hB:∀p∈B,∃i k:Nat,p.1=nk i k)(φ:Nat->Nat->Int):∀(A acc:gn),Zq acc->(∀p∈A,∃i k:Nat,p.1=nk i k)->Zq (A.foldl (λacc p=>kZ p acc B) acc)/\ds (A.foldl (λacc p=>kZ p acc B) acc) φ=ds acc φ+ds A (λi k=>ds B λa c=>φ (i+a)<|k+c)/\(A.foldl (λacc p=>kZ p acc B) acc).length<=acc.length+A.length*B.length
 |[],acc,h,_=>⟨h,by simp[ds],by simp⟩
 |(k,v)::A,acc,h,hA=>by
  obtain⟨a,c,e⟩:=hA (k,v) (by simp);have e':k=nk a c:=e;subst e';obtain⟨f1,f2,f3⟩:=DV a c v φ B acc h hB;obtain⟨g1,g2,g3⟩:=IN B hB φ A (kZ (nk a c,v) acc B) f1 λp hp=>hA p (by simp[hp]);rw[dB];refine⟨g1,?_,?_⟩
  ·rw[g2,f2,ds];have e2:((nk a c).getD 0 0).toNat=a:=by simp
   have e3:((nk a c).getD 1 0).toNat=c:=by simp
   simp only[e2,e3];lia
  ·rw[aS,BG];lia
def G2(R:Bd->cJ)(h1:Xu X (R []) c false)(h2:∀ys a,Xu X (R<|ys++[a]) c<|decide<|a=[])(h3:∀ys a,Xt X (R<|ys++[a]) body<|.nx<|R ys):∀(n:Nat)(ys:Bd),ys.length=n->∃m,Zm X c body m (R ys) (.nx<|R<|fN ys):=by
 intro n;induction n with
 |zero=>intro ys e;rw[aT e];exact⟨0,.stop h1⟩
 |succ n ih=>
  intro ys e;rcases bV ys with z |⟨zs,a,z⟩;·rw[z]at e;cases e
  ·rw[cG]at z;subst z;by_cases ha:a=[];·obtain⟨m,q⟩:=ih zs (by simpa using e);refine⟨m+1,.step (Xu.eq (h2 zs a)<|aF ha) (h3 zs a) ?_⟩;rw[ha,lE];exact q
   ·refine⟨0,?_⟩;rw[lF zs ha];exact .stop<|Xu.eq (h2 zs a)<|ao ha
def LP(kvs:gn)(k:Nat):be:=eV ((List.range 9).map λi=>(fM kvs<|nk i k).getD 0)
def eU(ds:aU)(d:D):Prop:=∃kvs:gn,ds=[.XQ kvs]/\d=ay (gO kvs)
def wg:∀ds d,eU ds d->ds.length=1:=by rintro _ _ ⟨a,rfl,_⟩;rfl
def lh(ds:aU)(kvs:gn):Prop:=∃b:Bd,ds=[ay b]/\Yy 100 b/\kvs=jr b
def AX:∀ds d,lh ds d->ds.length=1:=by rintro _ _ ⟨a,rfl,_⟩;rfl
def l8(ds:aU)(kvs:gn):Prop:=∃A B:gn,ds=[.XQ A,.XQ B]/\Zq A/\Zq B/\A.length<=1000/\B.length<=1000/\VB (2 ^ 63) B/\kvs=AB A B
def w9:∀ds d,l8 ds d->ds.length=2:=by rintro _ _ ⟨a,b,rfl,_⟩;rfl
def rA(xs:be):gn:=[(nk 0 0,xs.getD 0 0%11-5),(nk 1 0,xs.getD 1 0%7-3),(nk 0 1,xs.getD 2 0%5-2)]
def sK(ds:aU)(kvs:gn):Prop:=∃xs:be,ds=[dJ xs]/\3<=xs.length/\kvs=rA xs
def B7:∀ds d,sK ds d->ds.length=1:=by rintro _ _ ⟨a,rfl,_⟩;rfl
def Fo(k:Nat):be:=([nk 0 0,nk 1 0,nk 0 1,nk 2 0,nk 1 1,nk 0 2]:List be).getD k []
def fH(xs:be):Int:=1+xs.getD 0 0%4
def kG(xs:be):Nat->gn|0=>[]|k+1=>if xs.getD (1+k) 0 / 16%3>0 then fG (kG xs k) (Fo k) (xs.getD (1+k) 0%(2*fH xs+1)-fH xs)else kG xs k
def qx(ds:aU)(kvs:gn):Prop:=∃xs:be,ds=[dJ xs]/\7<=xs.length/\kvs=kG xs 6
def AZ:∀ds d,qx ds d->ds.length=1:=by rintro _ _ ⟨a,rfl,_⟩;rfl
def k9(xs:be):Zq (rA xs)/\Zb 2 (rA xs)/\VB 5 (rA xs):=by
 refine⟨⟨λp hp=>?_,by show[nk 0 0,nk 1 0,nk 0 1].Nodup;decide⟩,λp hp=>?_,λp hp=>?_⟩<;>
 ·unfold rA at hp;rcases ax.mp hp with e |hp
  ·subst e;first
    |exact⟨0,0,rfl⟩|exact⟨0,0,rfl,by lia,by lia⟩
    |(show(xs.getD 0 0%11-5).natAbs<=5;lia)
  ·rcases ax.mp hp with e |hp
   ·subst e;first
     |exact⟨1,0,rfl⟩|exact⟨1,0,rfl,by lia,by lia⟩
     |(show(xs.getD 1 0%7-3).natAbs<=5;lia)
   ·have e:=aP.mp hp;subst e;first
     |exact⟨0,1,rfl⟩|exact⟨0,1,rfl,by lia,by lia⟩
     |(show(xs.getD 2 0%5-2).natAbs<=5;lia)
def N9{k:Nat}(h:k<6):∃a c:Nat,Fo k=nk a c/\a<3/\c<3:=by
 match k,h with
 |0,_=>exact⟨0,0,rfl,by lia,by lia⟩|1,_=>exact⟨1,0,rfl,by lia,by lia⟩
 |2,_=>exact⟨0,1,rfl,by lia,by lia⟩|3,_=>exact⟨2,0,rfl,by lia,by lia⟩
 |4,_=>exact⟨1,1,rfl,by lia,by lia⟩|5,_=>exact⟨0,2,rfl,by lia,by lia⟩
def HU(xs:be):∀k,k<=6->Zb 3 (kG xs k)/\VB 1000000 (kG xs k)/\(kG xs k).length<=k
 |0,_=>⟨λ_ h=>(nomatch h),λ_ h=>(nomatch h),aj _⟩
 |k+1,h=>by
  obtain⟨h1,h2,h3⟩:=HU xs k (by lia);obtain⟨a,c,e,ha,hc⟩:=N9 (k:=k) (by lia);rw[kG];split
  ·rw[e];have hs:1<=fH xs/\fH xs<=4:=by unfold fH;lia
   refine⟨h1.put (by lia) (by lia) _,h2.put ?_,?_⟩;·have:=uK (xs.getD (1+k) 0) (show 0<2*fH xs+1 by lia);have:=BK (xs.getD (1+k) 0) (show 2*fH xs+1≠0 by lia);lia
   ·have:=vm (kG xs k) (nk a c)<|xs.getD (1+k) 0%(2*fH xs+1)-fH xs;lia
  ·exact⟨h1,h2,by lia⟩
structure LB(b:Bd):Prop where
 ok:XA b
 fit:Fit 3 b
 bb:BB 1000000 b
def Qp(h1:Zb 3 kvs)(h2:VB 1000000 kvs):LB (gO kvs):=⟨pO _,Gq h1,HZ h2⟩
def yt(h:DefX P w K mg base k iq (ah im) X)(XJ:mg "range"=none)(Xy:mg "tuple"=none)(XD:mg "len"=none)(c1:Callee X "_law_trim" sJ):Go X iq im eU:=by
 rintro ds d ⟨kvs,rfl,rfl⟩;have t:=h.at';haveI:=h.X1;have b1:=h.bt XJ;have b2:=h.bt Xy;have b3:=h.bt XD;show Xt X [.val<|.XQ kvs,.un,.un] _ _;refine au (gV t 1<|bI ag) ?_;refine au (ρ':=[.val<|.XQ kvs,.own<|((List.range 9).map<|LP kvs).map bh,.un]) (fF t (fz t b1 ai (by decide)<|by decide)<|XO.XW (λi=>[.val<|.XQ kvs,.own<|((List.range i).map<|LP kvs).map bh,.un]) (λi d hi=>?_) rfl ?_) ?_
 ·obtain⟨hin,rfl⟩:=lz hi;refine⟨_,dA t 2,Xt.weak (aq<|dI t 1 rfl (d:=bh<|LP kvs i) (aB t c1 (ab (d:=dJ ((List.range 9).map λj=>(fM kvs<|nk j i).getD 0)) (Xs.eq (XF.Ya (dP (rs:=(List.range 9).map λj=>D.int<|(fM kvs<|nk j i).getD 0) t (iq++[("_law_i":Str)]) (Do<|by decide) (fz t b1 ai (by decide)<|by decide) (by decide) λX' cx=>?_))<|by show D.lst _=D.lst _;rw[bu];rfl) ag) ⟨_,rfl,by simp,rfl⟩) ?_) ?_⟩;·exact X0.gen (λ(j:Nat)=>D.int<|0+(j:Int)) _ (λ(j:Nat)=>[.val<|.XQ kvs,.own<|((List.range i).map<|LP kvs).map bh,.val<|.int (i:Int),.val<|.int (j:Int)]) _ _ (λx hx=>by rw[iH];exact br cx.at' 3) (λx hx y hy=>by rw[iH];exact br cx.at' 3) λx hx=>Jw (k:=nk x i) (n0:=0) cx.at' (Xs.dr<|aa cx.at' 0 rfl)<|ab (aG<|ab (aa cx.at' 3 rfl)<|ab (aa cx.at' 2 rfl) ag)<|ab ai ag
  ·rw[ae,ae,nv];exact uR<|by simp at hin;lia
  ·rw[gj,aA,aA];exact .keep<|.keep<|.forget .nil
 ·rfl
 refine au (vf t<|G2 (λys=>[.val<|.XQ kvs,.own<|ys.map bh,.un]) ?_ (λys a=>?_) (λys a=>?_) _ ((List.range 9).map<|LP kvs) rfl)<|aq<|aW<|fw t b2<|dL t 1 rfl;·exact YB.toT<|wm<|kh t (Y4.p<|dL t 1 rfl) (Xs.p<|XF.Ya<|bI ag) (iw []) (iw [])<|by have:=Er [] [];exact aY not this
 ·refine YB.toT<|wl (kh t (Y4.p<|dL t 1 rfl) (Xs.p<|XF.Ya<|bI ag) ((O6<|ys++[a]).sh<|by decide) (iw []) ?_)<|wn<|iD t (Xs.p (d:=bh a)<|bU (dL t 1 rfl) (fV (c7 t b3<|dL t 1 rfl) ai) ?_) (Xs.p (d:=bh [])<|aG ag) (bz _) (bz _)<|io _ _;·show(!(PyData.list<|XB<|(ys++[a]).map bh).eqv (.list<|XB []))=true;rw[Fg];cases ys with|nil=>simp[XB,PyData.eqv,PyData.eqvAll]|cons r ys=>simp[XB,PyData.eqv,PyData.eqvAll]
  ·rw[ae,xp (g:=bh) (n:=ys.length) (by simp) (by simp)<|by simp];simp
 ·refine Xt.eq (aq<|Qc t 1 rfl<|by simp) ?_;rw[aA];have e:(ys.map bh++[a].map bh).dropLast=ys.map bh:=by simp
  rw[e];rfl
def Cm(h:DefX P w K mg base k YL (ah kU) X)(XJ:mg "range"=none)(XD:mg "len"=none):∀ds d,lh ds d->oS X (ds.map Sl.val++List.replicate (YL.length-ds.length) Sl.un) (bA kU) d:=by
 rintro ds d ⟨b,rfl,hb,rfl⟩;have t:=h.at';haveI:=h.X1;have b1:=h.bt XJ;have b2:=h.bt XD;have hl:=hb.1;show oS X [.val<|ay b,.un,.un,.un] _ _;refine j0 (wU t 1 Bj) ?_;refine j0 (ρ':=[.val<|ay b,.Ye<|jr b,.un,.un]) (fF t (fz t b1 (c7 t b2<|Xs.qt<|aa t 0) (by lia)<|by rw[ae];lia)<|XO.XW (λi=>[.val<|ay b,.Ye<|w5 b i,.un,.un]) (λi d hi=>?_) rfl ?_)<|Ep t 1 rfl
 ·obtain⟨hin,rfl⟩:=lz hi;have hi':i<b.length:=by simpa using hin
  have er:qL (b.map bh) (i:Int)=some (bh<|b.getD i []):=by rw[xp (g:=bh) (n:=i) (by lia) (by lia) hi',List.getD_eq_getElem?_getD,List.getElem?_eq_getElem hi'];rfl
  have hr:=hb.get (by lia) i;refine⟨_,dA t 2,Xt.weak (ρ1:=[.val<|ay b,.Ye<|w5 b<|i+1,.val<|.int i,.un]) (aq<|fF t (fz t b1 (c7 t b2<|Xs.qt<|bU (Xs.qt<|aa t 0) (aa t 2) er) (by lia)<|by rw[ae];lia)<|XO.XW (λj=>[.val<|ay b,.Ye<|IW b i (w5 b i) j,.val<|.int i,.un]) (λj d hj=>?_) rfl ?_)<|.keep<|.keep<|.forget<|.keep .nil⟩
  ·obtain⟨hjn,rfl⟩:=lz hj;have hj':j<(b.getD i []).length:=by simpa using hjn
   obtain⟨g1,g2,_⟩:=vz b (λ_ _=>0) i;obtain⟨_,_,_,g3⟩:=D1 b i g1 g2 (λ_ _=>0) j;have g4:=AG b hb i;refine⟨_,dA t 3,Xt.weak (aq<|Ar t (bU (Xs.qt<|bU (Xs.qt<|aa t 0) (aa t 2) er) (aa t 3)<|kj hj')<|wu (k:=nk j i) t 1 rfl (aG<|ab (aa t 3)<|ab (aa t 2) ag)<|by rw[tY];lia)<|.keep<|.keep<|.keep<|.forget .nil⟩
  ·have e:(fv 0 (((b.getD i []).map D.int).length:Int).toNat).length=(b.getD i []).length:=by simp[fv]
   rw[e];rfl
 ·have e:(fv 0 ((b.map bh).length:Int).toNat).length=b.length:=by simp[fv]
  rw[e];rfl
def yo(h:DefX P w K mg base k Ys (ah iU) X):∀ds d,l8 ds d->oS X (ds.map Sl.val++List.replicate (Ys.length-ds.length) Sl.un) (bA iU) d:=by
 rintro ds d ⟨A,B,rfl,hA,hB,lA,lB,vB,rfl⟩;have t:=h.at';haveI:=h.X1;show oS X [.val<|.XQ A,.val<|.XQ B,.un,.un,.un,.un,.un] _ _;refine j0 (wU t 2 Bj) ?_;refine j0 (ρ':=[.val<|.XQ A,.val<|.XQ B,.Ye<|AB A B,.un,.un,.un,.un]) (fF t (Eu<|aa t 0)<|XO.XW (λi=>[.val<|.XQ A,.val<|.XQ B,.Ye<|(A.take i).foldl (λacc p=>kZ p acc B) [],.un,.un,.un,.un]) (λi d hi=>?_) rfl ?_)<|Ep t 2 rfl
 ·rw[List.getElem?_map]at hi;cases hp:A[i]? with
  |none=>rw[hp]at hi;cases hi
  |some p=>
  rw[hp]at hi;cases hi;obtain⟨key,v⟩:=p;have hm:(key,v)∈A:=List.mem_of_getElem? hp;obtain⟨a,c,e⟩:=hA.keys _ hm;have e':key=nk a c:=e;subst e';have hv:=n8 hA.nd hm;have zQC:i<A.length:=(List.getElem?_eq_some_iff.mp hp).1;obtain⟨f1,_,f3⟩:=IN B hB.keys (λ_ _=>0) (A.take i) [] .nil λp hp=>hA.keys p<|cX hp;have f3':((A.take i).foldl (λacc p=>kZ p acc B) []).length<=1000*1000:=by
   have h1:(A.take i).length<=1000:=by rw[bC];lia
   have h2:=SZ h1 lB;have h3:([]:gn).length=0:=rfl;lia
  have et:A.take (i+1)=A.take i++[(nk a c,v)]:=iI hp;refine⟨_,gN t 3 4,Xt.weak (ρ1:=[.val<|.XQ A,.val<|.XQ B,.Ye<|(A.take<|i+1).foldl (λacc p=>kZ p acc B) [],.val<|.int a,.val<|.int c,.un,.un]) (aq<|fF t (Eu<|aa t 1)<|XO.XW (λj=>[.val<|.XQ A,.val<|.XQ B,.Ye<|kZ (nk a c,v) ((A.take i).foldl (λacc p=>kZ p acc B) [])<|B.take j,.val<|.int a,.val<|.int c,.un,.un]) (λj d hj=>?_) rfl ?_)<|.keep<|.keep<|.keep<|.forget<|.forget<|.keep<|.keep .nil⟩
  ·rw[List.getElem?_map]at hj;cases hq:B[j]? with
   |none=>rw[hq]at hj;cases hj
   |some q=>
   rw[hq]at hj;cases hj;obtain⟨zFC,v2⟩:=q;have hm2:(zFC,v2)∈B:=List.mem_of_getElem? hq;obtain⟨a2,c2,e⟩:=hB.keys _ hm2;have e':zFC=nk a2 c2:=e;subst e';have hv2:=n8 hB.nd hm2;have hb2:=vB _ hm2;have hb3:v2.natAbs<=2 ^ 63:=hb2;have et2:B.take (j+1)=B.take j++[(nk a2 c2,v2)]:=iI hq;obtain⟨_,_,g3⟩:=DV a c v (λ_ _=>0) (B.take j) _ f1 λp hp=>hB.keys p<|cX hp;have g4:(B.take j).length<=1000:=by rw[bC];lia
   refine⟨_,gN t 5 6,Xt.weak (aq<|Ar t (cu (Jw (k:=wJ (nk a c)<|nk a2 c2) (n0:=0) t (Sj t 2 rfl)<|ab (aG<|ab (cu (aa t 3)<|aa t 5)<|ab (cu (aa t 4)<|aa t 6) ag)<|ab ai ag)<|mU (Em (k:=nk a c) t (Xs.dr<|aa t 0) (aG<|ab (aa t 3)<|ab (aa t 4) ag) hv) (Em (k:=nk a2 c2) t (Xs.dr<|aa t 1) (aG<|ab (aa t 5)<|ab (aa t 6) ag) hv2)<|oG (by lia)<|by lia)<|wu (k:=wJ (nk a c)<|nk a2 c2) t 2 rfl (aG<|ab (cu (aa t 3)<|aa t 5)<|ab (cu (aa t 4)<|aa t 6) ag)<|by rw[tY];lia) ?_⟩;rw[et2,show kZ (nk a c,v) ((A.take i).foldl (λacc p=>kZ p acc B) []) (B.take j++[(nk a2 c2,v2)])=_ from gu];exact .keep<|.keep<|.keep<|.keep<|.keep<|.forget<|.forget .nil
  ·rw[ae,a7,et,gu];rfl
 ·rw[ae,a7];rfl
def IQ{n m l a c:Nat}(v:Int)(ha:a<n)(hc:c<n)(hl:n+m<=l+1):∀(B acc:gn),Zb m B->Zb l acc->Zb l (kZ (nk a c,v) acc B)|[],acc,_,h=>h|(k,x)::B,acc,hB,h=>by obtain⟨i,j,e,hi,hj⟩:=hB (k,x) (by simp);have e':k=nk i j:=e;subst e';show Zb l (kZ (nk a c,v) (fG acc (wJ (nk a c)<|nk i j)<|(fM acc<|wJ (nk a c)<|nk i j).getD 0+v*x) B);rw[JL];exact IQ v ha hc hl B _ (λp hp=>hB p<|by simp[hp])<|h.put (by lia) (by lia) _
def IP(v:Int)(hv:v.natAbs<=5):∀(B acc:gn)(M:Nat),VB 5 B->VB M acc->VB (M+25*B.length) (kZ (nk a c,v) acc B)
 |[],acc,M,_,h=>h
 |(k,x)::B,acc,M,hB,h=>by
  have hx:x.natAbs<=5:=hB (k,x) (by simp);have h1:(v*x).natAbs<=25:=by rw[Int.natAbs_mul];exact SZ hv hx
  have h2:VB (M+25) (fG acc (wJ (nk a c) k)<|(fM acc<|wJ (nk a c) k).getD 0+v*x):=VB.put (λp hp=>aJ (h p hp)<|by lia)<|by have:=h.val<|wJ (nk a c) k;lia
  have h3:=IP (a:=a) (c:=c) v hv B _ (M+25) (λp hp=>hB p<|by simp[hp]) h2;intro p hp;have:=h3 p hp;have e:((k,x)::B).length=B.length+1:=rfl;lia
def IM{n m l:Nat}(hl:n+m<=l+1)(hB:Zb m B):∀(A acc:gn),Zb n A->Zb l acc->Zb l (A.foldl (λacc p=>kZ p acc B) acc)|[],acc,_,h=>h|(k,v)::A,acc,hA,h=>by obtain⟨i,j,e,hi,hj⟩:=hA (k,v) (by simp);have e':k=nk i j:=e;subst e';rw[dB];exact IM hl hB A _ (λp hp=>hA p<|by simp[hp])<|IQ v hi hj hl B acc hB h
def IL(hB:VB 5 B):∀(A acc:gn)(M:Nat),(∀p∈A,∃i k:Nat,p.1=nk i k)->VB 5 A->VB M acc->VB (M+25*(A.length*B.length)) (A.foldl (λacc p=>kZ p acc B) acc)
 |[],acc,M,_,_,h=>by
  have e:([]:gn).length*B.length=0:=by simp
  rw[e];exact h
 |(k,v)::A,acc,M,hk,hA,h=>by
  obtain⟨i,j,e⟩:=hk (k,v) (by simp);have e':k=nk i j:=e;subst e';rw[dB];have h1:=IP (a:=i) (c:=j) v (hA (nk i j,v)<|by simp) B acc M hB h;have h2:=IL hB A _ _ (λp hp=>hk p<|by simp[hp]) (λp hp=>hA p<|by simp[hp]) h1;intro p hp;have:=h2 p hp;have e:((nk i j,v)::A).length*B.length=A.length*B.length+B.length:=by rw[aS,BG]
  lia
def wX(kA:Zq A)(iA:Zb 2 A)(iB:Zb 2 B)(vA:VB 5 A)(vB:VB 5 B)(lA:A.length<=3)(lB:B.length<=3):Zb 3 (AB A B)/\VB 1000000 (AB A B):=by have h1:=IM (n:=2) (m:=2) (l:=3) (by lia) iB A [] iA λ_ h=>(nomatch h);have h2:=IL vB A [] 0 kA.keys vA λ_ h=>(nomatch h);refine⟨h1,λp hp=>?_⟩;have h3:=h2 p hp;have h4:=SZ lA lB;lia
def Ld(xs:be):gn:=[(nk 0 0,xs.getD 1 0%11-5),(nk 1 0,xs.getD 2 0%7-3),(nk 2 0,xs.getD 3 0%5-2)]
def CG(xs:be):gn:=[(nk 0 0,xs.getD 1 0%5-2),(nk 1 0,1)]
def Lc(xs:be):gn:=[(nk 0 0,0-xs.getD 1 0%10),(nk 2 0,1+xs.getD 2 0%2),(nk 0 2,1+xs.getD 3 0%2)]
def Jb(xs:be):gn:=if xs.getD 0 0%8<2 then kG (fX xs (some 1) none) 6 else if xs.getD 0 0%8=2 then Ld xs else if xs.getD 0 0%8=3 then AB (rA<|fX xs (some 1) none) (rA<|fX xs (some 4) none)else if xs.getD 0 0%8=4 then AB (rA<|fX xs (some 1) none) (rA [xs.getD 1 0,xs.getD 2 0,xs.getD 3 0])else if xs.getD 0 0%8=5 then AB (CG xs) (rA<|fX xs (some 4) none)else if xs.getD 0 0%8=6 then Lc xs else rA<|fX xs (some 1) none
def OY(c:Int):Bd:=gO<|Jb<|jZ c 12
def Zb.mono{m:Nat}(h:Zb n kvs)(q:n<=m):Zb m kvs:=λp hp=>let⟨i,k,e,a,b⟩:=h p hp;⟨i,k,e,by lia,by lia⟩
def VB.mono{m:Nat}(h:VB n kvs)(q:n<=m):VB m kvs:=λp hp=>aJ (h p hp) q
def E9(xs:be):Zq (CG xs)/\Zb 2 (CG xs)/\VB 5 (CG xs):=by
 refine⟨⟨λp hp=>?_,by show[nk 0 0,nk 1 0].Nodup;decide⟩,λp hp=>?_,λp hp=>?_⟩<;>
 ·unfold CG at hp;rcases ax.mp hp with e |hp
  ·subst e;first
    |exact⟨0,0,rfl⟩|exact⟨0,0,rfl,by lia,by lia⟩
    |(show(xs.getD 1 0%5-2).natAbs<=5;lia)
  ·have e:=aP.mp hp;subst e;first
    |exact⟨1,0,rfl⟩|exact⟨1,0,rfl,by lia,by lia⟩
    |decide
def Mu(xs:be):Zb 3 (Jb xs)/\VB 1000000 (Jb xs):=by
 unfold Jb;split;·have:=HU (fX xs (some 1) none) 6<|aj _;exact⟨this.1,this.2.1⟩
 split
 ·refine⟨λp hp=>?_,λp hp=>?_⟩<;>
  ·unfold Ld at hp;rcases ax.mp hp with e |hp
   ·subst e;first
     |exact⟨0,0,rfl,by lia,by lia⟩|(show(xs.getD 1 0%11-5).natAbs<=1000000;lia)
   ·rcases ax.mp hp with e |hp
    ·subst e;first
      |exact⟨1,0,rfl,by lia,by lia⟩|(show(xs.getD 2 0%7-3).natAbs<=1000000;lia)
    ·have e:=aP.mp hp;subst e;first
      |exact⟨2,0,rfl,by lia,by lia⟩|(show(xs.getD 3 0%5-2).natAbs<=1000000;lia)
 split;·obtain⟨a1,a2,a3⟩:=k9<|fX xs (some 1) none;obtain⟨b1,b2,b3⟩:=k9<|fX xs (some 4) none;exact wX a1 a2 b2 a3 b3 (aj _)<|aj _
 split;·obtain⟨a1,a2,a3⟩:=k9<|fX xs (some 1) none;obtain⟨b1,b2,b3⟩:=k9 [xs.getD 1 0,xs.getD 2 0,xs.getD 3 0];exact wX a1 a2 b2 a3 b3 (aj _)<|aj _
 split;·obtain⟨a1,a2,a3⟩:=E9 xs;obtain⟨b1,b2,b3⟩:=k9<|fX xs (some 4) none;exact wX a1 a2 b2 a3 b3 (by show 2<=3;lia)<|aj _
 split
 ·refine⟨λp hp=>?_,λp hp=>?_⟩<;>
  ·unfold Lc at hp;rcases ax.mp hp with e |hp
   ·subst e;first
     |exact⟨0,0,rfl,by lia,by lia⟩|(show(0-xs.getD 1 0%10).natAbs<=1000000;lia)
   ·rcases ax.mp hp with e |hp
    ·subst e;first
      |exact⟨2,0,rfl,by lia,by lia⟩|(show(1+xs.getD 2 0%2).natAbs<=1000000;lia)
    ·have e:=aP.mp hp;subst e;first
      |exact⟨0,2,rfl,by lia,by lia⟩|(show(1+xs.getD 3 0%2).natAbs<=1000000;lia)
 ·obtain⟨a1,a2,a3⟩:=k9<|fX xs (some 1) none;exact⟨a2.mono<|by lia,a3.mono<|by lia⟩
def Mv(c:Int):LB (OY c):=Qp (Mu _).1 (Mu _).2
def qy(ds:aU)(d:D):Prop:=∃c:Int,ds=[.int c]/\d=ay (OY c)
def A0:∀ds d,qy ds d->ds.length=1:=by rintro _ _ ⟨a,rfl,_⟩;rfl
def Gh{xs:be}{n m:Nat}(h:xs.length=n)(hm:m<=n):(fX xs (some (m:Int)) none).length=n-m:=by
 unfold fX;have e1:HT.XS xs.length 0 (some (m:Int))=m:=by simp only[HT.XS];split<;>lia
 have e2:HT.XS xs.length xs.length none=xs.length:=by simp[HT.XS]
 rw[bC,de,e1,e2,h];lia
def EH(h:DefX P w K mg base k Y1 (ah mF) X):∀ds d,sK ds d->oS X (ds.map Sl.val++List.replicate (Y1.length-ds.length) Sl.un) (bA mF) d:=by rintro ds d ⟨xs,rfl,hl,rfl⟩;have t:=h.at';haveI:=h.X1;show oS X [.val<|dJ xs] _ _;refine MZ<|Yc.eq (zx t<|YN.cons (k:=nk 0 0) (aG<|ab ai<|ab ai ag) (fV (bS (i:=xs.getD 0 0) (bU (Xs.ql<|aa t 0) ai<|kj (n:=0)<|by lia) ai<|by decide) ai)<|YN.cons (k:=nk 1 0) (aG<|ab ai<|ab ai ag) (fV (bS (i:=xs.getD 1 0) (bU (Xs.ql<|aa t 0) ai<|kj (n:=1)<|by lia) ai<|by decide) ai)<|YN.cons (k:=nk 0 1) (aG<|ab ai<|ab ai ag) (fV (bS (i:=xs.getD 2 0) (bU (Xs.ql<|aa t 0) ai<|kj (n:=2)<|by lia) ai<|by decide) ai) .nil) rfl
set_option maxHeartbeats 400000
def pe:aU:=[.tup [.int 0,.int 0],.tup [.int 1,.int 0],.tup [.int 0,.int 1],.tup [.int 2,.int 0],.tup [.int 1,.int 1],.tup [.int 0,.int 2]]
def J5{i:Nat}(h:i<6):qL pe (i:Int)=some (.tup<|(Fo i).map D.int):=by
 match i,h with
 |0,_=>rfl|1,_=>rfl
 |2,_=>rfl|3,_=>rfl
 |4,_=>rfl|5,_=>rfl
def Cn(h:DefX P w K mg base k YM (ah kX) X)(XJ:mg "range"=none):∀ds d,qx ds d->oS X (ds.map Sl.val++List.replicate (YM.length-ds.length) Sl.un) (bA kX) d:=by
 rintro ds d ⟨xs,rfl,hl,rfl⟩;have t:=h.at';haveI:=h.X1;have b1:=h.bt XJ;show oS X [.val<|dJ xs,.un,.un,.un,.un] _ _;have two:∀{ρ:cJ}{i j:Int}{pos p1 p2:Pos}{x1 n1 n2:Nat},Xs X ρ (.Tuple [.Constant (.int i) n1 p1,.Constant (.int j) n2 p2] x1 pos) (.tup [.int i,.int j]):=aG<|ab ai<|ab ai ag;refine j0 (df (d:=.int<|fH xs) t 1<|cu ai<|bS (i:=xs.getD 0 0) (bU (Xs.ql<|aa t 0) ai<|kj (n:=0)<|by lia) ai<|by decide) ?_;refine j0 (wU t 2 Bj) ?_;refine j0 (ρ':=[.val<|dJ xs,.val<|.int<|fH xs,.Ye [],.own pe,.un]) ?_ ?_
 ·refine gV (xs:=pe) t 3 ?_ (hs:=?_);·refine bI (ds:=pe) ?_ (hl:=by rw[tY];decide);refine ab two ?_;refine ab two ?_;refine ab two ?_;refine ab two ?_;refine ab two ?_;refine ab two ?_;exact ag
  ·rfl
 refine j0 (ρ':=[.val<|dJ xs,.val<|.int<|fH xs,.Ye<|kG xs 6,.own pe,.un]) (fF t (fz t b1 ai (by decide)<|by decide)<|XO.XW (λi=>[.val<|dJ xs,.val<|.int<|fH xs,.Ye<|kG xs i,.own pe,.un]) (λi d hi=>?_) rfl ?_)<|Ep t 2 rfl;rotate_left
 ·have e:(fv 0 (6:Int).toNat).length=6:=by simp[fv]
  exact aY (λn=>[Sl.val<|dJ xs,Sl.val<|.int<|fH xs,Sl.Ye<|kG xs n,Sl.own pe,Sl.un]) e
 obtain⟨hin,rfl⟩:=lz hi;have hi':i<6:=by simpa using hin
 obtain⟨_,_,l3⟩:=HU xs i (by lia);have hs:1<=fH xs/\fH xs<=4:=by unfold fH;lia
 have e1:(1:Int)+(i:Int)=((1+i:Nat):Int):=by lia
 have hx:qL (xs.map D.int) (1+(i:Int))=some (.int<|xs.getD (1+i) 0):=by rw[e1];exact kj<|by lia
 have hk:qL pe (i:Int)=some (.tup<|(Fo i).map D.int):=by exact J5 hi'
 refine⟨_,dA t 4,Xt.weak (ρ1:=[.val<|dJ xs,.val<|.int<|fH xs,.Ye<|kG xs<|i+1,.own pe,.val<|.int i]) (aq ?_)<|.keep<|.keep<|.keep<|.keep<|.forget .nil⟩;by_cases hc:xs.getD (1+i) 0 / 16%3>0;·refine dj (Xu.eq (i6 (bS (pL (i:=xs.getD (1+i) 0) t (bU (Xs.ql<|aa t 0) (cu ai<|aa t 4) hx) ai<|by decide) ai<|by decide) ai)<|aF hc)<|Xt.eq (aq<|Ar t (fV (bS (i:=xs.getD (1+i) 0) (bU (Xs.ql<|aa t 0) (cu ai<|aa t 4) hx) (cu (mU (i:=2) (j:=fH xs) ai (aa t 1)<|rq (by decide)<|by decide) ai)<|by lia)<|aa t 1)<|wu (k:=Fo i) t 2 rfl (bU (dL t 3 rfl) (aa t 4) hk)<|by rw[tY];lia) ?_;rw[show kG xs (i+1)=_ from ar hc];rfl
 ·refine bw (Xu.eq (i6 (bS (pL (i:=xs.getD (1+i) 0) t (bU (Xs.ql<|aa t 0) (cu ai<|aa t 4) hx) ai<|by decide) ai<|by decide) ai)<|ao hc)<|Xt.eq bc ?_;rw[show kG xs (i+1)=kG xs i from ak hc];rfl
set_option maxHeartbeats 8000000
def ER(h:DefX P w K mg base k qd (ah kY) X)(cN:Callee X "_law_numbers" jg)(cB:Callee X "_law_board_of" eU)(cL:Yz X "_law_line" sK)(cC:Yz X "_law_conic" qx)(cP:Yz X "_law_product" l8):Go X qd kY qy:=by
 rintro ds d ⟨c,rfl,rfl⟩;have t:=h.at';haveI:=h.X1;show Xt X [.val<|.int c,.un,.un] _ _;refine au (df (d:=dJ<|jZ c 12) t 1<|aB t cN (ab (aa t 0)<|ab ai ag) ⟨c,12,rfl,by decide,rfl⟩) ?_;have hl:(jZ c 12).length=12:=sY c 12;have e0:OY c=gO (Jb<|jZ c 12):=rfl;rw[e0];generalize jZ c 12=xs at hl;have l1:(fX xs (some 1) none).length=11:=Gh (m:=1) hl (by lia);have l4:(fX xs (some 4) none).length=8:=Gh (m:=4) hl (by lia);have hv:∀n:Nat,n<12->qL (xs.map D.int) (n:Int)=some (.int<|xs.getD n 0):=λn hn=>kj (by lia);refine au (df (d:=.int<|xs.getD 0 0%8) t 2<|bS (i:=xs.getD 0 0) (bU (Xs.ql<|aa t 1) ai<|hv 0<|by lia) ai<|by decide) ?_;show Xt X [.val<|.int c,.val<|dJ xs,.val<|.int<|xs.getD 0 0%8] _ _;have fin:∀{kvs:gn},Jb xs=kvs->eU [.XQ kvs] (ay<|gO<|Jb xs):=λ{kvs}e=>⟨kvs,rfl,by rw[e]⟩;have s1:∀{pos p2 p:Pos}{x1:Nat},Xs X [.val<|.int c,.val<|dJ xs,.val<|.int<|xs.getD 0 0%8] (.Subscript (.Name "_law_xs" p) (.Slice (some<|.Constant (.int 1) x1 p) none none p2) pos) (dJ<|fX xs (some 1) none)->True:=λ_=>trivial;clear s1;by_cases h0:xs.getD 0 0%8<2;·refine ei<|dj (Xu.eq (fy (aa t 2) ai)<|aF h0)<|aq<|aW<|aB t cB (ab (Yc.Ya<|ip t cC (ab (d:=dJ<|fX xs (some 1) none) (Xs.eq (XF.Ya<|fu (Xs.ql<|aa t 1) (dG ai) dD)<|by rw[ic]) ag) ⟨_,rfl,by lia,rfl⟩) ag)<|fin ?_;unfold Jb;rw[ar h0]
 refine au (bw (Xu.eq (fy (aa t 2) ai)<|ao h0) bc) ?_;by_cases h2:xs.getD 0 0%8=2
 ·refine ei<|dj (Xu.eq (bZ (aa t 2) ai)<|aF h2)<|aq<|aW<|aB t cB (ab (d:=.XQ<|Ld xs) ?_ ag)<|fin ?_;·refine Yc.Ya<|Yc.eq (zx t<|YN.cons (k:=nk 0 0) (aG<|ab ai<|ab ai ag) (fV (bS (i:=xs.getD 1 0) (bU (Xs.ql<|aa t 1) ai<|hv 1<|by lia) ai<|by decide) ai)<|YN.cons (k:=nk 1 0) (aG<|ab ai<|ab ai ag) (fV (bS (i:=xs.getD 2 0) (bU (Xs.ql<|aa t 1) ai<|hv 2<|by lia) ai<|by decide) ai)<|YN.cons (k:=nk 2 0) (aG<|ab ai<|ab ai ag) (fV (bS (i:=xs.getD 3 0) (bU (Xs.ql<|aa t 1) ai<|hv 3<|by lia) ai<|by decide) ai) .nil) rfl
  ·unfold Jb;rw[ak h0,ar h2]
 refine au (bw (Xu.eq (bZ (aa t 2) ai)<|ao h2) bc) ?_;obtain⟨a1,a2,a3⟩:=k9<|fX xs (some 1) none;obtain⟨d1,d2,d3⟩:=k9<|fX xs (some 4) none;by_cases h3:xs.getD 0 0%8=3;·refine ei<|dj (Xu.eq (bZ (aa t 2) ai)<|aF h3)<|aq<|aW<|aB t cB (ab (Yc.Ya<|ip t cP (ab (Yc.Ya<|ip t cL (ab (d:=dJ<|fX xs (some 1) none) (Xs.eq (XF.Ya<|fu (Xs.ql<|aa t 1) (dG ai) dD)<|by rw[ic]) ag) ⟨_,rfl,by lia,rfl⟩)<|ab (Yc.Ya<|ip t cL (ab (d:=dJ<|fX xs (some 4) none) (Xs.eq (XF.Ya<|fu (Xs.ql<|aa t 1) (dG ai) dD)<|by rw[ic]) ag) ⟨_,rfl,by lia,rfl⟩) ag) ⟨_,_,rfl,a1,d1,(show(3:Nat)<=1000 by decide),(show(3:Nat)<=1000 by decide),d3.mono<|by decide,rfl⟩) ag)<|fin ?_;unfold Jb;rw[ak h0,ak h2,ar h3]
 refine au (bw (Xu.eq (bZ (aa t 2) ai)<|ao h3) bc) ?_;by_cases h4:xs.getD 0 0%8=4;·obtain⟨g1,g2,g3⟩:=k9 [xs.getD 1 0,xs.getD 2 0,xs.getD 3 0];refine ei<|dj (Xu.eq (bZ (aa t 2) ai)<|aF h4)<|aq<|aW<|aB t cB (ab (Yc.Ya<|ip t cP (ab (Yc.Ya<|ip t cL (ab (d:=dJ<|fX xs (some 1) none) (Xs.eq (XF.Ya<|fu (Xs.ql<|aa t 1) (dG ai) dD)<|by rw[ic]) ag) ⟨_,rfl,by lia,rfl⟩)<|ab (Yc.Ya<|ip t cL (ab (d:=dJ [xs.getD 1 0,xs.getD 2 0,xs.getD 3 0]) (XF.Ya<|bI<|ab (bU (Xs.ql<|aa t 1) ai<|hv 1<|by lia)<|ab (bU (Xs.ql<|aa t 1) ai<|hv 2<|by lia)<|ab (bU (Xs.ql<|aa t 1) ai<|hv 3<|by lia) ag) ag) ⟨_,rfl,aj _,rfl⟩) ag) ⟨_,_,rfl,a1,g1,(show(3:Nat)<=1000 by decide),(show(3:Nat)<=1000 by decide),g3.mono<|by decide,rfl⟩) ag)<|fin ?_;unfold Jb;rw[ak h0,ak h2,ak h3,ar h4]
 refine au (bw (Xu.eq (bZ (aa t 2) ai)<|ao h4) bc) ?_;by_cases h5:xs.getD 0 0%8=5
 ·obtain⟨g1,g2,g3⟩:=E9 xs;refine ei<|dj (Xu.eq (bZ (aa t 2) ai)<|aF h5)<|aq<|aW<|aB t cB (ab (Yc.Ya<|ip t cP (ab (d:=.XQ<|CG xs) ?_<|ab (Yc.Ya<|ip t cL (ab (d:=dJ<|fX xs (some 4) none) (Xs.eq (XF.Ya<|fu (Xs.ql<|aa t 1) (dG ai) dD)<|by rw[ic]) ag) ⟨_,rfl,by lia,rfl⟩) ag) ⟨_,_,rfl,g1,d1,(show(2:Nat)<=1000 by decide),(show(3:Nat)<=1000 by decide),d3.mono<|by decide,rfl⟩) ag)<|fin ?_;·refine Yc.Ya<|Yc.eq (zx t<|YN.cons (k:=nk 0 0) (aG<|ab ai<|ab ai ag) (fV (bS (i:=xs.getD 1 0) (bU (Xs.ql<|aa t 1) ai<|hv 1<|by lia) ai<|by decide) ai)<|YN.cons (k:=nk 1 0) (aG<|ab ai<|ab ai ag) ai .nil) rfl
  ·unfold Jb;rw[ak h0,ak h2,ak h3,ak h4,ar h5]
 refine au (bw (Xu.eq (bZ (aa t 2) ai)<|ao h5) bc) ?_;by_cases h6:xs.getD 0 0%8=6
 ·refine ei<|dj (Xu.eq (bZ (aa t 2) ai)<|aF h6)<|aq<|aW<|aB t cB (ab (d:=.XQ<|Lc xs) ?_ ag)<|fin ?_;·refine Yc.Ya<|Yc.eq (zx t<|YN.cons (k:=nk 0 0) (aG<|ab ai<|ab ai ag) (fV ai<|bS (i:=xs.getD 1 0) (bU (Xs.ql<|aa t 1) ai<|hv 1<|by lia) ai<|by decide)<|YN.cons (k:=nk 2 0) (aG<|ab ai<|ab ai ag) (cu ai<|bS (i:=xs.getD 2 0) (bU (Xs.ql<|aa t 1) ai<|hv 2<|by lia) ai<|by decide)<|YN.cons (k:=nk 0 2) (aG<|ab ai<|ab ai ag) (cu ai<|bS (i:=xs.getD 3 0) (bU (Xs.ql<|aa t 1) ai<|hv 3<|by lia) ai<|by decide) .nil) rfl
  ·unfold Jb;rw[ak h0,ak h2,ak h3,ak h4,ak h5,ar h6]
 refine au (bw (Xu.eq (bZ (aa t 2) ai)<|ao h6) bc) ?_;refine aq<|aW<|aB t cB (ab (Yc.Ya<|ip t cL (ab (d:=dJ<|fX xs (some 1) none) (Xs.eq (XF.Ya<|fu (Xs.ql<|aa t 1) (dG ai) dD)<|by rw[ic]) ag) ⟨_,rfl,by lia,rfl⟩) ag)<|fin ?_;unfold Jb;rw[ak h0,ak h2,ak h3,ak h4,ak h5,ak h6]
end My
set_option maxHeartbeats 4000000
namespace My
open PySem L2 L2.EV PyProof.Rows
variable {K:bL}
def Z6:Str:="0123456789"
def ET(w:bH):Prop:=w≠[]/\(∀c∈w,48<=c/\c<=57)/\w.length<=12/\(w.head?=some 48->w=[48])
def Yq(w:bH):Prop:=ET w\/w=[120]\/w=[121]
def ML:∀c:Nat,48<=c->c<=57->(!(Builtin.Str.occurrences Z6 (S [c]) 0 Z6.length 1).isEmpty)=true:=λc h1 h2=>by
 have:∀c:Nat,c<58->48<=c->(!(Builtin.Str.occurrences Z6 (S [c]) 0 Z6.length 1).isEmpty)=true:=by decide
 exact this c (by lia) h1
def Up:(!(Builtin.Str.occurrences Z6 (S [120]) 0 Z6.length 1).isEmpty)=false:=by decide
def Uo:(!(Builtin.Str.occurrences Z6 (S [121]) 0 Z6.length 1).isEmpty)=false:=by decide
def SK:∀c:Nat,48<=c->c<=57->al c=true:=λc h1 h2=>by
 have:∀c:Nat,c<58->48<=c->al c=true:=by decide
 exact this c (by lia) h1
def Wd:al 120=true:=by decide
def Wc:al 121=true:=by decide
def Yq.lt(h:Yq w):∀c∈w,c<128:=by
 rcases h with h |rfl |rfl;·intro c hc;have:=h.2.1 c hc;lia
 ·intro c hc;simp at hc;lia
 ·intro c hc;simp at hc;lia
def Yq.al(h:Yq w):∀c∈w,al c=true:=by
 rcases h with h |rfl |rfl;·intro c hc;have:=h.2.1 c hc;exact SK c this.1 this.2
 ·intro c hc;simp at hc;subst hc;exact Wd
 ·intro c hc;simp at hc;subst hc;exact Wc
def Yq.ne(h:Yq w):w≠[]:=by
 rcases h with h |rfl |rfl;·exact h.1
 ·simp
 ·simp
def Yq.len(h:Yq w):w.length<=12:=by
 rcases h with h |rfl |rfl;·exact h.2.2.1
 ·simp
 ·simp
def VC{n:Nat}(h:n<=2000):n<=sizeLine:=aJ h<|cF rfl
def Y2{cs:bH}(h:cs.length<=2000):(S cs).length<=sizeLine:=by rw[e8];exact VC h
def QC:List bH:=[[120],[121],[110,111,116],[97,110,100],[111,114],[115,111,109,101],[97,108,108]]
def ZA(w:bH):Prop:=ET w\/w∈QC
def Yq.v(h:Yq w):ZA w:=by
 rcases h with h |h |h;·exact .inl h
 ·exact .inr<|by rw[h];decide
 ·exact .inr<|by rw[h];decide
def Lb:∀w∈QC,(∀c∈w,c<128)/\w≠[]/\w.length<=12:=by decide
def Tj:∀w∈QC,∀c∈w,al c=true:=by decide
def ZA.lt(h:ZA w):∀c∈w,c<128:=by
 rcases h with h |h;·exact Yq.lt<|.inl h
 ·exact(Lb w h).1
def ZA.al(h:ZA w):∀c∈w,al c=true:=by
 rcases h with h |h;·exact Yq.al<|.inl h
 ·exact Tj w h
def ZA.ne(h:ZA w):w≠[]:=by
 rcases h with h |h;·exact h.1
 ·exact(Lb w h).2.1
def ZA.len(h:ZA w):w.length<=12:=by
 rcases h with h |h;·exact h.2.2.1
 ·exact(Lb w h).2.2
def sC(ds:aU)(d:D):Prop:=∃w:bH,ds=[.str<|S w]/\Yq w/\((ET w/\d=.bl true)\/((w=[120]\/w=[121])/\d=.bl false))
def BZ:∀ds d,sC ds d->ds.length=1:=by rintro _ _ ⟨a,rfl,_⟩;rfl
def qo(ds:aU)(d:D):Prop:=∃pre w post:bH,ds=[.str<|S<|pre++w++post,.int pre.length]/\(∀c∈w,al c=true)/\(∀c,post.head?=some c->al c=false)/\(pre++w++post).length<=2000/\d=.int ((pre.length:Int)+(w.length:Int))
def AU:∀ds d,qo ds d->ds.length=2:=by rintro _ _ ⟨a,b,c,rfl,_⟩;rfl
def iF(ds:aU)(d:D):Prop:=∃w:bH,ds=[.str<|S w]/\ZA w/\d=.XY
def rF:∀ds d,iF ds d->ds.length=1:=by rintro _ _ ⟨a,rfl,_⟩;rfl
def Np:PyData:=.tuple [.str "x",.str "y",.str "not",.str "and",.str "or",.str "some",.str "all"]
def ui{ρ:cJ}{v:Int}[Z1 X](t:At X N sc)(i:Nat)(hr:ρ[i]?=some (.val<|.int n))(h:Xs X ρ e (.int m))(hv:v=n+m)(hi:N[i]?=some x:=by rfl)(hx:nc sc x=true:=by rfl):X5 X ρ (.AugAssign (.Name x pos') .Add e pos) (.nx<|ρ.set i<|.val<|.int v):=by subst hv;exact LD t i hr h hi hx
def Gy(h:DefX P w K mg base k rW (ah jV) X)(gF:∃tk,mg "FIGURES"=some (.str Z6 tk)):Go X rW jV sC:=by
 rintro ds r ⟨w',rfl,hw,hd⟩;have t:=h.at';have gF':∃tk,X.mg "FIGURES"=some (.str Z6 tk):=by rw[h.YQ];exact gF
 obtain⟨c,cs,rfl⟩:∃c cs,w'=c::cs:=by cases w' with|nil=>exact absurd rfl hw.ne|cons c cs=>exact⟨c,cs,rfl⟩
 have hl:=hw.len;have hq:(!(S (c::cs)==("":Str)))=true:=by
  have hn:S (c::cs)≠S []:=λe=>by have:=e9 e;cases this
  have e0:("":Str)=S []:=by decide
  rw[e0];simpa using hn
 have hin:∀(u:Bool),(!(Builtin.Str.occurrences Z6 (S [c]) 0 Z6.length 1).isEmpty)=u->Xt X [.val<|.str<|S<|c::cs] (bA jV) (.rt<|.bl u):=λu hu=>aq<|aW<|Xs.eq (mM (MO t (aa t 0).p Xr.p (gv<|fO hw.lt) (gv<|by decide) hq) λ_=>MQ (iz (aa t 0) ai (Y2<|by lia)<|by rw[j1];exact jN rfl) (Ba t gF') hu) (by rw[xC]);rcases hd with⟨hn,rfl⟩ |⟨e,rfl⟩;·have:=hn.2.1 c (by simp);exact hin true<|ML c this.1 this.2
 ·refine hin false ?_;rcases e with e |e;·cases e;exact Up
  ·cases e;exact Uo
def EM(h:DefX P w K mg base k pX (ah kR) X)(XD:mg "len"=none):Go X pX kR qo:=by
 rintro ds r ⟨pre,u,post,rfl,hu,hp,hz,rfl⟩;have t:=h.at';haveI:=h.X1;have b1:=h.bt XD;refine au (df t 2<|aa t 1) ?_;refine oM t (λi:Nat=>[.val<|.str<|S<|pre++u++post,.val<|.int pre.length,.val<|.int<|(pre.length:Int)+(i:Int)]) (λi=>i<=u.length) (λi=>i=u.length) (λi=>u.length-i) 0 (bB _) (λi hi=>?_) λi hi=>?_
 ·by_cases e:i<u.length
  ·obtain⟨u1,c,u2,rfl,rfl⟩:∃u1 c u2,u=u1++c::u2/\i=u1.length:=⟨u.take i,u[i],u.drop<|i+1,by simp,by simp;lia⟩;refine .inr ⟨?_,.inr ⟨u1.length+1,?_,by simp,by simp;lia⟩⟩
   ·refine Xu.eq (gi (fy (aa t 2)<|gL t b1 (aa t 0)<|Y2 hz) λ_=>eD<|lU<|iz (c:=c) (aa t 0) (aa t 2) (Y2 hz) ?_) ?_;·have:=Cw (pre:=pre++u1) (post:=u2++post) (c:=c);simpa using this
    ·rw[e8,show(⟨#[c]⟩:Str)=S [c]from rfl,Nr,hu c<|by simp,Bool.and_true,bj];simp;lia
   ·exact aq<|ui t 2 rfl ai<|by simp;lia
  ·have hi':i=u.length:=by lia
   subst hi';refine .inl ⟨?_,rfl⟩;cases post with
   |nil=>exact Xu.eq (gi (fy (aa t 2)<|gL t b1 (aa t 0)<|Y2 hz) λz=>by rw[e8,bj]at z;simp at z)<|by rw[e8,Bool.and_true,aQ];simp
   |cons c post=>
    refine Xu.eq (gi (fy (aa t 2)<|gL t b1 (aa t 0)<|Y2 hz) λ_=>eD<|lU<|iz (c:=c) (aa t 0) (aa t 2) (Y2 hz) ?_) ?_;·have:=Cw (pre:=pre++u) (post:=post) (c:=c);simpa using this
    ·rw[show(⟨#[c]⟩:Str)=S [c]from rfl,Nr,hp c rfl,S1]
 ·subst hi;exact aq<|aW<|aa t 2
def NY(h:ET w):([PyData.str "x",.str "y",.str "not",.str "and",.str "or",.str "some",.str "all"].any λy=>PyData.eqv y<|.str<|S w)=false:=by
 obtain⟨c,cs,rfl⟩:∃c cs,w=c::cs:=by cases w with|nil=>exact absurd rfl h.1|cons c cs=>exact⟨c,cs,rfl⟩
 have hc:=h.2.1 c (by simp);have ne:∀(d:Nat)(ds:bH),57<d->(S (d::ds)==S (c::cs))=false:=λd ds hd=>by rw[bJ];intro e;have:=e9 e;cases this;lia
 show((("x":Str)==S (c::cs))||((("y":Str)==S (c::cs))||((("not":Str)==S (c::cs))||((("and":Str)==S (c::cs))||((("or":Str)==S (c::cs))||((("some":Str)==S (c::cs))||((("all":Str)==S (c::cs))||false)))))))=false;rw[show("x":Str)=S [120]by decide,show("y":Str)=S [121]by decide,show("not":Str)=S [110,111,116]by decide,show("and":Str)=S [97,110,100]by decide,show("or":Str)=S [111,114]by decide,show("some":Str)=S [115,111,109,101]by decide,show("all":Str)=S [97,108,108]by decide];rw[ne _ _<|by lia,ne _ _<|by lia,ne _ _<|by lia,ne _ _<|by lia,ne _ _<|by lia,ne _ _<|by lia,ne _ _<|by lia];rfl
def Ti:∀u∈QC,([PyData.str "x",.str "y",.str "not",.str "and",.str "or",.str "some",.str "all"].any λy=>PyData.eqv y<|.str<|S u)=true:=by decide
def uv(h:DefX P w K mg base k XU (ah eI) X)(YX:mg "all"=none)(XD:mg "len"=none)(gW:Nw mg K "WORDS" Np)(gF:∃tk,mg "FIGURES"=some (.str Z6 tk)):∀ds d,iF ds d->Xt X (ds.map Sl.val++List.replicate (XU.length-ds.length) Sl.un) (bA eI) (.rt d)\/(d=.XY/\∃ρ',Xt X (ds.map Sl.val++List.replicate (XU.length-ds.length) Sl.un) (bA eI)<|.nx ρ'):=by
 rintro ds r ⟨u,rfl,hu,rfl⟩;have t:=h.at';obtain⟨l,gm,gk⟩:=gW;have gm':X.mg "WORDS"=some (.ref l):=by rw[h.YQ];exact gm
 have gk':GP X.K (.ref l) Np:=by rw[h.k'];exact gk
 have gF':∃tk,X.mg "FIGURES"=some (.str Z6 tk):=by rw[h.YQ];exact gF
 have b1:=h.bt YX;have b2:=h.bt XD;have hz:(S u).length<=sizeLine:=Y2<|aJ hu.len (by decide);have cw:PyData.canLayAll0 [PyData.str "x",.str "y",.str "not",.str "and",.str "or",.str "some",.str "all"]=true:=by decide
 have ok:=fO hu.lt;have lt:=hu.lt;rcases hu with hn |hx
 ·refine .inr ⟨rfl,[.val<|.str<|S u],?_⟩;refine au (bw (Bf t (aa t 0).p (iZ t gm' gk') (cH ok) (cj _) cw<|NY hn) bc)<|aq<|bw ?_ bc;obtain⟨c,cs,rfl⟩:∃c cs,u=c::cs:=by cases u with|nil=>exact absurd rfl hn.1|cons c cs=>exact⟨c,cs,rfl⟩
  refine Xu.eq (En (u:=false) (v:=false) (Xu.eq (iC<|eD<|xi (bs:=(S<|c::cs).cps.toList.map λ_=>true) t b1<|XF.toQ<|XF.eq (dP (rs:=(S<|c::cs).cps.toList.map λ_=>D.bl true) t ["run","sign"] (Do<|by decide) (So (aa t 0)<|UL lt) (by unfold Qb;rw[ae,j1];exact uR<|by have:=hn.2.2.1;lia) λX' cx=>?_) ?_) ?_) (λ_=>Xu.eq (i6 (gL t b2 (aa t 0) hz) ai) ?_) λ_ _=>?_) rfl;·exact X0.gen (λc=>D.str ⟨#[c]⟩) _ (λx=>[.val<|.str<|S<|c::cs,.val<|.str ⟨#[x]⟩]) _ _ (λx hx=>br cx.at' 1) (λx hx y hy=>br cx.at' 1) λx hx=>MQ (aa cx.at' 1 rfl) (Ba cx.at'<|by rw[cx.YQ];exact gF')<|by rw[j1]at hx;exact ML x (hn.2.1 x hx).1 (hn.2.1 x hx).2
  ·rw[bu];rfl
  ·simp
  ·rw[e8,aQ];have:=hn.2.2.1;lia
  ·refine Xu.eq (gi (bv t (iz (aa t 0) ai hz<|by rw[j1];exact jN rfl) Xr (fO λx hx=>lt x<|by simp at hx;simp[hx])) λz=>kh t (aa t 0).p Xr.p (gv ok) (gv<|by decide) (r:=false) ?_) (by simp);have z0:c=48:=by rw[bj,show("0":Str)=S [48]by decide]at z;have:=e9 z;cases this;rfl
   subst z0;have:=hn.2.2.2 rfl;rw[this];decide
 ·refine .inl ?_;exact ei<|dj (Bf t (aa t 0).p (iZ t gm' gk') (cH ok) (cj _) cw<|Ti u hx)<|aq QY
def Wk(c:Nat)(post:bH):Prop:=(c≠60/\c≠62/\c≠33)\/((c=60\/c=62)/\post.head?≠some 61)
def uG(ds:aU)(d:D):Prop:=∃pre post:bH,(∃u,ds=[.str<|S<|pre++u++post,.int pre.length]/\ZA u/\(∀c,post.head?=some c->al c=false)/\(pre++u++post).length<=2000/\d=.str (S u))\/(∃c,ds=[.str<|S<|pre++c::post,.int pre.length]/\al c=false/\(∀x∈c::post,x<128)/\Wk c post/\(pre++c::post).length<=2000/\d=.str (S [c]))\/∃c,ds=[.str<|S<|pre++c::61::post,.int pre.length]/\(c=60\/c=62\/c=33)/\(pre++c::61::post).length<=2000/\d=.str (S [c,61])
def D8:∀ds d,uG ds d->ds.length=2:=by rintro _ _ ⟨a,b,⟨c,rfl,_⟩ |⟨c,rfl,_⟩ |⟨c,rfl,_⟩⟩<;>rfl
def SU:PyData:=.tuple [.str "<=",.str ">=",.str "!="]
def Sw{c:Nat}(h1:c≠60)(h2:c≠62)(h3:c≠33):([PyData.str "<=",.str ">=",.str "!="].any λy=>PyData.eqv y<|.str<|S<|c::cs)=false:=by
 have ne:∀(d:Nat)(ds:bH),d≠c->(S (d::ds)==S (c::cs))=false:=λd ds hd=>by rw[bJ];intro e;have:=e9 e;cases this;exact hd rfl
 show((("<=":Str)==S (c::cs))||(((">=":Str)==S (c::cs))||((("!=":Str)==S (c::cs))||false)))=false;rw[show("<=":Str)=S [60,61]by decide,show(">=":Str)=S [62,61]by decide,show("!=":Str)=S [33,61]by decide];rw[ne _ _<|dU h1,ne _ _<|dU h2,ne _ _<|dU h3];rfl
def Sv(h:Wk c post):([PyData.str "<=",.str ">=",.str "!="].any λy=>PyData.eqv y<|.str<|S<|c::post.take 1)=false:=by
 rcases h with⟨h1,h2,h3⟩ |⟨h1,h2⟩;·exact Sw h1 h2 h3
 ·have key:∀ds:bH,ds≠[61]->c=60\/c=62->([PyData.str "<=",.str ">=",.str "!="].any λy=>PyData.eqv y<|.str<|S<|c::ds)=false:=λds hd hc=>by
   have ne:∀d:Nat,(S [d,61]==S (c::ds))=false:=λd=>by rw[bJ];intro e;have:=e9 e;cases this;exact hd rfl
   show((("<=":Str)==S (c::ds))||(((">=":Str)==S (c::ds))||((("!=":Str)==S (c::ds))||false)))=false;rw[show("<=":Str)=S [60,61]by decide,show(">=":Str)=S [62,61]by decide,show("!=":Str)=S [33,61]by decide,ne,ne,ne];rfl
  refine key _ (λe=>h2 ?_) h1;cases post with
  |nil=>cases e
  |cons a b=>simp at e;rw[e];rfl
def SL:∀c:Nat,c=60\/c=62\/c=33->al c=false:=by intro c h;rcases h with rfl |rfl |rfl<;>decide
def H9(h:DefX P w K mg base k ux (ah ph) X)(c1:Callee X "refuse_wrong_run" iF)(c2:Callee X "end_of_run" qo)(gD:Nw mg K "DOUBLE_SIGNS" SU):Go X ux ph uG:=by
 rintro ds r ⟨pre,post,⟨u,rfl,hu,hp,hz,rfl⟩ |⟨c,rfl,hc,ha,hsg,hz,rfl⟩ |⟨c,rfl,hc3,hz,rfl⟩⟩
 ·have t:=h.at';haveI:=h.X1;obtain⟨c,cs,rfl⟩:∃c cs,u=c::cs:=by cases u with|nil=>exact absurd rfl hu.ne|cons c cs=>exact⟨c,cs,rfl⟩
  refine ei<|dj (Xu.eq (eD<|lU<|iz (aa t 0) (aa t 1) (Y2 hz) ?_)<|by rw[show(⟨#[c]⟩:Str)=S [c]from rfl,Nr];exact hu.al c<|by simp) ?_;·have:=Cw (pre:=pre) (post:=cs++post) (c:=c);simpa using this
  ·refine au (df t 2<|Xs.eq (zr (aa t 0) (aa t 1) (aB t c2 (ab (aa t 0)<|ab (aa t 1) ag) ⟨pre,c::cs,post,rfl,hu.al,hp,hz,rfl⟩)<|Y2 hz)<|by rw[UK]) ?_;refine au (Hb<|aB t c1 (ab (aa t 2) ag) ⟨_,rfl,hu,rfl⟩)<|aq<|aW<|aa t 2
 ·have t:=h.at';haveI:=h.X1;obtain⟨l,gm,gk⟩:=gD;have gm':X.mg "DOUBLE_SIGNS"=some (.ref l):=by rw[h.YQ];exact gm
  have gk':GP X.K (.ref l) SU:=by rw[h.k'];exact gk
  refine au (bw (Xu.eq (eD<|lU<|iz (aa t 0) (aa t 1) (Y2 hz) Cw)<|by rw[show(⟨#[c]⟩:Str)=S [c]from rfl,Nr];exact hc) bc)<|aq<|aW<|kg (Bf t (Xs.eq (zr (aa t 0) (aa t 1) (cu (aa t 1) ai)<|Y2 hz)<|by rw[Il]).p (iZ t gm' gk') (cH<|fO ?_) (cj _) (by decide)<|Sv hsg)<|iz (aa t 0) (aa t 1) (Y2 hz) Cw;intro x hx;refine ha x ?_;rcases ax.mp hx with rfl |hx;·simp
  ·exact aO _<|cX hx
 ·have t:=h.at';haveI:=h.X1;obtain⟨l,gm,gk⟩:=gD;have gm':X.mg "DOUBLE_SIGNS"=some (.ref l):=by rw[h.YQ];exact gm
  have gk':GP X.K (.ref l) SU:=by rw[h.k'];exact gk
  have hc:=SL c hc3;have ok:PyData.strOk (S [c,61])=true:=fO (by intro x hx;simp at hx;lia);have hin:([PyData.str "<=",.str ">=",.str "!="].any λy=>PyData.eqv y<|.str<|S [c,61])=true:=by rcases hc3 with rfl |rfl |rfl<;>decide
  exact au (bw (Xu.eq (eD<|lU<|iz (aa t 0) (aa t 1) (Y2 hz) Cw)<|by rw[show(⟨#[c]⟩:Str)=S [c]from rfl,Nr];exact hc) bc)<|aq<|aW<|ke (Bf t (Xs.eq (zr (aa t 0) (aa t 1) (cu (aa t 1) ai)<|Y2 hz)<|by rw[Il];rfl).p (iZ t gm' gk') (cH ok) (cj _) (by decide) hin)<|Xs.eq (zr (aa t 0) (aa t 1) (cu (aa t 1) ai)<|Y2 hz)<|by rw[Il];rfl
inductive Lex:bH->List bH->Prop where
 |nil:Lex [] []
 |sp {cs:bH} {ts:List bH}:Lex cs ts->Lex (32::cs) ts
 |run {u cs:bH} {ts:List bH}:ZA u->(∀c,cs.head?=some c->al c=false)->Lex cs ts->Lex (u++cs) (u::ts)
 |sign {c:Nat} {cs:bH} {ts:List bH}:al c=false->c≠32->Wk c cs->Lex cs ts->Lex (c::cs) ([c]::ts)
 |dbl {c:Nat} {cs:bH} {ts:List bH}:(c=60\/c=62\/c=33)->Lex cs ts->Lex (c::61::cs) ([c,61]::ts)
def Lex.len{ts:List bH}(h:Lex cs ts):ts.length<=cs.length:=by
 induction h with
 |nil=>simp|sp _ ih=>simp;lia
 |run hu _ _ ih=>have:=List.length_pos_iff.mpr hu.ne;simp;lia|sign _ _ _ _ ih=>simp;lia
 |dbl _ _ ih=>simp;lia
def aX(ts:List bH):aU:=ts.map λu=>D.str<|S u
def so(ds:aU)(d:D):Prop:=∃(cs:bH)(ts:List bH),ds=[.str<|S cs]/\Lex cs ts/\(∀c∈cs,c<128)/\cs.length<=2000/\d=.lst (aX ts)
def BR:∀ds d,so ds d->ds.length=1:=by rintro _ _ ⟨a,b,rfl,_⟩;rfl
def Nm:al 32=false:=by decide
def Gs(h:DefX P w K mg base k rP (ah mj) X)(XD:mg "len"=none)(c1:Callee X "token_at" uG):Go X rP mj so:=by
 rintro ds r ⟨cs,ts,rfl,hl,ha,hz,rfl⟩;have t:=h.at';haveI:=h.X1;have b1:=h.bt XD;refine au (IF t 1 2 (bI ag) ai<|by decide) ?_;refine oM t (λs:bH×bH×List bH=>[.val<|.str<|S cs,.own<|aX s.2.2,.val<|.int s.1.length]) (λs=>s.1++s.2.1=cs/\∃us,Lex s.2.1 us/\s.2.2++us=ts) (λs=>s.2.2=ts) (λs=>s.2.1.length) ([],cs,[]) ⟨rfl,ts,hl,rfl⟩ ?_ ?_
 ·rintro⟨pre,bQ,done⟩ ⟨e1,us,lx,e2⟩;dsimp only at e1 e2 lx ⊢;have hlen:done.length<=2000:=by have h1:=hl.len;have h2:=aY List.length e2;rw[ac]at h2;lia
  cases lx with
  |nil=>refine .inl ⟨Xu.eq (fy (aa t 2)<|gL t b1 (aa t 0)<|Y2 hz) ?_,by rw[<-e2];simp⟩;rw[e8,<-e1,aQ];simp|@sp cs' us lx=>subst e1;refine .inr ⟨Xu.eq (fy (aa t 2)<|gL t b1 (aa t 0)<|Y2 hz)<|by rw[e8,bj];simp;lia,.inr ⟨(pre++[32],cs',done),?_,⟨by simp,us,lx,e2⟩,by simp⟩⟩;refine aq<|dj (Xu.eq (bv t (iz (aa t 0) (aa t 2) (Y2 hz) Cw) Xr<|by decide)<|by decide)<|aq<|ui t 2 rfl ai<|by simp
  |@run u cs' us hu hp lx=>
   subst e1;obtain⟨c,u',rfl⟩:∃c u',u=c::u':=by cases u with|nil=>exact absurd rfl hu.ne|cons c cs=>exact⟨c,cs,rfl⟩
   have hc:=hu.al c (by simp);have hc2:S [c]≠S [32]:=λe=>by have:=e9 e;cases this;rw[Nm]at hc;cases hc
   have hat:qL (S<|pre++((c::u')++cs')).cps.toList (pre.length:Int)=some c:=Cw;refine .inr ⟨Xu.eq (fy (aa t 2)<|gL t b1 (aa t 0)<|Y2 hz)<|by rw[e8,bj];simp;lia,.inr ⟨(pre++(c::u'),cs',done++[c::u']),?_,⟨by simp,us,lx,by rw[<-e2];simp⟩,by simp;lia⟩⟩;refine aq<|bw (Xu.eq (bv t (iz (aa t 0) (aa t 2) (Y2 hz) hat) Xr (fO λx hx=>hu.lt x<|by simp at hx;simp[hx]))<|by rw[aQ,show(" ":Str)=S [32]by decide];exact hc2) ?_;refine au (dI t 1 rfl (aB t c1 (ab (aa t 0)<|ab (aa t 2) ag) ⟨pre,cs',.inl ⟨c::u',by rw[az],hu,hp,by rw[az];exact hz,rfl⟩⟩)<|by unfold aX;rw[ae];exact cn hlen<|by decide)<|aq<|X5.eq (ui t 2 (v:=((pre++c::u').length:Nat)) rfl (gL t b1 (bU (dL t 1 rfl) (gX ai)<|wF<|.inl rfl)<|Y2<|by have:=hu.len;lia)<|by rw[e8];simp) ?_;unfold aX;simp
  |@sign c cs' us hc h0 hsg lx=>
   subst e1;have hc2:S [c]≠S [32]:=λe=>by have:=e9 e;cases this;exact h0 rfl
   have X3:∀x∈c::cs',x<128:=λx hx=>ha x<|bE _ hx;refine .inr ⟨Xu.eq (fy (aa t 2)<|gL t b1 (aa t 0)<|Y2 hz)<|by rw[e8,bj];simp;lia,.inr ⟨(pre++[c],cs',done++[[c]]),?_,⟨by simp,us,lx,by rw[<-e2];simp⟩,by simp⟩⟩;refine aq<|bw (Xu.eq (bv t (iz (aa t 0) (aa t 2) (Y2 hz) Cw) Xr (fO λx hx=>X3 x<|by simp at hx;simp[hx]))<|by rw[aQ,show(" ":Str)=S [32]by decide];exact hc2) ?_;refine au (dI t 1 rfl (aB t c1 (ab (aa t 0)<|ab (aa t 2) ag) ⟨pre,cs',.inr<|.inl ⟨c,rfl,hc,X3,hsg,hz,rfl⟩⟩)<|by unfold aX;rw[ae];exact cn hlen<|by decide)<|aq<|X5.eq (ui t 2 (v:=((pre++[c]).length:Nat)) rfl (gL t b1 (bU (dL t 1 rfl) (gX ai)<|wF<|.inl rfl)<|Y2<|by simp)<|by rw[e8];simp) ?_;unfold aX;simp
  |@dbl c cs' us hc3 lx=>
   subst e1;have hc2:S [c]≠S [32]:=λe=>by have:=e9 e;cases this;lia
   have X3:∀x∈c::61::cs',x<128:=λx hx=>ha x<|bE _ hx;refine .inr ⟨Xu.eq (fy (aa t 2)<|gL t b1 (aa t 0)<|Y2 hz)<|by rw[e8,bj];simp;lia,.inr ⟨(pre++[c,61],cs',done++[[c,61]]),?_,⟨by simp,us,lx,by rw[<-e2];simp⟩,by simp;lia⟩⟩;refine aq<|bw (Xu.eq (bv t (iz (aa t 0) (aa t 2) (Y2 hz) Cw) Xr (fO λx hx=>X3 x<|by simp at hx;simp[hx]))<|by rw[aQ,show(" ":Str)=S [32]by decide];exact hc2) ?_;refine au (dI t 1 rfl (aB t c1 (ab (aa t 0)<|ab (aa t 2) ag) ⟨pre,cs',.inr<|.inr ⟨c,rfl,hc3,hz,rfl⟩⟩)<|by unfold aX;rw[ae];exact cn hlen<|by decide)<|aq<|X5.eq (ui t 2 (v:=((pre++[c,61]).length:Nat)) rfl (gL t b1 (bU (dL t 1 rfl) (gX ai)<|wF<|.inl rfl)<|Y2<|by simp)<|by rw[e8];simp) ?_;unfold aX;simp
 ·rintro⟨pre,bQ,done⟩ e;subst e;exact fQ 1 rfl<|aq<|aW<|aa t 1
def iE(o c:bH):List bH->Int|[]=>0|u::ts=>iE o c ts+(b2i (decide<|S u=S o)-b2i (decide<|S u=S c))
def Dm(o c u:bH):∀ts,iE o c (ts++[u])=iE o c ts+(b2i (decide<|S u=S o)-b2i (decide<|S u=S c))|[]=>by simp[iE]|v::ts=>by show iE o c (ts++[u])+_=iE o c ts+_+_;rw[Dm o c u ts];lia
def ni(ds:aU)(d:D):Prop:=∃(ts:List bH)(o c:bH),ds=[.lst<|aX ts,.str<|S o,.str<|S c]/\(∀u∈ts,∀x∈u,x<128)/\(∀x∈o,x<128)/\(∀x∈c,x<128)/\(∀i,i<=ts.length->iE o c (ts.take i)<=20)/\d=.XY
def yd:∀ds d,ni ds d->ds.length=3:=by rintro _ _ ⟨a,b,c,rfl,_⟩;rfl
def Cq(h:DefX P w K mg base k Yg (ah hJ) X)(gM:∃tk,mg "MOST_OPEN"=some (.int 20 tk)):∀ds d,ni ds d->Xt X (ds.map Sl.val++List.replicate (Yg.length-ds.length) Sl.un) (bA hJ) (.rt d)\/(d=.XY/\∃ρ',Xt X (ds.map Sl.val++List.replicate (Yg.length-ds.length) Sl.un) (bA hJ)<|.nx ρ'):=by
 rintro ds r ⟨ts,o,c,rfl,ha,ho,hc,hd,rfl⟩;have t:=h.at';haveI:=h.X1;have gM':∃tk,X.mg "MOST_OPEN"=some (.int 20 tk):=by rw[h.YQ];exact gM
 refine .inr ⟨rfl,[.val<|.lst<|aX ts,.val<|.str<|S o,.val<|.str<|S c,.val<|.int<|iE o c ts,.un],?_⟩;refine au (df t 3 ai)<|aq<|fF t (mV<|aa t 0)<|XO.XW (λi=>[.val<|.lst<|aX ts,.val<|.str<|S o,.val<|.str<|S c,.val<|.int<|iE o c<|ts.take i,.un]) (λj d e=>?_) rfl ?_
 ·unfold aX at e;rw[List.getElem?_map]at e;cases e2:ts[j]? with
  |none=>rw[e2]at e;cases e
  |some u=>
   rw[e2]at e;cases e;have hj:=(List.getElem?_eq_some_iff.mp e2).1;have hu:∀x∈u,x<128:=ha u<|List.mem_of_getElem? e2;have et:iE o c (ts.take<|j+1)=iE o c (ts.take j)+(b2i (decide<|S u=S o)-b2i (decide<|S u=S c)):=by rw[nu,e2];exact Dm o c u _
   refine⟨_,dA t 4,Xt.weak (au (ui t 3 rfl (Pe (El t (aa t 4) (aa t 1) (fO hu)<|fO ho)<|El t (aa t 4) (aa t 2) (fO hu)<|fO hc) et)<|aq<|bw (Xu.eq (i6 (aa t 3)<|wq t gM') ?_) bc)<|.keep<|.keep<|.keep<|.keep<|.forget .nil⟩;have:=hd (j+1) (by lia);rw[aQ];lia
 ·show _=_;unfold aX;rw[ae,a7]
def HD(ts:bM):Str:=ts.headD ""
def cQ(toks:bM)(ds:aU)(s:Int×aU)(d:D)(s':Int×aU):Prop:=∃n:Nat,ds=[]/\s.1=n/\d=.str (HD<|toks.drop n)/\s'=s
def AT:∀ts ds s d s',cQ ts ds s d s'->ds.length+1=1:=by rintro _ _ _ _ _ ⟨a,rfl,_⟩;rfl
def du(toks:bM)(ds:aU)(s:Int×aU)(d:D)(s':Int×aU):Prop:=∃n:Nat,ds=[]/\s.1=n/\d=.str (HD<|toks.drop n)/\s'=((n:Int)+1,s.2)
def AL:∀ts ds s d s',du ts ds s d s'->ds.length+1=1:=by rintro _ _ _ _ _ ⟨a,rfl,_⟩;rfl
def nh(toks:bM)(ds:aU)(s:Int×aU)(d:D)(s':Int×aU):Prop:=∃n:Nat,ds=[]/\s.1=n/\toks.length<=n/\d=.XY/\s'=s
def yc:∀ts ds s d s',nh ts ds s d s'->ds.length+1=1:=by rintro _ _ _ _ _ ⟨a,rfl,_⟩;rfl
def dh{ts:bM}{n:Nat}{u:Str}{bQ:bM}(h:ts.drop n=u::bQ):HD (ts.drop n)=u/\ts.drop (n+1)=bQ:=⟨by rw[h];rfl,(lC h).2.1⟩
def sz{n:Nat}(h:n<10000):n<sizeLine:=tG h<|by decide
def Ck(h:DefX P w K mg base k pW (ah kQ) X)(XD:mg "len"=none):K5 X pW kQ cQ:=by
 rintro r ok ds ⟨i,xs⟩ d s' ⟨n,rfl,hn,rfl,rfl⟩;have t:=h.at';have b1:=h.bt XD;have Zp:i=(n:Int):=hn;subst Zp;refine .inl ?_;refine bY<|z5 ?_;have hl:((r.toks.map D.str).length:Int)=(r.toks.length:Nat):=by rw[ae]
 by_cases e:n<r.toks.length
 ·refine Sb (Yb.eq (Li (zd t ok 0 rfl)<|HJ t b1<|zb t ok 0 rfl) ?_)<|XG.eq (Sa (zb t ok 0 rfl) (zd t ok 0 rfl)<|jN<|by rw[List.getElem?_map,List.getElem?_eq_getElem e];rfl) ?_;·rw[hl,bj];show(n:Int)<_;lia
  ·rw[cm e];rfl
 ·refine Sc (Yb.eq (Li (zd t ok 0 rfl)<|HJ t b1<|zb t ok 0 rfl) ?_)<|XG.eq (Xs.z Xr) ?_;·rw[hl,aQ];show¬((n:Int)<_);lia
  ·rw[ny<|by lia];rfl
def Ch(h:DefX P w K mg base k pR (ah kL) X)(c1:Xx X "next_token" cQ):K5 X pR kL du:=by rintro r ok ds ⟨i,xs⟩ d s' ⟨n,rfl,hn,rfl,rfl⟩;have t:=h.at';haveI:=h.X1;have Zp:i=(n:Int):=hn;subst Zp;refine .inl ?_;exact aZ (j9 t 1<|bR t ok c1 (bK (Xs.z<|aa t 0)<|Yj.z ag) ⟨n,rfl,rfl,rfl,rfl⟩)<|aZ (Os t ok 0 rfl ai)<|bY<|z5<|Xs.z<|aa t 1
def Bo(h:DefX P w K mg base k m3 (ah jG) X)(XD:mg "len"=none):K5 X m3 jG nh:=by rintro r ok ds ⟨i,xs⟩ d s' ⟨n,rfl,hn,hl,rfl,rfl⟩;have t:=h.at';have b1:=h.bt XD;have Zp:i=(n:Int):=hn;subst Zp;refine .inr ⟨rfl,[.val<|.adr r.p],?_⟩;refine bY<|lD (Yb.eq (Li (zd t ok 0 rfl)<|HJ t b1<|zb t ok 0 rfl) ?_) qM;rw[ae,aQ];show¬((n:Int)<_);lia
section
variable {SS:LS}{s s1 s':SS.ds}
def Ej(ha:XG SS X ρ a (.str z) s s1)(hb:XG SS X ρ b (.str w) s1 s')(hz:z.length+w.length<=sizeLine):XG SS X ρ (.BinOp a .Add b pos) (.str<|z++w) s s':=λB F H σ Q c l k q=>.mk λpins st I=>xL AI aN aN pins st σ H Q I (JS ha hb l k λx y F' H' c' x' r' rx ry=>by cases rx;cases ry;exact⟨z,w,rfl,rfl,hz,q _ F' H' c' x' r'<|.str _⟩)
def Pt{r:Bool}(t:At X N sc)(ha:Xs X ρ a d)(hb:Xs X ρ b (.lst xs))(sp:(dY d).canLay0=true)(sd:(dY d).depth<=62)(sq:PyData.canLayAll0 (XB xs)=true)(he:(!(XB xs).any λy=>PyData.eqv y<|dY d)=r)(hm:behindInMarks .NotIn b=false:=by rfl):Xu X ρ (.Compare a [.NotIn] [b] pos) r:=.of (gh (LU t sp sd sq) aN aN hm) λB F H σ Q k q=>wN (Xs.p ha) (Xs.p hb) k λx y F' H' x' rx ry=>⟨rx,ry,r,by rw[he],q F' H' x'⟩
end
def fk(toks:bM)(ds:aU)(s:Int×aU)(d:D)(s':Int×aU):Prop:=∃(n:Nat)(u:bH)(ts:List bH)(bQ:bM),(ds=[.lst<|aX ts]\/ds=[.tup<|aX ts])/\s.1=n/\toks.drop n=S u::bQ/\u∈ts/\(∀u∈ts,∀x∈u,x<128)/\d=.str (S u)/\s'=((n:Int)+1,s.2)
def ya:∀ts ds s d s',fk ts ds s d s'->ds.length+1=2:=by rintro _ _ _ _ _ ⟨a,b,c,e,rfl |rfl,_⟩<;>rfl
def Is{ts:List bH}(h:∀u∈ts,∀x∈u,x<128):PyData.canLayAll0 (XB<|aX ts)=true:=(Fn.all (n:=1) λx hx=>by obtain⟨u,hu,rfl⟩:=List.mem_map.mp hx;exact⟨cH<|fO<|h u hu,by simp[dY,PyData.depth],by simp[dY,PyData.eqv]⟩).1
def Ir{u:bH}{ts:List bH}(h:u∈ts):(!(XB<|aX ts).any λy=>PyData.eqv y<|dY<|.str<|S u)=false:=by
 have:((XB<|aX ts).any λy=>PyData.eqv y<|dY<|.str<|S u)=true:=by
  induction ts with
  |nil=>cases h
  |cons v ts ih=>
   show((S v==S u)||_)=true;rcases ax.mp h with rfl |h;·simp
   ·rw[Bool.or_eq_true];exact .inr<|ih h
 rw[this];rfl
def Pc:List bH:=[[48],[49],[50],[51],[52],[53],[54],[55],[56],[57]]
def Pb(d:Nat)(h:d<=9):[48+d]∈Pc:=by
 have:∀d:Nat,d<10->[48+d]∈Pc:=by decide
 exact this d<|by lia
abbrev TK:=List bH
structure qH where
 X4:Nat
 zB9:TK
 ast:TK
 pow:Option Nat
abbrev xA:=TK->TK->Prop
def jb(R:xA)(f:qH):Prop:=f.X4<=20/\R f.zB9 f.ast/\∀d,f.pow=some d->d<=9
def SR(R:xA):Prop:=∀tk st,R tk st->∃u us,tk=u::us/\u≠[45]
def Fw:Option Nat->List bH|none=>[]|some d=>[[94],[48+d]]
def Fx:Option Nat->List bH|none=>[]|some d=>[[94,48+d]]
def DG(f:qH):List bH:=f.zB9++Fw f.pow
def Ix(f:qH):List bH:=f.ast++Fx f.pow
def BI(f:qH):List bH:=List.replicate f.X4 [45]++DG f
def NI(n:Nat):List bH:=if n%2=1 then [[109,105,110,117,115]]else []
def Fq(f:qH):List bH:=Ix f++NI f.X4
def fS:List qH->List bH|[]=>[]|f::fs=>[42]::(BI f++fS fs)
def jm:List qH->List bH|[]=>[]|f::fs=>Fq f++([42]::jm fs)
abbrev Im:=qH×List qH
def t9(R:xA)(p:Im):Prop:=jb R p.1/\∀f∈p.2,jb R f
def DH(p:Im):List bH:=BI p.1++fS p.2
def Fl(p:Im):List bH:=Fq p.1++jm p.2
def BP(b:Bool):bH:=if b then [43]else [45]
def gZ:List (Bool×Im)->List bH|[]=>[]|q::qs=>BP q.1::(DH q.2++gZ qs)
def kK:List (Bool×Im)->List bH|[]=>[]|q::qs=>Fl q.2++(BP q.1::kK qs)
abbrev PQ:=Im×List (Bool×Im)
def qG(R:xA)(t:PQ):Prop:=t9 R t.1/\∀q∈t.2,t9 R q.2
def qB(t:PQ):List bH:=DH t.1++gZ t.2
def Ag(t:PQ):List bH:=Fl t.1++kK t.2
def sm(ts:List bH):bM:=ts.map S
def gT(a b:List bH):sm (a++b)=sm a++sm b:=aA
def gE(a b:List bH):aX (a++b)=aX a++aX b:=aA
def No(us:List bH)(post:bM):Prop:=∀u∈us,HD post≠S u
def CR{α:Type}(Ok:α->Prop)(tk st:α->List bH)(no:List bH)(toks:bM)(ds:aU)(s:Int×aU)(d:D)(s':Int×aU):Prop:=(∀x∈toks,PyData.strOk x=true)/\∃(n:Nat)(x:α)(post:bM),ds=[]/\s.1=n/\Ok x/\toks.drop n=sm (tk x)++post/\No no post/\s.2.length+(st x).length<10000/\d=.XY/\s'=(((n+(tk x).length:Nat):Int),s.2++aX (st x))
def CR.len{α:Type}{Ok:α->Prop}{tk st:α->List bH}{no:List bH}:∀ts ds s d s',CR Ok tk st no ts ds s d s'->ds.length+1=1:=by rintro _ _ _ _ _ ⟨_,a,b,c,rfl,_⟩;rfl
def sx(R:xA):=CR (λp:TK×TK=>R p.1 p.2) Prod.fst Prod.snd []
def BW(R:xA):∀ts ds s d s',sx R ts ds s d s'->ds.length+1=1:=CR.len
def qi(R:xA):=CR (jb R) DG Ix [[94]]
def nj(R:xA):=CR (jb R) BI Fq [[94]]
def l7(R:xA):=CR (t9 R) DH Fl [[94],[42]]
def l6(R:xA):=CR (qG R) qB Ag [[94],[42],[43],[45]]
def AQ(R:xA):∀ts ds s d s',qi R ts ds s d s'->ds.length+1=1:=CR.len
def yf(R:xA):∀ts ds s d s',nj R ts ds s d s'->ds.length+1=1:=CR.len
def w8(R:xA):∀ts ds s d s',l7 R ts ds s d s'->ds.length+1=1:=CR.len
def wb(R:xA):∀ts ds s d s',l6 R ts ds s d s'->ds.length+1=1:=CR.len
def fA{ts:bM}{n:Nat}{a b:bM}(h:ts.drop n=a++b):ts.drop (n+a.length)=b:=by rw[<-S0,h];simp
def gS(a:List bH):(sm a).length=a.length:=ae _
def bN(a:List bH):(aX a).length=a.length:=ae _
def A5{ts:bM}{n:Nat}{post:bM}{us:List bH}(h:ts.drop n=sm (u::us)++post):HD (ts.drop n)=S u/\ts.drop (n+1)=sm us++post:=dh h
def S2{st:Stmt}{SS:LS}{s a b:SS.ds}(h:X9 SS X ρ st o s a)(e:a=b):X9 SS X ρ st o s b:=e▸h
def E6{st:List Stmt}{SS:LS}{s a b:SS.ds}(h:YE SS X ρ st o s a)(e:a=b):YE SS X ρ st o s b:=e▸h
def Yw.ix{SS:LS}(R:Nat->cJ)(T:Nat->SS.ds)(n:Nat)(h:∀i,i<n->Yb SS X (R i) cd true (T i) (T i)/\YE SS X (R i) body (.nx<|R<|i+1) (T i) (T<|i+1))(hn:Yb SS X (R n) cd false (T n) (T n)):∀(k i:Nat),i+k=n->Yw SS X cd body k (R i) (T i) (R n) (T n)
 |0,i,e=>by
  have e':i=n:=by lia
  subst e';exact .stop hn
 |k+1,i,e=>.step (h i<|by lia).1 (h i<|by lia).2<|Yw.ix R T n h hn k (i+1)<|by lia
def sN{ρ ρ':cJ}{SS:LS}{s s':SS.ds}(t:At X N sc)(R:Nat->cJ)(T:Nat->SS.ds)(n:Nat)(h:∀i,i<n->Yb SS X (R i) cd true (T i) (T i)/\YE SS X (R i) body (.nx<|R<|i+1) (T i) (T<|i+1))(hn:Yb SS X (R n) cd false (T n) (T n))(e1:R 0=ρ)(e2:T 0=s)(e3:R n=ρ')(e4:T n=s'):X9 SS X ρ (.While cd body [] pos) (.nx ρ') s s':=by subst e1;subst e2;subst e3;subst e4;exact E5 t ⟨n,Yw.ix R T n h hn n 0<|by lia⟩
def ME{ts:bM}(h:∀x∈ts,PyData.strOk x=true)(n:Nat):PyData.strOk (HD<|ts.drop n)=true:=by cases e:ts.drop n with|nil=>decide|cons a b=>exact h a<|List.mem_of_mem_drop<|by rw[e];simp
def v8{z:Str}{b:Bool}{ρ:cJ}(t:At X N sc)(ok:mW X.K r)(c2:Xx X "next_token" cQ)(ho:∀x∈r.toks,PyData.strOk x=true)(hr:ρ[0]?=some (.val<|.adr r.p))(hz:PyData.strOk z=true)(hb:decide (HD (r.toks.drop n)=z)=b)(hN:N[0]?=some ("reader":Str):=by rfl)(hv:fB sc ("reader":Str)=true:=by rfl)(hx:cv ("reader":Str)=true:=by rfl)(hg:sc.names.lookup ("next_token":Str)=some .globalImplicit:=by rfl):Yb (XE r) X ρ (.Compare (.Call (.Name "next_token" p) [.Name "reader" py] [] pos) [.Eq] [.Constant (.str z) j p2] pos') b ((n:Int),xs) ((n:Int),xs):=Yb.eq (Tk t (bR t ok c2 (bK (Xs.z<|aa t 0 hr hN hv hx)<|Yj.z ag) ⟨n,rfl,rfl,rfl,rfl⟩ hg) (Xs.z Xr) (gv<|ME ho n) (gv hz) rfl)<|by rw[<-hb];exact fJ _ _
def ue{ρ:cJ}(t:At X N sc)(ok:mW X.K r)(c3:Xx X "take_token" du)(hr:ρ[0]?=some (.val<|.adr r.p))(hN:N[0]?=some ("reader":Str):=by rfl)(hv:fB sc ("reader":Str)=true:=by rfl)(hx:cv ("reader":Str)=true:=by rfl)(hg:sc.names.lookup ("take_token":Str)=some .globalImplicit:=by rfl):XG (XE r) X ρ (.Call (.Name "take_token" p) [.Name "reader" py] [] pos) (.str<|HD<|r.toks.drop n) ((n:Int),xs) (((n+1:Nat):Int),xs):=bR t ok c3 (bK (Xs.z<|aa t 0 hr hN hv hx)<|Yj.z ag) ⟨n,rfl,rfl,rfl,by rw[iN];rfl⟩ hg
def Bm(h:DefX P w K mg base k mY (ah jE) X)(c1:Xx X "take_token" du):K5 X mY jE fk:=by
 rintro r ok ds ⟨i,xs⟩ d s' ⟨n,u,ts,bQ,hds,hn,hd,hu,X3,rfl,rfl⟩;have t:=h.at';haveI:=h.X1;have Zp:i=(n:Int):=hn;subst Zp;have hc:∀x∈u,x<128:=X3 u hu;refine .inl ?_;rcases hds with rfl |rfl;·show YE (XE r) X [.val<|.adr r.p,.val<|.lst<|aX ts,.un] _ _ _ _;exact aZ (j9 t 2<|bR t ok c1 (bK (Xs.z<|aa t 0)<|Yj.z ag) ⟨n,rfl,rfl,by rw[(dh hd).1],rfl⟩)<|aZ (lD (Xu.z<|Pt t (aa t 2) (aa t 1) (cH<|fO hc) (cj _) (Is X3)<|Ir hu) qM)<|bY<|z5<|Xs.z<|aa t 2
 ·show YE (XE r) X [.val<|.adr r.p,.val<|.tup<|aX ts,.un] _ _ _ _;exact aZ (j9 t 2<|bR t ok c1 (bK (Xs.z<|aa t 0)<|Yj.z ag) ⟨n,rfl,rfl,by rw[(dh hd).1],rfl⟩)<|aZ (lD (Xu.z<|Eo t (aa t 2) (aa t 1) (cH<|fO hc) (cj _) (Is X3)<|Ir hu) qM)<|bY<|z5<|Xs.z<|aa t 2
def Cj(h:DefX P w K mg base k pU (ah kO) X)(Y8:mg "list"=none)(c1:Xx X "read_atom" (sx R))(c2:Xx X "next_token" cQ)(c3:Xx X "take_token" du)(c4:Xx X "take_one_of" fk)(gF:∃tk,mg "FIGURES"=some (.str Z6 tk)):K5 X pU kO (qi R):=by
 rintro r ok ds ⟨i,xs⟩ d s' ⟨ho,n,f,post,rfl,hn,hf,hd,ZG,hz,rfl,rfl⟩;have t:=h.at';haveI:=h.X1;have b1:=h.bt Y8;have gF':∃tk,X.mg "FIGURES"=some (.str Z6 tk):=by rw[h.YQ];exact gF
 have Zp:i=(n:Int):=hn;subst Zp;obtain⟨m,at0,as0,pw⟩:=f;refine .inr ⟨rfl,[.val<|.adr r.p],?_⟩;show YE (XE r) X [.val<|.adr r.p] _ _ ((n:Int),xs) (((n+(at0++Fw pw).length:Nat):Int),xs++aX (as0++Fx pw));have Z3:xs.length+(as0++Fx pw).length<10000:=hz;rw[ac]at Z3;have hd':r.toks.drop n=sm at0++(sm (Fw pw)++post):=by rw[<-az,<-gT];exact hd
 have hdp:=fA hd';rw[gS]at hdp;have hxs:(xs++aX as0).length+(Fx pw).length<10000:=by rw[ac,bN];lia
 refine aZ (dN<|bR t ok c1 (bK (Xs.z<|aa t 0)<|Yj.z ag) ⟨ho,n,(at0,as0),sm (Fw pw)++post,rfl,rfl,hf.2.1,hd',(λu hu=>nomatch hu),(by show xs.length+as0.length<10000;lia),rfl,rfl⟩) ?_;cases pw with
 |none=>
  have e:HD (r.toks.drop<|n+at0.length)≠("^":Str):=by rw[hdp,show("^":Str)=S [94]by decide];exact ZG [94]<|by simp
  refine E6 (bY<|lD (v8 t ok c2 ho rfl (by decide)<|ao e) qM) ?_;show(((n+at0.length:Nat):Int),xs++aX as0)=(((n+(at0++[]).length:Nat):Int),xs++aX (as0++[]));rw[aV,aV]
 |some dd=>
  have h2:=A5 hdp;have h3:=A5 h2.2;have hdd:=hf.2.2 dd rfl;have e:HD (r.toks.drop<|n+at0.length)=("^":Str):=by rw[h2.1];decide
  have hfg:Qb Z6=aX Pc:=by unfold Qb aX;rw[show Z6.cps.toList=[48,49,50,51,52,53,54,55,56,57]by decide];rfl
  refine bY<|uc (v8 t ok c2 ho rfl (by decide)<|aF e)<|aZ (dN<|ue t ok c3 rfl)<|bY ?_;refine S2 (mI t ok 0 rfl (XG.eq (Ej (Xs.z Xr) (bR t ok c4 (bK (Xs.z<|aa t 0)<|bK (Xs.z<|Xs.eq (XF.Ya<|M2 t b1 (Ba t gF')<|by decide)<|by rw[hfg])<|Yj.z ag) ⟨n+at0.length+1,[48+dd],Pc,post,.inl rfl,rfl,h2.2,Pb dd hdd,(by decide),rfl,rfl⟩)<|by rw[e8,show("^":Str).length=1 by decide];exact aJ (show 1+1<=10 by decide)<|by decide) (show D.str (("^":Str)++S [48+dd])=.str (S [94,48+dd])by rw[show("^":Str)=S [94]by decide,iJ];rfl))<|sz<|by have:(Fx<|some dd).length=1:=rfl;show(xs++aX as0).length<10000;lia) ?_;refine gr ?_ ?_;·show((n+at0.length+1:Nat):Int)+1=_;simp[Fw];lia
  ·show xs++aX as0++[D.str<|S [94,48+dd]]=_;simp[aX,Fx]
def Q1{post:bM}(hR:SR R){f:qH}(hf:jb R f):HD (sm (DG f)++post)≠("-":Str):=λe=>by rw[show("-":Str)=S [45]by decide]at e;obtain⟨u,us,eu,ne⟩:=hR _ _ hf.2.1;unfold DG at e;rw[eu]at e;exact ne<|e9 e
def Kn{ts:bM}{n:Nat}{post:bM}{w:List bH}(h:ts.drop n=sm (List.replicate m [45]++w)++post)(i:Nat)(hi:i<=m):ts.drop (n+i)=sm (List.replicate (m-i) [45]++w)++post:=by rw[show List.replicate m [45]=List.replicate i [45]++List.replicate (m-i) [45]by rw[K6];congr 1;lia,az,gT,az]at h;have:=fA h;rw[gS,fL]at this;exact this
def Bp(hR:SR R)(h:DefX P w K mg base k m5 (ah jI) X)(c1:Xx X "read_power" (qi R))(c2:Xx X "next_token" cQ)(c3:Xx X "take_token" du)(gM:∃tk,mg "MOST_MINUSES"=some (.int 20 tk)):K5 X m5 jI (nj R):=by
 rintro r ok ds ⟨i,xs⟩ d s' ⟨ho,n,f,post,rfl,hn,hf,hd,ZG,hz,rfl,rfl⟩;have t:=h.at';haveI:=h.X1;have gM':∃tk,X.mg "MOST_MINUSES"=some (.int 20 tk):=by rw[h.YQ];exact gM
 have Zp:i=(n:Int):=hn;subst Zp;have hm:=hf.1;have Z3:xs.length+(Ix f++NI f.X4).length<10000:=hz;rw[ac]at Z3;have hdm:∀i,i<=f.X4->r.toks.drop (n+i)=sm (List.replicate (f.X4-i) [45]++DG f)++post:=Kn hd;refine .inr ⟨rfl,[.val<|.adr r.p,.val<|.int f.X4],?_⟩;refine aZ (X5.z<|df t 1 ai)<|aZ (sN t (λi=>[.val<|.adr r.p,.val<|.int i]) (λi=>(((n+i:Nat):Int),xs)) f.X4 (λi hi=>?_) ?_ rfl rfl rfl rfl) ?_
 ·have e:HD (r.toks.drop<|n+i)=("-":Str):=by rw[hdm i<|by lia,show f.X4-i=(f.X4-i-1)+1 by lia,bg];exact(show("-":Str)=S [45]by decide).symm
  exact⟨v8 t ok c2 ho rfl (by decide)<|aF e,aZ (dN<|ue t ok c3 rfl)<|bY<|X5.z<|ui t 1 rfl ai<|by rw[iN];rfl⟩
 ·have e:HD (r.toks.drop<|n+f.X4)≠("-":Str):=by rw[hdm f.X4<|aj _,j6];exact Q1 hR hf
  exact v8 t ok c2 ho rfl (by decide)<|ao e
 ·have hdw:r.toks.drop (n+f.X4)=sm (DG f)++post:=by have:=hdm f.X4<|aj _;rw[j6]at this;exact this
  have el:(BI f).length=f.X4+(DG f).length:=by simp[BI]
  refine aZ (X5.z<|bw (Xu.eq (i6 (aa t 1)<|wq t gM')<|by rw[aQ];lia) bc)<|aZ (s1:=(((n+(BI f).length:Nat):Int),xs++aX (Ix f))) (dN<|bR t ok c1 (bK (Xs.z<|aa t 0)<|Yj.z ag) ⟨ho,n+f.X4,f,post,rfl,rfl,hf,hdw,ZG,by show xs.length+_<_;lia,rfl,by rw[el,xB]⟩)<|bY ?_;by_cases e:f.X4%2=1;·refine uc (Xu.z<|Xu.eq (MW<|Jr (aa t 1) ai)<|by rw[show(f.X4:Int)%2 ^ 1=1 by lia];rfl)<|bY<|S2 (mI t ok 0 rfl (Xs.z Xr)<|sz<|by show(xs++aX (Ix f)).length<_;rw[ac,bN];lia) ?_;refine gr rfl ?_;show xs++aX (Ix f)++[D.str "minus"]=xs++aX (Ix f++NI f.X4);rw[gE,az,show NI f.X4=[[109,105,110,117,115]]by unfold NI;rw[ar e]];rw[show("minus":Str)=S [109,105,110,117,115]by decide];rfl
  ·refine S2 (lD (Xu.z<|Xu.eq (MW<|Jr (aa t 1) ai)<|by rw[show(f.X4:Int)%2 ^ 1=0 by lia];rfl) qM) ?_;show _=(_,xs++aX (Ix f++NI f.X4));rw[show NI f.X4=[]by unfold NI;rw[ak e],aV]
def Ab:∀a b:List qH,fS (a++b)=fS a++fS b|[],b=>rfl|f::a,b=>by show[42]::(BI f++fS (a++b))=_;rw[Ab a b];simp[fS]
def uQ:∀a b:List qH,jm (a++b)=jm a++jm b|[],b=>rfl|f::a,b=>by show Fq f++([42]::jm (a++b))=_;rw[uQ a b];simp[jm]
def Aa:∀a b:List (Bool×Im),gZ (a++b)=gZ a++gZ b|[],b=>rfl|f::a,b=>by show BP f.1::(DH f.2++gZ (a++b))=_;rw[Aa a b];simp[gZ]
def uP:∀a b:List (Bool×Im),kK (a++b)=kK a++kK b|[],b=>rfl|f::a,b=>by show Fl f.2++(BP f.1::kK (a++b))=_;rw[uP a b];simp[kK]
def N4{i:Nat}{α:Type}(xs:List α)(h:i<xs.length):xs.take (i+1)=xs.take i++[xs[i]]:=by rw[nu,List.getElem?_eq_getElem h];rfl
def N7:S [42]≠S [94]:=λe=>by have:=e9 e;cases this
def IS:∀b,S (BP b)≠S [94]/\S (BP b)≠S [42]:=λb=>by cases b<;>exact⟨λe=>(by have:=e9 e;cases this),λe=>(by have:=e9 e;cases this)⟩
def Qn{fs:List qH}(h:No [[94],[42]] post):No [[94]] (sm (fS fs)++post):=λu hu=>by simp at hu;subst hu;cases fs with|nil=>exact h [94] (by simp)|cons f fs=>exact N7
def Qm{qs:List (Bool×Im)}(h:No [[94],[42],[43],[45]] post):No [[94],[42]] (sm (gZ qs)++post):=λu hu=>by
 cases qs with
 |nil=>
  have hu':u=[94]\/u=[42]:=by simpa using hu
  rcases hu' with rfl |rfl;·exact h [94]<|by simp
  ·exact h [42]<|by simp
 |cons q qs=>
  have hu':u=[94]\/u=[42]:=by simpa using hu
  rcases hu' with rfl |rfl;·exact(IS q.1).1
  ·exact(IS q.1).2
def ym(h:DefX P w K mg base k lZ (ah iT) X)(c1:Xx X "read_factor" (nj R))(c2:Xx X "next_token" cQ)(c3:Xx X "take_token" du):K5 X lZ iT (l7 R):=by
 rintro r ok ds ⟨i,xs⟩ d s' ⟨ho,n,⟨f,fs⟩,post,rfl,hn,hf,hd,ZG,hz,rfl,rfl⟩;have t:=h.at';haveI:=h.X1;have Zp:i=(n:Int):=hn;subst Zp;have Z3:xs.length+(Fq f++jm fs).length<10000:=hz;rw[ac]at Z3;have hd':r.toks.drop n=sm (BI f)++(sm (fS fs)++post):=by rw[<-az,<-gT];exact hd
 have hd2:r.toks.drop (n+(BI f).length)=sm (fS fs)++post:=by have:=fA hd';rw[gS]at this;exact this
 refine .inr ⟨rfl,[.val<|.adr r.p],?_⟩;show YE (XE r) X [.val<|.adr r.p] _ _ ((n:Int),xs) (((n+(BI f++fS fs).length:Nat):Int),xs++aX (Fq f++jm fs));have dr:∀i,i<=fs.length->r.toks.drop (n+(BI f).length+(fS<|fs.take i).length)=sm (fS<|fs.drop i)++post:=λi hi=>by
  have e:fS fs=fS (fs.take i)++fS (fs.drop i):=by rw[<-Ab,eF]
  rw[e,gT,az]at hd2;have:=fA hd2;rw[gS]at this;exact this
 have zl:∀i,i<=fs.length->(jm<|fs.take i).length<=(jm fs).length:=λi hi=>by
  have e:jm fs=jm (fs.take i)++jm (fs.drop i):=by rw[<-uQ,eF]
  rw[e,ac];lia
 refine aZ (dN<|bR t ok c1 (bK (Xs.z<|aa t 0)<|Yj.z ag) ⟨ho,n,f,sm (fS fs)++post,rfl,rfl,hf.1,hd',Qn ZG,by show xs.length+_<_;lia,rfl,rfl⟩)<|bY<|sN t (λ_=>[.val<|.adr r.p]) (λi=>(((n+(BI f).length+(fS<|fs.take i).length:Nat):Int),xs++aX (Fq f++jm (fs.take i)))) fs.length (λi hi=>?_) ?_ rfl ?_ rfl ?_
 ·have d0:=dr i (by lia);rw[show fs.drop i=fs[i]::fs.drop (i+1)by rw[cm hi]]at d0;have h1:=A5 d0;have e:HD (r.toks.drop<|n+(BI f).length+(fS<|fs.take i).length)=("*":Str):=by rw[h1.1];decide
  have h2:=h1.2;rw[gT,az]at h2;have zi:=zl (i+1) (by lia);rw[N4 fs hi,uQ,ac]at zi;have zi':(jm [fs[i]]).length=(Fq fs[i]).length+1:=by simp[jm]
  refine⟨v8 t ok c2 ho rfl (by decide)<|aF e,aZ (dN<|ue t ok c3 rfl)<|aZ (dN<|bR t ok c1 (bK (Xs.z<|aa t 0)<|Yj.z ag) ⟨ho,n+(BI f).length+(fS<|fs.take i).length+1,fs[i],sm (fS<|fs.drop<|i+1)++post,rfl,rfl,hf.2 _<|y3 hi,h2,Qn ZG,?_,rfl,rfl⟩)<|bY<|S2 (mI t ok 0 rfl (Xs.z Xr)<|sz ?_) ?_⟩;·show(xs++aX _).length+_<_;rw[ac,bN,ac];lia
  ·show(xs++aX _++aX _).length<_;rw[ac,ac,bN,bN,ac];lia
  ·refine gr ?_ ?_;·show(((_:Nat)):Int)=_;rw[N4 fs hi,Ab];simp[fS];lia
   ·show xs++aX _++aX _++[D.str "*"]=xs++aX _;rw[N4 fs hi,uQ,show("*":Str)=S [42]by decide];simp[aX,jm]
 ·have d0:=dr fs.length<|aj _;rw[qA]at d0;have e:HD (r.toks.drop<|n+(BI f).length+(fS<|fs.take fs.length).length)≠("*":Str):=by rw[d0,show("*":Str)=S [42]by decide];exact ZG [42]<|by simp
  exact v8 t ok c2 ho rfl (by decide)<|ao e
 ·show _=_;simp[fS,jm];rfl
 ·show _=_;rw[a7,ac,xB]
def TN(w:Str):((XB [D.str "+",.str "-"]).any λy=>PyData.eqv y<|dY<|.str w)=(decide (w="+")||decide (w="-")):=ES "+" "-" w
def Ql{b:Bool}{ρ:cJ}(t:At X N sc)(ok:mW X.K r)(c2:Xx X "next_token" cQ)(ho:∀x∈r.toks,PyData.strOk x=true)(hr:ρ[0]?=some (.val<|.adr r.p))(hb:(decide (HD (r.toks.drop n)="+")||decide (HD (r.toks.drop n)="-"))=b)(hN:N[0]?=some ("reader":Str):=by rfl)(hv:fB sc ("reader":Str)=true:=by rfl)(hx:cv ("reader":Str)=true:=by rfl)(hg:sc.names.lookup ("next_token":Str)=some .globalImplicit:=by rfl):Yb (XE r) X ρ (.Compare (.Call (.Name "next_token" p) [.Name "reader" py] [] pos) [.In] [.Tuple [.Constant (.str "+") j p2,.Constant (.str "-") j2 p3] kk p4] pos') b ((n:Int),xs) ((n:Int),xs):=P4 t (bR t ok c2 (bK (Xs.z<|aa t 0 hr hN hv hx)<|Yj.z ag) ⟨n,rfl,rfl,rfl,rfl⟩ hg) (Xs.z<|aG<|ab Xr<|ab Xr ag) (cH<|ME ho n) (cj _) (by decide)<|by rw[TN];exact hb
def Gm(h:DefX P w K mg base k uz (ah pj) X)(c1:Xx X "read_product" (l7 R))(c2:Xx X "next_token" cQ)(c3:Xx X "take_token" du):K5 X uz pj (l6 R):=by
 rintro r ok ds ⟨i,xs⟩ d s' ⟨ho,n,⟨f,fs⟩,post,rfl,hn,hf,hd,ZG,hz,rfl,rfl⟩;have t:=h.at';haveI:=h.X1;have Zp:i=(n:Int):=hn;subst Zp;have Z3:xs.length+(Fl f++kK fs).length<10000:=hz;rw[ac]at Z3;have hd':r.toks.drop n=sm (DH f)++(sm (gZ fs)++post):=by rw[<-az,<-gT];exact hd
 have hd2:r.toks.drop (n+(DH f).length)=sm (gZ fs)++post:=by have:=fA hd';rw[gS]at this;exact this
 refine .inr ⟨rfl,[.val<|.adr r.p,.un],?_⟩;show YE (XE r) X [.val<|.adr r.p,.un] _ _ ((n:Int),xs) (((n+(DH f++gZ fs).length:Nat):Int),xs++aX (Fl f++kK fs));have dr:∀i,i<=fs.length->r.toks.drop (n+(DH f).length+(gZ<|fs.take i).length)=sm (gZ<|fs.drop i)++post:=λi hi=>by
  have e:gZ fs=gZ (fs.take i)++gZ (fs.drop i):=by rw[<-Aa,eF]
  rw[e,gT,az]at hd2;have:=fA hd2;rw[gS]at this;exact this
 have zl:∀i,i<=fs.length->(kK<|fs.take i).length<=(kK fs).length:=λi hi=>by
  have e:kK fs=kK (fs.take i)++kK (fs.drop i):=by rw[<-uP,eF]
  rw[e,ac];lia
 refine aZ (dN<|bR t ok c1 (bK (Xs.z<|aa t 0)<|Yj.z ag) ⟨ho,n,f,sm (gZ fs)++post,rfl,rfl,hf.1,hd',Qm ZG,by show xs.length+_<_;lia,rfl,rfl⟩)<|bY<|sN t (λ_=>[.val<|.adr r.p,.un]) (λi=>(((n+(DH f).length+(gZ<|fs.take i).length:Nat):Int),xs++aX (Fl f++kK (fs.take i)))) fs.length (λi hi=>?_) ?_ rfl ?_ rfl ?_
 ·have d0:=dr i (by lia);rw[show fs.drop i=fs[i]::fs.drop (i+1)by rw[cm hi]]at d0;have h1:=A5 d0;have e:(decide (HD (r.toks.drop<|n+(DH f).length+(gZ<|fs.take i).length)="+")||decide (HD (r.toks.drop<|n+(DH f).length+(gZ<|fs.take i).length)="-"))=true:=by rw[h1.1];cases fs[i].1<;>decide
  have h2:=h1.2;rw[gT,az]at h2;have zi:=zl (i+1) (by lia);rw[N4 fs hi,uP,ac]at zi;have zi':(kK [fs[i]]).length=(Fl fs[i].2).length+1:=by simp[kK]
  refine⟨Ql t ok c2 ho rfl e,YE.weak (aZ (j9 t 1<|XG.eq (ue t ok c3 rfl)<|by rw[h1.1])<|aZ (dN<|bR t ok c1 (bK (Xs.z<|aa t 0)<|Yj.z ag) ⟨ho,n+(DH f).length+(gZ<|fs.take i).length+1,fs[i].2,sm (gZ<|fs.drop<|i+1)++post,rfl,rfl,hf.2 _<|y3 hi,h2,Qm ZG,?_,rfl,rfl⟩)<|bY<|S2 (mI t ok 0 rfl (Xs.z<|aa t 1)<|sz ?_) ?_)<|.keep<|.forget .nil⟩;·show(xs++aX _).length+_<_;rw[ac,bN,ac];lia
  ·show(xs++aX _++aX _).length<_;rw[ac,ac,bN,bN,ac];lia
  ·refine gr ?_ ?_;·show(((_:Nat)):Int)=_;rw[N4 fs hi,Aa];simp[gZ];lia
   ·show xs++aX _++aX _++[D.str _]=xs++aX _;rw[N4 fs hi,uP];simp[aX,kK]
 ·have d0:=dr fs.length<|aj _;rw[qA]at d0;refine Ql t ok c2 ho rfl ?_;rw[d0,Bool.or_eq_false_iff,aQ,aQ,show("+":Str)=S [43]by decide,show("-":Str)=S [45]by decide];exact⟨ZG [43]<|by simp,ZG [45]<|by simp⟩
 ·show _=_;simp[gZ,kK];rfl
 ·show _=_;rw[a7,ac,xB]
def AR:Nat->xA
 |0=>λ_ _=>False
 |n+1=>λtk st=>(∃u,Yq u/\tk=[u]/\st=[u])\/∃T:PQ,qG (AR n) T/\tk=[40]::(qB T++[[41]])/\st=Ag T
def LF{c:Nat}(h:Yq u)(hc:c<48):u≠[c]:=λe=>by
 subst e;rcases h with h |h |h;·have:=h.2.1 c<|aP.mpr rfl;lia
 ·cases h;lia
 ·cases h;lia
def V4:∀n,SR (AR n)
 |0,_,_,h=>h.elim
 |n+1,tk,st,h=>by
  rcases h with⟨u,hu,rfl,rfl⟩ |⟨T,hT,rfl,rfl⟩;·exact⟨u,[],rfl,LF hu<|by decide⟩
  ·exact⟨[40],_,rfl,by decide⟩
def EC(h:DefX P w K mg base k rS (ah mq) X)(c1:Xx X "take_token" du)(c2:Xx X "read_sum" (l6<|AR n))(c3:Xx X "take_one_of" fk)(c4:Callee X "is_number" sC):K5 X rS mq (sx<|AR<|n+1):=by
 rintro r ok ds ⟨i,xs⟩ d s' ⟨ho,n,⟨at0,as0⟩,post,rfl,hn,hf,hd,ZG,hz,rfl,rfl⟩;have t:=h.at';haveI:=h.X1;have Zp:i=(n:Int):=hn;subst Zp;rcases hf with⟨u,hu,e1,e2⟩ |⟨T,hT,e1,e2⟩
 ·have e1':at0=[u]:=e1;have e2':as0=[u]:=e2;subst e1' e2';have hd1:r.toks.drop n=S u::post:=hd;have ZT:S u≠("(":Str):=λe=>by rw[show("(":Str)=S [40]by decide]at e;exact LF hu (by decide)<|e9 e
  have Z3:xs.length+1<10000:=hz;refine .inr ⟨rfl,[.val<|.adr r.p,.val<|.str<|S u],?_⟩;refine aZ (j9 t 1<|bR (s':=(((n+1:Nat):Int),xs)) t ok c1 (bK (Xs.z<|aa t 0)<|Yj.z ag) ⟨n,rfl,rfl,by rw[(dh hd1).1],by rw[iN];rfl⟩)<|bY<|lD (Xu.z<|Xu.eq (bv t (aa t 1) Xr<|fO hu.lt)<|ao ZT)<|bY<|uc (Xu.z ?_)<|bY<|mI t ok 0 rfl (Xs.z<|aa t 1)<|sz (by show xs.length<10000;lia);rcases id hu with hh |hh;·exact Xu.eq (pM (v:=true) (eD<|aB t c4 (ab (aa t 1) ag) ⟨u,rfl,hu,.inl ⟨hh,rfl⟩⟩) λz=>nomatch z) rfl
  ·exact Xu.eq (pM (eD<|aB t c4 (ab (aa t 1) ag) ⟨u,rfl,hu,.inr ⟨hh,rfl⟩⟩) λ_=>MX t (aa t 1)<|fO hu.lt)<|by rcases hh with rfl |rfl<;>decide
 ·have e1':at0=[40]::(qB T++[[41]]):=e1;have e2':as0=Ag T:=e2;subst e1' e2';have h1:=A5 hd;have h2:r.toks.drop (n+1)=sm (qB T)++(S [41]::post):=by rw[h1.2,gT,az];rfl
  have h3:=fA h2;rw[gS]at h3;refine .inr ⟨rfl,[.val<|.adr r.p,.val<|.str "("],?_⟩;refine aZ (j9 t 1<|bR (s':=(((n+1:Nat):Int),xs)) t ok c1 (bK (Xs.z<|aa t 0)<|Yj.z ag) ⟨n,rfl,rfl,by rw[h1.1,show("(":Str)=S [40]by decide],by rw[iN];rfl⟩)<|bY<|uc (Xu.z<|Xu.eq (bv t (aa t 1) Xr<|by decide)<|by decide)<|aZ (dN<|bR t ok c2 (bK (Xs.z<|aa t 0)<|Yj.z ag) ⟨ho,n+1,T,S [41]::post,rfl,rfl,hT,h2,λu hu=>?_,hz,rfl,rfl⟩)<|bY<|S2 (dN<|bR t ok c3 (bK (Xs.z<|aa t 0)<|bK (Xs.z<|aG<|ab Xr ag)<|Yj.z ag) ⟨n+1+(qB T).length,[41],[[41]],post,.inr<|by rw[show(")":Str)=S [41]by decide];rfl,rfl,h3,by simp,(by decide),rfl,rfl⟩) ?_
  ·have hu':u=[94]\/u=[42]\/u=[43]\/u=[45]:=by simpa using hu
   rcases hu' with rfl |rfl |rfl |rfl<;>exactλe=>(by have:=e9 e;cases this)
  ·refine gr ?_ rfl;simp;lia
section
variable {ds:aU}
def F9(t:At X N sc){C:aU->D->Prop}(h:EV.Callee X x C)(ha:NA X q ρ (e::es) ds xs xs1)(hC:C ds d)(hg:z6 sc x:=by rfl)(Yt:tH x:=by rfl):ZF X q ρ (.Call (.Name x p) (e::es) [] pos) d xs xs1:=λB F0 H σ Q us l k w=>.mk λpins s I=>by obtain⟨f,fd,ps,kk,F,hr',hm,hk,hb⟩:=h;have pz:i8 jq X E0:=vv;refine mK F hr' (dO t hg) hm hk hb .nil pz vw Yt (ha.1.1 _ _) (PlA.any ha.1.2) pins s σ H Q I (ha.2 B F0 H σ _ us l k λvs F1 H1 u1 x1 r1 rv=>?_);have k1:=k.zB3 l x1;refine⟨F1,ds,d,k1.sub,by rw[aV];exact rv,hC,λv F2 H2 x2 rv2=>w v F2 H2 u1 (x1.tM (l.ff k)<|x2.toM<|k1.sh _ _ aM) (r1.mono x2.sf) rv2⟩
end
def Io(ts:List bH):Prop:=∀i,i<=ts.length->iE [40] [41] (ts.take i)<=20/\iE [91] [93] (ts.take i)<=20
def sw(ds:aU)(toks:bM):Prop:=∃(cs:bH)(ts:List bH)(m:Nat),ds=[.str<|S cs,.int m]/\Lex cs ts/\(∀c∈cs,c<128)/\cs.length<=m/\m<=2000/\(∀u∈ts,∀x∈u,x<128)/\Io ts/\toks=sm ts
def BV:∀ds ts,sw ds ts->ds.length=2:=by rintro _ _ ⟨a,b,c,rfl,_⟩;rfl
def EE(h:DefX P w K mg base k Y0 (ah mo) X)(Xw:mg "isinstance"=none)(Zh:mg "str"=none)(XD:mg "len"=none)(c1:EV.Callee X "tokens_of" so)(c2:EV.Callee X "refuse_deep" ni)(M:Wo X "Reader" C):∀ds ts,sw ds ts->GJ X (ds.map Sl.val++List.replicate (Y0.length-ds.length) Sl.un) (bA mo) ts:=by
 rintro ds r ⟨cs,ts,m,rfl,hl,ha,hm,hz,ht,hd,rfl⟩;have t:=h.at';haveI:=h.X1;have b1:=h.bt Xw;have b2:=h.bt Zh;have b3:=h.bt XD;refine wt (bw (Xu.eq (pM (u:=false) (Xu.eq (iC<|eD<|rN t b1 b2 (aa t 0) rfl) rfl) λ_=>i6 (gL t b3 (aa t 0)<|Y2<|by lia)<|aa t 1) ?_) bc) ?_;·rw[e8,GW,aQ];lia
 refine wt (df t 2<|aB t c1 (ab (aa t 0) ag) ⟨cs,ts,rfl,hl,ha,by lia,rfl⟩) ?_;refine wt (Hb<|aB t c2 (ab (aa t 2)<|ab Xr<|ab Xr ag) ⟨ts,[40],[41],rfl,ht,by simp,by simp,λi hi=>(hd i hi).1,rfl⟩) ?_;refine wt (Hb<|aB t c2 (ab (aa t 2)<|ab Xr<|ab Xr ag) ⟨ts,[91],[93],rfl,ht,by simp,by simp,λi hi=>(hd i hi).2,rfl⟩) ?_;refine MY t M<|Xs.eq (aa t 2) ?_;unfold aX sm;rw[bu];rfl
def Hs(u:bH):Int:=((PySem.NumText.digitsVal u:Nat):Int)
def NQ(u:bH):Bd:=if u=[120]then [[0,1]]else if u=[121]then [[],[1]]else if Hs u=0 then []else [[Hs u]]
def xz(ds:aU)(d:D):Prop:=∃u,ds=[.str<|S u]/\Yq u/\d=ay (NQ u)
def FR:∀ds d,xz ds d->ds.length=1:=by rintro _ _ ⟨a,rfl,_⟩;rfl
def Rv(h:ET u):u≠[120]/\u≠[121]:=⟨λe=>by have:=h.2.1 120 (by rw[e];simp);lia,λe=>by have:=h.2.1 121 (by rw[e];simp);lia⟩
def Mi(h:ET u):PySem.intText? (S u)=some (Hs u):=by have:=PySem.intText_digits (by rw[j1];exact h.2.1) (by rw[j1];exact h.1) (by rw[e8];have:=h.2.2.1;lia);rw[j1]at this;exact this
def KN(h:DefX P w K mg base k xw (ah sU) X)(Zi:mg "int"=none):Go X xw sU xz:=by
 rintro ds r ⟨u,rfl,hu,rfl⟩;have t:=h.at';haveI:=h.X1;have b1:=h.bt Zi;have ok:=fO hu.lt;have e1:decide (S u=("x":Str))=decide (u=[120]):=decide_eq_decide.mpr ⟨λe=>e9<|by rw[e];decide,λe=>by rw[e];decide⟩;have e2:decide (S u=("y":Str))=decide (u=[121]):=decide_eq_decide.mpr ⟨λe=>e9<|by rw[e];decide,λe=>by rw[e];decide⟩;refine xQ (Xu.eq (bv t (aa t 0) Xr ok) e1) (λv=>aq<|aW<|Xs.eq (aG<|ab (aG<|ab ai<|ab ai ag) ag) ?_) λv=>?_;·rw[bj]at v;subst v;rfl
 rw[aQ]at v;refine xQ (Xu.eq (bv t (aa t 0) Xr ok) e2) (λv'=>aq<|aW<|Xs.eq (aG<|ab (aG ag)<|ab (aG<|ab ai ag) ag) ?_) λv'=>?_;·rw[bj]at v';subst v';rfl
 rw[aQ]at v';have hn:ET u:=by
  rcases hu with hh |hh |hh;·exact hh
  ·exact absurd hh v
  ·exact absurd hh v'
 refine au (df t 1<|Jt t b1 (aa t 0) (Mi hn)<|by rw[e8];have:=hn.2.2.1;lia)<|aq<|aW ?_;unfold NQ;rw[ak v,ak v'];by_cases e:Hs u=0;·rw[ar e];exact kg (Xu.eq (xj (aa t 1) ai)<|by rw[e];rfl)<|aG ag
 ·rw[ak e];exact ke (Xu.eq (xj (aa t 1) ai)<|by rw[ao e];rfl)<|aG<|ab (aG<|ab (aa t 1) ag) ag
def Fy(b:Bd):Nat->Bd|0=>[[1]]|i+1=>kb (Fy b i) b
def Nt(b:Bd)(m:Nat):Prop:=(∀i,i<m->Yy 100 (Fy b i))/\Yy 100 b/\(∀r∈b,∀y∈r,-(2 ^ 63)<y/\y<2 ^ 63)
def jy(ds:aU)(d:D):Prop:=∃(b:Bd)(m:Nat),ds=[ay b,.int m]/\m<=9/\Nt b m/\d=ay (Fy b m)
def um:∀ds d,jy ds d->ds.length=2:=by rintro _ _ ⟨a,b,rfl,_⟩;rfl
def xm(h:DefX P w K mg base k jv (ah gI) X)(XJ:mg "range"=none)(c1:EV.Callee X "board_times" jQ):Go X jv gI jy:=by
 rintro ds r ⟨b,m,rfl,hm,hb,rfl⟩;have t:=h.at';haveI:=h.X1;have b1:=h.bt XJ;refine au (df t 2<|aG<|ab (aG<|ab ai ag) ag)<|au (fF t (fz t b1 (aa t 1) (by lia)<|by lia)<|XO.XW (ρ':=[.val<|ay b,.val<|.int m,.val<|ay<|Fy b m,.un]) (λi=>[.val<|ay b,.val<|.int m,.val<|ay<|Fy b i,.un]) (λj d e=>?_) rfl ?_)<|aq<|aW<|aa t 2
 ·have hj:j<m:=by have:=(List.getElem?_eq_some_iff.mp e).1;simpa[fv]using this
  exact⟨_,dA t 3,Xt.weak (aq<|df t 2<|aB t c1 (ab (aa t 2)<|ab (aa t 0) ag) ⟨Fy b j,b,rfl,hb.1 j hj,hb.2.1,hb.2.2,rfl⟩)<|.keep<|.keep<|.keep<|.forget .nil⟩
 ·simp[fv]
inductive Ym:bH->List Bd->List Bd->Prop where
 |atom {u:bH} {st:List Bd}:Yq u->Ym u st (st++[NQ u])
 |add {st:List Bd} {a b:Bd}:Yy 1000 a->Yy 1000 b->Ym [43] (st++[a]++[b]) (st++[mJ a b])
 |sub {st:List Bd} {a b:Bd}:Yy 1000 a->Yy 1000 b->Ym [45] (st++[a]++[b]) (st++[mJ a<|v9 b])
 |mul {st:List Bd} {a b:Bd}:Yy 100 a->Yy 100 b->(∀r∈b,∀y∈r,-(2 ^ 63)<y/\y<2 ^ 63)->Ym [42] (st++[a]++[b]) (st++[kb a b])
 |neg {st:List Bd} {b:Bd}:Yy 1000 b->Ym [109,105,110,117,115] (st++[b]) (st++[mJ []<|v9 b])
 |pow {st:List Bd} {b:Bd} {d:Nat}:Nt b d->d<=9->Ym [94,48+d] (st++[b]) (st++[Fy b d])
def oU(d0:D)(xs xs':aU):Prop:=∃(u:bH)(pre:aU)(st YG:List Bd),d0=.str (S u)/\Ym u st YG/\pre.length+st.length<10000/\xs=pre++st.map ay/\xs'=pre++YG.map ay
def WJ:Yy 1000 []:=⟨by decide,λr h=>nomatch h⟩
def WL(w:Str):((XB [D.str "+",.str "-",.str "*"]).any λy=>PyData.eqv y<|dY<|.str w)=(decide (w="+")||(decide (w="-")||decide (w="*"))):=by show((("+":Str)==w)||((("-":Str)==w)||((("*":Str)==w)||false)))=_;rw[fJ,fJ,fJ,xD,decide_eq_decide.mpr (show("+":Str)=w↔w="+"from BE),decide_eq_decide.mpr (show("-":Str)=w↔w="-"from BE),decide_eq_decide.mpr (show("*":Str)=w↔w="*"from BE)]
def He(h:Yq u):∃c cs,u=c::cs/\((48<=c/\c<=57)\/(c=120/\cs=[])\/(c=121/\cs=[])):=by
 rcases h with h |rfl |rfl;·cases u with|nil=>exact absurd rfl h.1|cons c cs=>exact⟨c,cs,rfl,.inl<|h.2.1 c<|by simp⟩
 ·exact⟨_,_,rfl,.inr<|.inl ⟨rfl,rfl⟩⟩
 ·exact⟨_,_,rfl,.inr<|.inr ⟨rfl,rfl⟩⟩
def BQ{u:bH}{z:Str}(hz:z=S v)(h:u≠v):decide (S u=z)=false:=ao λe=>h<|e9<|e.trans hz
def zp:("+":Str)=S [43]:=by decide
def zm:("-":Str)=S [45]:=by decide
def zt:("*":Str)=S [42]:=by decide
def zn:("minus":Str)=S [109,105,110,117,115]:=by decide
def zc:("^":Str)=S [94]:=by decide
def S4{st:Stmt}{b:aU}(h:Cy X q ρ st o s a)(e:a=b):Cy X q ρ st o s b:=e▸h
def wC(h:DefX P w K mg base k Yf (ah gH) X)(Zi:mg "int"=none)(c1:EV.Callee X "board_times" jQ)(c2:EV.Callee X "board_minus" jR)(c3:EV.Callee X "board_plus" lc)(c4:EV.Callee X "power_of_board" jy)(c5:EV.Callee X "atom_of" xz):∀q d0 xs xs',oU d0 xs xs'->∃ρ',PZ X q (.val d0::.val (.adr q)::List.replicate (Yf.length-2) Sl.un) (bA gH) (.nx ρ') xs xs':=by
 rintro q d0 xs xs' ⟨u,pre,st,YG,rfl,hs,hl,rfl,rfl⟩;have t:=h.at';haveI:=h.X1;have b1:=h.bt Zi;have cw:PyData.canLayAll0 (XB [D.str "+",.str "-",.str "*"])=true:=by decide
 cases hs with
 |atom hu=>
  obtain⟨c,cs,rfl,hc⟩:=He hu;have f1:c≠43/\c≠45/\c≠42/\c≠109/\c≠94:=by lia
  have ok:=fO hu.lt;have i1:(decide (S (c::cs)=("+":Str))||(decide (S (c::cs)=("-":Str))||decide (S (c::cs)=("*":Str))))=false:=by rw[BQ zp (by intro e;cases e;exact f1.1 rfl),BQ zm (by intro e;cases e;exact f1.2.1 rfl),BQ zt<|by intro e;cases e;exact f1.2.2.1 rfl];rfl
  refine⟨[.val<|.str<|S<|c::cs,.val<|.adr q,.un,.un],dq<|jp (Xu.l<|js t (aa t 0) (aG<|ab Xr<|ab Xr<|ab Xr ag) (cH ok) (cj _) cw<|by rw[WL];exact i1)<|dq<|jp (Xu.l<|Xu.eq (bv t (aa t 0) Xr ok)<|BQ zn<|by intro e;cases e;exact f1.2.2.2.1 rfl)<|dq<|jp (Xu.l<|Xu.eq (bv t (iz (aa t 0) ai (Y2<|by have:=hu.len;lia)<|by rw[j1];exact jN rfl) Xr (fO λx hx=>hu.lt x<|by simp at hx;simp[hx]))<|BQ zc<|by intro e;cases e;exact f1.2.2.2.2 rfl)<|dq<|S4 (fP t 1 rfl (Xs.em<|aB t c5 (ab (aa t 0) ag) ⟨_,rfl,hu,rfl⟩)<|by rw[ac,ae];exact sz hl)<|by rw[aA,<-az];rfl⟩
 |@add s0 a b ha hb=>refine⟨[.val<|.str<|S [43],.val<|.adr q,.val<|ay b,.val<|ay a],dq<|tX (Xu.l<|js t (aa t 0) (aG<|ab Xr<|ab Xr<|ab Xr ag) (cH<|by decide) (cj _) cw<|by decide)<|lM (mT t 2<|eZ t 1 rfl (xs':=pre++(s0++[a]).map ay)<|by simp)<|lM (mT t 3<|eZ t 1 rfl (xs':=pre++s0.map ay)<|by simp)<|dq<|jp (Xu.l<|Xu.eq (bv t (aa t 0) Xr<|by decide)<|by decide)<|dq<|S4 (fP t 1 rfl (Xs.em<|ke (Xu.eq (bv t (aa t 0) Xr<|by decide)<|by decide)<|aB t c3 (ab (aa t 3)<|ab (aa t 2) ag) ⟨a,b,rfl,ha,hb,rfl⟩)<|by rw[ac,ae];exact sz<|by simp at hl;lia)<|by rw[aA,<-az];rfl⟩|@sub s0 a b ha hb=>refine⟨[.val<|.str<|S [45],.val<|.adr q,.val<|ay b,.val<|ay a],dq<|tX (Xu.l<|js t (aa t 0) (aG<|ab Xr<|ab Xr<|ab Xr ag) (cH<|by decide) (cj _) cw<|by decide)<|lM (mT t 2<|eZ t 1 rfl (xs':=pre++(s0++[a]).map ay)<|by simp)<|lM (mT t 3<|eZ t 1 rfl (xs':=pre++s0.map ay)<|by simp)<|dq<|jp (Xu.l<|Xu.eq (bv t (aa t 0) Xr<|by decide)<|by decide)<|dq<|S4 (fP t 1 rfl (Xs.em<|kg (Xu.eq (bv t (aa t 0) Xr<|by decide)<|by decide)<|aB t c2 (ab (aa t 3)<|ab (aa t 2) ag) ⟨a,b,rfl,ha,hb,rfl⟩)<|by rw[ac,ae];exact sz<|by simp at hl;lia)<|by rw[aA,<-az];rfl⟩
 |@mul s0 a b ha hb hv=>refine⟨[.val<|.str<|S [42],.val<|.adr q,.val<|ay b,.val<|ay a],dq<|tX (Xu.l<|js t (aa t 0) (aG<|ab Xr<|ab Xr<|ab Xr ag) (cH<|by decide) (cj _) cw<|by decide)<|lM (mT t 2<|eZ t 1 rfl (xs':=pre++(s0++[a]).map ay)<|by simp)<|lM (mT t 3<|eZ t 1 rfl (xs':=pre++s0.map ay)<|by simp)<|dq<|tX (Xu.l<|Xu.eq (bv t (aa t 0) Xr<|by decide)<|by decide)<|dq<|S4 (fP t 1 rfl (Xs.em<|aB t c1 (ab (aa t 3)<|ab (aa t 2) ag) ⟨a,b,rfl,ha,hb,hv,rfl⟩)<|by rw[ac,ae];exact sz<|by simp at hl;lia)<|by rw[aA,<-az];rfl⟩|@neg s0 b hb=>refine⟨[.val<|.str<|S [109,105,110,117,115],.val<|.adr q,.un,.un],dq<|jp (Xu.l<|js t (aa t 0) (aG<|ab Xr<|ab Xr<|ab Xr ag) (cH<|by decide) (cj _) cw<|by decide)<|dq<|tX (Xu.l<|Xu.eq (bv t (aa t 0) Xr<|by decide)<|by decide)<|dq<|S4 (fP t 1 rfl (F9 t c2 (mO (Xs.em<|aG ag)<|mO (eZ t 1 rfl (xs':=pre++s0.map ay)<|by simp)<|Yj.am ag) ⟨[],b,rfl,WJ,hb,rfl⟩)<|by rw[ac,ae];exact sz<|by simp at hl;lia)<|by rw[aA,<-az];rfl⟩
 |@pow s0 b d hb hd=>
  have ok:PyData.strOk (S [94,48+d])=true:=fO λx hx=>by simp at hx;lia
  have i1:(decide (S [94,48+d]=("+":Str))||(decide (S [94,48+d]=("-":Str))||decide (S [94,48+d]=("*":Str))))=false:=by rw[BQ zp (by intro e;cases e),BQ zm (by intro e;cases e),BQ zt<|by intro e;cases e];rfl
  have zIA:PySem.intText? (S [48+d])=some ((d:Nat):Int):=by
   have:∀d:Nat,d<10->PySem.intText? (S [48+d])=some ((d:Nat):Int):=by decide
   exact this d<|by lia
  refine⟨[.val<|.str<|S [94,48+d],.val<|.adr q,.un,.un],dq<|jp (Xu.l<|js t (aa t 0) (aG<|ab Xr<|ab Xr<|ab Xr ag) (cH ok) (cj _) cw<|by rw[WL];exact i1)<|dq<|jp (Xu.l<|Xu.eq (bv t (aa t 0) Xr ok)<|BQ zn<|by intro e;cases e)<|dq<|tX (Xu.l<|Xu.eq (bv t (iz (aa t 0) ai (Y2<|by simp)<|by rw[j1];exact jN rfl) Xr<|by decide)<|by decide)<|dq<|S4 (fP t 1 rfl (F9 t c4 (mO (eZ t 1 rfl (xs':=pre++s0.map ay)<|by simp)<|Yj.am<|ab (Jt t b1 (iz (aa t 0) ai (Y2<|by simp)<|by rw[j1];exact jN rfl) zIA<|by show(S [48+d]).length<=640;rw[e8];simp) ag) ⟨b,d,rfl,hd,hb,rfl⟩)<|by rw[ac,ae];exact sz<|by simp at hl;lia)<|by rw[aA,<-az];rfl⟩
inductive Runs:List bH->List Bd->List Bd->Prop where
 |nil {a:List Bd}:Runs [] a a
 |cons {u:bH} {us:List bH} {a b c:List Bd}:Ym u a b->Runs us b c->Runs (u::us) a c
def Runs.app{us vs:List bH}{a b c:List Bd}(h:Runs us a b)(g:Runs vs b c):Runs (us++vs) a c:=by induction h with|nil=>exact g|cons s _ ih=>exact .cons s<|ih g
def Ym.len{a b:List Bd}(h:Ym u a b):b.length<=a.length+1:=by cases h<;>simp<;>lia
inductive pP where
 |neg |qu (a x:Bool)
def qN:bH:=[110,111,116]
def qw(a:Bool):bH:=if a then [115,111,109,101]else [97,108,108]
def lw(x:Bool):bH:=if x then [120]else [121]
def NG:pP->TK|.neg=>[qN]|.qu a x=>[qw a,lw x]
def G9:pP->bH|.neg=>qN|.qu a x=>qw a++32::lw x
def cD:List pP->TK|[]=>[]|p::ps=>NG p++cD ps
def uN:∀a b:List pP,cD (a++b)=cD a++cD b|[],b=>rfl|f::a,b=>by show NG f++cD (a++b)=_;rw[uN a b];simp[cD]
def dy(ps:List pP):TK:=(ps.map G9).reverse
def Hj:TK:=[qN,qw true,qw false]
def Wb(u v z w:Str):([PyData.str u,.str v,.str z].any λy=>PyData.eqv y<|.str w)=(decide (w=u)||(decide (w=v)||decide (w=z))):=by show((u==w)||((v==w)||((z==w)||false)))=_;rw[fJ,fJ,fJ,xD,decide_eq_decide.mpr (show u=w↔w=u from BE),decide_eq_decide.mpr (show v=w↔w=v from BE),decide_eq_decide.mpr (show z=w↔w=z from BE)]
def MV(t:At X N sc)(ha:Xs X ρ a (.str u))(hb:Xs X ρ b (.str v))(hu:PyData.strOk u=true)(hv:PyData.strOk v=true:=by decide):Xu X ρ (.Compare a [.NotEq] [b] pos) (!decide (u=v)):=kh t ha.p hb.p (gv hu) (gv hv)<|by show(!(u==v))=_;rw[fJ u v]
def Hr{b:Bool}{ρ:cJ}(t:At X N sc)(ok:mW X.K r)(c2:Xx X "next_token" cQ)(ho:∀x∈r.toks,PyData.strOk x=true)(hr:ρ[0]?=some (.val<|.adr r.p))(hb:(decide (HD (r.toks.drop n)="not")||(decide (HD (r.toks.drop n)="some")||decide (HD (r.toks.drop n)="all")))=b)(hN:N[0]?=some ("reader":Str):=by rfl)(hv:fB sc ("reader":Str)=true:=by rfl)(hx:cv ("reader":Str)=true:=by rfl)(hg:sc.names.lookup ("next_token":Str)=some .globalImplicit:=by rfl):Yb (XE r) X ρ (.Compare (.Call (.Name "next_token" p) [.Name "reader" py] [] pos) [.In] [.Tuple [.Constant (.str "not") j p2,.Constant (.str "some") j2 p3,.Constant (.str "all") j3 p5] kk p4] pos') b ((n:Int),xs) ((n:Int),xs):=P4 t (bR t ok c2 (bK (Xs.z<|aa t 0 hr hN hv hx)<|Yj.z ag) ⟨n,rfl,rfl,rfl,rfl⟩ hg) (Xs.z<|aG<|ab Xr<|ab Xr<|ab Xr ag) (cH<|ME ho n) (cj _) (by decide)<|(Wb "not" "some" "all" _).trans hb
def kz(toks:bM)(ds:aU)(s:Int×aU)(d:D)(s':Int×aU):Prop:=(∀x∈toks,PyData.strOk x=true)/\∃(n:Nat)(ps:List pP)(post:bM),ds=[]/\s.1=n/\toks.drop n=sm (cD ps)++post/\No Hj post/\ps.length<=20/\d=.lst (aX<|dy ps)/\s'=(((n+(cD ps).length:Nat):Int),s.2)
def wc:∀ts ds s d s',kz ts ds s d s'->ds.length+1=1:=by rintro _ _ _ _ _ ⟨_,a,b,c,rfl,_⟩;rfl
def QA:("not":Str)=S qN:=by decide
def Tg:("some":Str)=S (qw true):=by decide
def zX:("x":Str)=S [120]:=by decide
def zY:("y":Str)=S [121]:=by decide
def QG:[D.tup [D.str "x",.str "y"]]=[D.tup<|aX [[120],[121]]]:=by rw[zX,zY];rfl
def Vi:("all":Str)=S (qw false):=by decide
def xl(h:DefX P w K mg base k km (ah ig) X)(XD:mg "len"=none)(c2:Xx X "next_token" cQ)(c3:Xx X "take_token" du)(c4:Xx X "take_one_of" fk)(gM:∃tk,mg "MOST_PREFIXES"=some (.int 20 tk)):K5 X km ig kz:=by
 rintro r ok ds ⟨i,xs⟩ d s' ⟨ho,n,ps,post,rfl,hn,hd,ZG,hl,rfl,rfl⟩;have t:=h.at';haveI:=h.X1;have Zp:i=(n:Int):=hn;subst Zp;have b1:=h.bt XD;have gM':∃tk,X.mg "MOST_PREFIXES"=some (.int 20 tk):=by rw[h.YQ];exact gM
 refine .inl ?_;have dr:∀i,i<=ps.length->r.toks.drop (n+(cD<|ps.take i).length)=sm (cD<|ps.drop i)++post:=λi hi=>by
  have e:cD ps=cD (ps.take i)++cD (ps.drop i):=by rw[<-uN,eF]
  rw[e,gT,az]at hd;have:=fA hd;rw[gS]at this;exact this
 refine aZ (X5.z<|gV t 1<|bI ag)<|aZ (sN t (λi=>[.val<|.adr r.p,.own<|aX<|(ps.take i).map G9,.un]) (λi=>(((n+(cD<|ps.take i).length:Nat):Int),xs)) ps.length (λi hi=>?_) ?_ rfl ?_ rfl rfl)<|aZ (X5.z<|bw (Xu.eq (i6 (c7 t b1<|dL t 1 rfl)<|wq t gM') ?_) bc)<|E6 (bY<|X5.z<|aW<|Xs.eq (Es (dL t 1 rfl)<|gX ai).Ya ?_) ?_
 ·have d0:=dr i (by lia);rw[show ps.drop i=ps[i]::ps.drop (i+1)by rw[cm hi]]at d0;have et:ps.take (i+1)=ps.take i++[ps[i]]:=N4 ps hi;cases ep:ps[i]with
  |neg=>
   rw[ep]at d0 et;have h1:=A5 d0;refine⟨Hr t ok c2 ho rfl<|by rw[h1.1];decide,YE.weak (aZ (j9 t 2<|XG.eq (ue t ok c3 rfl)<|by rw[h1.1])<|aZ (lD (Xu.z<|Xu.eq (MV t (aa t 2) Xr<|by decide)<|by decide) qM)<|E6 (bY<|X5.z<|dI t 1 rfl (aa t 2)<|sz ?_) ?_) ?_⟩;·rw[bN,ae,bC];lia
   ·refine gr ?_ rfl;rw[et,uN];simp[cD,NG];lia
   ·rw[et,aA];rw[gE];exact .keep<|.keep<|.forget .nil
  |qu a x=>
   rw[ep]at d0 et;have h1:=A5 d0;have h2:=h1.2;refine⟨Hr t ok c2 ho rfl (by rw[h1.1];cases a<;>decide),YE.weak (aZ (j9 t 2<|XG.eq (ue t ok c3 rfl)<|by rw[h1.1])<|aZ (uc (Xu.z<|Xu.eq (MV t (aa t 2) Xr<|by cases a<;>decide)<|by cases a<;>decide)<|bY<|NX t 2 rfl (Ej (Xs.z Xr) (bR t ok c4 (bK (Xs.z<|aa t 0)<|Yj.z<|ab (aG<|ab Xr<|ab Xr ag) ag) ⟨n+(cD<|ps.take i).length+1,lw x,[[120],[121]],sm (cD<|ps.drop<|i+1)++post,.inr QG,rfl,h2,by cases x<;>decide,by decide,rfl,rfl⟩)<|aJ (m:=100) (by cases x<;>decide)<|by decide)<|aJ (m:=100) (by cases a<;>cases x<;>decide)<|by decide)<|E6 (bY<|X5.z<|dI t 1 rfl (aa t 2)<|sz ?_) ?_) ?_⟩;·rw[bN,ae,bC];lia
   ·refine gr ?_ rfl;rw[et,uN];simp[cD,NG];lia
   ·rw[et,aA];show Zt [.val<|.adr r.p,.own<|aX ((ps.take i).map G9)++[.str _],.val _] [.val<|.adr r.p,.own<|aX<|(ps.take i).map G9++[G9<|.qu a x],.un];rw[gE,show aX [G9<|.qu a x]=[.str<|S<|G9<|.qu a x]from rfl,show S (G9<|.qu a x)=S (qw a)++((" ":Str)++S (lw x))by cases a<;>cases x<;>decide];exact .keep<|.keep<|.forget .nil
 ·have d0:=dr ps.length<|aj _;rw[qA]at d0;refine Hr t ok c2 ho rfl ?_;rw[d0,QA,Tg,Vi];show(decide (HD post=_)||(decide (HD post=_)||decide (HD post=_)))=false;rw[ao<|ZG qN<|by simp[Hj],ao<|ZG (qw true)<|by simp[Hj],ao<|ZG (qw false)<|by simp[Hj]];rfl
 ·show _=_;rfl
 ·rw[bN,ae,bC,aQ];lia
 ·rw[a7];show D.lst (List.map _ _).reverse=D.lst (List.map _ _);rw[<-y0];rfl
 ·rw[a7]
def aw(a:Bool):bH:=if a then [97,110,100]else [111,114]
def NN(ps:List pP):D:=.tup [.lst<|aX<|dy ps,.str<|S []]
def NM(p:List pP×Bool):D:=.tup [.lst<|aX<|dy p.1,.str<|S<|aw p.2]
def fW:List (List pP×Bool)->TK|[]=>[]|p::bs=>aw p.2::(dy p.1++fW bs)
def Ce(n:Nat):TK:=List.replicate n [93]
def ZM(x:D):Prop:=(∃ps,x=NN ps)\/∃p,x=NM p
def G8(p:pP):∀c∈G9 p,c<128:=by cases p with|neg=>decide|qu a x=>cases a<;>cases x<;>decide
def Iy{ps:List pP}:∀u∈dy ps,∀c∈u,c<128:=λu hu=>by unfold dy at hu;rw[gY]at hu;obtain⟨p,_,rfl⟩:=List.mem_map.mp hu;exact G8 p
def xS(a:Bool):∀c∈aw a,c<128:=by cases a<;>decide
def Fn.str{u:bH}(n:Nat)(h:∀c∈u,c<128):Fn n (.str<|S u):=⟨cH<|fO h,by simp[dY,PyData.depth],by simp[dY,PyData.eqv]⟩
def Fn.fr{us:TK}{z:bH}(h1:∀u∈us,∀c∈u,c<128)(h2:∀c∈z,c<128):Fn 3 (.tup [.lst<|aX us,.str<|S z]):=Fn.tup λx hx=>by
 simp at hx;rcases hx with rfl |rfl;·refine Fn.lst λy hy=>?_;obtain⟨u,hu,rfl⟩:=List.mem_map.mp hy;exact Fn.str 1<|h1 u hu
 ·exact Fn.str 2 h2
def ZM.fn(h:ZM x):Fn 3 x:=by
 rcases h with⟨ps,rfl⟩ |⟨p,rfl⟩;·exact Fn.fr Iy λc h=>nomatch h
 ·exact Fn.fr Iy<|xS _
def Jl{xs:aU}(h:∀x∈xs,ZM x):SeqAt.shaped (PyData.list<|XB xs)=true:=(Fn.lst λx hx=>(h x hx).fn).sh<|by decide
def oZ(bs:List (List pP×Bool)):aU:=(bs.map NM).reverse
def FW(p:List pP×Bool)(bs:List (List pP×Bool)):oZ (p::bs)=oZ bs++[NM p]:=by simp[oZ]
def MG{bs:List (List pP×Bool)}:∀x∈oZ bs,ZM x:=λx hx=>by unfold oZ at hx;rw[gY]at hx;obtain⟨p,_,rfl⟩:=List.mem_map.mp hx;exact .inr ⟨p,rfl⟩
def je(toks:bM)(s:Int×aU)(xs:aU)(d:D)(s':Int×aU)(xs':aU):Prop:=(∀x∈toks,PyData.strOk x=true)/\∃(n:Nat)(bs:List (List pP×Bool))(post:bM),s.1=n/\s.2.length+(fW bs).length<10000/\((∃(xs0:aU)(ps:List pP)(w:Bool),(∀x∈xs0,ZM x)/\xs0.length<10000/\xs=(xs0++[NN ps])++oZ bs/\toks.drop n=sm (Ce bs.length)++(S (aw w)::post)/\d=.bl false/\s'=(((n+bs.length+1:Nat):Int),s.2++aX (fW bs))/\xs'=xs0++[NM (ps,w)])\/(xs=oZ bs/\toks.drop n=sm (Ce bs.length)++post/\d=.bl true/\s'=(((n+bs.length:Nat):Int),s.2++aX (fW bs))/\xs'=[]))
def Lo:[D.tup [D.str "]"]]=[D.tup<|aX [[93]]]:=by rw[show("]":Str)=S [93]by decide];rfl
def QH:[D.tup [D.str "and",.str "or"]]=[D.tup<|aX [aw true,aw false]]:=by rw[show("and":Str)=S (aw true)by decide,show("or":Str)=S (aw false)by decide];rfl
def zE:("":Str)=S []:=by decide
def IZ(xs:aU)(x:D):true= !(xs++[x]).isEmpty:=by cases xs<;>rfl
def JI{i m:Nat}(h:i<m):Ce m=Ce i++([93]::Ce (m-(i+1))):=by unfold Ce;rw[<-bg,K6];congr 1;lia
def Yx.pre{SS:LS}{s':SS.ds}(T:Nat->SS.ds):∀(N:Nat),(∀i,i<N->Yb SS X ρ cd true (T i) (T i)/\YE SS X ρ body (.nx ρ) (T i) (T<|i+1))->(∃m,Yx SS X cd body m ρ (T N) o s')->∃m,Yx SS X cd body m ρ (T 0) o s'|0,_,h=>h|N+1,h,⟨m,g⟩=>Yx.pre T N (λi hi=>h i<|by lia) ⟨m+1,.step (h N<|by lia).1 (h N<|by lia).2 g⟩
def zGL.from{SS:LS}{s s' a:SS.ds}(h:∃m,Yx SS X cd body m ρ s o s')(e:a=s):∃m,Yx SS X cd body m ρ a o s':=e▸h
def lV:∀a b,fW (a++b)=fW a++fW b|[],b=>rfl|p::a,b=>by show aw p.2::(dy p.1++fW (a++b))=_;rw[lV a b];simp[fW]
def yn(h:DefX P w K mg base k Yr (ah iS) X)(c4:Xx X "take_one_of" fk):∀(r:wK)(q:Addr),mW X.K r->oW (XE r) q->∀s xs d s' xs',je r.toks s xs d s' xs'->YE ((XE r).lst q) X (.val (.adr r.p)::.val (.adr q)::List.replicate (Yr.length-2) Sl.un) (bA iS) (.rt d) (s,xs) (s',xs'):=by
 rintro r q ok hq ⟨i,ys⟩ xs d s' xs' ⟨ho,n,bs,post,hn,hz,hc⟩;have t:=h.at';haveI:=h.X1;have Zp:i=(n:Int):=hn;subst Zp;have hz:ys.length+(fW bs).length<10000:=hz;rcases hc with⟨xs0,ps,w',hf,hl,rfl,hd,rfl,rfl,rfl⟩ |⟨rfl,hd,rfl,rfl,rfl⟩
 ·have hXB:∀x∈xs0++[NN ps],ZM x:=λx hx=>by
   rcases aL.mp hx with z |z;·exact hf x z
   ·simp at z;exact .inl ⟨ps,z⟩
  have hdn:r.toks.drop (n+bs.length)=S (aw w')::post:=by have:=fA hd;rw[gS]at this;simpa[Ce]using this
  refine K8 (CD t (zGL.from (Yx.pre (λi=>(((((n+i:Nat):Int),ys++aX (fW<|bs.take i)),(xs0++[NN ps])++oZ (bs.drop i)):((XE r).lst q).ds)) bs.length (λi hi=>by
   have ed:bs.drop i=bs[i]::bs.drop (i+1):=cm hi;have et:bs.take (i+1)=bs.take i++[bs[i]]:=N4 bs hi;have hz2:=hz;rw[<-eF (i+1) bs,lV,et,lV,ac,ac]at hz2;have hz3:(fW [bs[i]]).length=(dy bs[i].1).length+1:=by simp[fW]
   have hdi:r.toks.drop (n+i)=S [93]::(sm (Ce<|bs.length-(i+1))++(S (aw w')::post)):=by rw[<-S0,hd,JI hi,gT,az];have:=List.drop_left' (l₁:=sm<|Ce i) (l₂:=sm ([93]::Ce (bs.length-(i+1)))++((S (aw w')::post))) (i:=i) (by rw[gS];simp[Ce]);exact this
   have fx:∀x∈((xs0++[NN ps])++oZ (bs.drop<|i+1))++[NM bs[i]],ZM x:=λx hx=>by
    rcases aL.mp hx with z |z
    ·rcases aL.mp z with z |z;·exact hXB x z
     ·exact MG x z
    ·simp at z;exact .inr ⟨_,z⟩
   have ex:(xs0++[NN ps])++oZ (bs.drop i)=((xs0++[NN ps])++oZ (bs.drop<|i+1))++[NM bs[i]]:=by rw[ed,FW];simp
   rw[ex];refine⟨ZU.zl hq<|y4 t 1 rfl (Jl fx)<|IZ _ _,YE.weak (aZ (Dz t (ZF.zl hq<|eZ t 1 rfl rfl)<|gN t 2 3)<|aZ (lD (Xu.z<|Xu.eq (bv t (aa t 3) Xr<|fO<|xS _)<|by cases bs[i].2<;>decide) qM)<|aZ (X9.l hq<|dN<|bR t ok c4 (bK (Xs.z<|aa t 0)<|Yj.z<|ab (aG<|ab Xr ag) ag) ⟨n+i,[93],[[93]],_,.inr Lo,rfl,hdi,by simp,by decide,rfl,rfl⟩)<|aZ (X9.l hq<|mI t ok 0 rfl (Xs.z<|aa t 3)<|sz ?_)<|E6 (bY<|X9.l hq<|sV t ok 0 rfl (Xs.z<|aa t 2)<|j8<|sz ?_) ?_)<|.keep<|.keep<|.forget<|.forget .nil⟩;·show(ys++aX (fW<|bs.take i)).length<_;rw[ac,bN];lia
   ·show(ys++aX (fW<|bs.take i)++[D.str _]).length+(aX<|dy bs[i].1).length<_;rw[ac,ac,bN,bN,bO];lia
   ·refine gr (gr ?_ ?_) rfl;·show(((n+i:Nat):Int))+1=((n+(i+1):Nat):Int);lia
    ·show ys++aX (fW (bs.take i))++[D.str (S (aw bs[i].2))]++aX (dy bs[i].1)=ys++aX (fW (bs.take (i+1)));rw[et,lV,gE];simp[fW,aX]) ?_) ?_))
  ·refine⟨0,?_⟩;rw[a7,qA,show oZ []=[]from rfl,aV];refine .ret (ZU.zl hq<|y4 t 1 rfl (Jl hXB)<|by cases xs0<;>rfl)<|aZ (Dz t (ZF.zl hq<|eZ t 1 rfl rfl)<|gN t 2 3)<|K8<|uc (Xu.z<|Xu.eq (bv t (aa t 3) Xr<|by decide)<|by decide)<|aZ (JP hq t 1 rfl (XG.l hq<|R9<|bK (Xs.z<|aa t 2)<|bK (bR t ok c4 (bK (Xs.z<|aa t 0)<|Yj.z<|ab (aG<|ab Xr<|ab Xr ag) ag) ⟨n+bs.length,aw w',[aw true,aw false],post,.inr QH,rfl,hdn,by cases w'<;>simp,by decide,rfl,rfl⟩)<|Yj.z ag)<|sz hl)<|E6 (bY<|X5.z<|aW t5) ?_;rw[iN (n+bs.length) 1];rfl
  ·show((((n:Nat):Int),ys),(xs0++[NN ps])++oZ bs)=((((n+0:Nat):Int),ys++aX (fW<|bs.take 0)),(xs0++[NN ps])++oZ (bs.drop 0));simp[fW,aX]
 ·have hXB:∀x∈([]:aU),ZM x:=λx hx=>nomatch hx;refine aZ (ρ1:=[.val<|.adr r.p,.val<|.adr q,.un,.un]) (CD t (zGL.from (Yx.pre (λi=>(((((n+i:Nat):Int),ys++aX (fW<|bs.take i)),([]:aU)++oZ (bs.drop i)):((XE r).lst q).ds)) bs.length (λi hi=>by
   have ed:bs.drop i=bs[i]::bs.drop (i+1):=cm hi;have et:bs.take (i+1)=bs.take i++[bs[i]]:=N4 bs hi;have hz2:=hz;rw[<-eF (i+1) bs,lV,et,lV,ac,ac]at hz2;have hz3:(fW [bs[i]]).length=(dy bs[i].1).length+1:=by simp[fW]
   have hdi:r.toks.drop (n+i)=S [93]::(sm (Ce<|bs.length-(i+1))++post):=by rw[<-S0,hd,JI hi,gT,az];have:=List.drop_left' (l₁:=sm<|Ce i) (l₂:=sm ([93]::Ce (bs.length-(i+1)))++(post)) (i:=i) (by rw[gS];simp[Ce]);exact this
   have fx:∀x∈(([]:aU)++oZ (bs.drop<|i+1))++[NM bs[i]],ZM x:=λx hx=>by
    rcases aL.mp hx with z |z
    ·rcases aL.mp z with z |z;·exact hXB x z
     ·exact MG x z
    ·simp at z;exact .inr ⟨_,z⟩
   have ex:([]:aU)++oZ (bs.drop i)=(([]:aU)++oZ (bs.drop<|i+1))++[NM bs[i]]:=by rw[ed,FW];simp
   rw[ex];refine⟨ZU.zl hq<|y4 t 1 rfl (Jl fx)<|IZ _ _,YE.weak (aZ (Dz t (ZF.zl hq<|eZ t 1 rfl rfl)<|gN t 2 3)<|aZ (lD (Xu.z<|Xu.eq (bv t (aa t 3) Xr<|fO<|xS _)<|by cases bs[i].2<;>decide) qM)<|aZ (X9.l hq<|dN<|bR t ok c4 (bK (Xs.z<|aa t 0)<|Yj.z<|ab (aG<|ab Xr ag) ag) ⟨n+i,[93],[[93]],_,.inr Lo,rfl,hdi,by simp,by decide,rfl,rfl⟩)<|aZ (X9.l hq<|mI t ok 0 rfl (Xs.z<|aa t 3)<|sz ?_)<|E6 (bY<|X9.l hq<|sV t ok 0 rfl (Xs.z<|aa t 2)<|j8<|sz ?_) ?_)<|.keep<|.keep<|.forget<|.forget .nil⟩;·show(ys++aX (fW<|bs.take i)).length<_;rw[ac,bN];lia
   ·show(ys++aX (fW<|bs.take i)++[D.str _]).length+(aX<|dy bs[i].1).length<_;rw[ac,ac,bN,bN,bO];lia
   ·refine gr (gr ?_ ?_) rfl;·show(((n+i:Nat):Int))+1=((n+(i+1):Nat):Int);lia
    ·show ys++aX (fW (bs.take i))++[D.str (S (aw bs[i].2))]++aX (dy bs[i].1)=ys++aX (fW (bs.take (i+1)));rw[et,lV,gE];simp[fW,aX]) ?_) ?_)) (bY (X5.z (aW t5)))
  ·refine⟨0,?_⟩;rw[a7,qA,show oZ []=[]from rfl,aV];exact .stop<|ZU.zl hq<|y4 t 1 rfl (Jl hXB) rfl
  ·show((((n:Nat):Int),ys),oZ bs)=((((n+0:Nat):Int),ys++aX (fW<|bs.take 0)),([]:aU)++oZ (bs.drop 0));simp[fW,aX]
def tE:TK:=[[60],[61],[62],[60,61],[62,61],[33,61]]
abbrev Vb:=PQ×bH×PQ
def NC(R:xA)(x:Vb):Prop:=qG R x.1/\x.2.1∈tE/\qG R x.2.2
def G5(x:Vb):TK:=qB x.1++x.2.1::qB x.2.2
def E1(x:Vb):TK:=Ag x.1++(Ag x.2.2++[x.2.1])
def Rr:TK:=[[94],[42],[43],[45]]
def jf(R:xA):=CR (NC R) G5 E1 Rr
def tw(R:xA):∀ts ds s d s',jf R ts ds s d s'->ds.length+1=1:=CR.len
def Nv(X:Cx):Prop:=∀{ρ:cJ}{p p' pos:Pos},Xs X ρ (.Call (.Name "list" p) [.Name "COMPARISONS" p'] [] pos)<|.lst<|aX tE
def SD{g:bH}(h:g∈tE)(post:bM):No Rr (S g::post):=λu hu e=>by
 have e':g=u:=e9 e;have z:∀g∈tE,g∉Rr:=by decide
 exact z g h<|e'▸hu
def ur(h:DefX P w K mg base k i9 (ah gd) X)(c1:Xx X "read_sum" (l6 R))(c4:Xx X "take_one_of" fk)(hL:Nv X):K5 X i9 gd (jf R):=by
 rintro r ok ds ⟨i,xs⟩ d s' ⟨ho,n,⟨T,g,U⟩,post,rfl,hn,⟨hT,hg,hU⟩,hd,ZG,hz,rfl,rfl⟩;have t:=h.at';haveI:=h.X1;have Zp:i=(n:Int):=hn;subst Zp;have Z3:xs.length+(Ag T++(Ag U++[g])).length<10000:=hz;rw[ac,ac,bO]at Z3;have hg:g∈tE:=hg;have d1:r.toks.drop n=sm (qB T)++(S g::(sm (qB U)++post)):=by rw[hd];show sm (qB T++g::qB U)++post=_;rw[gT,az];rfl
 have d2:r.toks.drop (n+(qB T).length)=S g::(sm (qB U)++post):=by have:=fA d1;rw[gS]at this;exact this
 have d3:=(dh d2).2;refine .inr ⟨rfl,[.val<|.adr r.p,.val<|.str<|S g],?_⟩;refine aZ (dN<|bR t ok c1 (bK (Xs.z<|aa t 0)<|Yj.z ag) ⟨ho,n,T,_,rfl,rfl,hT,d1,SD hg _,by show xs.length+_<_;lia,rfl,rfl⟩)<|aZ (s1:=(((n+(qB T).length+1:Nat):Int),xs++aX (Ag T))) (j9 t 1<|bR t ok c4 (bK (Xs.z<|aa t 0)<|Yj.z<|ab hL ag) ⟨n+(qB T).length,g,tE,_,.inl rfl,rfl,d2,hg,by decide,rfl,by rw[iN (n+(qB T).length) 1];rfl⟩)<|aZ (dN<|bR t ok c1 (bK (Xs.z<|aa t 0)<|Yj.z ag) ⟨ho,n+(qB T).length+1,U,post,rfl,rfl,hU,d3,ZG,?_,rfl,rfl⟩)<|E6 (bY<|mI t ok 0 rfl (Xs.z<|aa t 1)<|sz ?_) ?_;·show(xs++aX (Ag T)).length+_<_;rw[ac,bN];lia
 ·show(xs++aX (Ag T)++aX (Ag U)).length<_;rw[ac,ac,bN,bN];lia
 ·refine gr ?_ ?_;·show((n+(qB T).length+1+(qB U).length:Nat):Int)=((n+(qB T++g::qB U).length:Nat):Int);rw[ac,aS];lia
  ·show xs++aX (Ag T)++aX (Ag U)++[D.str<|S g]=xs++aX (Ag T++(Ag U++[g]));rw[gE,gE];simp[aX]
inductive qf where
 |cmp (x:Vb) |two (a:Bool) (p:List pP) (c:qf) (q:List pP) (e:qf)
def nz:qf->TK|.cmp x=>G5 x|.two a p c q e=>[91]::(cD p++(nz c++(aw a::(cD q++(nz e++[[93]])))))
def wM:qf->TK|.cmp x=>E1 x|.two a p c q e=>wM c++(dy p++(wM e++(dy q++[aw a])))
def ky(R:xA):qf->Prop|.cmp x=>NC R x|.two a p c q e=>p.length<=20/\q.length<=20/\ky R c/\ky R e
def P7:qf->Nat|.cmp _=>1|.two _ _ c _ e=>P7 c+P7 e+4
inductive Fr where
 |a (ps:List pP) (w:Bool) (qs:List pP) (e:qf) |b (p:List pP×Bool)
def V9:Fr->D|.a ps _ _ _=>NN ps|.b p=>NM p
def UR(R:xA):Fr->Prop|.a _ _ qs e=>qs.length<=20/\ky R e|.b _=>True
def y7:List Fr->TK
 |[]=>[]|.a ps w qs e::fs=>aw w::(cD qs++(nz e++([93]::y7 fs)))
 |.b p::fs=>[93]::y7 fs
def y9:List Fr->TK
 |[]=>[]|.a ps w qs e::fs=>wM e++(dy qs++(aw w::(dy ps++y9 fs)))
 |.b p::fs=>aw p.2::(dy p.1++y9 fs)
def N6:List Fr->Nat
 |[]=>0|.a _ _ _ e::fs=>P7 e+2+N6 fs
 |.b _::fs=>1+N6 fs
def ZI(fs:List Fr):aU:=(fs.map V9).reverse
def RZ(f:Fr):ZM (V9 f):=by cases f with|a ps w qs e=>exact .inl ⟨ps,rfl⟩|b p=>exact .inr ⟨p,rfl⟩
def QO{fs:List Fr}:∀x∈ZI fs,ZM x:=λx hx=>by unfold ZI at hx;rw[gY]at hx;obtain⟨f,_,rfl⟩:=List.mem_map.mp hx;exact RZ f
def Iv(fs:List Fr):(ZI fs).length=fs.length:=by simp[ZI]
def y8:∀fs:List Fr,fs.length<=(y9 fs).length
 |[]=>aj _|.a ps w qs e::fs=>by have:=y8 fs;simp[y9];lia
 |.b p::fs=>by have:=y8 fs;simp[y9];lia
def Uv:∀fs:List Fr,∃(bs:List (List pP×Bool))(bQ:List Fr),fs=bs.map Fr.b++bQ/\(bQ=[]\/∃ps w qs e ZP,bQ=.a ps w qs e::ZP)
 |[]=>⟨[],[],rfl,.inl rfl⟩|.a ps w qs e::fs=>⟨[],_,rfl,.inr ⟨ps,w,qs,e,fs,rfl⟩⟩
 |.b p::fs=>by obtain⟨bs,bQ,h1,h2⟩:=Uv fs;exact⟨p::bs,bQ,by rw[h1];rfl,h2⟩
def IH:∀(bs:List (List pP×Bool))(fs:List Fr),y7 (bs.map Fr.b++fs)=Ce bs.length++y7 fs|[],fs=>rfl|p::bs,fs=>by show[93]::y7 (bs.map Fr.b++fs)=_;rw[IH bs fs];rfl
def II:∀(bs:List (List pP×Bool))(fs:List Fr),y9 (bs.map Fr.b++fs)=fW bs++y9 fs|[],fs=>rfl|p::bs,fs=>by show aw p.2::(dy p.1++y9 (bs.map Fr.b++fs))=_;rw[II bs fs];simp[fW]
def P6:∀(bs:List (List pP×Bool))(fs:List Fr),N6 (bs.map Fr.b++fs)=bs.length+N6 fs|[],fs=>by simp|p::bs,fs=>by show 1+N6 (bs.map Fr.b++fs)=_;rw[P6 bs fs];simp;lia
def P8(bs:List (List pP×Bool))(fs:List Fr):ZI (bs.map Fr.b++fs)=ZI fs++oZ bs:=by unfold ZI oZ;rw[aA,GO,bu];rfl
def Af(f:Fr)(fs:List Fr):ZI (f::fs)=ZI fs++[V9 f]:=by simp[ZI]
def PL:TK:=[qN,qw true,qw false,[91]]
def UP(R:xA):Prop:=∀tk st,R tk st->∃u us,tk=u::us/\u∉PL
def W6:∀n,UP (AR n)
 |0,_,_,h=>h.elim
 |n+1,tk,st,h=>by
  rcases h with⟨u,hu,rfl,rfl⟩ |⟨T,_,rfl,rfl⟩
  ·refine⟨u,[],rfl,λhb=>?_⟩;obtain⟨c,cs,rfl,hc⟩:=He hu;simp only[PL,ax,eM,uJ]at hb;rcases hb with e |e |e |e
   all_goals
    simp[qN,qw]at e
    lia
  ·exact⟨[40],_,rfl,by decide⟩
def Uh(hR:UP R)(h:qG R T):∃u us,qB T=u::us/\u∉PL:=by obtain⟨u,us,e,hu⟩:=hR _ _ h.1.1.2.1;unfold qB DH BI DG;rw[e];cases hm:T.1.1.X4 with|zero=>exact⟨u,_,rfl,hu⟩|succ m=>exact⟨[45],_,rfl,by decide⟩
def V3(hR:UP R)(h:ky R c):∃u us,nz c=u::us/\u∉Hj:=by
 cases c with
 |cmp x=>
  obtain⟨u,us,e,hu⟩:=Uh hR (show qG R x.1 from h.1);refine⟨u,us++x.2.1::qB x.2.2,?_,λz=>hu ?_⟩;·show qB x.1++_=_;rw[e];rfl
  ·simp only[Hj,ax,eM,uJ]at z;simp only[PL,ax,eM,uJ];rcases z with z |z |z;·exact .inl z
   ·exact .inr<|.inl z
   ·exact .inr<|.inr<|.inl z
 |two a p c q e=>exact⟨[91],_,rfl,by decide⟩
def Ry(hR:UP R)(h:ky R c)(ts:TK)(post:bM):No Hj (sm (nz c++ts)++post):=λv hv e=>by obtain⟨u,us,e1,hu⟩:=V3 hR h;rw[e1]at e;have:S u=S v:=e;exact hu<|(e9 this)▸hv
def TZ{fs:List Fr}(h:No Rr post):No Rr (sm (y7 fs)++post):=by
 cases fs with
 |nil=>exact h
 |cons f fs=>
  intro v hv e;cases f with
  |a ps w qs c=>have e':S (aw w)=S v:=e;have:=e9 e';subst this;revert hv;cases w<;>decide
  |b p=>have e':S [93]=S v:=e;have:=e9 e';subst this;revert hv;decide
def JM(R:xA)(x:List pP×qf):Prop:=x.1.length<=20/\ky R x.2
def Iu(x:List pP×qf):TK:=cD x.1++nz x.2
def Lu(x:List pP×qf):TK:=wM x.2++dy x.1
def qh(R:xA):=CR (JM R) Iu Lu Rr
def AO(R:xA):∀ts ds s d s',qh R ts ds s d s'->ds.length+1=1:=CR.len
def Th{ρ0:cJ}{SS:LS}{s s' a:SS.ds}(h:∃m,Yw SS X cd body m ρ s ρ' s')(e0:ρ0=ρ)(e:s'=a):∃m,Yw SS X cd body m ρ0 s ρ' a:=by subst e0;subst e;exact h
def Vk{SS:LS}{s s1 s2 s3:SS.ds}(hc:Yb SS X ρ cd true s s1)(hb:YE SS X ρ body (.nx ρ1) s1 s2)(h:∃m,Yw SS X cd body m ρ1 s2 ρ2 s3):∃m,Yw SS X cd body m ρ s ρ2 s3:=by obtain⟨m,h⟩:=h;exact⟨m+1,.step hc hb h⟩
def Ci(hR:UP R)(h:DefX P w K mg base k pT (ah kN) X)(c1:Xx X "read_prefixes" kz)(c2:Xx X "next_token" cQ)(c3:Xx X "take_token" du)(c4:Xx X "read_comparison" (jf R))(c5:Zo X "saying_ended" je):K5 X pT kN (qh R):=by
 rintro r ok ds ⟨i,xs⟩ d s' ⟨ho,n,⟨ps,c⟩,post,rfl,hn,⟨hp,hc⟩,hd,ZG,hz,rfl,rfl⟩;have t:=h.at';haveI:=h.X1;have Zp:i=(n:Int):=hn;subst Zp;have Z3:xs.length+(wM c++dy ps).length<10000:=hz;have hd':r.toks.drop n=sm (cD ps++nz c)++post:=hd;have hp:ps.length<=20:=hp;have hc:ky R c:=hc;refine .inr ⟨rfl,[.val<|.adr r.p,.own [],.val<|.bl true,.un],?_⟩;show YE (XE r) X [.val<|.adr r.p,.un,.un,.un] _ _ ((n:Int),xs) (((n+(cD ps++nz c).length:Nat):Int),xs++aX (wM c++dy ps));refine aZ (X5.z<|IF t 1 2 (bI ag) t5<|by decide)<|bY<|E5 t ?_;refine Th ((show∀(N:Nat)(c:qf)(ps:List pP)(fs:List Fr)(n:Nat)(xs:aU),P7 c+N6 fs<=N->ky R c->ps.length<=20->(∀f∈fs,UR R f)->r.toks.drop n=sm (cD ps++(nz c++y7 fs))++post->xs.length+(wM c++(dy ps++y9 fs)).length<10000->∃m,Yw (XE r) X _ _ m [.val<|.adr r.p,.own<|ZI fs,.val<|.bl false,.un] ((n:Int),xs) [.val<|.adr r.p,.own [],.val<|.bl true,.un] (((n+(cD ps++(nz c++y7 fs)).length:Nat):Int),xs++aX (wM c++(dy ps++y9 fs)))from ?_) (P7 c) c ps [] n xs (by simp[N6]) hc hp (λf hf=>nomatch hf) (by rw[show y7 []=[]from rfl,aV];exact hd')<|by rw[show y9 []=[]from rfl,aV];exact Z3) rfl (by rw[show y7 []=[]from rfl,show y9 []=[]from rfl,aV,aV]);intro N;induction N with
 |zero=>intro c ps fs n xs hN;cases c<;>simp[P7]at hN
 |succ N ih=>
  intro c ps fs n xs hN hc hp hfs hd hz;have d1:r.toks.drop n=sm (cD ps)++(sm (nz c++y7 fs)++post):=by rw[hd,gT,az]
  have d2:r.toks.drop (n+(cD ps).length)=sm (nz c++y7 fs)++post:=by have:=fA d1;rw[gS]at this;exact this
  cases c with
  |two a p c1' q e=>
   obtain⟨q1,q2,q3,q4⟩:=hc;have d3:r.toks.drop (n+(cD ps).length)=S [91]::(sm (cD p++(nz c1'++y7 (.a ps a q e::fs)))++post):=by rw[d2];simp[nz,y7,sm]
   have d4:=(dh d3).2;have es:wM (.two a p c1' q e)++(dy ps++y9 fs)=wM c1'++(dy p++y9 (.a ps a q e::fs)):=by simp[wM,y9]
   have et:(cD ps++(nz (.two a p c1' q e)++y7 fs)).length=(cD ps).length+1+(cD p++(nz c1'++y7 (.a ps a q e::fs))).length:=by simp[nz,y7];lia
   rw[es]at hz;have run:=ih c1' p (.a ps a q e::fs) (n+(cD ps).length+1) xs (by simp[P7]at hN;simp[N6];lia) q3 q1 (λf hf=>by
    rcases ax.mp hf with rfl |z;·exact⟨q2,q4⟩
    ·exact hfs f z) d4 hz
   refine Vk (Xu.z<|Xu.eq (iC<|eD<|aa t 2) rfl) (YE.weak (aZ (j9 t 3<|bR t ok c1 (bK (Xs.z<|aa t 0)<|Yj.z ag) ⟨ho,n,ps,_,rfl,rfl,d1,Ry hR (c:=.two a p c1' q e) ⟨q1,q2,q3,q4⟩ _ _,hp,rfl,rfl⟩)<|bY<|uc (v8 t ok c2 ho rfl (by decide)<|by rw[d3];show decide (S [91]=("[":Str))=true;decide)<|aZ (dN<|ue t ok c3 rfl)<|bY<|X5.z<|dI t 1 rfl (aG<|ab (aa t 3)<|ab Xr ag)<|sz ?_) ?_)<|Th run rfl ?_;·rw[Iv];have:=y8<|.a ps a q e::fs;simp at this hz;lia
   ·rw[Af];exact .keep<|.keep<|.keep<|.forget .nil
   ·rw[es,et,xB,xB];refine gr ?_ rfl;show((_:Nat):Int)=((_:Nat):Int);congr 1;lia
  |cmp x=>
   have hc:NC R x:=hc;have hz0:xs.length+(E1 x++(dy ps++y9 fs)).length<10000:=hz;rw[ac,ac]at hz0;have d2':r.toks.drop (n+(cD ps).length)=sm (G5 x)++(sm (y7 fs)++post):=by rw[d2,gT,az];rfl
   have d3:r.toks.drop (n+(cD ps).length+(G5 x).length)=sm (y7 fs)++post:=by have:=fA d2';rw[gS]at this;exact this
   have hnb:decide (HD (r.toks.drop<|n+(cD ps).length)=("[":Str))=false:=by obtain⟨u,us,e,hu⟩:=Uh hR hc.1;rw[d2',show G5 x=u::(us++x.2.1::qB x.2.2)by unfold G5;rw[e];rfl,show("[":Str)=S [91]by decide,aQ];intro z;have z':S u=S [91]:=z;exact hu (e9 z'▸by decide)
   obtain⟨bs,bQ,rfl,zAB⟩:=Uv fs;rw[II,ac]at hz0;rw[IH,gT,az]at d3;rcases zAB with rfl |⟨ps',w',qs,e,ZP,rfl⟩
   ·have hC:je r.toks (((n+(cD ps).length+(G5 x).length:Nat):Int),xs++aX (E1 x)++aX (dy ps)) (ZI<|bs.map Fr.b++[]) (.bl true) (((n+(cD ps).length+(G5 x).length+bs.length:Nat):Int),xs++aX (E1 x)++aX (dy ps)++aX (fW bs)) []:=⟨ho,_,bs,post,rfl,by show(xs++aX (E1 x)++aX (dy ps)).length+_<_;rw[ac,ac,bN,bN];lia,.inr ⟨by rw[P8];rfl,d3,rfl,rfl,rfl⟩⟩;refine Th (Vk (ρ:=[.val<|.adr r.p,.own<|ZI<|bs.map Fr.b++[],.val<|.bl false,.un]) (Xu.z<|Xu.eq (iC<|eD<|aa t 2) rfl) (YE.weak (aZ (j9 t 3<|bR t ok c1 (bK (Xs.z<|aa t 0)<|Yj.z ag) ⟨ho,n,ps,_,rfl,rfl,d1,Ry hR (c:=.cmp x) hc _ _,hp,rfl,rfl⟩)<|bY<|lD (v8 t ok c2 ho rfl (by decide) hnb)<|aZ (dN<|bR t ok c4 (bK (Xs.z<|aa t 0)<|Yj.z ag) ⟨ho,n+(cD ps).length,x,_,rfl,rfl,hc,d2',TZ ZG,by show xs.length+_<_;lia,rfl,rfl⟩)<|aZ (sV t ok 0 rfl (Xs.z<|aa t 3)<|j8<|sz<|by show(xs++aX (E1 x)).length+(aX<|dy ps).length<_;rw[ac,bN,bN];lia)<|bY<|CF t ok c5 1 2 (aa t 0) rfl hC)<|.keep<|.keep<|.keep<|.forget .nil) ⟨0,.stop<|Xu.z<|Xu.eq (iC<|eD<|aa t 2) rfl⟩) rfl ?_;refine gr ?_ ?_;·show((_:Nat):Int)=((_:Nat):Int);rw[IH,ac,ac,ac];simp[y7,Ce,nz];lia
    ·show xs++aX (E1 x)++aX (dy ps)++aX (fW bs)=xs++aX (E1 x++(dy ps++y9 (bs.map Fr.b++[])));rw[II,gE,gE,gE];simp[y9,aX]
   ·have hfa:UR R (.a ps' w' qs e):=hfs _ (by simp);have d3':r.toks.drop (n+(cD ps).length+(G5 x).length)=sm (Ce bs.length)++(S (aw w')::(sm (cD qs++(nz e++y7 (.b (ps',w')::ZP)))++post)):=by rw[d3];simp[y7,sm]
    have d4:r.toks.drop (n+(cD ps).length+(G5 x).length+bs.length+1)=sm (cD qs++(nz e++y7 (.b (ps',w')::ZP)))++post:=by have:=fA d3';rw[gS,show(Ce bs.length).length=bs.length by simp[Ce]]at this;exact(dh this).2
    have hC:je r.toks (((n+(cD ps).length+(G5 x).length:Nat):Int),xs++aX (E1 x)++aX (dy ps)) (ZI<|bs.map Fr.b++.a ps' w' qs e::ZP) (.bl false) (((n+(cD ps).length+(G5 x).length+bs.length+1:Nat):Int),xs++aX (E1 x)++aX (dy ps)++aX (fW bs)) (ZI ZP++[NM (ps',w')]):=⟨ho,_,bs,_,rfl,by show(xs++aX (E1 x)++aX (dy ps)).length+_<_;rw[ac,ac,bN,bN];lia,.inl ⟨ZI ZP,ps',w',QO,by rw[Iv];have:=y8<|.a ps' w' qs e::ZP;simp at this;lia,by rw[P8,Af];rfl,d3',rfl,rfl,rfl⟩⟩;have run:=ih e qs (.b (ps',w')::ZP) (n+(cD ps).length+(G5 x).length+bs.length+1) (xs++aX (E1 x)++aX (dy ps)++aX (fW bs)) (by rw[P6]at hN;simp[P7,N6]at hN ⊢;lia) hfa.2 hfa.1 (λf hf=>by
     rcases ax.mp hf with rfl |z;·trivial
     ·exact hfs f (by simp[z])) d4 (by
     have:(wM e++(dy qs++y9 (.b (ps',w')::ZP)))=y9 (.a ps' w' qs e::ZP):=rfl;rw[this,ac,ac,ac,bN,bN,bN];lia)
    refine Th (Vk (ρ:=[.val<|.adr r.p,.own<|ZI<|bs.map Fr.b++.a ps' w' qs e::ZP,.val<|.bl false,.un]) (Xu.z<|Xu.eq (iC<|eD<|aa t 2) rfl) (YE.weak (aZ (j9 t 3<|bR t ok c1 (bK (Xs.z<|aa t 0)<|Yj.z ag) ⟨ho,n,ps,_,rfl,rfl,d1,Ry hR (c:=.cmp x) hc _ _,hp,rfl,rfl⟩)<|bY<|lD (v8 t ok c2 ho rfl (by decide) hnb)<|aZ (dN<|bR t ok c4 (bK (Xs.z<|aa t 0)<|Yj.z ag) ⟨ho,n+(cD ps).length,x,_,rfl,rfl,hc,d2',TZ ZG,by show xs.length+_<_;lia,rfl,rfl⟩)<|aZ (sV t ok 0 rfl (Xs.z<|aa t 3)<|j8<|sz<|by show(xs++aX (E1 x)).length+(aX<|dy ps).length<_;rw[ac,bN,bN];lia)<|bY<|CF t ok c5 1 2 (aa t 0) rfl hC)<|.keep<|.keep<|.keep<|.forget .nil)<|Th run (by rw[Af]<;>rfl) rfl) rfl ?_;refine gr ?_ ?_;·show((_:Nat):Int)=((_:Nat):Int);congr 1;rw[IH];simp[y7,Ce,nz];lia
    ·show xs++aX (E1 x)++aX (dy ps)++aX (fW bs)++aX (wM e++(dy qs++y9 (.b (ps',w')::ZP)))=xs++aX (E1 x++(dy ps++y9 (bs.map Fr.b++.a ps' w' qs e::ZP)));rw[II,show y9 (.a ps' w' qs e::ZP)=wM e++(dy qs++y9 (.b (ps',w')::ZP))from rfl];simp[aX]
def j4(K:bL):Nat->aU->D->Prop
 |0,_,_=>False|1,ds,r=>∃i,ds=[.int i]/\r=.int i
 |_+2,ds,r=>∃(l:Addr)(ns:be),ds=[.adr l]/\Y7 K l ns/\ns.length<1000/\r=bh ns
def t3{K:bL}:∀n ds d,j4 K n ds d->ds.length=1
 |0,_,_,h=>h.elim|1,_,_,⟨_,h,_⟩=>by rw[h];rfl
 |_+2,_,_,⟨_,_,h,_⟩=>by rw[h];rfl
def EJ(h:DefX P w K mg base k gA (ah fE) X)(Xw:mg "isinstance"=none)(Xy:mg "tuple"=none):Go X gA fE (j4 K 1):=by rintro ds d ⟨i,rfl,rfl⟩;have t:=h.at';haveI:=h.X1;have b1:=h.bt Xw;have b2:=h.bt Xy;exact aq<|aW<|kg (eD<|pK t b1 b2 (aa t 0) rfl)<|aa t 0
def EI(h:DefX P w K mg base k gA (ah fE) X)(Xw:mg "isinstance"=none)(Xy:mg "tuple"=none)(c1:EV.Callee X "told_anew" (j4 K 1)):Go X gA fE (j4 K 2):=by
 rintro ds d ⟨l,ns,rfl,g,hl,rfl⟩;have t:=h.at';haveI:=h.X1;have b1:=h.bt Xw;have b2:=h.bt Xy;have g':Y7 X.K l ns:=by rw[h.k'];exact g
 refine aq<|aW<|ke (eD<|Pi t g' b1 b2 (aa t 0) rfl)<|Xs.eq (fw t b2<|XF.toQ (dP t ["thing","part"] (Do<|by decide) (Uq (aa t 0) g') (by rw[ae,cO];lia) λX' cx=>X0.all (λd=>[.val<|.adr l,.val d]) (λd=>d) (ns.map D.int) _ (λd hd=>br cx.at' 1) (λd hd e he=>br cx.at' 1) λd hd=>aB cx.at' (cx.callee c1) (ab (aa cx.at' 1 rfl) ag) ?_)) (by rw[List.map_id']);obtain⟨i,_,rfl⟩:=List.mem_map.mp hd;exact⟨i,rfl,rfl⟩
def RD:List (bH×Addr)->bH->Option Addr|[],_=>none|(a,l)::ts,u=>if a=u then some l else RD ts u
def wj(ls:List (bH×Addr)):List (Str×Addr):=ls.map λp=>(S p.1,p.2)
def Le:∀(ls:List (bH×Addr))(u:bH),valueAt (xb<|wj ls) (Sum.inr<|S u)=(RD ls u).map Value.ref
 |[],u=>rfl
 |(a,l)::ls,u=>by
  have ih:=Le ls u;show((((Sum.inr (S a):yu),Value.ref l)::xb (wj ls)).find? λkv=>kv.1=(Sum.inr (S u):yu)).map (·.2)=(if a=u then some l else RD ls u).map Value.ref;by_cases e:a=u;·subst e;rw[ar rfl,List.find?_cons_of_pos<|by simp];rfl
  ·have ne:¬(Sum.inr (S a):yu)=Sum.inr (S u):=λz=>e<|e9<|Xd z;rw[ak e,List.find?_cons_of_neg<|by simpa using ne];exact ih
def Yl:List (bH×be):=[([60],[-1]),([61],[0]),([62],[1]),([60,61],[-1,0]),([62,61],[0,1]),([33,61],[-1,1])]
structure UQ(P:Program)(w:World)(K:bL)(q:Addr)(ls:List (bH×Addr))(ep:Nat):Prop where
 XQ:EU P w K q (wj ls) ep
 keys:ls.map (·.1)=tE
 at':∀p∈Yl,∃l,RD ls p.1=some l/\Y7 K l p.2
def FL:∀(ls:List (bH×Addr))(u:bH),u∉ls.map (·.1)->RD ls u=none|[],_,_=>rfl|(a,l)::ls,u,h=>by show(if a=u then some l else RD ls u)=none;rw[ak λe=>h<|by simp[e],FL ls u λz=>h<|by simp at z ⊢;exact .inr z]
def VW(b:Bd)(ns:be):D:=.tup [.str "is",ay b,bh ns]
def WH(a:Bool)(x y:D):D:=.tup [.str<|S<|aw a,x,y]
def WM(x:D):D:=.tup [.str "not",x]
def WK(a l:Bool)(x:D):D:=.tup [.str<|S<|qw a,.str<|S<|lw l,x]
inductive YS:bH->aU->aU->Prop where
 |term {u:bH} {pre:aU} {st YG:List Bd}:Ym u st YG->YS u (pre++st.map ay) (pre++YG.map ay)
 |cmp {p:bH×be} {pre:aU} {a b:Bd}:p∈Yl->Yy 1000 a->Yy 1000 b->YS p.1 (pre++[ay a]++[ay b]) (pre++[VW (mJ a<|v9 b) p.2])
 |two {pre:aU} {x y:D} {a:Bool}:YS (aw a) (pre++[x]++[y]) (pre++[WH a x y])
 |neg {pre:aU} {x:D}:YS qN (pre++[x]) (pre++[WM x])
 |qu {pre:aU} {x:D} {a l:Bool}:YS (G9<|.qu a l) (pre++[x]) (pre++[WK a l x])
def xV(d0:D)(xs xs':aU):Prop:=∃u,d0=.str (S u)/\YS u xs xs'/\xs.length<10000
def Ym.hd{st YG:List Bd}(h:Ym u st YG):(∃c cs,u=c::cs/\c≠115/\c≠97/\c≠110/\c≠111/\c≠60/\c≠61/\c≠62/\c≠33)/\∀c∈u,c<128:=by
 cases h with
 |atom hu=>obtain⟨c,cs,rfl,hc⟩:=He hu;exact⟨⟨c,cs,rfl,by lia⟩,hu.lt⟩
 |add _ _=>exact⟨⟨_,_,rfl,by decide⟩,by decide⟩|sub _ _=>exact⟨⟨_,_,rfl,by decide⟩,by decide⟩
 |mul _ _ _=>exact⟨⟨_,_,rfl,by decide⟩,by decide⟩|neg _=>exact⟨⟨_,_,rfl,by decide⟩,by decide⟩
 |pow _ hd=>exact⟨⟨_,_,rfl,by decide⟩,λc hc=>by simp at hc;lia⟩
def P9{c d:Nat}{ds:bH}(h:c≠d):Txt.startswith (S<|c::cs) (S<|d::ds)=false:=by
 have:Builtin.Str.subAt (S<|c::cs) (S<|d::ds) 0=false:=by rw[StrLaws.subAt_eq,e8,j1,j1,EY];rw[bJ];intro e;exact h (GU e).1
 unfold Txt.startswith;rw[this,S1]
def Vg:("some ":Str)=S [115,111,109,101,32]:=by decide
def Vj:("all ":Str)=S [97,108,108,32]:=by decide
def Vh:("and":Str)=S (aw true):=by decide
def WW:("or":Str)=S (aw false):=by decide
def Dw(u:bH):((XB [D.str "and",.str "or"]).any λy=>PyData.eqv y<|dY<|.str<|S u)=(decide (u=aw true)||decide (u=aw false)):=by refine(ES "and" "or"<|S u).trans ?_;rw[Vh,WW,decide_eq_decide.mpr (show S u=S (aw true)↔u=aw true from⟨e9,λe=>by rw[e]⟩),decide_eq_decide.mpr (show S u=S (aw false)↔u=aw false from⟨e9,λe=>by rw[e]⟩)]
def SA(a l:Bool):NB (S<|G9<|.qu a l) " ":=by cases a<;>cases l<;>exact⟨by decide,by decide,by decide,by decide,by decide⟩
def Py(a l:Bool):(xk (S<|G9<|.qu a l) " ").map D.str=[.str<|S<|qw a,.str<|S<|lw l]:=by
 have:xk (S<|G9<|.qu a l) " "=[S<|qw a,S<|lw l]:=by cases a<;>cases l<;>decide
 rw[this];rfl
def EF{ls:List (bH×Addr)}(h:DefX P w K mg base k YZ (ah ml) X)(c1:EV.Callee X "board_minus" jR)(c2:EV.Callee X "told_anew" (j4 K 2))(c3:YF X "take_term_step" oU)(gq:mg "COMPARISONS"=some (.ref q'))(g:UQ P w K q' ls ep):∀q d0 xs xs',xV d0 xs xs'->∃ρ',PZ X q (.val d0::.val (.adr q)::List.replicate (YZ.length-2) Sl.un) (bA ml) (.nx ρ') xs xs':=by
 rintro q d0 xs xs' ⟨u,rfl,hs,hz⟩;have t:=h.at';haveI:=h.X1;have gq':X.mg "COMPARISONS"=some (.ref q'):=by rw[h.YQ];exact gq
 have g':EU X.prog X.w X.K q' (wj ls) ep:=by obtain⟨_,e1,e2,e3,_⟩:=h;rw[e1,e2,e3];exact g.XQ
 have no:∀v,v∉tE->(valueAt (xb<|wj ls)<|Sum.inr<|S v).isSome=false:=λv hv=>by rw[Le,FL ls v<|by rw[g.keys];exact hv];rfl
 have cw:PyData.canLayAll0 (XB [D.str "and",.str "or"])=true:=by decide
 cases hs with
 |@term _ pre st YG hs=>
  obtain⟨⟨c,cs,rfl,h1,h2,h3,h4,h5,h6,h7,h8⟩,X3⟩:=hs.hd;have ok:=fO X3;refine⟨_,dq<|jp (Xu.l<|Bg t g' (aa t 0) gq'<|no _ ?_)<|dq<|jp (Xu.l<|js t (aa t 0) (aG<|ab Xr<|ab Xr ag) (cH ok) (cj _) cw ?_)<|dq<|jp (Xu.l<|Xu.eq (bv t (aa t 0) Xr ok)<|BQ QA ?_)<|dq<|jp (Xu.l<|pM (u:=false) (eD<|td (aa t 0) Xr ?_) λ_=>eD<|td (aa t 0) Xr ?_)<|dq<|Mq t c3 1 rfl (aa t 0) ⟨_,pre,st,YG,rfl,hs,?_,rfl,rfl⟩⟩;·simp[tE];lia
  ·rw[Dw];simp[aw];lia
  ·intro e;cases e;exact h3 rfl
  ·rw[Vg];exact P9 h1
  ·rw[Vj];exact P9 h2
  ·simpa using hz
 |@cmp p pre a b hp ha hb=>
  obtain⟨l,hl,gl⟩:=g.at' p hp;have e1:valueAt (xb<|wj ls) (Sum.inr<|S p.1)=some (.ref l):=by rw[Le,hl];rfl
  have hn:p.2.length<1000:=(show∀p∈Yl,p.2.length<1000 by decide) p hp;refine⟨_,dq<|tX (Xu.l<|Bg t g' (aa t 0) gq'<|by rw[e1];rfl)<|lM (mT t 2<|eZ t 1 rfl rfl)<|lM (mT t 3<|eZ t 1 rfl rfl)<|dq<|fP t 1 rfl (Xs.em<|aG<|ab Xr<|ab (aB t c1 (ab (aa t 3)<|ab (aa t 2) ag) ⟨a,b,rfl,ha,hb,rfl⟩)<|ab (aB t c2 (ab (Se t g' (aa t 0) gq' e1) ag) ⟨l,p.2,rfl,gl,hn,rfl⟩) ag)<|sz<|by simp at hz;lia⟩
 |@two pre x y a=>refine⟨_,dq<|jp (Xu.l<|Bg t g' (aa t 0) gq'<|no _<|by cases a<;>decide)<|dq<|tX (Xu.l<|js t (aa t 0) (aG<|ab Xr<|ab Xr ag) (cH<|fO<|xS a) (cj _) cw<|by rw[Dw];cases a<;>decide)<|lM (mT t 2<|eZ t 1 rfl rfl)<|lM (mT t 3<|eZ t 1 rfl rfl)<|dq<|fP t 1 rfl (Xs.em<|aG<|ab (aa t 0)<|ab (aa t 3)<|ab (aa t 2) ag)<|sz<|by simp at hz;lia⟩|@neg pre x=>refine⟨_,dq<|jp (Xu.l<|Bg t g' (aa t 0) gq'<|no _<|by decide)<|dq<|jp (Xu.l<|js t (aa t 0) (aG<|ab Xr<|ab Xr ag) (cH<|by decide) (cj _) cw<|by rw[Dw];decide)<|dq<|tX (Xu.l<|Xu.eq (bv t (aa t 0) Xr<|by decide)<|by decide)<|dq<|fP t 1 rfl (M5<|mO (Xs.em Xr)<|mO (eZ t 1 rfl rfl)<|Yj.am ag)<|sz<|by simp at hz;lia⟩
 |@qu pre x a l=>refine⟨_,dq<|jp (Xu.l<|Bg t g' (aa t 0) gq'<|no _<|by cases a<;>cases l<;>decide)<|dq<|jp (Xu.l<|js t (aa t 0) (aG<|ab Xr<|ab Xr ag) (cH<|fO<|G8 _) (cj _) cw<|by rw[Dw];cases a<;>cases l<;>decide)<|dq<|jp (Xu.l<|Xu.eq (bv t (aa t 0) Xr<|fO<|G8 _)<|by cases a<;>cases l<;>decide)<|dq<|tX (Xu.l<|Xu.eq (pM (eD<|td (aa t 0) Xr rfl) λ_=>eD<|td (aa t 0) Xr rfl)<|by cases a<;>cases l<;>decide)<|lM (X5.m<|Ar t (Xs.eq (XF.Ya<|M0 (aa t 0) Xr<|SA a l)<|by rw[Py])<|Sr t<|rO (dA t 4)<|rO (dA t 5) JA)<|dq<|fP t 1 rfl (M5<|mO (Xs.em<|aa t 4)<|mO (Xs.em<|aa t 5)<|mO (eZ t 1 rfl rfl)<|Yj.am ag)<|sz<|by simp at hz;lia⟩
section
variable {ls:List (bH×Addr)}
def Mr(t:At X N sc)(bl:pd X sc "list" (.type "list"))(gq:X.mg "COMPARISONS"=some (.ref q))(g:EU X.prog X.w X.K q (wj ls) ep)(hk:ls.map (·.1)=tE)(hg:sc.names.lookup ("COMPARISONS":Str)=some .globalImplicit):Nv X:=λ{ρ p p' pos}=>by
 have h:=XF.Ya (M3 (ρ:=ρ) (p:=p) (py:=p') (pos:=pos) t g bl gq (by
  have:(wj ls).length=(ls.map (·.1)).length:=by simp[wj]
  rw[this,hk];decide) hg rfl)
 refine Xs.eq h ?_;have:(wj ls).map (λp=>D.str p.1)=aX (ls.map (·.1)):=by simp[wj,aX]
 rw[this,hk]
end
inductive Yn:TK->aU->aU->Prop where
 |nil {a:aU}:Yn [] a a
 |cons {u:bH} {us:TK} {a b c:aU}:YS u a b->Yn us b c->Yn (u::us) a c
def Yn.app(h:Yn us a b)(g:Yn vs b c):Yn (us++vs) a c:=by induction h with|nil=>exact g|cons s _ ih=>exact .cons s<|ih g
def Yn.term{a b:List Bd}(pre:aU)(h:Runs us a b):Yn us (pre++a.map ay) (pre++b.map ay):=by induction h with|nil=>exact .nil|cons s _ ih=>exact .cons (.term s) ih
def YS.len(h:YS u a b):b.length<=a.length+1:=by cases h with|term s=>have:=s.len;simp;lia|_=>simp<;>lia
def Yn.ix(h:Yn us a c):∃f:Nat->aU,f 0=a/\f us.length=c/\∀i(hi:i<us.length),YS us[i] (f i) (f<|i+1)/\(f i).length<=a.length+i:=by induction h with|@nil a=>exact⟨λ_=>a,rfl,rfl,λi hi=>nomatch hi⟩|@cons u us a b c s r ih=>obtain⟨f,f0,f1,f2⟩:=ih;refine⟨λi=>match i with |0=>a |j+1=>f j,rfl,f1,λi hi=>?_⟩;cases i with|zero=>exact⟨by show YS u a (f 0);rw[f0];exact s,by simp⟩|succ j=>have:=f2 j (by simpa using hi);exact⟨this.1,by have l:=s.len;have:=this.2;show(f j).length<=_;lia⟩
def ie(R:xA)(ds:aU)(d:D):Prop:=∃(cs:bH)(Y:List pP×qf),ds=[.str<|S cs]/\Lex cs (Iu Y)/\(∀c∈cs,c<128)/\cs.length<=2000/\(∀u∈Iu Y,∀x∈u,x<128)/\Io (Iu Y)/\JM R Y/\(Lu Y).length<10000/\Yn (Lu Y) [] [d]
def ye(R:xA):∀ds d,ie R ds d->ds.length=1:=by rintro _ _ ⟨a,b,rfl,_⟩;rfl
def Cr(h:DefX P w K mg base k m4 (ah jH) X)(c1:Zn X "reader_of" sw)(c2:Xx X "read_steps" (qh R))(c3:Xx X "refuse_more" nh)(c4:YF X "take_step" xV)(gM:∃tk,mg "MOST_SIGNS"=some (.int 2000 tk)):Go X m4 jH (ie R):=by
 rintro ds dr ⟨cs,Y,rfl,hl,ha,hz,ht,hd,hT,hs,hr⟩;have t:=h.at';haveI:=h.X1;have gM':∃tk,X.mg "MOST_SIGNS"=some (.int 2000 tk):=by rw[h.YQ];exact gM
 obtain⟨f,f0,f1,f2⟩:=hr.ix;refine Pu t 1 c1 (ab (aa t 0)<|ab (wq t gM') ag) ⟨cs,Iu Y,2000,rfl,hl,ha,hz,by decide,ht,hd,rfl⟩ λr ok et=>⟨(((Iu Y).length:Nat),aX<|Lu Y),?_⟩;have ho:∀x∈r.toks,PyData.strOk x=true:=by rw[et];intro x hx;obtain⟨u,hu,rfl⟩:=List.mem_map.mp hx;exact fO<|ht u hu
 refine aZ (s1:=((((Iu Y).length:Nat):Int),aX<|Lu Y)) (dN<|bR t ok c2 (bK (Xs.z<|aa t 1)<|Yj.z ag) ⟨ho,0,Y,[],rfl,rfl,hT,by rw[et];simp,λu hu=>?_,by show 0+_<_;lia,rfl,?_⟩) ?_
 ·have hu':u=[94]\/u=[42]\/u=[43]\/u=[45]:=by simpa[Rr]using hu
  rcases hu' with rfl |rfl |rfl |rfl<;>decide
 ·simp
 refine aZ (dN<|bR t ok c3 (bK (Xs.z<|aa t 1)<|Yj.z ag) ⟨(Iu Y).length,rfl,rfl,by rw[et,gS];exact aj _,rfl,rfl⟩) ?_;refine aZ (X5.z<|gV t 2<|bI ag)<|aZ (ρ1:=[.val<|.str<|S cs,.val<|.adr r.p,.own [dr],.un]) (K7 t ok 1 rfl<|XO.XW (λi=>[.val<|.str<|S cs,.val<|.adr r.p,.own<|f i,.un]) (λj d e=>?_) (by rw[f0];rfl) ?_)<|bY<|z5<|Xs.z<|bU (dL t 2 rfl) ai rfl
 ·have e':(aX<|Lu Y)[j]?=some d:=e;unfold aX at e';rw[List.getElem?_map]at e';cases e2:(Lu Y)[j]? with
  |none=>rw[e2]at e';cases e'
  |some u=>rw[e2]at e';cases e';obtain⟨hj,eu⟩:=List.getElem?_eq_some_iff.mp e2;have f3:=f2 j hj;rw[eu]at f3;refine⟨_,dA t 3,Xt.weak (aq<|LA t c4 2 rfl (aa t 3) ⟨u,rfl,f3.1,by have:=f3.2;simp at this;lia⟩)<|.keep<|.keep<|.keep<|.forget .nil⟩
 ·show _=_;have:(((((Iu Y).length:Nat):Int),aX<|Lu Y):Int×aU).2.length=(Lu Y).length:=bN _;rw[this,f1]
def eE(c n:Nat):List bH:=if n=0 then []else if n=1 then [[c]]else [[c,94,48+n]]
def iY(n:Nat):bH:=(Nat.toDigits 10 n).map Char.toNat
def mR(n i k:Nat):List bH:=(if n≠1\/(i=0/\k=0)then [iY n]else [])++(eE 120 i++eE 121 k)
def A6:List bH->bH|[]=>[]|u::us=>u++us.flatMap λv=>42::v
def lO(c n:Nat):(eE c n).length<=1:=by unfold eE;split<;>(try split)<;>simp
def Rw(n:Nat):(toString ((n:Nat):Int):Str)=S (iY n):=by rw[Wl (toString ((n:Nat):Int):Str)];congr 1;exact PySem.W.KIN.signs_num n
def Dd:∀us:List bH,Txt.join ("*":Str) (us.map S)=S (A6 us)
 |[]=>rfl
 |u::us=>by
  show Builtin.Str.glued ("*":Str) (S u::us.map S)=_;have:∀(us:List bH)(acc:bH),((us.map S).foldl (λa p=>a++(("*":Str)).cps++p.cps) acc.toArray)=(acc++us.flatMap λv=>42::v).toArray:=by intro us;induction us with|nil=>intro acc;simp|cons v us ih=>intro acc;rw[aH,dB,show(("*":Str)).cps=[42].toArray by rw[zt];rfl,show acc.toArray++[42].toArray++(S v).cps=(acc++42::v).toArray by show acc.toArray++[42].toArray++v.toArray=_;simp,show[42].toArray=(("*":Str)).cps by rw[zt];rfl,ih];simp
  show(⟨((us.map S).foldl (λa p=>a++(("*":Str)).cps++p.cps) (S u).cps)⟩:Str)=_;rw[show(S u).cps=u.toArray from rfl,this];rfl
def Uk:∀n:Nat,2<=n->n<=8->((("x":Str)++("^":Str)++(toString (n:Int):Str)))=S [120,94,48+n]:=λn h1 h2=>by
 have:∀n:Nat,n<9->2<=n->((("x":Str)++("^":Str)++(toString (n:Int):Str)))=S [120,94,48+n]:=by decide
 exact this n (by lia) h1
def Uj:∀n:Nat,2<=n->n<=8->((("y":Str)++("^":Str)++(toString (n:Int):Str)))=S [121,94,48+n]:=λn h1 h2=>by
 have:∀n:Nat,n<9->2<=n->((("y":Str)++("^":Str)++(toString (n:Int):Str)))=S [121,94,48+n]:=by decide
 exact this n (by lia) h1
def T1{n:Nat}(h:n<=8):((n:Nat):Int).natAbs.log2<1920:=by
 have:∀n:Nat,n<9->((n:Nat):Int).natAbs.log2<1920:=by decide
 exact this n<|by lia
def kC(ds:aU)(d:D):Prop:=∃i k:Nat,ds=[.int i,.int k]/\i<=8/\k<=8/\d=.lst (aX<|eE 120 i++eE 121 k)
def we:∀ds d,kC ds d->ds.length=2:=by rintro _ _ ⟨a,b,rfl,_⟩;rfl
def yq(h:DefX P w K mg base k kr (ah ik) X):Go X kr ik kC:=by
 rintro ds r ⟨i,k,rfl,hi,hk,rfl⟩;have t:=h.at';haveI:=h.X1;show Xt X [.val<|.int i,.val<|.int k,.un,.un,.un] _ _;have R:Nat->cJ:=λj=>[.val<|.int i,.val<|.int k,.own<|aX (if j=0 then []else if j=1 then eE 120 i else eE 120 i++eE 121 k),.un,.un];refine au (gV t 2<|bI ag)<|au (fF t (ki (ds:=[.tup [.str "x",.int i],.tup [.str "y",.int k]])<|aG<|ab (aG<|ab Xr<|ab (aa t 0) ag)<|ab (aG<|ab Xr<|ab (aa t 1) ag) ag)<|XO.XW (ρ':=[.val<|.int i,.val<|.int k,.own<|aX<|eE 120 i++eE 121 k,.un,.un]) (λj=>[.val<|.int i,.val<|.int k,.own<|aX (if j=0 then []else if j=1 then eE 120 i else eE 120 i++eE 121 k),.un,.un]) (λj d e=>?_) rfl rfl)<|fQ 2 rfl<|aq<|aW<|aa t 2;rcases j with _ |_ |j
 ·have e':d=.tup [.str "x",.int i]:=by cases e;rfl
  subst e';refine⟨_,gN t 3 4,Xt.weak (ρ1:=[.val<|.int i,.val<|.int k,.own<|aX<|eE 120 i,.val<|.str "x",.val<|.int i]) (aq ?_)<|.keep<|.keep<|.keep<|.forget<|.forget .nil⟩;by_cases h1:i=1;·subst h1;exact dj (Xu.eq (bZ (aa t 4) ai) rfl)<|aq<|X5.eq (dI t 2 rfl (aa t 3) (show(0:Nat)<sizeLine by decide))<|by show Out.nx [_,_,.own<|[]++[D.str "x"],_,_]=_;rw[show("x":Str)=S [120]by decide];rfl
  ·refine bw (Xu.eq (bZ (aa t 4) ai)<|by rw[aQ];lia)<|aq ?_;by_cases h0:i=0;·subst h0;exact bw (Xu.eq (i6 (aa t 4) ai) rfl) bc
   ·exact dj (Xu.eq (i6 (aa t 4) ai)<|by rw[bj];lia)<|aq<|X5.eq (dI t 2 rfl (Xs.eq (Jv (aa t 3) (aa t 4) (T1 hi)<|by decide)<|by rw[Uk i (by lia) hi]) (show(0:Nat)<sizeLine by decide))<|by unfold eE;rw[ak h0,ak h1];rfl
 ·have e':d=.tup [.str "y",.int k]:=by cases e;rfl
  subst e';have hl:(aX<|eE 120 i).length<sizeLine:=by rw[bN];exact cn (lO _ _)<|by decide
  refine⟨_,gN t 3 4,Xt.weak (ρ1:=[.val<|.int i,.val<|.int k,.own<|aX<|eE 120 i++eE 121 k,.val<|.str "y",.val<|.int k]) (aq ?_)<|.keep<|.keep<|.keep<|.forget<|.forget .nil⟩;by_cases h1:k=1;·subst h1;exact dj (Xu.eq (bZ (aa t 4) ai) rfl)<|aq<|X5.eq (dI t 2 rfl (aa t 3) hl)<|by rw[gE,show("y":Str)=S [121]by decide];rfl
  ·refine bw (Xu.eq (bZ (aa t 4) ai)<|by rw[aQ];lia)<|aq ?_;by_cases h0:k=0;·subst h0;exact X5.eq (bw (Xu.eq (i6 (aa t 4) ai) rfl) bc)<|by rw[show eE 121 0=[]from rfl,aV];rfl
   ·exact dj (Xu.eq (i6 (aa t 4) ai)<|by rw[bj];lia)<|aq<|X5.eq (dI t 2 rfl (Xs.eq (Jv (aa t 3) (aa t 4) (T1 hk)<|by decide)<|by rw[Uj k (by lia) hk]) hl)<|by rw[gE,show eE 121 k=[[121,94,48+k]]by unfold eE;rw[ak h0,ak h1]];rfl
 ·cases e
def FK(us:List bH):(us.map S).map D.str=aX us:=by unfold aX;rw[bu];rfl
def zAS{us:List bH}:((dY<|.lst<|aX us).eqv<|dY<|.lst [])=us.isEmpty:=by cases us<;>rfl
def AJ{n:Nat}(h:n<10 ^ 12):(iY n).length<=12:=by unfold iY;rw[ae];exact(Nat.length_toDigits_le_iff (by decide)<|by decide).mpr h
def R0{w:Str}(h:PyData.strOk w=true):Fn 1 (.str w):=⟨cH h,by simp[dY,PyData.depth],by simp[dY,PyData.eqv]⟩
def MH{us:List bH}(h:∀u∈us,∀x∈u,x<128):Fn 2 (.lst<|aX us):=Fn.lst λx hx=>by obtain⟨u,hu,rfl⟩:=List.mem_map.mp hx;exact R0<|fO<|h u hu
def zf{c n:Nat}(hc:c<128)(hn:n<=8):∀u∈eE c n,∀x∈u,x<128:=by
 unfold eE;split;·intro u hu;cases hu
 ·split;·intro u hu x hx;simp at hu;subst hu;simp at hx;lia
  ·intro u hu x hx;simp at hu;subst hu;simp at hx;lia
def FN:(eE c n).isEmpty=decide (n=0):=by
 unfold eE;split;·rename_i h;simp[h]
 ·rename_i h;split<;>simp[h]
def D7{c n:Nat}:∀u∈eE c n,u.length<=3:=by
 unfold eE;split;·intro u hu;cases hu
 ·split<;>(intro u hu;simp at hu;subst hu;simp)
def MK{n:Nat}:∀c∈iY n,48<=c/\c<=57:=λc hc=>by unfold iY at hc;obtain⟨d,hd,rfl⟩:=List.mem_map.mp hc;have:=Nat.isDigit_of_mem_toDigits (by decide) (by decide) hd;simp only[Char.isDigit,eO,bj]at this;exact⟨this.1,this.2⟩
def QB{n i k:Nat}(hi:i<=8)(hk:k<=8):∀u∈mR n i k,∀x∈u,x<128:=λu hu x hx=>by
 unfold mR at hu;rcases aL.mp hu with hu |hu
 ·split at hu;·simp at hu;subst hu;have:=MK x hx;lia
  ·cases hu
 ·rcases aL.mp hu with hu |hu;·exact zf (by decide) hi u hu x hx
  ·exact zf (by decide) hk u hu x hx
def NZ{n i k:Nat}(hn:n<10 ^ 12):(mR n i k).length<=3/\∀u∈mR n i k,u.length<=12:=by
 have h1:=lO 120 i;have h2:=lO 121 k;refine⟨?_,λu hu=>?_⟩;·unfold mR;rw[ac,ac];split<;>simp<;>lia
 ·unfold mR at hu;rcases aL.mp hu with hu |hu
  ·split at hu;·simp at hu;subst hu;exact AJ hn
   ·cases hu
  ·rcases aL.mp hu with hu |hu;·have:=D7 u hu;lia
   ·have:=D7 u hu;lia
def kB(ds:aU)(d:D):Prop:=∃n i k:Nat,ds=[.int n,.int i,.int k]/\n<10 ^ 12/\i<=8/\k<=8/\d=.str (S<|A6<|mR n i k)
def wd:∀ds d,kB ds d->ds.length=3:=by rintro _ _ ⟨a,b,c,rfl,_⟩;rfl
def T2{n:Nat}(h:n<10 ^ 12):((n:Nat):Int).natAbs.log2<1920:=by
 rw[Int.natAbs_natCast];by_cases h0:n=0;·subst h0;decide
 ·exact(Nat.log2_lt h0).mpr<|tG h<|by decide
def Jf:∀us:List bH,us.length<=3->(∀u∈us,u.length<=12)->((us.map S).map (·.length)).sum+(us.map S).length*(("*":Str)).length<=16777216:=λus h1 h2=>by
 have e:(("*":Str)).length=1:=by decide
 rw[e,ae];have:∀us:List bH,(∀u∈us,u.length<=12)->((us.map S).map (·.length)).sum<=12*us.length:=by intro us;induction us with|nil=>intro _;simp|cons u us ih=>intro h;have a:=ih λv hv=>h v (by simp[hv]);have b:=h u (by simp);rw[aH,aH,List.sum_cons,e8,aS];lia
 have:=this us h2;lia
def yp(h:DefX P w K mg base k kn (ah ij) X)(Zh:mg "str"=none)(c1:EV.Callee X "letters_shown" kC):Go X kn ij kB:=by
 rintro ds r ⟨n,i,k,rfl,hn,hi,hk,rfl⟩;have t:=h.at';haveI:=h.X1;have b1:=h.bt Zh;have X3:∀u∈eE 120 i++eE 121 k,∀x∈u,x<128:=λu hu=>by
  rcases aL.mp hu with hu |hu;·exact zf (by decide) hi u hu
  ·exact zf (by decide) hk u hu
 have hw:=@NZ n i k hn;have hll:(eE 120 i++eE 121 k).length<=2:=by have h1:=lO 120 i;have h2:=lO 121 k;rw[ac];lia
 have hte:(eE 120 i++eE 121 k).isEmpty=(decide (i=0)&&decide (k=0)):=by rw[<-FN (c:=120),<-FN (c:=121)];cases eE 120 i<;>cases eE 121 k<;>rfl
 have sh0:SeqAt.shaped (dY<|.lst [])=true:=(Fn.lst (n:=1) (xs:=[]) λx hx=>nomatch hx).sh (by decide);show Xt X [.val<|.int n,.val<|.int i,.val<|.int k,.un] _ _;refine au (df t 3<|aB t c1 (ab (aa t 1)<|ab (aa t 2) ag) ⟨i,k,rfl,hi,hk,rfl⟩) ?_;by_cases hc:n≠1\/(i=0/\k=0)
 ·have ew:mR n i k=[iY n]++(eE 120 i++eE 121 k):=by unfold mR;rw[ar hc]
  refine au (dj (Xu.eq (pM (xj (aa t 0) ai) λ_=>iD t (Xs.p<|aa t 3) (Xs.p (d:=.lst [])<|XF.Ya<|bI ag) ((MH X3).sh<|by decide) sh0<|zAS.trans hte) ?_)<|aq<|gV t 3<|M4 (XF.Ya<|bI<|ab (Pf t b1 (aa t 0)<|T2 hn) ag) (aa t 3)<|aJ (GN (by rw[bN];exact hll) _) (show 1+2<=sizeLine by decide))<|fQ 3 rfl<|aq<|aW<|Xs.eq (Js (ys:=(mR n i k).map S) Xr (Xs.ql<|Xs.eq (aa t 3) ?_)<|Jf _ hw.1 hw.2)<|by rw[Dd]
  ·rcases hc with hc |⟨hc,hd⟩;·rw[ao (show¬((n:Int)=1)by lia)];rfl
   ·rw[aF hc,aF hd];simp
  ·show D.lst ([D.str<|toString ((n:Nat):Int)]++aX (eE 120 i++eE 121 k))=_;rw[FK,ew,gE [iY n],Rw];rfl
 ·have ew:mR n i k=eE 120 i++eE 121 k:=by unfold mR;rw[ak hc];rfl
  have h1:n=1:=Tf λz=>hc<|.inl z;refine au (bw (Xu.eq (pM (xj (aa t 0) ai) λ_=>iD t (Xs.p<|aa t 3) (Xs.p (d:=.lst [])<|XF.Ya<|bI ag) ((MH X3).sh<|by decide) sh0<|zAS.trans hte) ?_) bc)<|aq<|aW<|Xs.eq (Js (ys:=(mR n i k).map S) Xr (Xs.ql<|Xs.eq (aa t 3) ?_)<|Jf _ hw.1 hw.2)<|by rw[Dd]
  ·subst h1;rw[show decide (((1:Nat):Int)=1)=true from rfl];by_cases a:i=0;·have:k≠0:=λz=>hc<|.inr ⟨a,z⟩;simp[a,this]
   ·simp[a]
  ·rw[FK,ew]
abbrev Pr:=Int×Nat×Nat
def jX(p:Pr):bH:=A6<|mR p.1.natAbs p.2.1 p.2.2
def rG(p:Pr):bH:=if p.1<0 then [45]else []
def uh(p:Pr):bH:=if p.1<0 then [32,45,32]else [32,43,32]
def jT:List Pr->bH|[]=>[]|p::ps=>rG p++jX p++ps.flatMap λq=>uh q++jX q
def KQ(acc:bH)(p:Pr):bH:=if acc=[]then rG p++jX p else acc++(uh p++jX p)
def D4(n:Nat):iY n≠[]:=λe=>by unfold iY at e;exact Nat.toDigits_ne_nil<|List.map_eq_nil_iff.mp e
def L3(p:Pr):jX p≠[]:=by
 obtain⟨n,i,k⟩:=p;show A6 (mR n.natAbs i k)≠[];unfold mR;split;·show iY _++_≠[];exactλe=>D4 _ (WC.mp e).1
 ·rename_i h;unfold eE;by_cases h1:i=0
  ·by_cases h2:k=0;·exact absurd (.inr ⟨h1,h2⟩) h
   ·rw[ar h1,ak h2];split<;>exactλe=>(by cases e)
  ·rw[ak h1];split<;>exactλe=>(by cases e)
def zAU{ps:List Pr}:jT ps=[]↔ps=[]:=by cases ps with|nil=>simp[jT]|cons p ps=>simp only[jT,WC];exact⟨λe=>absurd e.1.2<|L3 p,λe=>(by cases e)⟩
def Lz(ps:List Pr)(p:Pr):jT (ps++[p])=KQ (jT ps) p:=by cases ps with|nil=>simp[jT,KQ]|cons q ps=>unfold KQ;rw[ak λe=>by have:=zAU.mp e;cases this];simp[jT,ft]
def uw(p:Pr):Prop:=p.1.natAbs<10 ^ 12/\p.2.1<=8/\p.2.2<=8
def O4{us:List bH}(h:∀u∈us,∀x∈u,x<128):∀x∈A6 us,x<128:=by
 cases us with
 |nil=>intro x hx;cases hx
 |cons u us=>
  intro x hx;rcases aL.mp hx with hx |hx;·exact h u (by simp) x hx
  ·obtain⟨v,hv,hx⟩:=List.mem_flatMap.mp hx;rcases ax.mp hx with rfl |hx;·decide
   ·exact h v (by simp[hv]) x hx
def wY{p:Pr}(h:uw p):(jX p).length<=20:=by obtain⟨n,i,k⟩:=p;obtain⟨hn,hi,hk⟩:=h;have a:=AJ (n:=n.natAbs) hn;have lx:∀c n u,eE c n=[u]->u.length<=3:=λc n u e=>D7 u (by rw[e];simp);show(A6<|mR n.natAbs i k).length<=20;unfold mR;have l1:=lO 120 i;have l2:=lO 121 k;have e1:=lx 120 i;have e2:=lx 121 k;revert e1 e2 l1 l2;generalize eE 120 i=A;generalize eE 121 k=B;intro l1 l2 e1 e2;rcases A with _ |⟨u,_ |⟨u',A⟩⟩<;>rcases B with _ |⟨v,_ |⟨v',B⟩⟩<;>simp at l1 l2 e1 e2<;>split<;>simp[A6]<;>lia
def Fv{p:Pr}(h:uw p):∀x∈jX p,x<128:=O4<|QB h.2.1 h.2.2
def OX(p:Pr):∀x∈rG p,x<128:=by unfold rG;split<;>intro x hx<;>simp at hx;lia
def QV(p:Pr):∀x∈uh p,x<128:=by unfold uh;split<;>intro x hx<;>simp at hx<;>lia
def y6(p:Pr):(uh p).length=3/\(rG p).length<=1:=by unfold uh rG;split<;>simp
def DM{ps:List Pr}(h:∀p∈ps,uw p):∀x∈jT ps,x<128:=by
 cases ps with
 |nil=>intro x hx;cases hx
 |cons p ps=>
  intro x hx;rcases aL.mp hx with hx |hx
  ·rcases aL.mp hx with hx |hx;·exact OX p x hx
   ·exact Fv (h p<|by simp) x hx
  ·obtain⟨v,hv,hx⟩:=List.mem_flatMap.mp hx;rcases aL.mp hx with hx |hx;·exact QV v x hx
   ·exact Fv (h v<|by simp[hv]) x hx
def DN{ps:List Pr}(h:∀p∈ps,uw p):(jT ps).length<=23*ps.length:=by
 have key:∀vs:List Pr,(∀p∈vs,uw p)->(vs.flatMap λq=>uh q++jX q).length<=23*vs.length:=by intro vs;induction vs with|nil=>intro _;simp|cons v vs ih=>intro hv;have a:=ih λu hu=>hv u (by simp[hu]);have b:=wY<|hv v (by simp);have c:=(y6 v).1;rw[jl,ac,ac,aS,Nat.mul_add];lia
 cases ps with|nil=>simp[jT]|cons p ps=>have a:=key ps λu hu=>h u (by simp[hu]);have b:=wY<|h p (by simp);have c:=(y6 p).2;show(rG p++jX p++_).length<=_;rw[ac,ac,aS,Nat.mul_add];lia
def uj(r:be)(k:Nat)(t:Nat):List Pr:=(List.range t).flatMap λs=>if r.getD (r.length-1-s) 0≠0 then [(r.getD (r.length-1-s) 0,r.length-1-s,k)]else []
def Zg(b:Bd)(t:Nat):List Pr:=(List.range t).flatMap λs=>uj (b.getD (b.length-1-s) []) (b.length-1-s) (b.getD (b.length-1-s) []).length
def xZ(b:Bd):List Pr:=Zg b b.length
def wV(r:be)(k t:Nat):uj r k (t+1)=uj r k t++(if r.getD (r.length-1-t) 0≠0 then [(r.getD (r.length-1-t) 0,r.length-1-t,k)]else []):=by unfold uj;rw[gj,ft];simp
def vn(b:Bd)(t:Nat):Zg b (t+1)=Zg b t++uj (b.getD (b.length-1-t) []) (b.length-1-t) (b.getD (b.length-1-t) []).length:=by unfold Zg;rw[gj,ft];simp
def LO{p:Pr}(h:p∈uj r k t):∃i,p=(r.getD i 0,i,k)/\r.getD i 0≠0/\i<=r.length-1:=by
 unfold uj at h;obtain⟨s,hs,h⟩:=List.mem_flatMap.mp h;split at h;·rename_i h0;simp at h;exact⟨_,h,h0,by lia⟩
 ·cases h
def IR{p:Pr}(h:p∈Zg b t):p.1=eT b p.2.1 p.2.2/\p.1≠0:=by unfold Zg at h;obtain⟨s,hs,h⟩:=List.mem_flatMap.mp h;obtain⟨i,rfl,h0,_⟩:=LO h;exact⟨rfl,h0⟩
structure SB(b:Bd):Prop where
 fit:Fit 9 b
 bb:∀i k,(eT b i k).natAbs<10 ^ 12
def SB.pr(h:SB b){p:Pr}(e:p.1=eT b p.2.1 p.2.2)(h0:p.1≠0):uw p:=by
 refine⟨by rw[e];exact h.bb _ _,?_,?_⟩
 ·by_cases q:p.2.1<=8;·exact q
  ·exact absurd (e.trans<|h.fit.out<|.inl<|by lia) h0
 ·by_cases q:p.2.2<=8;·exact q
  ·exact absurd (e.trans<|h.fit.out<|.inr<|by lia) h0
def SB.Zg(h:SB b)(t:Nat):∀p∈Zg b t,uw p:=λp hp=>h.pr (IR hp).1 (IR hp).2
def vk(r:be)(k:Nat):∀t,(uj r k t).length<=t|0=>by simp[uj]|t+1=>by rw[wV,ac];have:=vk r k t;split<;>simp<;>lia
def SB.YI(h:SB b):∀t,(My.Zg b t).length<=9*t|0=>by simp[My.Zg]|t+1=>by rw[vn,ac];have:=SB.YI h t;have a:=vk (b.getD (b.length-1-t) []) (b.length-1-t) (b.getD (b.length-1-t) []).length;have c:=h.fit.2<|b.length-1-t;lia
def Q6(p:Pr):D:=.tup [.int p.1,.int p.2.1,.int p.2.2]
def Gd{j:Nat}(h:(t6 m n)[j]?=some d):j<n/\d=.int (m-(j:Int)):=by
 unfold t6 at h;rw[List.getElem?_map]at h;by_cases hj:j<n;·rw[List.getElem?_range hj]at h;cases h;exact⟨hj,rfl⟩
 ·rw[List.getElem?_eq_none<|by simpa using hj]at h;cases h
def Gc:(t6 m n).length=n:=by unfold t6;simp
def nn(ds:aU)(d:D):Prop:=∃b:Bd,ds=[ay b]/\SB b/\d=.lst ((xZ b).map Q6)
def yg:∀ds d,nn ds d->ds.length=1:=by rintro _ _ ⟨a,rfl,_⟩;rfl
def Cs(h:DefX P w K mg base k m6 (ah jJ) X)(XJ:mg "range"=none)(XD:mg "len"=none):Go X m6 jJ nn:=by
 rintro ds r ⟨b,rfl,hb,rfl⟩;have t:=h.at';haveI:=h.X1;have b1:=h.bt XJ;have b2:=h.bt XD;have hl:=hb.fit.1;show Xt X [.val<|ay b,.un,.un,.un,.un] _ _;refine au (gV t 1<|bI ag)<|au (fF t (ZX.eq (d':=t6 ((b.length:Int)-1) b.length) (Dk t b1 (fV (c7 t b2<|Xs.qt<|aa t 0) ai) (gX ai) (gX ai)<|by rw[ae];lia)<|by rw[ae];congr 1;lia)<|XO.XW (ρ':=[.val<|ay b,.own<|(xZ b).map Q6,.un,.un,.un]) (λj=>[.val<|ay b,.own<|(Zg b j).map Q6,.un,.un,.un]) (λj d e=>?_) rfl<|by rw[Gc];rfl)<|fQ 1 rfl<|aq<|aW<|aa t 1;obtain⟨hj,rfl⟩:=Gd e;have e1:(b.length:Int)-1-(j:Int)=((b.length-1-j:Nat):Int):=by lia
 rw[e1];have hk:b.length-1-j<b.length:=by lia
 rw[vn];have h81:=hb.YI j;have hf:=hb.fit.2<|b.length-1-j;generalize b.length-1-j=kk at hk hf;have eg:b.getD kk []=b[kk]:=by rw[List.getD_eq_getElem?_getD,List.getElem?_eq_getElem hk];rfl
 have hax:qL (b.map bh) (kk:Int)=some (bh<|b.getD kk []):=by rw[eg];exact xp (by lia) (by lia) hk
 generalize hr:b.getD kk []=r at hax hf;refine⟨_,dA t 2,Xt.weak (au (df t 3<|bU (Xs.qt<|aa t 0) (aa t 2) hax)<|aq<|fF t (ZX.eq (d':=t6 ((r.length:Int)-1) r.length) (Dk t b1 (fV (c7 t b2<|Xs.qt<|aa t 3) ai) (gX ai) (gX ai)<|by rw[ae];lia)<|by rw[ae];congr 1;lia)<|XO.XW (ρ':=[.val<|ay b,.own<|(Zg b j++uj r kk r.length).map Q6,.val<|.int kk,.val<|bh r,.un]) (λs=>[.val<|ay b,.own<|(Zg b j++uj r kk s).map Q6,.val<|.int kk,.val<|bh r,.un]) (λs d e=>?_) (by show _=_;rw[show uj r kk 0=[]from rfl,aV];rfl)<|by rw[Gc])<|.keep<|.keep<|.forget<|.forget<|.keep .nil⟩;obtain⟨hs,rfl⟩:=Gd e;have e2:(r.length:Int)-1-(s:Int)=((r.length-1-s:Nat):Int):=by lia
 rw[e2,wV];have hi:r.length-1-s<r.length:=by lia
 have h9:=vk r kk s;generalize r.length-1-s=ii at hi;have hix:qL (r.map D.int) (ii:Int)=some (.int<|r.getD ii 0):=kj hi;refine⟨_,dA t 4,Xt.weak (ρ1:=[.val<|ay b,.own<|(Zg b j++(uj r kk s++(if r.getD ii 0≠0 then [(r.getD ii 0,ii,kk)]else []))).map Q6,.val<|.int kk,.val<|bh r,.val<|.int ii]) (aq ?_)<|.keep<|.keep<|.keep<|.keep<|.forget .nil⟩;by_cases h0:r.getD ii 0=0;·rw[ak<|by rw[h0];decide,aV];exact bw (Xu.eq (xj (bU (Xs.qt<|aa t 3) (aa t 4) hix) ai)<|by rw[h0];rfl) bc
 ·rw[ar h0];refine dj (Xu.eq (xj (bU (Xs.qt<|aa t 3) (aa t 4) hix) ai)<|by rw[ao h0];rfl)<|aq<|X5.eq (dI t 1 rfl (aG<|ab (bU (Xs.qt<|aa t 3) (aa t 4) hix)<|ab (aa t 4)<|ab (aa t 2) ag) ?_) ?_;·rw[ae,ac];exact sz<|by lia
  ·show Out.nx _=_;simp[Q6]
def z0:("":Str)=S []:=by decide
def zL:("-":Str)=S [45]:=by decide
def WV:(" - ":Str)=S [32,45,32]:=by decide
def WU:(" + ":Str)=S [32,43,32]:=by decide
def zN:("0":Str)=S [48]:=by decide
def Fp(b:Bd):bH:=if jT (xZ b)=[]then [48]else jT<|xZ b
def Nq(u:bH):decide (S u=("":Str))=decide (u=[]):=decide_eq_decide.mpr ⟨λe=>e9<|e.trans z0,λe=>by rw[e,z0]⟩
def sr(ds:aU)(d:D):Prop:=∃b:Bd,ds=[ay b]/\SB b/\d=.str (S<|Fp b)
def BS:∀ds d,sr ds d->ds.length=1:=by rintro _ _ ⟨a,rfl,_⟩;rfl
def uS(h:SB b)(j:Nat):(jT<|(xZ b).take j).length<=1863:=by
 have a:=DN (ps:=(xZ b).take j) λp hp=>h.Zg _ p<|cX hp;have c:=h.YI b.length;have d:=h.fit.1;have e:((xZ b).take j).length<=(xZ b).length:=List.length_take_le' _ _;have f:(xZ b).length<=81:=by show(Zg b b.length).length<=81;lia
 lia
def Gu(h:DefX P w K mg base k rQ (ah mn) X)(zBR:mg "abs"=none)(c1:EV.Callee X "products_of" nn)(c2:EV.Callee X "product_shown" kB):Go X rQ mn sr:=by
 rintro ds r ⟨b,rfl,hb,rfl⟩;have t:=h.at';haveI:=h.X1;have b1:=h.bt zBR;show Xt X [.val<|ay b,.un,.un,.un,.un] _ _;have XR:∀j,∀c∈jT ((xZ b).take j),c<128:=λj=>DM λp hp=>hb.Zg _ p<|cX hp;refine au (df t 1 Xr)<|au (fF t (mV<|aB t c1 (ab (aa t 0) ag) ⟨b,rfl,hb,rfl⟩)<|XO.XW (ρ':=[.val<|ay b,.val<|.str<|S<|jT<|xZ b,.un,.un,.un]) (λj=>[.val<|ay b,.val<|.str<|S<|jT<|(xZ b).take j,.un,.un,.un]) (λj d e=>?_) (by rw[EW,show jT []=[]from rfl,<-z0];rfl)<|by rw[ae,a7])<|aq<|aW ?_
 ·rw[List.getElem?_map]at e;cases e2:(xZ b)[j]? with
  |none=>rw[e2]at e;cases e
  |some p=>
   rw[e2]at e;cases e;have hp:=hb.Zg _ p<|List.mem_of_getElem? e2;have et:jT ((xZ b).take<|j+1)=KQ (jT<|(xZ b).take j) p:=by rw[nu,e2];exact Lz _ p
   have hl:=uS hb j;have hl2:=uS hb<|j+1;have hkk:=XR j;rw[et]at hl2;rw[et];generalize jT ((xZ b).take j)=u at hl hkk hl2;obtain⟨n,x,y⟩:=p;obtain⟨hn,hx,hy⟩:=hp;refine⟨_,Sq t<|rO (dA t 2)<|rO (dA t 3)<|rO (dA t 4) JA,Xt.weak (ρ1:=[.val<|ay b,.val<|.str<|S<|KQ u (n,x,y),.val<|.int n,.val<|.int x,.val<|.int y]) (au (ρ':=[.val<|ay b,.val<|.str<|S (if u=[]then rG (n,x,y)else u++uh (n,x,y)),.val<|.int n,.val<|.int x,.val<|.int y]) ?_<|aq<|X5.eq (Hc t 1 rfl (aB t c2 (ab (HM t b1<|aa t 2)<|ab (aa t 3)<|ab (aa t 4) ag) ⟨n.natAbs,x,y,rfl,hn,hx,hy,rfl⟩) ?_) ?_)<|.keep<|.keep<|.forget<|.forget<|.forget .nil⟩
   ·by_cases hu:u=[]
    ·rw[ar hu];refine dj (Xu.eq (bv t (aa t 1) Xr<|fO hkk)<|by rw[Nq,aF hu])<|aq<|df t 1 ?_;unfold rG;by_cases h0:n<0;·rw[ar h0];exact ke (Xu.eq (fy (aa t 2) ai)<|aF h0)<|Xs.eq Xr<|by rw[zL]
     ·rw[ak h0];exact kg (Xu.eq (fy (aa t 2) ai)<|ao h0)<|Xs.eq Xr<|by rw[z0]
    ·rw[ak hu];have hs:∀{e:Expr},Xs X [.val<|ay b,.val<|.str<|S u,.val<|.int n,.val<|.int x,.val<|.int y] e (.str<|S<|uh (n,x,y))->True:=λ_=>trivial;refine bw (Xu.eq (bv t (aa t 1) Xr<|fO hkk)<|by rw[Nq,ao hu])<|aq<|X5.eq (Hc t 1 (z:=S u) (w:=S<|uh (n,x,y)) rfl ?_ ?_)<|by rw[iJ];rfl
     ·unfold uh;by_cases h0:n<0;·rw[ar h0];exact ke (Xu.eq (fy (aa t 2) ai)<|aF h0)<|Xs.eq Xr<|by rw[WV]
      ·rw[ak h0];exact kg (Xu.eq (fy (aa t 2) ai)<|ao h0)<|Xs.eq Xr<|by rw[WU]
     ·rw[e8,e8,(y6 _).1];exact VC<|by lia
   ·have a:=wY (p:=(n,x,y)) ⟨hn,hx,hy⟩;have c:=y6 (n,x,y);have d:(S<|A6<|mR n.natAbs x y).length<=20:=by rw[e8];exact a
    refine VC ?_;rw[e8];split;·lia
    ·rw[ac];lia
   ·rw[iJ];unfold KQ;split;·rfl
    ·rw[az];rfl
 ·have zD4:=DM<|hb.Zg b.length;have zB0:∀c∈jT (xZ b),c<128:=zD4;unfold Fp;generalize jT (xZ b)=u at zB0;by_cases hu:u=[];·rw[ar hu];exact kg (kh t (Xs.p<|aa t 1) (Xs.p Xr) (gv<|fO zB0) (gv<|by decide)<|by subst hu;decide)<|Xs.eq Xr<|by rw[zN]
  ·rw[ak hu];exact ke (kh t (Xs.p<|aa t 1) (Xs.p Xr) (gv<|fO zB0) (gv<|by decide)<|by show(!(S u==("":Str)))=true;rw[fJ,Nq,ao hu];rfl)<|aa t 1
def sh0:SeqAt.shaped (dY<|.str "")=true:=gv<|by decide
abbrev R1:xA:=AR 1
def ug(a:Nat)(v:Int):∀n,dZ n (λj=>if j=a then v else 0)=if a<n then v else 0
 |0=>by simp[dZ]
 |n+1=>by
  rw[dZ,ug a v n];by_cases h:n=a;·subst h;simp
  ·rw[ak h];by_cases h2:a<n;·rw[ar h2,ar<|by lia];lia
   ·rw[ak h2,ak<|by lia];lia
structure X7(c:Int)(i k:Nat)(B:Bd):Prop where
 ok:XA B
 cf:∀a e,eT B a e=if a=i/\e=k then c else 0
def X7.bs(h:X7 c i k B)(φ:Nat->Nat->Int):bs B φ=c*φ i k:=by
 have hr:∀e,rs (B.getD e []) (λa=>φ a e)=if e=k then c*φ i k else 0:=λe=>by
  rw[iy (B.getD e []) ((B.getD e []).length+i+1) _<|by lia];have:∀a,(B.getD e []).getD a 0=if a=i/\e=k then c else 0:=λa=>h.cf a e;by_cases he:e=k
  ·rw[ar he,dg (g:=λa=>if a=i then c*φ i k else 0) _ λa _=>?_,ug,ar<|by lia];rw[this a];by_cases ha:a=i;·rw[ar ⟨ha,he⟩,ar ha,ha,he]
   ·rw[ak λz=>ha z.1,ak ha,Int.zero_mul]
  ·rw[ak he,dg _ λa _=>?_,lv];rw[this a,ak λz=>he z.2,Int.zero_mul]
 rw[ut B (B.length+k+1) φ<|by lia,dg _ λe _=>hr e,ug,ar<|by lia]
def X7.mul(h:X7 c i k A)(g:X7 c' i' k' B):X7 (c*c') (i+i') (k+k') (kb A B):=⟨J0 _ _,λa e=>by
 rw[<-HY,Ng,h.bs,g.bs];unfold wv;by_cases q:a=i+i'/\e=k+k';·rw[ar q,ar ⟨q.1.symm,q.2.symm⟩,Xg]
 ·rw[ak q,ak (λz=>q ⟨z.1.symm,z.2.symm⟩),Int.mul_zero,Int.mul_zero]⟩
def X7.neg(h:X7 c i k B):X7 (-c) i k (mJ []<|v9 B):=⟨vo _ _,λa e=>by rw[ju,tj,h.cf];show(0:Int)+_=_;split<;>lia⟩
def X7.fit{n:Nat}(h:X7 c i k B)(hi:i<n)(hk:k<n):Fit n B:=Ei h.ok λa e q=>by rw[h.cf,ak<|by lia]
def X7.lim(h:X7 c i k B)(hc:c.natAbs<2 ^ 63):∀r∈B,∀y∈r,-(2 ^ 63)<y/\y<2 ^ 63:=BB.lim (λa e=>by rw[h.cf];split<;>simp) hc
def X7.cast{c':Int}{i' k':Nat}(h:X7 c i k B)(e1:c=c')(e2:i=i')(e3:k=k'):X7 c' i' k' B:=by subst e1;subst e2;subst e3;exact h
def za{r:be}{a:Int}(h:a≠0):Yo (r++[a]):=.inr ⟨r,a,rfl,h⟩
def Ml:X7 1 0 0 [[1]]:=⟨⟨.inr ⟨[],[1],rfl,by decide⟩,λr hr=>by rw[aP.mp hr];exact za (r:=[])<|by decide⟩,λa e=>by
 unfold eT;rcases e with _ |e;·rcases a with _ |a<;>simp
 ·simp⟩
def RB:X7 1 1 0 [[0,1]]:=⟨⟨.inr ⟨[],[0,1],rfl,by decide⟩,λr hr=>by rw[aP.mp hr];exact za (r:=[0])<|by decide⟩,λa e=>by
 unfold eT;rcases e with _ |e;·rcases a with _ |_ |a<;>simp
 ·simp⟩
def RA:X7 1 0 1 [[],[1]]:=⟨⟨.inr ⟨[[]],[1],rfl,by decide⟩,λr hr=>by
 rcases ax.mp hr with rfl |hr;·exact .inl rfl
 ·rw[aP.mp hr];exact za (r:=[]) (by decide)⟩,λa e=>by
 unfold eT;rcases e with _ |_ |e;·simp
 ·rcases a with _ |a<;>simp
 ·simp⟩
def C8(n:Nat):Hs (iY n)=n:=by unfold Hs iY;rw[PySem.W.KIN.val_back]
def OP:∀n,(iY n).head?=some 48->iY n=[48]:=λn=>by
 induction n using Nat.strongRecOn with
 |_ m ih=>
  intro h0;by_cases h:m<10
  ·have e:iY m=[(Nat.digitChar m).toNat]:=by unfold iY;rw[Nat.toDigits_of_lt_base h];rfl
   rw[e]at h0 ⊢;rw[bG h0]
  ·have hm:m%10<10:=Nat.mod_lt m (by decide);have t:Nat.toDigits 10 (m / 10)++Nat.toDigits 10 (m%10)=Nat.toDigits 10 (10*(m / 10)+m%10):=Nat.toDigits_append_toDigits (by decide) (by lia) hm;rw[Nat.div_add_mod]at t;have e:iY m=iY (m / 10)++iY (m%10):=by unfold iY;rw[<-t,aA]
   rw[e]at h0;have h1:(iY<|m / 10).head?=some 48:=by cases q:iY (m / 10)with|nil=>exact absurd q (D4 _)|cons a b=>rw[q]at h0;exact h0
   have h2:=ih (m / 10) (by lia) h1;have h3:=C8<|m / 10;rw[h2]at h3;have:Hs [48]=0:=rfl;lia
def Ht{n:Nat}(h:n<10 ^ 12):ET (iY n):=⟨D4 n,MK,AJ h,OP n⟩
def Mm{n:Nat}(h:n<10 ^ 12):X7 n 0 0 (NQ<|iY n):=by
 have v:=Rv<|Ht h;unfold NQ;rw[ak v.1,ak v.2,C8];by_cases h0:(n:Int)=0;·rw[ar h0];exact⟨⟨.inl rfl,λr hr=>nomatch hr⟩,λa e=>by rw[h0];simp[eT]⟩
 ·rw[ak h0];exact⟨⟨.inr ⟨[],[(n:Int)],rfl,by simp⟩,λr hr=>by rw[aP.mp hr];exact za (r:=[]) h0⟩,λa e=>by
   unfold eT;rcases e with _ |e;·rcases a with _ |a<;>simp
   ·simp⟩
def X7.pow(h:X7 1 i k B):∀d,X7 1 (d*i) (d*k) (Fy B d)|0=>by rw[Nat.zero_mul,Nat.zero_mul];exact Ml|d+1=>((h.pow d).mul h).cast (by lia) (by rw[BG])<|by rw[BG]
def X7.zE1{d:Nat}(h:X7 1 i k B)(hi:i<=1)(hk:k<=1)(hd:d<=9):Nt B d:=⟨λj hj=>((h.pow j).fit (n:=10) (by have:=Xp j hi;lia)<|by have:=Xp j hk;lia).sm<|by decide,(h.fit (n:=2) (by lia)<|by lia).sm<|by decide,h.lim<|by decide⟩
def FM(f:qH)(c:Int)(i k:Nat):Prop:=jb R1 f/\f.X4=0/\c.natAbs<2 ^ 63/\∃B,X7 c i k B/\∀st,Runs (Ix f) st<|st++[B]
inductive ZW:List qH->Int->Nat->Nat->Prop where
 |nil:ZW [] 1 0 0
 |cons {f:qH} {fs:List qH} {c c':Int} {i i' k k':Nat}:FM f c i k->ZW fs c' i' k'->ZW (f::fs) (c*c') (i+i') (k+k')
def ZW.cast{c':Int}{i' k':Nat}{fs:List qH}(h:ZW fs c i k)(e1:c=c')(e2:i=i')(e3:k=k'):ZW fs c' i' k':=by subst e1;subst e2;subst e3;exact h
def pI(c n:Nat):List qH:=if n=0 then []else if n=1 then [⟨0,[[c]],[[c]],none⟩]else [⟨0,[[c]],[[c]],some n⟩]
def kc(n i k:Nat):List qH:=(if n≠1\/(i=0/\k=0)then [⟨0,[iY n],[iY n],none⟩]else [])++(pI 120 i++pI 121 k)
def JR(f:qH):bH:=f.zB9.flatten++(match f.pow with |none=>[] |some d=>[94,48+d])
def Db(c n:Nat):(pI c n).map JR=eE c n:=by
 unfold pI eE;split;·rfl
 ·split<;>rfl
def Jn(n i k:Nat):(kc n i k).map JR=mR n i k:=by
 unfold kc mR;rw[aA,aA,Db,Db];split;·simp[JR]
 ·rfl
def R7{n:Nat}(h:n<10 ^ 12):FM ⟨0,[iY n],[iY n],none⟩ n 0 0:=⟨⟨bB _,.inl ⟨_,.inl<|Ht h,rfl,rfl⟩,λd e=>by cases e⟩,rfl,by rw[Int.natAbs_natCast];exact tG h<|by decide,_,Mm h,λst=>.cons (.atom<|.inl<|Ht h) .nil⟩
def R8{c:Nat}{B:Bd}(hc:Yq [c])(e:NQ [c]=B)(m:X7 1 i k B):FM ⟨0,[[c]],[[c]],none⟩ 1 i k:=⟨⟨bB _,.inl ⟨_,hc,rfl,rfl⟩,λd e=>by cases e⟩,rfl,by decide,B,m,λst=>by have:=Ym.atom (st:=st) hc;rw[e]at this;exact .cons this .nil⟩
def R6{c d:Nat}{B:Bd}(hc:Yq [c])(e:NQ [c]=B)(m:X7 1 i k B)(hi:i<=1)(hk:k<=1)(hd:d<=8):FM ⟨0,[[c]],[[c]],some d⟩ 1 (d*i) (d*k):=⟨⟨bB _,.inl ⟨_,hc,rfl,rfl⟩,λd' e=>by cases e;lia⟩,rfl,by decide,_,m.pow d,λst=>by have:=Ym.atom (st:=st) hc;rw[e]at this;exact .cons this<|.cons (.pow (m.zE1 hi hk<|by lia)<|by lia) .nil⟩
def Jm{c n:Nat}{B:Bd}(hc:Yq [c])(e:NQ [c]=B)(m:X7 1 i k B)(hi:i<=1)(hk:k<=1)(hn:n<=8):ZW (pI c n) 1 (n*i) (n*k):=by
 unfold pI;split;·rename_i h;subst h;exact ZW.nil.cast rfl (by lia)<|by lia
 ·split;·rename_i h;subst h;exact(ZW.cons (R8 hc e m) .nil).cast rfl (by lia)<|by lia
  ·exact(ZW.cons (R6 hc e m hi hk hn) .nil).cast rfl (by lia)<|by lia
def ZW.app{fs gs:List qH}(h:ZW fs c i k)(g:ZW gs c' i' k'):ZW (fs++gs) (c*c') (i+i') (k+k'):=by induction h with|nil=>exact g.cast (by lia) (by lia) (by lia)|cons f _ ih=>exact(ZW.cons f ih).cast (GV _ _ _).symm (by lia)<|by lia
def rL{n i k:Nat}(hn:n<10 ^ 12)(hi:i<=8)(hk:k<=8):ZW (kc n i k) n i k:=by
 have hx:=Jm (.inr<|.inl rfl) (show NQ [120]=[[0,1]]from rfl) RB (by decide) (by decide) hi;have hy:=Jm (.inr<|.inr rfl) (show NQ [121]=[[],[1]]from rfl) RA (by decide) (by decide) hk;have hxy:=hx.app hy;unfold kc;split;·exact((ZW.cons (R7 hn) .nil).app hxy).cast (by lia) (by lia)<|by lia
 ·rename_i h;have h1:n=1:=Tf λz=>h<|.inl z;subst h1;exact hxy.cast rfl (by lia)<|by lia
def zk(n i k:Nat):∃f fs,kc n i k=f::fs:=by
 unfold kc;split;·exact⟨_,_,rfl⟩
 ·rename_i h;unfold pI;by_cases h1:i=0
  ·by_cases h2:k=0;·exact absurd (.inr ⟨h1,h2⟩) h
   ·rw[ar h1,ak h2];split<;>exact⟨_,_,rfl⟩
  ·rw[ak h1];split<;>exact⟨_,_,rfl⟩
def LH{fs:List qH}(h:ZW fs c i k):∀{A:Bd}{c0:Int}{i0 k0:Nat},X7 c0 i0 k0 A->i0+i<=8->k0+k<=8->∃B,X7 (c0*c) (i0+i) (k0+k) B/\∀st,Runs (jm fs) (st++[A]) (st++[B]):=by
 induction h with
 |nil=>intro A c0 i0 k0 m _ _;exact⟨A,m.cast (by lia) (by lia)<|by lia,λst=>.nil⟩
 |@cons f fs c c' i i' k k' hf _ ih=>
  intro A c0 i0 k0 m hi hk;obtain⟨ok,hm,hc,B,mB,rB⟩:=hf;have mm:=m.mul mB;obtain⟨B',mB',rB'⟩:=ih mm (by lia) (by lia);refine⟨B',mB'.cast (GV _ _ _) (by lia)<|by lia,λst=>?_⟩;have s1:Fq f=Ix f:=by unfold Fq;rw[hm];exact aV _
  show Runs (Fq f++([42]::jm fs)) _ _;rw[s1];exact(rB<|st++[A]).app<|.cons (.mul ((m.fit (n:=9) (by lia)<|by lia).sm<|by decide) ((mB.fit (n:=9) (by lia)<|by lia).sm<|by decide)<|mB.lim hc)<|rB' st
def l9(m:Nat):List qH->Im|[]=>(⟨0,[[48]],[[48]],none⟩,[])|f::fs=>({f with X4:=m},fs)
def IG{fs:List qH}(h:ZW fs c i k)(ZT:fs≠[])(hi:i<=8)(hk:k<=8)(m:Nat)(hm:m<=1):∃B,X7 (if m=1 then-c else c) i k B/\t9 R1 (l9 m fs)/\(∀f∈(l9 m fs).2,f.X4=0)/\∀st,Runs (Fl<|l9 m fs) st (st++[B]):=by
 cases h with
 |nil=>exact absurd rfl ZT
 |@cons f fs c c' i i' k k' hf hfs=>
  obtain⟨ok,hm0,hc,B,mB,rB⟩:=hf;have all:∀g∈fs,jb R1 g/\g.X4=0:=by
   clear hi hk ZT;induction hfs with
   |nil=>intro g hg;cases hg
   |cons hf _ ih=>
    intro g hg;rcases ax.mp hg with rfl |hg;·exact⟨hf.1,hf.2.1⟩
    ·exact ih g hg
  have okm:t9 R1 (l9 m<|f::fs):=⟨⟨by show m<=20;lia,ok.2.1,ok.2.2⟩,λg hg=>(all g hg).1⟩;by_cases h1:m=1;·subst h1;obtain⟨B',mB',rB'⟩:=LH hfs mB.neg (by lia) (by lia);refine⟨B',mB'.cast (by rw[ar rfl,Int.neg_mul]) rfl rfl,okm,λg hg=>(all g hg).2,λst=>?_⟩;show Runs ((Ix f++[[109,105,110,117,115]])++jm fs) _ _;exact((rB st).app<|.cons (.neg<|(mB.fit (n:=9) (by lia)<|by lia).sm<|by decide) .nil).app<|rB' st
  ·have h0:m=0:=by lia
   subst h0;obtain⟨B',mB',rB'⟩:=LH hfs mB (by lia) (by lia);refine⟨B',mB'.cast (by rw[ak h1]) rfl rfl,okm,λg hg=>(all g hg).2,λst=>?_⟩;show Runs ((Ix f++[])++jm fs) _ _;rw[aV];exact(rB st).app<|rB' st
def lY(p:Pr):Bool:=decide (¬p.1<0)
def G0:List Pr->PQ|[]=>((⟨0,[[48]],[[48]],none⟩,[]),[])|p::ps=>(l9 (if p.1<0 then 1 else 0)<|kc p.1.natAbs p.2.1 p.2.2,ps.map λq=>(lY q,l9 0<|kc q.1.natAbs q.2.1 q.2.2))
def vS(ps:List Pr)(a e:Nat):Int:=(ps.map λp=>if a=p.2.1/\e=p.2.2 then p.1 else 0).sum
def Lh(ps qs:List Pr)(a e:Nat):vS (ps++qs) a e=vS ps a e+vS qs a e:=by unfold vS;rw[aA,fm]
def Hd:∀(ps:List Pr),(∀p∈ps,uw p)->∀{A:Bd},XA A->(∀a e,9<=a\/9<=e->eT A a e=0)->∃B,XA B/\(∀a e,eT B a e=eT A a e+vS ps a e)/\(∀q∈ps.map λq=>(lY q,l9 0<|kc q.1.natAbs q.2.1 q.2.2),t9 R1 q.2)/\∀st,Runs (kK (ps.map λq=>(lY q,l9 0<|kc q.1.natAbs q.2.1 q.2.2))) (st++[A]) (st++[B])
 |[],_,A,hA,_=>⟨A,hA,λa e=>by simp[vS],(λq hq=>nomatch hq),λst=>.nil⟩
 |p::ps,hp,A,hA,hz=>by
  obtain⟨h1,h2,h3⟩:=hp p (by simp);obtain⟨f,fs,ef⟩:=zk p.1.natAbs p.2.1 p.2.2;obtain⟨B,mB,okB,_,rB⟩:=IG (rL h1 h2 h3) (by rw[ef];exactλz=>nomatch z) h2 h3 0 (by decide);rw[ak<|by decide]at mB;have sA:Yy 1000 A:=(Ei hA hz).sm (by decide);have sB:Yy 1000 B:=(mB.fit (n:=9) (by lia)<|by lia).sm (by decide);have zB:∀a e,9<=a\/9<=e->eT B a e=0:=λa e q=>by rw[mB.cf,ak<|by lia]
  by_cases h0:p.1<0
  ·obtain⟨C,hC,cC,oC,rC⟩:=Hd ps (λq hq=>hp q<|by simp[hq]) (A:=mJ A<|v9 B) (vo _ _) (λa e q=>by rw[ju,tj,hz a e q,zB a e q];rfl);refine⟨C,hC,λa e=>?_,λq hq=>?_,λst=>?_⟩;·rw[cC,ju,tj,mB.cf];show _=_+((if a=p.2.1/\e=p.2.2 then p.1 else 0)+vS ps a e);split<;>lia
   ·rcases ax.mp hq with rfl |hq;·exact okB
    ·exact oC q hq
   ·show Runs (Fl (l9 0<|kc p.1.natAbs p.2.1 p.2.2)++(BP (lY p)::_)) _ _;rw[show BP (lY p)=[45]by unfold lY BP;simp[h0]];exact(rB<|st++[A]).app<|.cons (.sub sA sB)<|rC st
  ·obtain⟨C,hC,cC,oC,rC⟩:=Hd ps (λq hq=>hp q<|by simp[hq]) (A:=mJ A B) (vo _ _) (λa e q=>by rw[ju,hz a e q,zB a e q];rfl);refine⟨C,hC,λa e=>?_,λq hq=>?_,λst=>?_⟩;·rw[cC,ju,mB.cf];show _=_+((if a=p.2.1/\e=p.2.2 then p.1 else 0)+vS ps a e);split<;>lia
   ·rcases ax.mp hq with rfl |hq;·exact okB
    ·exact oC q hq
   ·show Runs (Fl (l9 0<|kc p.1.natAbs p.2.1 p.2.2)++(BP (lY p)::_)) _ _;rw[show BP (lY p)=[43]by unfold lY BP;simp;lia];exact(rB<|st++[A]).app<|.cons (.add sA sB)<|rC st
def Om{p:Pr}{ps:List Pr}(hp:∀q∈p::ps,uw q):∃B,XA B/\(∀a e,eT B a e=vS (p::ps) a e)/\qG R1 (G0<|p::ps)/\Runs (Ag<|G0<|p::ps) [] [B]:=by
 obtain⟨h1,h2,h3⟩:=hp p (by simp);obtain⟨f,fs,ef⟩:=zk p.1.natAbs p.2.1 p.2.2;obtain⟨B,mB,okB,_,rB⟩:=IG (rL h1 h2 h3) (by rw[ef];exactλz=>nomatch z) h2 h3 (if p.1<0 then 1 else 0) (by split<;>decide);obtain⟨C,hC,cC,oC,rC⟩:=Hd ps (λq hq=>hp q<|by simp[hq]) mB.ok (λa e q=>by rw[mB.cf,ak<|by lia]);refine⟨C,hC,λa e=>?_,⟨okB,oC⟩,(rB []).app<|rC []⟩;rw[cC,mB.cf];show _=(if a=p.2.1/\e=p.2.2 then p.1 else 0)+vS ps a e;by_cases q:a=p.2.1/\e=p.2.2
 ·rw[ar q,ar q];by_cases h0:p.1<0;·simp[h0];lia
  ·simp[h0];lia
 ·rw[ak q,ak q]
def Lf(r:be)(k a e:Nat):∀t,t<=r.length->vS (uj r k t) a e=if e=k/\r.length-t<=a then r.getD a 0 else 0
 |0,_=>by
  rw[show uj r k 0=[]from rfl];show(0:Int)=_;split;·rename_i h;rw[List.getD_eq_getElem?_getD,List.getElem?_eq_none<|by lia];rfl
  ·rfl
 |t+1,ht=>by
  rw[wV,Lh,Lf r k a e t<|by lia];have e1:vS (if r.getD (r.length-1-t) 0≠0 then [(r.getD (r.length-1-t) 0,r.length-1-t,k)]else []) a e=if a=r.length-1-t/\e=k then r.getD (r.length-1-t) 0 else 0:=by
   split;·simp[vS]
   ·rename_i h;rw[Classical.not_not.mp h];simp[vS]
  rw[e1];by_cases h1:e=k
  ·by_cases h2:a=r.length-1-t;·rw[ak<|by lia,ar ⟨h2,h1⟩,ar ⟨h1,by lia⟩,h2];lia
   ·rw[ak (c:=a=r.length-1-t/\e=k) λz=>h2 z.1];by_cases h3:r.length-t<=a;·rw[ar ⟨h1,h3⟩,ar ⟨h1,by lia⟩];lia
    ·rw[ak λz=>h3 z.2,ak<|by lia];rfl
  ·rw[ak λz=>h1 z.1,ak λz=>h1 z.2,ak λz=>h1 z.1];rfl
def Lg(b:Bd)(a e:Nat):∀t,t<=b.length->vS (Zg b t) a e=if b.length-t<=e then eT b a e else 0
 |0,_=>by
  rw[show Zg b 0=[]from rfl];show(0:Int)=_;split;·rename_i h;unfold eT;rw[List.getD_eq_getElem?_getD (l:=b),List.getElem?_eq_none<|by lia];simp
  ·rfl
 |t+1,ht=>by
  rw[vn,Lh,Lg b a e t<|by lia,Lf _ _ _ _ _<|aj _];by_cases h1:e=b.length-1-t;·rw[ak<|by lia,ar ⟨h1,by lia⟩,ar<|by lia,h1];show(0:Int)+eT b a _=_;lia
  ·rw[ak (c:=e=b.length-1-t/\_) λz=>h1 z.1];by_cases h3:b.length-t<=e;·rw[ar h3,ar<|by lia];lia
   ·rw[ak h3,ak<|by lia];rfl
def QE(b:Bd)(a e:Nat):vS (xZ b) a e=eT b a e:=by unfold xZ;rw[Lg b a e b.length<|aj _,ar<|by lia]
def Hn(cs:bH):Prop:=∀c,cs.head?=some c->al c=false
def UG:al 42=false:=by decide
def Wf:al 43=false:=by decide
def UF:al 45=false:=by decide
def UD:al 94=false:=by decide
def Hn.of{c:Nat}(h:al c=false):Hn (c::cs):=λd e=>by cases e;exact h
def DT{st:TK}(h:R1 tk st):∃u,Yq u/\tk=[u]/\st=[u]:=by
 rcases h with h |⟨T,h,_⟩;·exact h
 ·exact h.1.1.2.1.elim
def Qo{f:qH}{ts:List bH}(hf:jb R1 f)(hc:Hn cs)(h:Lex cs ts):Lex (JR f++cs) (DG f++ts):=by obtain⟨m,tk,st,po⟩:=f;obtain⟨_,hu,hp⟩:=hf;obtain⟨u,hw,e1,e2⟩:=DT hu;have e1:tk=[u]:=e1;subst e1;cases po with|none=>show Lex (((u++[])++[])++cs) (u::ts);rw[aV,aV];exact .run hw.v hc h|some d=>have hd:=hp d rfl;show Lex (((u++[])++[94,48+d])++cs) (u::([94]::([48+d]::ts)));rw[aV,az];refine .run hw.v (Hn.of UD)<|.sign UD (by decide) (.inl<|by decide) ?_;exact .run (.inl ⟨by simp,λc hc=>by simp at hc;lia,by simp,λe=>by simp at e;simp[e]⟩) hc h
def Mt{ts:List bH}(hc:Hn cs)(h:Lex cs ts):∀fs:List qH,(∀f∈fs,jb R1 f)->(∀f∈fs,f.X4=0)->Lex ((fs.map JR).flatMap (λv=>42::v)++cs) (fS fs++ts)/\Hn ((fs.map JR).flatMap (λv=>42::v)++cs)
 |[],_,_=>⟨h,hc⟩
 |f::fs,h1,h2=>by
  obtain⟨a,b⟩:=Mt hc h fs (λg hg=>h1 g<|by simp[hg]) λg hg=>h2 g (by simp[hg]);refine⟨?_,Hn.of UG⟩;have e:fS (f::fs)++ts=[42]::(DG f++(fS fs++ts)):=by show[42]::(BI f++fS fs)++ts=_;unfold BI;rw[h2 f<|by simp];simp
  rw[e];show Lex (42::(JR f++(fs.map JR).flatMap (λv=>42::v))++cs) _;rw[List.cons_append,az];exact .sign UG (by decide) (.inl<|by decide)<|Qo (h1 f<|by simp) b a
def I9{ts:List bH}(hc:Hn cs)(h:Lex cs ts){f:qH}{fs:List qH}(h1:jb R1 f)(h2:∀g∈fs,jb R1 g)(h3:∀g∈fs,g.X4=0):Lex (A6 ((f::fs).map JR)++cs) (DG f++(fS fs++ts)):=by obtain⟨a,b⟩:=Mt hc h fs h2 h3;show Lex ((JR f++(fs.map JR).flatMap λv=>42::v)++cs) _;rw[az];exact Qo h1 b a
def HG{fs:List qH}(h:ZW fs c i k):∀g∈fs,jb R1 g/\g.X4=0:=by
 induction h with
 |nil=>intro g hg;cases hg
 |cons hf _ ih=>
  intro g hg;rcases ax.mp hg with rfl |hg;·exact⟨hf.1,hf.2.1⟩
  ·exact ih g hg
def Ms{ts:List bH}(hc:Hn cs)(hl:Lex cs ts):∀ps:List Pr,(∀p∈ps,uw p)->Lex ((ps.flatMap λq=>uh q++jX q)++cs) (gZ (ps.map λq=>(lY q,l9 0<|kc q.1.natAbs q.2.1 q.2.2))++ts)/\Hn ((ps.flatMap λq=>uh q++jX q)++cs)
 |[],_=>⟨hl,hc⟩
 |p::ps,hp=>by
  obtain⟨a,b⟩:=Ms hc hl ps λq hq=>hp q (by simp[hq]);obtain⟨h1,h2,h3⟩:=hp p (by simp);have ok:=HG<|rL h1 h2 h3;obtain⟨f,fs,ef⟩:=zk p.1.natAbs p.2.1 p.2.2;have eg:jX p=A6 ((f::fs).map JR):=by unfold jX;rw[<-Jn,ef]
  rw[ef]at ok;have l:=I9 (fs:=fs) b a (ok f<|by simp).1 (λg hg=>(ok g<|by simp[hg]).1) λg hg=>(ok g<|by simp[hg]).2;have hm:=(ok f<|by simp).2;have et:gZ ((p::ps).map λq=>(lY q,l9 0<|kc q.1.natAbs q.2.1 q.2.2))++ts=BP (lY p)::(DG f++(fS fs++(gZ (ps.map λq=>(lY q,l9 0<|kc q.1.natAbs q.2.1 q.2.2))++ts))):=by show BP (lY p)::(DH (l9 0<|kc p.1.natAbs p.2.1 p.2.2)++_)++ts=_;rw[ef];show BP (lY p)::((([]++DG f)++fS fs)++_)++ts=_;simp
  rw[et,jl,eg,az,az];unfold uh;by_cases h0:p.1<0;·rw[ar h0,show BP (lY p)=[45]by unfold lY BP;simp[h0]];exact⟨.sp<|.sign UF (by decide) (.inl<|by decide)<|.sp l,Hn.of Nm⟩
  ·rw[ak h0,show BP (lY p)=[43]by unfold lY BP;simp;lia];exact⟨.sp<|.sign Wf (by decide) (.inl<|by decide)<|.sp l,Hn.of Nm⟩
def OS{ts:List bH}(hc:Hn cs)(hl:Lex cs ts){p:Pr}{ps:List Pr}(hp:∀q∈p::ps,uw q):Lex (jT (p::ps)++cs) (qB (G0<|p::ps)++ts):=by
 obtain⟨a,b⟩:=Ms hc hl ps λq hq=>hp q (by simp[hq]);obtain⟨h1,h2,h3⟩:=hp p (by simp);have ok:=HG<|rL h1 h2 h3;obtain⟨f,fs,ef⟩:=zk p.1.natAbs p.2.1 p.2.2;have eg:jX p=A6 ((f::fs).map JR):=by unfold jX;rw[<-Jn,ef]
 rw[ef]at ok;have l:=I9 (fs:=fs) b a (ok f<|by simp).1 (λg hg=>(ok g<|by simp[hg]).1) λg hg=>(ok g<|by simp[hg]).2;show Lex (((rG p++jX p)++(ps.flatMap λq=>uh q++jX q))++cs) ((DH (l9 (if p.1<0 then 1 else 0)<|kc p.1.natAbs p.2.1 p.2.2)++gZ (ps.map λq=>(lY q,l9 0<|kc q.1.natAbs q.2.1 q.2.2)))++ts);rw[ef,eg,az,az,az];unfold rG;by_cases h0:p.1<0;·rw[ar h0,ar h0];show Lex (45::_) ((([[45]]++DG f)++fS fs)++_);rw[az,az];exact .sign UF (by decide) (.inl<|by decide) l
 ·rw[ak h0,ak h0];show Lex _ ((([]++DG f)++fS fs)++_);rw[az];exact l
def K3(u:bH):Prop:=(∀x∈u,x<128)/\u≠[40]/\u≠[41]/\u≠[91]/\u≠[93]
def OM(h:Yq u):K3 u:=by
 have key:∀c,c<48\/(57<c/\c≠120/\c≠121)->u≠[c]:=λc hc e=>by
  subst e;rcases h with h |h |h;·have:=h.2.1 c<|aP.mpr rfl;lia
  ·cases h;lia
  ·cases h;lia
 exact⟨h.lt,key 40<|by decide,key 41<|by decide,key 91<|by decide,key 93<|by decide⟩
def TX{f:qH}(h:jb R1 f):∀u∈DG f,K3 u:=λu hu=>by
 obtain⟨v,hv,e1,e2⟩:=DT h.2.1;unfold DG at hu;rw[e1]at hu;rcases ax.mp hu with rfl |hu;·exact OM hv
 ·obtain⟨m,a,a',po⟩:=f;cases po with
  |none=>cases hu
  |some d=>
   have:=h.2.2 d rfl;simp[Fw]at hu;rcases hu with rfl |rfl;·exact⟨by decide,by decide,by decide,by decide,by decide⟩
   ·exact⟨λx hx=>by simp at hx;lia,by simp;lia,by simp;lia,by simp;lia,by simp;lia⟩
def Qk{f:qH}(h:jb R1 f):∀u∈BI f,K3 u:=λu hu=>by
 rcases aL.mp hu with hu |hu;·rw[(List.mem_replicate.mp hu).2];exact⟨by decide,by decide,by decide,by decide,by decide⟩
 ·exact TX h u hu
def Mh:∀{fs:List qH},(∀f∈fs,jb R1 f)->∀u∈fS fs,K3 u
 |[],_,u,hu=>nomatch hu
 |f::fs,h,u,hu=>by
  rcases ax.mp hu with rfl |hu;·exact⟨by decide,by decide,by decide,by decide,by decide⟩
  ·rcases aL.mp hu with hu |hu;·exact Qk (h f<|by simp) u hu
   ·exact Mh (λg hg=>h g<|by simp[hg]) u hu
def Qj{p:Im}(h:t9 R1 p):∀u∈DH p,K3 u:=λu hu=>by
 rcases aL.mp hu with hu |hu;·exact Qk h.1 u hu
 ·exact Mh h.2 u hu
def Mg:∀{qs:List (Bool×Im)},(∀q∈qs,t9 R1 q.2)->∀u∈gZ qs,K3 u
 |[],_,u,hu=>nomatch hu
 |q::qs,h,u,hu=>by
  rcases ax.mp hu with rfl |hu;·unfold BP;split<;>exact⟨by decide,by decide,by decide,by decide,by decide⟩
  ·rcases aL.mp hu with hu |hu;·exact Qj (h q<|by simp) u hu
   ·exact Mg (λg hg=>h g<|by simp[hg]) u hu
def TY(h:qG R1 t):∀u∈qB t,K3 u:=λu hu=>by
 rcases aL.mp hu with hu |hu;·exact Qj h.1 u hu
 ·exact Mg h.2 u hu
def tf{o c:bH}:∀{ts:List bH},(∀u∈ts,u≠o/\u≠c)->iE o c ts=0|[],_=>rfl|u::ts,h=>by have:=h u (by simp);rw[iE,tf λv hv=>h v<|by simp[hv],ao λz=>this.1<|e9 z,ao λz=>this.2<|e9 z];rfl
def IC{f:qH}(h:R1 f.zB9 f.ast):(Fq f).length<=3:=by obtain⟨v,hv,e1,e2⟩:=DT h;obtain⟨m,a,a',po⟩:=f;have e2:a'=[v]:=e2;subst e2;unfold Fq Ix NI;cases po<;>(dsimp[Fx];split<;>simp)
def Fm:∀fs:List qH,(∀f∈fs,jb R1 f)->(jm fs).length<=4*fs.length|[],_=>aj _|f::fs,h=>by have:=Fm fs λg hg=>h g (by simp[hg]);have:=IC (h f<|by simp).2.1;show(Fq f++([42]::jm fs)).length<=_;rw[ac,aS,aS];lia
def F7(n i k:Nat):(kc n i k).length<=3:=by
 have h:∀c n,(pI c n).length<=1:=λc n=>by unfold pI;split<;>(try split)<;>simp
 have:=h 120 i;have:=h 121 k;unfold kc;rw[ac,ac];split<;>simp<;>lia
def IA(m:Nat){fs:List qH}(h:fs.length<=3)(hk:∀f∈fs,jb R1 f):(Fl<|l9 m fs).length<=11:=by unfold Fl;cases fs with|nil=>exact cF rfl|cons f fs=>have:=Fm fs λg hg=>hk g (by simp[hg]);have:=IC (f:={f with X4:=m}) (hk f<|by simp).2.1;rw[ac];simp at h;show(Fq {f with X4:=m}).length+(jm fs).length<=11;lia
def Jo{p:Pr}(h:uw p):∀f∈kc p.1.natAbs p.2.1 p.2.2,jb R1 f:=λf hf=>(HG (rL h.1 h.2.1 h.2.2) f hf).1
def Fk:∀ps:List Pr,(∀p∈ps,uw p)->(kK (ps.map λq=>(lY q,l9 0<|kc q.1.natAbs q.2.1 q.2.2))).length<=12*ps.length|[],_=>aj _|p::ps,h=>by have:=Fk ps λq hq=>h q (by simp[hq]);have:=IA 0 (F7 p.1.natAbs p.2.1 p.2.2)<|Jo<|h p (by simp);show(Fl (l9 0<|kc p.1.natAbs p.2.1 p.2.2)++(BP (lY p)::_)).length<=_;rw[ac,aS,aS];lia
def N8{p:Pr}{ps:List Pr}(h:∀q∈p::ps,uw q):(Ag<|G0<|p::ps).length<=12*(ps.length+1):=by have:=Fk ps λq hq=>h q (by simp[hq]);have:=IA (if p.1<0 then 1 else 0) (F7 p.1.natAbs p.2.1 p.2.2)<|Jo<|h p (by simp);show(Fl (l9 _<|kc p.1.natAbs p.2.1 p.2.2)++kK (ps.map λq=>(lY q,l9 0<|kc q.1.natAbs q.2.1 q.2.2))).length<=_;rw[ac];lia
structure Wj(b:Bd)(T:PQ):Prop where
 lex:∀cs ts,Hn cs->Lex cs ts->Lex (Fp b++cs) (qB T++ts)
 toks:∀u∈qB T,K3 u
 ok:qG R1 T
 len:(Ag T).length<=12*((xZ b).length+1)
 run:Runs (Ag T) [] [b]
 lt:∀c∈Fp b,c<128
def Rx:ET [48]:=⟨by simp,λc hc=>by simp at hc;lia,by simp,λ_=>rfl⟩
def CT(h:SB b)(hb:XA b):∃T,Wj b T:=by
 have hp:=h.Zg b.length;have hp':∀p∈xZ b,uw p:=hp;have hv:=QE b;have X3:=DM hp';cases e:xZ b with
 |nil=>
  rw[e]at hv;have hz:b=[]:=oR hb ⟨.inl rfl,λr hr=>nomatch hr⟩ λi k=>by rw[<-hv];rfl
  have es:Fp b=[48]:=by unfold Fp;rw[e];rfl
  refine⟨G0 [],λcs ts hc hl=>?_,?_,?_,?_,?_,?_⟩;·rw[es];exact .run (.inl Rx) hc hl
  ·intro u hu;simp[G0,qB,DH,BI,DG,fS,gZ,Fw,l9]at hu;subst hu;exact⟨by decide,by decide,by decide,by decide,by decide⟩
  ·exact⟨⟨⟨bB _,.inl ⟨[48],.inl Rx,rfl,rfl⟩,λd e=>by cases e⟩,λf hf=>nomatch hf⟩,λq hq=>nomatch hq⟩
  ·exact aJ (m:=12) (by decide)<|by lia
  ·rw[hz];exact .cons (Ym.atom<|.inl Rx) .nil
  ·rw[es];decide
 |cons p ps=>
  rw[e]at hv X3 hp';have es:Fp b=jT (p::ps):=by unfold Fp;rw[e,ak λz=>by have:=zAU.mp z;cases this]
  obtain⟨B,okB,cB,tB,rB⟩:=Om hp';have eB:b=B:=oR hb okB λi k=>by rw[cB,hv]
  refine⟨G0<|p::ps,λcs ts hc hl=>by rw[es];exact OS hc hl hp',TY tB,tB,?_,by rw[eB];exact rB,by rw[es];exact X3⟩;have:=N8 hp';rw[e,aS];lia
def Lx{f:qH}(h:R1 f.zB9 f.ast):(Fq f).length<=(BI f).length:=by obtain⟨v,hv,e1,e2⟩:=DT h;obtain⟨m,a,a',po⟩:=f;have e1:a=[v]:=e1;have e2:a'=[v]:=e2;subst e1;subst e2;unfold Fq Ix NI BI DG;cases po<;>(dsimp[Fx,Fw];split<;>simp<;>lia)
def IB:∀fs:List qH,(∀f∈fs,jb R1 f)->(jm fs).length<=(fS fs).length|[],_=>aj _|f::fs,h=>by have:=IB fs λg hg=>h g (by simp[hg]);have:=Lx (h f<|by simp).2.1;simp[jm,fS];lia
def Lw{p:Im}(h:t9 R1 p):(Fl p).length<=(DH p).length:=by have:=Lx h.1.2.1;have:=IB p.2 h.2;simp[Fl,DH];lia
def Iz:∀qs:List (Bool×Im),(∀q∈qs,t9 R1 q.2)->(kK qs).length<=(gZ qs).length|[],_=>aj _|q::qs,h=>by have:=Iz qs λg hg=>h g (by simp[hg]);have:=Lw<|h q (by simp);simp[kK,gZ];lia
def Lv(h:qG R1 t):(Ag t).length<=(qB t).length:=by have:=Lw h.1;have:=Iz t.2 h.2;simp[Ag,qB];lia
def DJ(ps:List pP):(dy ps).length<=(cD ps).length:=by
 induction ps with
 |nil=>exact aj _
 |cons p ps ih=>
  have:(NG p).length≥1:=by cases p<;>simp[NG]
  simp[dy,cD]at ih ⊢;lia
def Ha:∀{c:qf},ky R1 c->(wM c).length<=(nz c).length|.cmp x,h=>by have:=Lv (show qG R1 x.1 from h.1);have:=Lv (show qG R1 x.2.2 from h.2.2);simp[wM,nz,E1,G5];lia|.two a p c q e,h=>by have:=Ha (show ky R1 c from h.2.2.1);have:=Ha (show ky R1 e from h.2.2.2);have:=DJ p;have:=DJ q;simp[wM,nz];lia
def QP{Y:List pP×qf}(h:JM R1 Y):(Lu Y).length<=(Iu Y).length:=by have:=Ha h.2;have:=DJ Y.1;simp[Lu,Iu];lia
inductive Sg where
 |is (b:Bd) (p:bH×be) |neg (s:Sg) |qu (a l:Bool) (s:Sg) |two (a:Bool) (s t:Sg)
def dS:Sg->D
 |.is b p=>VW b p.2|.neg s=>WM<|dS s
 |.qu a l s=>WK a l (dS s)|.two a s t=>WH a (dS s)<|dS t
def ka:Sg->bH
 |.is b p=>Fp b++(32::(p.1++[32,48]))|.neg s=>qN++(32::ka s)
 |.qu a l s=>qw a++(32::(lw l++(32::ka s)))|.two a s t=>91::(ka s++(32::(aw a++(32::(ka t++[93])))))
inductive Rd:Sg->List pP->qf->Prop where
 |is {b:Bd} {p:bH×be} {T U:PQ}:Wj b T->Wj [] U->Yy 1000 b->XA b->p∈Yl->Rd (.is b p) [] (.cmp (T,p.1,U))
 |neg {s:Sg} {ps:List pP} {c:qf}:Rd s ps c->Rd (.neg s) (.neg::ps) c
 |qu {a l:Bool} {s:Sg} {ps:List pP} {c:qf}:Rd s ps c->Rd (.qu a l s) (.qu a l::ps) c
 |two {a:Bool} {s t:Sg} {p q:List pP} {c e:qf}:Rd s p c->p.length<=20->Rd t q e->q.length<=20->Rd (.two a s t) [] (.two a p c q e)
def Bk{p:bH×be}(h:p∈Yl):p.1∈tE:=(show∀p∈Yl,p.1∈tE by decide) p h
def Rd.ok(h:Rd s ps c):ky R1 c:=by
 induction h with
 |is hT hU _ _ hp=>exact⟨hT.ok,Bk hp,hU.ok⟩|neg _ ih=>exact ih
 |qu _ ih=>exact ih|two _ h1 _ h2 i1 i2=>exact⟨h1,h2,i1,i2⟩
def KO:al 32=false:=by decide
def We:al 91=false:=by decide
def UE:al 93=false:=by decide
def zAO:al 60=false/\al 61=false/\al 62=false/\al 33=false:=by decide
def D6{u:bH}(h:u∈QC)(hc:Hn cs)(hl:Lex cs ts):Lex (u++cs) (u::ts):=.run (.inr h) hc hl
def RF{g:bH}(h:g∈tE)(hl:Lex cs ts):Lex (g++(32::cs)) (g::ts):=by
 simp only[tE,ax,eM,uJ]at h;rcases h with rfl |rfl |rfl |rfl |rfl |rfl;·exact .sign zAO.1 (by decide) (.inr ⟨.inl rfl,by simp⟩)<|.sp hl
 ·exact .sign zAO.2.1 (by decide) (.inl<|by decide)<|.sp hl
 ·exact .sign zAO.2.2.1 (by decide) (.inr ⟨.inr rfl,by simp⟩)<|.sp hl
 ·exact .dbl (.inl rfl)<|.sp hl
 ·exact .dbl (.inr<|.inl rfl)<|.sp hl
 ·exact .dbl (.inr<|.inr rfl)<|.sp hl
def Of:Fp []=[48]:=by decide
def Rd.lex(h:Rd s ps c):∀{cs:bH}{ts:TK},Hn cs->Lex cs ts->Lex (ka s++cs) (cD ps++(nz c++ts)):=by
 induction h with
 |@is b p T U hT hU _ _ hp=>
  intro cs ts hc hl;have l0:=hU.lex cs ts hc hl;rw[Of]at l0;have l1:=hT.lex (32::(p.1++(32::(48::cs)))) (p.1::(qB U++ts)) (Hn.of KO)<|.sp<|RF (Bk hp) l0;have e1:ka (.is b p)++cs=Fp b++(32::(p.1++(32::(48::cs)))):=by simp[ka]
  have e2:cD []++(nz (.cmp (T,p.1,U))++ts)=qB T++(p.1::(qB U++ts)):=by simp[cD,nz,G5]
  rw[e1,e2];exact l1
 |@neg s ps c _ ih=>
  intro cs ts hc hl;have e1:ka (.neg s)++cs=qN++(32::(ka s++cs)):=by simp[ka]
  have e2:cD (.neg::ps)++(nz c++ts)=qN::(cD ps++(nz c++ts)):=by simp[cD,NG]
  rw[e1,e2];exact D6 (by decide) (Hn.of KO)<|.sp<|ih hc hl
 |@qu a l s ps c _ ih=>
  intro cs ts hc hl;have e1:ka (.qu a l s)++cs=qw a++(32::(lw l++(32::(ka s++cs)))):=by simp[ka]
  have e2:cD (.qu a l::ps)++(nz c++ts)=qw a::(lw l::(cD ps++(nz c++ts))):=by simp[cD,NG]
  rw[e1,e2];exact D6 (by cases a<;>decide) (Hn.of KO)<|.sp<|D6 (by cases l<;>decide) (Hn.of KO)<|.sp<|ih hc hl
 |@two a s t p q c e _ _ _ _ i1 i2=>
  intro cs ts hc hl;have e1:ka (.two a s t)++cs=91::(ka s++(32::(aw a++(32::(ka t++(93::cs)))))):=by simp[ka]
  have e2:cD []++(nz (.two a p c q e)++ts)=[91]::(cD p++(nz c++(aw a::(cD q++(nz e++([93]::ts)))))):=by simp[cD,nz]
  rw[e1,e2];exact .sign We (by decide) (.inl<|by decide)<|i1 (Hn.of KO)<|.sp<|D6 (by cases a<;>decide) (Hn.of KO)<|.sp<|i2 (Hn.of UE)<|.sign UE (by decide) (.inl<|by decide) hl
def TQ(h:XA b):mJ b (v9 [])=b:=oR (vo _ _) h λi k=>by rw[ju,tj];show _+ -(0:Int)=_;lia
def QQ:Yy 1000 []:=WJ
def Rd.run(h:Rd s ps c):∀pre:aU,Yn (wM c++dy ps) pre (pre++[dS s]):=by
 induction h with
 |@is b p T U hT hU hb ok hp=>
  intro pre;have r1:=Yn.term pre hT.run;have r2:=Yn.term (pre++[ay b]) hU.run;have st:YS p.1 (pre++[ay b]++[ay []]) (pre++[VW (mJ b<|v9 []) p.2]):=.cmp hp hb QQ;rw[TQ ok]at st;have e:wM (.cmp (T,p.1,U))++dy []=Ag T++(Ag U++[p.1]):=by simp[wM,E1,dy]
  rw[e];simp at r1 r2;refine r1.app<|Yn.app (by simpa using r2)<|.cons st .nil
 |@neg s ps c _ ih=>
  intro pre;have e:wM c++dy (.neg::ps)=(wM c++dy ps)++[qN]:=by simp[dy,G9]
  rw[e];exact(ih pre).app<|.cons .neg .nil
 |@qu a l s ps c _ ih=>
  intro pre;have e:wM c++dy (.qu a l::ps)=(wM c++dy ps)++[G9<|.qu a l]:=by simp[dy]
  rw[e];exact(ih pre).app<|.cons .qu .nil
 |@two a s t p q c e _ _ _ _ i1 i2=>
  intro pre;have e1:wM (.two a p c q e)++dy []=(wM c++dy p)++((wM e++dy q)++[aw a]):=by simp[wM,dy]
  rw[e1];exact(i1 pre).app<|(i2<|pre++[dS s]).app<|.cons .two .nil
def lX(o c:bH):∀a b:TK,iE o c (a++b)=iE o c a+iE o c b|[],b=>by simp[iE]|u::a,b=>by show iE o c (a++b)+_=iE o c a+_+_;rw[lX o c a b];lia
structure Z7(n:Nat)(ts:TK):Prop where
 all:iE [91] [93] ts=0
 up:∀i,iE [91] [93] (ts.take i)<=n
 none:∀u∈ts,u≠[40]/\u≠[41]
 lt:∀u∈ts,∀x∈u,x<128
def Z7.of{ts:TK}(h:∀u∈ts,K3 u):Z7 0 ts:=⟨tf λu hu=>⟨(h u hu).2.2.2.1,(h u hu).2.2.2.2⟩,λi=>by rw[tf λu hu=>⟨(h u<|cX hu).2.2.2.1,(h u<|cX hu).2.2.2.2⟩];exact Int.le_refl _,λu hu=>⟨(h u hu).2.1,(h u hu).2.2.1⟩,λu hu=>(h u hu).1⟩
def Z7.up'{m:Nat}(h:Z7 n ts)(hm:n<=m):Z7 m ts:=⟨h.all,λi=>by have:=h.up i;lia,h.none,h.lt⟩
def Z7.app(h:Z7 n a)(g:Z7 n b):Z7 n (a++b):=⟨by rw[lX,h.all,g.all];rfl,λi=>by
 rw[yz,lX];by_cases hi:i<=a.length;·rw[show i-a.length=0 by lia,EW];have:=h.up i;simp[iE];lia
 ·rw[c8 (by lia),h.all];have:=g.up (i-a.length);lia,λu hu=>(aL.mp hu).elim (h.none u) (g.none u),λu hu=>(aL.mp hu).elim (h.lt u) (g.lt u)⟩
def JE:iE [91] [93] [[91]]=1:=by decide
def JF:iE [91] [93] [[93]]=-1:=by decide
def Z7.box(h:Z7 n ts):Z7 (n+1) ([91]::(ts++[[93]])):=by
 have e:[91]::(ts++[[93]])=[[91]]++(ts++[[93]]):=rfl;refine⟨by rw[e,lX,lX,h.all,JE,JF];rfl,λi=>?_,λu hu=>?_,λu hu=>?_⟩
 ·cases i with
  |zero=>simp[iE];lia
  |succ i=>
   show iE [91] [93] ([[91]]++(ts++[[93]]).take i)<=_;rw[lX,JE,yz,lX];have h1:=h.up i;by_cases hi:i<=ts.length;·rw[show i-ts.length=0 by lia,EW];simp[iE];lia
   ·rw[c8 (l:=[[93]])<|by simp;lia,JF];lia
 ·simp at hu;rcases hu with rfl |hu |rfl;·decide
  ·exact h.none u hu
  ·decide
 ·simp at hu;rcases hu with rfl |hu |rfl;·decide
  ·exact h.lt u hu
  ·decide
def E3:qf->Nat|.cmp _=>0|.two _ _ c _ e=>max (E3 c) (E3 e)+1
def Mf{u:bH}(h:u∈QC):K3 u:=by revert h;simp only[QC,ax,eM,uJ];rintro(rfl |rfl |rfl |rfl |rfl |rfl |rfl)<;>exact⟨by decide,by decide,by decide,by decide,by decide⟩
def D2{u:bH}(h:u∈tE):K3 u:=by revert h;simp only[tE,ax,eM,uJ];rintro(rfl |rfl |rfl |rfl |rfl |rfl)<;>exact⟨by decide,by decide,by decide,by decide,by decide⟩
def D3:∀ps:List pP,∀u∈cD ps,K3 u
 |[],u,hu=>nomatch hu
 |p::ps,u,hu=>by
  rcases aL.mp hu with hu |hu
  ·refine Mf ?_;cases p with
   |neg=>simp[NG]at hu;subst hu;decide
   |qu a l=>
    simp[NG]at hu;rcases hu with rfl |rfl;·cases a<;>decide
    ·cases l<;>decide
  ·exact D3 ps u hu
def Rd.bal(h:Rd s ps c):Z7 (E3 c) (nz c):=by
 induction h with
 |@is b p T U hT hU _ _ hp=>
  refine Z7.of λu hu=>?_;rcases aL.mp (show u∈qB T++p.1::qB U from hu)with z |z;·exact hT.toks u z
  ·rcases ax.mp z with rfl |z;·exact D2<|Bk hp
   ·exact hU.toks u z
 |neg _ ih=>exact ih|qu _ ih=>exact ih
 |@two a s t p q c e _ _ _ _ i1 i2=>
  have b1:=i1.up'<|Nat.le_max_left (E3 c)<|E3 e;have b2:=i2.up'<|Nat.le_max_right (E3 c)<|E3 e;have bp:=(Z7.of<|D3 p).up'<|bB<|max (E3 c)<|E3 e;have bq:=(Z7.of<|D3 q).up'<|bB<|max (E3 c)<|E3 e;have ba:=(Z7.of (ts:=[aw a]) λu hu=>Mf<|by simp at hu;subst hu;cases a<;>decide).up'<|bB<|max (E3 c)<|E3 e;have:=(bp.app<|b1.app<|ba.app<|bq.app b2).box;have e2:nz (.two a p c q e)=[91]::((cD p++(nz c++([aw a]++(cD q++nz e))))++[[93]]):=by simp[nz]
  rw[e2];exact this
def Rd.deep(h:Rd s ps c)(hd:E3 c<=20):Io (Iu (ps,c))/\∀u∈Iu (ps,c),∀x∈u,x<128:=by
 have b:=((Z7.of<|D3 ps).up'<|bB<|E3 c).app h.bal;refine⟨λi _=>⟨?_,?_⟩,b.lt⟩;·show iE [40] [41] (List.take i<|cD ps++nz c)<=20;rw[tf λu hu=>b.none u<|cX hu];decide
 ·have:=b.up i;show iE [91] [93] (List.take i<|cD ps++nz c)<=20;lia
def Rd.lt(h:Rd s ps c):∀x∈ka s,x<128:=by
 induction h with
 |@is b p T U hT hU _ _ hp=>
  intro x hx;have hg:=(D2<|Bk hp).1;simp[ka]at hx;rcases hx with hx |rfl |hx |rfl |rfl;·exact hT.lt x hx
  ·decide
  ·exact hg x hx
  ·decide
  ·decide
 |neg _ ih=>
  intro x hx;simp[ka,qN]at hx;rcases hx with rfl |rfl |rfl |rfl |hx;·decide
  ·decide
  ·decide
  ·decide
  ·exact ih x hx
 |@qu a l s ps c _ ih=>
  intro x hx;have h1:∀x∈qw a,x<128:=by cases a<;>decide
  have h2:∀x∈lw l,x<128:=by cases l<;>decide
  simp[ka]at hx;rcases hx with hx |rfl |hx |rfl |hx;·exact h1 x hx
  ·decide
  ·exact h2 x hx
  ·decide
  ·exact ih x hx
 |@two a s t p q c e _ _ _ _ i1 i2=>
  intro x hx;simp[ka]at hx;rcases hx with rfl |hx |rfl |hx |rfl |hx |rfl;·decide
  ·exact i1 x hx
  ·decide
  ·exact xS a x hx
  ·decide
  ·exact i2 x hx
  ·decide
def Rd.back(h:Rd s ps c)(hp:ps.length<=20)(hd:E3 c<=20)(hz:(ka s).length<=2000):ie R1 [.str<|S<|ka s] (dS s):=by have l:=h.lex (λc e=>by cases e) .nil;rw[aV,aV]at l;have ok:JM R1 (ps,c):=⟨hp,h.ok⟩;have ln:=l.len;have st:=QP ok;refine⟨ka s,(ps,c),rfl,l,h.lt,hz,(h.deep hd).2,(h.deep hd).1,ok,?_,h.run []⟩;have:(Iu (ps,c)).length<=(ka s).length:=ln;lia
def PX:Sg->Prop
 |.is b p=>SB b/\p∈Yl|.neg s=>PX s
 |.qu _ _ s=>PX s|.two _ s t=>PX s/\PX t
inductive It where
 |t (u:bH) |s (y:Sg)
def Jj:It->D|.t u=>.str (S u)|.s y=>dS y
def NK:It->bH|.t u=>u|.s y=>ka y
def E2:Sg->List It
 |.is b p=>[.t<|ka<|.is b p]|.neg s=>[.t<|qN++[32],.s s]
 |.qu a l s=>[.t<|qw a++(32::(lw l++[32])),.s s]|.two a s t=>[.t [91],.s s,.t<|32::(aw a++[32]),.s t,.t [93]]
def Rf(y:Sg):(E2 y).flatMap NK=ka y:=by cases y<;>simp[E2,NK,ka]
structure Nx(P:Program)(w:World)(K:bL)(q:Addr)(xs:List (be×Addr×Value)):Prop where
 XQ:JN P w K q xs
 at':∀p∈Yl,∃c tk,atKey xs p.2=some (c,.str (S p.1) tk)
def sy(ds:aU)(d:D):Prop:=∃y,ds=[dS y]/\PX y/\d=.lst ((E2 y).map Jj)
def BX:∀ds d,sy ds d->ds.length=1:=by rintro _ _ ⟨_,rfl,_⟩;rfl
def iJ(a b:bH):S a++S b=S (a++b):=by show(⟨a.toArray++b.toArray⟩:Str)=⟨(a++b).toArray⟩;simp
def sE:Str.empty=S []:=rfl
def U1:(" ":Str)=S [32]:=by decide
def WF:(" 0":Str)=S [32,48]:=by decide
def WX:("is":Str)=S [105,115]:=by decide
def Og(h:SB b):(Fp b).length<=2000:=by
 have hp:=h.Zg b.length;have a:=h.YI b.length;have c:(jT<|xZ b).length<=23*(Zg b b.length).length:=DN hp;have d:=h.fit.1;unfold Fp;split;·decide
 ·lia
def Gw{xs:List (be×Addr×Value)}(h:DefX P w K mg base k rT (ah mr) X)(c1:EV.Callee X "show_term" sr)(gq:mg "COMPARISONS_SHOWN"=some (.ref q'))(g:Nx P w K q' xs):Go X rT mr sy:=by
 rintro ds d ⟨y,rfl,hy,rfl⟩;have t:=h.at';haveI:=h.X1;have gq':X.mg "COMPARISONS_SHOWN"=some (.ref q'):=by rw[h.YQ];exact gq
 have g':JN X.prog X.w X.K q' xs:=by obtain⟨_,e1,e2,e3,_⟩:=h;rw[e1,e2,e3];exact g.XQ
 have cw:PyData.canLayAll0 (XB [D.str "and",.str "or"])=true:=by decide
 show Xt X [.val<|dS y] _ _;cases y with
 |is b p=>
  obtain⟨hb,hp⟩:=hy;obtain⟨c,tk,hk⟩:=g.at' p hp;have hl:=Og hb;have hg:p.1.length<=2:=(show∀p∈Yl,p.1.length<=2 by decide) p hp;refine ei<|dj (Xu.eq (bv t (eh 0 (aa t 0) ai rfl rfl) Xr<|by decide)<|by decide)<|aq<|aW<|Xs.eq (XF.Ya<|bI<|ab (xg (Bi (aB t c1 (ab (eh 1 (aa t 0) ai rfl rfl) ag) ⟨b,rfl,hb,rfl⟩)<|oP<|Bi (Ph t g' (eh 2 (aa t 0) ai rfl rfl) gq' hk)<|oP HQ) ?_) ag) ?_;·rw[WF,U1,sE,iJ,iJ,iJ,iJ,e8];simp;exact aJ (m:=3000) (by lia)<|by decide
  ·rw[WF,U1,sE,iJ,iJ,iJ,iJ];simp[E2,Jj,ka]
 |neg s=>refine au (bw (Xu.eq (bv t (eh 0 (aa t 0) ai rfl rfl) Xr<|by decide)<|by decide) bc)<|ei<|dj (Xu.eq (bv t (eh 0 (aa t 0) ai rfl rfl) Xr<|by decide)<|by decide)<|aq<|aW<|Xs.eq (XF.Ya<|bI<|ab Xr<|ab (eh 1 (aa t 0) ai rfl rfl) ag) ?_;rw[show("not ":Str)=S (qN++[32])by decide];rfl
 |qu a l s=>
  have ok:PyData.strOk (S<|qw a)=true:=by cases a<;>decide
  refine au (bw (Xu.eq (bv t (eh 0 (aa t 0) ai rfl rfl) Xr ok)<|by cases a<;>decide) bc)<|au (bw (Xu.eq (bv t (eh 0 (aa t 0) ai rfl rfl) Xr ok)<|by cases a<;>decide) bc)<|au (bw (js t (eh 0 (aa t 0) ai rfl rfl) (aG<|ab Xr<|ab Xr ag) (cH ok) (cj _) cw<|by rw[Dw];cases a<;>decide) bc)<|aq<|aW<|Xs.eq (XF.Ya<|bI<|ab (xg (Bi (eh 0 (aa t 0) ai rfl rfl)<|oP<|Bi (eh 1 (aa t 0) ai rfl rfl)<|oP HQ) ?_)<|ab (eh 2 (aa t 0) ai rfl rfl) ag) ?_;·cases a<;>cases l<;>exact aJ (m:=100) (by decide)<|by decide
  ·rw[U1,sE,iJ,iJ,iJ,iJ];simp[E2,Jj]
 |two a s u=>
  have ok:PyData.strOk (S<|aw a)=true:=fO<|xS a;refine au (bw (Xu.eq (bv t (eh 0 (aa t 0) ai rfl rfl) Xr ok)<|by cases a<;>decide) bc)<|au (bw (Xu.eq (bv t (eh 0 (aa t 0) ai rfl rfl) Xr ok)<|by cases a<;>decide) bc)<|ei<|dj (js t (eh 0 (aa t 0) ai rfl rfl) (aG<|ab Xr<|ab Xr ag) (cH ok) (cj _) cw<|by rw[Dw];cases a<;>decide)<|aq<|aW<|Xs.eq (XF.Ya<|bI<|ab Xr<|ab (eh 1 (aa t 0) ai rfl rfl)<|ab (xg (oP<|Bi (eh 0 (aa t 0) ai rfl rfl)<|oP HQ) ?_)<|ab (eh 2 (aa t 0) ai rfl rfl)<|ab Xr ag) ?_;·cases a<;>exact aJ (m:=100) (by decide)<|by decide
  ·rw[U1,sE,iJ,iJ,iJ,show("[":Str)=S [91]by decide,show("]":Str)=S [93]by decide];simp[E2,Jj]
def hG:Sg->Nat
 |.is _ _=>0|.neg s=>hG s+1
 |.qu _ _ s=>hG s+1|.two _ s t=>max (hG s) (hG t)+1
def QN:Sg->Nat
 |.is _ _=>2|.neg s=>QN s+2
 |.qu _ _ s=>QN s+2|.two _ s t=>QN s+QN t+4
def Fn.le{m:Nat}(h:Fn n d)(hm:n<=m):Fn m d:=⟨h.1,aJ h.2.1 hm,h.2.2⟩
def MJ:∀y:Sg,Fn (4+hG y) (dS y)
 |.is b p=>by
  rw[show dS (.is b p)=.tup [.str<|S [105,115],ay b,bh p.2]by rw[<-WX];rfl];refine Fn.tup λx hx=>?_;simp at hx;rcases hx with rfl |rfl |rfl;·exact Fn.str 3<|by decide
  ·exact lS b
  ·exact(A8 p.2).le<|by decide
 |.neg s=>by
  rw[show dS (.neg s)=.tup [.str<|S qN,dS s]by rw[<-QA];rfl];refine Fn.tup λx hx=>?_;simp at hx;rcases hx with rfl |rfl;·exact Fn.str _<|by decide
  ·exact MJ s
 |.qu a l s=>by
  refine Fn.tup λx hx=>?_;simp at hx;rcases hx with rfl |rfl |rfl;·exact Fn.str _<|by cases a<;>decide
  ·exact Fn.str _<|by cases l<;>decide
  ·exact MJ s
 |.two a s t=>by
  refine Fn.tup (n:=4+max (hG s) (hG t)) λx hx=>?_;simp at hx;rcases hx with rfl |rfl |rfl;·exact Fn.str _<|xS a
  ·exact(MJ s).le<|by lia
  ·exact(MJ t).le<|by lia
def ON:It->Prop|.t u=>u≠[]/\∀c∈u,c<128|.s y=>PX y/\hG y<=40
def QM:It->Nat|.t _=>1|.s y=>QN y
def P5(y:Sg):ka y≠[]:=by
 cases y with
 |is b p=>simp[ka]|neg s=>simp[ka]
 |qu a l s=>simp[ka]|two a s t=>simp[ka]
def O2{x:It}(h:ON x):1<=(NK x).length:=by cases x with|t u=>exact List.length_pos_iff.mpr h.1|s y=>exact List.length_pos_iff.mpr<|P5 y
def Qa:∀{st:List It},(∀x∈st,ON x)->st.length<=(st.flatMap NK).length|[],_=>aj _|x::st,h=>by have:=Qa (st:=st) λz hz=>h z (by simp[hz]);have:=O2<|h x (by simp);simp at*;lia
def Ru{x:It}(h:ON x):Fn 44 (Jj x):=by cases x with|t u=>exact Fn.str _ h.2|s y=>exact(MJ y).le<|by have:=h.2;lia
def QT(h:SB b):∀c∈Fp b,c<128:=by
 unfold Fp;split;·decide
 ·exact DM<|h.Zg b.length
def Rh(h:PX y)(hh:hG y<=40):∀x∈E2 y,ON x:=by
 cases y with
 |is b p=>
  intro x hx;simp[E2]at hx;subst hx;refine⟨P5 _,λc hc=>?_⟩;have hg:=(D2<|Bk h.2).1;simp[ka]at hc;rcases hc with hc |rfl |hc |rfl |rfl;·exact QT h.1 c hc
  ·decide
  ·exact hg c hc
  ·decide
  ·decide
 |neg s=>
  intro x hx;simp[E2]at hx;rcases hx with rfl |rfl;·exact⟨by decide,by decide⟩
  ·exact⟨h,by simp[hG]at hh;lia⟩
 |qu a l s=>
  intro x hx;simp[E2]at hx;rcases hx with rfl |rfl;·exact⟨by simp,by cases a<;>cases l<;>decide⟩
  ·exact⟨h,by simp[hG]at hh;lia⟩
 |two a s t=>
  intro x hx;simp[E2]at hx;simp[hG]at hh;rcases hx with rfl |rfl |rfl |rfl |rfl;·exact⟨by decide,by decide⟩
  ·exact⟨h.1,by lia⟩
  ·exact⟨by simp,by cases a<;>decide⟩
  ·exact⟨h.2,by lia⟩
  ·exact⟨by decide,by decide⟩
def Rg(y:Sg):((E2 y).map QM).sum<QN y:=by cases y<;>simp[E2,QM,QN]<;>lia
def jP(ds:aU)(d:D):Prop:=∃y,ds=[dS y]/\PX y/\hG y<=40/\(ka y).length<=2000/\d=.str (S<|ka y)
def yb:∀ds d,jP ds d->ds.length=1:=by rintro _ _ ⟨_,rfl,_⟩;rfl
def Sx(y:Sg):∃xs,dS y=.tup xs:=by cases y<;>exact⟨_,rfl⟩
def Jc{α:Type}(xs:List α):xs=[]\/∃ys y,xs=ys++[y]:=by
 rcases bV xs with h |⟨ys,y,h⟩;·exact .inl h
 ·exact .inr ⟨ys,y,by rw[h];simp⟩
def Cp(h:DefX P w K mg base k mZ (ah jF) X)(Xw:mg "isinstance"=none)(Zh:mg "str"=none)(c1:EV.Callee X "pieces_of" sy):Go X mZ jF jP:=by
 rintro ds d ⟨y,rfl,hy,hh,hz,rfl⟩;have t:=h.at';haveI:=h.X1;have b1:=h.bt Xw;have b2:=h.bt Zh;show Xt X [.val<|dS y,.un,.un,.un] _ _;refine au (Oj t 1 2 Xr (bI<|ab (aa t 0) ag)<|by decide) ?_;show Xt X [.val<|dS y,.val<|.str "",.own [dS y],.un] _ _;rw[zE];refine oM t (λs:bH×List It=>[.val<|dS y,.val<|.str<|S s.1,.own<|s.2.map Jj,.un]) (λs=>s.1++s.2.reverse.flatMap NK=ka y/\∀x∈s.2,ON x) (λs=>s.1=ka y) (λs=>(s.2.map QM).sum) ([],[.s y]) ⟨by simp[NK],λx hx=>by simp at hx;subst hx;exact⟨hy,hh⟩⟩ ?_ ?_
 ·rintro⟨u,st⟩ ⟨i1,i2⟩;have i1:u++st.reverse.flatMap NK=ka y:=i1;have i2:∀x∈st,ON x:=i2;have sh:SeqAt.shaped (PyData.list<|XB<|st.map Jj)=true:=(Fn.lst λx hx=>by obtain⟨z,hz,rfl⟩:=List.mem_map.mp hx;exact Ru<|i2 z hz).sh<|by decide
  rcases Jc st with rfl |⟨st,it,rfl⟩;·refine .inl ⟨kh t (Y4.p<|dL t 2 rfl) (bI ag).toQ.p sh rfl rfl,?_⟩;simpa using i1
  ·have hl:(st++[it]).length<=2000:=by have a:=Qa λx hx=>i2 x<|gY.mp hx;have b:=aY List.length i1;rw[ac]at b;rw[dv]at a;lia
   refine .inr ⟨kh t (Y4.p<|dL t 2 rfl) (bI ag).toQ.p sh rfl (by cases st<;>rfl),.inr ?_⟩;have hit:=i2 it (by simp);have hst:∀x∈st,ON x:=λx hx=>i2 x (by simp[hx]);have ho:[.val<|dS y,.val<|.str<|S u,.own<|(st++[it]).map Jj,.un]=([.val<|dS y,.val<|.str<|S u,.own<|st.map Jj++[Jj it],.un]:cJ):=by simp
   cases it with
   |t v=>refine⟨(u++v,st),?_,⟨by simpa[NK]using i1,hst⟩,by simp[QM]⟩;show Xt X [.val<|dS y,.val<|.str<|S u,.own<|(st++[It.t v]).map Jj,.un] _ (.nx [.val<|dS y,.val<|.str<|S<|u++v,.own<|st.map Jj,.un]);rw[ho,<-iJ];refine Xt.weak (au (vh t 2 3 rfl<|by decide)<|aq<|dj (eD<|Xs.eq (rN t b1 b2 (aa t 3) rfl) rfl)<|aq<|Hc t 1 rfl (aa t 3) ?_)<|.keep<|.keep<|.keep<|.forget .nil;have b:=aY List.length i1;simp[NK]at b;rw[e8,e8];exact aJ (m:=2000) (by lia)<|by decide
   |s z=>
    obtain⟨zs,ez⟩:=Sx z;refine⟨(u,st++(E2 z).reverse),?_,⟨by simpa[NK,Rf]using i1,λx hx=>?_⟩,?_⟩
    ·show Xt X [.val<|dS y,.val<|.str<|S u,.own<|(st++[It.s z]).map Jj,.un] _ (.nx [.val<|dS y,.val<|.str<|S u,.own<|(st++(E2 z).reverse).map Jj,.un]);rw[ho,aA,y0];have hp:(E2 z).length<=5:=by cases z<;>simp[E2]
     refine Xt.weak (au (vh t 2 3 rfl<|by decide)<|aq<|bw (eD<|Xs.eq (rN t b1 b2 (aa t 3)<|by show Pk (dS z)=true;rw[ez];rfl)<|by show D.bl (Qt<|dS z)=_;rw[ez];rfl)<|aq<|Aq t 2 rfl (XF.Ya<|Es (Xs.ql<|aB t c1 (ab (aa t 3) ag) ⟨z,rfl,hit.1,rfl⟩)<|gX ai) ?_)<|.keep<|.keep<|.keep<|.forget .nil;rw[dv,ae,ae];simp at hl;exact aJ (m:=3000) (by lia)<|by decide
    ·rcases aL.mp hx with hx |hx;·exact hst x hx
     ·exact Rh hit.1 hit.2 x<|by simpa using hx
    ·have:=Rg z;show((st++(E2 z).reverse).map QM).sum<((st++[It.s z]).map QM).sum;rw[aA,aA,fm,fm,y0,List.sum_reverse];simp[QM];lia
 ·rintro⟨u,st⟩ hu;have hu:u=ka y:=hu;subst hu;exact aq<|aW<|aa t 1
def jo(f:Bd):Nat:=(f.map List.length).foldl max 0
inductive Sy where
 |is (b:Bd) (s:be) |ng (a:Sy) |jn (w:Bool) (a b:Sy) |bn (w l:Bool) (a:Sy)
def jW:Bool->Str|true=>"and"|false=>"or"
def bW:Bool->Str|true=>"some"|false=>"all"
def lW:Bool->Str|true=>"x"|false=>"y"
def sD:Sy->D
 |.is b s=>.tup [.str "is",ay b,bh s]|.ng a=>.tup [.str "not",sD a]
 |.jn w a b=>.tup [.str<|jW w,sD a,sD b]|.bn w l a=>.tup [.str<|bW w,.str<|lW l,sD a]
def hW:Sy->Str
 |.is _ _=>"is"|.ng _=>"not"
 |.jn w _ _=>jW w|.bn w _ _=>bW w
def QJ:Sy->aU
 |.is b s=>[ay b,bh s]|.ng a=>[sD a]
 |.jn _ a b=>[sD a,sD b]|.bn _ l a=>[.str<|lW l,sD a]
def DP(s:Sy):sD s=.tup (.str (hW s)::QJ s):=by cases s<;>rfl
def iM:Sy->List Sy
 |.is _ _=>[]|.ng a=>[a]
 |.jn _ a b=>[a,b]|.bn _ _ a=>[a]
def VY:Sy->Bool|.is _ _=>true|_=>false
def H0:Sy->Bool|.bn _ _ _=>true|_=>false
def Cd:Sy->Nat
 |.is _ _=>0|.ng a=>Cd a+1
 |.jn _ a b=>max (Cd a) (Cd b)+1|.bn _ _ a=>Cd a+1
def cS:Sy->Nat
 |.is _ _=>1|.ng a=>cS a+1
 |.jn _ a b=>cS a+cS b+1|.bn _ _ a=>cS a+1
def lG(xs:List Sy):Nat:=(xs.map cS).sum
def om(xs ys:List Sy):lG (xs++ys)=lG xs+lG ys:=by unfold lG;rw[aA,fm]
def Fh(xs:List Sy):lG xs.reverse=lG xs:=by induction xs with|nil=>rfl|cons x xs ih=>rw[jk,om,ih];unfold lG;simp;lia
def Ad(s:Sy):lG [s]=cS s:=by unfold lG;simp
def Nf(s:Sy):0<cS s:=by cases s<;>simp[cS]
def AM:∀xs:List Sy,xs.length<=lG xs
 |[]=>bB _
 |x::xs=>by
  have:=AM xs;have:=Nf x;have e:lG (x::xs)=cS x+lG xs:=by unfold lG;simp
  rw[aS,e];lia
def Jd(s:Sy):lG (iM s)<cS s:=by cases s<;>simp[iM,lG,cS]<;>lia
def Qq{s a:Sy}(h:a∈iM s):Cd a<Cd s:=by
 cases s<;>simp[iM,Cd]at h ⊢;·rw[h];lia
 ·rcases h with rfl |rfl<;>lia
 ·rw[h];lia
def RM(w:Bool):PyData.strOk (jW w)=true/\decide (jW w=("is":Str))=false/\(decide (jW w=("some":Str))||decide (jW w=("all":Str)))=false:=by cases w<;>decide
def SG(w:Bool):PyData.strOk (bW w)=true/\decide (bW w=("is":Str))=false/\(decide (bW w=("some":Str))||decide (bW w=("all":Str)))=true:=by cases w<;>decide
def zDN:PyData.strOk "not"=true/\decide (("not":Str)=("is":Str))=false/\(decide (("not":Str)=("some":Str))||decide (("not":Str)=("all":Str)))=false:=by decide
def zDS:PyData.strOk "is"=true/\decide (("is":Str)=("is":Str))=true/\(decide (("is":Str)=("some":Str))||decide (("is":Str)=("all":Str)))=false:=by decide
def lR:∀s:Sy,PyData.strOk (hW s)=true
 |.is _ _=>zDS.1|.ng _=>zDN.1
 |.jn w _ _=>(RM w).1|.bn w _ _=>(SG w).1
def xP:∀s:Sy,decide (hW s=("is":Str))=VY s
 |.is _ _=>zDS.2.1|.ng _=>zDN.2.1
 |.jn w _ _=>(RM w).2.1|.bn w _ _=>(SG w).2.1
def De:∀s:Sy,(decide (hW s=("some":Str))||decide (hW s=("all":Str)))=H0 s
 |.is _ _=>zDS.2.2|.ng _=>zDN.2.2
 |.jn w _ _=>(RM w).2.2|.bn w _ _=>(SG w).2.2
def Dc(l:Bool):PyData.strOk (lW l)=true:=by cases l<;>decide
def VU(l:Bool):decide (lW l=("x":Str))=l:=by cases l<;>decide
def T4(l:Bool):decide (lW l=("y":Str))= !l:=by cases l<;>decide
def T5(l m:Bool):decide (lW l=lW m)=(l==m):=by cases l<;>cases m<;>decide
structure SN(b:Bd):Prop where
 ok:XA b
 sm:Yy 10 b
def Cz:Sy->Prop
 |.is b s=>SN b/\s.length<=2|.ng a=>Cz a
 |.jn _ a b=>Cz a/\Cz b|.bn _ _ a=>Cz a
def OZ{s a:Sy}(h:Cz s)(ha:a∈iM s):Cz a:=by
 cases s<;>simp[iM]at ha;·subst ha;exact h
 ·rcases ha with rfl |rfl;·exact h.1
  ·exact h.2
 ·subst ha;exact h
structure Zv(s:Sy):Prop where
 d:Cd s<=50
 c:cS s<=1000
 b:Cz s
def Zv.kid{s a:Sy}(h:Zv s)(ha:a∈iM s):Zv a:=by
 have h1:=Qq ha;have h2:=Jd s;have h3:cS a<=lG (iM s):=by
  obtain⟨xs,ys,e⟩:=List.append_of_mem ha;rw[e,om];have:lG (a::ys)=cS a+lG ys:=by unfold lG;simp
  lia
 exact⟨by have:=h.d;lia,by have:=h.c;lia,OZ h.b ha⟩
def Fu:∀s:Sy,Cz s->Fn (Cd s+4) (sD s)
 |.is b s,_=>Fn.tup λx hx=>by
   simp at hx;rcases hx with rfl |rfl |rfl;·exact⟨by decide,by simp[dY,PyData.depth],by simp[dY,PyData.eqv]⟩
   ·exact lS b
   ·have:=A8 s;exact⟨this.1,by have:=this.2.1;lia,this.2.2⟩
 |.ng a,h=>Fn.tup λx hx=>by
   simp at hx;rcases hx with rfl |rfl;·exact⟨by decide,by simp[dY,PyData.depth],by simp[dY,PyData.eqv]⟩
   ·exact Fu a h
 |.jn w a b,h=>Fn.tup (n:=max (Cd a) (Cd b)+4) λx hx=>by
   simp at hx;rcases hx with rfl |rfl |rfl;·exact⟨by cases w<;>decide,by simp[dY,PyData.depth],by simp[dY,PyData.eqv]⟩
   ·have:=Fu a h.1;exact⟨this.1,by have:=this.2.1;lia,this.2.2⟩
   ·have:=Fu b h.2;exact⟨this.1,by have:=this.2.1;lia,this.2.2⟩
 |.bn w l a,h=>Fn.tup λx hx=>by
   simp at hx;rcases hx with rfl |rfl |rfl;·exact⟨by cases w<;>decide,by simp[dY,PyData.depth],by simp[dY,PyData.eqv]⟩
   ·exact⟨by cases l<;>decide,by simp[dY,PyData.depth],by simp[dY,PyData.eqv]⟩
   ·exact Fu a h
def dz(stop:Bool):Sy->List Sy
 |.is b s=>[.is b s]|.ng a=>.ng a::dz stop a
 |.jn w a b=>.jn w a b::(dz stop a++dz stop b)|.bn w l a=>.bn w l a::(if stop then []else dz stop a)
def L4(stop:Bool)(s:Sy):dz stop s=s::(if(stop&&H0 s)=true then []else(iM s).flatMap<|dz stop):=by cases s<;>cases stop<;>simp[dz,H0,iM]
def Hi{s:Sy}(h:Zv s)(stop:Bool):∀a∈dz stop s,Zv a:=by
 induction s with
 |is b s=>intro a ha;simp[dz]at ha;rw[ha];exact h
 |ng a ih=>
  intro x hx;simp[dz]at hx;rcases hx with rfl |hx;·exact h
  ·exact ih (h.kid<|by simp[iM]) x hx
 |jn w a b ih1 ih2=>
  intro x hx;simp[dz]at hx;rcases hx with rfl |hx |hx;·exact h
  ·exact ih1 (h.kid<|by simp[iM]) x hx
  ·exact ih2 (h.kid<|by simp[iM]) x hx
 |bn w l a ih=>
  intro x hx;cases stop<;>simp[dz]at hx
  ·rcases hx with rfl |hx;·exact h
   ·exact ih (h.kid<|by simp[iM]) x hx
  ·rw[hx];exact h
def n4:Sy->List Bd
 |.is b _=>[b]|.ng a=>n4 a
 |.jn _ a b=>n4 a++n4 b|.bn _ _ a=>n4 a
def gc(acc:List Bd)(b:Bd):List Bd:=if b∈acc then acc else acc++[b]
def cg(acc xs:List Bd):List Bd:=xs.foldl gc acc
def z9(acc xs ys:List Bd):cg acc (xs++ys)=cg (cg acc xs) ys:=by unfold cg;rw[gu]
def z8:∀(xs acc:List Bd)(z:Bd),z∈cg acc xs↔z∈acc\/z∈xs
 |[],acc,z=>by simp[cg]
 |x::xs,acc,z=>by
  show z∈cg (gc acc x) xs↔_;rw[z8 xs (gc acc x) z];unfold gc;by_cases h:x∈acc
  ·rw[ar h,ax];constructor
   ·rintro(q |q);·exact .inl q
    ·exact .inr<|.inr q
   ·rintro(q |rfl |q);·exact .inl q
    ·exact .inl h
    ·exact .inr q
  ·rw[ak h,aL,aP,ax,or_assoc]
def OB(s:Sy):(dz false s).flatMap (λp=>match p with |.is b _=>[b] |_=>[])=n4 s:=by
 induction s with
 |is b s=>simp[dz,n4]|ng a ih=>simp only[dz,n4,jl];rw[ih];rfl
 |jn w a b ih1 ih2=>simp only[dz,n4,jl,ft];rw[ih1,ih2];rfl|bn w l a ih=>simp only[dz,n4,jl];rw[<-ih];rfl
def Dv:∀{s:Sy},Cz s->∀b∈n4 s,SN b
 |.is b s,h,x,hx=>by simp[n4]at hx;rw[hx];exact h.1|.ng a,h,x,hx=>Dv (s:=a) h x hx
 |.jn w a b,h,x,hx=>by
  rcases aL.mp hx with q |q;·exact Dv h.1 x q
  ·exact Dv h.2 x q
 |.bn w l a,h,x,hx=>Dv (s:=a) h x hx
def iu(l:Bool)(b:Bd):Bool:=if l then decide (1<jo b)else decide<|1<b.length
def fT:Sy->Bool
 |.is _ _=>true|.ng a=>fT a
 |.jn _ a b=>fT a&&fT b|.bn _ _ _=>false
def HH(o:Bool):Sy->Bool
 |.is b _=>!iu o b|.bn _ l a=>l==o&&fT a
 |_=>true
def gw(o:Bool):Sy->Bool
 |.is b _=>!iu o b|.ng a=>gw o a
 |.jn _ a b=>gw o a&&gw o b|.bn _ l a=>l==o&&fT a
def HI:Sy->Bool
 |.is b _=>!iu true b&& !iu false b|.bn _ l a=>gw (!l) a
 |_=>true
def kH:Sy->Bool
 |.is b _=>!iu true b&& !iu false b|.ng a=>kH a
 |.jn _ a b=>kH a&&kH b|.bn _ l a=>gw (!l) a
def sX:∀s:Sy,(!(dz false s).any H0)=fT s
 |.is b s=>rfl|.ng a=>by show(!(false||(dz false a).any H0))=fT a;rw[GW];exact sX a
 |.jn w a b=>by show(!(false||(dz false a++dz false b).any H0))=(fT a&&fT b);rw[GW,List.any_append,Bool.not_or,sX a,sX b]|.bn w l a=>by show(!(true||_))=false;rfl
def v5(o:Bool):∀s:Sy,(dz true s).all (HH o)=gw o s
 |.is b s=>by simp[dz,HH,gw]|.ng a=>by show(true&&(dz true a).all (HH o))=gw o a;rw[xC];exact v5 o a
 |.jn w a b=>by show(true&&(dz true a++dz true b).all (HH o))=(gw o a&&gw o b);rw[xC,List.all_append,v5 o a,v5 o b]|.bn w l a=>by simp[dz,HH,gw]
def wz:∀s:Sy,(dz true s).all HI=kH s
 |.is b s=>by simp[dz,HI,kH]|.ng a=>by show(true&&(dz true a).all HI)=kH a;rw[xC];exact wz a
 |.jn w a b=>by show(true&&(dz true a++dz true b).all HI)=(kH a&&kH b);rw[xC,List.all_append,wz a,wz b]|.bn w l a=>by simp[dz,HI,kH]
def Dg(l:bH):∀a,a<=l.foldl max a/\(∀x∈l,x<=l.foldl max a)/\(l.foldl max a=a\/l.foldl max a∈l):=by
 induction l with
 |nil=>intro a;exact⟨aj _,λ_ h=>(nomatch h),.inl rfl⟩
 |cons y l ih=>
  intro a;obtain⟨h1,h2,h3⟩:=ih<|max a y;rw[dB];refine⟨by lia,λx hx=>?_,?_⟩
  ·rcases ax.mp hx with e |hx;·subst e;lia
   ·exact h2 x hx
  ·rcases h3 with e |e
   ·by_cases h:y<=a;·left;rw[e];lia
    ·right;rw[e,show max a y=y by lia];simp
   ·right;simp[e]
def OW(f:Bd)(k:Nat):(f.getD k []).length<=jo f:=by
 rcases rJ k with e |e;·rw[e];exact bB _
 ·exact(Dg (f.map List.length) 0).2.1 _<|List.mem_map.mpr ⟨_,e,rfl⟩
def Ja(f:Bd):jo f=0\/∃r∈f,r.length=jo f:=by
 rcases(Dg (f.map List.length) 0).2.2 with e |e;·exact .inl e
 ·obtain⟨r,hr,e⟩:=List.mem_map.mp e;exact .inr ⟨r,hr,e⟩
def OV{f:Bd}{n:Nat}(h:∀r∈f,r.length<=n):jo f<=n:=by
 rcases Ja f with e |⟨r,hr,e⟩;·lia
 ·rw[<-e];exact h r hr
def Mn(f:Bd):Kp ((f.map List.length).map λn:Nat=>(n:Int))=(jo f:Int):=by
 unfold jo;have:∀(l:bH)(a:Nat),(l.map λn:Nat=>(n:Int)).foldl max (a:Int)=((l.foldl max a:Nat):Int):=by intro l;induction l with|nil=>intro a;rfl|cons y l ih=>intro a;rw[aH,dB,dB,<-ih];congr 1;lia
 exact this _ 0
def gP(ds:aU)(d:D):Prop:=∃f:Bd,ds=[ay f]/\Yy 1000 f/\d=.int (jo f)
def uo:∀ds d,gP ds d->ds.length=1:=by rintro _ _ ⟨a,rfl,_⟩;rfl
def xn(h:DefX P w K mg base k jw (ah gJ) X)(Z9:mg "max"=none)(XD:mg "len"=none):Go X jw gJ gP:=by
 rintro ds d ⟨f,rfl,hf,rfl⟩;have t:=h.at';have b1:=h.bt Z9;show Xt X [.val<|ay f] _ _;refine aq<|aW<|Xs.eq (Pg t b1 (XF.toQ<|XF.eq (dP (rs:=f.map λr=>D.int (r.length:Int)) t ["f","row"] (Do<|by decide) (ki<|aa t 0) (by rw[ae];exact uR hf.1) λX' cx=>?_) ?_) ?_) (by rw[Mn]);·exact X0.gen bh _ (λr=>[.val<|ay f,.val<|bh r]) _ _ (λx hx=>br cx.at' 1) (λx hx y hy=>br cx.at' 1) λx hx=>Xs.eq (c7 cx.at' (EG<|by rw[cx.YQ,h.YQ];exact XD)<|Xs.qt<|aa cx.at' 1 rfl)<|by rw[ae]
 ·rw[bu,bu];rfl
 ·intro n hn;obtain⟨m,_,rfl⟩:=List.mem_map.mp hn;lia
def jd(ds:aU)(r:D):Prop:=∃s:Sy,ds=[sD s]/\r=.lst ((iM s).map sD)
def AN:∀ds d,jd ds d->ds.length=1:=by rintro _ _ ⟨_,rfl,_⟩;rfl
abbrev BN:PyData:=.tuple [.str "some",.str "all"]
def jz(K:bL)(ds:aU)(r:D):Prop:=∃(s:Sy)(st:D)(stop:Bool),ds=[sD s,st]/\Zv s/\((st=.tup []/\stop=false)\/∃l,st=.adr l/\GP K (.ref l) BN/\stop=true)/\r=.lst ((dz stop s).map sD)
def Ea{K:bL}:∀ds d,jz K ds d->ds.length=2:=by rintro _ _ ⟨_,_,_,rfl,_⟩;rfl
def U8:Nat->D->Prop|0,d=>∃i,d=.int i|n+1,d=>(∃i,d=.int i)\/∃xs,d=.tup xs/\xs.length<1000/\∀x∈xs,U8 n x
def jc:Nat->aU->D->Prop|0,_,_=>False|n+1,ds,r=>∃d,ds=[d]/\U8 n d/\r=d
def rE:∀n ds d,jc n ds d->ds.length=1|0,_,_,h=>h.elim|n+1,_,_,⟨_,h,_⟩=>by rw[h];rfl
def Lr(h:Yy 10 b):U8 2 (ay b):=.inr ⟨_,rfl,by rw[ae];have:=h.1;lia,λx hx=>by obtain⟨r,hr,rfl⟩:=List.mem_map.mp hx;exact .inr ⟨_,rfl,by rw[ae];have:=h.2 r hr;lia,λy hy=>by obtain⟨i,_,rfl⟩:=List.mem_map.mp hy;exact⟨i,rfl⟩⟩⟩
def iL(ds:aU)(r:D):Prop:=∃s:Sy,ds=[sD s]/\Zv s/\r=.tup ((cg []<|n4 s).map ay)
def B4:∀ds d,iL ds d->ds.length=1:=by rintro _ _ ⟨_,rfl,_⟩;rfl
def CS(g:Sy->Bool)(ds:aU)(r:D):Prop:=∃s:Sy,ds=[sD s]/\Zv s/\r=.bl (g s)
def CS.len{g:Sy->Bool}:∀ds d,CS g ds d->ds.length=1:=by rintro _ _ ⟨_,rfl,_⟩;rfl
abbrev qm:=CS fT
def Ec:∀ds d,qm ds d->ds.length=1:=CS.len
def CL(g:Bool->Sy->Bool)(ds:aU)(r:D):Prop:=∃(s:Sy)(l:Bool),ds=[sD s,.str<|lW l]/\Zv s/\r=.bl (g l s)
def CL.len{g:Bool->Sy->Bool}:∀ds d,CL g ds d->ds.length=2:=by rintro _ _ ⟨_,_,rfl,_⟩;rfl
abbrev sH:=CL HH
def B3:∀ds d,sH ds d->ds.length=2:=CL.len
abbrev tm:=CL λl s=>gw (!l) s
def FP:∀ds d,tm ds d->ds.length=2:=CL.len
abbrev nq:=CS HI
def yh:∀ds d,nq ds d->ds.length=1:=CS.len
abbrev sG:=CS kH
def B2:∀ds d,sG ds d->ds.length=1:=CS.len
def ir(ds:aU)(r:D):Prop:=∃(l:Bool)(b:Bd),ds=[.str<|lW l,ay b]/\Yy 1000 b/\r=.bl (iu l b)
def wf:∀ds d,ir ds d->ds.length=2:=by rintro _ _ ⟨_,_,rfl,_⟩;rfl
def Yy.up{n:Nat}(h:Yy 10 b)(hn:10<=n):Yy n b:=⟨by have:=h.1;lia,λr hr=>by have:=h.2 r hr;lia⟩
section
variable {s:Sy}
def eY(ha:Xs X ρ a (sD s)):Xs X ρ (.Subscript a (.Constant (.int 0) j p2) p3) (.str<|hW s):=by rw[DP]at ha;exact eh 0 ha ai rfl rfl
def mL{i:Int}(n:Nat)(ha:Xs X ρ a (sD s))(hi:i=((n+1:Nat):Int))(h:(QJ s)[n]?=some d):Xs X ρ (.Subscript a (.Constant (.int i) j p2) p3) d:=by rw[DP]at ha;exact eh (n+1) ha ai hi<|by rw[List.getElem?_cons_succ];exact h
end
def EK(h:DefX P w K mg base k pS (ah kM) X)(Y8:mg "list"=none)(g1:Nw mg K "BINDERS" BN):Go X pS kM jd:=by
 rintro ds r ⟨s,rfl,rfl⟩;have t:=h.at';haveI:=h.X1;have b1:=h.bt Y8;obtain⟨l,gm,gk⟩:=g1;show Xt X [.val<|sD s] _ _;refine xQ (Xu.eq (bv t (eY<|aa t 0) Xr<|lR s)<|xP s) (λz=>?_) λz=>?_;·cases s with|is b x=>exact aq (aW<|XF.Ya<|bI ag)|_=>cases z
 refine xQ (Xu.eq (HN t (eY<|aa t 0) (by rw[h.YQ];exact gm) (by rw[h.k'];exact gk)<|lR s)<|De s) (λv=>?_) λv=>?_;·cases s with|bn w x a=>exact aq (aW<|XF.Ya<|bI<|ab (mL 1 (aa t 0) rfl rfl) ag)|_=>cases v
 ·have e:QJ s=(iM s).map sD:=by
   cases s with
   |is=>cases z
   |bn=>cases v
   |ng=>rfl|jn=>rfl
  rw[<-e];refine aq<|aW<|XF.Ya<|Et t b1<|Xs.qt<|Xs.eq (Jx (Xs.eq (aa t 0)<|DP s) (dG ai) dD)<|by rw[Uw]
def Gr(h:DefX P w K mg base k gA (ah fE) X)(Xw:mg "isinstance"=none)(Xy:mg "tuple"=none)(n:Nat)(c1:Callee X "told_anew" (jc n)):Go X gA fE (jc<|n+1):=by
 rintro ds d ⟨_,rfl,hd,rfl⟩;have t:=h.at';haveI:=h.X1;have b1:=h.bt Xw;have b2:=h.bt Xy;show Xt X [.val d] _ _;have hi:(∃i,d=.int i)\/∃m xs,n=m+1/\d=.tup xs/\xs.length<1000/\∀x∈xs,U8 m x:=by
  cases n with
  |zero=>exact .inl hd
  |succ m=>
        rcases hd with q |⟨xs,q⟩;·exact .inl q
        ·exact .inr ⟨m,xs,rfl,q⟩
 rcases hi with⟨i,rfl⟩ |⟨m,xs,rfl,rfl,hl,hx⟩;·exact aq<|aW<|kg (eD<|pK t b1 b2 (aa t 0) rfl)<|aa t 0
 ·refine aq<|aW<|ke (eD<|pK t b1 b2 (aa t 0) rfl)<|Xs.eq (fw t b2<|XF.toQ (dP t ["thing","part"] (Do<|by decide) (ki<|aa t 0) (by rw[cO];lia) λX' cx=>X0.all (λd=>[.val<|.tup xs,.val d]) (λd=>d) xs _ (λd hd=>br cx.at' 1) (λd hd e he=>br cx.at' 1) λd hd=>aB cx.at' (cx.callee c1) (ab (aa cx.at' 1 rfl) ag) ⟨d,rfl,hx d hd,rfl⟩))<|by rw[List.map_id']
def yr(h:DefX P w K mg base k ku (ah il) X)(XD:mg "len"=none)(c1:Callee X "length_of_rows" gP):Go X ku il ir:=by rintro ds r ⟨l,b,rfl,hb,rfl⟩;have t:=h.at';haveI:=h.X1;have b1:=h.bt XD;show Xt X [.val<|.str<|lW l,.val<|ay b] _ _;have e:=T4 l;have T:=λ{p1 p2:Pos}{j:Nat}{p3:Pos}=>bv (ρ:=[.val<|.str<|lW l,.val<|ay b]) (a:=.Name "letter" p1) (b:=.Constant (.str "y") j p2) (pos:=p3) t (aa t 0) Xr<|Dc l;cases l with|true=>exact aq (aW<|Xs.eq (MT (kg (Xu.eq T e)<|aB t c1 (ab (aa t 1) ag) ⟨b,rfl,hb,rfl⟩) ai)<|by show D.bl _=D.bl (decide<|1<jo b);congr 1;exact decide_eq_decide.mpr<|by lia)|false=>exact aq<|aW<|Xs.eq (MT (ke (Xu.eq T e)<|c7 t b1<|Xs.qt<|aa t 1) ai)<|by show D.bl _=D.bl (decide<|1<b.length);rw[ae];congr 1;exact decide_eq_decide.mpr<|by lia
def T3(ws:List Sy):ws=[]\/∃ys y,ws=ys++[y]:=by cases h:ws.getLast? with|none=>exact .inl (List.getLast?_eq_none_iff.mp h)|some y=>obtain⟨ys,e⟩:=List.getLast?_eq_some_iff.mp h;exact .inr ⟨ys,y,e⟩
def Fn.mono{m:Nat}(h:Fn n d)(q:n<=m):Fn m d:=⟨h.1,aJ h.2.1 q,h.2.2⟩
def Zv.fn{s:Sy}(h:Zv s):Fn 54 (sD s):=(Fu s h.b).mono<|by have:=h.d;lia
def Rz(xs:aU):(!(PyData.list<|XB xs).eqv (.list<|XB []))= !decide (xs=[]):=by cases xs with|nil=>rfl|cons d ds=>simp[XB,PyData.eqv,PyData.eqvAll]
def sW(stop:Bool):∀s:Sy,(dz stop s).length<=cS s
 |.is b s=>aj _|.ng a=>by have:=sW stop a;simp[dz,cS];lia
 |.jn w a b=>by have:=sW stop a;have:=sW stop b;simp[dz,cS];lia
 |.bn w l a=>by
  have:=sW stop a;cases stop;·simp[dz,cS];exact this
  ·simp[dz,cS]
def Ib(h:DefX P w K mg base k uA (ah pp) X)(c1:Callee X "sayings_in" jd):Go X uA pp (jz K):=by
 rintro ds r ⟨s,st,stop,rfl,hs,hst,rfl⟩;have t:=h.at';haveI:=h.X1;show Xt X [.val<|sD s,.val st,.un,.un,.un] _ _;refine au (Oi t 2 3 (bI ag) (bI<|ab (aa t 0) ag)<|by decide) ?_;show Xt X [.val<|sD s,.val st,.own [],.own [sD s],.un] _ _;refine oM t (λz=>[.val<|sD s,.val st,.own<|z.1.map sD,.own<|z.2.map sD,.un]) (λz=>(∀x∈z.2,Zv x)/\z.1.length+lG z.2<=1000/\z.1++z.2.reverse.flatMap (dz stop)=dz stop s) (λz=>z.2=[]/\z.1=dz stop s) (λz=>lG z.2) ([],[s]) ⟨λx hx=>by rw[aP]at hx;rw[hx];exact hs,by rw[Ad];have:=hs.c;simp;lia,by simp⟩ (λz hI=>?_) λz hF=>?_
 ·obtain⟨dn,ws⟩:=z;obtain⟨h1,h2,h3⟩:=hI;dsimp only at h1 h2 h3 ⊢;have fl:Fn 55 (.lst<|ws.map sD):=Fn.lst λx hx=>by obtain⟨y,hy,rfl⟩:=List.mem_map.mp hx;exact(h1 y hy).fn
  have sh:SeqAt.shaped (if true=true then PyData.list (XB<|ws.map sD)else .tuple<|XB<|ws.map sD)=true:=fl.sh (by decide);have tst:∀{p1 p2 p3:Pos},Xu X [.val<|sD s,.val st,.own<|dn.map sD,.own<|ws.map sD,.un] (.Compare (.Name "waiting" p1) [.NotEq] [.List [] p2] p3) (!decide (ws.map sD=[])):=kh t (Y4.p<|dL t 3 rfl) (Xs.p<|XF.Ya<|bI ag) sh rfl<|Rz _;rcases T3 ws with rfl |⟨ys,y,rfl⟩;·refine .inl ⟨Xu.eq tst rfl,rfl,?_⟩;simpa using h3
  refine .inr ⟨Xu.eq tst<|by simp,?_⟩;have hy:Zv y:=h1 y (by simp);rw[om,Ad]at h2;have hk:=Jd y;have cy:=Nf y;have pk:=L4 stop y;refine .inr ⟨(dn++[y],ys++(if(stop&&H0 y)=true then []else(iM y).reverse)),Xt.weak (ρ1:=[.val<|sD s,.val st,.own<|(dn++[y]).map sD,.own<|(ys++(if(stop&&H0 y)=true then []else(iM y).reverse)).map sD,.val<|sD y]) ?_<|.keep<|.keep<|.keep<|.keep<|.forget .nil,?_,?_⟩;rotate_left
  ·dsimp only;refine⟨λx hx=>?_,?_,?_⟩
   ·rcases aL.mp hx with q |q;·exact h1 x<|EX _ q
    ·split at q;·exact nomatch q
     ·exact hy.kid<|gY.mp q
   ·rw[ac,bO,om];split;·have e0:lG []=0:=rfl;rw[e0];lia
    ·rw[Fh];lia
   ·rw[<-h3,GO,GO,ft,ft,List.reverse_singleton,WB,pk,az];congr 1;split;·simp
    ·simp
  ·dsimp only;rw[om,om,Ad];split;·have e0:lG []=0:=rfl;rw[e0];lia
   ·rw[Fh];lia
  rw[aA,aA];refine au (vh t 3 4 rfl<|by decide)<|au (dI t 2 rfl (aa t 4)<|by rw[ae,cO];lia) ?_;show Xt X [.val<|sD s,.val st,.own<|dn.map sD++[sD y],.own<|ys.map sD,.val<|sD y] _ _;have hN':∀{p1 p2 p3 p4 p5:Pos}{j:Nat},Xu X [.val<|sD s,.val st,.own<|dn.map sD++[sD y],.own<|ys.map sD,.val<|sD y] (.Compare (.Subscript (.Name "part" p1) (.Constant (.int 0) j p2) p3) [.NotIn] [.Name "stops" p4] p5) (!(stop&&H0 y)):=λ{p1 p2 p3 p4 p5 j}=>by
   rcases hst with⟨rfl,rfl⟩ |⟨l,rfl,gk,rfl⟩;·exact Eo t (eY<|aa t 4) (aa t 1) (cH<|lR y) (cj _) rfl rfl
   ·exact Xu.eq (Ps t (eY<|aa t 4).p (Xs.zJD (aa t 1)<|by rw[h.k'];exact gk) (cH<|lR y) (cj _) (by decide) rfl)<|aY not<|(ES _ _ _).trans<|De y
  cases hq:(stop&&H0 y)with|true=>rw[ar rfl,aV];exact aq (bw (Xu.eq hN'<|by rw[hq];rfl) bc)|false=>rw[ak aC,aA,y0];refine aq<|dj (Xu.eq hN'<|by rw[hq];rfl)<|aq<|Aq t 3 rfl (XF.Ya<|Es (Xs.ql<|aB t c1 (ab (aa t 4) ag) ⟨y,rfl,rfl⟩)<|gX ai) ?_;have l1:=AM ys;have l2:=AM<|iM y;rw[dv,ae,ae,cO];lia
 ·obtain⟨dn,ws⟩:=z;obtain⟨rfl,e⟩:=hF;dsimp only at e ⊢;subst e;exact fQ 2 rfl<|aq<|aW<|aa t 2
def Di:∀f g:Bd,PyData.eqvAll (XB<|f.map bh) (XB<|g.map bh)=decide (f=g)
 |[],[]=>by simp[XB,PyData.eqvAll]|[],r::g=>by simp[XB,PyData.eqvAll]
 |r::f,[]=>by simp[XB,PyData.eqvAll]|r::f,q::g=>by have e1:=io r q;have e2:=Di f g;rw[aH,aH,XB,XB,PyData.eqvAll,e1,e2,<-Bool.decide_and];exact decide_eq_decide.mpr<|by simp
def Kz(f g:Bd):(dY<|ay f).eqv (dY<|ay g)=decide (f=g):=Di f g
def Bs(acc:List Bd)(b:Bd):((XB<|acc.map ay).any λy=>PyData.eqv y<|dY<|ay b)=decide (b∈acc):=by induction acc with|nil=>simp[XB]|cons a acc ih=>rw[aH,XB,List.any_cons,ih,Kz,<-Bool.decide_or];exact decide_eq_decide.mpr<|by rw[ax];exact or_congr BE Iff.rfl
def Dp(acc:List Bd):PyData.canLayAll0 (XB<|acc.map ay)=true:=(Fn.all λx hx=>by obtain⟨b,_,rfl⟩:=List.mem_map.mp hx;exact lS b).1
def PM:Sy->List Bd|.is b _=>[b]|_=>[]
def OC(s:Sy):(dz false s).flatMap PM=n4 s:=OB s
abbrev KR(ps:List Sy):List Bd:=cg []<|ps.flatMap PM
def Nn(ps:List Sy)(p:Sy):KR (ps++[p])=cg (KR ps) (PM p):=by show cg [] ((ps++[p]).flatMap PM)=_;rw[ft,WB,z9]
def og:∀(xs acc:List Bd),(cg acc xs).length<=acc.length+xs.length
 |[],acc=>aj _
 |x::xs,acc=>by
  have:=og xs<|gc acc x;have h2:(gc acc x).length<=acc.length+1:=by
   unfold gc;split;·lia
   ·rw[ac];simp
  show(cg (gc acc x) xs).length<=_;rw[aS];lia
def FZ:∀ps:List Sy,(ps.flatMap PM).length<=ps.length
 |[]=>aj _
 |p::ps=>by
  have:=FZ ps;rw[jl,ac,aS];have:(PM p).length<=1:=by cases p<;>simp[PM]
  lia
def GD(h:DefX P w K mg base k se (ah my) X)(Xy:mg "tuple"=none)(c1:Callee X "parts_of" (jz K))(c2:Callee X "told_anew" (jc 3)):Go X se my iL:=by
 rintro ds r ⟨s,rfl,hs,rfl⟩;have t:=h.at';haveI:=h.X1;have b1:=h.bt Xy;show Xt X [.val<|sD s,.un,.un] _ _;refine au (gV t 1<|bI ag) ?_;show Xt X [.val<|sD s,.own [],.un] _ _;have Zy:=sW false s;have hc:=hs.c;refine au (ρ':=[.val<|sD s,.own<|(cg []<|n4 s).map ay,.un]) (fF t (mV<|aB t c1 (ab (aa t 0)<|ab (aG ag) ag) ⟨s,.tup [],false,rfl,hs,.inl ⟨rfl,rfl⟩,rfl⟩)<|XO.XW (λj=>[.val<|sD s,.own<|(KR<|(dz false s).take j).map ay,.un]) (λj d hj=>?_) rfl<|by rw[ae,a7];show[_,Sl.own<|(cg []<|(dz false s).flatMap PM).map ay,_]=_;rw[OC]) ?_
 ·rw[List.getElem?_map]at hj;obtain⟨p,hp,rfl⟩:=Option.map_eq_some_iff.mp hj;have hjl:j<(dz false s).length:=(List.getElem?_eq_some_iff.mp hp).1;have pok:Zv p:=Hi hs false p<|List.mem_of_getElem? hp;have e1:(dz false s).take (j+1)=(dz false s).take j++[p]:=by rw[nu,hp];rfl
  have hal:(KR<|(dz false s).take j).length<=1000:=by have a1:=og (((dz false s).take j).flatMap PM) [];have a2:=FZ<|(dz false s).take j;rw[bC]at a2;show(cg [] _).length<=_;simp only[cZ]at a1;lia
  refine⟨_,dA t 2,Xt.weak (ρ1:=[.val<|sD s,.own<|(KR<|(dz false s).take<|j+1).map ay,.val<|sD p]) ?_<|.keep<|.keep<|.forget .nil⟩;rw[e1,Nn];generalize KR ((dz false s).take j)=acc at hal;show Xt X [.val<|sD s,.own<|acc.map ay,.val<|sD p] _ _;cases p with
  |is b x=>
   have okb:SN b:=pok.b.1;have fb:=lS b;have tst:∀{p1 p2 p3 p4 p5 p6 p7 p8 p9 pa pb:Pos}{j j2 j3:Nat},Xu X [.val<|sD s,.own<|acc.map ay,.val<|sD<|.is b x] (.BoolOp .And [.Compare (.Subscript (.Name "part" p1) (.Constant (.int 0) j p2) p3) [.Eq] [.Constant (.str "is") j2 p4] p5,.Compare (.Subscript (.Name "part" p6) (.Constant (.int 1) j3 p7) p8) [.NotIn] [.Name "boards" p9] pa] pb) (!decide (b∈acc)):=λ{p1 p2 p3 p4 p5 p6 p7 p8 p9 pa pb j j2 j3}=>Xu.eq (gi (Xu.eq (bv t (eY<|aa t 2) Xr<|lR<|.is b x)<|xP<|.is b x) λ_=>MU (r:=!decide (b∈acc)) t (mL 0 (aa t 2) rfl rfl) 1 rfl fb.1 (by have:=fb.2.1;lia) (Dp acc)<|by rw[Bs]) rfl;by_cases hm:b∈acc;·refine Xt.eq (aq<|bw (Xu.eq tst<|by rw[aF hm];rfl) bc) ?_;show _=Out.nx [.val<|sD s,.own<|(cg acc [b]).map ay,.val<|sD<|.is b x];rw[show cg acc [b]=gc acc b from rfl,show gc acc b=acc from ar hm]
   ·refine Xt.eq (aq<|dj (Xu.eq tst<|by rw[ao hm];rfl)<|aq<|dI t 1 rfl (aB t c2 (ab (mL 0 (aa t 2) rfl rfl) ag) ⟨ay b,rfl,Lr okb.sm,rfl⟩)<|by rw[ae,cO];lia) ?_;show _=Out.nx [.val<|sD s,.own<|(cg acc [b]).map ay,.val<|sD<|.is b x];rw[show cg acc [b]=gc acc b from rfl,show gc acc b=acc++[b]from ak hm,aA];rfl
  |ng a=>exact Xt.eq (aq<|bw (Xu.eq (gi (v:=true) (Xu.eq (bv t (eY<|aa t 2) Xr<|lR<|.ng a)<|xP<|.ng a) λz=>by cases z) rfl) bc) rfl|jn w a b=>exact Xt.eq (aq<|bw (Xu.eq (gi (v:=true) (Xu.eq (bv t (eY<|aa t 2) Xr<|lR<|.jn w a b)<|xP<|.jn w a b) λz=>by cases z) rfl) bc) rfl
  |bn w l a=>exact Xt.eq (aq<|bw (Xu.eq (gi (v:=true) (Xu.eq (bv t (eY<|aa t 2) Xr<|lR<|.bn w l a)<|xP<|.bn w l a) λz=>by cases z) rfl) bc) rfl
 exact aq<|aW<|fw t b1<|dL t 1 rfl
def wZ{s:Sy}(h:Zv s)(stop:Bool):((dz stop s).map sD).length<sizeLine:=by have:=sW stop s;have:=h.c;rw[ae,cO];lia
def bls(g:Sy->Bool)(xs:List Sy):xs.map (λp=>D.bl<|g p)=(xs.map g).map D.bl:=by rw[bu];rfl
def Ie(h:DefX P w K mg base k uC (ah pB) X)(zFA:mg "any"=none)(c1:Callee X "parts_of" (jz K))(g1:Nw mg K "BINDERS" BN):Go X uC pB qm:=by rintro ds r ⟨s,rfl,hs,rfl⟩;have t:=h.at';haveI:=h.X1;have b1:=h.bt zFA;obtain⟨l,gm,gk⟩:=g1;show Xt X [.val<|sD s] _ _;refine aq<|aW<|Xs.eq (wo<|Sk t b1<|XF.toQ<|XF.eq (dP t ["S","part"] (Do<|by decide) (mV<|aB t c1 (ab (aa t 0)<|ab (aG ag) ag) ⟨s,.tup [],false,rfl,hs,.inl ⟨rfl,rfl⟩,rfl⟩) (wZ hs false) λX' cx=>X0.gen sD (λp=>.bl<|H0 p) (λp=>[.val<|sD s,.val<|sD p]) (dz false s) _ (λp hp=>br cx.at' 1) (λp hp q hq=>br cx.at' 1) λp hp=>Xs.eq (MS cx.at' (eY<|aa cx.at' 1 rfl) (by rw[cx.YQ,h.YQ];exact gm) (by rw[cx.k',h.k'];exact gk)<|lR p)<|aY D.bl<|De p)<|bls _ _) ?_;rw[List.any_map,<-sX s];rfl
def GC(h:DefX P w K mg base k rZ (ah mx) X)(c1:Callee X "letter_stands" ir)(c2:Callee X "is_plain" qm)(g1:Nw mg K "BINDERS" BN):Go X rZ mx sH:=by
 rintro ds r ⟨s,o,rfl,hs,rfl⟩;have t:=h.at';haveI:=h.X1;obtain⟨l,gm,gk⟩:=g1;show Xt X [.val<|sD s,.val<|.str<|lW o] _ _;refine xQ (Xu.eq (bv t (eY<|aa t 0) Xr<|lR s)<|xP s) (λz=>?_) λz=>?_;·cases s with|is b x=>exact aq (aW<|wo<|aB t c1 (ab (aa t 1)<|ab (mL 0 (aa t 0) rfl rfl) ag) ⟨o,b,rfl,hs.b.1.sm.up<|by decide,rfl⟩)|_=>cases z
 have nb:∀{p1 p2 p3 p4 p5:Pos}{j:Nat},Xs X [.val<|sD s,.val<|.str<|lW o] (.Compare (.Subscript (.Name "part" p1) (.Constant (.int 0) j p2) p3) [.NotIn] [.Name "BINDERS" p4] p5) (.bl (!H0 s)):=Xs.eq (Jp t (eY<|aa t 0).p (iZ t (by rw[h.YQ];exact gm)<|by rw[h.k'];exact gk) (cH<|lR s) (cj _) (by decide) rfl)<|aY D.bl<|aY not<|(ES _ _ _).trans<|De s;cases s with
 |is b x=>cases z
 |ng a=>exact aq (aW<|Xs.eq (xf (v:=true) nb λy=>by cases y) rfl)|jn w a b=>exact aq<|aW<|Xs.eq (xf (v:=true) nb λy=>by cases y) rfl
 |bn w x a=>refine aq<|aW<|Xs.eq (xf nb λy=>mM (El t (mL 0 (aa t 0) rfl rfl) (aa t 1) (Dc x)<|Dc o) λ_=>aB t c2 (ab (mL 1 (aa t 0) rfl rfl) ag) ⟨a,rfl,hs.kid<|by simp[iM],rfl⟩) ?_;rw[T5];rfl
def KL(h:DefX P w K mg base k xt (ah sS) X)(YX:mg "all"=none)(c1:Callee X "fits_over" sH)(c2:Callee X "parts_of" (jz K))(g1:Nw mg K "BINDERS" BN):Go X xt sS tm:=by
 rintro ds r ⟨s,l,rfl,hs,rfl⟩;have t:=h.at';haveI:=h.X1;have b1:=h.bt YX;obtain⟨ga,gm,gk⟩:=g1;show Xt X [.val<|sD s,.val<|.str<|lW l,.un] _ _;refine au (ρ':=[.val<|sD s,.val<|.str<|lW l,.val<|.str<|lW (!l)]) ?_ ?_;·have e:=VU l;cases l with|true=>exact df t 2 (ke (Xu.eq (bv t (aa t 1) Xr<|Dc true) e) Xr)|false=>exact df t 2<|kg (Xu.eq (bv t (aa t 1) Xr<|Dc false) e) Xr
 refine aq<|aW<|Xs.eq (xi t b1<|XF.toQ<|XF.eq (dP t ["S","letter","other","part"] (Do<|by decide) (mV<|aB t c2 (ab (aa t 0)<|ab (oK t<|by rw[h.YQ];exact gm) ag) ⟨s,.adr ga,true,rfl,hs,.inr ⟨ga,rfl,gk,rfl⟩,rfl⟩) (wZ hs true) λX' cx=>X0.gen sD (λp=>.bl<|HH (!l) p) (λp=>[.val<|sD s,.val<|.str<|lW l,.val<|.str<|lW (!l),.val<|sD p]) (dz true s) _ (λp hp=>br cx.at' 3) (λp hp q hq=>br cx.at' 3) λp hp=>aB cx.at' (cx.callee c1) (ab (aa cx.at' 3 rfl)<|ab (aa cx.at' 2 rfl) ag) ⟨p,!l,rfl,Hi hs true p hp,rfl⟩)<|bls _ _) ?_;show _=D.bl (gw (!l) s);rw[WD,<-v5];rfl
def Ct(h:DefX P w K mg base k m7 (ah jK) X)(c1:Callee X "is_over" tm)(c2:Callee X "letter_stands" ir)(g1:Nw mg K "BINDERS" BN):Go X m7 jK nq:=by
 rintro ds r ⟨s,rfl,hs,rfl⟩;have t:=h.at';haveI:=h.X1;obtain⟨l,gm,gk⟩:=g1;show Xt X [.val<|sD s] _ _;refine xQ (Xu.eq (bv t (eY<|aa t 0) Xr<|lR s)<|xP s) (λz=>?_) λz=>?_;·cases s with|is b x=>exact aq (aW (mM (wo<|aB t c2 (ab Xr<|ab (mL 0 (aa t 0) rfl rfl) ag) ⟨true,b,rfl,hs.b.1.sm.up<|by decide,rfl⟩) λ_=>wo<|aB t c2 (ab Xr<|ab (mL 0 (aa t 0) rfl rfl) ag) ⟨false,b,rfl,hs.b.1.sm.up<|by decide,rfl⟩))|_=>cases z
 have nb:∀{p1 p2 p3 p4 p5:Pos}{j:Nat},Xs X [.val<|sD s] (.Compare (.Subscript (.Name "part" p1) (.Constant (.int 0) j p2) p3) [.NotIn] [.Name "BINDERS" p4] p5) (.bl (!H0 s)):=Xs.eq (Jp t (eY<|aa t 0).p (iZ t (by rw[h.YQ];exact gm)<|by rw[h.k'];exact gk) (cH<|lR s) (cj _) (by decide) rfl)<|aY D.bl<|aY not<|(ES _ _ _).trans<|De s;cases s with
 |is b x=>cases z
 |ng a=>exact aq (aW<|Xs.eq (xf (v:=true) nb λy=>by cases y) rfl)|jn w a b=>exact aq<|aW<|Xs.eq (xf (v:=true) nb λy=>by cases y) rfl
 |bn w x a=>exact aq<|aW<|Xs.eq (xf nb λy=>aB t c1 (ab (mL 1 (aa t 0) rfl rfl)<|ab (mL 0 (aa t 0) rfl rfl) ag) ⟨a,x,rfl,hs.kid<|by simp[iM],rfl⟩) rfl
def GA(h:DefX P w K mg base k rY (ah mw) X)(YX:mg "all"=none)(c1:Callee X "fits_closed" nq)(c2:Callee X "parts_of" (jz K))(g1:Nw mg K "BINDERS" BN):Go X rY mw sG:=by rintro ds r ⟨s,rfl,hs,rfl⟩;have t:=h.at';haveI:=h.X1;have b1:=h.bt YX;obtain⟨ga,gm,gk⟩:=g1;show Xt X [.val<|sD s] _ _;refine aq<|aW<|Xs.eq (xi t b1<|XF.toQ<|XF.eq (dP t ["S","part"] (Do<|by decide) (mV<|aB t c2 (ab (aa t 0)<|ab (oK t<|by rw[h.YQ];exact gm) ag) ⟨s,.adr ga,true,rfl,hs,.inr ⟨ga,rfl,gk,rfl⟩,rfl⟩) (wZ hs true) λX' cx=>X0.gen sD (λp=>.bl<|HI p) (λp=>[.val<|sD s,.val<|sD p]) (dz true s) _ (λp hp=>br cx.at' 1) (λp hp q hq=>br cx.at' 1) λp hp=>aB cx.at' (cx.callee c1) (ab (aa cx.at' 1 rfl) ag) ⟨p,rfl,Hi hs true p hp,rfl⟩)<|bls _ _) ?_;rw[WD,<-wz];rfl
end My
namespace My
open PySem L2 L2.EV
variable {K:bL}
def Q2(h:Yo r)(hn:r≠[]):∃i,r.getD i 0≠0/\i+1=r.length:=by
 rcases h with e |⟨ys,a,e,ha⟩;·exact absurd e hn
 ·refine⟨ys.length,?_,by rw[e];simp⟩;rw[e,List.getD_eq_getElem?_getD,List.getElem?_append_right<|aj _,j6];exact ha
def cA(f:Bd):Bd:=(List.range<|jo f).map λp=>eV (f.map λr=>r.getD p 0)
def oQ(f:Bd)(i k:Nat):eT (cA f) i k=eT f k i:=by
 unfold cA;show(((List.range<|jo f).map λp=>eV (f.map λr=>r.getD p 0)).getD k []).getD i 0=(f.getD i []).getD k 0;rw[uk];by_cases h:k<jo f;·rw[ar h,oh,List.getD_eq_getElem?_getD,List.getElem?_map,List.getD_eq_getElem?_getD (l:=f)];cases f[i]?<;>rfl
 ·rw[ak h,oJ<|aJ (OW f i)<|by lia];rfl
def uM(hf:XA f):XA (cA f):=by
 refine⟨?_,λr hr=>?_⟩
 ·rcases Ja f with e |⟨r,hr,e⟩;·left;unfold cA;rw[e];rfl
  ·by_cases hz:jo f=0;·left;unfold cA;rw[hz];rfl
   ·right;refine⟨(List.range<|jo f-1).map λp=>eV (f.map λr=>r.getD p 0),eV (f.map λr=>r.getD (jo f-1) 0),?_,λz=>?_⟩
    ·unfold cA
     conv=>lhs;rw[show jo f=(jo f-1)+1 by lia]
     rw[gj,aA];rfl
    ·obtain⟨i,hi,hl⟩:=Q2 (hf.2 r hr) (λq=>by rw[q]at e;simp at e;lia);obtain⟨k,hk,hkr⟩:=tq hr;have h1:=oh (f.map λr=>r.getD (jo f-1) 0) k;rw[z,List.getD_eq_getElem?_getD (l:=f.map λr=>r.getD (jo f-1) 0),List.getElem?_map,List.getElem?_eq_getElem hk,hkr]at h1;have h2:(0:Int)=r.getD (jo f-1) 0:=h1;rw[show jo f-1=i by lia]at h2;exact hi h2.symm
 ·obtain⟨p,_,rfl⟩:=List.mem_map.mp hr;exact G1 _
def wP(hf:XA f):cA (cA f)=f:=oR (uM<|uM hf) hf λi k=>by rw[oQ,oQ]
def Ll(hf:XA f)(h:Fit n f):Fit n (cA f):=Ei (uM hf) λi k q=>by rw[oQ];exact h.out<|by lia
def BA(ds:aU)(d:D):Prop:=∃f:Bd,ds=[ay f]/\Yy 1000 f/\d=ay (cA f)
def HB:∀ds d,BA ds d->ds.length=1:=by rintro _ _ ⟨a,rfl,_⟩;rfl
def Nj(h:DefX P w K mg base k Bw (ah vg) X)(Xy:mg "tuple"=none)(XJ:mg "range"=none)(c1:Callee X "row_of" sv)(c2:Callee X "part_at" oV)(c3:Callee X "length_of_rows" gP):Go X Bw vg BA:=by
 rintro ds d ⟨f,rfl,hf,rfl⟩;have t:=h.at';have b1:=h.bt Xy;have b2:=h.bt XJ;have hl:=hf.1;have hm:jo f<=1000:=OV λr hr=>j8<|hf.2 r hr;show Xt X [.val<|ay f] _ _;refine aq<|aW<|Xs.eq (fw t b1<|XF.toQ (dP (rs:=(List.range<|jo f).map λp=>bh<|eV (f.map λr=>r.getD p 0)) t ["f","power"] (Do<|by decide) (fz t b2 (aB t c3 (ab (aa t 0) ag) ⟨f,rfl,hf,rfl⟩) (by lia)<|by lia) (by simp[fv];rw[tY];lia) λX' cx=>?_)) ?_;·rw[dw];refine X0.gen (λ(i:Nat)=>D.int<|0+(i:Int)) _ (λ(i:Nat)=>[.val<|ay f,.val<|.int (i:Int)]) _ _ (λx hx=>by rw[iH];exact Gb cx 1) (λx hx y hy=>by rw[iH];exact Gb cx 1) λx hx=>?_;refine aB cx.at' (cx.callee c1) (ab (Xs.eq (XF.Ya (dP (rs:=f.map λr=>D.int<|r.getD x 0) cx.at' ["f","power","row"] (Do<|by decide) (ki<|aa cx.at' 0 rfl) (by rw[ae];exact uR hf.1) λX2 cx2=>?_))<|by show D.lst _=D.lst _;rw[bu];rfl) ag) ⟨_,rfl,by rw[ae];exact hl,rfl⟩;exact X0.gen bh _ (λr=>[.val<|ay f,.val<|.int (x:Int),.val<|bh r]) _ _ (λy hy=>br cx2.at' 2) (λy hy z hz=>br cx2.at' 2) λy hy=>aB cx2.at' (cx2.callee<|cx.callee c2) (ab (aa cx2.at' 2 rfl)<|ab (aa cx2.at' 1 rfl)<|ab ai ag)<|.inl ⟨y,x,rfl,rfl⟩
 ·show D.tup _=D.tup _;unfold cA;rw[bu];rfl
end My
namespace My
open PySem L2 L2.EV PyProof.Rows
variable {K:bL}
def PV:Sg->Prop
 |.is b p=>XA b/\Yy 1000 b/\p∈Yl|.neg s=>PV s
 |.qu _ _ s=>PV s|.two _ s t=>PV s/\PV t
def qk(ds:aU)(d:D):Prop:=∃i:Int,ds=[.int i]/\d=.bl true
def Eb:∀ds d,qk ds d->ds.length=1:=by rintro _ _ ⟨_,rfl,_⟩;rfl
def BC(ds:aU)(d:D):Prop:=∃f:be,ds=[bh f]/\Yo f/\f.length<1000/\d=.bl true
def HE:∀ds d,BC ds d->ds.length=1:=by rintro _ _ ⟨_,rfl,_⟩;rfl
def uH(ds:aU)(d:D):Prop:=∃b:Bd,ds=[ay b]/\XA b/\Yy 1000 b/\d=.bl true
def Ed:∀ds d,uH ds d->ds.length=1:=by rintro _ _ ⟨_,rfl,_⟩;rfl
def sF(ds:aU)(d:D):Prop:=∃l:Bool,ds=[.str<|S<|lw l]/\d=.bl true
def B1:∀ds d,sF ds d->ds.length=1:=by rintro _ _ ⟨_,rfl,_⟩;rfl
def sI(ds:aU)(d:D):Prop:=∃p∈Yl,ds=[bh p.2]/\d=.bl true
def B5:∀ds d,sI ds d->ds.length=1:=by rintro _ _ ⟨_,_,rfl,_⟩;rfl
def xy(ds:aU)(d:D):Prop:=∃y,ds=[dS y]/\PV y/\d=.bl true
def FQ:∀ds d,xy ds d->ds.length=1:=by rintro _ _ ⟨_,rfl,_⟩;rfl
def A2:Sg->List Sg
 |.is _ _=>[]|.neg s=>[s]
 |.qu _ _ s=>[s]|.two _ s t=>[s,t]
def wR:Sg->Sy
 |.is b p=>.is b p.2|.neg s=>.ng<|wR s
 |.qu a l s=>.bn a l (wR s)|.two a s t=>.jn a (wR s)<|wR t
def VO(a:Bool):bW a=S (qw a):=by cases a<;>decide
def Wa(a:Bool):jW a=S (aw a):=by cases a<;>decide
def VS(a:Bool):lW a=S (lw a):=by cases a<;>decide
def rc:∀y:Sg,sD (wR y)=dS y
 |.is b p=>rfl|.neg s=>by show D.tup _=D.tup _;rw[rc s]
 |.qu a l s=>by show D.tup _=D.tup _;rw[rc s,VO,VS]|.two a s t=>by show D.tup _=D.tup _;rw[rc s,rc t,Wa]
def RG(y:Sg):iM (wR y)=(A2 y).map wR:=by cases y<;>rfl
def VZ(y:Sg):jd [dS y] (.lst<|(A2 y).map dS):=⟨wR y,by rw[rc],by rw[RG,bu];exact aY D.lst (kD λx _=>(rc x).symm)⟩
def nS:Sg->Nat
 |.is _ _=>1|.neg s=>nS s+1
 |.qu _ _ s=>nS s+1|.two _ s t=>nS s+nS t+1
def mQ(ds:aU)(d:D):Prop:=∃y,ds=[dS y]/\PV y/\nS y<=10000/\d=.bl true
def BY:∀ds d,mQ ds d->ds.length=1:=by rintro _ _ ⟨_,rfl,_⟩;rfl
def six:List PyData:=[.tuple [.int (-1)],.tuple [.int 0],.tuple [.int 1],.tuple [.int (-1),.int 0],.tuple [.int 0,.int 1],.tuple [.int (-1),.int 1]]
def Ii(n:Nat):(List.replicate n true).all id=true:=by induction n<;>simp_all[bg]
def Hx{α:Type}(xs:List α):xs.map (λ_=>D.bl true)=(List.replicate xs.length true).map D.bl:=by induction xs<;>simp_all[bg]
def NL:Sg->Str
 |.is _ _=>"is"|.neg _=>"not"
 |.qu a _ _=>S (qw a)|.two a _ _=>S<|aw a
def DF:Sg->aU
 |.is b p=>[ay b,bh p.2]|.neg s=>[dS s]
 |.qu _ l s=>[.str<|S<|lw l,dS s]|.two _ s t=>[dS s,dS t]
def Uu(y:Sg):dS y=.tup (.str (NL y)::DF y):=by cases y<;>rfl
def RY(y:Sg):PyData.strOk (NL y)=true:=by
 cases y with
 |is=>exact(show PyData.strOk "is"=true by decide)|neg=>exact(show PyData.strOk "not"=true by decide)
 |qu a=>exact fO (by cases a<;>decide)|two a=>exact fO<|xS a
def Ic(h:DefX P w K mg base k uB (ah pA) X)(Xw:mg "isinstance"=none)(Zi:mg "int"=none)(zDO:mg "bool"=none):Go X uB pA qk:=by rintro ds r ⟨i,rfl,rfl⟩;have t:=h.at';haveI:=h.X1;have b1:=h.bt Xw;have b2:=h.bt Zi;have b3:=h.bt zDO;exact aq<|aW<|Xs.eq (mM (MP t b1 b2 (aa t 0) rfl) λ_=>wo<|Pj t b1 b3 (aa t 0) rfl) rfl
def Nl(h:DefX P w K mg base k By (ah vj) X)(Xw:mg "isinstance"=none)(Xy:mg "tuple"=none)(YX:mg "all"=none)(c1:EV.Callee X "is_whole" qk):Go X By vj BC:=by
 rintro ds r ⟨f,rfl,hf,hl,rfl⟩;have t:=h.at';haveI:=h.X1;have b1:=h.bt Xw;have b2:=h.bt Xy;have b3:=h.bt YX;refine au (bw (Xu.eq (pM (Xu.eq (iC<|eD<|wp t b1 b2 (aa t 0) rfl) rfl) λ_=>Xu.eq (iC<|eD<|xi t b3<|XF.toQ<|XF.eq (dP t ["thing","number"] (Do<|by decide) (ki<|aa t 0) (by rw[ae,cO];lia) λX' cx=>X0.all (λd=>[.val<|bh f,.val d]) (λ_=>.bl true) (f.map D.int) _ (λd hd=>br cx.at' 1) (λd hd e he=>br cx.at' 1) λd hd=>by obtain⟨i,_,rfl⟩:=List.mem_map.mp hd;exact aB cx.at' (cx.callee c1) (ab (aa cx.at' 1 rfl) ag) ⟨i,rfl,rfl⟩)<|Hx _)<|by rw[Ii]<;>rfl) rfl) bc) ?_
 rcases hf with rfl |⟨ys,a,rfl,ha⟩;·exact aq<|aW<|HK<|Bb t (Xs.p<|aa t 0) (Xs.p<|aG ag) (bz []) (bz [])<|by have:=io [] [];exact this
 ·exact aq<|aW<|HL (Bb t (Xs.p<|aa t 0) (Xs.p<|aG ag) (bz _) (bz [])<|by have:=io (ys++[a]) [];rw[ao<|by simp]at this;exact this)<|Ek<|Xs.eq (Sd t (bU (Xs.qt<|aa t 0) (gX ai)<|by rw[aA];exact wF<|.inl rfl) ai)<|by rw[ao ha];rfl
def Ig(h:DefX P w K mg base k uD (ah pC) X)(Xw:mg "isinstance"=none)(Xy:mg "tuple"=none)(YX:mg "all"=none)(c1:EV.Callee X "is_row" BC):Go X uD pC uH:=by
 rintro ds r ⟨b,rfl,hb,hl,rfl⟩;have t:=h.at';haveI:=h.X1;have b1:=h.bt Xw;have b2:=h.bt Xy;have b3:=h.bt YX;have hl1:=hl.1;refine au (bw (Xu.eq (pM (Xu.eq (iC<|eD<|wp t b1 b2 (aa t 0) rfl) rfl) λ_=>Xu.eq (iC<|eD<|xi t b3<|XF.toQ<|XF.eq (dP t ["thing","row"] (Do<|by decide) (ki<|aa t 0) (by rw[ae,cO];lia) λX' cx=>X0.all (λd=>[.val<|ay b,.val d]) (λ_=>.bl true) (b.map bh) _ (λd hd=>br cx.at' 1) (λd hd e he=>br cx.at' 1) λd hd=>by obtain⟨r,hr,rfl⟩:=List.mem_map.mp hd;exact aB cx.at' (cx.callee c1) (ab (aa cx.at' 1 rfl) ag) ⟨r,rfl,hb.2 r hr,hl.2 r hr,rfl⟩)<|Hx _)<|by rw[Ii]<;>rfl) rfl) bc) ?_
 rcases hb.1 with rfl |⟨ys,a,rfl,ha⟩;·exact aq<|aW<|HK<|Bb t (Xs.p<|aa t 0) (Xs.p<|aG ag) (bz []) (bz [])<|by have:=io [] [];exact this
 ·exact aq<|aW<|HL (Bb t (Xs.p<|aa t 0) (Xs.p<|aG ag) (gG _) (bz [])<|by have:=jt<|ys++[a];rw[ao<|by simp]at this;exact this)<|Ek<|MO t (Xs.p<|bU (Xs.qt<|aa t 0) (gX ai)<|by rw[aA];exact wF<|.inl rfl) (Xs.p (d:=bh [])<|aG ag) (bz a) (bz [])<|by rw[io,ao ha];rfl
def Gz(h:DefX P w K mg base k rX (ah mv) X)(Xw:mg "isinstance"=none)(Zh:mg "str"=none)(g1:Nw mg K "LETTERS" (.tuple [.str "x",.str "y"])):Go X rX mv sF:=by rintro ds r ⟨l,rfl,rfl⟩;have t:=h.at';haveI:=h.X1;have b1:=h.bt Xw;have b2:=h.bt Zh;obtain⟨a,gm,gk⟩:=g1;exact aq<|aW<|Xs.eq (mM (rN t b1 b2 (aa t 0) rfl) λ_=>MS t (aa t 0) (by rw[h.YQ];exact gm) (by rw[h.k'];exact gk)<|fO<|by cases l<;>decide)<|aY D.bl<|by cases l<;>decide
def GE(h:DefX P w K mg base k sg (ah mz) X)(Xw:mg "isinstance"=none)(Xy:mg "tuple"=none)(YX:mg "all"=none)(c1:EV.Callee X "is_whole" qk)(g1:Nw mg K "SIGNS_SAID" (.tuple six)):Go X sg mz sI:=by
 rintro ds r ⟨p,hp,rfl,rfl⟩;have t:=h.at';haveI:=h.X1;have b1:=h.bt Xw;have b2:=h.bt Xy;have b3:=h.bt YX;obtain⟨l,gm,gk⟩:=g1;have f:=A8 p.2;have hl:p.2.length<=2:=(show∀p∈Yl,p.2.length<=2 by decide) p hp;refine aq<|aW<|Xs.eq (Pq (wp t b1 b2 (aa t 0) rfl) (λ_=>Xs.eq (xi t b3<|XF.toQ<|XF.eq (dP t ["thing","sign"] (Do<|by decide) (ki<|aa t 0) (by rw[ae,cO];lia) λX' cx=>X0.all (λd=>[.val<|bh p.2,.val d]) (λ_=>.bl true) (p.2.map D.int) _ (λd hd=>br cx.at' 1) (λd hd e he=>br cx.at' 1) λd hd=>by obtain⟨i,_,rfl⟩:=List.mem_map.mp hd;exact aB cx.at' (cx.callee c1) (ab (aa cx.at' 1 rfl) ag) ⟨i,rfl,rfl⟩)<|Hx _)<|by rw[Ii]) λ_ _=>MR t (Xs.p<|aa t 0) (iZ t (by rw[h.YQ];exact gm)<|by rw[h.k'];exact gk) f.1 (by have:=f.2.1;show(dY<|bh p.2).depth<=62;lia) (by decide) ?_) rfl
 exact(show∀p∈Yl,(six.any λy=>PyData.eqv y<|dY<|bh p.2)=true by decide) p hp
def KM(h:DefX P w K mg base k xu (ah sT) X)(XD:mg "len"=none)(Xw:mg "isinstance"=none)(Xy:mg "tuple"=none)(Zh:mg "str"=none)(c1:EV.Callee X "is_letter" sF)(c2:EV.Callee X "is_board" uH)(c3:EV.Callee X "are_signs" sI)(g1:Nw mg K "BINDERS" (.tuple [.str "some",.str "all"])):Go X xu sT xy:=by
 rintro ds r ⟨y,rfl,hy,rfl⟩;have t:=h.at';haveI:=h.X1;have b1:=h.bt Xw;have b2:=h.bt Xy;have b3:=h.bt XD;have b4:=h.bt Zh;obtain⟨l,gm,gk⟩:=g1;rw[Uu];have hl:(D.str (NL y)::DF y).length=2\/(D.str (NL y)::DF y).length=3:=by cases y<;>simp[DF]
 have h23:(!(decide ((D.str (NL y)::DF y).length=2)||decide ((D.str (NL y)::DF y).length=3)))=false:=by rcases hl with e |e<;>rw[e]<;>rfl
 have hw:=RY y;have n0:∀{p1 p2 p3:Pos}{j:Nat},Xs X [.val<|.tup<|.str (NL y)::DF y] (.Subscript (.Name "thing" p1) (.Constant (.int 0) j p2) p3) (.str<|NL y):=eh 0 (aa t 0) ai rfl rfl;have ln:∀{p1 p2 p3:Pos},Xs X [.val<|.tup<|.str (NL y)::DF y] (.Call (.Name "len" p1) [.Name "thing" p2] [] p3) (.int ((.str (NL y)::DF y:aU).length:Nat)):=c7 t b3<|Xs.qt<|aa t 0;refine au (bw (Xu.eq (En (Xu.eq (iC<|eD<|wp t b1 b2 (aa t 0) rfl) rfl) (λ_=>Xu.eq (Eo t ln (aG<|ab ai<|ab ai ag) rfl (Pw _) rfl<|T0 _) h23) λ_ _=>Xu.eq (iC<|eD<|rN t b1 b4 n0 rfl) rfl) rfl) bc) ?_;cases y with
 |neg s=>exact ei (dj (Xu.eq (bv t n0 Xr hw) (show decide (("not":Str)="not")=true by decide))<|aq<|aW<|Xs.eq (Si t ln ai) rfl)|is b p=>refine au (bw (Xu.eq (bv t n0 Xr hw) (show decide (("is":Str)="not")=false by decide)) bc)<|au (bw (Xu.eq (bZ ln ai) rfl) bc)<|ei<|dj (Xu.eq (bv t n0 Xr hw) (show decide (("is":Str)="is")=true by decide))<|aq<|aW<|Xs.eq (mM (aB t c2 (ab (eh 1 (aa t 0) ai rfl rfl) ag) ⟨b,rfl,hy.1,hy.2.1,rfl⟩) λ_=>aB t c3 (ab (eh 2 (aa t 0) ai rfl rfl) ag) ⟨p,hy.2.2,rfl,rfl⟩) rfl
 |qu a x s=>refine au (bw (Xu.eq (bv t n0 Xr hw) (show decide (S (qw a)="not")=false by cases a<;>decide)) bc) (au (bw (Xu.eq (bZ ln ai) rfl) bc)<|au (bw (Xu.eq (bv t n0 Xr hw) (show decide (S (qw a)="is")=false by cases a<;>decide)) bc)<|ei<|dj (Xu.eq (HN t n0 (by rw[h.YQ];exact gm) (by rw[h.k'];exact gk) hw) (show(decide (S (qw a)="some")||decide (S (qw a)="all"))=true by cases a<;>decide))<|aq<|aW<|aB t c1 (ab (eh 1 (aa t 0) ai rfl rfl) ag) ⟨x,rfl,rfl⟩)|two a s u=>refine au (bw (Xu.eq (bv t n0 Xr hw) (show decide (S (aw a)="not")=false by cases a<;>decide)) bc)<|au (bw (Xu.eq (bZ ln ai) rfl) bc)<|au (bw (Xu.eq (bv t n0 Xr hw) (show decide (S (aw a)="is")=false by cases a<;>decide)) bc)<|au (bw (Xu.eq (HN t n0 (by rw[h.YQ];exact gm) (by rw[h.k'];exact gk) hw) (show(decide (S (aw a)="some")||decide (S (aw a)="all"))=false by cases a<;>decide)) bc)<|aq<|aW<|Xs.eq (Sh t n0 hw)<|aY D.bl (show(decide (S (aw a)="and")||decide (S (aw a)="or"))=true by cases a<;>decide)
def Gx(h:DefX P w K mg base k rV (ah ms) X)(XD:mg "len"=none)(c1:EV.Callee X "is_head" xy)(c2:EV.Callee X "sayings_in" jd):Go X rV ms mQ:=by
 rintro ds r ⟨y,rfl,hy,hn,rfl⟩;have t:=h.at';haveI:=h.X1;have b1:=h.bt XD;refine au (gV t 1<|bI<|ab (aa t 0) ag) ?_;refine oM t (λws=>[.val<|dS y,.own<|ws.map dS,.un]) (λws=>(∀x∈ws,PV x)/\(ws.map nS).sum<=10000) (λws=>True) (λws=>(ws.map nS).sum) [y] ⟨λx hx=>by rw[aP.mp hx];exact hy,by simp;exact hn⟩ (λws hI=>?_) λws _=>aq<|aW t5;obtain⟨h1,h2⟩:=hI;rcases bV ws with rfl |⟨ys,z,e⟩;·exact .inl ⟨Xu.eq (i6 (c7 t b1<|dL t 1 rfl) ai) rfl,trivial⟩
 rw[cG]at e;subst e;have hz:PV z:=h1 z (by simp);have np:∀s:Sg,1<=nS s:=λs=>by cases s<;>simp[nS]
 have ll:∀vs:List Sg,vs.length<=(vs.map nS).sum:=λvs=>by induction vs with|nil=>exact aj _|cons v vs ih=>have:=np v;simp;lia
 have hk:((A2 z).map nS).sum+1=nS z:=by cases z<;>simp[A2,nS]
 rw[aA,fm]at h2;simp only[aH,K1,List.sum_cons,List.sum_nil]at h2;refine .inr ⟨Xu.eq (i6 (c7 t b1<|dL t 1 rfl) ai)<|aF<|by simp,.inr ⟨ys++A2 z,Xt.weak (ρ1:=[.val<|dS y,.own<|(ys++A2 z).map dS,.val<|dS z]) ?_<|.keep<|.keep<|.forget .nil,⟨λx hx=>?_,?_⟩,?_⟩⟩;·have l1:=ll<|ys++A2 z;rw[aA,fm]at l1;rw[aA,aA];refine au (vh t 1 2 rfl<|by decide)<|au (bw (Xu.eq (iC<|eD<|aB t c1 (ab (aa t 2) ag) ⟨z,rfl,hz,rfl⟩) rfl) bc)<|aq<|Aq t 1 rfl (aB t c2 (ab (aa t 2) ag)<|VZ z) ?_;rw[ac]at l1;rw[ae,ae,cO];lia
 ·rcases aL.mp hx with q |q;·exact h1 x<|by simp[q]
  ·cases z with
   |is=>simp[A2]at q|neg s=>simp[A2]at q;subst q;exact hz
   |qu a l s=>simp[A2]at q;subst q;exact hz|two a s u=>simp[A2]at q;rcases q with rfl |rfl;exact hz.1;exact hz.2
 ·rw[aA,fm];lia
 ·rw[aA,fm,aA,fm];simp;lia
end My
set_option maxHeartbeats 8000000
namespace My
open PySem L2 L2.EV
variable {K:bL}
def J9{k:be}(v:Int)(h:fM acc k=none):fG acc k v=acc++[(k,v)]:=by unfold fG;rw[h];exact ak<|by decide
def FX:∀(L acc:gn),(acc.map (·.1)++L.map (·.1)).Nodup->L.foldl (λacc p=>fG acc p.1 p.2) acc=acc++L
 |[],acc,_=>by simp
 |p::L,acc,nd=>by
  rw[dB,J9 p.2 (lq λq hq e=>?_),FX L];·simp
  ·simpa using nd
  ·rw[aH,List.nodup_append]at nd;exact nd.2.2 q.1 (List.mem_map.mpr ⟨q,hq,rfl⟩) p.1 (by simp) e
abbrev K2(p:be×Int):be×Int:=([p.1.getD 1 0,p.1.getD 0 0],p.2)
def iX(P:gn):gn:=P.foldl (λacc p=>fG acc (K2 p).1 (K2 p).2) []
def Kj(h:Zq P):iX P=P.map K2:=by
 have e:iX P=(P.map K2).foldl (λacc p=>fG acc p.1 p.2) []:=by unfold iX;rw[List.foldl_map]
 rw[e,FX _ _ ?_];·simp
 ·rw[K1,List.nil_append,bu];have nd:=h.nd;have hk:=h.keys;clear e h;induction P with|nil=>exact List.nodup_nil|cons p P ih=>rw[aH,cY]at nd ⊢;refine⟨λz=>nd.1 ?_,ih nd.2 λq hq=>hk q<|by simp[hq]⟩;obtain⟨q,hq,e⟩:=List.mem_map.mp z;obtain⟨a,c,ep⟩:=hk p (by simp);obtain⟨a2,c2,eq⟩:=hk q (by simp[hq]);have e':(K2 q).1=(K2 p).1:=e;simp only[K2,ep,eq]at e';have e'':nk c2 a2=nk c a:=e';obtain⟨e1,e2⟩:=D5 e'';refine List.mem_map.mpr ⟨q,hq,?_⟩;show q.1=p.1;rw[ep,eq,e1,e2]
def C7(h:Zq P)(φ:Nat->Nat->Int):Zq (iX P)/\ds (iX P) φ=ds P (λi k=>φ k i)/\(iX P).length<=P.length:=by
 have e:=Kj h;have k1:∀(L acc:gn),Zq acc->(∀p∈L,∃i k:Nat,p.1=nk i k)->Zq (L.foldl (λacc p=>fG acc (K2 p).1 (K2 p).2) acc):=by
  intro L;induction L with
  |nil=>intro acc h _;exact h
  |cons p L ih=>
   intro acc h hk;obtain⟨a,c,ep⟩:=hk p (by simp);rw[dB];refine ih _ ?_ λq hq=>hk q (by simp[hq]);have:(K2 p).1=nk c a:=by simp only[K2,ep];rfl
   rw[this];exact h.put _ _ _
 refine⟨k1 P [] .nil h.keys,?_,by rw[e,ae];exact aj _⟩;rw[e];have hk:=h.keys;clear e k1 h;induction P with|nil=>rfl|cons p P ih=>obtain⟨a,c,ep⟩:=hk p (by simp);rw[aH,ds,ds,ih λq hq=>hk q<|by simp[hq]];simp[K2,ep]
def GZ(hf:XA f)(hn:Fit n f)(h9:n<=9):gO (iX<|jr f)=cA f:=by
 refine oR (pO _) (uM hf) λi k=>?_;rw[pN,oQ];obtain⟨k1,k2,_⟩:=C7 (AF f)<|wv i k;split
 ·rw[<-Ss k1,k2,M7,<-HY];refine Ni f λa c=>?_;unfold wv;by_cases h:c=i/\a=k;·rw[ar h,ar ⟨h.2,h.1⟩]
  ·rw[ak h,ak λz=>h ⟨z.2,z.1⟩]
 ·rename_i q;rw[hn.out<|by lia]
def Gp(kvs:gn):SN (gO kvs):=⟨pO kvs,cn (sQ _)<|by simp,λr hr=>by obtain⟨k,_,rfl⟩:=List.mem_map.mp<|Da hr;exact cn (qO _)<|by simp⟩
def cK(way:Int)(q:be):Bool:=(decide (way=1)&&decide (q.getD 0 0+q.getD 1 0=0))||((decide (way=2)&&decide (q.getD 1 0=0))||((decide (way=3)&&decide (q.getD 0 0=0))||decide (3<way)))
def NJ(way:Int)(kvs:gn):gn:=kvs.foldl (λacc p=>if cK way p.1=true then fG acc p.1 p.2 else acc) []
def T8(c way:Int):Bd:=gO<|NJ way<|jr<|OY c
def jh(ds:aU)(r:D):Prop:=∃c way:Int,ds=[.int c,.int way]/\r=ay (T8 c way)
def tz:∀ds d,jh ds d->ds.length=2:=by rintro _ _ ⟨_,_,rfl,_⟩;rfl
def Mz(way:Int):∀(kvs acc:gn),(kvs.foldl (λacc p=>if cK way p.1=true then fG acc p.1 p.2 else acc) acc).length<=acc.length+kvs.length
 |[],acc=>aj _
 |p::kvs,acc=>by
  have h1:=Mz way kvs (if cK way p.1=true then fG acc p.1 p.2 else acc);have h2:(if cK way p.1=true then fG acc p.1 p.2 else acc).length<=acc.length+1:=by
   split;·exact vm acc p.1 p.2
   ·lia
  rw[dB,aS];lia
def Sm(ha:Xu X ρ a u)(hb:Xu X ρ b v)(hc:Xu X ρ c w)(hd:Xu X ρ d z):Xu X ρ (.BoolOp .Or [a,b,c,d] pos) (u||(v||(w||z))):=by cases u with|true=>exact YB.toT (pJ ha)|false=>cases v with|true=>exact YB.toT (fU ha<|pJ hb)|false=>cases w with|true=>exact YB.toT (fU ha<|fU hb<|pJ hc)|false=>exact YB.toT<|fU ha<|fU hb<|fU hc<|lT hd
def wD(h:DefX P w K mg base k ja (ah ge) X)(c1:Yz X "_law_parts" lh)(c2:Callee X "_law_board_of" eU)(c3:Callee X "_law_board" qy):Go X ja ge jh:=by
 rintro ds r ⟨cc,way,rfl,rfl⟩;have t:=h.at';haveI:=h.X1;have ok:SN (OY cc):=Gp _;have kok:=AF<|OY cc;have kl:=C5 ok.sm;unfold T8;show Xt X [.val<|.int cc,.val<|.int way,.un,.un,.un,.un] _ _;refine au (wU t 2<|ip t c1 (ab (aB t c3 (ab (aa t 0) ag) ⟨cc,rfl,rfl⟩) ag) ⟨OY cc,rfl,ok.sm.up<|by decide,rfl⟩) ?_;generalize jr (OY cc)=kvs at kok kl ⊢;refine uq 2 rfl<|au (wU t 3 Bj) ?_;show Xt X [.val<|.int cc,.val<|.int way,.val<|.XQ kvs,.Ye [],.un,.un] _ _;refine au (fF t (Eu<|aa t 2)<|XO.XW (λj=>[.val<|.int cc,.val<|.int way,.val<|.XQ kvs,.Ye<|NJ way<|kvs.take j,.un,.un]) (λj d hj=>?_) rfl<|by rw[ae,a7])<|uq 3 rfl<|aq<|aW<|aB t c2 (ab (aa t 3) ag) ⟨_,rfl,rfl⟩;rw[List.getElem?_map]at hj;obtain⟨p,hp,rfl⟩:=Option.map_eq_some_iff.mp hj;have hjl:j<kvs.length:=(List.getElem?_eq_some_iff.mp hp).1;have zFK:=List.mem_of_getElem? hp;obtain⟨i,k2,e⟩:=kok.keys p zFK;obtain⟨p1,v⟩:=p;dsimp only at e;subst e;have hv:fM kvs (nk i k2)=some v:=n8 kok.nd zFK;have e1:NJ way (kvs.take<|j+1)=if cK way (nk i k2)=true then fG (NJ way<|kvs.take j) (nk i k2) v else NJ way (kvs.take j):=by unfold NJ;rw[nu,hp,gu];rfl
 have hal:(NJ way<|kvs.take j).length<=1000:=by have:=Mz way (kvs.take j) [];rw[bC]at this;unfold NJ;simp only[cZ]at this;lia
 rw[show T7 (nk i k2,v)=.tup [.int i,.int k2]from rfl];refine⟨_,gN t 4 5,Xt.weak (ρ1:=[.val<|.int cc,.val<|.int way,.val<|.XQ kvs,.Ye<|NJ way<|kvs.take<|j+1,.val<|.int i,.val<|.int k2]) ?_<|.keep<|.keep<|.keep<|.keep<|.forget<|.forget .nil⟩;rw[e1];generalize NJ way (kvs.take j)=acc at hal;show Xt X [.val<|.int cc,.val<|.int way,.val<|.XQ kvs,.Ye acc,.val<|.int i,.val<|.int k2] _ _;have tst:=λ{p:Pos}{a b c d:Expr}(ha:Xu X [.val<|.int cc,.val<|.int way,.val<|.XQ kvs,.Ye acc,.val<|.int i,.val<|.int k2] a (decide (way=1)&&decide ((nk i k2).getD 0 0+(nk i k2).getD 1 0=0)))(hb:Xu X [.val<|.int cc,.val<|.int way,.val<|.XQ kvs,.Ye acc,.val<|.int i,.val<|.int k2] b (decide (way=2)&&decide ((nk i k2).getD 1 0=0)))(hc:Xu X [.val<|.int cc,.val<|.int way,.val<|.XQ kvs,.Ye acc,.val<|.int i,.val<|.int k2] c (decide (way=3)&&decide ((nk i k2).getD 0 0=0)))(hd:Xu X [.val<|.int cc,.val<|.int way,.val<|.XQ kvs,.Ye acc,.val<|.int i,.val<|.int k2] d (decide<|3<way))=>(show Xu X [.val<|.int cc,.val<|.int way,.val<|.XQ kvs,.Ye acc,.val<|.int i,.val<|.int k2] (.BoolOp .Or [a,b,c,d] p) (cK way<|nk i k2)from Sm ha hb hc hd);by_cases hc:cK way (nk i k2)=true;·rw[ar hc];refine aq<|dj (Xu.eq (tst (gi (bZ (aa t 1) ai) λ_=>bZ (cu (aa t 4)<|aa t 5) ai) (gi (bZ (aa t 1) ai) λ_=>bZ (aa t 5) ai) (gi (bZ (aa t 1) ai) λ_=>bZ (aa t 4) ai)<|i6 (aa t 1) ai) hc) ?_;exact aq<|Ar t (Em t (Xs.dr<|aa t 2) (aG<|ab (aa t 4)<|ab (aa t 5) ag) hv)<|wu t 3 rfl (aG<|ab (aa t 4)<|ab (aa t 5) ag)<|by rw[tY];lia
 ·rw[ak hc];exact aq<|bw (Xu.eq (tst (gi (bZ (aa t 1) ai) λ_=>bZ (cu (aa t 4)<|aa t 5) ai) (gi (bZ (aa t 1) ai) λ_=>bZ (aa t 5) ai) (gi (bZ (aa t 1) ai) λ_=>bZ (aa t 4) ai)<|i6 (aa t 1) ai)<|by simpa using hc) bc
def IV{n:Nat}(b:Bd)(k:Nat)(hk:k<n)(h:Zb n acc):∀i,i<=n->Zb n (IW b k acc i)|0,_=>h|i+1,hi=>Zb.put (IV b k hk h i<|by lia) (by lia) hk _
def FD(h:Fit n b):∀k,k<=n->Zb n (w5 b k)
 |0,_=>λ_ q=>(nomatch q)
 |k+1,hk=>IV b k (by lia) (FD h k<|by lia) _<|h.2 k
def Ki(h:Fit n b):Zb n (jr b):=FD h _ h.1
def Qs(way:Int):∀(kvs acc:gn),Zb n kvs->VB M kvs->Zb n acc->VB M acc->Zb n (kvs.foldl (λacc p=>if cK way p.1=true then fG acc p.1 p.2 else acc) acc)/\VB M (kvs.foldl (λacc p=>if cK way p.1=true then fG acc p.1 p.2 else acc) acc)
 |[],acc,_,_,h1,h2=>⟨h1,h2⟩
 |p::kvs,acc,k1,k2,h1,h2=>by
  refine Qs way kvs _ (λq hq=>k1 q<|aO _ hq) (λq hq=>k2 q<|aO _ hq) ?_ ?_
  ·dsimp only;split;·obtain⟨i,k,e,hi,hk⟩:=k1 p<|bo ..;rw[e];exact h1.put hi hk _
   ·exact h1
  ·dsimp only;split;·exact h2.put<|k2 p<|bo ..
   ·exact h2
def RL(c way:Int):LB (T8 c way):=by have z:=Qs way (jr<|OY c) [] (Ki (Mv c).fit) (Md (Mv c).bb) (λ_ q=>nomatch q) λ_ q=>nomatch q;exact Qp z.1 z.2
end My
set_option maxHeartbeats 4000000
namespace My
open PySem L2 L2.EV PyProof.Rows
variable {K:bL}
def Uz(i:Int):bH×be:=Yl.getD (i%6).toNat ([60],[-1])
def Uc(bs:List Bd)(x:Int):Sg:=.is (bs.getD (x / 6%(bs.length:Int)).toNat [])<|Uz<|x / 32
def mi(bs:List Bd):Nat->be->Sg|0,xs=>Uc bs (xs.getD 0 0)|n+1,xs=>if xs.getD 0 0%6=0\/xs.length / 2<2 then Uc bs (xs.getD 0 0)else if xs.getD 0 0%6=1 then .neg (mi bs n<|xs.drop 1)else if xs.getD 0 0%6<4 then .two (decide<|xs.getD 0 0%2=0) (mi bs n<|(xs.drop 1).take<|xs.length / 2) (mi bs n<|xs.drop<|xs.length / 2)else .qu (decide<|xs.getD 0 0%2=0) (decide<|xs.getD 0 0 / 6%2=0)<|mi bs n<|xs.drop 1
def j5:Nat->aU->D->Prop|0,_,_=>False|n+1,ds,d=>∃(bs:List Bd)(m:Nat)(xs:be),ds=[dJ xs,.lst<|bs.map ay,.int (m:Int)]/\m<=n/\bs.length=3/\xs≠[]/\xs.length<=100/\d=dS (mi bs m xs)
def t4:∀n ds d,j5 n ds d->ds.length=3|0,_,_,h=>h.elim|n+1,_,_,⟨_,_,_,h,_⟩=>by rw[h];rfl
def Uy(x:Int):qL [bh [-1],bh [0],bh [1],bh [-1,0],bh [0,1],bh [-1,1]] (x%6)=some (bh (Uz x).2):=by
 have h:x%6=0\/x%6=1\/x%6=2\/x%6=3\/x%6=4\/x%6=5:=by lia
 unfold Uz;rcases h with e |e |e |e |e |e<;>rw[e]<;>rfl
def SE(x:Int):Uz x∈Yl:=by
 have h:(x%6).toNat<6:=by lia
 unfold Uz;generalize(x%6).toNat=n at h;revert n;decide
def SJ{u v:Str}{f:Bool->Str}(hu:f true=u)(hv:f false=v)(i:Int):qL [D.str u,.str v] (i%2)=some (.str<|f<|decide<|i%2=0):=by
 have h:i%2=0\/i%2=1:=by lia
 rcases h with e |e;·rw[e,aF rfl,hu];rfl
 ·rw[e,ao<|by lia,hv];rfl
def wy{xs:be}{n:Nat}:EV.cutD (xs.map D.int) (some (n:Int)) none=(xs.drop n).map D.int:=by rw[Pz,List.map_drop]
def YH{n k:Nat}(h:k<=n):HT.XS n d (some (k:Int))=k:=by rw[HT.YH];lia
def GG(h:DefX P w K mg base k sj (ah mE) X)(XD:mg "len"=none)(n:Nat)(c0:EV.Callee X "_law_said" (j5 n)):Go X sj mE (j5<|n+1):=by
 rintro ds d ⟨bs,m,xs,rfl,hm,hb,hx,hl,rfl⟩;have t:=h.at';haveI:=h.X1;have b1:=h.bt XD;have hp:=List.length_pos_iff.mpr hx;have hh:((xs.map D.int).length:Int) / 2=((xs.length / 2:Nat):Int):=by rw[ae];lia
 refine au (df t 3<|bU (Xs.ql<|aa t 0) ai<|kj<|by lia)<|au (gV t 4<|bI<|ab (aG<|ab (gX ai) ag)<|ab (aG<|ab ai ag)<|ab (aG<|ab ai ag)<|ab (aG<|ab (gX ai)<|ab ai ag)<|ab (aG<|ab ai<|ab ai ag)<|ab (aG<|ab (gX ai)<|ab ai ag) ag)<|fQ 4 rfl<|au (df t 5<|Xs.eq (pL t (c7 t b1<|Xs.ql<|aa t 0) ai<|by decide)<|by rw[hh]) ?_;let R:Sl->cJ:=λs=>[.val<|dJ xs,.val<|.lst<|bs.map ay,.val<|.int m,.val<|.int<|xs.getD 0 0,.val<|.lst [bh [-1],bh [0],bh [1],bh [-1,0],bh [0,1],bh [-1,1]],.val<|.int ((xs.length / 2:Nat):Int),s];show Xt X (R .un) _ _;have x6:∀{p1 p2 p3:Pos}{j:Nat},Xs X (R .un) (.BinOp (.Name "_law_x" p1) .Mod (.Constant (.int 6) j p2) p3) (.int<|xs.getD 0 0%6):=bS (aa t 3) ai (by decide);by_cases h0:m=0\/xs.getD 0 0%6=0\/xs.length / 2<2
 ·have e:mi bs m xs=Uc bs (xs.getD 0 0):=by cases m with|zero=>rfl|succ m=>show(if _ then _ else _)=_;rw[ar<|h0.resolve_left<|by lia]
  rw[e];refine ei<|dj (Xu.eq (En (bZ (aa t 2) ai) (λ_=>bZ x6 ai) λ_ _=>fy (aa t 5) ai) ?_)<|aq<|aW<|aG<|ab Xr<|ab (bU (Xs.ql<|aa t 1) (bS (pL t (aa t 3) ai<|by decide) (c7 t b1<|Xs.ql<|aa t 1)<|by rw[ae];lia) ?_)<|ab (bU (Xs.ql<|aa t 4) (bS (pL t (aa t 3) ai<|by decide) ai<|by decide)<|Uy _) ag
  ·rcases h0 with z |z |z;·rw[aF (show(m:Int)=0 by lia)];rfl
   ·rw[aF z];simp
   ·rw[aF (show((xs.length / 2:Nat):Int)<2 by lia)];simp
  ·rw[SI rfl (by rw[ae];lia)<|ay [],ae];generalize(xs.getD 0 0 / 6%(bs.length:Int)).toNat=i;rw[List.getD_eq_getElem?_getD,List.getD_eq_getElem?_getD,List.getElem?_map];cases bs[i]?<;>rfl
 obtain⟨m,rfl⟩:∃r,m=r+1:=⟨m-1,by lia⟩;obtain⟨n,rfl⟩:∃r,n=r+1:=⟨n-1,by lia⟩;refine au (bw (Xu.eq (En (bZ (aa t 2) ai) (λ_=>bZ x6 ai) λ_ _=>fy (aa t 5) ai)<|by rw[ao<|by lia,ao<|by lia,ao<|by lia];rfl) bc) ?_;have call:∀(ys:be){s:Sl}{e:Expr}{p1 p3 p4 p5 p6 p7:Pos}{j:Nat},XF X (R s) e (ys.map D.int)->Pl e->ys≠[]->ys.length<=100->Xs X (R s) (.Call (.Name "_law_said" p1) [e,.Name "_law_boards" p3,.BinOp (.Name "_law_deep" p4) .Sub (.Constant (.int 1) j p5) p6] [] p7) (dS<|mi bs m ys):=λys{s e p1 p3 p4 p5 p6 p7 j}he Zy h1 h2=>aB t c0 (ab (XF.Ya he) (ab (aa t 1)<|ab (Xs.eq (fV (aa t 2) ai) (show _=D.int (m:Nat)by rw[show((m+1:Nat):Int)-1=(m:Nat)by lia])) ag) Zy) ⟨bs,m,ys,rfl,by lia,hb,h1,h2,rfl⟩;show Xt X (R .un) _ (.rt<|dS (if _ then _ else _));rw[ak λz=>h0<|.inr z];have hd:xs.drop 1≠[]:=λz=>by have:=aY List.length z;simp at this;lia
 have hdl:(xs.drop 1).length<=100:=by rw[de];lia
 by_cases h1:xs.getD 0 0%6=1;·rw[ar h1];exact ei<|dj (Xu.eq (bZ x6 ai)<|aF h1)<|aq<|aW<|aG<|ab Xr<|ab (call _ (XF.eq (fu (Xs.ql<|aa t 0) (dG ai) dD)<|wy) (by intro _ _;rfl) hd hdl) ag
 rw[ak h1];refine au (bw (Xu.eq (bZ x6 ai)<|ao h1) bc) ?_;by_cases h4:xs.getD 0 0%6<4
 ·rw[ar h4];have o1:∀{p0 p1 p2 p3 p4 p5 p6 p7 p8 p9 pa pb pc:Pos}{j j2 j3:Nat},Xs X (R .un) (.Call (.Name "_law_said" p0) [.Subscript (.Name "_law_xs" p2) (.Slice (some<|.Constant (.int 1) j p3) (some<|.BinOp (.Name "_law_half" p4) .Add (.Constant (.int 1) j2 p5) p6) none p7) p8,.Name "_law_boards" p9,.BinOp (.Name "_law_deep" pa) .Sub (.Constant (.int 1) j3 pb) pc] [] p1) (dS<|mi bs m<|(xs.drop 1).take<|xs.length / 2):=call _ (XF.eq (fu (Xs.ql<|aa t 0) (dG ai)<|dG<|cu (aa t 5) ai)<|by rw[show((xs.length / 2:Nat):Int)+1=((xs.length / 2+1:Nat):Int)by lia,ic,fX,YH<|by lia,show(1:Int)=((1:Nat):Int)from rfl,YH<|by lia,Nat.add_sub_cancel]) (by intro _ _;rfl) (λz=>by have:=aY List.length z;simp at this;lia)<|by simp;lia
  have o2:∀{s:Sl}{p0 p1 p2 p4 p7 p8 p9 pa pb pc:Pos}{j3:Nat},Xs X (R s) (.Call (.Name "_law_said" p0) [.Subscript (.Name "_law_xs" p2) (.Slice (some<|.Name "_law_half" p4) none none p7) p8,.Name "_law_boards" p9,.BinOp (.Name "_law_deep" pa) .Sub (.Constant (.int 1) j3 pb) pc] [] p1) (dS<|mi bs m<|xs.drop<|xs.length / 2):=call _ (XF.eq (fu (Xs.ql<|aa t 0) (dG<|aa t 5) dD) wy) (by intro _ _;rfl) (λz=>by have:=aY List.length z;simp at this;lia) (by simp;lia);exact ei<|dj (Xu.eq (fy x6 ai)<|aF h4)<|au (df t 6 o1)<|aq<|aW<|aG<|ab (bU (XF.toQ<|bI<|ab Xr<|ab Xr ag) (bS (aa t 3) ai<|by decide)<|SJ (f:=λa=>S<|aw a) (by decide) (by decide) _)<|ab (aa t 6)<|ab (o2) ag
 rw[ak h4];refine au (bw (Xu.eq (fy x6 ai)<|ao h4) bc) ?_;exact aq<|aW<|aG<|ab (bU (XF.toQ<|bI<|ab Xr<|ab Xr ag) (bS (aa t 3) ai<|by decide)<|SJ (f:=λa=>S<|qw a) (by decide) (by decide) _)<|ab (bU (XF.toQ<|bI<|ab Xr<|ab Xr ag) (bS (pL t (aa t 3) ai<|by decide) ai<|by decide)<|SJ (f:=λa=>S<|lw a) (by decide) (by decide) _)<|ab (call _ (XF.eq (fu (Xs.ql<|aa t 0) (dG ai) dD)<|wy) (by intro _ _;rfl) hd hdl) ag
def DE{s:Sy}(h1:VY s=false)(h2:H0 s=false):QJ s=(iM s).map sD:=by
 cases s with
 |is=>cases h1
 |bn=>cases h2
 |ng=>rfl|jn=>rfl
def T6{n:Nat}{s a:Sy}(hd:Cd s<=n)(ha:a∈iM s):∃m,n=m+1/\Cd a<=m:=by have:=Qq ha;exact⟨n-1,by lia,by lia⟩
section
variable {s:Sy}
def Pd(ha:Xs X ρ a (sD s)):Xs X ρ (.Subscript a (.Slice (some<|.Constant (.int 1) j p1) none none p2) p3) (.tup<|QJ s):=by rw[DP]at ha;exact Xs.eq (Jx ha (dG ai) dD)<|by rw[Uw]
end
def Zq.take(h:Zq P)(j:Nat):Zq (P.take j):=⟨λp hp=>h.keys p<|cX hp,by rw[UY];exact h.nd.sublist<|List.take_sublist _ _⟩
def Dh:Sy->Sy
 |.is b s=>.is (cA b) s|.ng a=>.ng<|Dh a
 |.jn w a b=>.jn w (Dh a) (Dh b)|.bn w l a=>.bn w (!l)<|Dh a
def YO:Sy->Prop
 |.is b s=>LB b/\s.length<=2|.ng a=>YO a
 |.jn _ a b=>YO a/\YO b|.bn _ _ a=>YO a
def YO.kid{s a:Sy}(h:YO s)(ha:a∈iM s):YO a:=by
 cases s<;>simp[iM]at ha;·subst ha;exact h
 ·rcases ha with rfl |rfl;·exact h.1
  ·exact h.2
 ·subst ha;exact h
def LB.okB(h:LB b):SN b:=⟨h.ok,h.fit.sm<|by decide⟩
def YO.b:∀{s:Sy},YO s->Cz s
 |.is _ _,h=>⟨h.1.okB,h.2⟩|.ng a,h=>YO.b (s:=a) h
 |.jn _ a b,h=>⟨YO.b h.1,YO.b h.2⟩|.bn _ _ a,h=>YO.b (s:=a) h
def dF:Nat->aU->D->Prop|0,_,_=>False|n+1,ds,d=>∃s,ds=[sD s]/\YO s/\Cd s<=n/\d=sD (Dh s)
def lP:∀n ds d,dF n ds d->ds.length=1|0,_,_,h=>h.elim|n+1,_,_,⟨_,h,_⟩=>by rw[h];rfl
def Ls(s:Sy):(QJ s).length<=2:=by cases s<;>simp[QJ]
def xo(h:DefX P w K mg base k jx (ah gK) X)(Xy:mg "tuple"=none)(Zi:mg "int"=none)(cP:Yz X "_law_parts" lh)(cB:EV.Callee X "_law_board_of" eU)(n:Nat)(c0:EV.Callee X "_law_exchanged" (dF n)):Go X jx gK (dF<|n+1):=by
 rintro ds d ⟨s,rfl,hs,hd,rfl⟩;have t:=h.at';haveI:=h.X1;have b1:=h.bt Xy;have b2:=h.bt Zi;show Xt X [.val<|sD s,.un,.un,.un,.un] _ _;refine xQ (Xu.eq (bv t (eY<|aa t 0) Xr<|lR s)<|xP s) (λz=>?_) λz=>?_
 ·cases s with
  |is f x=>
   have hf:=hs.1;refine au (df t 1<|Yc.Ya<|ip t cP (ab (mL 0 (aa t 0) rfl rfl) ag) ⟨f,rfl,hf.fit.sm<|by lia,rfl⟩)<|au (wU t 2 Bj) ?_;have lA:=C5<|hf.fit.sm (by lia);have kA:=AF f;have e2:=GZ hf.ok hf.fit (by lia);generalize jr f=A at lA kA e2;refine au (fF t (Eu<|aa t 1)<|XO.XW (λi=>[.val<|sD<|.is f x,.val<|.XQ A,.Ye<|iX<|A.take i,.un,.un]) (λi d hi=>?_) rfl<|by rw[ae,a7])<|uq 2 rfl<|aq<|aW<|aG<|ab Xr<|ab (aB t cB (ab (aa t 2) ag) ⟨_,rfl,by rw[e2]⟩)<|ab (mL 1 (aa t 0) rfl rfl) ag;rw[List.getElem?_map]at hi;obtain⟨⟨key,v⟩,hq,rfl⟩:=Option.map_eq_some_iff.mp hi;have hm:(key,v)∈A:=List.mem_of_getElem? hq;obtain⟨a,c,e⟩:=kA.keys _ hm;have e':key=nk a c:=e;subst e';have hv:=n8 kA.nd hm;have l1:=(C7 (kA.take i) λ_ _=>0).2.2;have l3:(A.take i).length<=1000:=by rw[bC];lia
   have eo:iX (A.take<|i+1)=fG (iX<|A.take i) [(c:Int),(a:Int)] v:=by rw[iI hq];unfold iX;rw[gu];rfl
   refine⟨_,gN t 3 4,Xt.weak (aq<|X5.eq (Ar t (Em t (Xs.dr<|aa t 1) (aG<|ab (aa t 3)<|ab (aa t 4) ag) hv)<|wu (k:=[(c:Int),(a:Int)]) t 2 rfl (aG<|ab (aa t 4)<|ab (aa t 3) ag)<|by rw[tY];lia)<|by rw[eo];rfl)<|.keep<|.keep<|.keep<|.forget<|.forget .nil⟩
  |_=>cases z
 have kd:∀a∈iM s,dF n [sD a] (sD<|Dh a):=λa ha=>by obtain⟨m,e,hm⟩:=T6 hd ha;subst e;exact⟨a,rfl,hs.kid ha,hm,rfl⟩
 refine xQ (Xu.eq (MX t (eY<|aa t 0)<|lR s)<|De s) (λy=>?_) λy=>?_
 ·cases s with
  |bn w l a=>refine aq<|aW<|aG<|ab (eY (s:=.bn w l a)<|aa t 0)<|ab (bU (XF.toQ<|bI<|ab Xr<|ab Xr ag) (Ju t b2<|El t (mL 0 (aa t 0) rfl rfl) Xr<|Dc l) ?_)<|ab (aB t c0 (ab (mL 1 (aa t 0) rfl rfl) ag)<|kd a<|by simp[iM]) ag;rw[T4];cases l<;>rfl
  |_=>cases y
 refine aq<|aW<|Xs.eq (Pp (aG<|ab (eY<|aa t 0) ag) (fw t b1<|XF.toQ (dP t ["_law_saying","_law_parts_here","_law_found","_law_i","_law_k","_law_part"] (Do<|by decide) (ZX.eq (ki<|Pd<|aa t 0)<|DE z y) (cn (by rw[<-DE z y];exact Ls s)<|by decide) λX' cx=>X0.gen sD (λp=>sD<|Dh p) (λp=>[.val<|sD s,.un,.un,.un,.un,.val<|sD p]) (iM s) _ (λp hp=>br cx.at' 5) (λp hp q hq=>br cx.at' 5) λp hp=>aB cx.at' (cx.callee c0) (ab (aa cx.at' 5 rfl) ag)<|kd p hp)) (by simp) ?_ ?_) ?_;·cases s<;>simp[VY,H0,iM]at z y ⊢
 ·have:=Ls s;rw[DE z y]at this;simp at this ⊢;exact aJ (GN this 1)<|by decide
 ·cases s with
  |is=>cases z
  |bn=>cases y
  |_=>rfl
def Qr(s:Sy):List Bool:=[fT s,gw false s,gw true s,kH s]
abbrev NP(us:List Bool):D:=.lst<|us.map D.bl
def li(ds:aU)(d:D):Prop:=∃s,ds=[sD s]/\Zv s/\d=NP (Qr s)
def AY:∀ds d,li ds d->ds.length=1:=by rintro _ _ ⟨_,rfl,_⟩;rfl
def sM(ds:aU)(d:D):Prop:=∃us vs:List Bool,ds=[NP us,NP vs]/\us.length=4/\d=NP ((us.zip vs).map λp=>p.1&&p.2)
def B9:∀ds d,sM ds d->ds.length=2:=by rintro _ _ ⟨_,_,rfl,_⟩;rfl
def fZ(ds:aU)(d:D):Prop:=∃a b,ds=[sD a,sD b]/\Zv a/\Zv b/\d=.tup ((cg []<|n4 a++n4 b).map ay)
def oI:∀ds d,fZ ds d->ds.length=2:=by rintro _ _ ⟨_,_,rfl,_⟩;rfl
def K9:∀us vs:List Bool,xW (us.map D.bl) (vs.map D.bl)=(us.zip vs).map λp=>D.tup [.bl p.1,.bl p.2]
 |[],_=>rfl|_::_,[]=>rfl
 |u::us,v::vs=>aY (D.tup [.bl u,.bl v]::·)<|K9 us vs
def J4(acc:List Bd)(b z:Bd):z∈gc acc b↔z∈acc\/z=b:=by
 unfold gc;split;·rename_i h;exact⟨.inl,λq=>q.elim id λe=>e▸h⟩
 ·simp
def sO(acc xs:List Bd)(b:Bd):cg acc (xs++[b])=gc (cg acc xs) b:=z9 acc xs [b]
def JQ(acc xs:List Bd):cg acc (cg [] xs)=cg acc xs:=by
 suffices ∀n,cg acc (cg []<|xs.take n)=cg acc (xs.take n)by have:=this xs.length;rwa[a7]at this
 intro n;induction n with
 |zero=>rfl
 |succ n ih=>
  cases e:xs[n]? with
  |none=>rw[c8<|aJ (List.getElem?_eq_none_iff.mp e)<|NU n,<-c8 (List.getElem?_eq_none_iff.mp e)];exact ih
  |some b=>
   rw[iI e,sO,sO];by_cases hb:b∈cg [] (xs.take n);·rw[show gc (cg []<|xs.take n) b=_ from ar hb,ih];refine(ar ?_).symm;rw[z8]at hb ⊢;exact .inr<|hb.resolve_left λz=>nomatch z
   ·rw[show gc (cg []<|xs.take n) b=_ from ak hb,sO,ih]
def uu:∀s:Sy,(n4 s).length<=cS s
 |.is _ _=>aj _|.ng a=>by have:=uu a;simp[n4,cS];lia
 |.jn _ a b=>by have:=uu a;have:=uu b;simp[n4,cS];lia|.bn _ _ a=>by have:=uu a;simp[n4,cS];lia
def EQ(h:DefX P w K mg base k qc (ah kW) X)(c1:EV.Callee X "is_plain" qm)(c2:EV.Callee X "is_over" tm)(c3:EV.Callee X "is_closed" sG):Go X qc kW li:=by rintro ds d ⟨s,rfl,hs,rfl⟩;have t:=h.at';exact aq<|aW<|XF.Ya<|bI<|ab (aB t c1 (ab (aa t 0) ag) ⟨s,rfl,hs,rfl⟩)<|ab (aB t c2 (ab (aa t 0)<|ab Xr ag) ⟨s,true,rfl,hs,rfl⟩)<|ab (aB t c2 (ab (aa t 0)<|ab Xr ag) ⟨s,false,rfl,hs,rfl⟩)<|ab (aB t c3 (ab (aa t 0) ag) ⟨s,rfl,hs,rfl⟩) ag
def GI(h:DefX P w K mg base k sn (ah mH) X)(zE9:mg "zip"=none):Go X sn mH sM:=by rintro ds d ⟨us,vs,rfl,hl,rfl⟩;have t:=h.at';have b1:=h.bt zE9;refine aq<|aW<|XF.Ya<|XF.eq (dP t ["_law_one","_law_other","_law_a","_law_b"] (Do<|by decide) (ZX.eq (Sn t b1 (aa t 0)<|aa t 1)<|K9 us vs) (cn (m:=4) ?_<|by decide) λX' cx=>X0.gen (λp:Bool×Bool=>D.tup [.bl p.1,.bl p.2]) (λp=>.bl<|p.1&&p.2) (λp=>[.val<|NP us,.val<|NP vs,.val<|.bl p.1,.val<|.bl p.2]) (us.zip vs) _ (λp hp=>Ga cx.at' 2 3) (λp hp q hq=>Ga cx.at' 2 3) λp hp=>mM (aa cx.at' 2 rfl) λ_=>aa cx.at' 3 rfl) (by rw[bu];rfl);simp[List.length_zip,hl];lia
def qI(h:DefX P w K mg base k fY (ah eQ) X)(Y8:mg "list"=none)(Xy:mg "tuple"=none)(c1:EV.Callee X "boards_of" iL):Go X fY eQ fZ:=by
 rintro ds d ⟨a,b,rfl,ha,hb,rfl⟩;have t:=h.at';haveI:=h.X1;have b1:=h.bt Y8;have b2:=h.bt Xy;refine au (gV t 2<|Et t b1<|Xs.qt<|aB t c1 (ab (aa t 0) ag) ⟨a,rfl,ha,rfl⟩) ?_;have hU:(cg []<|n4 a).length<=1000:=by have a1:=og (n4 a) [];have a2:=uu a;have:=ha.c;simp only[cZ]at a1;lia
 have hV:(cg []<|n4 b).length<=1000:=by have a1:=og (n4 b) [];have a2:=uu b;have:=hb.c;simp only[cZ]at a1;lia
 rw[z9,<-JQ _ (n4 b)];have cb:iL [sD b] (.tup<|(cg []<|n4 b).map ay):=⟨b,rfl,hb,rfl⟩;show Xt X [.val<|sD a,.val<|sD b,.own<|(cg []<|n4 a).map ay,.un] _ _;generalize cg [] (n4 a)=U at hU;generalize cg [] (n4 b)=V at hV cb;refine au (fF t (ki<|aB t c1 (ab (aa t 1) ag) cb)<|XO.XW (λj=>[.val<|sD a,.val<|sD b,.own<|(cg U<|V.take j).map ay,.un]) (λj d hj=>?_) rfl<|by rw[ae,a7])<|aq<|aW<|fw t b2<|dL t 2 rfl;rw[List.getElem?_map]at hj;obtain⟨z,hz,rfl⟩:=Option.map_eq_some_iff.mp hj;have hal:=og (V.take j) U;rw[bC]at hal;refine⟨_,dA t 3,Xt.weak (ρ1:=[.val<|sD a,.val<|sD b,.own<|(cg U<|V.take<|j+1).map ay,.val<|ay z]) ?_<|.keep<|.keep<|.keep<|.forget .nil⟩;rw[iI hz,sO];generalize cg U (V.take j)=acc at hal;have fb:=lS z;have tst:=λ{p1 p2 p3:Pos}=>(MU t (aa t 3) 2 rfl fb.1 (by have:=fb.2.1;lia) (Dp acc) (by rw[Bs]):Xu X [.val<|sD a,.val<|sD b,.own<|acc.map ay,.val<|ay z] (.Compare (.Name "_law_board_here" p1) [.NotIn] [.Name "_law_found" p2] p3) (!decide (z∈acc)));by_cases hm:z∈acc;·exact Xt.eq (aq<|bw (Xu.eq tst<|by rw[aF hm];rfl) bc)<|by rw[show gc acc z=acc from ar hm];rfl
 ·exact Xt.eq (aq<|dj (Xu.eq tst<|by rw[ao hm];rfl)<|aq<|dI t 2 rfl (aa t 3)<|by rw[ae,cO];lia)<|by rw[show gc acc z=acc++[z]from ak hm,aA];rfl
def GoodG:Sg->Prop
 |.is b p=>SB b/\XA b/\Yy 1000 b/\p∈Yl|.neg s=>GoodG s
 |.qu _ _ s=>GoodG s|.two _ s t=>GoodG s/\GoodG t
def GoodG.ok:∀{y:Sg},GoodG y->PX y
 |.is b p,h=>⟨h.1,h.2.2.2⟩|.neg s,h=>GoodG.ok (y:=s) h
 |.qu _ _ s,h=>GoodG.ok (y:=s) h|.two _ s t,h=>⟨GoodG.ok h.1,GoodG.ok h.2⟩
def QX:SB []:=⟨⟨by decide,λi=>by simp⟩,λi k=>by show(0:Int).natAbs<_;decide⟩
def PJ:XA []:=⟨.inl rfl,λr hr=>nomatch hr⟩
def GoodG.rd:∀{y:Sg},GoodG y->hG y<=20->∃ps c,Rd y ps c/\ps.length<=hG y/\E3 c<=hG y
 |.is b p,h,_=>by obtain⟨T,hT⟩:=CT h.1 h.2.1;obtain⟨U,hU⟩:=CT QX PJ;exact⟨[],_,.is hT hU h.2.2.1 h.2.1 h.2.2.2,aj _,aj _⟩
 |.neg s,h,hh=>by obtain⟨ps,c,h1,h2,h3⟩:=GoodG.rd (y:=s) h (by simp[hG]at hh;lia);exact⟨_,c,.neg h1,by simp[hG];exact h2,by simp[hG];lia⟩
 |.qu a l s,h,hh=>by obtain⟨ps,c,h1,h2,h3⟩:=GoodG.rd (y:=s) h (by simp[hG]at hh;lia);exact⟨_,c,.qu h1,by simp[hG];exact h2,by simp[hG];lia⟩
 |.two a s t,h,hh=>by simp[hG]at hh;obtain⟨p,c,h1,h2,h3⟩:=GoodG.rd h.1 (by lia);obtain⟨q,e,g1,g2,g3⟩:=GoodG.rd h.2 (by lia);exact⟨[],_,.two h1 (by lia) g1<|by lia,bB _,by simp[E3,hG];lia⟩
def Fit.up{m:Nat}(h:Fit n b)(hm:n<=m):Fit m b:=⟨aJ h.1 hm,λk=>aJ (h.2 k) hm⟩
def LB.sb(h:LB b):SB b:=⟨h.fit.up<|by decide,λi k=>cn (h.bb i k)<|by decide⟩
def GB(b:Bd):Prop:=SB b/\XA b/\Yy 1000 b
def LB.gb(h:LB b):GB b:=⟨h.sb,h.ok,h.fit.sm<|by decide⟩
def LB.YI(h:LB b):∀t,(My.Zg b t).length<=3*t|0=>by simp[My.Zg]|t+1=>by rw[vn,ac];have:=LB.YI h t;have a:=vk (b.getD (b.length-1-t) []) (b.length-1-t) (b.getD (b.length-1-t) []).length;have c:=h.fit.2<|b.length-1-t;lia
def LB.sh(h:LB b):(Fp b).length<=207:=by
 have a:=h.YI b.length;have c:(jT<|xZ b).length<=23*(Zg b b.length).length:=DN<|h.sb.Zg b.length;have d:=h.fit.1;unfold Fp;split;·decide
 ·lia
def GL:Sg->Prop
 |.is b p=>LB b/\p∈Yl|.neg s=>GL s
 |.qu _ _ s=>GL s|.two _ s t=>GL s/\GL t
def GL.tx:∀{y:Sg},GL y->(ka y).length+20<=235*2 ^ hG y
 |.is b p,h=>by have:=h.1.sh;have:p.1.length<=2:=(show∀p∈Yl,p.1.length<=2 by decide) p h.2;simp[ka,hG];lia|.neg s,h=>by have:=GL.tx (y:=s) h;have:=tF;simp[ka,hG,qN];lia
 |.qu a l s,h=>by
  have:=GL.tx (y:=s) h;have:=tF;have:(qw a).length<=4:=by cases a<;>decide
  have:(lw l).length=1:=by cases l<;>rfl
  simp[ka,hG];lia
 |.two a s t,h=>by
  have:=GL.tx h.1;have:=GL.tx h.2;have e:=tF;have:2 ^ hG s<=2 ^ max (hG s) (hG t):=dH (by decide)<|Nat.le_max_left ..;have:2 ^ hG t<=2 ^ max (hG s) (hG t):=dH (by decide)<|Nat.le_max_right ..;have:(aw a).length<=3:=by cases a<;>decide
  simp only[ka,hG,aS,ac,cZ];rw[e];lia
def GL.good:∀{y:Sg},GL y->GoodG y
 |.is b p,h=>⟨h.1.sb,h.1.ok,h.1.gb.2.2,h.2⟩|.neg s,h=>GL.good (y:=s) h
 |.qu _ _ s,h=>GL.good (y:=s) h|.two _ s t,h=>⟨GL.good h.1,GL.good h.2⟩
def GL.zBB:∀{y:Sg},GL y->YO (wR y)
 |.is b p,h=>⟨h.1,(show∀p∈Yl,p.2.length<=2 by decide) p h.2⟩|.neg s,h=>GL.zBB (y:=s) h
 |.qu _ _ s,h=>GL.zBB (y:=s) h|.two _ s t,h=>⟨GL.zBB h.1,GL.zBB h.2⟩
def NO:Sg->Sg
 |.is b p=>.is (cA b) p|.neg s=>.neg<|NO s
 |.qu a l s=>.qu a (!l) (NO s)|.two a s t=>.two a (NO s)<|NO t
def CO:∀y:Sg,wR (NO y)=Dh (wR y)
 |.is b p=>rfl|.neg s=>aY Sy.ng<|CO s
 |.qu a l s=>aY (Sy.bn a (!l)) (CO s)|.two a s t=>by show Sy.jn a _ _=Sy.jn a _ _;rw[CO s,CO t]
def LB.turn(h:LB b):LB (cA b):=⟨uM h.ok,Ll h.ok h.fit,λi k=>by rw[oQ];exact h.bb k i⟩
def GL.ex:∀{y:Sg},GL y->GL (NO y)
 |.is b p,h=>⟨h.1.turn,h.2⟩|.neg s,h=>GL.ex (y:=s) h
 |.qu _ _ s,h=>GL.ex (y:=s) h|.two _ s t,h=>⟨GL.ex h.1,GL.ex h.2⟩
def GL.okW:∀{y:Sg},GL y->PV y
 |.is b p,h=>⟨h.1.ok,h.1.gb.2.2,h.2⟩|.neg s,h=>GL.okW (y:=s) h
 |.qu _ _ s,h=>GL.okW (y:=s) h|.two _ s t,h=>⟨GL.okW h.1,GL.okW h.2⟩
def Ff:∀y:Sg,Cd (wR y)=hG y
 |.is b p=>rfl|.neg s=>aY (·+1)<|Ff s
 |.qu a l s=>aY (·+1) (Ff s)|.two a s t=>by show max _ _+1=max _ _+1;rw[Ff s,Ff t]
def G3:∀y:Sg,nS y+1<=2 ^ (hG y+1)
 |.is b p=>by simp[nS,hG]|.neg s=>by have:=G3 s;have:=tF;simp only[nS,hG];lia
 |.qu a l s=>by have:=G3 s;have:=tF;simp only[nS,hG];lia|.two a s t=>by have:=G3 s;have:=G3 t;have:=tF;have:2 ^ (hG s+1)<=2 ^ (max (hG s) (hG t)+1):=dH (by decide) (by lia);have:2 ^ (hG t+1)<=2 ^ (max (hG s) (hG t)+1):=dH (by decide) (by lia);simp only[nS,hG];lia
def G4:∀y:Sg,cS (wR y)=nS y
 |.is b p=>rfl|.neg s=>aY (·+1)<|G4 s
 |.qu a l s=>aY (·+1) (G4 s)|.two a s t=>by show cS _+cS _+1=_;rw[G4 s,G4 t];rfl
def GL.okS(h:GL y)(hh:hG y<=5):Zv (wR y):=⟨by rw[Ff];lia,by rw[G4];have:=G3 y;have:2 ^ (hG y+1)<=2 ^ 6:=dH (by decide) (by lia);lia,h.zBB.b⟩
def Kx:∀y:Sg,hG (NO y)=hG y
 |.is b p=>rfl|.neg s=>aY (·+1)<|Kx s
 |.qu a l s=>aY (·+1) (Kx s)|.two a s t=>by show max _ _+1=max _ _+1;rw[Kx s,Kx t]
def qQ(h:XA b)(l:Bool):iu l (cA b)=iu (!l) b:=by
 have e1:(cA b).length=jo b:=by simp[cA]
 have e2:jo (cA b)=b.length:=by
  have:(cA<|cA b).length=jo (cA b):=by simp[cA]
  rw[<-this,wP h]
 cases l;·show decide (1<(cA b).length)=decide (1<jo b);rw[e1]
 ·show decide (1<jo (cA b))=decide (1<b.length);rw[e2]
def rM:∀s:Sy,fT (Dh s)=fT s
 |.is b s=>rfl|.ng a=>rM a
 |.jn w a b=>by show(fT _&&fT _)=_;rw[rM a,rM b];rfl|.bn w l a=>rfl
def s9:∀{s:Sy}(o:Bool),YO s->gw o (Dh s)=gw (!o) s
 |.is b s,o,h=>by show(!iu o (cA b))= !iu (!o) b;rw[qQ h.1.ok]|.ng a,o,h=>s9 (s:=a) o h
 |.jn w a b,o,h=>by show(gw o _&&gw o _)=_;rw[s9 o h.1,s9 o h.2];rfl|.bn w l a,o,h=>by show((!l)==o&&fT (Dh a))=(l== !o&&fT a);rw[rM];cases l<;>cases o<;>rfl
def zo:∀{s:Sy},YO s->kH (Dh s)=kH s
 |.is b s,h=>by show(!iu true (cA b)&& !iu false (cA b))=(!iu true b&& !iu false b);rw[qQ h.1.ok,qQ h.1.ok,Bool.and_comm];rfl|.ng a,h=>zo (s:=a) h
 |.jn w a b,h=>by show(kH _&&kH _)=_;rw[zo h.1,zo h.2];rfl|.bn w l a,h=>by show gw (!!l) (Dh a)=gw (!l) a;rw[s9 (s:=a) _ h,Bool.not_not]
def MM{s:Sy}(h:YO s):Qr (Dh s)=[fT s,gw true s,gw false s,kH s]:=by unfold Qr;rw[rM,s9 _ h,s9 _ h,zo h];rfl
def A9:∀s:Sy,n4 (Dh s)=(n4 s).map cA
 |.is b s=>rfl|.ng a=>A9 a
 |.jn w a b=>by show n4 _++n4 _=(n4 a++n4 b).map cA;rw[A9 a,A9 b,aA]|.bn w l a=>A9 a
def Fd:∀(xs acc:List Bd),(∀b∈xs,XA b)->(∀b∈acc,XA b)->cg (acc.map cA) (xs.map cA)=(cg acc xs).map cA
 |[],acc,_,_=>rfl
 |x::xs,acc,h,g=>by
  have hx:=h x<|bo ..;have e:cA x∈acc.map cA↔x∈acc:=⟨λz=>by obtain⟨y,hy,e⟩:=List.mem_map.mp z;have:=aY cA e;rw[wP<|g y hy,wP hx]at this;exact this▸hy,λz=>List.mem_map_of_mem z⟩
  have st:gc (acc.map cA) (cA x)=(gc acc x).map cA:=by
   unfold gc;by_cases q:x∈acc;·rw[ar q,ar<|e.mpr q]
   ·rw[ak q,ak λz=>q<|e.mp z,aA];rfl
  show cg (gc (acc.map cA)<|cA x) (xs.map cA)=(cg (gc acc x) xs).map cA;rw[st];exact Fd xs _ (λb hb=>h b<|aO _ hb) λb hb=>((J4 acc x b).mp hb).elim (g b) λq=>q▸hx
def Ky{s:Sy}(h:YO s):cg [] (n4<|Dh s)=(cg []<|n4 s).map cA:=by rw[A9];exact Fd (n4 s) [] (λb hb=>(Dv h.b b hb).ok) λ_ q=>nomatch q
def IE{bs:List Bd}(hb:∀b∈bs,LB b)(h3:bs.length=3):∀(m:Nat)(xs:be),GL (mi bs m xs)/\hG (mi bs m xs)<=m:=by
 have is:∀x:Int,GL (Uc bs x)/\hG (Uc bs x)=0:=λx=>by
  have hl:(x / 6%(bs.length:Int)).toNat<bs.length:=by rw[h3];lia
  refine⟨⟨?_,SE _⟩,rfl⟩;rw[List.getD_eq_getElem?_getD,List.getElem?_eq_getElem hl];exact hb _<|y3 hl
 intro m;induction m with
 |zero=>intro xs;exact⟨(is _).1,gt (is _).2⟩
 |succ m ih=>
  intro xs;unfold mi;split;·exact⟨(is _).1,by rw[(is _).2];lia⟩
  split;·have:=ih<|xs.drop 1;exact⟨this.1,ND this.2⟩
  split;·have a:=ih<|(xs.drop 1).take<|xs.length / 2;have b:=ih<|xs.drop<|xs.length / 2;exact⟨⟨a.1,b.1⟩,ND<|Nat.max_le.mpr ⟨a.2,b.2⟩⟩
  ·have:=ih<|xs.drop 1;exact⟨this.1,ND this.2⟩
def qv(ds:aU)(d:D):Prop:=∃y z:Sg,ds=[dS y,dS z]/\GL y/\GL z/\hG y<=3/\hG z<=3/\d=.bl true
def AW:∀ds d,qv ds d->ds.length=2:=by rintro _ _ ⟨_,_,rfl,_⟩;rfl
def FY(us:List Bool):Fn 2 (NP us):=Fn.lst λx hx=>by obtain⟨b,_,rfl⟩:=List.mem_map.mp hx;exact Fn.bl b
def MI(us:List Bd):Fn 4 (.tup<|us.map ay):=Fn.tup λx hx=>by obtain⟨b,_,rfl⟩:=List.mem_map.mp hx;exact lS b
def N2{s:Sy}(h:Zv s):∀b∈cg [] (n4 s),SN b:=λb hb=>Dv h.b b (((z8 (n4 s) [] b).mp hb).resolve_left λz=>nomatch z)
def EO(h:DefX P w K mg base k pZ (ah kT) X)(Xy:mg "tuple"=none)(cK:EV.Callee X "_law_kinds" li)(cE:EV.Callee X "_law_exchanged" (dF 5))(cB:EV.Callee X "boards_of" iL)(cI:EV.Callee X "is_saying" mQ)(cR:EV.Callee X "read_saying" (ie R1))(cM:EV.Callee X "_law_both" sM)(cU:EV.Callee X "_law_boards_of_both" fZ)(cW:EV.Callee X "show_saying" jP)(cT:EV.Callee X "turned" BA):Go X pZ kT qv:=by
 rintro ds d ⟨y,z,rfl,gy,gz,hy,hz,rfl⟩;have t:=h.at';haveI:=h.X1;have b1:=h.bt Xy;have oy:=gy.okS (by lia);have oz:=gz.okS (by lia);have ly:=gy.zBB;have ox:Zv (Dh<|wR y):=by rw[<-CO];exact gy.ex.okS<|by rw[Kx];lia
 have ci:mQ [sD<|Dh<|wR y] (.bl true):=by rw[<-CO,rc];refine⟨NO y,rfl,gy.ex.okW,?_,rfl⟩;have:=G3<|NO y;have:2 ^ (hG (NO y)+1)<=2 ^ 4:=dH (by decide) (by rw[Kx];lia);lia
 have tl:(ka y).length<=2000:=by have:=gy.tx;have:2 ^ hG y<=2 ^ 3:=dH (by decide) hy;lia
 have cs:jP [sD<|wR y] (.str<|S<|ka y):=by rw[rc];exact⟨y,rfl,gy.good.ok,by lia,tl,rfl⟩
 have cr:ie R1 [.str<|S<|ka y] (sD<|wR y):=by obtain⟨ps,c,hr,hp,hd⟩:=gy.good.rd (by lia);rw[rc];exact hr.back (by lia) (by lia) tl
 have ce:dF 5 [sD<|wR y] (sD<|Dh<|wR y):=⟨wR y,rfl,ly,by rw[Ff];exact aJ hy<|by decide,rfl⟩;have d3:Cd (wR y)<=3/\Cd (wR z)<=3/\cS (wR y)<=15/\cS (wR z)<=15:=by
  have e:∀u:Sg,hG u<=3->nS u<=15:=λu hu=>by have:=G3 u;have:2 ^ (hG u+1)<=2 ^ 4:=dH (by decide) (by lia);lia
  rw[Ff,Ff,G4,G4];exact⟨hy,hz,e y hy,e z hz⟩
 show Xt X [.val<|dS y,.val<|dS z,.un,.un,.un,.un] _ _;rw[<-rc y,<-rc z];generalize wR y=A at oy ly ox ci cs cr ce d3;generalize wR z=B at oz d3;have ck:∀s,Zv s->li [sD s] (NP<|Qr s):=λs hs=>⟨s,rfl,hs,rfl⟩;have cb:∀s,Zv s->iL [sD s] (.tup<|(cg []<|n4 s).map ay):=λs hs=>⟨s,rfl,hs,rfl⟩;refine au (df t 2<|aB t cK (ab (aa t 0) ag)<|ck A oy)<|au (df t 3<|aB t cE (ab (aa t 0) ag) ce) ?_;let R:Sl->Sl->cJ:=λu v=>[.val<|sD A,.val<|sD B,.val<|NP<|Qr A,.val<|sD<|Dh A,u,v];show Xt X (R .un .un) _ _;have kx:∀{u v:Sl}(n:Nat){b:Bool}{i:Int}{p1 p2 p3:Pos}{j:Nat},(Qr A)[n]?=some b->i=(n:Int)->Xs X (R u v) (.Subscript (.Name "_law_kinds_here" p1) (.Constant (.int i) j p2) p3) (.bl b):=λ{u v}n{b i p1 p2 p3 j}hb hi=>bU (Xs.ql<|aa t 2) ai (by subst hi;exact jN<|by rw[List.getElem?_map,hb];rfl);have k4:∀{u v:Sl}{e1 e2 e3 e4:Expr}{v1 v2 v3 v4:Bool}{p:Pos},Xs X (R u v) e1 (.bl v1)->Xs X (R u v) e2 (.bl v2)->Xs X (R u v) e3 (.bl v3)->Xs X (R u v) e4 (.bl v4)->Pl e1->Pl e2->Pl e3->Pl e4->Xs X (R u v) (.List [e1,e2,e3,e4] p) (NP [v1,v2,v3,v4]):=λh1 h2 h3 h4 q1 q2 q3 q4=>XF.Ya<|bI<|ab h1 (ab h2 (ab h3 (ab h4 ag q4) q3) q2) q1;refine au (bw (mN t (FY _) (aB t cK (ab (aa t 3) ag)<|ck _ ox)<|Xs.eq (k4 (kx 0 rfl rfl) (kx 2 rfl rfl) (kx 1 rfl rfl) (kx 3 rfl rfl) (by intro _ _;rfl) (by intro _ _;rfl) (by intro _ _;rfl)<|by intro _ _;rfl)<|by rw[MM ly]) bc) ?_;refine au (bw (YB.toT<|fU (mN t (MI _) (aB t cB (ab (aa t 3) ag)<|cb _ ox)<|Xs.eq (fw t b1<|XF.toQ (dP t ["_law_one","_law_other","_law_kinds_here","_law_more","_law_word","_law_pair","_law_board_here"] (Do<|by decide) (ki<|aB t cB (ab (aa t 0) ag)<|cb A oy) ?_ λX' cx=>X0.gen ay (λb=>ay<|cA b) (λb=>R .un .un++[.val<|ay b]) _ _ (λb hb=>br cx.at' 6) (λb hb c hc=>br cx.at' 6) λb hb=>aB cx.at' (cx.callee cT) (ab (aa cx.at' 6 rfl) ag) ⟨b,rfl,(N2 oy b hb).sm.up<|by decide,rfl⟩))<|by rw[Ky ly,bu];rfl)<|lT<|Xu.eq (iC<|eD<|aB t cI (ab (aa t 3) ag) ci) rfl) bc) ?_;·have a1:=og (n4 A) [];have a2:=uu A;simp only[cZ]at a1;rw[ae,cO];lia
 have ong:Zv (.ng A):=⟨by show Cd A+1<=50;lia,by show cS A+1<=1000;lia,oy.b⟩;refine au (bw (YB.toT<|fU (mN t oy.fn (aB t cR (ab (aB t cW (ab (aa t 0) ag) cs) ag) cr)<|aa t 0)<|lT<|mN t (FY _) (aB t cK (ab (aG<|ab Xr<|ab (aa t 0) ag) ag)<|ck (.ng A) ong)<|aa t 2) bc) ?_;refine au (fF t (mV<|XF.Ya<|bI<|ab Xr<|ab Xr ag) (XO.same (R .un .un) [.str<|jW true,.str<|jW false] λd hd=>?_)) ?_
 ·have:∃w,d=.str (jW w):=by
   rcases ax.mp hd with e |hd;·exact⟨true,e⟩
   ·exact⟨false,aP.mp hd⟩
  obtain⟨w,rfl⟩:=this;have oj:Zv (.jn w A B):=⟨by show max (Cd A) (Cd B)+1<=50;lia,by show cS A+cS B+1<=1000;lia,oy.b,oz.b⟩;refine⟨_,dA t 4,Xt.weak (ρ1:=R (.val<|.str<|jW w)<|.val<|sD<|.jn w A B) ?_<|.keep<|.keep<|.keep<|.keep<|.forget<|.forget .nil⟩;refine au (df t 5<|aG<|ab (aa t 4)<|ab (aa t 0)<|ab (aa t 1) ag) ?_;show Xt X (R (.val<|.str<|jW w)<|.val<|sD<|.jn w A B) _ _;exact au (bw (mN t (FY _) (aB t cK (ab (aa t 5) ag)<|ck _ oj)<|aB t cM (ab (aa t 2)<|ab (aB t cK (ab (aa t 1) ag)<|ck B oz) ag) ⟨Qr A,Qr B,rfl,rfl,rfl⟩) bc)<|aq<|bw (mN t (MI _) (aB t cB (ab (aa t 5) ag)<|cb _ oj)<|aB t cU (ab (aa t 0)<|ab (aa t 1) ag) ⟨A,B,rfl,oy,oz,rfl⟩) bc
 refine au (fF t (mV<|XF.Ya<|bI<|ab Xr<|ab Xr ag) (XO.same (R .un .un) [.str<|bW true,.str<|bW false] λd hd=>?_))<|aq<|aW t5;have:∃w,d=.str (bW w):=by
  rcases ax.mp hd with e |hd;·exact⟨true,e⟩
  ·exact⟨false,aP.mp hd⟩
 obtain⟨w,rfl⟩:=this;have ob:∀l,Zv (.bn w l A):=λl=>⟨by show Cd A+1<=50;lia,by show cS A+1<=1000;lia,oy.b⟩;refine⟨_,dA t 4,Xt.weak (ρ1:=R (.val<|.str<|bW w) .un) ?_<|.keep<|.keep<|.keep<|.keep<|.forget<|.keep .nil⟩;show Xt X (R (.val<|.str<|bW w) .un) _ _;have pl:∀{v:Bool}{i:Nat}{p:Pos},Pl (.Constant (.bool v) i p):=λ_ _=>rfl;exact au (bw (mN t (FY _) (aB t cK (ab (aG<|ab (aa t 4)<|ab Xr<|ab (aa t 0) ag) ag)<|ck (.bn w true A)<|ob true)<|k4 t5 t5 (kx 0 rfl rfl) (kx 1 rfl rfl) (by intro _ _;rfl) (by intro _ _;rfl) (by intro _ _;rfl)<|by intro _ _;rfl) bc)<|aq<|bw (mN t (FY _) (aB t cK (ab (aG<|ab (aa t 4)<|ab Xr<|ab (aa t 0) ag) ag)<|ck (.bn w false A)<|ob false)<|k4 t5 (kx 0 rfl rfl) t5 (kx 2 rfl rfl) (by intro _ _;rfl) (by intro _ _;rfl) (by intro _ _;rfl)<|by intro _ _;rfl) bc
def Dy(ds:aU)(d:D):Prop:=∃ns:be,ds=[.Zf ns]/\ns.length<=63/\d=.bl true
def OU:∀ds d,Dy ds d->ds.length=1:=by rintro _ _ ⟨_,rfl,_⟩;rfl
def Mw(ns:be)(h:ns.length<=63):Dy [.Zf ns] (.bl true):=⟨ns,rfl,h,rfl⟩
def K4(ns:be)(j:Nat):List Bd:=(List.range j).map λ(i:Nat)=>T8 (t7 ns<|1+(i:Int))<|1+(jZ (t7 ns<|1+(i:Int)) 15).getD 14 0%6
def PF(ns:be)(j:Nat):K4 ns (j+1)=K4 ns j++[T8 (t7 ns<|1+(j:Int))<|1+(jZ (t7 ns<|1+(j:Int)) 15).getD 14 0%6]:=by unfold K4;rw[gj,aA];rfl
def UC(h:DefX P w K mg base k Nu (ah Ap) X)(XJ:mg "range"=none)(cC:EV.Callee X "_law_cell" sL)(cN:EV.Callee X "_law_numbers" jg)(cS:EV.Callee X "_law_said" (j5 5))(cB:EV.Callee X "_law_kind_board" jh)(cR:EV.Callee X "_law_right" qv):Go X Nu Ap Dy:=by
 rintro ds d ⟨ns,rfl,hn,rfl⟩;have t:=h.at';haveI:=h.X1;have b1:=h.bt XJ;refine au (gV t 1<|bI ag) ?_;show Xt X [.val<|.Zf ns,.own<|(K4 ns 0).map ay,.un,.un,.un,.un,.un] _ _;refine au (ρ':=[.val<|.Zf ns,.own<|(K4 ns 3).map ay,.un,.un,.un,.un,.un]) (fF t (fz t b1 ai (by decide)<|by decide)<|XO.XW (λj=>[.val<|.Zf ns,.own<|(K4 ns j).map ay,.un,.un,.un,.un,.un]) (λj d hj=>?_) rfl<|by simp[fv]) ?_
 ·obtain⟨hjl,rfl⟩:=lz hj;have j3:j<3:=by lia
  refine⟨_,dA t 2,Xt.weak (ρ1:=[.val<|.Zf ns,.own<|(K4 ns<|j+1).map ay,.val<|.int (j:Int),.val<|.int<|t7 ns<|1+(j:Int),.un,.un,.un]) ?_<|.keep<|.keep<|.forget<|.forget<|.keep<|.keep<|.keep .nil⟩;refine au (df t 3<|aB t cC (ab (aa t 0)<|ab (cu ai<|aa t 2) ag) ⟨ns,1+(j:Int),rfl,by lia,by lia,rfl⟩)<|aq ?_;refine X5.eq (dI t 1 rfl (aB t cB (ab (aa t 3)<|ab (cu ai<|bS (bU (Xs.ql<|aB t cN (ab (aa t 3)<|ab ai ag) ⟨_,15,rfl,by decide,rfl⟩) ai<|kj<|by rw[sY];decide) ai<|by decide) ag) ⟨_,_,rfl,rfl⟩) ?_) ?_;·rw[ae];simp[K4];exact a9 j3<|by rw[cO];decide
  ·rw[PF,aA];rfl
 have hb:∀b∈K4 ns 3,LB b:=λb hb=>by obtain⟨i,_,rfl⟩:=List.mem_map.mp hb;exact RL _ _
 have hbl:(K4 ns 3).length=3:=by simp[K4]
 refine fQ 1 rfl ?_;generalize K4 ns 3=bs at hb hbl;show Xt X [.val<|.Zf ns,.val<|.lst<|bs.map ay,.un,.un,.un,.un,.un] _ _;have hz:=Nb ns (some 4)<|some 11;refine au (fF t (ds:=((t7 ns 0)::fX ns (some 4) (some 11)).map D.int) (mV<|Xs.eq (XF.Ya<|M4 (XF.Ya<|bI<|ab (aB t cC (ab (aa t 0)<|ab ai ag) ⟨ns,0,rfl,by decide,by decide,rfl⟩) ag) (Xs.eq (XF.Ya<|fu (Xs.qs<|aa t 0) (dG ai)<|dG ai)<|by rw[ic]) ?_) rfl) (XO.same [.val<|.Zf ns,.val<|.lst<|bs.map ay,.un,.un,.un,.un,.un] _ λd hd=>?_))<|aq<|aW t5;·have:=tY;simp;lia
 obtain⟨cc,_,rfl⟩:=List.mem_map.mp hd;have hxl:(jZ cc 62).length=62:=sY _ _;refine⟨_,dA t 3,?_⟩;refine au (df t 4<|aB t cN (ab (aa t 3)<|ab ai ag) ⟨cc,62,rfl,by decide,rfl⟩) ?_;generalize jZ cc 62=xs at hxl ⊢;have e1:∃m1:Nat,1+xs.getD 0 0%3=(m1:Int)/\m1<=3:=⟨(1+xs.getD 0 0%3).toNat,by lia,by lia⟩;have e2:∃m2:Nat,xs.getD 1 0%3=(m2:Int)/\m2<=3:=⟨(xs.getD 1 0%3).toNat,by lia,by lia⟩;obtain⟨m1,e1,hm1⟩:=e1;obtain⟨m2,e2,hm2⟩:=e2;have g1:=IE hb hbl m1<|(xs.drop 2).take 30;have g2:=IE hb hbl m2<|xs.drop 32;have ix:∀{ρ:cJ}(n:Nat){i:Int}{e:Expr}{p1 p2:Pos}{j:Nat},n<62->i=(n:Int)->Xs X ρ e (dJ xs)->Xs X ρ (.Subscript e (.Constant (.int i) j p1) p2) (.int<|xs.getD n 0):=λ{ρ}n{i e p1 p2 j}hn hi he=>bU (Xs.ql he) ai (by subst hi;exact kj<|by lia);refine au (df t 5<|aB t cS (ab (XF.Ya<|XF.eq (fu (Xs.ql<|aa t 4) (dG ai)<|dG ai) ?_)<|ab (aa t 1)<|ab (Xs.eq (cu ai<|bS (ix 0 (by decide) rfl<|aa t 4) ai<|by decide)<|by rw[e1]) ag) ⟨bs,m1,(xs.drop 2).take 30,rfl,aJ hm1<|by decide,hbl,?_,?_,rfl⟩) ?_;·rw[ic,fX,show(32:Int)=((32:Nat):Int)from rfl,show(2:Int)=((2:Nat):Int)from rfl,YH<|by lia,YH<|by lia]
 ·intro z;have:=aY List.length z;simp at this;lia
 ·simp;lia
 refine au (df t 6<|aB t cS (ab (XF.Ya<|XF.eq (fu (Xs.ql<|aa t 4) (dG ai) dD)<|wy)<|ab (aa t 1)<|ab (Xs.eq (bS (ix 1 (by decide) rfl<|aa t 4) ai<|by decide)<|by rw[e2]) ag) ⟨bs,m2,xs.drop 32,rfl,aJ hm2<|by decide,hbl,?_,?_,rfl⟩) ?_;·intro z;have:=aY List.length z;simp at this;lia
 ·simp;lia
 generalize mi bs m1 ((xs.drop 2).take 30)=y at g1;generalize mi bs m2 (xs.drop 32)=z at g2;refine Xt.weak (ρ1:=[.val<|.Zf ns,.val<|.lst<|bs.map ay,.un,.val<|.int cc,.val<|dJ xs,.val<|dS y,.val<|dS z]) ?_<|.keep<|.keep<|.keep<|.forget<|.forget<|.forget<|.forget .nil;exact aq<|bw (Xu.eq (iC<|eD<|aB t cR (ab (aa t 5)<|ab (aa t 6) ag) ⟨y,z,rfl,g1.1,g2.1,by lia,by lia,rfl⟩) rfl) bc
abbrev KT(K:bL)(l:Addr)(ns:be):Prop:=∃(od:Option Addr)(its:Array Value)(n:Nat)(sl:Array (Option Value)),K.lookup l=some ⟨.type "tuple",od,.seq its n,sl⟩/\its.size<=sizeLine/\Vals (ns.map V.int) its.toList
def KT.g{K:bL}(h:KT K l ns):Y7 K l ns:=let⟨od,its,n,sl,h1,h2,h3⟩:=h;⟨_,its,n,h1,rfl,rfl,h2,h3⟩
def KT.mk{K:bL}{l:Addr}{ns:be}(h1:K.lookup l=some ⟨.type "tuple",od,.seq its n,sl⟩)(h2:its.size<=sizeLine)(h3:Vals (ns.map V.int) its.toList):KT K l ns:=⟨od,its,n,sl,h1,h2,h3⟩
inductive ZO(p:Params)(K:bL):List DictEntry->List (bH×be)->List (bH×Addr)->Prop where
 |nil:ZO p K [] [] []
 |cons {z:Str} {tk:Tok} {l:Addr} {u:bH} {ns:be} {es:List DictEntry} {cs:List (bH×be)} {ls:List (bH×Addr)}:z=S u->KT K l ns->ZO p K es cs ls->ZO p K (⟨PyData.keyHash p z,.str z tk,.ref l⟩::es) ((u,ns)::cs) ((u,l)::ls)
def ZO.keys{K:bL}{p:Params}{es:List DictEntry}{cs:List (bH×be)}{ls:List (bH×Addr)}(h:ZO p K es cs ls):ls.map (·.1)=cs.map (·.1):=by induction h with|nil=>rfl|cons _ _ _ ih=>rw[aH,aH,ih]
def ZO.at'{K:bL}{p:Params}{es:List DictEntry}{cs:List (bH×be)}{ls:List (bH×Addr)}(h:ZO p K es cs ls):(cs.map (·.1)).Nodup->∀q∈cs,∃l,RD ls q.1=some l/\Y7 K l q.2:=by
 induction h with
 |nil=>exactλ_ _ z=>nomatch z
 |@cons z tk l u ns es cs ls _ hk _ ih=>
  intro nd q hq;rw[aH,cY]at nd;rcases ax.mp hq with rfl |hq;·exact⟨l,by show(if u=u then _ else _)=_;rw[ar rfl],hk.g⟩
  ·obtain⟨m,e1,e2⟩:=ih nd.2 q hq;have ne:u≠q.1:=λe=>nd.1<|e▸List.mem_map.mpr ⟨q,hq,rfl⟩;exact⟨m,by show(if u=q.1 then _ else _)=_;rw[ak ne];exact e1,e2⟩
def Je:∀{ls:List (bH×Addr)},(ls.map (·.1)).Nodup->((xb<|wj ls).map (·.1)).Nodup|[],_=>.nil|(u,l)::ls,h=>by rw[aH,cY]at h;show(((Sum.inr (S u):yu))::(xb<|wj ls).map (·.1)).Nodup;rw[cY];refine⟨λz=>?_,Je h.2⟩;obtain⟨x,hx,e⟩:=List.mem_map.mp z;obtain⟨y,hy,rfl⟩:=List.mem_map.mp hx;obtain⟨v,hv,rfl⟩:=List.mem_map.mp hy;exact h.1<|List.mem_map.mpr ⟨v,hv,e9<|Xd e⟩
def ZO.pairs{w:World}{K:bL}{es:List DictEntry}{cs:List (bH×be)}{ls:List (bH×Addr)}(h:ZO w.params K es cs ls):(∀e∈es,∃k,(jM P w).is k e.key=true/\e.hash=(jM P w).hash k)/\Pairs (jM P w) es (xb<|wj ls):=by
 induction h with
 |nil=>exact⟨(λ_ z=>nomatch z),.nil⟩
 |@cons z tk l u ns es cs ls hz hk _ ih=>
  subst hz;refine⟨λe he=>?_,.cons (sZ (S u) tk) rfl ih.2⟩;rcases ax.mp he with rfl |he;·exact⟨Sum.inr<|S u,sZ (S u) tk,rfl⟩
  ·exact ih.1 e he
def Eh{w:World}{K:bL}{q:Addr}{ls:List (bH×Addr)}(hq:(q==sysModules)=false)(e:K.lookup q=some ⟨.type "dict",none,.dict es ep,#[]⟩)(c:ZO w.params K es.toList Yl ls):UQ P w K q ls ep:=by
 have nd:(Yl.map (·.1)).Nodup:=by decide
 refine⟨⟨hq,λh hk=>⟨_,es,hk _ _ e,⟨rfl,rfl,rfl⟩,rfl,λx hx=>?_,(c.pairs (P:=P)).2,Je<|by rw[c.keys];exact nd⟩⟩,c.keys,c.at' nd⟩;exact(c.pairs (P:=P)).1 x<|by simpa using hx
inductive ShE(K:bL):List DictEntry->List (bH×be)->List (be×Addr×Value)->Prop where
 |nil:ShE K [] [] []
 |cons {z:Str} {tk:Tok} {l:Addr} {hs:Int} {u:bH} {ns:be} {es:List DictEntry} {cs:List (bH×be)} {xs:List (be×Addr×Value)}:z=S u->hs=T9 ns->KT K l ns->ShE K es cs xs->ShE K (⟨hs,.ref l,.str z tk⟩::es) ((u,ns)::cs) ((ns,l,.str z tk)::xs)
def ShE.ents{K:bL}{es:List DictEntry}{cs:List (bH×be)}{xs:List (be×Addr×Value)}(h:ShE K es cs xs):es=xs.map (entryOfKey<|tupleKind<|intKind P w)/\xs.map (·.1)=cs.map (·.2)/\∀g:Heap,K.In g->∀x∈xs,(tupleKind<|intKind P w).is g x.1 x.2.1:=by
 induction h with
 |nil=>exact⟨rfl,rfl,λ_ _ _ z=>nomatch z⟩
 |@cons z tk l hs u ns es cs xs hz hh hk _ ih=>
  refine⟨?_,by rw[aH,aH,ih.2.1],λg hg x hx=>?_⟩;·rw[aH,<-ih.1,hh];rfl
  ·rcases ax.mp hx with rfl |hx;·obtain⟨od,its,n,sl,h1,h2,h3⟩:=hk;exact⟨_,its,n,hg _ _ h1,rfl,rfl,items_int h3⟩
   ·exact ih.2.2 g hg x hx
def ShE.at'{K:bL}{es:List DictEntry}{cs:List (bH×be)}{xs:List (be×Addr×Value)}(h:ShE K es cs xs):(cs.map (·.2)).Nodup->∀q∈cs,∃c tk,atKey xs q.2=some (c,.str (S q.1) tk):=by
 induction h with
 |nil=>exactλ_ _ z=>nomatch z
 |@cons z tk l hs u ns es cs xs hz hh hk _ ih=>
  subst hz;intro nd q hq;rw[aH,cY]at nd;rcases ax.mp hq with rfl |hq;·refine⟨l,tk,?_⟩;show(List.find? _<|(ns,l,Value.str (S u) tk)::xs).map _=_;rw[List.find?_cons,show decide (ns=ns)=true by simp];rfl
  ·obtain⟨c,t,e⟩:=ih nd.2 q hq;have ne:ns≠q.2:=λe=>nd.1<|e▸List.mem_map.mpr ⟨q,hq,rfl⟩;refine⟨c,t,?_⟩;show(List.find? _<|(ns,l,Value.str (S u) tk)::xs).map _=_;rw[List.find?_cons,show decide (ns=q.2)=false by simp[ne]];exact e
def Kv{K:bL}{q:Addr}{xs:List (be×Addr×Value)}(e:K.lookup q=some ⟨.type "dict",none,.dict es ep,#[]⟩)(c:ShE K es.toList Yl xs):Nx P w K q xs:=by
 have nd:(Yl.map (·.2)).Nodup:=by decide
 exact⟨λh hk=>⟨_,es,ep,hk _ _ e,⟨rfl,rfl,rfl⟩,rfl,(c.ents (P:=P) (w:=w)).1,(c.ents (P:=P) (w:=w)).2.2 h hk,by rw[(c.ents (P:=P) (w:=w)).2.1];exact nd⟩,c.at' nd⟩
def UB{ps:bM}{us:gC}(h:us.length=2)(k:∀a0 a1,bindArgs fd ⟨[a0,a1],[]⟩=pure (ps.zip [a0,a1])):bindArgs fd ⟨us,[]⟩=pure (ps.zip us):=match us,h with |[a0,a1],_=>k a0 a1
def gp_tup{K:bL}{a:Addr}{ps:List PyData}(e:K.lookup a=some ⟨.type "tuple",od,.seq its n,sl⟩)(r:GPs K its.toList ps):GP K (.ref a) (.tuple ps):=.tup e rfl rfl r
set_option maxHeartbeats 4000000 in
def all_mk{w:World}{K:bL}{l:PySem.W.OpenLaw}(ht:l.prog.given.tree=none)(X:K.In h)(G:h.Ns mainGlobals mg)(hfa:mg "law"=some (.ref fa))(d1:Kd K "is_whole" pA f1 g1)(d2:Kd K "is_row" vj f2 g2)(d3:Kd K "without_end" jD f3 g3)(d4:Kd K "part_at" sR f4 g4)(d5:Kd K "row_of" vi f5 g5)(d6:Kd K "row_plus" pi f6 g6)(d7:Kd K "other_sign" kP f7 g7)(d8:Kd K "row_times" jU f8 g8)(d9:Kd K "is_board" pC f9 g9)(d10:Kd K "board_of" pD f10 g10)(d11:Kd K "board_plus" kS f11 g11)(d12:Kd K "board_minus" jL f12 g12)(d13:Kd K "board_times" hZ f13 g13)(d14:Kd K "length_of_rows" gJ f14 g14)(d15:Kd K "letter_stands" il f15 g15)(d16:Kd K "turned" vg f16 g16)(d17:Kd K "told_anew" fE f17 g17)(d18:Kd K "is_letter" mv f18 g18)(d19:Kd K "are_signs" mz f19 g19)(d20:Kd K "is_head" sT f20 g20)(d21:Kd K "sayings_in" kM f21 g21)(d22:Kd K "is_saying" ms f22 g22)(d23:Kd K "parts_of" pp f23 g23)(d24:Kd K "boards_of" my f24 g24)(d25:Kd K "is_plain" pB f25 g25)(d26:Kd K "fits_over" mx f26 g26)(d27:Kd K "is_over" sS f27 g27)(d28:Kd K "fits_closed" jK f28 g28)(d29:Kd K "is_closed" mw f29 g29)(d30:Kd K "is_number" jV f30 g30)(d31:Kd K "end_of_run" kR f31 g31)(d32:Kd K "refuse_wrong_run" eI f32 g32)(d33:Kd K "token_at" ph f33 g33)(d34:Kd K "tokens_of" mj f34 g34)(d35:Kd K "refuse_deep" hJ f35 g35)(d36:Kd K "reader_of" mo f36 g36)(d37:Kd K "next_token" kQ f37 g37)(d38:Kd K "take_token" kL f38 g38)(d39:Kd K "take_one_of" jE f39 g39)(d40:Kd K "refuse_more" jG f40 g40)(d41:Kd K "read_atom" mq f41 g41)(d42:Kd K "read_power" kO f42 g42)(d43:Kd K "read_factor" jI f43 g43)(d44:Kd K "read_product" iT f44 g44)(d45:Kd K "read_sum" pj f45 g45)(d46:Kd K "atom_of" sU f46 g46)(d47:Kd K "power_of_board" gI f47 g47)(d48:Kd K "take_term_step" gH f48 g48)(d49:Kd K "letters_shown" ik f49 g49)(d50:Kd K "product_shown" ij f50 g50)(d51:Kd K "products_of" jJ f51 g51)(d52:Kd K "show_term" mn f52 g52)(d53:Kd K "read_comparison" gd f53 g53)(d54:Kd K "read_prefixes" ig f54 g54)(d55:Kd K "saying_ended" iS f55 g55)(d56:Kd K "read_steps" kN f56 g56)(d57:Kd K "take_step" ml f57 g57)(d58:Kd K "read_saying" jH f58 g58)(d59:Kd K "pieces_of" mr f59 g59)(d60:Kd K "show_saying" jF f60 g60)(d61:Kd K "_law_cell" mG f61 g61)(d62:Kd K "_law_numbers" iV f62 g62)(d63:Kd K "_law_trim" mD f63 g63)(d64:Kd K "_law_board_of" im f64 g64)(d65:Kd K "_law_product" iU f65 g65)(d66:Kd K "_law_line" mF f66 g66)(d67:Kd K "_law_conic" kX f67 g67)(d68:Kd K "_law_board" kY f68 g68)(d69:Kd K "_law_parts" kU f69 g69)(d70:Kd K "_law_kind_board" ge f70 g70)(d71:Kd K "_law_said" mE f71 g71)(d72:Kd K "_law_exchanged" gK f72 g72)(d73:Kd K "_law_kinds" kW f73 g73)(d74:Kd K "_law_both" mH f74 g74)(d75:Kd K "_law_boards_of_both" eQ f75 g75)(d76:Kd K "_law_right" kT f76 g76)(d77:Kd K "law" Ap f77 g77)(zA:PySem.W.nsIn K mainGlobals "isinstance"=some none)(zC:PySem.W.nsIn K mainGlobals "int"=some none)(zD:PySem.W.nsIn K mainGlobals "bool"=some none)(zF:PySem.W.nsIn K mainGlobals "tuple"=some none)(zG:PySem.W.nsIn K mainGlobals "all"=some none)(zH:PySem.W.nsIn K mainGlobals "len"=some none)(zI:PySem.W.nsIn K mainGlobals "max"=some none)(zJ:PySem.W.nsIn K mainGlobals "range"=some none)(zK:PySem.W.nsIn K mainGlobals "enumerate"=some none)(zM:PySem.W.nsIn K mainGlobals "str"=some none)(zO:PySem.W.nsIn K mainGlobals "list"=some none)(zP:PySem.W.nsIn K mainGlobals "any"=some none)(zQ:PySem.W.nsIn K mainGlobals "abs"=some none)(zR:PySem.W.nsIn K mainGlobals "zip"=some none)(zS:PySem.W.nsIn K mainGlobals "LETTERS"=some (some<|.ref zT))(zU:K.lookup zT=some ⟨.type "tuple",zV,.seq zW zZ,yA⟩)(yB:GPs K zW.toList [.str "x",.str "y"])(yC:PySem.W.nsIn K mainGlobals "SIGNS_SAID"=some (some<|.ref yD))(yE:K.lookup yD=some ⟨.type "tuple",yF,.seq yG yH,yI⟩)(yJ:GPs K yG.toList [.tuple [.int (-1)],.tuple [.int<|0],.tuple [.int<|1],.tuple [.int (-1),.int<|0],.tuple [.int<|0,.int<|1],.tuple [.int (-1),.int<|1]])(yK:PySem.W.nsIn K mainGlobals "BINDERS"=some (some<|.ref yL))(yM:K.lookup yL=some ⟨.type "tuple",yN,.seq yO yP,yQ⟩)(yR:GPs K yO.toList [.str "some",.str "all"])(yS:PySem.W.nsIn K mainGlobals "WORDS"=some (some<|.ref yT))(yU:K.lookup yT=some ⟨.type "tuple",yV,.seq yW yX,yY⟩)(yZ:GPs K yW.toList [.str "x",.str "y",.str "not",.str "and",.str "or",.str "some",.str "all"])(vC:PySem.W.nsIn K mainGlobals "DOUBLE_SIGNS"=some (some<|.ref vD))(vE:K.lookup vD=some ⟨.type "tuple",vF,.seq vG vH,vI⟩)(vJ:GPs K vG.toList [.str "<=",.str ">=",.str "!="]){vK:List (bH×Addr)}(vL:PySem.W.nsIn K mainGlobals "COMPARISONS"=some (some<|.ref vM))(vO:K.lookup vM=some ⟨.type "dict",none,.dict vP vQ,#[]⟩)(vR:(vM==sysModules)=false)(vT:ZO w.params K vP.toList Yl vK){vU:List (be×Addr×Value)}(vV:PySem.W.nsIn K mainGlobals "COMPARISONS_SHOWN"=some (some<|.ref vW))(vX:K.lookup vW=some ⟨.type "dict",none,.dict vY vZ,#[]⟩)(nA:(vW==sysModules)=false)(nB:ShE K vY.toList Yl vU)(nC:PySem.W.nsIn K mainGlobals "FIGURES"=some (some<|.str ("0123456789":Str) nD))(nE:PySem.W.nsIn K mainGlobals "MOST_OPEN"=some (some<|.int 20 nF))(nG:PySem.W.nsIn K mainGlobals "MOST_MINUSES"=some (some<|.int 20 nH))(nI:PySem.W.nsIn K mainGlobals "MOST_PREFIXES"=some (some<|.int 20 nJ))(nK:PySem.W.nsIn K mainGlobals "MOST_SIGNS"=some (some<|.int 2000 nL))(eR:PySem.W.nsIn K mainGlobals "Reader"=some (some<|.ref cR))(r1:PySem.W.makesIn K cR=true)(r2:PySem.W.findIn K (.ref cR) "__init__"=some (some<|.ref fI))(r3:PySem.W.isFn K (.ref fI)=true)(r4:PySem.W.keepIn K (.ref cR)=true)(r5:PySem.W.plainGet K cR Str.empty=true)(r6:PySem.W.hasDictIn K cR=true)(r7:PySem.W.plainOver K cR=true)(r8:PySem.W.findIn K (.ref cR) "__setattr__"=some (some<|.builtin "object.__setattr__"))(r9:PySem.W.findIn K (.ref cR) "tokens"=some none)(r10:PySem.W.findIn K (.ref cR) "done"=some none)(r11:PySem.W.findIn K (.ref cR) "steps"=some none)(lI:K.lookup fI=some ⟨ocI,odI,.func<|PySem.W.fnOf "__init__" "Reader.__init__" (i7 ia) (bA ia) (ah ia) .none kVI dcI pmI anI cdI ctI,slI⟩)(cI:PySem.W.codeIn K cdI "Reader.__init__"=true)(kI:PySem.W.keepIn K (.ref fI)=true):∃fd:FuncData,(∀(s:Shared)(v:Value),BindsTo s fd ⟨[v],[]⟩ [("_law_script",v)])/\∀base:Heap,K.In base->base.Ns mainGlobals mg->fj l.prog w K mg base jq 15 fa fd ["_law_script"] (Ly K Dy):=by
 have e:=hfa.symm.trans<|a8 X G d77.a;cases e;have nM:=bF X G zA;have nN:=bF X G zC;have nO:=bF X G zD;have nP:=bF X G zF;have nQ:=bF X G zG;have nR:=bF X G zH;have nT:=bF X G zI;have nU:=bF X G zJ;have nV:=bF X G zK;have nW:=bF X G zM;have nX:=bF X G zO;have nY:=bF X G zP;have nZ:=bF X G zQ;have mC:=bF X G zR;have b1:=d1.b1 X G xH;have b2:=d2.b1 X G CW;have b3:=d3.b2 X G qR;have b4:=d4.b3 X G Ak;have b5:=d5.b1 X G CV;have b6:=d6.b2 X G xF;have b7:=d7.b1 X G tN;have b8:=d8.b2 X G uX;have b9:=d9.b1 X G xJ;have b10:=d10.b1 X G xK;have b11:=d11.b2 X G tQ;have b12:=d12.b2 X G q9;have b13:=d13.b2 X G q8;have b14:=d14.b1 X G mh;have b15:=d15.b2 X G oA;have b16:=d16.b1 X G CU;have b17:=d17.b1 X G iP;have b18:=d18.b1 X G u5;have b19:=d19.b1 X G u9;have b20:=d20.b1 X G Am;have b21:=d21.b1 X G tJ;have b22:=d22.b1 X G u3;have b23:=d23.b2 X G xG;have b24:=d24.b1 X G u8;have b25:=d25.b1 X G xI;have b26:=d26.b2 X G u7;have b27:=d27.b2 X G Al;have b28:=d28.b1 X G q0;have b29:=d29.b1 X G u6;have b30:=d30.b1 X G u4;have b31:=d31.b2 X G tP;have b32:=d32.b1 X G kF;have b33:=d33.b2 X G xE;have b34:=d34.b1 X G uU;have b35:=d35.b3 X G qV;have b36:=d36.b2 X G uY;have b37:=d37.b1 X G tO;have b38:=d38.b1 X G tI;have b39:=d39.b2 X G qS;have b40:=d40.b1 X G qU;have b41:=d41.b1 X G uZ;have b42:=d42.b1 X G tL;have b43:=d43.b1 X G qY;have b44:=d44.b1 X G qD;have b45:=d45.b1 X G qW;have b46:=d46.b1 X G An;have b47:=d47.b2 X G mf;have b48:=d48.b2 X G me;have b49:=d49.b2 X G ou;have b50:=d50.b3 X G ot;have b51:=d51.b1 X G qZ;have b52:=d52.b1 X G uW;have b53:=d53.b1 X G lH;have b54:=d54.b1 X G oq;have b55:=d55.b2 X G qC;have b56:=d56.b1 X G tK;have b57:=d57.b2 X G uV;have b58:=d58.b1 X G qX;have b59:=d59.b1 X G u0;have b60:=d60.b1 X G qT;have b61:=d61.b2 X G vd;have b62:=d62.b2 X G qF;have b63:=d63.b1 X G va;have b64:=d64.b1 X G oB;have b65:=d65.b2 X G qE;have b66:=d66.b1 X G vc;have b67:=d67.b1 X G tU;have b68:=d68.b1 X G tV;have b69:=d69.b1 X G tS;have b70:=d70.b2 X G lJ;have b71:=d71.b3 X G pf;have b72:=d72.b1 X G iQ;have b73:=d73.b1 X G tT;have b74:=d74.b2 X G ve;have b75:=d75.b2 X G iR;have b76:=d76.b2 X G tR;obtain⟨_,_,kV,dc,pm,an,cd,ct,_,rfl,_,_⟩:=d77.F.ex;refine⟨PySem.W.fnOf "law" "law" (i7 Ap) (bA Ap) (ah Ap) .none kV dc pm an cd ct,λs v=>.of_eq rfl,λbase KB _=>?_⟩;have FI:=MF (st:=ia) lI cI kI;have bdI:=FI.binds (ps:=["self","tokens"]) λ_ _ _ _ _ _ us hl=>UB hl λ_ _=>rfl;have ON:fj l.prog w K mg base jq 1 _ _ _ (DK cR):=O7 ht FI Ao ⟨r5,r6,r7,r8⟩ r9 r10 r11 rfl rfl rfl;have f_:=@Um l.prog ht w K mg base;have f_O:=@R4 l.prog ht w K mg base;have zIZ:=@O8 l.prog ht w K mg base;have f_R:=@R3 l.prog ht w K mg base;have zF7:=@Pa l.prog ht w K mg base;have zI0:=@O9 l.prog ht w K mg base;have f_D:=@R5 l.prog ht w K mg base;have o1:=f_ (k:=0) d1.F xH Eb λ_ Z=>Ic Z nM nN nO;have o2:=f_ (k:=1) d2.F CW HE λ_ Z=>Nl Z nM nP nQ<|Z.ca o1 b1;have o3:=f_ (k:=0) d3.F qR x9 λ_ Z=>Co Z nR nP;have o4:=f_ (k:=0) d4.F Ak FO λ_ Z=>KJ Z nR;have o5:=f_ (k:=1) d5.F CV HC λ_ Z=>Nk Z  (Z.ca o3 b3);have o6:=f_ (k:=2) d6.F xF D9 λ_ Z=>Ia Z nT nR nU (Z.ca o5 b5)<|Z.ca o4 b4;have o7:=f_ (k:=0) d7.F tN AS λ_ Z=>EL Z nP;have o8:=f_ (k:=2) d8.F uX BU λ_ Z=>Gv Z nV nR<|Z.ca o5 b5;have o9:=f_ (k:=2) d9.F xJ Ed λ_ Z=>Ig Z nM nP nQ<|Z.ca o2 b2;have o10:=f_ (k:=1) d10.F xK Ee λ_ Z=>Ih Z  (Z.ca o3 b3);have o11:=f_ (k:=3) d11.F tQ AV λ_ Z=>EN Z nT nR nU (Z.ca o10 b10) (Z.ca o6 b6)<|Z.ca o4 b4;have o12:=f_ (k:=4) d12.F q9 yj λ_ Z=>Cv Z nP (Z.ca o11 b11)<|Z.ca o7 b7;have o13:=f_ (k:=3) d13.F q8 yi λ_ Z=>Cu Z nV nR (Z.ca o10 b10) (Z.ca o6 b6)<|Z.ca o8 b8;have o14:=f_ (k:=0) d14.F mh uo λ_ Z=>xn Z nT nR;have o15:=f_ (k:=1) d15.F oA wf λ_ Z=>yr Z nR<|Z.ca o14 b14;have o16:=f_ (k:=2) d16.F CU HB λ_ Z=>Nj Z nP nU (Z.ca o5 b5) (Z.ca o4 b4)<|Z.ca o14 b14;have p17:=f_ (k:=0) d17.F iP (t3 (K:=K) 1) λ_ Z=>EJ Z nM nP;have o17:=f_ (k:=1) d17.F iP (t3 (K:=K) 2) λ_ Z=>EI Z nM nP<|Z.ca p17 b17;have q17:∀n,fj l.prog w K mg base jq (n+1) f17 g17 ["thing"] (Ly K<|jc n):=λn=>by induction n with |zero=>exact f_ d17.F iP (rE 0) (λ_ _ _ _ z=>z.elim) |succ n ih=>exact f_ d17.F iP (rE<|n+1) λ_ Z=>Gr Z nM nP n<|Z.ca ih b17<|by lia
 have okt:=q17 3;have o18:=f_ (k:=0) d18.F u5 B1 λ_ Z=>Gz Z nM nW  ⟨zT,a8 X G zS,.tup zU rfl rfl yB⟩;have o19:=f_ (k:=1) d19.F u9 B5 λ_ Z=>GE Z nM nP nQ (Z.ca o1 b1) ⟨yD,a8 X G yC,.tup yE rfl rfl yJ⟩;have o20:=f_ (k:=3) d20.F Am FQ λ_ Z=>KM Z nR nM nP nW (Z.ca o18 b18) (Z.ca o9 b9) (Z.ca o19 b19) ⟨yL,a8 X G yK,.tup yM rfl rfl yR⟩;have o21:=f_ (k:=0) d21.F tJ AN λ_ Z=>EK Z nX  ⟨yL,a8 X G yK,.tup yM rfl rfl yR⟩;have o22:=f_ (k:=4) d22.F u3 BY λ_ Z=>Gx Z nR (Z.ca o20 b20)<|Z.ca o21 b21;have o23:=f_ (k:=1) d23.F xG Ea λ_ Z=>Ib Z  (Z.ca o21 b21);have o24:=f_ (k:=4) d24.F u8 B4 λ_ Z=>GD Z nP (Z.ca o23 b23)<|Z.ca okt b17;have o25:=f_ (k:=2) d25.F xI Ec λ_ Z=>Ie Z nY (Z.ca o23 b23) ⟨yL,a8 X G yK,.tup yM rfl rfl yR⟩;have o26:=f_ (k:=3) d26.F u7 B3 λ_ Z=>GC Z  (Z.ca o15 b15) (Z.ca o25 b25) ⟨yL,a8 X G yK,.tup yM rfl rfl yR⟩;have o27:=f_ (k:=4) d27.F Al FP λ_ Z=>KL Z nQ (Z.ca o26 b26) (Z.ca o23 b23) ⟨yL,a8 X G yK,.tup yM rfl rfl yR⟩;have o28:=f_ (k:=5) d28.F q0 yh λ_ Z=>Ct Z  (Z.ca o27 b27) (Z.ca o15 b15) ⟨yL,a8 X G yK,.tup yM rfl rfl yR⟩;have o29:=f_ (k:=6) d29.F u6 B2 λ_ Z=>GA Z nQ (Z.ca o28 b28) (Z.ca o23 b23) ⟨yL,a8 X G yK,.tup yM rfl rfl yR⟩;have o30:=f_ (k:=0) d30.F u4 BZ λ_ Z=>Gy Z   ⟨nD,a8 X G nC⟩;have o31:=f_ (k:=0) d31.F tP AU λ_ Z=>EM Z nR;have o32:=f_O (k:=0) d32.F kF rF λ_ Z=>uv Z nQ nR  ⟨yT,a8 X G yS,.tup yU rfl rfl yZ⟩ ⟨nD,a8 X G nC⟩;have o33:=f_ (k:=1) d33.F xE D8 λ_ Z=>H9 Z  (Z.ca o32 b32) (Z.ca o31 b31) ⟨vD,a8 X G vC,.tup vE rfl rfl vJ⟩;have o34:=f_ (k:=2) d34.F uU BR λ_ Z=>Gs Z nR<|Z.ca o33 b33;have o35:=f_O (k:=0) d35.F qV yd λ_ Z=>Cq Z   ⟨nF,a8 X G nE⟩;have o36:=zIZ (k:=5) d36.F uY BV λ_ Z=>EE Z nM nW nR (Z.ca o34 b34) (Z.ca o35 b35)<|Z.mkR ON (by decide) ⟨r1,r2,r3,r4⟩ (a8 X G eR) bdI ⟨r5,r6,r7,r8⟩ r9 r10 r11;have o37:=f_R (k:=0) d37.F tO AT λ_ Z=>Ck Z nR;have o38:=f_R (k:=1) d38.F tI AL λ_ Z=>Ch Z  (Z.Zc o37 b37);have o39:=f_R (k:=2) d39.F qS ya λ_ Z=>Bm Z  (Z.Zc o38 b38);have o40:=f_R (k:=0) d40.F qU yc λ_ Z=>Bo Z nR;have qr:∀n,fj l.prog w K mg base jq (5*n+5) f45 g45 ["reader"] (TC K<|l6<|AR n):=λn=>by
  induction n with|zero=>exact f_R (k:=4) d45.F qW (wb _) (λXX Z r ok ds s d s' z=>by obtain⟨_,_,T,_,_,_,hT,_⟩:=z;exact hT.1.1.2.1.elim)|succ n ih=>
  have o1:=f_R (k:=5*n+5) d41.F uZ (BW _) λ_ Z=>EC (n:=n) Z  (Z.Zc o38 b38<|by lia) (Z.Zc ih b45<|by lia) (Z.Zc o39 b39<|by lia)<|Z.ca o30 b30 (by lia);have o2:=f_R (k:=5*n+6) d42.F tL (AQ _) λ_ Z=>Cj (R:=AR<|n+1) Z nX (Z.Zc o1 b41<|by lia) (Z.Zc o37 b37<|by lia) (Z.Zc o38 b38<|by lia) (Z.Zc o39 b39<|by lia) ⟨nD,a8 X G nC⟩;have o3:=f_R (k:=5*n+7) d43.F qY (yf _) λ_ Z=>Bp (V4<|n+1) Z  (Z.Zc o2 b42<|by lia) (Z.Zc o37 b37<|by lia) (Z.Zc o38 b38<|by lia) ⟨nH,a8 X G nG⟩;have o4:=f_R (k:=5*n+8) d44.F qD (w8 _) λ_ Z=>ym (R:=AR<|n+1) Z  (Z.Zc o3 b43<|by lia) (Z.Zc o37 b37<|by lia)<|Z.Zc o38 b38 (by lia);have o5:=f_R (k:=5*n+9) d45.F qW (wb _) λ_ Z=>Gm (R:=AR<|n+1) Z  (Z.Zc o4 b44<|by lia) (Z.Zc o37 b37<|by lia)<|Z.Zc o38 b38 (by lia);rw[show 5*(n+1)+5=5*n+9+1 by lia];exact o5
 have o45:=qr 1;have o46:=f_ (k:=0) d46.F An FR λ_ Z=>KN Z nN;have o47:=f_ (k:=4) d47.F mf um λ_ Z=>xm Z nU<|Z.ca o13 b13;have o48:=zF7 (k:=5) d48.F me rfl λ_ Z=>wC Z nN (Z.ca o13 b13) (Z.ca o12 b12) (Z.ca o11 b11) (Z.ca o47 b47)<|Z.ca o46 b46;have o49:=f_ (k:=0) d49.F ou we λ_ Z=>yq Z;have o50:=f_ (k:=1) d50.F ot wd λ_ Z=>yp Z nW<|Z.ca o49 b49;have o51:=f_ (k:=0) d51.F qZ yg λ_ Z=>Cs Z nU nR;have o52:=f_ (k:=2) d52.F uW BS λ_ Z=>Gu Z nZ (Z.ca o51 b51)<|Z.ca o50 b50;have o53:=f_R (k:=10) d53.F lH (tw<|AR 1) λ_ Z=>ur Z  (Z.Zc o45 b45) (Z.Zc o39 b39)<|Mr Z.at' (EG<|by rw[Z.YQ];exact nX) (by rw[Z.YQ];exact a8 X G vL) (by obtain⟨_,e1,e2,e3,_⟩:=Z;rw[e1,e2,e3];exact(Eh (P:=l.prog) (w:=w) vR vO vT).XQ) (Eh (P:=l.prog) (w:=w) vR vO vT).keys rfl;have o54:=f_R (k:=3) d54.F oq wc λ_ Z=>xl Z nR (Z.Zc o37 b37) (Z.Zc o38 b38) (Z.Zc o39 b39) ⟨nJ,a8 X G nI⟩;have o55:=zI0 (k:=3) d55.F qC rfl λ_ Z=>yn Z  (Z.Zc o39 b39);have o56:=f_R (k:=11) d56.F tK (AO<|AR 1) λ_ Z=>Ci (W6 1) Z  (Z.Zc o54 b54) (Z.Zc o37 b37) (Z.Zc o38 b38) (Z.Zc o53 b53)<|Z.zJB o55 b55;have o57:=zF7 (k:=6) d57.F uV rfl λ_ Z=>EF Z  (Z.ca o12 b12) (Z.ca o17 b17) (Z.zGI o48 b48) (a8 X G vL)<|Eh vR vO vT;have o58:=f_ (k:=12) d58.F qX (ye<|AR 1) λ_ Z=>Cr Z  (Z.zJA o36 b36) (Z.Zc o56 b56) (Z.Zc o40 b40) (Z.zGI o57 b57) ⟨nL,a8 X G nK⟩;have o59:=f_ (k:=3) d59.F u0 BX λ_ Z=>Gw Z  (Z.ca o52 b52) (a8 X G vV)<|Kv vX nB;have o60:=f_ (k:=4) d60.F qT yb λ_ Z=>Cp Z nM nW<|Z.ca o59 b59;have o61:=f_ (k:=0) d61.F vd B8 λ_ Z=>GH Z nR;have o62:=f_ (k:=0) d62.F qF xa λ_ Z=>Br Z nU nZ nN;have o63:=f_ (k:=0) d63.F va B6 λ_ Z=>GF Z nX nP nR;have o64:=f_ (k:=1) d64.F oB wg λ_ Z=>yt Z nU nP nR<|Z.ca o63 b63;have o65:=f_D (k:=0) d65.F qE w9 λ_ Z=>yo Z;have o66:=f_D (k:=0) d66.F vc B7 λ_ Z=>EH Z;have o67:=f_D (k:=0) d67.F tU AZ λ_ Z=>Cn Z nU;have o68:=f_ (k:=2) d68.F tV A0 λ_ Z=>ER Z  (Z.ca o62 b62) (Z.ca o64 b64) (Z.caD o66 b66) (Z.caD o67 b67)<|Z.caD o65 b65;have o69:=f_D (k:=0) d69.F tS AX λ_ Z=>Cm Z nU nR;have o70:=f_ (k:=3) d70.F lJ tz λ_ Z=>wD Z  (Z.caD o69 b69) (Z.ca o64 b64)<|Z.ca o68 b68;have q71:∀n,fj l.prog w K mg base jq (n+1) f71 g71 ["_law_xs","_law_boards","_law_deep"] (Ly K<|j5 n):=λn=>by induction n with |zero=>exact f_ d71.F pf (t4 0) (λ_ _ _ _ z=>z.elim) |succ n ih=>exact f_ d71.F pf (t4<|n+1) λ_ Z=>GG Z nR  n<|Z.ca ih b71<|by lia
 have o71:=q71 5;have q72:∀n,fj l.prog w K mg base jq (n+3) f72 g72 ["_law_saying"] (Ly K<|dF n):=λn=>by induction n with |zero=>exact f_ d72.F iQ (lP 0) (λ_ _ _ _ z=>z.elim) |succ n ih=>exact f_ d72.F iQ (lP<|n+1) λ_ Z=>xo Z nP nN (Z.caD o69 b69<|by lia) (Z.ca o64 b64<|by lia) n<|Z.ca ih b72<|by lia
 have o72:=q72 5;have o73:=f_ (k:=7) d73.F tT AY λ_ Z=>EQ Z  (Z.ca o25 b25) (Z.ca o27 b27)<|Z.ca o29 b29;have o74:=f_ (k:=0) d74.F ve B9 λ_ Z=>GI Z mC;have o75:=f_ (k:=5) d75.F iR oI λ_ Z=>qI Z nX nP<|Z.ca o24 b24;have o76:=f_ (k:=13) d76.F tR AW λ_ Z=>EO Z nP (Z.ca o73 b73) (Z.ca o72 b72) (Z.ca o24 b24) (Z.ca o22 b22) (Z.ca o58 b58) (Z.ca o74 b74) (Z.ca o75 b75) (Z.ca o60 b60)<|Z.ca o16 b16;exact f_ d77.F QW OU λ_ Z=>UC Z nU (Z.ca o61 b61) (Z.ca o62 b62) (Z.ca o71 b71) (Z.ca o70 b70)<|Z.ca o76 b76
def walk{q:Program}{l:PySem.W.OpenLaw}{XP:(Str->Option Value)->Heap->Prop}{YP:World->Heap->Prop}{d:DefRec}{K:Params->bL}(hq:importsNone q=true)(hn:l.most=some 63)(hdf:d.params.defaults=[])(hY:∀(w:World)(h:Heap),YP w h->(K w.params).In h)(F:∀(w:World)(mg:xX)(fa:Addr)(h:Heap),(K w.params).In h->h.Ns mainGlobals mg->mg d.name=some (.ref fa)->∃fd:FuncData,(∀(s:Shared)(u:Value),BindsTo s fd ⟨[u],[]⟩ [("_law_script",u)])/\∀base:Heap,(K w.params).In base->base.Ns mainGlobals mg->fj l.prog w (K w.params) mg base jq 15 fa fd ["_law_script"] (Ly (K w.params) Dy)):PySem.W.WalkO q loose XP YP l.row.toRowW d [] (λf vs=>PySem.call f vs):=L2.zCH (n:=63) (k:=15) (x:="_law_script") (CX:=λ_=>jq) (sp:=λw=>Ly (K w.params) Dy) hq hn (by decide) hdf ⟨rfl,by decide,by decide⟩ hY F (λ_ H a ns hl hO hS=>⟨H,[.Zf ns],.bl true,.refl _,.cons (.Zf hS) .nil,Mw ns hl,λv F' H' x r=>by cases r;rfl⟩) λ_ _ _ _ _ z=>z
end My
def PySem.W.Fast.tw9159438126082982269:PySem.Program:=PySem.Challenge.pw_planestacks_k37_whole_kinds_go_along
def PySem.W.Fast.te9159438126082982269:PySem.Challenge.pw_planestacks_k37_whole_kinds_go_along=PySem.W.Fast.tw9159438126082982269:=rfl
structure PySem.W.Fast:Prop where(tw10942071935263616750 tw4726398055048471265 tw16213337004570831633 tw9712364688476996994 tw9124760868304432025 tw12558219512723456268 tw2454336523654809320 tw17999496920813807678 tw15272705045753605920 tw12748380506164612972 tw4396576825970878 tw17021323447023006795 tw4409623202994516896 tw3378832794526489093 tw10277812654899848429 tw2292026626810509068 tw16264817704204538332 tw11199210004053603119 tw14856881139057581746 tw13896792167029554195 tw623859551810651129 tw6439033753882185207 tw17478490532992529759 tw11837781983920920679 tw5034534452178446794 tw6428270526404621489 tw2616850659928808721 tw15816026643650921303 tw11944400357606151237 tw4613184752390432621 tw6830554721959030863 tw8702275640949768857 tw2965140018054085637 tw7350993607253659141 tw7120308073742808192 tw16806522363661918723 tw6228544414515781057 tw2146731385642840732 tw734116994497508448 tw1748251528449411780 tw11551195523339968462 tw7246583810050381016 tw3696560565322704114 tw4356420707310762089 tw16583161264465175926 tw5421141607982685454 tw15975975876303148180 tw9598227159519226960 tw4231384609334276300 tw4256630471270333351 tw16024847416358175726 tw481682134119300000 tw9721944755831024882 tw6661850470173801394 tw18156775705236632879 tw8193781565114892863 tw13236840995208662891 tw16742585342057323248 tw5908314989170833972 tw8195038047927493178 tw7208223306238697048 tw19719259849106719 tw5968048007422631695 tw3110159646074646894 tw13661184281319332418 tw16277635401377128329 tw7149249153954039834 tw17014698346421494929 tw13338759740803335703 tw7004162637035139450 tw1996864073025037305 tw13951273225586956848 tw8166505536159189425 tw12009930473042800932 tw6136307073892543457 tw9169151998538051547 tw15956174906457330567 tw8478786481899970272 tw7054789527453449702 tw8525413191966402013 tw15357039573196145503 tw303964183125185310 tw6531015925059914074 tw15308556102435770504 tw1072439838273030587 tw11361126120771047405 tw2952603232256394742 tw15964854490174661380 tw12955995832706437748 tw5017821707606739011 tw8583902176881559851 tw2335257664889924394 tw14685955983237595880 tw3199180513819202154 tw11965140637972972268 tw10624630327684504956 tw8674716345614472219 tw4913896845197593535 tw2382339999217936625 tw9050849817827920747 tw17861777303306407730 tw15191984320119366605 tw11397274227087047691 tw599786357097225287 tw15261622044973387668 tw17259919321221077205 tw775091000896111766 tw7555198017766918300 tw3298331825142386186 tw14379455346825623966 tw7006666264612335647 tw4402682655888171951 tw13992080215087252553 tw14763077275531900441 te11630808593990746884 tw5292111782937305912 tw14997290188593133173 tw9218308345901044548 tw5123578035843764868 tw15923011675039607397 tw109516266316119225 tw13012903647912587754 tw1792906821540156597 tw594732597921230825 tw3733823395063836580 tw1367625712486960593 tw9038719978846295457 tw14090041561245152983 tw15267212942535106217 tw83887124883752397 tw3072649350779714384 tw18442551412930273661 tw1135781875585821440 tw9679854203484095161 tw15930856220171006076 tw14827996579883820369 tw5861910956778174983 tw7868428809802975126 tw13557872401721805698 tw1374698475228283390 tw4637162682154674879 tw8144238585746012131 tw18320986781506963993 tw4698265960010044170 tw4937364332188079852 tw906517478649367091 tw5134826608873267968 tw4141533213567622106 tw17322529483538066885 tw7142326268551804951 tw18302629225586809921 tw1144761916965093344 tw5493632421930416052 tw15884043668436205416 tw1959936462181408918 tw17000329237584311538 tw5226944651150698232 tw10939684032439376629 tw14152820550023930395 tw7177166933527148812 tw9917145135680333561 tw11712865771366079777 tw5661732503701617628 tw17208522781499708580 tw18050185269651751099 tw8588192051328246239 tw7377857265768715699 tw7190538307770158666 tw13019079861821873166 tw2268959811265959022 tw14860625551666342089 tw7908203331934136028 tw751992023215113936 tw14873748166993599493 tw498281347847910864 tw14609625291296015544 tw3713660284569722146 tw17472549892340787880 tw4161555161369334255 tw14071750910262268642 tw17292623593969853670 tw15488052590067753846 tw12275960058549809949 tw41909502709608954 tw13971520638161356433 tw16435641249283619985 tw10328517800185098486 tw7547020618287894869 tw15742355831499249523 tw7290441299258804111 tw18258418848111592928 tw3402401060601545901 tw2356431461427445129 tw4122958470704164063 tw8670358479559531917 tw4497173076071516454 tw266672355583112017 tw975769969271275920 tw11588153579903366651 tw17393353451925415855 tw4762311018912913548 tw15590882710312993312 tw7919181297455832602 tw9379658586822556835 tw11036789854498539499 tw3124219770353349140 tw9238588096490197003 tw3346838103859012496 tw15604382651711867787 tw9985253701897636895 tw5653621500549512693 tw5687064455249017733 tw14092796747986547010 tw10662573950475394490 tw17264516123428480336 tw1696050912637112837 tw18173167074333358881 tw6232092952085575950 tw17362190198473993448 tw6471094759044589799 tw5595955329691270815 tw7115665596852481830 tw11887228215588451695 tw18160643248066203178 tw15826928199638111178 tw14864718393630984770 tw16170928636315767389 tw15748644467083262227 tw4268277914493411478 tw17929469084306603153 tw14714321659585310842 tw12369983172683188582 tw102301966247934544 tw18008659956115939288 tw12899146729628140897 tw2804350545751752607 tw12720837393295085449 tw565485706343706501 tw14638813996124214213 tw5172436489346968582 tw16986584641079773451 tw15911288366040879873 tw389921083617135966 tw10126363268998263134 tw12213039682614226580 tw919393994961679579 tw1480616433056633589 tw1108697712980933478 tw495270989034701092 tw218117905268432037 tw1333984319884589987 tw5945453150467349384 tw15273478808762385703 tw14434446615999394137 tw14798073983695407863 tw6985616219324050532 tw12260366264574597799 tw12668629684532337515 tw15307400656224723678 tw17548054661472764503 tw16793013475221580080 tw8008284609801164172 tw17699674180217029249 tw9643511572924794420 tw7651009936035811425 tw5603383331183714643 tw14749964538979667998 tw1409270685183227346 tw10931044250018204097 tw8877214861707989575 tw1088241508944102554 tw2827995205520978361 tw6372948182084274831 tw12657553004564217206 tw7210856280571091284 tw17312814043666674289 tw155339359406834084 tw9353960274230227339 tw6583886082920589562 tw15299180624018051487 tw14239863740582727252 tw8183306181633655469 tw7493044339420978792 tw3542681758467450517 tw6506090944547967872 tw9746535775996077007 tw10902403534681524554 tw9524675057265764628 tw8968616160252867667 tw14904184768206682490 tw9991550437668073152 tw5976225796441549848 tw14126169735797081274 tw16389499239997505487 tw2510632402047566627 tw9797623794193697805 tw18003813264300736937 tw14898827025693014599 tw15034260609856000829 tw4747081786199635018 tw17553406149165444665 tw4580039089545192186 tw4911953109827332244 tw5187093507528911928 tw10713839941452267030 tw11577309189291048420 tw836173929529140304 tw10954383259065352984 tw6907724899163661826 tw7628878056660824723 tw2235743764403942630 tw11135366615520245072 tw13850336483157596134 tw9577513969332276108 tw9043430383786873179 tw11133475843761441253 tw10765882367535215228 tw5282704443125460377 tw3840593029684302575 tw5631611968776453445 tw6888620271716421696 tw6862798513449461447 tw762896974612075678 tw13699868439762055010 tw8603636983926036052 tw16287339601404298979 tw11230859527804125374 tw17331493115613466484 tw1016456563707037261 tw6541922873295914278 tw6284060453663137435 tw14031008489584757463 tw4134624024732605500 tw16925823181104998339 tw12355583997845936966 tw7621662426291423718 tw1167462620370973398 tw17011212620563521802 tw15578755649410281055 tw10788900538644554770 tw12190779471406334449 tw5921471642177984193 tw17909391402139513963 tw18425150298000990479 tw14729899337717023474 tw13183129974747173778 tw11003454572934370613 tw2639143827208495970 tw15871789671564533497 tw14402141586775166250 tw4327042260100261214 tw18099145908929698384 tw11620060219097919729 tw14329908532247262949 tw7177179467315457731 tw145621423324214246 tw11839249905549495234 tw15242006299186487426 tw14623289445809506942 tw15512274149423820569 tw9417178074556977888 tw7398776682353855577 tw8573334115828395846 tw10918697777408180620 tw16621563696009847909 tw8956474175636162029 tw13394171313370126916 tw14133586540268332239 tw9856509417468386401 tw3679694545295703391 tw14635458499056636378 tw15345124560679330887 tw13116438260017625465 tw11605705940608383066 tw9072283256983702942 tw4293675670716868539 tw7887136007570143530 tw7534292741448828863 tw8384205509414686495 tw7594740375745219479 tw15439763211103129860 tw12676486446609766958 tw14036728802299575240 tw17195270978364546142 tw7192011926077653796 tw8622337838999780464 tw5653757726109496124 tw3702162128235626757 tw6429611889290670156 tw5561508250583820637 tw16290538452316652022 tw10312386403777712805 tw560350567782322817 tw18313104234527429351 tw1936632889210492684 tw5138452140510904233 tw16038612635884168324 tw8334960954171252196 tw10790725777670123765 tw7003665845720821880 tw11026625152944182501 tw18093701757475497197 tw2313995802461059654 tw13909436550447676057 tw2657017172706505818 tw13195377781420713132 tw13926988916820990135 tw184703973192019053 tw3187153980949096323 tw9481196109998100191 tw3360549031999539144 tw16489302785848886030 tw17220086287823227290 tw4616918085905342523 tw14036246652822744964 tw13160413995147528092 tw915486959657363318 tw15789237747942158948 tw8132214314477427695 tw10419831099221056008 tw12153689397878016758 tw3458793937636335178 tw11903222909012125994 tw1310195695825444819 tw3863135207392073 tw16508778174860460351 tw3786107677126423862 tw12267815996814475986 tw9781383031427529401 tw6539831901649361659 tw17922854983485168502 tw10219685303520229337 tw4150676131185346872 tw7929718108025965745 tw12602896624750121217 tw124378244093992031 tw11640118781131700273 tw8350753871130399338 tw2352040503427360113 tw1770601098091562409 tw9904681162478657669 tw1951058128286507144 tw12393035680076710032 tw12230596095834267483 tw3118204325612855245 tw1856576357671741305 tw10941796842700838504 tw833354022098565961 tw14327276187261628638 tw11333222245902743535 tw17208812345496835195 tw7941107983947947231 tw12306116316696349111 tw8155413137907182519 tw13980353143215361437 tw8881778896984832165 tw15895617329082734500 tw161086703345686416 tw3094435973870253381 tw15909777874048755581 tw12620690034234956434 tw6026917711420085021 tw3318569098991550855 tw7961441758602498929 tw4606288858082096614 tw11449249343199604664 tw15319092619772174468 tw4436479794477555101 tw14805746819097451046 tw8640761496607247176 tw5687469054047724315 tw7744111081684982488 tw16942009011313793249 tw6862257211665997194 tw2277039743804449332 tw7373602205483224967 tw2447074465357467108 tw2804130226813509831 tw10141512649902554008 tw14687112335890945758 tw11604638903229165869 tw8616622238813813542 tw1297105243653167241 tw10954427920987380317 tw10200248024443816694 tw1649293903478766880 tw7306787665071262955 tw15634177207013692887 tw15794734685880919238 tw3685921951866602963 tw2473590256566477438 tw6697508474017823227 tw8740214090574839024 tw2578544252107345420 tw7451991916087828859 tw7031219174916841348 tw16806146966459059916 tw17587532319329191337 tw11898506091483780121 tw15322534774936582960 tw13849565549718868319 tw7925862864596432836 tw3501579290196783959 tw8044005517117810099 tw17218053826802996306 tw5403371340547427122 tw10659052931054711523 tw17982133557561384247 tw7324359198946575712 tw17500285705971987668 tw17802199820928004542 tw16623092191839987057 tw13157906041909919850 tw1423671335096430063 tw15600377321053881275 tw3318512654157909094 tw16727291012649855468 tw15811177199696772754 tw12197846333054388004:True)
open PySem PySem.W PyProof.Rows
set_option maxRecDepth 100000 in
set_option maxHeartbeats 0 in
theorem PySem.Challenge.cw_planestacks_k37_whole_kinds_go_along_holds : PySem.Challenge.rw_planestacks_k37_whole_kinds_go_along.Holds := by
 w_on; o_law; k_head; (case hw => w_witness2)
 k_fill
 refine My.walk (l := PySem.Challenge.rw_planestacks_k37_whole_kinds_go_along) (by decide +kernel) rfl rfl (fun w h Y => PySem.W.kIn_of Y) ?F
 case F =>
  intro w mg fa h KX G hmg
  refine' My.all_mk rfl KX G hmg ?_ ?_ ?_ ?_ ?_ ?_ ?_ ?_ ?_ ?_ ?_ ?_ ?_ ?_ ?_ ?_ ?_ ?_ ?_ ?_ ?_ ?_ ?_ ?_ ?_ ?_ ?_ ?_ ?_ ?_ ?_ ?_ ?_ ?_ ?_ ?_ ?_ ?_ ?_ ?_ ?_ ?_ ?_ ?_ ?_ ?_ ?_ ?_ ?_ ?_ ?_ ?_ ?_ ?_ ?_ ?_ ?_ ?_ ?_ ?_ ?_ ?_ ?_ ?_ ?_ ?_ ?_ ?_ ?_ ?_ ?_ ?_ ?_ ?_ ?_ ?_ ?_ ?_ ?_ ?_ ?_ ?_ ?_ ?_ ?_ ?_ ?_ ?_ ?_ ?_ ?_ ?_ ?_ ?gp_LETTERS ?_ ?_ ?gp_SIGNS_SAID ?_ ?_ ?gp_BINDERS ?_ ?_ ?gp_WORDS ?_ ?_ ?gp_DOUBLE_SIGNS ?_ ?_ ?gb_COMPARISONS ?gt_COMPARISONS ?_ ?_ ?gb_COMPARISONS_SHOWN ?gt_COMPARISONS_SHOWN ?_ ?_ ?_ ?_ ?_ ?_ ?_ ?_ ?_ ?_ ?_ ?_ ?_ ?_ ?_ ?_ ?_ ?_ ?_ ?_
  all_goals try refine' L2.EV.kd ?_ ?_ ?_ ?_
  all_goals try k_is
  (case gp_LETTERS => refine' (.cons (.str _ _) (.cons (.str _ _) .nil)))
  (case gp_SIGNS_SAID => refine' (.cons (My.gp_tup ?ha0 ?hb0) (.cons (My.gp_tup ?ha1 ?hb1) (.cons (My.gp_tup ?ha2 ?hb2) (.cons (My.gp_tup ?ha3 ?hb3) (.cons (My.gp_tup ?ha4 ?hb4) (.cons (My.gp_tup ?ha5 ?hb5) .nil)))))); (case ha0 => k_is); (case hb0 => exact (.cons (.int _ _) .nil)); (case ha1 => k_is); (case hb1 => exact (.cons (.int _ _) .nil)); (case ha2 => k_is); (case hb2 => exact (.cons (.int _ _) .nil)); (case ha3 => k_is); (case hb3 => exact (.cons (.int _ _) (.cons (.int _ _) .nil))); (case ha4 => k_is); (case hb4 => exact (.cons (.int _ _) (.cons (.int _ _) .nil))); (case ha5 => k_is); (case hb5 => exact (.cons (.int _ _) (.cons (.int _ _) .nil))))
  (case gp_BINDERS => refine' (.cons (.str _ _) (.cons (.str _ _) .nil)))
  (case gp_WORDS => refine' (.cons (.str _ _) (.cons (.str _ _) (.cons (.str _ _) (.cons (.str _ _) (.cons (.str _ _) (.cons (.str _ _) (.cons (.str _ _) .nil))))))))
  (case gp_DOUBLE_SIGNS => refine' (.cons (.str _ _) (.cons (.str _ _) (.cons (.str _ _) .nil))))
  (case gb_COMPARISONS => decide)
  (case gt_COMPARISONS => refine' (.cons (by decide +kernel) (My.KT.mk ?ha0 ?hb0 ?hc0) (.cons (by decide +kernel) (My.KT.mk ?ha1 ?hb1 ?hc1) (.cons (by decide +kernel) (My.KT.mk ?ha2 ?hb2 ?hc2) (.cons (by decide +kernel) (My.KT.mk ?ha3 ?hb3 ?hc3) (.cons (by decide +kernel) (My.KT.mk ?ha4 ?hb4 ?hc4) (.cons (by decide +kernel) (My.KT.mk ?ha5 ?hb5 ?hc5) .nil)))))); (case ha0 => k_is); (case hb0 => exact Nat.le_of_ble_eq_true rfl); (case hc0 => exact .cons ⟨_, rfl⟩ (.nil)); (case ha1 => k_is); (case hb1 => exact Nat.le_of_ble_eq_true rfl); (case hc1 => exact .cons ⟨_, rfl⟩ (.nil)); (case ha2 => k_is); (case hb2 => exact Nat.le_of_ble_eq_true rfl); (case hc2 => exact .cons ⟨_, rfl⟩ (.nil)); (case ha3 => k_is); (case hb3 => exact Nat.le_of_ble_eq_true rfl); (case hc3 => exact .cons ⟨_, rfl⟩ (.cons ⟨_, rfl⟩ (.nil))); (case ha4 => k_is); (case hb4 => exact Nat.le_of_ble_eq_true rfl); (case hc4 => exact .cons ⟨_, rfl⟩ (.cons ⟨_, rfl⟩ (.nil))); (case ha5 => k_is); (case hb5 => exact Nat.le_of_ble_eq_true rfl); (case hc5 => exact .cons ⟨_, rfl⟩ (.cons ⟨_, rfl⟩ (.nil))))
  (case gb_COMPARISONS_SHOWN => decide)
  (case gt_COMPARISONS_SHOWN => refine' (.cons (by decide +kernel) (by decide +kernel) (My.KT.mk ?ha0 ?hb0 ?hc0) (.cons (by decide +kernel) (by decide +kernel) (My.KT.mk ?ha1 ?hb1 ?hc1) (.cons (by decide +kernel) (by decide +kernel) (My.KT.mk ?ha2 ?hb2 ?hc2) (.cons (by decide +kernel) (by decide +kernel) (My.KT.mk ?ha3 ?hb3 ?hc3) (.cons (by decide +kernel) (by decide +kernel) (My.KT.mk ?ha4 ?hb4 ?hc4) (.cons (by decide +kernel) (by decide +kernel) (My.KT.mk ?ha5 ?hb5 ?hc5) .nil)))))); (case ha0 => k_is); (case hb0 => exact Nat.le_of_ble_eq_true rfl); (case hc0 => exact .cons ⟨_, rfl⟩ (.nil)); (case ha1 => k_is); (case hb1 => exact Nat.le_of_ble_eq_true rfl); (case hc1 => exact .cons ⟨_, rfl⟩ (.nil)); (case ha2 => k_is); (case hb2 => exact Nat.le_of_ble_eq_true rfl); (case hc2 => exact .cons ⟨_, rfl⟩ (.nil)); (case ha3 => k_is); (case hb3 => exact Nat.le_of_ble_eq_true rfl); (case hc3 => exact .cons ⟨_, rfl⟩ (.cons ⟨_, rfl⟩ (.nil))); (case ha4 => k_is); (case hb4 => exact Nat.le_of_ble_eq_true rfl); (case hc4 => exact .cons ⟨_, rfl⟩ (.cons ⟨_, rfl⟩ (.nil))); (case ha5 => k_is); (case hb5 => exact Nat.le_of_ble_eq_true rfl); (case hc5 => exact .cons ⟨_, rfl⟩ (.cons ⟨_, rfl⟩ (.nil))))
