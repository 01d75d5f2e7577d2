import PyProof.Rows.All
import Wide.All
import OpenK.AllK
import Wide.FinOn
import Lean
import PyProof.EqAt
import PyProof.EqKinds
import PyProof.TupleCall
import PySem.Challenge.RW_planestacks_k35_texts_of_no_sayings
set_option linter.all false
def ag:=@List.length_append
def ai:=@List.length_map
def aj:=@decide_eq_false
def ak:=@PySem.wpAny_bind
def ao:=@Nat.le_refl
def ar:=@decide_eq_true
def av:=@if_neg
def ax:=@if_pos
def aA:=@Bool.false_ne_true
def aD:=@PySem.wpAny_pure
def aE:=@List.map_append
def aF:=@List.mem_append_right
def aG:=@List.size_toArray
def aH:=@PySem.wpAny_mono
def aJ:=@Nat.le_trans
def aL:=@congrArg
def aO:=@List.append_assoc
def aR:=@PySem.Heap.lt_size
def aV:=@List.mem_cons_of_mem
def aX:=@List.append_nil
def aZ:=@decide_eq_false_iff_not
def ba:=@Nat.lt_of_lt_of_le
def bc:=@List.mem_cons
def bf:=@List.replicate_succ
def bh:=@PySem.W.mg_of
def bp:=@List.map_cons
def bv:=@Int.toNat_natCast
def bx:=@List.eq_nil_of_length_eq_zero
def bF:=@beq_eq_false_iff_ne
def bG:=@decide_eq_decide
def bH:=@Nat.ne_of_lt
def bM:=@Nat.lt_of_le_of_lt
def bN:=@Option.some.inj
def bO:=@Nat.zero_le
def bS:=@List.mem_append
def bV:=@decide_eq_true_eq
def bW:=@List.take_length
def bX:=@List.length_drop
def bY:=@List.length_cons
def bZ:=@List.mem_singleton
def cg:=@of_decide_eq_true
def ck:=@PySem.W.mg_none_of
def cm:=@List.mem_cons_self
def cy:=@List.length_set
def cB:=@List.flatten_cons
def cM:=@Nat.le_of_ble_eq_true
def cO:=@Nat.mul_le_mul_left
def cQ:=@PySem.W.kia_one
def cY:=@List.drop_eq_getElem_cons
def df:=@List.sum_append
def dj:=@Array.length_toList
def dv:=@PySem.wpAny_holding
def dw:=@PySem.F.plainAttrs_list
def dG:=@PySem.wpAny_newObj_type
def dN:=@Nat.succ_le_succ
def dO:=@List.take_of_length_le
def dP:=@List.map_map
def dQ:=@List.lookup_cons
def dR:=@List.length_take
def dS:=@Bool.and_eq_true
def eB:=@List.length_singleton
def eF:=@Ne.symm
def eG:=@PySem.wpAny_field
def eU:=@Nat.pow_le_pow_right
def fC:=@Nat.lt_succ_self
def fE:=@List.getElem_mem
def fH:=@List.mem_append_left
def fQ:=@PySem.wpAny_execs_cons
def fW:=@List.length_reverse
def fX:=@List.filterMap_cons
def fY:=@PySem.Heap.size_push
def gh:=@PySem.wpAny_truthy_bool
def gi:=@Nat.lt_irrefl
def gj:=@Bool.false_or
def gu:=@of_decide_eq_false
def gv:=@Int.natAbs_natCast
def gx:=@List.eq_nil_or_concat
def gy:=@List.concat_eq_append
def gR:=@List.nodup_cons
def gT:=@PySem.wpAny_Call_Name_kw
def gU:=@List.length_range
def ia:=@PySem.F.type_list_append
def ib:=@PySem.F.slot_list_append
def ic:=@PyProof.Rows.slot_tuple_getitem
def ir:=@PySem.wpAny_passesOwn
def iu:=@PySem.mem_of_lookup
def iC:=@PySem.wpAny_loadPart_at
def iZ:=@Nat.le_of_eq
def je:=@Prod.ext
def jf:=@List.length_nil
def jg:=@Int.emod_nonneg
def jB:=@List.length_replicate
def jD:=@PyProof.Rows.callWith_type1
def jE:=@Nat.lt_succ_of_lt
def jF:=@List.take_add_one
def jT:=@PySem.wpAny_loadPart'
def jU:=@beq_iff_eq
def kz:=@List.filter_cons
def kO:=@Int.toNat_of_nonneg
def kQ:=@PyProof.Rows.subscriptTail_builtinR
def lr:=@PySem.F.slot_tuple_iterator_next
def l9:=@PySem.wpAny_call_entry
def ma:=@PySem.W.callWith_K
def mf:=@List.length_eq_zero_iff
def mh:=@Int.eq_ofNat_of_zero_le
def nE:=@PySem.wpAny_standAt
def nF:=@Nat.succ_mul
def nG:=@Nat.ne_of_gt
def nH:=@Nat.le_of_lt
def nI:=@List.reverse_cons
def nJ:=@List.drop_eq_nil_of_le
def nK:=@Bool.not_eq_true'
def oj:=@PySem.Obj.data_mapFields
def om:=@PySem.Calls.spliced_cons
def oo:=@List.take_append_drop
def oq:=@List.length_filter_le
def pB:=@Nat.min_le_right
def pC:=@Nat.le_max_right
def pD:=@List.mem_reverse
def pL:=@List.map_drop
def pQ:=@PySem.codeAny_mono
def pR:=@PySem.SeqAt.canLay_of_shaped
def pS:=@PySem.W.looks_findIn
def pT:=@List.mem_of_mem_take
def rJ:=@PySem.W.hideAll_get
def rK:=@List.getElem_of_mem
def rS:=@List.map_nil
def tD:=@PySem.sizeLine_eq
def tE:=@Nat.mul_le_mul
def tF:=@List.take_succ
def tG:=@List.filter_append
def tH:=@List.drop_zero
def tI:=@Int.emod_lt_of_pos
def tJ:=@Bool.and_false
def uH:=@PySem.wpAny_execs_nil
def we:=@PySem.wpAny_setField
def wf:=@PySem.wpAny_pyIter_tuple
def wg:=@Nat.not_lt_of_le
def ym:=@PySem.F.plainAttrs_str
def yn:=@Nat.lt_trans
def yo:=@Nat.add_comm
def yp:=@List.filter_eq_nil_iff
def yq:=@List.dropWhile_sublist
def yr:=@List.all_map
def yt:=@Int.zero_add
def yw:=@List.nil_append
def yx:=@List.forIn_cons
def yy:=@Bool.or_eq_true
def yz:=@Bool.eq_iff_iff
def Cj:=@List.mem_of_mem_drop
def Ck:=@List.dropLast_concat
def Cm:=@eq_comm
def DE:=@PySem.call_meets
def DF:=@PySem.W.looks_mroIn
def DG:=@Option.some_ne_none
def DH:=@List.map_congr_left
def DI:=@PySem.Calls.callWith_builtin
def DL:=@List.map_take
def DM:=@Bool.true_and
def DN:=@Bool.or_false
def DO:=@Bool.and_true
def E9:=@decide_eq_true_iff
def Fa:=@PySem.Obj.isFreed_of_fields
def Fb:=@Nat.one_le_two_pow
def HM:=@PySem.wpAny_loadName_local
def HN:=@if_true
def HP:=@if_false
def HQ:=@PySem.W.kitx_dict
def HR:=@Nat.zero_mul
def HS:=@Nat.sub_zero
def HU:=@Nat.pow_succ
def HV:=@Nat.mul_comm
def HW:=@PySem.Calls.evalArgs_plain
def KP:=@PySem.wpAny_loadName_cell
def KQ:=@Option.getD_some
def KR:=@Nat.and_two_pow_sub_one_eq_mod
def KS:=@List.map_reverse
def K2:=@List.take_append_of_le_length
def M2:=@PySem.wpAny_call
def M3:=@Nat.min_eq_left
def M4:=@Nat.le_max_left
def M5:=@List.range_succ
def M6:=@List.of_mem_zip
def M7:=@Int.natCast_mul
def M8:=@Int.natCast_add
def P4:=@PySem.wpAny_pyIter_list
def P5:=@PySem.wpAny_Assign_Name
def P6:=@PySem.seqIndex_neg
def P7:=@PySem.PassesOwn.leaving
def P8:=@List.take_zero
def Ql:=@List.mem_or_eq_of_mem_set
def Qm:=@Classical.byContradiction
def Sh:=@PySem.wpAny_getItem_of
def Si:=@PySem.F.args_tuple_add_2
def SE:=@PySem.wpAny_alloc
def SF:=@PySem.seqIndex_of
def SH:=@PySem.F.entry_tuple_add
def Um:=@PySem.W.cellsFrom_some
def Uo:=@PySem.F.slot_tuple_add
def Up:=@PySem.F.slot_str_split
def Uq:=@Nat.zero_add
def Ur:=@Nat.sub_self
def Us:=@PySem.F.args_tuple_iterator_next_1
def UG:=@PyProof.Rows.assignInOrder_cons
def UH:=@PySem.F.type_list_pop
def UI:=@PySem.F.slot_list_pop
def UJ:=@List.filterMap_append
def UK:=@List.dropLast_eq_take
def UL:=@PySem.F.entry_tuple_iterator_next
def Vd:=@PySem.wpAny_Expr_any
def Ve:=@PySem.typeIs_str
def Vf:=@Sum.inr.inj
def Vg:=@Nat.mul_le_mul_right
def Vh:=@List.replicate_succ'
def Vi:=@List.length_dropLast
def Vj:=@PySem.F.slot_range_iterator_next
def Vk:=@PySem.Calls.Name_function_global
def Vn:=@List.takeWhile_cons
local macro_rules|`(tactic|decide)=>`(tactic|decide +kernel)
abbrev pE(x:PySem.Str):Prop:=(x==("__debug__":PySem.Str))=false
abbrev sw(sc:PySem.Scope)(x:PySem.Str):Prop:=sc.names.lookup x=some .globalImplicit
abbrev Cn(c:PySem.Pos)(es:List PySem.Expr)(E:PySem.Env):Prop:=((PySem.backTo c<|PySem.starEach es E).all (λx=>!x.1)&&(PySem.backToKw c<|PySem.keywordEach [] E).all (λx=>x.1.isSome)&&decide (es.length+([]:List PySem.Keyword).length+(if([]:List PySem.Keyword).isEmpty then 0 else 1)<30))=true
abbrev Fc(e:PySem.Expr)(es:List PySem.Expr)(E:PySem.Env):Prop:=PySem.starEach (e::es) E=(false,PySem.eval e E)::PySem.starEach es E
abbrev tN(c:PySem.Pos)(es:List PySem.Expr)(E:PySem.Env):Prop:=(PySem.backTo c<|PySem.starEach es E).any (·.1)=false
abbrev eZ:=PySem.W.Frag
abbrev bR:=List Int
abbrev bI:=List Nat
abbrev cn:=List PySem.Str
abbrev tL:=List PySem.Expr
abbrev jh:=List PySem.Value
abbrev gC:=List<|PySem.Addr×PySem.Obj
abbrev qW:=PySem.Value->PySem.Shared->Prop
abbrev tK:=PySem.Str->Option PySem.Value
set_option Elab.async false
set_option maxRecDepth 100000
namespace L2
open PySem PySem.W PySem.Spec PyProof.Rows
variable {pos:Pos}
variable {K:eZ}
abbrev nt:=Sum Int Str
def AJ:nt->Value->Bool|.inl k,v=>Value.isInt k v|.inr x,v=>Value.isStrOf x v
def TN(w:World):nt->Int|.inl k=>hashInt k|.inr x=>hashStr w x
def fy:∀{k:nt}{v:Value},AJ k v=true->(∃i t,k=Sum.inl i/\v=Value.int i t)\/(∃x t,k=Sum.inr x/\v=Value.str x t)|.inl i,v,h=>by let⟨t,e⟩:=Value.isInt_shape h;exact .inl ⟨i,t,rfl,e⟩|.inr x,v,h=>by let⟨t,e⟩:=Value.isStrOf_shape h;exact .inr ⟨x,t,rfl,e⟩
def ly(x:Str)(t:Tok):AJ (.inr x) (.str x t)=true:=by simp[AJ,Value.isStrOf]
def OY(a b:Int):decide ((Sum.inl a:nt)=Sum.inl b)=(a==b):=by by_cases e:a=b;subst e;simp;have h:¬(Sum.inl a:nt)=Sum.inl b:=λq=>e<|Sum.inl.inj q;rw[aj h];exact(bF.mpr e).symm
def OV(a b:Str):decide ((Sum.inr a:nt)=Sum.inr b)=decide (a=b):=by by_cases e:a=b;subst e;simp;have h:¬(Sum.inr a:nt)=Sum.inr b:=λq=>e<|Vf q;rw[aj h,aj e]
def OX(a:Int)(b:Str):decide ((Sum.inl a:nt)=Sum.inr b)=false:=aj λq=>nomatch q
def OW(a:Str)(b:Int):decide ((Sum.inr a:nt)=Sum.inl b)=false:=aj λq=>nomatch q
def la(prog:Program)(w:World):PySem.KeyKind prog w nt where
 is:=AJ
 hash:=TN w
 inj:=λv a b ha hb=>by rcases fy ha with⟨i,t,rfl,rfl⟩ |⟨x,t,rfl,rfl⟩;rcases fy hb with⟨j,u,rfl,e⟩ |⟨y,u,rfl,e⟩;injection e with e1 _;rw[e1];exact nomatch e;rcases fy hb with⟨j,u,rfl,e⟩ |⟨y,u,rfl,e⟩;exact nomatch e;injection e with e1 _;rw[e1]
 byValue:=λk v h=>by rcases fy h with⟨i,t,rfl,rfl⟩ |⟨x,t,rfl,rfl⟩<;>rfl
 pyHash:=λhv h=>by rcases fy hv with⟨i,t,rfl,rfl⟩ |⟨x,t,rfl,rfl⟩;exact wpAny_pyHash_int h;exact wpAny_pyHash_str h
 eqBool:=λhu hv h=>by rcases fy hu with⟨i,t,rfl,rfl⟩ |⟨x,t,rfl,rfl⟩;rcases fy hv with⟨j,u,rfl,rfl⟩ |⟨y,u,rfl,rfl⟩;rw[OY]at h;exact wpAny_eqBool_int h;rw[OX]at h;exact SeqAt.EqAt.int_str i t y u _ _ _ _ h;rcases fy hv with⟨j,u,rfl,rfl⟩ |⟨y,u,rfl,rfl⟩;rw[OW]at h;exact SeqAt.EqAt.str_int x t j u _ _ _ _ h;rw[OV]at h;exact wpAny_eqBool_str h
 «strs»:=λk x t v h=>by rcases fy h with⟨i,u,rfl,e⟩ |⟨y,u,rfl,e⟩;exact nomatch e;injection e with e1 _;subst e1;cases v<;>rfl
inductive V where
 |VH |bl (b:Bool) |int (i:Int) |str (x:Str) |YV (b:Array UInt8) |Zg (b:UInt64) |ref (a:Addr) |ty (n:String)
 deriving DecidableEq
abbrev fh:=List V
def RelV:V->Value->Prop
 |.VH,u=>u=Value.none|.bl b,u=>u=Value.bool b
 |.int i,u=>∃t,u=Value.int i t|.str x,u=>∃t,u=Value.str x t
 |.YV b,u=>∃t,u=Value.bytes b t|.Zg b,u=>∃t,u=Value.float b t
 |.ref a,u=>u=Value.ref a|.ty n,u=>u=Value.type n
abbrev Vals:fh->jh->Prop:=Paired RelV
def Vals.length(r:Vals xs us):xs.length=us.length:=Paired.length r
def Vals.get:∀{xs:fh}{us:jh}{i:Nat}{x:V},Vals xs us->xs[i]?=some x->∃u,us[i]?=some u/\RelV x u
 |_,_,_,_,.nil,e=>by simp at e|_,_,0,_,.cons r _,e=>by simp at e;subst e;exact⟨_,rfl,r⟩
 |_,_,i+1,x,.cons _ t,e=>by let⟨u,h1,h2⟩:=Vals.get t e;exact⟨u,by simpa using h1,h2⟩
def Vals.set(r:RelV x u):∀{xs:fh}{us:jh}(i:Nat),Vals xs us->Vals (xs.set i x) (us.set i u)
 |_,_,_,.nil=>.nil|_,_,0,.cons _ t=>.cons r t
 |_,_,i+1,.cons q t=>.cons q<|Vals.set r i t
def Vals.append:∀{xs ys:fh}{us ws:jh},Vals xs us->Vals ys ws->Vals (xs++ys) (us++ws)|_,_,_,_,.nil,s=>s|_,_,_,_,.cons r t,s=>.cons r<|Vals.append t s
def Vals.take:∀{xs:fh}{us:jh}(n:Nat),Vals xs us->Vals (xs.take n) (us.take n)
 |_,_,0,_=>.nil|_,_,_+1,.nil=>.nil
 |_,_,n+1,.cons r t=>.cons r<|Vals.take n t
def Vals.drop:∀{xs:fh}{us:jh}(n:Nat),Vals xs us->Vals (xs.drop n) (us.drop n)
 |_,_,0,r=>r|_,_,_+1,.nil=>.nil
 |_,_,n+1,.cons _ t=>Vals.drop n t
def Y7:Option V->Option Value->Prop
 |some v,some u=>RelV v u|none,none=>True
 |_,_=>False
def KV{κ:Type}:List (κ×V)->List (κ×Value)->Prop:=Paired λ(p:κ×V)(q:κ×Value)=>p.1=q.1/\RelV p.2 q.2
def kV:nt->V|.inl i=>.int i|.inr x=>.str x
inductive HO where
 |lst (xs:fh)
 |tup (xs:fh)
 |dK (kvs:List (nt×V)) |dT (kvs:List (List nt×V))
 |set (S:Int->Bool) (n:Nat)
 |ins (C dx:Addr) (fs:List (Str×V))
 |own (x:Addr)
 |xd (fs:List (Str×V))
 |met (f x:Addr)
 |rng (lo hi:Int)
 |W5 (o:Obj) (u:HO)
 |Zd (ps:Array Value)
 |ext (φ:Heap->Prop)
abbrev Hp:=Addr->Option HO
variable {H:Hp}
def dH(H:Hp)(a:Addr)(o:HO):Hp:=λb=>if b=a then some o else H b
def aI:dH H a o a=some o:=by unfold dH;rw[ax rfl]
def aK{a b:Addr}(h:b≠a):dH H a o b=H b:=by unfold dH;rw[av h]
def Fg{u:HO}:dH (dH H a o) a u=dH H a u:=by funext b;unfold dH;split<;>rfl
def fk{a b:Addr}(h:H a=some o)(h':H b=none):a≠b:=by intro e;subst e;rw[h]at h';cases h'
section
variable (P:Program)(w:World)
def VT(H:Hp)(h:Heap)(a:Addr):HO->Prop
 |.lst xs=>xs.length<=sizeLine/\∃(its:jh)(n:Nat),Vals xs its/\h.get? a=some {cls:=.type "list",data:=.seq its.toArray n}|.tup xs=>xs.length<=sizeLine/\∃its:jh,Vals xs its/\IsTup h a its.toArray
 |.dK kvs=>kvs.length<=sizeLine/\(a==sysModules)=false/\∃vs,KV kvs vs/\h.DictOf (la P w) a vs|.dT kvs=>kvs.length<=sizeLine/\(a==sysModules)=false/\∃xs:List (List nt×Addr×Value),Paired (λ(p:List nt×V)(q:List nt×Addr×Value)=>p.1=q.1/\H q.2.1=some (.tup<|p.1.map kV)/\RelV p.2 q.2.2) kvs xs/\∃o es ep,h.get? a=some o/\o.ExactDict/\o.data=.dict es ep/\es.toList=xs.map (entryOfKey<|tupleKind<|la P w)/\(xs.map (·.1)).Nodup
 |.set S n=>h.SetOf (intKind P w) a S n|.ins C dx fs=>H dx=some (.own a)/\fs.length<=1000/\dx≠a/\h.get? a=some (instObj C dx)/\∃mA,h.Ns1 dx mA/\(∀f,Y7 (fs.lookup f)<|mA f)/\PySem.Within mA (fs.map (·.1))
 |.own _=>∃o,h.get? a=some o|.xd fs=>∃mA,h.Ns1 a mA/\∀f,Y7 (fs.lookup f)<|mA f
 |.rng lo hi=>∃t u v,h.get? a=some {cls:=.type "range",data:=.fields #[.int lo t,.int hi u,.int 1 v]}|.W5 o u=>h.get? a=some o/\VT H h a u
 |.Zd ps=>h.get? a=some {cls:=.none,data:=.fields ps}|.met f x=>h.get? a=some (methodObj (.ref f)<|.ref x)
 |.ext φ=>φ h/\(∃o,h.get? a=some o)/\∀h1 h2:Heap,φ h1->(∀o,h1.get? a=some o->h2.get? a=some o)->φ h2
def Xu(H:Hp)(h:Heap):Prop:=∀a o,H a=some o->VT P w H h a o
end
def VT.lt(x:VT P w H h a o):a<h.objs.size:=by
 cases o with
 |lst xs=>let⟨_,_,_,_,e⟩:=x;exact aR e|tup xs=>let⟨_,_,_,p⟩:=x;exact p.lt
 |dK kvs=>let⟨_,_,_,_,o,_,_,e,_⟩:=x;exact aR e|dT kvs=>let⟨_,_,_,_,o,_,_,e,_⟩:=x;exact aR e
 |set S n=>let⟨o,_,_,_,e,_⟩:=x;exact aR e|ins C dx fs=>let⟨_,_,_,e,_⟩:=x;exact aR e
 |own y=>let⟨_,e⟩:=x;exact aR e|xd fs=>let⟨_,⟨_,_,_,e,_⟩,_⟩:=x;exact aR e
 |rng lo hi=>let⟨_,_,_,e⟩:=x;exact aR e|W5 ob u=>let⟨e,_⟩:=x;exact aR e
 |Zd ps=>exact aR (x)|met f y=>exact aR<|x
 |ext φ=>let⟨_,⟨_,e⟩,_⟩:=x;exact aR e
def Paired.zC7{α β:Type}{F G:α->β->Prop}:∀{l₁:List α}{l₂:List β},Paired F l₁ l₂->(∀a b,F a b->G a b)->Paired G l₁ l₂|_,_,.nil,_=>.nil|_,_,.cons r t,f=>.cons (f _ _ r)<|Paired.zC7 t f
def VT.XU{H':Hp}{h':Heap}(x:VT P w H h a o)(k:∀b u,(b=a\/H b=some (.own a))->h.get? b=some u->h'.get? b=some u)(ho:∀b,H b=some (.own a)->H' b=some (.own a))(ht:∀b xs,H b=some (.tup xs)->H' b=some (.tup xs)):VT P w H' h' a o:=by
 induction o with
 |lst xs=>let⟨z,its,n,r,e⟩:=x;exact⟨z,its,n,r,k _ _ (.inl rfl) e⟩|tup xs=>let⟨z,its,r,ob,e,c⟩:=x;exact⟨z,its,r,ob,k _ _ (.inl rfl) e,c⟩
 |dK kvs=>let⟨z,y,vs,r,ob,es,ep,e,c⟩:=x;exact⟨z,y,vs,r,ob,es,ep,k _ _ (.inl rfl) e,c⟩|dT kvs=>let⟨z,y,xs,r,ob,es,ep,e,c⟩:=x;exact⟨z,y,xs,Paired.zC7 r λp q z=>⟨z.1,ht _ _ z.2.1,z.2.2⟩,ob,es,ep,k _ _ (.inl rfl) e,c⟩
 |set S n=>let⟨ob,es,ep,t,e,c⟩:=x;exact⟨ob,es,ep,t,k _ _ (.inl rfl) e,c⟩|ins C dx fs=>let⟨d,z,ne,e,mA,⟨od,es,ep,e2,c⟩,r⟩:=x;exact⟨ho _ d,z,ne,k _ _ (.inl rfl) e,mA,⟨od,es,ep,k _ _ (.inr d) e2,c⟩,r⟩
 |own y=>let⟨ob,e⟩:=x;exact⟨ob,k _ _ (.inl rfl) e⟩|xd fs=>let⟨mA,⟨od,es,ep,e,c⟩,r⟩:=x;exact⟨mA,⟨od,es,ep,k _ _ (.inl rfl) e,c⟩,r⟩
 |rng lo hi=>let⟨t,u,v,e⟩:=x;exact⟨t,u,v,k _ _ (.inl rfl) e⟩|W5 ob u ih=>let⟨e,q⟩:=x;exact⟨k _ _ (.inl rfl) e,ih q⟩
 |Zd ps=>have e:=x;exact k a _ (.inl rfl) e|met f y=>have e:=x;exact k a _ (.inl rfl) e
 |ext φ=>let⟨p,⟨o,e⟩,st⟩:=x;exact⟨st _ _ p λo q=>k _ _ (.inl rfl) q,⟨o,k _ _ (.inl rfl) e⟩,st⟩
def Xu.lt{a:Addr}(x:Xu P w H h)(e:H a=some o):a<h.objs.size:=(x a o e).lt
def Xu.fresh{a:Addr}(x:Xu P w H h)(e:h.objs.size<=a):H a=none:=by cases q:H a with|none=>rfl|some u=>exact absurd (ba (x.lt q) e)<|gi _
def Xu.kept{h':Heap}(x:Xu P w H h)(k:∀b u,h.get? b=some u->h'.get? b=some u):Xu P w H h':=λa o e=>(x a o e).XU (λb u _ q=>k b u q) (λ_ q=>q) λ_ _ q=>q
def Xu.laid{h':Heap}{a:Addr}(x:Xu P w H h)(k:∀b u,h.get? b=some u->h'.get? b=some u)(hp:h.objs.size<=a)(new:VT P w (dH H a o) h' a o):Xu P w (dH H a o) h':=λb u e=>by have hn:=x.fresh hp;by_cases hb:b=a;subst hb;rw[aI]at e;cases e;exact new;rw[aK hb]at e;exact(x b u e).XU (λc v _ q=>k c v q) (λc q=>by rwa[aK<|fk q hn]) λc xs q=>by rwa[aK<|fk q hn]
def Rd(H:Hp)(a:Addr)(u:HO):Prop:=H a=some u\/∃o,H a=some (.W5 o u)
def Rd.ok(r:Rd H a u)(x:Xu P w H h):VT P w H h a u:=by rcases r with r |⟨o,r⟩;exact x a u r;let⟨_,q⟩:=x a _ r;exact q
def SD:Option HO->Prop
 |some (.lst _)=>True|some (.dK _)=>True
 |some (.dT _)=>True|some (.set _ _)=>True
 |some (.ins _ _ _)=>True|some (.ext _)=>True
 |_=>False
def Xu.write{h':Heap}{e:Addr}(ok:Xu P w H h)(mu:SD (H x))(he:e=x\/H e=some (.own x))(k:∀b u,b≠e->h.get? b=some u->h'.get? b=some u)(heo:∃u,h'.get? e=some u)(new:VT P w (dH H x o') h' x o'):Xu P w (dH H x o') h':=λb u q=>by
 have YY:∀c y,H c=some (.own y)->c≠x:=λc y r z=>by subst z;rw[r]at mu;exact mu
 have zF1:∀c xs,H c=some (.tup xs)->c≠x:=λc xs r z=>by subst z;rw[r]at mu;exact mu
 by_cases hb:b=x;subst hb;rw[aI]at q;cases q;exact new;rw[aK hb]at q;by_cases hbe:b=e;have q':H b=some (.own x):=by rcases he with z |z;exact absurd (hbe.trans z) hb;rwa[hbe]
 rw[q]at q';cases q';let⟨v,hv⟩:=heo;exact⟨v,by rwa[hbe]⟩;refine(ok b u q).XU (λc v hc r=>k c v ?_ r) (λc r=>by rwa[aK<|YY c b r]) λc xs r=>by rwa[aK<|zF1 c xs r]
 rcases hc with rfl |hc;exact hbe;rintro rfl;rcases he with z |z;exact YY c b hc z;rw[hc]at z;cases z;exact hb rfl
structure Un(fs ex:List Addr)(H H':Hp)(h h':Heap):Prop where
 keep:∀b o,h.get? b=some o->H b=none->b∉fs->b∉ex->h'.get? b=some o
 slot:∀b o,h.get? b=some o->H b=none->b∈fs->b∉ex->∃sl,h'.get? b=some {o with slots:=sl}
 free:∀b o,h.get? b=some o->H b=none->b∉ex->H' b=none
 there:∀b o,h.get? b=some o->b∉ex->∃o',h'.get? b=some o'
 Wt:∀b xs,H b=some (.tup xs)->H' b=some (.tup xs)
 Wm:∀b o u,H b=some (.W5 o u)->H' b=some (.W5 o u)
 Wy:∀b ps,H b=some (.Zd ps)->∃more,H' b=some (.Zd<|ps++more)
def Un.any{b:Addr}(u:Un fs ex H H1 h h1)(q:h.get? b=some ob)(n:H b=none)(hx:b∉ex):∃sl,h1.get? b=some {ob with slots:=sl}:=by by_cases hb:b∈fs;exact u.slot b ob q n hb hx;exact⟨ob.slots,u.keep b ob q n hb hx⟩
def Un.kept{h:Heap}{h':Heap}(k:∀b u,h.get? b=some u->h'.get? b=some u):Un fs ex H H h h':=⟨λb ob q _ _ _=>k b ob q,λb ob q _ _ _=>⟨ob.slots,k b ob q⟩,λ_ _ _ n _=>n,λb ob q _=>⟨ob,k b ob q⟩,λ_ _ q=>q,λ_ _ _ q=>q,λ_ ps q=>⟨#[],by rw[q];simp⟩⟩
def Un.refl:Un fs ex H H h h:=Un.kept λ_ _ q=>q
def Un.laid{h:Heap}{h':Heap}{a:Addr}(k:∀b u,h.get? b=some u->h'.get? b=some u)(hp:h.objs.size<=a)(hn:H a=none):Un fs ex H (dH H a o) h h' where
 keep:=λb u q _ _ _=>k b u q
 slot:=λb u q _ _ _=>⟨u.slots,k b u q⟩
 free:=λb u q n _=>by rwa[aK<|bH<|ba (aR q) hp]
 there:=λb u q _=>⟨u,k b u q⟩
 Wt:=λb xs q=>by rwa[aK<|fk q hn]
 Wm:=λb u xs q=>by rwa[aK<|fk q hn]
 Wy:=λb ps q=>⟨#[],by rw[aK<|fk q hn,q];simp⟩
def Un.write{h:Heap}{h':Heap}{e:Addr}(mu:SD (H x))(he:e=x\/H e=some (.own x))(k:∀b u,b≠e->h.get? b=some u->h'.get? b=some u)(heo:∃u,h'.get? e=some u):Un fs ex H (dH H x o) h h':=by
 have hx:∀b,H b=none->b≠x:=λb n z=>by subst z;rw[n]at mu;exact mu
 have hb:∀b,H b=none->b≠e:=λb n z=>by subst z;rcases he with r |r;exact hx b n r;rw[n]at r;cases r
 have hm:∀b u,H b=some u->¬SD (some u)->b≠x:=λb u q nm z=>by subst z;rw[q]at mu;exact nm mu
 refine⟨λb u q n _ _=>k b u (hb b n) q,λb u q n _ _=>⟨u.slots,k b u (hb b n) q⟩,λb u q n _=>by rwa[aK<|hx b n],λb u q _=>?_,λb xs q=>by rwa[aK (hm b _ q λz=>z)],λb u xs q=>by rwa[aK (hm b _ q λz=>z)],λb ps q=>⟨#[],by rw[aK (hm b _ q λz=>z),q];simp⟩⟩;by_cases hbe:b=e;subst hbe;exact heo;exact⟨u,k b u hbe q⟩
def Sk(h:Heap)(H:Hp):List Addr:=(List.range h.objs.size).filter λa=>(H a).isSome
def zo(h:Heap)(H:Hp):Heap:=hideAll h<|Sk h H
def Hq(h:Heap)(H:Hp):(zo h H).objs.size=h.objs.size:=hideAll_size _ _
def JX{h:Heap}{b:Addr}(e:h.get? b=some o)(n:H b=none):(zo h H).get? b=some o:=rJ _ e λhm=>by have q:=(List.mem_filter.mp hm).2;rw[n]at q;simp at q
def L5{b:Addr}(e:(zo h H).get? b=some o):h.get? b=some o/\H b=none:=by have e':=of_hideAll (Sk h H) e;refine⟨e',?_⟩;cases q:H b with|none=>rfl|some x=>have hm:b∈Sk h H:=List.mem_filter.mpr ⟨List.mem_range.mpr<|aR e',by simp[q]⟩;have z:(zo h H).get? b=none:=hideAll_none (Sk h H) hm;rw[z]at e;cases e
def MV(g h:Heap)(L:Addr):gC:=(List.range h.objs.size).filterMap λa=>if a=L\/(g.get? a).isSome=true then none else(h.get? a).map λo=>(a,o)
def bP(g h:Heap)(L d:Addr):gC:=(MV g h L).filter λp=>decide<|p.1≠d
structure Mod(K:eZ)(mg:tK)(base:Heap):Prop where
 kin:K.In base
 glob:base.Ns mainGlobals mg
 blt:∃mb,base.Ns builtinsNs mb/\∀x:Str,x≠"__name__"->mb x=bootBuiltins x
 nolimit:base.NoLimit
 seer:base.NoSeer
structure Cx where
 prog:Program
 w:World
 K:eZ
 mg:Str->Option Value
 base:Heap
 A:Around
 N:cn
 s₀:Shared
 H₀:Hp
 env:Env
 outer:List Env
 stack:List Env
 ex:List Addr
 fn:Str->Bool
 calm:Bool
 pn:gC
 xe:Value->Shared->Prop
variable {X:Cx}
abbrev fg(X:Cx){α:Type}(m:Sem α)(Q:α->Shared->Prop)(E:Value->Shared->Prop)(s:Shared):Prop:=wpAny (model X.prog X.w) X.A m Q E s
def jC(l:List Env):List Addr:=l.filterMap (·.frame)
abbrev Cx.fs(X:Cx):List Addr:=jC X.outer
def Qh(sc:Scope)(x:Str):Prop:=sc.names.lookup x=some .local\/sc.names.lookup x=some .cell\/sc.names.lookup x=some .free
def PY(sc:Scope)(x:Str):Prop:=sc.names.lookup x=some .local\/sc.names.lookup x=some .cell
def Ue(env:Env)(h:Heap)(m:tK)(x:Str)(u:Value):Prop:=(env.kindOf x=some .local/\m x=some u)\/((env.kindOf x=some .cell\/env.kindOf x=some .free)/\∃c,env.cells.lookup x=some c/\h.IsCell c (some u))
structure Cx.Ok(X:Cx):Prop where
 mod:Mod X.K X.mg X.base
 kind:X.env.scope.kind=.function
 glob:X.env.globals=mainGlobals
 blt:X.env.builtins=builtinsNs
 above:X.s₀.heap.objs.size<=X.env.locals
 inj:∀x y c,X.env.cells.lookup x=some c->X.env.cells.lookup y=some c->x=y
 has:∀x,(X.env.kindOf x=some .cell\/X.env.kindOf x=some .free)->∃c,X.env.cells.lookup x=some c
 cab:∀x c,X.fn x=true->X.env.cells.lookup x=some c->X.s₀.heap.objs.size<=c
 hd:X.calm=true->X.A.handled=none
 frames:X.A.frames=some X.stack
 Xr:X.stack=X.outer\/(X.stack=X.env::X.outer/\X.env.frame=some X.env.locals)
 exf:∀b∈X.ex,b≠X.env.locals/\∀x c,X.env.cells.lookup x=some c->c≠b
 bs:∀b o,X.base.get? b=some o->X.s₀.heap.get? b=some o/\X.H₀ b=none
 ZW:X.base.objs.size<=X.s₀.heap.objs.size
 WK:∀b o,X.base.get? b=some o->b∉X.ex
 Y0:∀b∈X.ex,b∉X.fs
 Xg:X.s₀.heap.FunFrames X.base X.outer
 frf:∀b∈X.fs,X.H₀ b=none
structure Inv(X:Cx)(on:gC)(Y:List (Option V))(H:Hp)(s:Shared):Prop where
 ok:X.Ok
 os:s.os=X.s₀.os
 bare:AllBare s.gens
 base:Un X.fs X.ex X.H₀ H X.s₀.heap s.heap
 loc:∃m,s.heap.Ns X.env.locals m/\∀(i:Nat)(x:Str)(v:V),X.N[i]?=some x->Y[i]?=some (some v)->Qh X.env.scope x->∃u,RelV v u/\Ue X.env s.heap m x u
 cell:∀x c,X.env.cells.lookup x=some c->∃v,s.heap.IsCell c v
 free:H X.env.locals=none
 Ws:∀x c,X.env.cells.lookup x=some c->H c=none
 pin:∀p∈X.pn++on,s.heap.get? p.1=some p.2/\H p.1=none/\p.1≠X.env.locals/\p.1∉X.fs/\∀v,p.2.data≠.cell v
 VG:Xu X.prog X.w H s.heap
 len:Y.length=X.N.length
section
variable {Y:List (Option V)}
def Cx.Ok.zF4{b:Addr}(ok:X.Ok)(e:X.base.get? b=some o):b∉X.fs:=λhb=>by have:=(ok.Xg.mem hb).1;rw[e]at this;cases this
def Inv.bs(I:Inv X on Y H s):∀b o,X.base.get? b=some o->s.heap.get? b=some o/\H b=none:=λb o e=>⟨I.base.keep b o (I.ok.bs b o e).1 (I.ok.bs b o e).2 (I.ok.zF4 e)<|I.ok.WK b o e,I.base.free b o (I.ok.bs b o e).1 (I.ok.bs b o e).2<|I.ok.WK b o e⟩
def Inv.bk(I:Inv X on Y H s):∀b o,X.base.get? b=some o->s.heap.get? b=some o:=λb o e=>(I.bs b o e).1
def Inv.mod(I:Inv X on Y H s):Mod X.K X.mg X.base:=I.ok.mod
def Inv.WO(I:Inv X on Y H s):X.K.In s.heap:=I.ok.mod.kin.keeps I.bk
def Inv.nolimit(I:Inv X on Y H s):s.heap.NoLimit:=I.ok.mod.nolimit.keeps I.bk
def Inv.lt(I:Inv X on Y H s):X.env.locals<s.heap.objs.size:=let⟨_,hn,_⟩:=I.loc;hn.lt
def Inv.sz(I:Inv X on Y H s):X.s₀.heap.objs.size<=s.heap.objs.size:=aJ I.ok.above<|nH I.lt
def Inv.zF3{a:Addr}(I:Inv X on Y H s)(h:s.heap.objs.size<=a):a∉X.fs:=λhb=>by let⟨_,o,ho,_⟩:=I.ok.Xg.mem hb;exact absurd (ba (aR ho)<|aJ I.sz h)<|gi _
def Inv.cne(I:Inv X on Y H s):∀x c,X.env.cells.lookup x=some c->c≠X.env.locals:=λx c e z=>by let⟨v,o,ho,hd⟩:=I.cell x c e;let⟨m,⟨o',es,ep,ho',Zy,_⟩,_⟩:=I.loc;rw[z,ho']at ho;cases ho;rw[Zy]at hd;cases hd
def Inv.Xg(I:Inv X on Y H s):s.heap.FunFrames X.base X.outer:=by
 have all:∀l,(∀b∈jC l,b∈X.fs)->X.s₀.heap.FunFrames X.base l->s.heap.FunFrames X.base l:=by intro l;induction l with|nil=>intro _ _;trivial|cons env r ih=>intro hs hl;let⟨hk,⟨L,o,hf,hn,ho,hd⟩,hr⟩:=hl;have hL:=hs L (by unfold jC;rw[fX,hf];exact cm);let⟨sl,e⟩:=I.base.slot L o ho (I.ok.frf L hL) hL λz=>I.ok.Y0 L z hL;exact⟨hk,⟨L,_,hf,hn,e,hd⟩,ih (λb hb=>hs b<|by unfold jC;rw[fX,hf];exact aV _ hb) hr⟩
 exact all X.outer (λ_ hb=>hb) I.ok.Xg
def Inv.stack(I:Inv X on Y H s):s.heap.FunFrames X.base X.stack:=by rcases I.ok.Xr with e |⟨e,hf⟩;rw[e];exact I.Xg;rw[e];let⟨m,hn,_⟩:=I.loc;refine .cons (by rw[I.ok.kind];decide) hf hn ?_ I.Xg;exact Heap.get?_none_of_le<|aJ I.ok.ZW I.ok.above
def Inv.XE(I:Inv X on Y H s):∀b∈jC X.stack,b∈X.env.locals::X.fs:=λb hb=>by rcases I.ok.Xr with e |⟨e,hf⟩;rw[e]at hb;exact aV _ hb;rw[e]at hb;unfold jC at hb;rwa[fX,hf]at hb
def Inv.XB(I:Inv X on Y H s):∀b∈jC X.stack,H b=none:=λb hb=>by rcases bc.mp (I.XE b hb)with e |hb;rw[e];exact I.free;let⟨_,o,ho,_⟩:=I.ok.Xg.mem hb;exact I.base.free b o ho (I.ok.frf b hb) λz=>I.ok.Y0 b z hb
def Inv.step{t':Nat}{ch:List Addr}{H':Hp}{h':Heap}{g':Array GenState}{d':Drawn}(I:Inv X on Y H s)(YU:∀b∈ch,(b∈X.ex\/X.s₀.heap.objs.size<=b)/\b≠X.env.locals/\(∀x c,X.env.cells.lookup x=some c->c≠b)/\∀p∈X.pn++on,p.1≠b)(keep:∀b o,b≠X.env.locals->b∉X.fs->b∉ch->s.heap.get? b=some o->H b=none->h'.get? b=some o)(slot:∀b o,b≠X.env.locals->b∈X.fs->b∉ch->s.heap.get? b=some o->H b=none->∃sl,h'.get? b=some {o with slots:=sl})(free:∀b o,b∉ch->s.heap.get? b=some o->H b=none->H' b=none)(there:∀b o,b∉ch->s.heap.get? b=some o->∃o',h'.get? b=some o')(Wt:∀b xs,H b=some (.tup xs)->H' b=some (.tup xs))(Wm:∀b o u,H b=some (.W5 o u)->H' b=some (.W5 o u))(Wy:∀b ps,H b=some (.Zd ps)->∃more,H' b=some (.Zd<|ps++more))(ns:∀m,s.heap.Ns X.env.locals m->h'.Ns X.env.locals m)(VG:Xu X.prog X.w H' h')(hg:AllBare g'):Inv X on Y H' {s with heap:=h',gens:=g',drawn:=d',toks:=t'}:=by
 have neL:∀b o,X.s₀.heap.get? b=some o->b≠X.env.locals:=λb o e=>bH<|ba (aR e) I.ok.above;have neC:∀b o,X.s₀.heap.get? b=some o->b∉X.ex->b∉ch:=λb o e hx hb=>by rcases(YU b hb).1 with z |z;exact hx z;exact absurd (ba (aR e) z)<|gi _
 have cellK:∀x c,X.env.cells.lookup x=some c->∀v,s.heap.IsCell c v->h'.IsCell c v:=λx c e v ⟨o,ho,hd⟩=>by have nch:c∉ch:=λz=>(YU c z).2.2.1 x c e rfl;by_cases hc:c∈X.fs;let⟨sl,q⟩:=slot c o (I.cne x c e) hc nch ho<|I.Ws x c e;exact⟨_,q,hd⟩;exact⟨o,keep c o (I.cne x c e) hc nch ho<|I.Ws x c e,hd⟩
 refine⟨I.ok,I.os,hg,⟨λb o e n hb hx=>?_,λb o e n hb hx=>?_,λb o e n hx=>?_,λb o e hx=>?_,λb xs e=>Wt b xs<|I.base.Wt b xs e,λb o xs e=>Wm b o xs<|I.base.Wm b o xs e,λb ps e=>?_⟩,?_,λx c e=>?_,?_,λx c e=>?_,λp hp=>?_,VG,I.len⟩;exact keep b o (neL b o e) hb (neC b o e hx) (I.base.keep b o e n hb hx)<|I.base.free b o e n hx;let⟨sl,e1⟩:=I.base.slot b o e n hb hx;let⟨sl',e2⟩:=slot b _ (neL b o e) hb (neC b o e hx) e1<|I.base.free b o e n hx;exact⟨sl',e2⟩;let⟨o',e1⟩:=I.base.there b o e hx;exact free b o' (neC b o e hx) e1<|I.base.free b o e n hx;let⟨o',e1⟩:=I.base.there b o e hx;exact there b o' (neC b o e hx) e1;let⟨m1,e1⟩:=I.base.Wy b ps e;let⟨m2,e2⟩:=Wy b _ e1;exact⟨m1++m2,by rw[e2,Array.append_assoc]⟩;let⟨m,hn,hl⟩:=I.loc;refine⟨m,ns m hn,λi x v e1 e2 e3=>?_⟩;let⟨u,r,l⟩:=hl i x v e1 e2 e3;refine⟨u,r,?_⟩;rcases l with l |⟨k,c,e,z⟩;exact .inl l;exact .inr ⟨k,c,e,cellK x c e _ z⟩;let⟨v,z⟩:=I.cell x c e;exact⟨v,cellK x c e v z⟩;let⟨m,⟨o,_,_,ho,_⟩,_⟩:=I.loc;exact free _ o (λz=>(YU _ z).2.1 rfl) ho I.free;let⟨v,o,ho,hd⟩:=I.cell x c e;exact free c o (λz=>(YU c z).2.2.1 x c e rfl) ho<|I.Ws x c e;let⟨e,n,ne,nf,d⟩:=I.pin p hp;have nch:p.1∉ch:=λz=>(YU p.1 z).2.2.2 p hp rfl;exact⟨keep p.1 p.2 ne nf nch e n,free p.1 p.2 nch e n,ne,nf,d⟩
def Inv.un{t':Nat}(I:Inv X on Y H s)(u:Un X.fs [] H H' s.heap h')(VG:Xu X.prog X.w H' h'):Inv X on Y H' {s with heap:=h',toks:=t'}:=by let⟨m,⟨o,es,ep,ho,r⟩,_⟩:=id I.loc;let⟨sl,hL⟩:=u.any ho I.free (by simp);exact I.step (ch:=[]) (λ_ z=>nomatch z) (λb o _ hb _ e n=>u.keep b o e n hb<|by simp) (λb o _ hb _ e n=>u.slot b o e n hb<|by simp) (λb o _ e n=>u.free b o e n<|by simp) (λb o _ e=>u.there b o e<|by simp) u.Wt u.Wm u.Wy (λm' hm=>by let⟨o',es',ep',ho',r'⟩:=hm;rw[ho]at ho';cases ho';exact⟨_,es',ep',hL,r'⟩) VG I.bare
def Inv.call{t':Nat}{g':Array GenState}{d':Drawn}(I:Inv X on Y H s)(u:Un (jC X.stack) ch H H' s.heap h')(VG:Xu X.prog X.w H' h')(hg:AllBare g')(YU:∀b∈ch,(b∈X.ex\/X.s₀.heap.objs.size<=b)/\b≠X.env.locals/\(∀x c,X.env.cells.lookup x=some c->c≠b)/\∀p∈X.pn++on,p.1≠b):Inv X on Y H' {s with heap:=h',gens:=g',drawn:=d',toks:=t'}:=by let⟨m,⟨o,es,ep,ho,r⟩,_⟩:=id I.loc;let⟨sl,hL⟩:=u.any ho I.free λz=>(YU _ z).2.1 rfl;exact I.step YU (λb o hL hb hc e n=>u.keep b o e n (λz=>(bc.mp<|I.XE b z).elim hL hb) hc) (λb o _ _ hc e n=>u.any e n hc) (λb o hc e n=>u.free b o e n hc) (λb o hc e=>u.there b o e hc) u.Wt u.Wm u.Wy (λm' hm=>by let⟨o',es',ep',ho',r'⟩:=hm;rw[ho]at ho';cases ho';exact⟨_,es',ep',hL,r'⟩) VG hg
def Inv.turned{t':Nat}{it:Addr}{h':Heap}(I:Inv X on Y H s)(k:∀b o,b≠it->s.heap.get? b=some o->h'.get? b=some o)(hn:H it=none)(hL:it≠X.env.locals)(h1:it∈X.ex\/X.s₀.heap.objs.size<=it)(h2:∀x c,X.env.cells.lookup x=some c->c≠it)(h3:∀p∈X.pn++on,p.1≠it):Inv X on Y H {s with heap:=h',toks:=t'}:=by
 have nit:∀b u,H b=some u->b≠it:=λb u e z=>by rw[z,hn]at e;cases e
 refine I.step (ch:=[it]) (λb hb=>?_) (λb o _ _ hc e _=>k b o (λz=>hc<|by simp[z]) e) (λb o _ _ hc e _=>⟨o.slots,k b o (λz=>hc<|by simp[z]) e⟩) (λ_ _ _ _ n=>n) (λb o hc e=>⟨o,k b o (λz=>hc<|by simp[z]) e⟩) (λ_ _ e=>e) (λ_ _ _ e=>e) (λb ps e=>⟨#[],by rw[e];simp⟩) (λm hm=>?_) (λb u e=>?_) I.bare;cases by simpa using hb
 exact⟨h1,hL,h2,h3⟩;let⟨o,es,ep,ho,r⟩:=hm;exact⟨o,es,ep,k _ o (eF hL) ho,r⟩;refine(I.VG b u e).XU (λc v hc q=>k c v ?_ q) (λ_ q=>q) λ_ _ q=>q;rcases hc with z |z;rw[z];exact nit b u e;exact nit c _ z
def Inv.tok(I:Inv X on Y H s)(t:Nat):Inv X on Y H {s with toks:=t}:=I.un Un.refl I.VG
def Inv.kept{t':Nat}{h':Heap}(I:Inv X on Y H s)(k:∀b u,s.heap.get? b=some u->h'.get? b=some u):Inv X on Y H {s with heap:=h',toks:=t'}:=I.un (Un.kept k)<|I.VG.kept k
def Inv.laid{a:Addr}{t':Nat}{h':Heap}(I:Inv X on Y H s)(k:∀b u,s.heap.get? b=some u->h'.get? b=some u)(hp:s.heap.objs.size<=a)(new:VT X.prog X.w (dH H a o) h' a o):Inv X on Y (dH H a o) {s with heap:=h',toks:=t'}:=I.un (Un.laid k hp<|I.VG.fresh hp)<|I.VG.laid k hp new
def Inv.write{e:Addr}{t':Nat}{h':Heap}(I:Inv X on Y H s)(mu:SD (H x))(he:e=x\/H e=some (.own x))(k:∀b u,b≠e->s.heap.get? b=some u->h'.get? b=some u)(heo:∃u,h'.get? e=some u)(new:VT X.prog X.w (dH H x o) h' x o):Inv X on Y (dH H x o) {s with heap:=h',toks:=t'}:=I.un (Un.write mu he k heo)<|I.VG.write mu he k heo new
def Inv.YO{Wa:gC}(I:Inv X on Y H s)(h:∀p∈Wa,s.heap.get? p.1=some p.2/\H p.1=none/\p.1≠X.env.locals/\p.1∉X.fs/\∀v,p.2.data≠.cell v):Inv X Wa Y H s:=⟨I.ok,I.os,I.bare,I.base,I.loc,I.cell,I.free,I.Ws,λp hp=>(bS.mp hp).elim (λz=>I.pin p<|fH _ z)<|h p,I.VG,I.len⟩
def xm{N:cn}{i j:Nat}(hN:N.Nodup)(a:N[i]?=some x)(b:N[j]?=some x):i=j:=by let⟨h1,e1⟩:=List.getElem?_eq_some_iff.mp a;let⟨h2,e2⟩:=List.getElem?_eq_some_iff.mp b;exact(List.getElem_inj hN).mp<|e1.trans e2.symm
def Av{i:Nat}{Q:Unit->Shared->Prop}(I:Inv X on Y H s)(hN:X.N.Nodup)(hi:X.N[i]?=some x)(hx:PY X.env.scope x)(r:RelV v u)(h:∀s',Inv X on (Y.set i<|some v) H s'->(∃a,Heap.SameBut a s.heap s'.heap/\(a=X.env.locals\/X.env.cells.lookup x=some a))->Q () s')(hf:X.fn x=true\/X.env.scope.names.lookup x=some .local:=by first |exact .inl rfl |exact .inr rfl |assumption):wpAny M A (storeName X.env x u) Q E s:=by
 let⟨m,hn,hl⟩:=id I.loc;have zBR:(X.env.scope.kind==.class||(X.env.scope.kind==.module&&X.env.locals !=X.env.globals))=false:=by rw[I.ok.kind];rfl
 have hiσ:i<Y.length:=by rw[I.len];exact(List.getElem?_eq_some_iff.mp hi).1
 have cne:=I.cne;have tracked:∀{a:Addr}{h':Heap},(∃o,s.heap.get? a=some o/\H a=none)->Heap.SameBut a s.heap h'->Xu X.prog X.w H h':=λ{a h'}ha hs b ob e=>by let⟨_,_,Xl⟩:=ha;refine(I.VG b ob e).XU (λc w' hc q=>(hs.2 c ?_).trans q) (λ_ q=>q) λ_ _ q=>q;rintro rfl;rcases hc with rfl |hc;rw[Xl]at e;cases e;rw[Xl]at hc;cases hc
 rcases hx with hk |hk;refine wpAny_storeName_local hk hn (λh' Wi hs=>?_) zBR;let⟨oL,_,_,hoL,_⟩:=id hn;refine h _ ⟨I.ok,I.os,I.bare,⟨λb o e n hb hx=>?_,λb o e n hb hx=>?_,I.base.free,λb o e hx=>?_,I.base.Wt,I.base.Wm,I.base.Wy⟩,⟨_,Wi,λj y v' e1 e2 e3=>?_⟩,λy c e=>?_,I.free,I.Ws,λp hp=>?_,tracked ⟨oL,hoL,I.free⟩ hs,by simpa using I.len⟩ ⟨_,hs,.inl rfl⟩;exact(hs.2 b<|bH<|ba (aR e) I.ok.above).trans<|I.base.keep b o e n hb hx;let⟨sl,e1⟩:=I.base.slot b o e n hb hx;exact⟨sl,(hs.2 b<|bH<|ba (aR e) I.ok.above).trans e1⟩;let⟨o',e1⟩:=I.base.there b o e hx;exact⟨o',(hs.2 b<|bH<|ba (aR e) I.ok.above).trans e1⟩;by_cases hj:j=i;subst hj;rw[hi]at e1;cases e1;rw[List.getElem?_set_self hiσ]at e2;cases e2;exact⟨u,r,.inl ⟨hk,by simp⟩⟩;rw[List.getElem?_set_ne<|eF hj]at e2;let⟨u',r',q⟩:=hl j y v' e1 e2 e3;refine⟨u',r',?_⟩;rcases q with⟨k,e⟩ |⟨k,c,e,z⟩;refine .inl ⟨k,?_⟩;have:y≠x:=λe=>hj<|xm hN e1<|e▸hi;simp[this,e];exact .inr ⟨k,c,e,z.sameBut hs<|cne y c e⟩;let⟨w',z⟩:=I.cell y c e;exact⟨w',z.sameBut hs<|cne y c e⟩;let⟨e,n,ne,nf,d⟩:=I.pin p hp;exact⟨(hs.2 p.1 ne).trans e,n,ne,nf,d⟩;have hfn:X.fn x=true:=by rcases hf with z |z;exact z;rw[z]at hk;cases hk
 let⟨c,hc⟩:=I.ok.has x<|.inl hk;let⟨w',z⟩:=I.cell x c hc;refine wpAny_storeName_cell I.ok.kind hk hc z λh' YA hs=>?_;let⟨oc,hoc,zN8⟩:=id z;refine h {s with heap:=h'} ⟨I.ok,I.os,I.bare,⟨λb o e n hb hx=>?_,λb o e n hb hx=>?_,I.base.free,λb o e hx=>?_,I.base.Wt,I.base.Wm,I.base.Wy⟩,⟨m,hn.sameBut hs<|eF<|cne x c hc,λj y v' e1 e2 e3=>?_⟩,λy c' e=>?_,I.free,I.Ws,λp hp=>?_,tracked ⟨oc,hoc,I.Ws x c hc⟩ hs,by simpa using I.len⟩ ⟨c,hs,.inr hc⟩;exact(hs.2 b<|bH<|ba (aR e)<|I.ok.cab x c hfn hc).trans<|I.base.keep b o e n hb hx;let⟨sl,e1⟩:=I.base.slot b o e n hb hx;exact⟨sl,(hs.2 b<|bH<|ba (aR e)<|I.ok.cab x c hfn hc).trans e1⟩;let⟨o',e1⟩:=I.base.there b o e hx;exact⟨o',(hs.2 b<|bH<|ba (aR e)<|I.ok.cab x c hfn hc).trans e1⟩;by_cases hj:j=i;subst hj;rw[hi]at e1;cases e1;rw[List.getElem?_set_self hiσ]at e2;cases e2;exact⟨u,r,.inr ⟨.inl hk,c,hc,YA⟩⟩;rw[List.getElem?_set_ne<|eF hj]at e2;let⟨u',r',q⟩:=hl j y v' e1 e2 e3;refine⟨u',r',?_⟩;rcases q with q |⟨k,c',e,z'⟩;exact .inl q;refine .inr ⟨k,c',e,z'.sameBut hs ?_⟩;rintro rfl;exact hj<|xm hN e1<|I.ok.inj _ _ _ e hc▸hi;by_cases hcc:c'=c;subst hcc;exact⟨_,YA⟩;let⟨w2,z2⟩:=I.cell y c' e;exact⟨w2,z2.sameBut hs hcc⟩;let⟨e,n,ne,nf,d⟩:=I.pin p hp;refine⟨(hs.2 p.1 ?_).trans e,n,ne,nf,d⟩;intro q;rw[q,hoc]at e;have q':oc=p.2:=bN e;exact d w'<|by rwa[<-q']
def nP{i:Nat}{Q:Unit->Shared->Prop}(I:Inv X on Y H s)(hN:X.N.Nodup)(hi:X.N[i]?=some x)(hx:PY X.env.scope x)(r:RelV v u)(h:∀s',Inv X on (Y.set i<|some v) H s'->Q () s')(hf:X.fn x=true\/X.env.scope.names.lookup x=some .local:=by first |exact .inl rfl |exact .inr rfl |assumption):wpAny M A (storeName X.env x u) Q E s:=Av I hN hi hx r (λs' I' _=>h s' I') hf
def Inv.zAZ{s':Shared}(I:Inv X on Y H s)(ho:s'.os=s.os)(u:Un (jC X.stack) ch H H' s.heap s'.heap)(VG:Xu X.prog X.w H' s'.heap)(hg:AllBare s'.gens)(YU:∀b∈ch,(b∈X.ex\/X.s₀.heap.objs.size<=b)/\b≠X.env.locals/\(∀x c,X.env.cells.lookup x=some c->c≠b)/\∀p∈X.pn++on,p.1≠b):Inv X on Y H' s':=by let⟨h',g',d',t',o'⟩:=s';subst ho;exact I.call u VG hg YU
end
abbrev XK:=Value->Option Addr->Hp->Prop
abbrev St:=List<|Option V
abbrev VK:=V->Hp->Prop
abbrev TE:=St->Hp->VK->Prop
abbrev TT:=St->Hp->(Bool->Hp->Prop)->Prop
abbrev TA:=St->Hp->(fh->Hp->Prop)->Prop
structure mn where
 nx:St->Hp->Prop
 rt:VK
 bk:St->Hp->Prop:=λ_ _=>False
 ct:St->Hp->Prop:=λ_ _=>False
abbrev TS:=mn->St->Hp->Prop
def EP(X:Cx)(on:gC)(Y:St)(Q:VK)(u:Value)(s':Shared):Prop:=∃v H',Inv X on Y H' s'/\RelV v u/\Q v H'
def TP(X:Cx)(on:gC)(Y:St)(Q:Bool->Hp->Prop)(b:Bool)(s':Shared):Prop:=∃H',Inv X on Y H' s'/\Q b H'
def AP(X:Cx)(on:gC)(Y:St)(Q:fh->Hp->Prop)(us:jh)(s':Shared):Prop:=∃vs H',Inv X on Y H' s'/\Vals vs us/\Q vs H'
def SP(X:Cx)(on:gC)(D:mn)(f:Flow)(s':Shared):Prop:=match f with
 |.next=>∃xy H',Inv X on xy H' s'/\D.nx xy H'|.brk=>∃xy H',Inv X on xy H' s'/\D.bk xy H'
 |.cont=>∃xy H',Inv X on xy H' s'/\D.ct xy H'|.ret u=>∃v xy H',Inv X on xy H' s'/\RelV v u/\D.rt v H'
def PE(X:Cx)(e:Expr)(t:TE):Prop:=∀(on:gC)(s:Shared)(Y:St)(H:Hp)(Q:VK),Inv X on Y H s->t Y H Q->fg X (eval e X.env) (EP X on Y Q) X.xe s
def PT(X:Cx)(e:Expr)(t:TT):Prop:=∀(on:gC)(s:Shared)(Y:St)(H:Hp)(Q:Bool->Hp->Prop),Inv X on Y H s->t Y H Q->fg X (isTrue e X.env<|eval e X.env) (TP X on Y Q) X.xe s
def PW(X:Cx)(e:Expr)(t:TT):Prop:=∀(whole:Sem Value)(on:gC)(s:Shared)(Y:St)(H:Hp)(Q:Bool->Hp->Prop),Inv X on Y H s->t Y H Q->fg X (isTrue e X.env whole) (TP X on Y Q) X.xe s
def PA(X:Cx)(es:tL)(t:TA):Prop:=∀(pos:Pos)(on:gC)(s:Shared)(Y:St)(H:Hp)(Q:fh->Hp->Prop),Inv X on Y H s->t Y H Q->fg X (spliced<|backTo pos<|starEach es X.env) (AP X on Y Q) X.xe s
def PS(X:Cx)(st:Stmt)(t:TS):Prop:=∀(on:gC)(s:Shared)(Y:St)(H:Hp)(D:mn),Inv X on Y H s->t D Y H->fg X (exec st X.env) (SP X on D) X.xe s
def YJ(X:Cx)(st:List Stmt)(t:TS):Prop:=∀(on:gC)(s:Shared)(Y:St)(H:Hp)(D:mn),Inv X on Y H s->t D Y H->fg X (execs st X.env) (SP X on D) X.xe s
def fq{α:Type}{t:Sem α}{Q Q':α->Shared->Prop}(h:wpAny M A t Q E s)(hQ:∀a s,Q a s->Q' a s):wpAny M A t Q' E s:=aH h hQ λ_ _ x=>x
section
def bin(ha:PE X a ta)(hb:PE X b tb){R:V->V->Hp->Prop}(I:Inv X on Y H s)(h:ta Y H λx H1=>tb Y H1 λy H2=>R x y H2){α:Type}{Q:α->Shared->Prop}{f:Value->Value->Sem α}(hf:∀v u s2 x y H2,Inv X on Y H2 s2->RelV x v->RelV y u->R x y H2->fg X (f v u) Q X.xe s2):fg X (eval a X.env) (λv s₁=>fg X (eval b X.env) (λu s₂=>fg X (f v u) Q X.xe s₂) X.xe s₁) X.xe s:=by refine fq (ha on s Y H _ I h) λv s1 ⟨x,H1,I1,r1,q1⟩=>?_;refine fq (hb on s1 Y H1 _ I1 q1) λu s2 ⟨y,H2,I2,r2,q2⟩=>?_;exact hf v u s2 x y H2 I2 r1 r2 q2
def QC(i:Nat):TE:=λY H Q=>∃v,Y[i]?=some (some v)/\Q v H
def tC(v:V):TE:=λ_ H Q=>Q v H
def Jp{i:Nat}(hN:X.N[i]?=some x)(hv:Qh X.env.scope x)(hd:pE x:=by decide)(YG:(x==("__classdict__":Str))=false:=by decide):PE X (.Name x pos) (QC i):=by intro on s Y H Q I h;obtain⟨v,e,h⟩:=h;obtain⟨m,hn,hl⟩:=I.loc;obtain⟨u,r,l⟩:=hl i x v hN e hv;have fin:EP X on Y Q u s:=⟨v,H,I,r,h⟩;rcases l with⟨hk,hm⟩ |⟨hk,c,hc,Xb⟩;exact wpAny_Name (HM I.ok.kind hk hn hm fin) hd;rcases hk with hk |hk;exact wpAny_Name (KP I.ok.kind hk hc Xb fin) hd;exact wpAny_Name (wpAny_loadName_free I.ok.kind hk hc Xb fin YG) hd
def Jq{i j pos}:PE X (.Constant (.int i) j pos) (tC<|.int i):=λ_ _ _ H _ I h=>wpAny_Constant_int ⟨.int i,H,I.tok _,⟨_,rfl⟩,h⟩
def Q9{b j pos}:PE X (.Constant (.bool b) j pos) (tC<|.bl b):=λ_ _ _ H _ I h=>Constant_bool ⟨.bl b,H,I,rfl,h⟩
def OA{j pos}:PE X (.Constant .none j pos) (tC .VH):=λ_ _ _ H _ I h=>Constant_none ⟨.VH,H,I,rfl,h⟩
def Ea{x j pos}:PE X (.Constant (.str x) j pos) (tC<|.str x):=λ_ _ _ H _ I h=>Calls.Constant_str ⟨.str x,H,I.tok _,⟨_,rfl⟩,h⟩
def Gl(X:Cx)(x:Str):Prop:=X.env.kindOf x=some .globalImplicit
def mK{Q:qW}(I:Inv X on Y H s)(hg:Gl X x)(hm:X.mg x=some u)(h:Q u s)(hd:pE x:=by decide):fg X (eval (.Name x pos) X.env) Q E s:=Vk I.ok.kind hg (Calls.loadGlobal_global (by rw[I.ok.glob];exact I.mod.glob.keeps I.bk) hm h) hd
def u5{Q:qW}(I:Inv X on Y H s)(hg:Gl X x)(hm:X.mg x=none)(hv:bootBuiltins x=some u)(h:Q u s)(hn:x≠"__name__":=by decide)(hd:pE x:=by decide):fg X (eval (.Name x pos) X.env) Q E s:=by let⟨mb,h1,h2⟩:=I.mod.blt;exact Vk I.ok.kind hg (Calls.loadGlobal_builtin (by rw[I.ok.glob];exact I.mod.glob.keeps I.bk) hm (by rw[I.ok.blt];exact h1.keeps I.bk) ((h2 x hn).trans hv) h) hd
def rf(hg:Gl X x)(hm:X.mg x=some u)(r:RelV v u)(hd:pE x:=by decide):PE X (.Name x pos) (tC v):=λ_ _ _ H _ I h=>mK I hg hm ⟨v,H,I,r,h⟩ hd
def wp(hg:Gl X x)(hm:X.mg x=none)(hv:bootBuiltins x=some u)(r:RelV v u)(hn:x≠"__name__":=by decide)(hd:pE x:=by decide):PE X (.Name x pos) (tC v):=λ_ _ _ H _ I h=>u5 I hg hm hv ⟨v,H,I,r,h⟩ hn hd
def PC(X:Cx)(op:CmpOp)(a b:Expr)(t:TE):Prop:=∀(on:gC)(s:Shared)(Y:St)(H:Hp)(Q:VK),Inv X on Y H s->t Y H Q->fg X (eval a X.env) (λv s₁=>fg X (eval b X.env) (λu s₂=>fg X (compareOp op v u) (EP X on Y Q) X.xe s₂) X.xe s₁) X.xe s
def eE(b:Expr){op:CmpOp}(h:op≠.In)(h2:op≠.NotIn:=by decide):behindInMarks op b=false:=by
 have e1:(op==CmpOp.In)=false:=by cases op<;>first |rfl |exact absurd rfl h
 have e2:(op==CmpOp.NotIn)=false:=by cases op<;>first |rfl |exact absurd rfl h2
 cases b<;>simp[behindInMarks,e1,e2]
def tB(t:TE):TT:=λY H Q=>t Y H λx H1=>∃c,x=.bl c/\Q c H1
def TB{op:CmpOp}(h:PC X op a b t)(h1:behindInMarks op b=false:=by first |exact eE _ (by decide) (by decide) |rfl):PT X (.Compare a [op] [b] pos) (tB t):=by refineλon s Y H Q I hw=>wpAny_isTrue_Compare1 (fq (h on s Y H _ I hw) λv s1 h1=>fq h1 λu s2 h2=>fq h2 λc s3 ⟨x,H1,I1,r1,q1⟩=>?_) h1;obtain⟨d,rfl,q⟩:=q1;cases r1;exact gh ⟨H1,I1,q⟩
def Op(h:PE X e t)(he:∀whole,isTrue e X.env whole=(do let v <-whole;standAt e.pos;holding [v] (truthy v)):=by intro _;rfl):PT X e (tB t):=by refineλon s Y H Q I hw=>isTrue_plain (fq (h on s Y H _ I hw) λv s1 ⟨x,H1,I1,r1,q1⟩=>?_)<|he _;obtain⟨d,rfl,q⟩:=q1;cases r1;exact gh ⟨H1,I1,q⟩
variable {tA tB':TT}{bP:tL}
def Tj(t u:TT):TT:=λY H Q=>t Y H λc H1=>if c=true then u Y H1 Q else Q false H1
def UT(t u:TT):TT:=λY H Q=>t Y H λc H1=>if c=true then Q true H1 else u Y H1 Q
def S9(t:TT):TT:=λY H Q=>t Y H λc H1=>Q (!c) H1
def LJ(ha:PT X a tA):PW X (.BoolOp .And [a] pos) tA:=by refineλwh on s Y H Q I h=>isTrue_and (fq (ha on s Y H Q I h) λc s1 e=>?_);cases c with|true=>exact isTrue_and_nil e|false=>exact e
def Oo(ha:PT X a tA):PW X (.BoolOp .Or [a] pos) tA:=by refineλwh on s Y H Q I h=>isTrue_or (fq (ha on s Y H Q I h) λc s1 e=>?_);cases c with|false=>exact isTrue_or_nil e|true=>exact e
def Jc(ha:PT X a tA)(hb:PW X (.BoolOp .And (b::bP) pos) tB'):PW X (.BoolOp .And (a::b::bP) pos) (Tj tA tB'):=by refineλwh on s Y H Q I h=>isTrue_and (fq (ha on s Y H _ I h) λc s1 ⟨H1,I1,q1⟩=>?_);cases c with|true=>exact hb wh on s1 Y H1 Q I1 q1|false=>exact⟨H1,I1,q1⟩
def Nk(ha:PT X a tA)(hb:PW X (.BoolOp .Or (b::bP) pos) tB'):PW X (.BoolOp .Or (a::b::bP) pos) (UT tA tB'):=by refineλwh on s Y H Q I h=>isTrue_or (fq (ha on s Y H _ I h) λc s1 ⟨H1,I1,q1⟩=>?_);cases c with|true=>exact⟨H1,I1,q1⟩|false=>exact hb wh on s1 Y H1 Q I1 q1
def Oq(ha:PT X a tA):PT X (.UnaryOp .Not a pos) (S9 tA):=by exactλon s Y H Q I h=>isTrue_not<|ha on s Y H (λc H1=>Q (!c) H1) I h
def QO(ta tb:TE):TE:=λY H Q=>ta Y H λx H1=>∃c,x=.bl c/\if c=true then tb Y H1 Q else Q (.bl false) H1
def S8(ta tb:TE):TE:=λY H Q=>ta Y H λx H1=>∃c,x=.bl c/\if c=true then Q (.bl true) H1 else tb Y H1 Q
def QG(ta:TE):TE:=λY H Q=>ta Y H λx H1=>∃c,x=.bl c/\Q (.bl (!c)) H1
def Oy{op}(h:PE X a t):PE X (.BoolOp op [a] pos) t:=λon s Y H Q I hw=>BoolOp_one<|h on s Y H Q I hw
def Jr(ha:PE X a ta)(hb:PE X (.BoolOp .And (b::bP) pos) tb):PE X (.BoolOp .And (a::b::bP) pos) (QO ta tb):=by refineλon s Y H Q I h=>BoolOp_and (fq (ha on s Y H _ I h) λv s1 ⟨x,H1,I1,r1,q1⟩=>?_);obtain⟨c,rfl,q1⟩:=q1;cases r1;refine gh ?_;cases c with|true=>exact hb on s1 Y H1 Q I1 q1|false=>exact⟨.bl false,H1,I1,rfl,q1⟩
def No(ha:PE X a ta)(hb:PE X (.BoolOp .Or (b::bP) pos) tb):PE X (.BoolOp .Or (a::b::bP) pos) (S8 ta tb):=by refineλon s Y H Q I h=>BoolOp_or (fq (ha on s Y H _ I h) λv s1 ⟨x,H1,I1,r1,q1⟩=>?_);obtain⟨c,rfl,q1⟩:=q1;cases r1;refine gh ?_;cases c with|false=>exact hb on s1 Y H1 Q I1 q1|true=>exact⟨.bl true,H1,I1,rfl,q1⟩
def Oz(ha:PE X a ta):PE X (.UnaryOp .Not a pos) (QG ta):=by refineλon s Y H Q I h=>UnaryOp_ (fq (ha on s Y H _ I h) λv s1 ⟨x,H1,I1,r1,q1⟩=>?_);obtain⟨c,rfl,q1⟩:=q1;cases r1;exact not_of<|gh ⟨.bl (!c),H1,I1,rfl,q1⟩
def UU(t:TT)(ta tb:TE):TE:=λY H Q=>t Y H λc H1=>if c=true then ta Y H1 Q else tb Y H1 Q
def ub(hc:PT X c tA)(ha:PE X a ta)(hb:PE X b tb):PE X (.IfExp c a b pos) (UU tA ta tb):=by refineλon s Y H Q I h=>wpAny_IfExp (fq (hc on s Y H _ I h) λd s1 ⟨H1,I1,q1⟩=>?_);cases d with|true=>exact ha on s1 Y H1 Q I1 q1|false=>exact hb on s1 Y H1 Q I1 q1
end
def Wd(K:eZ)(H:Hp)(a:Addr)(xs:fh):Prop:=Rd H a (.lst xs)\/∃(o:Obj)(its:Array Value)(n:Nat),K.lookup a=some o/\o.cls=.type "list"/\o.dict=none/\o.data=.seq its n/\its.size<=sizeLine/\Vals xs its.toList
def WM(K:eZ)(H:Hp)(a:Addr)(xs:fh):Prop:=Rd H a (.tup xs)\/∃(o:Obj)(its:Array Value)(n:Nat),K.lookup a=some o/\o.cls=.type "tuple"/\o.data=.seq its n/\its.size<=sizeLine/\Vals xs its.toList
def T4:Value->Option V
 |.none=>some .VH|.bool b=>some<|.bl b
 |.int i _=>some (.int i)|.str x _=>some<|.str x
 |.bytes b _=>some (.YV b)|.float b _=>some<|.Zg b
 |.ref a=>some (.ref a)|.type n=>some<|.ty n
 |_=>none
def RelV.abs(r:RelV x u):T4 u=some x:=by
 cases x with
 |VH=>cases r;rfl
 |bl _=>cases r;rfl
 |int _=>obtain⟨t,rfl⟩:=r;rfl
 |str _=>obtain⟨t,rfl⟩:=r;rfl
 |YV _=>obtain⟨t,rfl⟩:=r;rfl
 |Zg _=>obtain⟨t,rfl⟩:=r;rfl
 |ref _=>cases r;rfl
 |ty _=>cases r;rfl
def RelV.inj(r:RelV x u)(q:RelV y u):x=y:=bN<|r.abs.symm.trans q.abs
def Vals.inj:∀{xs ys:fh}{us:jh},Vals xs us->Vals ys us->xs=ys|_,_,_,.nil,.nil=>rfl|_,_,_,.cons r t,.cons r' t'=>by rw[r.inj r',Vals.inj t t']
def Wd.of{a:Addr}(h:H a=some (.lst xs)):Wd K H a xs:=.inl<|.inl h
def WM.of{a:Addr}(h:H a=some (.tup xs)):WM K H a xs:=.inl<|.inl h
def Inv.list(I:Inv X on Y H s)(h:Wd X.K H a xs):∃its:jh,Vals xs its/\PlainL s.heap a its.toArray/\xs.length<=sizeLine:=by rcases h with h |⟨o,its,n,hk,hc,hd,hs,hz,r⟩;let⟨z,its,n,r,e⟩:=h.ok I.VG;exact⟨its,r,⟨_,n,e,rfl,rfl,rfl⟩,z⟩;refine⟨its.toList,r,⟨o,n,I.WO a o hk,hc,hd,by simpa using hs⟩,?_⟩;have e:=r.length;simp only[dj]at e;lia
def Inv.tuple(I:Inv X on Y H s)(h:WM X.K H a xs):∃its:jh,Vals xs its/\IsTup s.heap a its.toArray/\xs.length<=sizeLine:=by rcases h with h |⟨o,its,n,hk,hc,hs,hz,r⟩;let⟨z,its,r,p⟩:=h.ok I.VG;exact⟨its,r,p,z⟩;refine⟨its.toList,r,⟨o,I.WO a o hk,hc,n,by simpa using hs⟩,?_⟩;have e:=r.length;simp only[dj]at e;lia
def Inv.Zv(I:Inv X on Y H s)(h:Wd X.K H a xs)(h':Wd X.K H a ys):xs=ys:=by
 let⟨its,r,⟨o,n,e,_,_,d⟩,_⟩:=I.list h;let⟨Xw,r',⟨o',n',e',_,_,d'⟩,_⟩:=I.list h';rw[e]at e';cases e';rw[d]at d';injection d' with d1 _;have:its=Xw:=by simpa using aL Array.toList d1
 subst this;exact r.inj r'
def Inv.X3(I:Inv X on Y H s)(h:WM X.K H a xs)(h':WM X.K H a ys):xs=ys:=by
 let⟨its,r,⟨o,e,_,n,d⟩,_⟩:=I.tuple h;let⟨Xw,r',⟨o',e',_,n',d'⟩,_⟩:=I.tuple h';rw[e]at e';cases e';rw[d]at d';injection d' with d1 _;have:its=Xw:=by simpa using aL Array.toList d1
 subst this;exact r.inj r'
abbrev Cx.Xq(X:Cx)(E:qW):Cx:={X with xe:=E}
abbrev Cx.XH(X:Cx):Cx:=X.Xq λ_ _=>False
def Cx.Ok.Xq(ok:X.Ok)(E:qW):(X.Xq E).Ok:=⟨ok.mod,ok.kind,ok.glob,ok.blt,ok.above,ok.inj,ok.has,ok.cab,ok.hd,ok.frames,ok.Xr,ok.exf,ok.bs,ok.ZW,ok.WK,ok.Y0,ok.Xg,ok.frf⟩
def Cx.Ok.WV(ok:(X.Xq E).Ok):X.Ok:=⟨ok.mod,ok.kind,ok.glob,ok.blt,ok.above,ok.inj,ok.has,ok.cab,ok.hd,ok.frames,ok.Xr,ok.exf,ok.bs,ok.ZW,ok.WK,ok.Y0,ok.Xg,ok.frf⟩
def Inv.Xq(I:Inv X on Y H s)(E:qW):Inv (X.Xq E) on Y H s:=⟨I.ok.Xq E,I.os,I.bare,I.base,I.loc,I.cell,I.free,I.Ws,I.pin,I.VG,I.len⟩
def Inv.WV(I:Inv (X.Xq E) on Y H s):Inv X on Y H s:=⟨I.ok.WV,I.os,I.bare,I.base,I.loc,I.cell,I.free,I.Ws,I.pin,I.VG,I.len⟩
def SP.WV{D:mn}{f:Flow}(h:SP (X.Xq E) on D f s'):SP X on D f s':=by
 cases f with
 |next=>let⟨xy,H',I,q⟩:=h;exact⟨xy,H',I.WV,q⟩|brk=>let⟨xy,H',I,q⟩:=h;exact⟨xy,H',I.WV,q⟩
 |cont=>let⟨xy,H',I,q⟩:=h;exact⟨xy,H',I.WV,q⟩|ret u=>let⟨v,xy,H',I,r,q⟩:=h;exact⟨v,xy,H',I.WV,r,q⟩
def YJ.XH{st:List Stmt}(h:YJ X.XH st t):YJ X st t:=λon s Y H D I hw=>aH (h on s Y H D (I.Xq _) hw) (λ_ _ q=>q.WV) λ_ _ z=>False.elim z
section
variable {st:Stmt}{bP:List Stmt}
def QH:TS:=λD Y H=>D.nx Y H
def S5(t u:TS):TS:=λD Y H=>t {D with nx:=u D} Y H
def FF:YJ X [] QH:=λ_ _ Y H _ I h=>uH ⟨Y,H,I,h⟩
def gA(h1:PS X st t)(h2:YJ X bP u):YJ X (st::bP) (S5 t u):=by
 refineλon s Y H D I h=>fQ (fq (h1 on s Y H {D with nx:=u D} I h) λf s1 q=>?_);cases f with
 |next=>let⟨xy,H',I',q⟩:=q;exact h2 on s1 xy H' D I' q|ret v=>exact q
 |brk=>exact q|cont=>exact q
def oH(h1:PS X st t):YJ X [st] t:=by
 refineλon s Y H D I h=>fQ (fq (h1 on s Y H D I h) λf s1 q=>?_);cases f with
 |next=>exact uH q|ret v=>exact q
 |brk=>exact q|cont=>exact q
def Inv.quiet(I:Inv X on Y H s):interactive X.env=false:=by simp[interactive,I.ok.kind]
def QJ(te:TE):TS:=λD Y H=>te Y H λ_ H1=>D.nx Y H1
def k8(he:PE X e te)(hs:swapsWith e none pos.line X.env=pure false:=by rfl):PS X (.Expr e pos) (QJ te):=by exactλon s Y H D I h=>Vd (fq (he on s Y H _ I h) λv s1 ⟨x,H1,I1,r1,q1⟩=>⟨Y,H1,I1,q1⟩) I.quiet hs
def S6(te:TE):TS:=λD Y H=>te Y H D.rt
def uQ(he:PE X e te):PS X (.Return (some e) pos) (S6 te):=by exactλon s Y H D I h=>wpAny_Return_some (fq (he on s Y H _ I h) λv s1 ⟨x,H1,I1,r1,q1⟩=>⟨x,Y,H1,I1,r1,q1⟩)
def QE:TS:=λD _ H=>D.rt .VH H
def LK:PS X (.Return none pos) QE:=λ_ _ Y H _ I h=>wpAny_Return_none ⟨.VH,Y,H,I,rfl,h⟩
def Td(c:TT)(t u:TS):TS:=λD Y H=>c Y H λb H1=>if b=true then t D Y H1 else u D Y H1
def xb{tc:TT}(hc:PT X c tc)(ha:YJ X a t)(hb:YJ X b u):PS X (.If c a b pos) (Td tc t u):=by refineλon s Y H D I h=>wpAny_If (fq (hc on s Y H _ I h) λd s1 ⟨H1,I1,q1⟩=>?_);cases d with|true=>exact ha on s1 Y H1 D I1 q1|false=>exact hb on s1 Y H1 D I1 q1
end
abbrev TG:=V->St->Hp->(St->Hp->Prop)->Prop
abbrev MX:=fh->St->Hp->(St->Hp->Prop)->Prop
def PG(X:Cx)(target:Expr)(t:TG):Prop:=∀(on:gC)(s:Shared)(Y:St)(H:Hp)(v:V)(u:Value)(Q:St->Hp->Prop),Inv X on Y H s->RelV v u->t v Y H Q->fg X (assign target X.env u) (λ_ s'=>∃xy H',Inv X on xy H' s'/\Q xy H') X.xe s
def Qi(X:Cx)(ts:tL)(t:MX):Prop:=∀(on:gC)(s:Shared)(Y:St)(H:Hp)(vs:fh)(us:jh)(Q:St->Hp->Prop),Inv X on Y H s->Vals vs us->t vs Y H Q->fg X (assignInOrder ((assignEach ts X.env).map (·.2)) us) (λ_ s'=>∃xy H',Inv X on xy H' s'/\Q xy H') X.xe s
abbrev KG:=V->V->V->Hp->(Hp->Prop)->Prop
def PV(X:Cx)(t:KG):Prop:=∀(on:gC)(s:Shared)(Y:St)(H:Hp)(o i v:V)(ov iv u:Value)(Q:Hp->Prop),Inv X on Y H s->RelV o ov->RelV i iv->RelV v u->t o i v H Q->fg X (setItem ov iv u) (λ_ s'=>∃H',Inv X on Y H' s'/\Q H') X.xe s
abbrev R0:=V->V->Hp->VK->Prop
def UE(X:Cx)(op:Operator)(t:R0):Prop:=∀(on:gC)(s:Shared)(Y:St)(H:Hp)(x y:V)(v u:Value)(Q:VK),Inv X on Y H s->RelV x v->RelV y u->t x y H Q->fg X (inplaceOp op v u) (EP X on Y Q) X.xe s
def NC(i:Nat):TG:=λv Y H Q=>Q (Y.set i<|some v) H
def wo{i:Nat}(hN:X.N.Nodup)(hi:X.N[i]?=some x)(hx:PY X.env.scope x)(hf:X.fn x=true\/X.env.scope.names.lookup x=some .local:=by first |exact .inl rfl |exact .inr rfl |assumption):PG X (.Name x pos) (NC i):=by exactλon s Y H v u Q I r h=>wpAny_assign_Name<|nP I hN hi hx r (λs' I'=>⟨_,H,I',h⟩) hf
def TW:MX:=λvs Y H Q=>vs=[]/\Q Y H
def Rt(t:TG)(u:MX):MX:=λvs Y H Q=>∃v r,vs=v::r/\t v Y H λxy H'=>u r xy H' Q
def FK:Qi X [] TW:=by intro on s Y H vs us Q I r h;obtain⟨e,h⟩:=h;subst e;cases r;exact assignInOrder_nil ⟨Y,H,I,h⟩
def xi{u:MX}(h1:PG X e t)(h2:Qi X es u)(hs:(assignEach (e::es) X.env).map (·.2)=assign e X.env::(assignEach es X.env).map (·.2):=by rfl):Qi X (e::es) (Rt t u):=by intro on s Y H vs us Q I r h;obtain⟨v,vr,e1,h⟩:=h;subst e1;cases r with|cons r rr=>rw[hs];refine UG (fq (h1 on s Y H _ _ _ I r h) λ_ s1 ⟨WF,H1,I1,q1⟩=>?_);exact h2 on s1 WF H1 _ _ Q I1 rr q1
def TU(K:eZ)(n:Nat)(t:MX):TG:=λv Y H Q=>∃a xs,v=.ref a/\WM K H a xs/\xs.length=n/\t xs Y H Q
def Jm{n:Nat}{t:MX}(hc:X.calm=true)(h:Qi X es t)(hn:(assignEach es X.env).length=n:=by rfl)(XY:(assignEach es X.env).findIdx? (·.1)=none:=by rfl):PG X (.Tuple es k pos) (TU X.K n t):=by intro on s Y H v u Q I r hw;obtain⟨a,xs,e1,hq,hl,hw⟩:=hw;subst e1;cases r;obtain⟨its,rv,ht,hz⟩:=I.tuple hq;refine assign_Tuple_tuple (I.ok.hd hc) ht (by simp[hn,<-hl,rv.length]) XY λh' hx=>?_;have I1:=I.kept (t':=s.toks) λb o e=>hx b o (bH<|aR e) e;exact h on _ Y H xs _ Q I1 rv hw
def TV(to ti:TE)(t:KG):TG:=λv Y H Q=>to Y H λo H1=>ti Y H1 λi H2=>t o i v H2 λH3=>Q Y H3
def Ow{t:KG}(ho:PE X o to)(hi:PE X i ti)(hs:PV X t)(ha:∀v,assign (.Subscript o i pos) X.env v=(do
   let ov <-holding [v] (eval o X.env)
   let iv <-holding [v,ov] (eval i X.env)
   standAt pos
   holding [v,ov,iv] (setItem ov iv v)
   release [v,ov,iv] []):=by intro _;rfl):PG X (.Subscript o i pos) (TV to ti t):=by
 intro on s Y H v u Q I r h
 rw[ha]
 refine ak<|dv (fq (ho on s Y H _ I h) λov s1 ⟨x,H1,I1,r1,q1⟩=>?_)
 refine ak<|dv (fq (hi on s1 Y H1 _ I1 q1) λiv s2 ⟨y,H2,I2,r2,q2⟩=>?_)
 refine ak<|nE<|ak<|dv (fq (hs on s2 Y H2 x y v ov iv u _ I2 r1 r2 r q2) λ_ s3 ⟨H3,I3,q3⟩=>?_)
 exact wpAny_release ⟨Y,H3,I3,q3⟩
def QN(te:TE)(g:TG):TS:=λD Y H=>te Y H λx H1=>g x Y H1 D.nx
def Jh{g:TG}(he:PE X e te)(hg:PG X tg g)(hs:swapsWithSole [tg] e pos.line X.env=pure false:=by rfl)(hw:swappedStores [tg] e X.env=pure none:=by rfl)(h1:(assignEach [tg] X.env).map (·.2)=[assign tg X.env]:=by rfl):PS X (.Assign [tg] e pos) (QN te g):=by refineλon s Y H D I h=>wpAny_Assign_stores (fq (he on s Y H _ I h) λv s1 ⟨x,H1,I1,r1,q1⟩=>?_) hs hw;rw[h1];exact fq (hg on s1 Y H1 x v _ I1 r1 q1) λ_ s2 q=>q
def oI{i:Nat}(hN:X.N.Nodup)(hi:X.N[i]?=some x)(hx:PY X.env.scope x)(he:PE X e te)(hs:swapsWith e (some<|.Name x pos') pos.line X.env=pure false:=by rfl)(hf:X.fn x=true\/X.env.scope.names.lookup x=some .local:=by first |exact .inl rfl |exact .inr rfl |assumption):PS X (.Assign [.Name x pos'] e pos) (QN te<|NC i):=by refineλon s Y H D I h=>P5 (fq (he on s Y H _ I h) λv s1 ⟨y,H1,I1,r1,q1⟩=>?_) hs;exact nP I1 hN hi hx r1 (λs2 I2=>⟨_,H1,I2,q1⟩) hf
def S7(i j:Nat)(ta:TA):TS:=λD Y H=>ta Y H λvs H1=>∃v w,vs=[v,w]/\D.nx ((Y.set i<|some v).set j<|some w) H1
def Os{i j:Nat}{kt k2 pt2}(hc:X.calm=true)(hN:X.N.Nodup)(hi:X.N[i]?=some x)(hj:X.N[j]?=some y)(hij:i≠j)(hx:X.env.scope.names.lookup x=some .local)(hy:X.env.scope.names.lookup y=some .local)(ha:PA X [a,b] ta)(hw:swappedStores [.Tuple [.Name x px,.Name y py] kt pt] (.Tuple [a,b] k2 pt2) X.env=pure (some [x,y]))(hs:swapsWithSole [.Tuple [.Name x px,.Name y py] kt pt] (.Tuple [a,b] k2 pt2) pos.line X.env=pure false:=by rfl):PS X (.Assign [.Tuple [.Name x px,.Name y py] kt pt] (.Tuple [a,b] k2 pt2) pos) (S7 i j ta):=by
 intro on s Y H D I h;rw[exec_Assign_arm];refine ak<|nE ?_;rw[hs];refine ak<|aD ?_;rw[av<|by decide];refine ak<|Tuple_ (fq (ha _ on s Y H _ I h) λus s1 ⟨vs,H1,I1,r1,q1⟩=>?_);obtain⟨v,w,e1,q1⟩:=q1;subst e1;obtain⟨u1,u2,rfl,rv,Xn⟩:∃u1 u2,us=[u1,u2]/\RelV v u1/\RelV w u2:=by cases r1 with|cons p q=>cases q with|cons p' q'=>cases q';exact⟨_,_,rfl,p,p'⟩
 refine dG ?_ (by show 2<=sizeLine;decide);have I2:Inv X on Y H1 {s1 with heap:=s1.heap.push {cls:=.type "tuple",data:=.seq [u1,u2].toArray}}:=I1.kept λb o e=>Heap.get?_push_of_some _ e;rw[hw];refine ak<|aD ?_;refine ak<|wpAny_rule<|ak (unpackItems_tuple (items:=#[u1,u2]) (I.ok.hd hc) (IsTup.new s1.heap _) λh' YQ=>?_);show wpAny _ _ (assignInOrder [λv=>bindName X.env y v,λv=>bindName X.env x v] [u2,u1]>>=λ_=>pure Flow.next) _ _ _;refine ak<|UG<|wpAny_bindName<|nP (I2.kept (h':=h') (t':=s1.toks) λb o e=>YQ b o (bH<|aR e) e) hN hj (.inl hy) Xn (λs2 I4=>?_)<|.inr hy;refine UG<|wpAny_bindName<|nP I4 hN hi (.inl hx) rv (λs3 I5=>assignInOrder_nil<|aD ?_)<|.inr hx;rw[List.set_comm _ _<|eF hij]at I5;exact⟨_,H1,I5,q1⟩
def Ti(i:Nat)(te:TE)(ti:R0):TS:=λD Y H=>∃x,Y[i]?=some (some x)/\te Y H λy H1=>ti x y H1 λz H2=>D.nx (Y.set i<|some z) H2
def Jg{i:Nat}{ti:R0}(hN:X.N.Nodup)(hi:X.N[i]?=some x)(hx:PY X.env.scope x)(he:PE X e te)(ho:UE X op ti)(hf:X.fn x=true\/X.env.scope.names.lookup x=some .local:=by first |exact .inl rfl |exact .inr rfl |assumption):PS X (.AugAssign (.Name x pos') op e pos) (Ti i te ti):=by
 intro on s Y H D I h;obtain⟨v,e1,h⟩:=h;obtain⟨m,hn,hl⟩:=I.loc;have vis:Qh X.env.scope x:=by rcases hx with k |k;exact .inl k;exact .inr<|.inl k
 obtain⟨u,r,l⟩:=hl i x v hi e1 vis;refine wpAny_AugAssign_Name ?_;have go:fg X (eval e X.env) (λw s₂=>fg X (inplaceOp op u w) (λr s₃=>fg X (storeName X.env x r) (λ_=>SP X on D .next) X.xe s₃) X.xe s₂) X.xe s:=by refine fq (he on s Y H _ I h) λw s1 ⟨y,H1,I1,r1,q1⟩=>?_;refine fq (ho on s1 Y H1 v y u w _ I1 r r1 q1) λz s2 ⟨zv,H2,I2,r2,q2⟩=>?_;exact nP I2 hN hi hx r2 (λs3 I3=>⟨_,H2,I3,q2⟩) hf
 rcases l with⟨hk,hm⟩ |⟨hk,c,hc,Xb⟩;exact HM I.ok.kind hk hn hm go;rcases hk with hk |hk;exact KP I.ok.kind hk hc Xb go;rcases hx with k |k;have:X.env.scope.names.lookup x=some .free:=hk;rw[k]at this;cases this;have:X.env.scope.names.lookup x=some .free:=hk;rw[k]at this;cases this
def QM(to ti te:TE)(Z6:V->V->Hp->VK->Prop)(tip:R0)(Z5:KG):TS:=λD Y H=>to Y H λo H1=>ti Y H1 λi H2=>Z6 o i H2 λx H3=>te Y H3 λy H4=>tip x y H4 λz H5=>Z5 o i z H5 λH6=>D.nx Y H6
def R6(X:Cx)(t:V->V->Hp->VK->Prop):Prop:=∀(on:gC)(s:Shared)(Y:St)(H:Hp)(o i:V)(ov iv:Value)(Q:VK),Inv X on Y H s->RelV o ov->RelV i iv->t o i H Q->fg X (getItem ov iv) (EP X on Y Q) X.xe s
def LL{Z6:V->V->Hp->VK->Prop}{tip:R0}{Z5:KG}(ho:PE X o to)(hi:PE X i ti)(hg:R6 X Z6)(he:PE X e te)(hp:UE X op tip)(hs:PV X Z5)(ha:∀ov iv new,augStore i ov iv new=(do holding [new,ov,iv] (setItem ov iv new);release [new,ov,iv] [];pure .next):=by intros;rfl):PS X (.AugAssign (.Subscript o i zCS) op e pos) (QM to ti te Z6 tip Z5):=by refineλon s Y H D I h=>wpAny_AugAssign_SubscriptAny (fq (ho on s Y H _ I h) λov s1 ⟨x1,H1,I1,r1,q1⟩=>?_) ha;refine fq (hi on s1 Y H1 _ I1 q1) λiv s2 ⟨x2,H2,I2,r2,q2⟩=>?_;refine fq (hg on s2 Y H2 x1 x2 ov iv _ I2 r1 r2 q2) λold s3 ⟨x3,H3,I3,r3,q3⟩=>?_;refine fq (he on s3 Y H3 _ I3 q3) λv s4 ⟨x4,H4,I4,r4,q4⟩=>?_;refine fq (hp on s4 Y H4 x3 x4 old v _ I4 r3 r4 q4) λnew s5 ⟨x5,H5,I5,r5,q5⟩=>?_;exact fq (hs on s5 Y H5 x1 x2 x5 ov iv new _ I5 r1 r2 r5 q5) λ_ s6 ⟨H6,I6,q6⟩=>⟨Y,H6,I6,q6⟩
def N9(c:TT)(tb:TS):TS:=λD Y H=>∃W:Nat->St->Hp->Prop,(∃m,W m Y H)/\∀m Y H,W m Y H->c Y H λb H1=>if b=true then∃N:St->Hp->Prop,(∀xy H',N xy H'->∃m',m'<m/\W m' xy H')/\tb {D with nx:=N,ct:=N,bk:=D.nx} Y H1 else D.nx Y H1
def xa{tc:TT}(hp:PassesOwn (model X.prog X.w) X.A X.env X.xe)(hc:PT X c tc)(hb:YJ X body tb):PS X (.While c body [] pos) (N9 tc tb):=by
 intro on s Y H D I h;obtain⟨W,⟨m0,w0⟩,turn⟩:=h;refine wpAny_While<|codeAny_whileLoop (λn s'=>∃xy H',Inv X on xy H' s'/\W n xy H') ?_ m0 ⟨Y,H,I,w0⟩;rintro n s1 ⟨WF,H1,I1,w1⟩;refine ir hp (fq (hc on s1 WF H1 _ I1<|turn n WF H1 w1) λb s2 ⟨H2,I2,q2⟩=>?_);cases b with
 |true=>
  obtain⟨N,hN,q2⟩:=q2;rw[ax rfl];refine ir hp (fq (hb on s2 WF H2 _ I2 q2) λf s3 q3=>?_);cases f with
  |next=>obtain⟨XV,H3,I3,n3⟩:=q3;obtain⟨m',hm,w3⟩:=hN XV H3 n3;exact⟨m',hm,XV,H3,I3,w3⟩
  |cont=>obtain⟨XV,H3,I3,n3⟩:=q3;obtain⟨m',hm,w3⟩:=hN XV H3 n3;exact⟨m',hm,XV,H3,I3,w3⟩
  |brk=>exact q3|ret v=>exact q3
 |false=>rw[av aA];exact uH ⟨WF,H2,I2,q2⟩
structure It where
 go:Nat->Hp->Prop
 yld:Nat->Hp->V->Hp->Prop
 stop:Nat->Hp->Prop
 WT:Prop
def P0(X:Cx):Prop:=∃(ea:Addr)(oe:Obj)(u:HO)(vs:Array Value),X.A.handled=some (.ref ea)/\X.H₀ ea=some (.W5 oe u)/\oe.data=.fields vs/\vs[2]?=some .none
def tw(X:Cx)(on:gC)(H:Hp)(b:Addr):Prop:=H b=none/\b≠X.env.locals/\b∉X.fs/\(b∈X.ex\/X.s₀.heap.objs.size<=b)/\(∀x c,X.env.cells.lookup x=some c->c≠b)/\∀p∈X.pn++on,p.1≠b
def Inv.ZE{H':Hp}{b:Addr}(I:Inv X on Y H s)(hb:s.heap.objs.size<=b)(hn:H' b=none):tw X on H' b:=by refine⟨hn,nG<|ba I.lt hb,I.zF3 hb,.inr<|aJ I.sz hb,λx c e z=>?_,λp hp z=>?_⟩;let⟨v,q⟩:=I.cell x c e;exact absurd (ba q.lt<|by rwa[z])<|gi _;exact absurd (ba (aR (I.pin p hp).1)<|by rwa[z])<|gi _
structure Dz(P:Program)(w:World)(K:eZ)(tg:Expr)(J:It)(fp:List Addr)(it:Addr)(tn:Nat->Heap->Prop):Prop where
 mem:it∈fp
 obj:∀i h,tn i h->∀b∈fp,∃o,h.get? b=some o/\∀v,o.data≠.cell v
 keep:∀i h h',tn i h->(∀b∈fp,∀o,h.get? b=some o->h'.get? b=some o)->tn i h'
 item:∀(X:Cx),X.prog=P->X.w=w->X.K=K->(X.calm=true\/(J.WT/\P0 X))->∀(i:Nat)(on:gC)(s:Shared)(Y:St)(H:Hp)(E:qW),Inv X on Y H s->(∀b∈fp,tw X on H b)->tn i s.heap->J.go i H->
  wpAny (model P w) X.A (pyNext<|.ref it) (λr s1=>∃u,r=some u/\
   wpAny (model P w) X.A (letOwnedTupleGo tg (.ref it) u) (λ_ s2=>∃x H',Inv X on Y H' s2/\RelV x u/\J.yld i H x H'/\tn (i+1) s2.heap/\∀b∈fp,H' b=none) E s1) E s
 done:∀(X:Cx),X.prog=P->X.w=w->X.K=K->(X.calm=true\/(J.WT/\P0 X))->∀(i:Nat)(on:gC)(s:Shared)(Y:St)(H:Hp)(E:qW),Inv X on Y H s->(∀b∈fp,tw X on H b)->tn i s.heap->J.stop i H->
  wpAny (model P w) X.A (pyNext<|.ref it) (λr s1=>r=none/\Inv X on Y H s1) E s
 self:∀(A:Around)(i:Nat)(s:Shared)(Q:qW)(E:qW),tn i s.heap->Q (.ref it) s->wpAny (model P w) A (pyIter<|.ref it) Q E s
abbrev TI:=St->Hp->(It->Hp->Prop)->Prop
def SA(X:Cx)(on:gC)(Y:St)(tg:Expr)(R:It->Hp->Prop)(itv:Value)(s2:Shared):Prop:=∃(it:Addr)(fp:List Addr)(tn:Nat->Heap->Prop)(J:It)(H':Hp),itv=.ref it/\Inv X on Y H' s2/\Dz X.prog X.w X.K tg J fp it tn/\tn 0 s2.heap/\(∀b∈fp,tw X on H' b)/\R J H'
def PI(X:Cx)(tg iter:Expr)(wi:TI):Prop:=∀(on:gC)(s:Shared)(Y:St)(H:Hp)(R:It->Hp->Prop),Inv X on Y H s->wi Y H R->fg X (eval iter X.env) (λv s1=>fg X (pyIter v) (SA X on Y tg R) X.xe s1) X.xe s
def Gc{s:Shared}{it:Addr}{Q:Unit->Shared->Prop}(ho:s.heap.get? it=some o)(hc:o.cls=.type n)(hd:o.data=.fields vs)(hn:["enumerate","zip","dict_itemiterator","dict_reverseitemiterator","odict_iterator","itertools.zip_longest","itertools.pairwise"].contains n=false)(hQ:Q () s):wpAny M A (letOwnedTupleGo tg (.ref it) u) Q E s:=by
 cases tg<;>first
  |exact aD hQ|(cases u<;>first|exact aD hQ|(refine ak<|wpAny_load ho ?_;rw[hc,hd];show wpAny M A (if(["enumerate","zip","dict_itemiterator","dict_reverseitemiterator","odict_iterator","itertools.zip_longest","itertools.pairwise"].contains n&&vs[0]?==some (rawInt _))=true then _ else _) Q E s;rw[av<|by intro h;rw[hn,Bool.false_and]at h;cases h];exact aD hQ))
def Uh(K:eZ)(a:Addr):It:=⟨λi H=>∃xs x,Wd K H a xs/\xs[i]?=some x,λi H x H'=>H'=H/\∀xs,Wd K H a xs->xs[i]?=some x,λi H=>∃xs,Wd K H a xs/\xs.length<=i,False⟩
def Uf(K:eZ)(a:Addr):It:=⟨λi H=>∃xs x,WM K H a xs/\xs[i]?=some x,λi H x H'=>H'=H/\∀xs,WM K H a xs->xs[i]?=some x,λi H=>∃xs,WM K H a xs/\xs.length<=i,False⟩
def R9(lo:Int)(n:Nat):It:=⟨λi _=>i<n,λi H x H'=>H'=H/\x=.int (lo+i),λi _=>n<=i,True⟩
def G2(a it:Addr):Dz P w K tg (Uh K a) [it] it (λi h=>h.IsListIter it a i) where
 mem:=by simp
 obj:=λi h st b hb=>by
  cases by simpa using hb
  obtain⟨o,e,c,d⟩:=st;exact⟨o,e,λv z=>by rw[d]at z;cases z⟩
 keep:=λi h h' st k=>st.at λo e=>k it (by simp) o e
 item:=by intro X hP hw hK hc i on s Y H E I hf st hg;subst hP hw hK;replace hc:=hc.resolve_right λz=>z.1;obtain⟨xs,x,hq,hx⟩:=hg;obtain⟨its,rv,p,hz⟩:=I.list hq;obtain⟨u,hu,ru⟩:=rv.get hx;obtain⟨f0,f1,f2,f3,f4,f5⟩:=hf it (by simp);refine wpAny_pyNext_list_item st p.isList (by simpa using hu) λh' Wk sb=>?_;have I1:=I.turned (t':=s.toks) (λb o hb e=>(sb.2 b hb).trans e) f0 f1 f3 f4 f5;obtain⟨o,e,c,d⟩:=id Wk;exact⟨u,rfl,Gc e c d rfl ⟨x,H,I1,ru,⟨rfl,λys hy=>by rwa[I.Zv hy hq]⟩,Wk,λb hb=>(hf b hb).1⟩⟩
 done:=by intro X hP hw hK hc i on s Y H E I hf st hg;subst hP hw hK;replace hc:=hc.resolve_right λz=>z.1;obtain⟨xs,hq,hx⟩:=hg;obtain⟨its,rv,p,hz⟩:=I.list hq;obtain⟨f0,f1,f2,f3,f4,f5⟩:=hf it (by simp);have hl:=rv.length;exact wpAny_pyNext_list_end (I.ok.hd hc) st p.isList (by simp;lia) λh' eb=>⟨rfl,I.turned (λb o hb e=>eb b o hb e) f0 f1 f3 f4 f5⟩
 self:=λ_ _ _ _ _ st h=>wpAny_pyIter_listiter st h
def DT(a it:Addr):Dz P w K tg (Uf K a) [it] it (λi h=>h.IsTupleIter it a i) where
 mem:=by simp
 obj:=λi h st b hb=>by
  cases by simpa using hb
  obtain⟨o,e,c,d⟩:=st;exact⟨o,e,λv z=>by rw[d]at z;cases z⟩
 keep:=λi h h' st k=>st.at λo e=>k it (by simp) o e
 item:=by intro X hP hw hK hc i on s Y H E I hf st hg;subst hP hw hK;replace hc:=hc.resolve_right λz=>z.1;obtain⟨xs,x,hq,hx⟩:=hg;obtain⟨its,rv,p,hz⟩:=I.tuple hq;obtain⟨u,hu,ru⟩:=rv.get hx;obtain⟨f0,f1,f2,f3,f4,f5⟩:=hf it (by simp);refine wpAny_pyNext_tuple_item st (p) (by simpa using hu) λh' Wk sb=>?_;have I1:=I.turned (t':=s.toks) (λb o hb e=>(sb.2 b hb).trans e) f0 f1 f3 f4 f5;obtain⟨o,e,c,d⟩:=id Wk;exact⟨u,rfl,Gc e c d rfl ⟨x,H,I1,ru,⟨rfl,λys hy=>by rwa[I.X3 hy hq]⟩,Wk,λb hb=>(hf b hb).1⟩⟩
 done:=by intro X hP hw hK hc i on s Y H E I hf st hg;subst hP hw hK;replace hc:=hc.resolve_right λz=>z.1;obtain⟨xs,hq,hx⟩:=hg;obtain⟨its,rv,p,hz⟩:=I.tuple hq;obtain⟨f0,f1,f2,f3,f4,f5⟩:=hf it (by simp);have hl:=rv.length;exact wpAny_pyNext_tuple_end (I.ok.hd hc) st (p) (by simp;lia) λh' eb=>⟨rfl,I.turned (λb o hb e=>eb b o hb e) f0 f1 f3 f4 f5⟩
 self:=λ_ _ _ _ _ st h=>wpAny_pyIter_tupleiter st h
def zr:entryFor table "proto.unchain"=some Builtin.«proto.unchain»:=entryFor_of_tree<|by kernel_rfl
def y7{A:Around}{s:Shared}{step:Int}{Q:Option Value->Shared->Prop}(hh:A.handled=some (.ref ea))(he:s.heap.get? ea=some oe)(hd:oe.data=.fields vs)(h2:vs[2]?=some .none)(hit:IsRangeIter s.heap it x left step)(zDO:left<=0)(hQ:∀h',Heap.ExtBut it s.heap h'->Q none {s with heap:=h'}):wpAny (model prog w) A (pyNext<|.ref it) Q E s:=by
 have hT:s.TypeIs (.ref it) "range_iterator":=⟨_,hit,rfl⟩;refine ak<|wpAny_attempt<|wpAny_callSpecial?_slot hT Vj<|l9 Vj hT F.entry_range_iterator_next ?_<|F.args_range_iterator_next_1 _;show wpAny _ _ (field (.ref it) 0>>=_) _ _ s;refine ak<|eG hit rfl rfl ?_;refine ak<|eG hit rfl rfl ?_;refine ak<|eG hit rfl rfl ?_;show wpAny _ _ (if left<=0 then _ else _) _ _ s;rw[ax zDO];refine ak<|wpAny_rule<|ak ?_;refine ak ?_;simp;refine ak<|dG ?_ (by size_fits);refine ak<|wpAny_of_eq (by first |rfl |(simp;rfl)) ?_;refine dG ?_ (by size_fits);have V1:=aR he;simp only[raiseNew];refine ak<|wpAny_handled ?_;rw[show A.in1.handled=some (.ref ea)from hh];dsimp only;have ne:(Value.ref ea !=Value.ref (s.heap.push {cls:=.type "tuple",data:=.seq [].toArray}).objs.size)=true:=by rw[fY];have:ea≠s.heap.objs.size+1:=bH<|jE V1;simp[this]
 rw[ax ne];have he':((s.heap.push {cls:=.type "tuple",data:=.seq ([]:jh).toArray}).push {cls:=.type "StopIteration",data:=.fields (#[.ref s.heap.objs.size,.none,.none,.none,.bool false,Value.none]++ownMembersOf (.type "StopIteration") [])}).get? ea=some oe:=Heap.get?_push_of_some _<|Heap.get?_push_of_some _ he;refine ak<|dv<|wpAny_runValue<|codeAny_builtin zr ?_;refine ak<|eG he' hd h2 ?_;rw[ax<|by decide];refine aD ?_;refine ak ?_;simp only[updateField];refine ak<|wpAny_load (Heap.get?_push_size _ rfl) ?_;dsimp only;rw[ax<|by rw[Array.size_append];show 2<6+_;lia];refine wpAny_update (Heap.get?_push_size _ rfl) ?_;refine wpAny_throw ?_;refine ak<|wpAny_isInstance ⟨_,Heap.get?_update_self _ (Heap.get?_push_size _ rfl) rfl,rfl⟩ isSubtype_stop ?_;refine aD (hQ _ λb o hb q=>?_);have hb2:=aR q;rw[Heap.get?_update_other _ _<|by rw[fY];exact nG<|jE hb2];exact Heap.get?_push_of_some _<|Heap.get?_push_of_some _ q
def DU(it:Addr)(lo:Int)(n:Nat):Dz P w K tg (R9 lo n) [it] it (λi h=>IsRangeIter h it (lo+(i:Nat)*1) ((n:Int)-(i:Nat)) 1) where
 mem:=by simp
 obj:=λi h st b hb=>by
  cases by simpa using hb
  exact⟨_,st,λv z=>by have z':Data.fields _=Data.cell v:=z;cases z'⟩
 keep:=λi h h' st k=>k it (by simp) _ st
 item:=by
  intro X hP hw hK hc i on s Y H E I hf st hg;subst hP hw hK;let⟨f0,f1,f2,f3,f4,f5⟩:=hf it (by simp);refine wpAny_pyNext_range_item st (by have:i<n:=hg;lia) λh' Wk sb=>?_;have I1:Inv X on Y H {s with heap:=h',toks:=s.toks+1}:=I.turned (λb o hb e=>(sb.2 b hb).trans e) f0 f1 f3 f4 f5;have e1:lo+i*1+1=lo+((i+1:Nat):Int)*1:=by lia
  have e2:n-i-1=n-((i+1:Nat):Int):=by lia
  rw[e1,e2]at Wk;refine⟨_,rfl,Gc Wk rfl rfl rfl ⟨.int<|lo+i,H,I1,⟨s.toks,?_⟩,⟨rfl,rfl⟩,Wk,λb hb=>(hf b hb).1⟩⟩;rw[Int.mul_one]
 done:=by intro X hP hw hK hc i on s Y H E I hf st hg;subst hP hw hK;let⟨f0,f1,f2,f3,f4,f5⟩:=hf it (by simp);rcases hc with hc |⟨_,ea,oe,u,vs,k1,k2,k3,k4⟩;rotate_left;let⟨ho,_⟩:=(I.VG ea _<|I.base.Wm ea oe u k2);exact y7 k1 ho k3 k4 st (by have:n<=i:=hg;lia) λh' eb=>⟨rfl,I.turned (λb o hb e=>eb b o hb e) f0 f1 f3 f4 f5⟩;exact wpAny_pyNext_range_end (I.ok.hd hc) st (by have:n<=i:=hg;lia) λh' eb=>⟨rfl,I.turned (λb o hb e=>eb b o hb e) f0 f1 f3 f4 f5⟩
 self:=λ_ _ _ _ _ st h=>wpAny_pyIter_rangeiter st h
def Rp(K:eZ)(tl:TE):TI:=λY H R=>tl Y H λx H1=>∃a,x=.ref a/\(∃xs,Wd K H1 a xs)/\R (Uh K a) H1
def TQ(K:eZ)(tl:TE):TI:=λY H R=>tl Y H λx H1=>∃a,x=.ref a/\(∃xs,WM K H1 a xs)/\R (Uf K a) H1
def FJ(hl:PE X l tl):PI X tg l (Rp X.K tl):=by
 refineλon s Y H R I h=>fq (hl on s Y H _ I h) λv s1 ⟨x,H1,I1,r1,q1⟩=>?_;obtain⟨a,e,⟨xs,hq⟩,q⟩:=q1;subst e;cases r1;obtain⟨its,rv,p,hz⟩:=I1.list hq;refine P4 p.isList<|⟨s1.heap.objs.size,[s1.heap.objs.size],_,_,H1,rfl,I1.kept (t':=s1.toks) λb o e=>Heap.get?_push_of_some _ e,G2 a _,⟨_,Heap.get?_push_size _ rfl,rfl,rfl⟩,λb hb=>?_,q⟩;cases by simpa using hb
 exact I1.ZE (ao _)<|I1.VG.fresh<|ao _
def Jk(hl:PE X l tl):PI X tg l (TQ X.K tl):=by
 refineλon s Y H R I h=>fq (hl on s Y H _ I h) λv s1 ⟨x,H1,I1,r1,q1⟩=>?_;obtain⟨a,e,⟨xs,hq⟩,q⟩:=q1;subst e;cases r1;obtain⟨its,rv,p,hz⟩:=I1.tuple hq;refine wf (show s1.heap.IsTuple a its.toArray from p)<|⟨s1.heap.objs.size,[s1.heap.objs.size],_,_,H1,rfl,I1.kept (t':=s1.toks) λb o e=>Heap.get?_push_of_some _ e,DT a _,⟨_,Heap.get?_push_size _ rfl,rfl,rfl⟩,λb hb=>?_,q⟩;cases by simpa using hb
 exact I1.ZE (ao _)<|I1.VG.fresh<|ao _
def CC{lo hi:Int}{tk:Nat}{R:It->Hp->Prop}(I:Inv X on Y H s)(h1: -(2 ^ 62)<=lo)(h2:lo<2 ^ 62)(h3: -(2 ^ 62)<=hi)(h4:hi<2 ^ 62)(q:R (R9 lo (hi-lo).toNat) H):fg X (pyIter<|.ref s.heap.objs.size) (SA X on Y tg R) E {s with heap:=s.heap.push {cls:=.type "range",data:=.fields #[.int lo t,.int hi u,.int 1 v]},toks:=tk}:=by
 refine wpAny_pyIter_range (IsRange.new ..) (small_one h1 h2 h3 h4) ?_;have I1:Inv X on Y H {s with heap:=s.heap.push {cls:=.type "range",data:=.fields #[.int lo t,.int hi u,.int 1 v]},toks:=tk}:=I.kept λb o e=>Heap.get?_push_of_some _ e;refine⟨(s.heap.push {cls:=.type "range",data:=.fields #[.int lo t,.int hi u,.int 1 v]}).objs.size,[(s.heap.push {cls:=.type "range",data:=.fields #[.int lo t,.int hi u,.int 1 v]}).objs.size],_,_,H,rfl,I1.kept λb o e=>Heap.get?_push_of_some _ e,DU _ lo (hi-lo).toNat,?_,λb hb=>?_,q⟩;have e1:lo+((0:Nat):Int)*1=lo:=by simp
 have e2:(((hi-lo).toNat:Nat):Int)-((0:Nat):Int)=Builtin.Range.rangeSize lo hi 1:=by rw[rangeSize_one];split<;>lia
 rw[e1,e2];exact Heap.get?_push_size _ rfl;have e:b=(s.heap.push {cls:=.type "range",data:=.fields #[.int lo t,.int hi u,.int 1 v]}).objs.size:=by simpa using hb
 subst e;exact I1.ZE (ao _)<|I1.VG.fresh<|ao _
def Ro(ta:TA):TI:=λY H R=>ta Y H λvs H1=>∃j:Int,vs=[.int j]/\-(2 ^ 62)<=j/\j<2 ^ 62/\R (R9 0 j.toNat) H1
def Rn(ta:TA):TI:=λY H R=>ta Y H λvs H1=>∃i j:Int,vs=[.int i,.int j]/\(-(2 ^ 62)<=i/\i<2 ^ 62/\-(2 ^ 62)<=j/\j<2 ^ 62)/\R (R9 i (j-i).toNat) H1
def AF(hg:Gl X "range")(hm:X.mg "range"=none)(ha:PA X [a] ta)(hs:starEach [a] X.env=[(false,eval a X.env)]:=by rfl):PI X tg (.Call (.Name "range" p) [a] [] pos) (Ro ta):=by refineλon s Y H R I h=>Call_<|u5 I hg hm boot_range<|jD (fq (ha pos on s Y H _ I h) λus s1 ⟨vs,H1,I1,r1,q1⟩=>?_) hs rfl;obtain⟨j,e,q1,q2,q⟩:=q1;subst e;cases r1 with|cons r rr=>cases rr;obtain⟨t,rfl⟩:=r;exact call_range_1<|CC I1 (by lia) (by lia) q1 q2<|by simpa using q
def Hd(hg:Gl X "range")(hm:X.mg "range"=none)(ha:PA X [a,b] ta)(hs:starEach [a,b] X.env=[(false,eval a X.env),(false,eval b X.env)]:=by rfl)(Ze:starEach [b] X.env=[(false,eval b X.env)]:=by rfl):PI X tg (.Call (.Name "range" p) [a,b] [] pos) (Rn ta):=by refineλon s Y H R I h=>Call_<|u5 I hg hm boot_range<|jD (fq (ha pos on s Y H _ I h) λus s1 ⟨vs,H1,I1,r1,q1⟩=>?_) (by rw[hs,Ze]) (by rw[Ze];rfl);obtain⟨i,j,e,⟨q1,q2,q3,q4⟩,q⟩:=q1;subst e;cases r1 with|cons r rr=>cases rr with|cons r' rr=>cases rr;obtain⟨t,rfl⟩:=r;obtain⟨t',rfl⟩:=r';exact call_range_2<|CC I1 q1 q2 q3 q4 q
def Tf(wi:TI)(g:TG)(tb:TS):TS:=λD Y H=>wi Y H λJ H1=>∃W:Nat->Nat->St->Hp->Prop,(∃m,W 0 m Y H1)/\∀i m Y H,W i m Y H->(J.stop i H/\D.nx Y H)\/(J.go i H/\∃N:St->Hp->Prop,(∀xy H',N xy H'->∃m',m'<m/\W (i+1) m' xy H')/\∀x H',J.yld i H x H'->g x Y H' λσ2 H2=>tb {D with nx:=N,ct:=N,bk:=D.nx} σ2 H2)
def uR(fp:List Addr)(h:Heap):gC:=fp.filterMap λb=>(h.get? b).map λo=>(b,o)
def jL{fp:List Addr}{h:Heap}{b:Addr}(hb:b∈fp)(e:h.get? b=some o):(b,o)∈uR fp h:=List.mem_filterMap.mpr ⟨b,hb,by rw[e];rfl⟩
def Hf{p:Addr×Obj}(hp:p∈uR fp h):p.1∈fp/\h.get? p.1=some p.2:=by
 let⟨b,hb,e⟩:=List.mem_filterMap.mp hp;cases q:h.get? b with
 |none=>rw[q]at e;cases e
 |some o=>rw[q]at e;have e':(b,o)=p:=bN e;subst e';exact⟨hb,q⟩
def Inv.pinned{fp:List Addr}(I:Inv X on Y H s)(hf:∀b∈fp,tw X on H b)(ho:∀b∈fp,∃o,s.heap.get? b=some o/\∀v,o.data≠.cell v):Inv X (on++uR fp s.heap) Y H s:=I.YO λp hp=>(bS.mp hp).elim (λz=>I.pin p<|aF _ z) λz=>by let⟨hb,e⟩:=Hf z;let⟨f0,f1,f2,_⟩:=hf p.1 hb;let⟨o,e',d⟩:=ho p.1 hb;rw[e]at e';cases e';exact⟨e,f0,f1,f2,d⟩
def Inv.Wx{on pl:gC}(I:Inv X (on++pl) Y H s):Inv X on Y H s:=I.YO λp hp=>I.pin p<|aF _<|fH _ hp
def D7{g:TG}(hp:PassesOwn (model X.prog X.w) X.A X.env X.xe)(hc:X.calm=true)(hi:PI X tg iter wi)(hg:PG X tg g)(hb:YJ X body tb)(hs:∀x,foldedSetIterable iter X.env x=pure x:=by intro _;rfl):PS X (.For tg iter body [] pos) (Tf wi g tb):=by
 refineλon s Y H D I h=>wpAny_For (fq (hi on s Y H _ I h) λv s1 h1=>fq h1 λitv s2 h2=>?_) hs;obtain⟨it,fp,tn,J,H2,e,I2,T,st2,f2,W,⟨m0,w0⟩,turn⟩:=h2;subst e;have stat:∀{H':Hp},(∀b∈fp,H' b=none)->∀b∈fp,tw X on H' b:=λhn b hb=>⟨hn b hb,(f2 b hb).2⟩;refine codeAny_forLoop_any (λn s'=>∃i xy H',Inv X on xy H' s'/\tn i s'.heap/\(∀b∈fp,H' b=none)/\W i n xy H') ?_ m0 ⟨0,Y,H2,I2,st2,λb hb=>(f2 b hb).1,w0⟩;rintro n s3 ⟨i,XV,H3,I3,st3,fr3,w3⟩;rcases turn i n XV H3 w3 with⟨stop,qn⟩ |⟨go,N,hN,step⟩;refine ir hp (fq (T.done X rfl rfl rfl (.inl hc) i on s3 XV H3 X.xe I3 (stat fr3) st3 stop) λr s4 ⟨hr,I4⟩=>?_);subst hr;exact uH ⟨XV,H3,I4,qn⟩;refine ir hp (fq (T.item X rfl rfl rfl (.inl hc) i on s3 XV H3 X.xe I3 (stat fr3) st3 go) λr s4 ⟨u,hr,h4⟩=>?_);subst hr;refine ir hp (fq h4 λ_ s5 ⟨x,H5,I5,r5,y5,Zq,fr5⟩=>?_);have I5':=I5.pinned (stat fr5)<|T.obj _ _ Zq;refine ir hp (fq (hg _ s5 XV H5 x u _ I5' r5<|step x H5 y5) λ_ s6 ⟨σ6,H6,I6,q6⟩=>?_);refine ir hp (fq (hb _ s6 σ6 H6 _ I6 q6) λf s7 q7=>?_);have again:∀{σ7:St}{H7:Hp},Inv X (on++uR fp s5.heap) σ7 H7 s7->N σ7 H7->∃m,m<n/\∃i xy H',Inv X on xy H' s7/\tn i s7.heap/\(∀b∈fp,H' b=none)/\W i m xy H':=λ{σ7 H7}I7 n7=>by obtain⟨m',hm,w7⟩:=hN σ7 H7 n7;refine⟨m',hm,i+1,σ7,H7,I7.Wx,T.keep _ _ _ Zq λb hb o e=>(I7.pin (b,o)<|aF _<|aF _<|jL hb e).1,λb hb=>?_,w7⟩;obtain⟨o,e,d⟩:=T.obj _ _ Zq b hb;exact(I7.pin (b,o)<|aF _<|aF _<|jL hb e).2.1
 cases f with
 |next=>let⟨σ7,H7,I7,n7⟩:=q7;exact again I7 n7|cont=>let⟨σ7,H7,I7,n7⟩:=q7;exact again I7 n7
 |brk=>let⟨σ7,H7,I7,q7⟩:=q7;exact⟨σ7,H7,I7.Wx,q7⟩|ret v=>let⟨x7,σ7,H7,I7,r7,q7⟩:=q7;exact⟨x7,σ7,H7,I7.Wx,r7,q7⟩
abbrev R2:=V->V->Hp->VK->Prop
def mj(X:Cx)(f:Value->Value->Sem Value)(r:R2):Prop:=∀(on:gC)(s:Shared)(Y:St)(H:Hp)(x y:V)(v u:Value)(Q:VK),Inv X on Y H s->RelV x v->RelV y u->r x y H Q->fg X (f v u) (EP X on Y Q) X.xe s
def T5(X:Cx)(f:Value->Sem Value)(r:V->Hp->VK->Prop):Prop:=∀(on:gC)(s:Shared)(Y:St)(H:Hp)(x:V)(v:Value)(Q:VK),Inv X on Y H s->RelV x v->r x H Q->fg X (f v) (EP X on Y Q) X.xe s
def iq(X:Cx)(f:Value)(r:fh->Hp->VK->Prop):Prop:=∀(on:gC)(s:Shared)(Y:St)(H:Hp)(xs:fh)(us:jh)(Q:VK),Inv X on Y H s->Vals xs us->r xs H Q->fg X (call f us) (EP X on Y Q) X.xe s
def T6(X:Cx)(r:V->Hp->(Bool->Hp->Prop)->Prop):Prop:=∀(on:gC)(s:Shared)(Y:St)(H:Hp)(x:V)(v:Value)(Q:Bool->Hp->Prop),Inv X on Y H s->RelV x v->r x H Q->fg X (truthy v) (TP X on Y Q) X.xe s
def So(r:R2)(ta tb:TE):TE:=λY H Q=>ta Y H λx H1=>tb Y H1 λy H2=>r x y H2 Q
def UR(r:V->Hp->VK->Prop)(ta:TE):TE:=λY H Q=>ta Y H λx H1=>r x H1 Q
def rI(C:Int->Int->Prop)(g:Int->Int->V):R2:=λx y H Q=>∃i j,x=.int i/\y=.int j/\C i j/\Q (g i j) H
def KZ(g:Int->Int->V):R2:=λx y H Q=>∃i j,x=.int i/\y=.int j/\Q (g i j) H
def rU(g:Int->V):V->Hp->VK->Prop:=λx H Q=>∃i,x=.int i/\Q (g i) H
def PF(ha:PE X a ta)(hb:PE X b tb){R:V->V->Hp->Prop}(I:Inv X on Y H s)(h:ta Y H λx H1=>tb Y H1 λy H2=>R x y H2){f:Value->Value->Sem Value}(hf:∀v u s2 x y H2,Inv X on Y H2 s2->RelV x v->RelV y u->R x y H2->fg X (f v u) Q X.xe s2):fg X (eval a X.env) (λv s₁=>fg X (eval b X.env) (λu s₂=>fg X (f v u) Q X.xe s₂) X.xe s₁) X.xe s:=by refine fq (ha on s Y H _ I h) λv s1 ⟨x,H1,I1,r1,q1⟩=>?_;refine fq (hb on s1 Y H1 _ I1 q1) λu s2 ⟨y,H2,I2,r2,q2⟩=>?_;exact hf v u s2 x y H2 I2 r1 r2 q2
def pH{r:R2}(ho:mj X (binaryOp op) r)(ha:PE X a ta)(hb:PE X b tb):PE X (.BinOp a op b pos) (So r ta tb):=by exactλon s Y H Q I h=>wpAny_BinOp (PF ha hb I h λv u s2 x y H2 I2 rx ry q=>ho on s2 Y H2 x y v u Q I2 rx ry q)
def Q8{op:UnaryOp}{r:V->Hp->VK->Prop}(ho:T5 X (unaryOp op) r)(ha:PE X a ta):PE X (.UnaryOp op a pos) (UR r ta):=by exactλon s Y H Q I h=>UnaryOp_ (fq (ha on s Y H _ I h) λv s1 ⟨x,H1,I1,r1,q1⟩=>ho on s1 Y H1 x v Q I1 r1 q1)
def Rg{f:Value->Value->Sem Value}{C:Int->Int->Prop}{g:Int->Int->Int}(rule:∀(i j:Int)(t u:Tok)(s:Shared)(Q:qW)(E:qW),C i j->Q (.int (g i j) s.toks) {s with toks:=s.toks+1}->fg X (f (.int i t)<|.int j u) Q E s):mj X f (rI C λi j=>.int<|g i j):=by intro on s Y H x y v u Q I rx ry h;obtain⟨i,j,rfl,rfl,hc,q⟩:=h;obtain⟨t,rfl⟩:=rx;obtain⟨t',rfl⟩:=ry;exact rule i j t t' s _ _ hc ⟨.int<|g i j,H,I.tok _,⟨_,rfl⟩,q⟩
def OL{f:Value->Value->Sem Value}{g:Int->Int->Int}(rule:∀(i j:Int)(t u:Tok)(s:Shared)(Q:qW)(E:qW),Q (.int (g i j) s.toks) {s with toks:=s.toks+1}->fg X (f (.int i t)<|.int j u) Q E s):mj X f (KZ λi j=>.int<|g i j):=by intro on s Y H x y v u Q I rx ry h;obtain⟨i,j,rfl,rfl,q⟩:=h;obtain⟨t,rfl⟩:=rx;obtain⟨t',rfl⟩:=ry;exact rule i j t t' s _ _ ⟨.int<|g i j,H,I.tok _,⟨_,rfl⟩,q⟩
def OM{f:Value->Value->Sem Value}{g:Int->Int->Bool}(rule:∀(i j:Int)(t u:Tok)(s:Shared)(Q:qW)(E:qW),Q (.bool<|g i j) s->fg X (f (.int i t)<|.int j u) Q E s):mj X f (KZ λi j=>.bl<|g i j):=by intro on s Y H x y v u Q I rx ry h;obtain⟨i,j,rfl,rfl,q⟩:=h;obtain⟨t,rfl⟩:=rx;obtain⟨t',rfl⟩:=ry;exact rule i j t t' s _ _ ⟨.bl<|g i j,H,I,rfl,q⟩
def Sf(i j:Int):Prop:=0<=j/\j<=1000000/\i.natAbs<2 ^ 64
def OK:mj X (binaryOp .Add) (KZ λi j=>.int<|i+j):=OL λ_ _ _ _ _ _ _ q=>add_int q
def OE:mj X (binaryOp .Sub) (KZ λi j=>.int<|i-j):=OL λ_ _ _ _ _ _ _ q=>sub_int q
def Jw:mj X (binaryOp .Mod) (rI (λ_ j=>0<j) λi j=>.int<|i%j):=Rg λi j _ _ _ _ _ hc q=>by exact mod_int' (by lia)<|by rwa[Int.fmod_eq_emod_of_nonneg i<|by lia]
def OG:mj X (binaryOp .Pow) (rI Sf λi j=>.int<|i ^ j.toNat):=Rg λ_ _ _ _ _ _ _ hc q=>pow_int_small hc.1 hc.2.1 hc.2.2 q
def OJ:mj X (binaryOp .BitAnd) (KZ λi j=>.int<|Builtin.bitAnd i j):=OL λ_ _ _ _ _ _ _ q=>and_int q
def UO{f:Value->Sem Value}{g:Int->Int}(rule:∀(i:Int)(t:Tok)(s:Shared)(Q:qW)(E:qW),Q (.int (g i) s.toks) {s with toks:=s.toks+1}->fg X (f<|.int i t) Q E s):T5 X f (rU λi=>.int<|g i):=by intro on s Y H x v Q I rx h;obtain⟨i,rfl,q⟩:=h;obtain⟨t,rfl⟩:=rx;exact rule i t s _ _ ⟨.int<|g i,H,I.tok _,⟨_,rfl⟩,q⟩
def N5:T5 X (unaryOp .USub) (rU λi=>.int (-i)):=UO λ_ _ _ _ _ q=>neg_int q
def QU:V->V->Bool
 |.VH,.VH=>true |.VH,.int _=>true |.int _,.VH=>true |.VH,.bl _=>true |.bl _,.VH=>true |.VH,.str _=>true |.str _,.VH=>true
 |.int _,.int _=>true |.bl _,.bl _=>true |.str _,.str _=>true |.YV _,.YV _=>true
 |.int _,.str _=>true |.str _,.int _=>true |.bl _,.str _=>true |.str _,.bl _=>true
 |_,_=>false
def UY:R2:=λx y H Q=>QU x y=true/\Q (.bl<|decide<|x=y) H
def UX:R2:=λx y H Q=>QU x y=true/\Q (.bl (!decide (x=y))) H
def BJ{i:Int}:decide (V.int i=V.int j)=(i==j):=by rw[yz];simp
def Ks{i:Bool}:decide (V.bl i=V.bl j)=(i==j):=by rw[yz];simp
def Gw{i:Str}:decide (V.str i=V.str j)=(i==j):=by rw[yz];simp
def Gx{i j:Array UInt8}:decide (V.YV i=V.YV j)=(i.toList==j.toList):=by rw[yz];cases i;cases j;simp
def c8{Q:VK}{k':Bool}(I:Inv X on Y H s)(q:Q (.bl k) H)(e:k=k':=by simp):EP X on Y Q (.bool k') s:=by subst e;exact⟨.bl k,H,I,rfl,q⟩
def Rf:mj X (compareOp .Eq) UY:=by
 intro on s Y H x y v u Q I rx ry h;let⟨hs,q⟩:=h;cases x with
 |VH=>
  cases rx;cases y with
  |VH=>cases ry;exact PySem.EqNone.eq_none_none<|c8 I q
  |bl j=>cases ry;exact PySem.EqNone.eq_none_bool<|c8 I q
  |int j=>obtain⟨t',rfl⟩:=ry;exact PySem.EqNone.eq_none_int<|c8 I q
  |str j=>obtain⟨t',rfl⟩:=ry;exact PySem.EqNone.eq_none_str<|c8 I q
  |_=>exact absurd (hs) aA
 |bl i=>
  cases rx;cases y with
  |VH=>cases ry;exact PySem.EqNone.eq_bool_none<|c8 I q
  |bl j=>cases ry;exact eq_bool<|c8 I q Ks
  |str j=>obtain⟨t',rfl⟩:=ry;exact PySem.EqMixed.eq_bool_str<|c8 I q
  |_=>exact absurd (hs) aA
 |int i=>
  obtain⟨t,rfl⟩:=rx;cases y with
  |VH=>cases ry;exact PySem.EqNone.eq_int_none<|c8 I q
  |int j=>obtain⟨t',rfl⟩:=ry;exact eq_int<|c8 I q BJ
  |str j=>obtain⟨t',rfl⟩:=ry;exact PySem.EqMixed.eq_int_str<|c8 I q
  |_=>exact absurd (hs) aA
 |str i=>
  obtain⟨t,rfl⟩:=rx;cases y with
  |VH=>cases ry;exact PySem.EqNone.eq_str_none<|c8 I q
  |bl j=>cases ry;exact PySem.EqMixed.eq_str_bool<|c8 I q
  |int j=>obtain⟨t',rfl⟩:=ry;exact PySem.EqMixed.eq_str_int<|c8 I q
  |str j=>obtain⟨t',rfl⟩:=ry;exact eq_str<|c8 I q Gw
  |_=>exact absurd (hs) aA
 |YV i=>
  obtain⟨t,rfl⟩:=rx;cases y with
  |YV j=>obtain⟨t',rfl⟩:=ry;exact eq_bytes<|c8 I q Gx
  |_=>exact absurd (hs) aA
 |_=>cases y<;>exact absurd (hs) aA
def Rb:mj X (compareOp .NotEq) UX:=by
 intro on s Y H x y v u Q I rx ry h;let⟨hs,q⟩:=h;cases x with
 |VH=>
  cases rx;cases y with
  |VH=>cases ry;exact PySem.EqNone.ne_none_none<|c8 I q
  |bl j=>cases ry;exact PySem.EqNone.ne_none_bool<|c8 I q
  |int j=>obtain⟨t',rfl⟩:=ry;exact PySem.EqNone.ne_none_int<|c8 I q
  |str j=>obtain⟨t',rfl⟩:=ry;exact PySem.EqNone.ne_none_str<|c8 I q
  |_=>exact absurd (hs) aA
 |bl i=>
  cases rx;cases y with
  |VH=>cases ry;exact PySem.EqNone.ne_bool_none<|c8 I q
  |bl j=>cases ry;exact ne_bool<|c8 I q<|aL not Ks
  |str j=>obtain⟨t',rfl⟩:=ry;exact PySem.EqMixed.ne_bool_str<|c8 I q
  |_=>exact absurd (hs) aA
 |int i=>
  obtain⟨t,rfl⟩:=rx;cases y with
  |VH=>cases ry;exact PySem.EqNone.ne_int_none<|c8 I q
  |int j=>obtain⟨t',rfl⟩:=ry;exact ne_int<|c8 I q<|aL not BJ
  |str j=>obtain⟨t',rfl⟩:=ry;exact PySem.EqMixed.ne_int_str<|c8 I q
  |_=>exact absurd (hs) aA
 |str i=>
  obtain⟨t,rfl⟩:=rx;cases y with
  |VH=>cases ry;exact PySem.EqNone.ne_str_none<|c8 I q
  |bl j=>cases ry;exact PySem.EqMixed.ne_str_bool<|c8 I q
  |int j=>obtain⟨t',rfl⟩:=ry;exact PySem.EqMixed.ne_str_int<|c8 I q
  |str j=>obtain⟨t',rfl⟩:=ry;exact ne_str<|c8 I q<|aL not Gw
  |_=>exact absurd (hs) aA
 |YV i=>
  obtain⟨t,rfl⟩:=rx;cases y with
  |YV j=>obtain⟨t',rfl⟩:=ry;exact ne_bytes<|c8 I q<|aL not Gx
  |_=>exact absurd (hs) aA
 |_=>cases y<;>exact absurd (hs) aA
def Jx:mj X (compareOp .Lt) (KZ λi j=>.bl<|decide<|i<j):=OM λ_ _ _ _ _ _ _ q=>lt_int q
def Np:mj X (compareOp .Gt) (KZ λi j=>.bl<|decide<|j<i):=OM λ_ _ _ _ _ _ _ q=>gt_int q
def Re:mj X (compareOp .GtE) (KZ λi j=>.bl<|decide<|j<=i):=OM λ_ _ _ _ _ _ _ q=>ge_int q
def AH:mj X (compareOp .In) (λx y H Q=>∃i j,x=.str i/\y=.str j/\Q (.bl (!(Builtin.Str.occurrences j i 0 j.length 1).isEmpty)) H):=by intro on s Y H x y v u Q I rx ry h;obtain⟨i,j,rfl,rfl,q⟩:=h;obtain⟨t,rfl⟩:=rx;obtain⟨t',rfl⟩:=ry;exact in_str<|c8 I q rfl
def OH:mj X (compareOp .Is) (λx y H Q=>y=.VH/\Q (.bl<|decide<|x=.VH) H):=by
 intro on s Y H x y v u Q I rx ry h;obtain⟨rfl,q⟩:=h;cases ry;refine is_none_gen<|c8 I q ?_;cases x<;>first
  |(cases rx;rfl)|(obtain⟨t,rfl⟩:=rx;rfl)
def LZ:mj X (compareOp .IsNot) (λx y H Q=>y=.VH/\Q (.bl (!decide (x=.VH))) H):=by
 intro on s Y H x y v u Q I rx ry h;obtain⟨rfl,q⟩:=h;cases ry;refine isnot_none_gen<|c8 I q ?_;cases x<;>first
  |(cases rx;rfl)|(obtain⟨t,rfl⟩:=rx;rfl)
def TJ(b:Expr){op:CmpOp}(h:op≠.In:=by decide)(h2:op≠.NotIn:=by decide):behindInMarks op b=false:=by
 have e1:(op==CmpOp.In)=false:=by cases op<;>first |rfl |exact absurd rfl h
 have e2:(op==CmpOp.NotIn)=false:=by cases op<;>first |rfl |exact absurd rfl h2
 cases b<;>simp[behindInMarks,e1,e2]
def uc{op:CmpOp}{r:R2}(ho:mj X (compareOp op) r)(ha:PE X a ta)(hb:PE X b tb)(hm:behindInMarks op b=false):PE X (.Compare a [op] [b] pos) (So r ta tb):=by exactλon s Y H Q I h=>wpAny_Compare1 (PF ha hb I h λv u s2 x y H2 I2 rx ry q=>ho on s2 Y H2 x y v u Q I2 rx ry q) hm
def QD(t:TE):TT:=λY H Q=>t Y H λx H'=>∃k,x=.bl k/\Q k H'
def gr{op:CmpOp}{r:R2}(ho:mj X (compareOp op) r)(ha:PE X a ta)(hb:PE X b tb)(hm:behindInMarks op b=false):PT X (.Compare a [op] [b] pos) (QD<|So r ta tb):=by refineλon s Y H Q I h=>wpAny_isTrue_Compare1 (fq (ha on s Y H _ I h) λv s1 ⟨x,H1,I1,r1,q1⟩=>fq (hb on s1 Y H1 _ I1 q1) λu s2 ⟨y,H2,I2,r2,q2⟩=>fq (ho on s2 Y H2 x y v u _ I2 r1 r2 q2) λc s3 ⟨z,H3,I3,r3,k,e,q3⟩=>?_) hm;subst e;cases r3;exact gh ⟨H3,I3,q3⟩
def RY(K:eZ)(x:V)(H:Hp)(k:Bool):Prop:=match x with
 |.VH=>k=false|.bl b=>k=b
 |.int i=>k=(i !=0)|.str y=>y.length<=sizeLine/\k=((y.length:Int) !=0)
 |.YV y=>y.size<=sizeLine/\k=((y.size:Int) !=0)|.ref p=>(∃xs,Wd K H p xs/\k= !xs.isEmpty)\/(∃xs,WM K H p xs/\k= !xs.isEmpty)\/∃kvs,H p=some (.dK kvs)/\k= !kvs.isEmpty
 |_=>False
def Es{κ:Type}{kvs:List (κ×V)}{vs:List (κ×Value)}(r:KV kvs vs):(!vs.isEmpty)= !kvs.isEmpty:=by cases r<;>rfl
def xF(r:Vals xs its):(!its.toArray.isEmpty)= !xs.isEmpty:=by cases r<;>simp
def sK:(sizeLine:Nat)<2 ^ 63:=by rw[tD];decide
def N7:T6 X (λx H Q=>∃k,RY X.K x H k/\Q k H):=by
 intro on s Y H x v Q I rx h;let⟨k,e,q⟩:=h;have hs:sizeLine=16777216:=tD;cases x with
 |VH=>cases rx;have e':=e;subst e';exact truthy_none ⟨H,I,q⟩
 |bl b=>cases rx;have e':=e;subst e';exact gh ⟨H,I,q⟩
 |int i=>obtain⟨t,rfl⟩:=rx;have e':=e;subst e';exact PySem.P.truthy_int ⟨H,I,q⟩
 |str y=>obtain⟨t,rfl⟩:=rx;obtain⟨hy,e'⟩:y.length<=sizeLine/\k=((y.length:Int) !=0):=e;subst e';exact PySem.P.truthy_str (by lia) ⟨H,I.tok _,q⟩
 |YV y=>obtain⟨t,rfl⟩:=rx;obtain⟨hy,e'⟩:y.size<=sizeLine/\k=((y.size:Int) !=0):=e;subst e';exact truthy_bytes (by lia) ⟨H,I.tok _,q⟩
 |ref p=>cases rx;have e':=e;rcases e' with⟨xs,hx,e'⟩ |⟨xs,hx,e'⟩ |⟨kvs,hx,e'⟩;subst e';let⟨its,r,pl,hz⟩:=I.list hx;have hlen:=r.length;exact wpAny_truthy_list pl.isList (by simp;lia) ⟨H,I.tok _,by rwa[xF r]⟩;subst e';let⟨its,r,pl,hz⟩:=I.tuple hx;have hlen:=r.length;exact truthy_tuple pl (by simp only[aG];lia) ⟨H,I.tok _,by rw[xF r];exact q⟩;subst e';obtain⟨hz,hS,vs,r,m⟩:kvs.length<=sizeLine/\(p==sysModules)=false/\∃vs,KV kvs vs/\s.heap.DictOf (la X.prog X.w) p vs:=I.VG p _ hx;have hlen:=Paired.length r;exact wpAny_truthy_dict hS m (by lia) ⟨H,I.tok _,by rwa[Es r]⟩
 |_=>exact(e).elim
def Jf(ha:PE X a ta)(he:∀whole,isTrue a X.env whole=(do let v <-whole;standAt a.pos;holding [v] (truthy v))):PT X a (λY H Q=>ta Y H λx H'=>∃k,RY X.K x H' k/\Q k H'):=by exactλon s Y H Q I h=>isTrue_plain (fq (ha on s Y H _ I h) λv s1 ⟨x,H1,I1,r1,q1⟩=>N7 on s1 Y H1 x v Q I1 r1 q1)<|he _
def sF:mj X (binaryOp .Add) (λx y H Q=>∃i j,x=.str i/\y=.str j/\i.length+j.length<=sizeLine/\Q (.str<|i++j) H):=by intro on s Y H x y v u Q I rx ry h;obtain⟨i,j,rfl,rfl,hz,q⟩:=h;obtain⟨t,rfl⟩:=rx;obtain⟨t',rfl⟩:=ry;exact add_str (λt' tk=>⟨.str<|i++j,H,I.tok _,⟨_,rfl⟩,q⟩) hz
def C3:mj X (inplaceOp .Add) (λx y H Q=>∃i j,x=.str i/\y=.str j/\i.length+j.length<=sizeLine/\Q (.str<|i++j) H):=by intro on s Y H x y v u Q I rx ry h;obtain⟨i,j,rfl,rfl,hz,q⟩:=h;obtain⟨t,rfl⟩:=rx;obtain⟨t',rfl⟩:=ry;exact iadd_str (λt' tk=>⟨.str<|i++j,H,I.tok _,⟨_,rfl⟩,q⟩) hz
def lB(r:Vals [x] us):∃u,us=[u]/\RelV x u:=by cases r with|cons r1 r2=>cases r2;exact⟨_,rfl,r1⟩
def wQ(r:Vals [x,y] us):∃u w',us=[u,w']/\RelV x u/\RelV y w':=by cases r with|cons r1 r2=>cases r2 with|cons r3 r4=>cases r4;exact⟨_,_,rfl,r1,r3⟩
def Kx:iq X (.builtin "abs") (λxs H Q=>∃i,xs=[.int i]/\Q (.int (if i<0 then-i else i)) H):=by intro on s Y H xs us Q I r h;obtain⟨i,rfl,q⟩:=h;obtain⟨u,rfl,t,rfl⟩:=lB r;exact call_abs_int λu tk=>⟨.int (if i<0 then-i else i),H,I.tok _,⟨_,rfl⟩,q⟩
def HB(hc:X.calm=true):iq X (.builtin "max") (λxs H Q=>∃i j,xs=[.int i,.int j]/\Q (.int (if j>i then j else i)) H):=by intro on s Y H xs us Q I r h;obtain⟨i,j,rfl,q⟩:=h;obtain⟨u,w',rfl,⟨t,rfl⟩,⟨t',rfl⟩⟩:=wQ r;refine max_two_ints (I.ok.hd hc) λh' tk k=>⟨_,H,I.kept k,?_,q⟩;by_cases hj:j>i;rw[ax hj,ax hj];exact⟨_,rfl⟩;rw[av hj,av hj];exact⟨_,rfl⟩
def HA(hc:X.calm=true):iq X (.builtin "min") (λxs H Q=>∃i j,xs=[.int i,.int j]/\Q (.int (if j<i then j else i)) H):=by intro on s Y H xs us Q I r h;obtain⟨i,j,rfl,q⟩:=h;obtain⟨u,w',rfl,⟨t,rfl⟩,⟨t',rfl⟩⟩:=wQ r;refine min_two_ints (I.ok.hd hc) λh' tk k=>⟨_,H,I.kept k,?_,q⟩;by_cases hj:j<i;rw[ax hj,ax hj];exact⟨_,rfl⟩;rw[av hj,av hj];exact⟨_,rfl⟩
def HE:iq X (.type "int") (λxs H Q=>(∃i,xs=[.int i]/\Q (.int i) H)\/∃k,xs=[.bl k]/\Q (.int (if k then 1 else 0)) H):=by intro on s Y H xs us Q I r h;rcases h with⟨i,rfl,q⟩ |⟨k,rfl,q⟩;obtain⟨u,rfl,t,rfl⟩:=lB r;exact call_int_int ⟨.int i,H,I,⟨_,rfl⟩,q⟩;obtain⟨u,rfl,r1⟩:=lB r;cases r1;exact call_int_bool ⟨.int (if k then 1 else 0),H,I.tok _,⟨_,rfl⟩,q⟩
def BO:iq X (.type "str") (λxs H Q=>∃i,xs=[.int i]/\i.natAbs.log2<1920/\Q (.str<|toString i) H):=by intro on s Y H xs us Q I r h;obtain⟨i,rfl,hz,q⟩:=h;obtain⟨u,rfl,t,rfl⟩:=lB r;exact PySem.P.str_of_int hz ⟨.str _,H,I.tok _,⟨_,rfl⟩,q⟩
structure Y8(h:Heap)(x dx C:Addr)(mA:tK):Prop where
 obj:h.get? x=some (instObj C dx)
 ns:h.Ns1 dx mA
 ne:dx≠x
def Hl{h:Heap}(n:h.Ns1 dx mA):∃od,h.get? dx=some od/\∀name,lookIn name od=some (mA name):=by
 obtain⟨o,es,ep,ho,hd,hk,_,hm⟩:=n;refine⟨o,ho,λname=>?_⟩;have e:=hm name;unfold nsFind findBy at e;rw[<-Array.find?_toList]at e;unfold lookIn;rw[hd];dsimp only;split;rename_i y q;rw[q]at e;exact aL some e;rename_i q;rw[q]at e;have a:es.toList.any (·.refKey)=false:=by rw[List.any_eq_false];intro y hy;obtain⟨z,t,zGW⟩:=hk y<|Array.mem_toList_iff.mp hy;simp[DictEntry.refKey,zGW]
 have a':¬es.toList.any (·.refKey)=true:=by rw[a];exact aA
 rw[av a'];exact aL some e
def Y8.look(I:Y8 h x dx C mA):∃od,PySem.W.InstAt h x (instObj C dx) C (some od)/\∀name,lookIn name od=some (mA name):=
 let⟨od,ho,hl⟩:=Hl I.ns
 ⟨od,⟨I.obj,rfl,rfl,ho⟩,hl⟩
def Mh{Q:qW}{s:Shared}{name:Str}(X:K.In s.heap)(I:Y8 s.heap x dx C mA)(hg:plainGet K C name=true)(hh:hasDictIn K C=true)(ha:findIn K (.ref C) name=some none)(hv:mA name=some v)(hv':handedIn v=true)(h:Q v {s with toks:=s.toks+1}):wpAny (model prog w) A (getAttr (.ref x) name expr) Q E s:=by let⟨od,J,hl⟩:=I.look;exact get_value X J (plainGet_of hg).1 (findObj_own hh ha rfl<|by rw[hl,hv]) hv' h
def Lp{s:Shared}{name:Str}{Q:Unit->Shared->Prop}(X:K.In s.heap)(I:Y8 s.heap x dx C mA)(hs:findIn K (.ref C) "__setattr__"=some (some<|.builtin "object.__setattr__"))(hp:plainOver K C=true)(ht:takerIn K C name=some none)(hh:hasDictIn K C=true)(hw:PySem.Within mA ns)(XS:ns.length<=sizeLine)(h:∀h',Y8 h' x dx C (λy=>if y=name then some v else mA y)->Heap.SameBut dx s.heap h'->Q () {s with heap:=h',toks:=s.toks+2}):wpAny (model prog w) A (setAttr (.ref x) name v) Q E s:=by obtain⟨od,J,hl⟩:=I.look;refine set_plain X J hs (osa_open X J hp ht λb=>?_);obtain⟨cd,hc,Zy⟩:=any_some hh;have hx:=I.obj;refine ak<|aD<|ak<|ak<|wpAny_loadPart hx<|ak<|Looks.here (looks_clsIn X hc) ?_;rw[Zy];refine aD<|ak<|aD<|ak ?_;refine wpAny_nsSet1 I.ns λh' hn2 Ze=>?_;obtain⟨oD,esD,epD,hoD,hdD,hcD⟩:=hn2.count<|PySem.Within.cons name v hw;refine ak<|wpAny_lookBehind hoD (by rw[hdD];exact pastItsLine_dict<|aJ hcD<|by rw[bY];lia) ?_;exact aD<|h _ ⟨(Ze.2 _<|eF I.ne).trans I.obj,hn2,I.ne⟩ Ze
def JG{A:Around}{s:Shared}{C:Addr}{R:Result->Shared->Prop}{kw:List (Str×Value)}(X:K.In s.heap)(hm:makesIn K C=true)(hi:findIn K (.ref C) "__init__"=some (some<|.ref f))(hf:typeIn K (.ref f)=some (.type "function"))(h:codeAny (model prog w) (A.under<|.builtin "type.__call__" ⟨.ref C::vs,kw⟩) (.call (.ref f) ⟨.ref (s.heap.objs.size+1)::vs,kw⟩) (InitBack (s.heap.objs.size+1) R) {s with heap:=(s.heap.push emptyDict).push (instObj C s.heap.objs.size)}):codeAny (model prog w) A (.call (.ref C) ⟨vs,kw⟩) R s:=by let⟨hh,g,d,t,os⟩:=s;exact make_core (makes_of X hm) (pS X hi) (λself=>bind_fn X self hf) (.inl rfl) h
def pM(f:Str)(v:V):List (Str×V)->List (Str×V)|[]=>[(f,v)]|(g,x)::r=>if g=f then(g,v)::r else(g,x)::pM f v r
theorem vy(f g:Str)(v:V):∀fs:List (Str×V),(pM f v fs).lookup g=if g=f then some v else fs.lookup g|[]=>by show List.lookup g [(f,v)]=_;by_cases h:g=f;have hb:=jU.mpr h;simp only[List.lookup,hb,ax h];have hb:=bF.mpr h;simp only[List.lookup,hb,av h]|(k,x)::r=>by rw[show pM f v ((k,x)::r)=(if k=f then(k,v)::r else(k,x)::pM f v r)from rfl];by_cases hk:k=f;rw[ax hk];by_cases h:g=k;have hb:(g==k)=true:=jU.mpr h;simp only[List.lookup,hb,ax<|h.trans hk];have hb:(g==k)=false:=bF.mpr h;simp only[List.lookup,hb,av λe:g=f=>h<|e.trans hk.symm];rw[av hk];by_cases h:g=k;have hb:(g==k)=true:=jU.mpr h;simp only[List.lookup,hb,av λe:g=f=>hk<|h.symm.trans e];have hb:(g==k)=false:=bF.mpr h;simp only[List.lookup,hb];exact vy f g v r
theorem u7(f:Str)(v:V):∀fs:List (Str×V),f∈(pM f v fs).map (·.1)/\∀g,g∈fs.map (·.1)->g∈(pM f v fs).map (·.1)|[]=>⟨by simp[pM],λg h=>by simp at h⟩|(k,x)::r=>by let⟨i1,i2⟩:=u7 f v r;rw[show pM f v ((k,x)::r)=(if k=f then(k,v)::r else(k,x)::pM f v r)from rfl];by_cases hk:k=f;rw[ax hk];subst hk;exact⟨by simp,λg h=>by simpa using h⟩;rw[av hk];refine⟨?_,λg h=>?_⟩;rw[bp];exact aV _ i1;rw[bp]at h ⊢;rcases bc.mp h with e |e;exact bc.mpr<|.inl e;exact aV _<|i2 g e
def vz(f:Str)(v:V):∀fs:List (Str×V),(pM f v fs).length<=fs.length+1|[]=>by simp[pM]|(k,x)::r=>by have ih:=vz f v r;rw[show pM f v ((k,x)::r)=(if k=f then(k,v)::r else(k,x)::pM f v r)from rfl];by_cases hk:k=f;rw[ax hk,bY,bY];lia;rw[av hk,bY,bY];lia
def Y7.some_of{o:Option Value}(r:Y7 (some v) o):∃u,o=some u/\RelV v u:=by cases o with|none=>exact(r).elim|some u=>exact⟨u,rfl,r⟩
def Hr(r:RelV v u):handedIn u=true:=by
 cases v with
 |VH=>cases(r);rfl
 |bl b=>cases(r);rfl
 |int i=>let⟨t,e⟩:=(r);cases e;rfl
 |str x=>let⟨t,e⟩:=(r);cases e;rfl
 |YV b=>let⟨t,e⟩:=(r);cases e;rfl
 |Zg b=>let⟨t,e⟩:=(r);cases e;rfl
 |ref a=>cases(r);rfl
 |ty n=>cases(r);rfl
section
variable {fs fs':List (Str×V)}
def Bt{a:Addr}(VG:Xu P w H h)(e:H a=some (.ins C dx fs)):∃mA,Y8 h a dx C mA/\(∀f,Y7 (fs.lookup f)<|mA f)/\PySem.Within mA (fs.map (·.1))/\fs.length<=1000/\H dx=some (.own a):=by obtain⟨d,z,ne,ob,mA,n,r,q⟩:=(VG a _ e);exact⟨mA,⟨ob,n,ne⟩,r,q,z,d⟩
end
structure Zl(K:eZ)(C:Addr):Prop where
 pg:plainGet K C Str.empty=true
 hd:hasDictIn K C=true
 po:plainOver K C=true
 sa:findIn K (.ref C) "__setattr__"=some (some<|.builtin "object.__setattr__")
def Zl.get(c:Zl K C)(f:Str):plainGet K C f=true:=c.pg
def VM(K:eZ)(C:Addr)(f:Str):Prop:=findIn K (.ref C) f=some none
def VM.zCT(n:VM K C f):takerIn K C f=some none:=by unfold takerIn;rw[show findIn K (.ref C) f=some none from n];rfl
section
variable {fs:List (Str×V)}
def xG{Q:qW}{a:Addr}(I:Inv X on Y H s)(e:H a=some (.ins C dx fs))(c:Zl X.K C)(n:VM X.K C f)(l:fs.lookup f=some v)(h:∀u s',Inv X on Y H s'->RelV v u->Q u s'):wpAny (model X.prog X.w) A (getAttr (.ref a) f b) Q E s:=by obtain⟨mA,O,r,_,_,_⟩:=Bt I.VG e;obtain⟨u,hu,ru⟩:=Y7.some_of (v:=v) (o:=mA f) (by rw[<-l];exact r f);exact Mh I.WO O (c.get f) c.hd n hu (Hr ru)<|h u _ (I.tok _) ru
def wX{a:Addr}{Q:Unit->Shared->Prop}(I:Inv X on Y H s)(e:H a=some (.ins C dx fs))(c:Zl X.K C)(n:VM X.K C f)(hl:fs.length<1000)(ry:RelV y u)(h:∀s',Inv X on Y (dH H a<|.ins C dx<|pM f y fs) s'->Q () s'):wpAny (model X.prog X.w) A (setAttr (.ref a) f u) Q E s:=by
 obtain⟨mA,O,r,wi,_,ho⟩:=Bt I.VG e;have hz:(fs.map (·.1)).length<=sizeLine:=by rw[ai,tD];lia
 refine Lp I.WO O c.sa c.po n.zCT c.hd wi hz λh' O' sb=>h _ ?_;have hd:∃o,h'.get? dx=some o:=let⟨o,_,_,e',_⟩:=O'.ns;⟨o,e'⟩;refine I.write (x:=a) (e:=dx) (by rw[e];exact True.intro) (.inr ho) (λb q hb z=>(sb.2 b hb).trans z) hd<|⟨by rw[aK O.ne];exact ho,?_,O.ne,O'.obj,_,O'.ns,λg=>?_,λg hg=>?_⟩;have:=vz f y fs;lia;rw[vy];by_cases q:g=f;rwa[ax q,ax q];rw[av q,av q];exact r g;by_cases q:g=f;rw[q];exact(u7 f y fs).1;refine(u7 f y fs).2 g (wi g λz=>hg ?_);show(if g=f then some u else mA g)=none;rwa[av q]
def Inv.made(I:Inv X on Y H s):Inv X on Y (dH (dH H s.heap.objs.size<|.own<|s.heap.objs.size+1) (s.heap.objs.size+1)<|.ins C s.heap.objs.size []) { s with heap:=(s.heap.push emptyDict).push (instObj C s.heap.objs.size) }:=by
 have e1:(s.heap.push emptyDict).get? s.heap.objs.size=some emptyDict:=Heap.get?_push_size s.heap rfl;have e2:((s.heap.push emptyDict).push<|instObj C s.heap.objs.size).get? (s.heap.objs.size+1)=some (instObj C s.heap.objs.size):=by have:=Heap.get?_push_size (s.heap.push emptyDict) (o:=instObj C s.heap.objs.size) rfl;rwa [fY] at this
 have e3:(s.heap.push emptyDict).Ns s.heap.objs.size (fun _=>none):=⟨emptyDict,#[],_,e1,rfl,(fun e he=>absurd he<|by simp),fun _=>rfl⟩;refine(I.laid (a:=s.heap.objs.size) (o:=.own<|s.heap.objs.size+1) (h':=s.heap.push emptyDict) (t':=s.toks) (fun b u q=>Heap.get?_push_of_some _ q) (ao _) ⟨_,e1⟩).laid (fun b u q=>Heap.get?_push_of_some _ q) (iZ<|fY _ _) ?_;have ne:s.heap.objs.size≠s.heap.objs.size+1:=bH<|fC _;refine⟨by rw[aK ne,aI],bO _,ne,e2,fun _=>none,(Heap.Ns1.of_empty e3).at fun o q=>Heap.get?_push_of_some _ q,fun _=>True.intro,fun y hy=>absurd rfl hy⟩
def MU{env:Env}(hb:attributeBase e f env (eval e env)=eval e env)(h:wpAny (model prog w) A (eval e env) (λo s₁=>wpAny (model prog w) A (getAttr o f true) Q E s₁) E s):wpAny (model prog w) A (eval (.Attribute e f pos) env) Q E s:=Attribute_any_ h<|by rw[arm_eval_Attribute,hb]
end
def Tg(K:eZ)(ta:TE)(f:Str):TE:=λY H Q=>ta Y H λx H1=>∃a C dx fs v,x=.ref a/\H1 a=some (.ins C dx fs)/\Zl K C/\VM K C f/\fs.lookup f=some v/\Q v H1
def To(K:eZ)(ta tv:TE)(f:Str):TS:=λD Y H=>tv Y H λy H1=>ta Y H1 λx H2=>∃a C dx fs,x=.ref a/\H2 a=some (.ins C dx fs)/\Zl K C/\VM K C f/\fs.length<1000/\D.nx Y (dH H2 a<|.ins C dx<|pM f y fs)
def Uj(X:Cx)(op:Operator)(rd:V->V->Hp->VK->Prop):Prop:=∀(on:gC)(s:Shared)(Y:St)(H:Hp)(x y:V)(u v:Value)(Q:VK),Inv X on Y H s->RelV x u->RelV y v->rd x y H Q->fg X (inplaceOp op u v) (EP X on Y Q) X.xe s
def Ls(K:eZ)(ta tv:TE)(rd:V->V->Hp->VK->Prop)(f:Str):TS:=λD Y H=>ta Y H λx H1=>∃a C dx fs v,x=.ref a/\H1 a=some (.ins C dx fs)/\Zl K C/\VM K C f/\fs.lookup f=some v/\tv Y H1 λy H2=>rd v y H2 λz H3=>∃dx' fs',H3 a=some (.ins C dx' fs')/\fs'.length<1000/\D.nx Y (dH H3 a<|.ins C dx'<|pM f z fs')
def uS(he:PE X e ta)(hb:attributeBase e f X.env (eval e X.env)=eval e X.env):PE X (.Attribute e f pos) (Tg X.K ta f):=by refineλon s Y H Q I h=>MU hb (fq (he on s Y H _ I h) λu s1 ⟨x,H1,I1,rx,a,C,dx,fs,v,ex,ea,c,n,l,q⟩=>?_);subst ex;obtain rfl:u=Value.ref a:=rx;exact xG I1 ea c n l λu' s2 I2 ru=>⟨v,H1,I2,ru,q⟩
def D8(ha:PE X o ta)(hv:PE X value tv)(hs:swapsWith value (some<|.Attribute o f pos') pos.line X.env=pure false):PS X (.Assign [.Attribute o f pos'] value pos) (To X.K ta tv f):=by refineλon s Y H D I h=>plainObj_wpAny_Assign_Attribute (fq (hv on s Y H _ I h) λu s1 ⟨y,H1,I1,ry,q⟩=>fq (ha on s1 Y H1 _ I1 q) λov s2 ⟨x,H2,I2,rx,a,C,dx,fs,ex,ea,c,n,l,q2⟩=>?_) hs;subst ex;obtain rfl:ov=Value.ref a:=rx;exact wX I2 ea c n l ry λs3 I3=>⟨Y,_,I3,q2⟩
def Ha{rd:V->V->Hp->VK->Prop}(ha:PE X o ta)(hv:PE X value tv)(hop:Uj X op rd):PS X (.AugAssign (.Attribute o f zCS) op value pos) (Ls X.K ta tv rd f):=by refineλon s Y H D I h=>wpAny_AugAssign_AttributeAny (fq (ha on s Y H _ I h) λov s1 ⟨x,H1,I1,rx,a,C,dx,fs,v,ex,ea,c,n,l,q⟩=>?_);subst ex;obtain rfl:ov=Value.ref a:=rx;refine xG I1 ea c n l λu s2 I2 ru=>fq (hv on s2 Y H1 _ I2 q) λw3 s3 ⟨y,H2,I3,ry,q3⟩=>fq (hop on s3 Y H2 v y u w3 _ I3 ru ry q3) λw4 s4 ⟨z,H3,I4,rz,dx',fs',ea',l',q4⟩=>?_;exact wX I4 ea' c n l' rz λs5 I5=>⟨Y,_,I5,q4⟩
def Tz:V->V->Hp->VK->Prop:=λx y H Q=>∃i j,x=.int i/\y=.int j/\Q (.int<|i+j) H
inductive vm(K:eZ)(H:Hp):V->Value->Prop where
 |VH:vm K H .VH (.type "NoneType")
 |bl (x:Bool):vm K H (.bl x) (.type "bool")
 |int (i:Int):vm K H (.int i) (.type "int")
 |str (x:Str):vm K H (.str x) (.type "str")
 |Zg (x:UInt64):vm K H (.Zg x) (.type "float")
 |lst {a:Addr} {xs:fh} (e:H a=some (.lst xs)):vm K H (.ref a) (.type "list")
 |W5 {a:Addr} {o:Obj} {xs:fh} (e:H a=some (.W5 o<|.lst xs)):vm K H (.ref a) (.type "list")
 |tup {a:Addr} {xs:fh} (e:H a=some (.tup xs)):vm K H (.ref a) (.type "tuple")
 |dK {a:Addr} {kvs:List (nt×V)} (e:H a=some (.dK kvs)):vm K H (.ref a) (.type "dict")
 |dT {a:Addr} {kvs:List (List nt×V)} (e:H a=some (.dT kvs)):vm K H (.ref a) (.type "dict")
 |ins {a C dx:Addr} {fs:List (Str×V)} (e:H a=some (.ins C dx fs)) (cl:Zl K C) (ha:findIn K (.ref C) "__class__"=some (some<|.builtin "object.__class__"))
   (hn:specialIn K (.builtin "object.__class__") "__get__"=some (some<|.builtin "getset_descriptor.__get__")) (htk:takesIn K (.builtin "object.__class__")=some true)
   (hm:mroIn K C (.type "object")=some true):vm K H (.ref a) (.ref C)
def Hn{Q:qW}{c:Value}(I:Inv X on Y H s)(rx:RelV x u)(ty:vm X.K H x t)(e:kitOne X.K t c=some b)(h:∀tk,Q (.bool b) {s with toks:=tk}):wpAny (model X.prog X.w) A (call (.builtin "isinstance") [u,c]) Q E s:=by
 cases ty with
 |VH=>cases(rx);exact cQ kitx_none I.WO True.intro e (λz=>nomatch z) h
 |bl y=>cases(rx);exact cQ kitx_bool I.WO True.intro e (λz=>nomatch z) h
 |int i=>let⟨t,q⟩:=(rx);cases q;exact cQ kitx_int I.WO True.intro e (λz=>nomatch z) h
 |str y=>let⟨t,q⟩:=(rx);cases q;exact cQ kitx_str I.WO True.intro e (λz=>nomatch z) h
 |Zg y=>let⟨t,q⟩:=(rx);cases q;exact cQ kitx_float I.WO True.intro e (λz=>nomatch z) h
 |@lst a xs ea=>cases(rx);obtain⟨_,_,n,_,h1⟩:=(I.VG a _ ea);exact cQ kitx_list I.WO ⟨_,h1,rfl⟩ e (λz=>nomatch z) h
 |@W5 a ob xs ea=>cases(rx);obtain⟨_,_,_,n,_,h1⟩:=(I.VG a _ ea);exact cQ kitx_list I.WO ⟨_,h1,rfl⟩ e (λz=>nomatch z) h
 |@tup a xs ea=>cases(rx);obtain⟨_,_,_,p⟩:=(I.VG a _ ea);obtain⟨o,h1,h2,_⟩:=p;exact cQ kitx_tuple I.WO ⟨o,h1,h2⟩ e (λz=>nomatch z) h
 |@dK a kvs ea=>cases(rx);obtain⟨_,_,vs,_,p⟩:=(I.VG a _ ea);obtain⟨o,es,ep,h1,h2,_⟩:=p;exact cQ HQ I.WO ⟨o,h1,h2.1⟩ e (λz=>nomatch z) h
 |@dT a kvs ea=>cases(rx);obtain⟨_,_,xs,_,o,es,ep,h1,h2,_⟩:=(I.VG a _ ea);exact cQ HQ I.WO ⟨o,h1,h2.1⟩ e (λz=>nomatch z) h
 |@ins a C dx fs ea cl ha hn htk hm=>cases(rx);obtain⟨mA,O,_⟩:=Bt I.VG ea;obtain⟨od,J,_⟩:=O.look;exact cQ (kitx_own (cl.get _) cl.hd ha hn htk hm) I.WO J e (λz=>nomatch z) h
structure VS(k:Nat)(A:Around):Prop where
 hd:A.handled=none
 dp:A.depth+k+105<recursionLimit
 un:A.units+16*k+200<cLine
def VS.mono{j:Nat}(r:VS k A)(h:j<=k):VS j A:=⟨r.hd,by have:=r.dp;lia,by have:=r.un;lia⟩
def VS.deeper{k:Nat}(r:VS (k+1) A)(env:Env):VS k (A.deeper env):=⟨r.hd,by have:=r.dp;show A.depth+1+k+105<_;lia,by have:=r.un;show A.units+3+16*k+200<_;lia⟩
def Em{A:Around}{kw:List (Str×Value)}:(A.under<|.builtin "type.__call__" ⟨.ref C::us,kw⟩).depth=A.depth+1:=by first |rfl |simp[Around.under,Code.weight,Code.isCreation,Code.isGuard,Code.isCaller,Code.frames,Code.isFrame,guardIds]
def El{A:Around}{kw:List (Str×Value)}:(A.under<|.builtin "type.__call__" ⟨.ref C::us,kw⟩).units=A.units+1:=by first |rfl |simp[Around.under,Code.cUnits,Code.frames,Code.isFrame]
def VS.make{k:Nat}(r:VS (k+1) A)(C:Addr)(us:jh)(kw:List (Str×Value)):VS k (A.under<|.builtin "type.__call__" ⟨.ref C::us,kw⟩):=⟨r.hd,by have:=r.dp;rw[Em];lia,by have:=r.un;rw[El];lia⟩
def VS.WY(r:VS k A):A.depth+100<recursionLimit:=by have:=r.dp;lia
def VS.depth(r:VS k A):A.depth<recursionLimit:=by have:=r.dp;lia
def VS.units(r:VS k A):A.units+64<cLine:=by have:=r.un;lia
def Ta:TA:=λ_ H Q=>Q [] H
def QK(ta:TE)(tr:TA):TA:=λY H Q=>ta Y H λx H1=>tr Y H1 λxs H2=>Q (x::xs) H2
def dk:PA X [] Ta:=λ_ _ _ _ H Q I h=>Calls.spliced_nil ⟨[],H,I,.nil,h⟩
def bC(ha:PE X e te)(hr:PA X es t)(hs:Fc e es X.env:=by rfl):PA X (e::es) (QK te t):=by intro pos on s Y H Q I h;rw[hs];refine om (fq (ha on s Y H _ I h) λu s1 ⟨x,H1,I1,r1,q1⟩=>?_);exact fq (hr pos on s1 Y H1 _ I1 q1) λus s2 ⟨xs,H2,I2,r2,q2⟩=>⟨x::xs,H2,I2,.cons r1 r2,q2⟩
def S4(t:TA):TE:=λY H Q=>t Y H λxs H1=>xs.length<=sizeLine/\∀p,H1 p=none->Q (.ref p) (dH H1 p<|.tup xs)
def Tc(t:TA):TE:=λY H Q=>t Y H λxs H1=>xs.length<=sizeLine/\∀p,H1 p=none->Q (.ref p) (dH H1 p<|.lst xs)
def Bj{x1}(h:PA X es t):PE X (.Tuple es x1 pos) (S4 t):=by refineλon s Y H Q I hq=>wpAny_Tuple_spliced (fq (h pos on s Y H _ I hq) λus s1 ⟨xs,H1,I1,r,z,q⟩=>⟨by rw[<-r.length];exact z,?_⟩);have hf:=I1.VG.fresh<|ao _;refine⟨.ref s1.heap.objs.size,dH H1 s1.heap.objs.size<|.tup xs,I1.laid (λb u e=>Heap.get?_push_of_some _ e) (ao _) ?_,rfl,q _ hf⟩;exact⟨z,us,r,⟨_,Heap.get?_push_size _ rfl,rfl,_,rfl⟩⟩
def Eb(h:PA X es t):PE X (.List es pos) (Tc t):=by refineλon s Y H Q I hq=>wpAny_List_spliced (fq (h pos on s Y H _ I hq) λus s1 ⟨xs,H1,I1,r,z,q⟩=>⟨by rw[<-r.length];exact z,?_⟩);have hf:=I1.VG.fresh<|ao _;refine⟨.ref s1.heap.objs.size,dH H1 s1.heap.objs.size<|.lst xs,I1.laid (λb u e=>Heap.get?_push_of_some _ e) (ao _) ?_,rfl,q _ hf⟩;exact⟨z,us,0,r,Heap.get?_push_size _ rfl⟩
abbrev Sp:=fh->Hp->VK->XK->Prop
abbrev P3:=List Env->Hp->Shared->XK->Value->Shared->Prop
structure YL(P:Program)(w:World)(K:eZ)(mg:tK)(base:Heap)(A:Around)(outer:List Env)(s:Shared)(H:Hp):Prop where
 frames:A.frames=some outer
 mod:Mod K mg base
 bs:∀b o,base.get? b=some o->s.heap.get? b=some o/\H b=none
 ZW:base.objs.size<=s.heap.objs.size
 Xg:s.heap.FunFrames base outer
 frf:∀b∈jC outer,H b=none
 VG:Xu P w H s.heap
 bare:AllBare s.gens
def CE(outer:List Env)(P:Program)(w:World)(H:Hp)(s:Shared)(Q:VK)(u:Value)(s':Shared):Prop:=∃v H',s'.os=s.os/\AllBare s'.gens/\Un (jC outer) [] H H' s.heap s'.heap/\Xu P w H' s'.heap/\RelV v u/\Q v H'
def CR(CX:P3)(outer:List Env)(P:Program)(w:World)(H:Hp)(s:Shared)(Q:VK)(E:XK)(r:Result)(s':Shared):Prop:=match r with
 |.ok (.ret u)=>CE outer P w H s Q u s'|.ok _=>False
 |.error e=>CX outer H s E e s'
structure dZ(P:Program)(w:World)(K:eZ)(mg:tK)(base:Heap)(CX:P3)(k:Nat)(f:Addr)(fd:FuncData)(ps:cn)(sp:Sp):Prop where
 len:∀vs H Q E,sp vs H Q E->vs.length=ps.length
 run:∀(A:Around)(outer:List Env)(s:Shared)(H:Hp)(args:Args)(us:jh)(vs:fh)(Q:VK)(E:XK),VS k A->YL P w K mg base A outer s H->BindsTo s fd args (ps.zip us)->Vals vs us->sp vs H Q E->
  codeAny (model P w) A (.call (.ref f) args) (CR CX outer P w H s Q E) s
def YL.make{outer:List Env}(e:YL P w K mg base A outer s H)(C:Addr)(us:jh)(kw:List (Str×Value)):YL P w K mg base (A.under<|.builtin "type.__call__" ⟨.ref C::us,kw⟩) outer s H:=⟨by first |exact e.frames |(simpa[Around.under,Code.envs,Code.isFrame,pushEnvs]using e.frames),e.mod,e.bs,e.ZW,e.Xg,e.frf,e.VG,e.bare⟩
def Inv.ZF(I:Inv X on Y H s):YL X.prog X.w X.K X.mg X.base X.A X.stack s H:=⟨I.ok.frames,I.ok.mod,I.bs,aJ I.ok.ZW I.sz,I.stack,I.XB,I.VG,I.bare⟩
def Inv.after(I:Inv X on Y H s)(h:CE X.stack X.prog X.w H s Q u s'):EP X on Y Q u s':=by let⟨v,H',os,bare,un,VG,r,q⟩:=h;let⟨hh,g,d,t,os'⟩:=s';obtain rfl:os'=s.os:=os;exact⟨v,H',I.call un VG bare λb z=>absurd z<|by simp,r,q⟩
def QL(sp:Sp)(Y1:fh)(E:XK)(t:TA):TE:=λY H Q=>t Y H λvs H1=>sp (vs++Y1) H1 Q E
def QI(C:Addr)(sp:Sp)(Y1:fh)(E:XK)(t:TA):TE:=λY H Q=>t Y H λvs H1=>∀x dx,H1 x=none->H1 dx=none->dx≠x->sp (.ref x::(vs++Y1)) (dH (dH H1 dx<|.own x) x<|.ins C dx []) (λv H2=>v=.VH/\Q (.ref x) H2) E
def Binds(K:eZ)(fd:FuncData)(ps:cn)(ds:jh):Prop:=∀(s:Shared)(us:jh),K.In s.heap->(us++ds).length=ps.length->BindsTo s fd ⟨us,[]⟩ (ps.zip<|us++ds)
def Binds.all{ps:cn}(h:∀us:jh,us.length=ps.length->bindArgs fd ⟨us,[]⟩=pure (ps.zip us)):Binds K fd ps []:=λs us _ hl=>by rw[aX]at hl ⊢;exact .of_eq<|h us hl
def iB(CX:P3)(X:Cx)(E:XK):Prop:=∀(on:gC)(Y:St)(H:Hp)(s:Shared)(e:Value)(s':Shared),Inv X on Y H s->CX X.stack H s E e s'->X.xe e s'
section
variable {ds:jh}{E:XK}
def Ol(F:dZ X.prog X.w X.K X.mg X.base CX k f fd ps sp)(hr:VS k X.A)(hb:Binds X.K fd ps ds)(hd:Vals Y1 ds)(hx:iB CX X E)(I:Inv X on Y H s)(r:Vals vs us)(h:sp (vs++Y1) H Q E):fg X (call (.ref f) us) (EP X on Y Q) X.xe s:=by
 have r2:=r.append hd;have hl:(us++ds).length=ps.length:=by rw[<-r2.length];exact F.len _ _ _ _ h
 refine M2 (pQ (F.run X.A X.stack s H ⟨us,[]⟩ (us++ds) (vs++Y1) Q E hr I.ZF (hb s us I.WO hl) r2 h) λr s' hq=>?_);cases r with
 |error e=>exact hx on Y H s e s' I hq
 |ok fl=>
  cases fl with
  |ret u=>exact I.after hq|next=>exact False.elim hq
  |brk=>exact False.elim hq|cont=>exact False.elim hq
def j7(F:dZ X.prog X.w X.K X.mg X.base CX k f fd ps sp)(hr:VS k X.A)(hg:Gl X x)(hm:X.mg x=some (.ref f))(hk:keepIn X.K (.ref f)=true)(hb:Binds X.K fd ps ds)(hd:Vals Y1 ds)(hx:iB CX X E)(ha:PA X (e::es) t)(Wb:pE x:=by decide)(he:Fc e es X.env:=by rfl)(Xf:tN pos es X.env:=by rfl):PE X (.Call (.Name x p) (e::es) [] pos) (QL sp Y1 E t):=by refineλon s Y H Q I h=>gT<|mK I hg hm ?_ Wb;refine ma I.ok.mod.kin hk (fq (ha pos on s Y H _ I h) λus s1 ⟨vs,H1,I1,r,q⟩=>⟨I1.WO,?_⟩) he Xf;exact Ol F hr hb hd hx I1 r q
structure Mk(K:eZ)(C f:Addr):Prop where
 makes:makesIn K C=true
 init:findIn K (.ref C) "__init__"=some (some<|.ref f)
 fn:isFn K (.ref f)=true
 kp:keepIn K (.ref C)=true
def IN{Q:VK}(M:Mk X.K C f)(F:dZ X.prog X.w X.K X.mg X.base CX k f fd ps sp)(hr:VS (k+1) X.A)(hb:Binds X.K fd ps ds)(hd:Vals Y1 ds)(hx:iB CX X E)(I:Inv X on Y H s)(r:Vals vs us)(h:∀x dx,H x=none->H dx=none->dx≠x->sp (.ref x::(vs++Y1)) (dH (dH H dx<|.own x) x<|.ins C dx []) (λv H2=>v=.VH/\Q (.ref x) H2) E):fg X (call (.ref C) us) (EP X on Y Q) X.xe s:=by
 have hq:=h (s.heap.objs.size+1) s.heap.objs.size (I.VG.fresh<|Nat.le_succ _) (I.VG.fresh<|ao _)<|bH<|fC _;have I2:=Inv.made (C:=C) I;have r2:Vals (V.ref (s.heap.objs.size+1)::(vs++Y1)) (Value.ref (s.heap.objs.size+1)::(us++ds)):=.cons rfl<|r.append hd;have hl:(Value.ref (s.heap.objs.size+1)::us++ds).length=ps.length:=by have e:=r2.length;rw[F.len _ _ _ _ hq]at e;exact e.symm
 refine M2<|JG I.WO M.makes M.init (jU.mp M.fn) (pQ (F.run _ X.stack _ _ ⟨Value.ref (s.heap.objs.size+1)::us,[]⟩ (Value.ref (s.heap.objs.size+1)::(us++ds)) _ _ E (hr.make C us []) (I2.ZF.make C us []) (hb _ (Value.ref (s.heap.objs.size+1)::us) I2.WO hl) r2 hq) λr s' hq'=>?_);cases r with
 |error e=>exact hx on Y _ _ e s' I2 hq'
 |ok fl=>
  cases fl with
  |ret u=>obtain⟨v,H',I3,rv,ev,q3⟩:=I2.after hq';subst ev;exact⟨rv,⟨V.ref<|s.heap.objs.size+1,H',I3,rfl,q3⟩⟩
  |next=>exact False.elim hq'|brk=>exact False.elim hq'
  |cont=>exact False.elim hq'
def LV(M:Mk X.K C f)(F:dZ X.prog X.w X.K X.mg X.base CX k f fd ps sp)(hr:VS (k+1) X.A)(hg:Gl X x)(hm:X.mg x=some (.ref C))(hb:Binds X.K fd ps ds)(hd:Vals Y1 ds)(hx:iB CX X E)(ha:PA X (e::es) t)(Wb:pE x:=by decide)(he:Fc e es X.env:=by rfl)(Xf:tN pos es X.env:=by rfl):PE X (.Call (.Name x p) (e::es) [] pos) (QI C sp Y1 E t):=by refineλon s Y H Q I h=>gT<|mK I hg hm ?_ Wb;refine ma I.ok.mod.kin M.kp (fq (ha pos on s Y H _ I h) λus s1 ⟨vs,H1,I1,r,q⟩=>⟨I1.WO,?_⟩) he Xf;exact IN M F hr hb hd hx I1 r q
end
structure aN(N P:cn)(sc:Scope):Prop where
 kind:sc.kind=.function
 co:sc.isCoroutine=false
 gen:sc.isGenerator=false
 nd:N.Nodup
 pre:N.take P.length=P
 par:∀x∈P,sc.names.lookup x=some .local\/sc.names.lookup x=some .cell
 zBB:∀y∈sc.names,y.2≠.free
def AR{kindOf:Str->Option NameKind}:∀{binds:List (Str×Value)}{m:tK},(∀v,(x,v)∉binds)->bindL kindOf binds m x=m x
 |[],_,_=>rfl
 |(n,v)::r,m,h=>by
  unfold bindL;rw[AR λw hw=>h w<|aV _ hw];split;have:x≠n:=by rintro rfl;exact h v cm
  simp[this];rfl
def AT{kindOf:Str->Option NameKind}:∀{binds:List (Str×Value)}{m:tK},(∀v,(x,v)∉binds)->bindC kindOf binds m x=m x
 |[],_,_=>rfl
 |(n,v)::r,m,h=>by
  unfold bindC;rw[AT λw hw=>h w<|aV _ hw];split;rfl;have:x≠n:=by rintro rfl;exact h v cm
  simp[this]
theorem AS{kindOf:Str->Option NameKind}:∀{P:cn}{vs:jh}{i:Nat}{m:tK},P.Nodup->P[i]?=some x->vs[i]?=some v->kindOf x=some .local->bindL kindOf (P.zip vs) m x=some v
 |[],_,_,_,_,h,_,_=>by simp at h|_::_,[],_,_,_,_,h,_=>by simp at h
 |p::P,w::vs,0,m,nd,h1,h2,hk=>by simp at h1 h2;subst h1;subst h2;show bindL kindOf ((p,w)::P.zip vs) m p=_;unfold bindL;rw[AR λv hv=>(gR.mp nd).1 (M6 hv).1,ax hk];simp|p::P,w::vs,i+1,m,nd,h1,h2,hk=>by unfold bindL;exact AS (gR.mp nd).2 h1 h2 hk
def AU{kindOf:Str->Option NameKind}:∀{P:cn}{vs:jh}{i:Nat}{m:tK},P.Nodup->P[i]?=some x->vs[i]?=some v->kindOf x≠some .local->bindC kindOf (P.zip vs) m x=some v
 |[],_,_,_,_,h,_,_=>by simp at h|_::_,[],_,_,_,_,h,_=>by simp at h
 |p::P,w::vs,0,m,nd,h1,h2,hk=>by simp at h1 h2;subst h1;subst h2;show bindC kindOf ((p,w)::P.zip vs) m p=_;unfold bindC;rw[AT λv hv=>(gR.mp nd).1 (M6 hv).1,av hk];simp|p::P,w::vs,i+1,m,nd,h1,h2,hk=>by unfold bindC;exact AU (gR.mp nd).2 h1 h2 hk
def start(N:cn)(vs:fh):St:=vs.map some++List.replicate (N.length-vs.length) none
def qA(CX:P3)(P:Program)(w:World)(K:eZ)(mg:tK)(base:Heap)(N:cn)(qual:Str)(scope:Scope)(f:Addr)(cd:Value)(A:Around)(outer:List Env)(s:Shared)(H:Hp)(E:XK):Cx where
 prog:=P
 w:=w
 K:=K
 mg:=mg
 base:=base
 A:=A.deeper<|envOfC qual scope s.heap.objs.size f cd
 N:=N
 s₀:=s
 H₀:=H
 env:=envOfC qual scope s.heap.objs.size f cd
 outer:=outer
 stack:=envOfC qual scope s.heap.objs.size f cd::outer
 ex:=[]
 calm:=true
 fn:=λ_=>true
 pn:=[]
 xe:=λe s'=>wpAny (model P w) (A.deeper<|envOfC qual scope s.heap.objs.size f cd) (leaving (envOfC qual scope s.heap.objs.size f cd) e) (λ_ XG=>CX outer H s E e XG) (λe' XG=>CX outer H s E e' XG) s'
def Dh{sc:Scope}{x:Str}(h:sc.names.lookup x=some .cell):∃c,(cellsFrom n sc.names []).lookup x=some c:=by exact Option.isSome_iff_exists.mp<|Um sc.names n []<|.inl h
def Ho{A:Around}{vs:fh}{outer:List Env}{E:XK}(S:aN N ps scope)(hd:A.handled=none)(e0:YL P w K mg base A outer s H)(hl:vs.length=ps.length)(r:Vals vs us)(x:InCallC s s.heap.objs.size (bindL (envOfC qual scope s.heap.objs.size f cd).kindOf (ps.zip us) λ_=>none) (cellsFrom (s.heap.objs.size+1) scope.names []) (bindC (envOfC qual scope s.heap.objs.size f cd).kindOf (ps.zip us) λ_=>none) s1):Inv (qA CX P w K mg base N qual scope f cd A outer s H E) [] (start N vs) H s1:=by
 have Xf:ps.length<=N.length:=by have:=aL List.length S.pre;rw[dR]at this;lia
 obtain⟨h1,tk,rfl,hk⟩:=x.done;have noA:∀b:Addr,b∉(qA CX P w K mg base N qual scope f cd A outer s H E).ex:=λb z=>absurd (show b∈([]:List Addr)from z)<|by simp
 refine⟨⟨e0.mod,S.kind,rfl,rfl,ao _,λy z c h1 h2=>?_,λy hy=>?_,λy c _ h=>?_,λ_=>hd,Around.frames_deeper e0.frames,.inr ⟨rfl,rfl⟩,λb z=>absurd z<|noA b,e0.bs,e0.ZW,λb _ _=>noA b,λb z=>absurd z<|noA b,e0.Xg,e0.frf⟩,
  rfl,e0.bare,Un.kept hk,⟨_,x.toInCall.ns,λi y v h1 h2 h3=>?_⟩,λy c h=>⟨_,x.cell y c h⟩,e0.VG.fresh (ao _),λy c h=>?_,λp hp=>absurd (show p∈([]:gC)from hp) (by simp),e0.VG.kept hk,?_⟩
 exact name_of_addr x.apart (iu h1)<|iu h2;have hy:=hy;rcases hy with hy |hy;exact Dh hy;exact absurd rfl<|S.zBB _<|iu hy;exact nH<|x.above y c<|iu h;have hi:i<vs.length:=by unfold start at h2;by_cases hi:i<vs.length;exact hi;rw[List.getElem?_append_right<|by simpa using hi]at h2;rw[List.getElem?_replicate]at h2;split at h2<;>cases h2
 have ha:vs[i]?=some v:=by
  unfold start at h2;rw[List.getElem?_append_left<|by simpa using hi,List.getElem?_map]at h2;cases e:vs[i]? with
  |none=>rw[e]at h2;cases h2
  |some a=>rw[e]at h2;cases h2;rfl
 let⟨u,hu,rv⟩:=r.get ha;have hp:ps[i]?=some y:=by rwa[<-S.pre,List.getElem?_take_of_lt<|by lia]
 have ndP:ps.Nodup:=by rw[<-S.pre];exact S.nd.sublist<|List.take_sublist _ _
 refine⟨u,rv,?_⟩;rcases S.par y (List.mem_of_getElem? hp)with k |k;exact .inl ⟨k,AS ndP hp hu k⟩;let⟨c,e⟩:=Dh (n:=s.heap.objs.size+1) k;refine .inr ⟨.inl k,c,e,?_⟩;have q:=x.cell y c e;rwa[AU ndP hp hu<|by show scope.names.lookup y≠_;rw[k];decide]at q;exact e0.VG.fresh<|nH<|x.above y c<|iu h;unfold start;show _=N.length;rw[ag,ai,jB];lia
def Gf{f:Addr}{name qual:Str}{body:List Stmt}{scope:Scope}{dV kV doc pm V2 ct:Value}{an:Option Addr}{sp:Sp}{params:Arguments}(lk:K.lookup f=some ⟨oc,od,.func<|fnOf name qual params body scope dV kV doc pm an V2 ct,ZT⟩)(YG:codeIn K V2 qual=true)(S:aN N ps scope)(len:∀vs H Q E,sp vs H Q E->vs.length=ps.length)(Zz:∀(A:Around)(outer:List Env)(s:Shared)(H:Hp)(vs:fh)(Q:VK)(E:XK),VS k (A.deeper<|envOfC qual scope s.heap.objs.size f V2)->sp vs H Q E->∃t,YJ (qA CX P w K mg base N qual scope f V2 A outer s H E) body t/\t {nx:=λ_ H'=>Q .VH H',rt:=Q} (start N vs) H):dZ P w K mg base CX (k+1) f (fnOf name qual params body scope dV kV doc pm an V2 ct) ps sp:=by
 refine⟨len,λA outer s H args us vs Q E hr e0 hb r Yl=>?_⟩;have KX:K.In s.heap:=e0.mod.kin.keeps λb o e=>(e0.bs b o e).1;have lim:s.heap.NoLimit:=e0.mod.nolimit.keeps λb o e=>(e0.bs b o e).1;have zDP:∀y∈ps.zip us,scope.names.lookup y.1=some .local\/(scope.names.lookup y.1=some .cell/\((cellsFrom (s.heap.objs.size+1) scope.names []).lookup y.1).isSome=true):=λ⟨n,v⟩ hy=>by rcases S.par n (M6 hy).1 with q |q;exact .inl q;exact .inr ⟨q,Um _ _ _<|.inl q⟩
 refine codeAny_call_function hr.depth (KX _ _ lk) rfl S.co S.gen rfl (codeRec_of KX YG)<|hb _ _ _ _ ?_;refine wpAny_newFunctionEnv_cells S.kind zDP λenv he s1 x=>?_;subst he;refine⟨lim.keeps x.toInCall.keep,codeAny_func ?_⟩;obtain⟨t,ht,hq⟩:=Zz A outer s H vs Q E (hr.deeper _) Yl;have I:Inv (qA CX P w K mg base N qual scope f V2 A outer s H E) [] (start N vs) H s1:=Ho S hr.hd e0 (len _ _ _ _ Yl) r x;refine aH (ht [] s1 (start N vs) H _ I hq) (λfl s' hs=>?_) λe s' hs=>hs;have fin:∀{xy:St}{H':Hp}{v:V}{u:Value},Inv (qA CX P w K mg base N qual scope f V2 A outer s H E) [] xy H' s'->RelV v u->Q v H'->CE outer P w H s Q u s':=λ{xy H' v u}J rv q=>⟨v,H',J.os,J.bare,J.base,J.VG,rv,q⟩;cases fl with
 |ret u=>obtain⟨v,xy,H',J,rv,q⟩:=hs;exact fin J rv q
 |next=>obtain⟨xy,H',J,q⟩:=hs;exact fin (v:=V.VH) J rfl q
 |brk=>obtain⟨_,_,_,q⟩:=hs;exact False.elim q
 |cont=>obtain⟨_,_,_,q⟩:=hs;exact False.elim q
section
variable {id:String}{r:fh->Hp->VK->Prop}
def Uv(r:fh->Hp->VK->Prop)(t:TA):TE:=λY H Q=>t Y H λvs H1=>r vs H1 Q
def iH(hc:iq X (.builtin id) r)(hg:Gl X x)(hm:X.mg x=none)(hv:bootBuiltins x=some (.builtin id))(ha:PA X (e::es) t)(hn:x≠"__name__":=by decide)(Wb:pE x:=by decide)(he:Fc e es X.env:=by rfl)(Xf:tN pos es X.env:=by rfl):PE X (.Call (.Name x p) (e::es) [] pos) (Uv r t):=by refineλon s Y H Q I h=>gT<|u5 I hg hm hv ?_ hn Wb;exact PyProof.Rows.callWith_builtin1 (fq (ha pos on s Y H _ I h) λus s1 ⟨vs,H1,I1,r1,q1⟩=>hc on s1 Y H1 vs us Q I1 r1 q1) he Xf
def nS(hc:iq X (.type T) r)(hg:Gl X x)(hm:X.mg x=none)(hv:bootBuiltins x=some (.type T))(ha:PA X (e::es) t)(hn:x≠"__name__":=by decide)(Wb:pE x:=by decide)(he:Fc e es X.env:=by rfl)(Xf:tN pos es X.env:=by rfl):PE X (.Call (.Name x p) (e::es) [] pos) (Uv r t):=by refineλon s Y H Q I h=>gT<|u5 I hg hm hv ?_ hn Wb;exact jD (fq (ha pos on s Y H _ I h) λus s1 ⟨vs,H1,I1,r1,q1⟩=>hc on s1 Y H1 vs us Q I1 r1 q1) he Xf
end
end L2
namespace HT
open PySem PySem.W PyProof.Rows
variable {H:Hp}{X:Cx}{pos:Pos}
variable {K:eZ}
section
open PySem.SeqAt
open PySem.AutoSeq1 (wpAny_loadPart')
open PySem.MeetsSeq PySem.MeetsSeq2 PySem.MeetsSeq3
end
def zAF{vs ws:jh}{Q:qW}{s:Shared}(ht:IsTup s.heap t vs.toArray)(hb:IsTup s.heap b ws.toArray)(hv:vs≠[])(h1:ws=[]->Q (.ref t) s)(h2:ws≠[]->Q (.ref s.heap.objs.size) {s with heap:=s.heap.push {cls:=.type "tuple",data:=.seq (vs++ws).toArray}})(XS:vs.length+ws.length<=sizeLine):wpAny (model prog w) A (binaryOp .Add (.ref t)<|.ref b) Q E s:=by
 let⟨⟨cls,dd,data,sl⟩,ho,hc,n,hd⟩:=id ht;let⟨⟨zPO,dd2,data2,Wh⟩,Yd,hc2,n2,hd2⟩:=id hb;simp only at hc hd hc2 hd2;subst hc hd hc2 hd2;have e:vs.toArray++ws.toArray=(vs++ws).toArray:=by simp
 by_cases hw:ws=[];exact concat_meets ⟨_,ho,rfl⟩ ⟨_,Yd,rfl⟩ noFill_tuple_add seq_tuple_add Uo SH (Si _ _) (tuple_addW1 t b vs.toArray ws.toArray n n2 dd dd2 sl Wh (by simpa using hv)<|by simp[hw]) ⟨ho,Yd,h1 hw⟩;refine concat_meets ⟨_,ho,rfl⟩ ⟨_,Yd,rfl⟩ noFill_tuple_add seq_tuple_add Uo SH (Si _ _) (tuple_addW2 t b vs.toArray ws.toArray n n2 dd dd2 sl Wh (by simpa using hv) (by simpa using hw)<|by rwa[aG,aG]) ⟨ho,Yd,?_⟩;rw[e];exact h2 hw
def VI(n d:Nat):Option Int->Nat|none=>d|some v=>if v<0 then(v+(n:Int)).toNat else min v.toNat n
def Yh(n d:Nat):VI n d none=d:=rfl
def YN(n d k:Nat):VI n d (some (k:Int))=min k n:=by show(if(k:Int)<0 then((k:Int)+(n:Int)).toNat else min (k:Int).toNat n)=min k n;rw[av<|by lia,bv]
def Tn(n d:Nat)(hd:d<=n)(o:Option Int):VI n d o<=n:=by cases o with|none=>exact hd|some v=>show(if v<0 then(v+(n:Int)).toNat else min v.toNat n)<=n;by_cases hv:v<0;rw[ax hv];lia;rw[av hv];exact pB _ _
theorem GG(v:Int)(n d:Nat):(if v<0 then max (v+(n:Int)) 0 else min v (n:Int))=((VI n d (some v):Nat):Int):=by show(if v<0 then max (v+(n:Int)) 0 else min v (n:Int))=(((if v<0 then(v+(n:Int)).toNat else min v.toNat n):Nat):Int);by_cases hv:v<0;simp only[ax hv];lia;simp only[av hv];lia
def EZ(lo hi:Option Int)(n:Nat):Builtin.Slice.sliceAdjust lo hi 1 (n:Int)=(((VI n 0 lo:Nat):Int),((VI n n hi:Nat):Int)):=by
 have h1:¬(1<0):=by lia
 unfold Builtin.Slice.sliceAdjust;simp only[h1,HP];refine je ?_ ?_;cases lo with|none=>rfl|some v=>exact GG v n 0
 cases hi with|none=>rfl|some v=>exact GG v n n
def D9(i j:Nat):Builtin.Slice.slicePlaces (i:Int) (j:Int) 1=j-i:=by
 unfold Builtin.Slice.slicePlaces;have h1:1>0:=by lia
 simp;split<;>lia
def wV{o:Option Int}{Q:Option Int->Shared->Prop}(p:IsPart v o)(h:Q o s):wpAny (model prog w) A (Builtin.Slice.slicePartIndex v) Q E s:=by cases p with|none=>exact slicePart_none h|int i t=>exact slicePart_int h
def nQ{s:Shared}{lo hi:Option Int}{Q:Int×Int×Nat->Shared->Prop}(hs:s.heap.IsSliceOf sl vl vu .none)(pl:IsPart vl lo)(pu:IsPart vu hi)(h:Q (((VI n 0 lo:Nat):Int),1,VI n n hi-VI n 0 lo) s):wpAny (model prog w) A (Builtin.Slice.sliceApplied (.ref sl)<|pure (n:Int)) Q E s:=by let⟨os,ZU,hcs,Ww⟩:=id hs;refine ak<|ak<|eG ZU Ww rfl<|ak<|eG ZU Ww rfl<|ak<|eG ZU Ww rfl<|aD ?_;refine ak<|slicePart_none ?_;rw[av<|by decide];refine ak<|wV pl<|ak<|wV pu<|ak<|aD ?_;show wpAny _ _ (match Builtin.Slice.sliceAdjust lo hi 1 (n:Int)with |(lo,hi)=>pure (lo,(1:Int),Builtin.Slice.slicePlaces lo hi 1)) _ _ s;rw[EZ lo hi n];show wpAny _ _ (pure (((VI n 0 lo:Nat):Int),(1:Int),Builtin.Slice.slicePlaces ((VI n 0 lo:Nat):Int) ((VI n n hi:Nat):Int) 1)) _ _ s;rw[D9];exact aD h
def Ji(xs:Array Value)(i k:Nat):((List.range k).filterMap λ(m:Nat)=>xs[((i:Int)+(m:Int)*1).toNat]?).toArray=((xs.toList.drop i).take k).toArray:=by
 have e:(λ(m:Nat)=>xs[(i+(m:Int)*1).toNat]?)=λm=>xs[i+m]?:=by
  funext m;have:(i+(m:Int)*1).toNat=i+m:=by lia
  rw[this]
 rw[e];have:=pick_run xs i k;rw[List.filterMap_map]at this;have e2:((λx=>xs[x]?) ∘ λx=>i+x)=λm=>xs[i+m]?:=rfl;rw[e2]at this;rw[this]
def Xm{Q:qW}{s:Shared}{lo hi:Option Int}(ht:IsTup s.heap t items)(hs:s.heap.IsSliceOf sl vl vu .none)(pl:IsPart vl lo)(pu:IsPart vu hi)(hw:¬(VI items.size 0 lo=0/\VI items.size items.size hi=items.size))(h:Q (.ref s.heap.objs.size) {s with heap:=s.heap.push {cls:=.type "tuple",data:=.seq ((items.toList.drop<|VI items.size 0 lo).take<|VI items.size items.size hi-VI items.size 0 lo).toArray}})(XS:items.size<=sizeLine):wpAny (model prog w) A (getItem (.ref t)<|.ref sl) Q E s:=by
 have YS:sizeOk (.seq ((items.toList.drop<|VI items.size 0 lo).take<|VI items.size items.size hi-VI items.size 0 lo).toArray):=by show((items.toList.drop<|VI items.size 0 lo).take<|VI items.size items.size hi-VI items.size 0 lo).toArray.size<=sizeLine;rw[aG,dR,bX,dj];lia
 let⟨os,ZU,hcs,Ww⟩:=id hs;have hTs:s.TypeIs (.ref sl) "slice":=⟨os,ZU,hcs⟩;unfold getItem;try with_reducible refine dv ?_
 first |refine ak (aD ?_) |skip
 refine ak<|wpAny_sequenceKey ht.typeIs rfl ?_;refine ak<|wpAny_callSpecial?_slot ht.typeIs ic<|l9 ic ht.typeIs entry_tuple_getitem ?_<|args_tuple_getitem _ _;show wpAny _ _ (Builtin.Tuple.tupleItemsOf (.ref t)>>=_) _ _ s;refine ak<|tupleItemsOf_ ht ?_;refine ak<|wpAny_typeOf hTs ?_;rw[ax<|by decide];refine ak<|nQ hs pl pu ?_;have hno:¬((((VI items.size 0 lo:Nat):Int)==0&&(1:Int)==1&&(VI items.size items.size hi-VI items.size 0 lo)==items.size)=true):=by intro q;rw[dS,dS]at q;have q1:((VI items.size 0 lo:Nat):Int)=0:=eq_of_beq q.1.1;have q2:VI items.size items.size hi-VI items.size 0 lo=items.size:=eq_of_beq q.2;exact hw ⟨by lia,by lia⟩
 show wpAny _ _ (if(((VI items.size 0 lo:Nat):Int)==0&&(1:Int)==1&&(VI items.size items.size hi-VI items.size 0 lo)==items.size)=true then _ else _) _ _ s;rw[av hno,Ji];first
  |exact ak (dG (aD ⟨_,rfl,aD h⟩) YS)|exact ak<|dG (ak<|aD<|aD ⟨_,rfl,aD h⟩) YS
  |exact ak (ak<|dG (aD<|aD ⟨_,rfl,aD h⟩) YS)|exact ak<|ak<|dG (aD ⟨_,rfl,aD h⟩) YS
end HT
namespace L2
open PySem PySem.W PySem.Spec PyProof.Rows
variable {H:Hp}{X:Cx}{pos:Pos}
variable {K:eZ}
abbrev TO:=St->Hp->(Option Int->Hp->Prop)->Prop
def PO(X:Cx)(e:Option Expr)(t:TO):Prop:=∀(on:gC)(s:Shared)(Y:St)(H:Hp)(Q:Option Int->Hp->Prop),Inv X on Y H s->t Y H Q->fg X (evalPart e X.env) (λu s'=>∃o H',Inv X on Y H' s'/\IsPart u o/\Q o H') X.xe s
def Lg:TO:=λ_ H Q=>Q none H
def QF(t:TE):TO:=λY H Q=>t Y H λx H1=>∃i,x=.int i/\Q (some i) H1
section
variable {lo hi:Option Expr}{tl th:TO}
def LR:PO X none Lg:=by intro on s Y H Q I h;rw[evalPart_none];exact aD ⟨none,H,I,.none,h⟩
def Be(h:PE X e te):PO X (some e) (QF te):=by intro on s Y H Q I hw;rw[evalPart_some];refine fq (h on s Y H _ I hw) λu s1 ⟨x,H1,I1,r1,q1⟩=>?_;obtain⟨i,rfl,q⟩:=q1;obtain⟨t,rfl⟩:=r1;exact⟨some i,H1,I1,.int i t,q⟩
def R1(X:Cx)(r:V->Option Int->Option Int->Hp->VK->Prop):Prop:=∀(on:gC)(s:Shared)(Y:St)(H:Hp)(x:V)(v vl vu:Value)(lo hi:Option Int)(sl:Addr)(Q:VK),Inv X on Y H s->RelV x v->s.heap.IsSliceOf sl vl vu .none->IsPart vl lo->IsPart vu hi->r x lo hi H Q->∃T id,typeLookup (.type T) "__getitem__"=pure (some<|.builtin id)/\s.TypeIs v T/\fg X (getItem v<|.ref sl) (EP X on Y Q) X.xe s
def US(r:V->Option Int->Option Int->Hp->VK->Prop)(te:TE)(tl th:TO):TE:=λY H Q=>te Y H λx H1=>tl Y H1 λl H2=>th Y H2 λu H3=>r x l u H3 Q
def qc{r:V->Option Int->Option Int->Hp->VK->Prop}(hr:R1 X r)(he:PE X e te)(hl:PO X lo tl)(hu:PO X hi th):PE X (.Subscript e (.Slice lo hi none p2) pos) (US r te tl th):=by refineλon s Y H Q I h=>Subscript_ (fq (he on s Y H _ I h) λv s1 ⟨x,H1,I1,r1,q1⟩=>?_);refine wpAny_Slice (fq (hl on s1 Y H1 _ I1 q1) λvl s2 ⟨l,H2,I2,pl,q2⟩=>fq (hu on s2 Y H2 _ I2 q2) λvu s3 ⟨u,H3,I3,pu,q3⟩=>?_);rw[evalPart_none];refine aD ?_;have I4:Inv X on Y H3 {s3 with heap:=s3.heap.push {cls:=.type "slice",data:=.fields #[vl,vu,.none]}}:=I3.kept λb ob q=>Heap.get?_push_of_some _ q;obtain⟨T,id,hT,ht,hg⟩:=hr on {s3 with heap:=s3.heap.push {cls:=.type "slice",data:=.fields #[vl,vu,.none]}} Y H3 x v vl vu l u s3.heap.objs.size Q I4 r1 (Heap.IsSliceOf.new ..) pl pu q3;exact tail_any ht hT hg<|by with_unfolding_all rfl
def Hx(xs:fh)(lo hi:Option Int):fh:=(xs.drop<|HT.VI xs.length 0 lo).take<|HT.VI xs.length xs.length hi-HT.VI xs.length 0 lo
theorem vH(xs:fh)(lo hi:Option Int):(Hx xs lo hi).length<=xs.length:=by unfold Hx;rw[dR,bX];lia
def Tq(K:eZ):V->Option Int->Option Int->Hp->VK->Prop:=λx lo hi H Q=>∃a xs,x=.ref a/\WM K H a xs/\¬(HT.VI xs.length 0 lo=0/\HT.VI xs.length xs.length hi=xs.length)/\∀p,H p=none->Q (.ref p) (dH H p<|.tup<|Hx xs lo hi)
def Og:R1 X (Tq X.K):=by
 intro on s Y H x v vl vu lo hi sl Q I rx hs pl pu h;obtain⟨a,xs,rfl,hx,hw,q⟩:=h;cases rx;let⟨its,r,ht,hz⟩:=I.tuple hx;have hlen:its.toArray.size=xs.length:=by rw[aG];exact r.length.symm
 refine⟨"tuple",_,PyProof.Rows.slot_tuple_getitem.lookup,ht.typeIs,?_⟩;refine HT.Xm ht hs pl pu (by rwa[hlen]) ?_ (by rwa[hlen]);rw[hlen];refine⟨.ref s.heap.objs.size,_,I.laid (λb ob q=>Heap.get?_push_of_some _ q) (ao _) ?_,rfl,q _<|I.VG.fresh<|ao _⟩;exact⟨aJ (vH xs lo hi) hz,_,(r.drop<|HT.VI xs.length 0 lo).take<|HT.VI xs.length xs.length hi-HT.VI xs.length 0 lo,IsTup.new _ _⟩
def Q2(K:eZ):R2:=λx y H Q=>∃a b xs ys,x=.ref a/\y=.ref b/\WM K H a xs/\WM K H b ys/\xs≠[]/\xs.length+ys.length<=sizeLine/\(ys=[]->Q (.ref a) H)/\(ys≠[]->∀p,H p=none->Q (.ref p) (dH H p<|.tup<|xs++ys))
def Vals.X8(r:Vals xs us):us=[]↔xs=[]:=by cases r with|nil=>simp|cons _ _=>simp
def L4:mj X (binaryOp .Add) (Q2 X.K):=by intro on s Y H x y v u Q I rx ry h;obtain⟨a,b,xs,ys,rfl,rfl,ha,hb,hx,hz,q1,q2⟩:=h;cases rx;cases ry;let⟨its,r1,p1,_⟩:=I.tuple ha;let⟨YF,r2,p2,_⟩:=I.tuple hb;refine HT.zAF p1 p2 (λz=>hx<|r1.X8.mp z) (λz=>⟨.ref a,H,I,rfl,q1<|r2.X8.mp z⟩) (λz=>?_) (by rwa[<-r1.length,<-r2.length]);refine⟨.ref s.heap.objs.size,_,I.laid (λb ob q=>Heap.get?_push_of_some _ q) (ao _) ?_,rfl,q2 (λw=>z<|r2.X8.mpr w) _<|I.VG.fresh<|ao _⟩;exact⟨by rwa[ag],_,r1.append r2,IsTup.new _ _⟩
end
def FZ(n:Nat)(i:Int):Option Nat:=if 0<=i then(if i<n then some i.toNat else none)else if-(n:Int)<=i then some (i+n).toNat else none
def me{α:Type}(xs:List α)(i:Int):Option α:=(FZ xs.length i).bind λj=>xs[j]?
theorem FY{i:Int}(h:FZ n i=some j):seqIndex? i n=some j/\j<n/\-(n:Int)<=i/\i<n:=by unfold FZ at h;by_cases h0:0<=i;rw[ax h0]at h;by_cases h1:i<n;rw[ax h1]at h;have e:=bN h;exact⟨by rw[SF h0 h1,e],by lia,by lia,h1⟩;rw[av h1]at h;cases h;rw[av h0]at h;by_cases h1: -n<=i;rw[ax h1]at h;have e:=bN h;exact⟨by rw[P6 (by lia) h1,e],by lia,h1,by lia⟩;rw[av h1]at h;cases h
def wJ{i:Int}{α:Type}{xs:List α}{v:α}(h:me xs i=some v):∃j,seqIndex? i xs.length=some j/\xs[j]?=some v/\j<xs.length/\-(xs.length:Int)<=i/\i<xs.length:=by
 unfold me at h;cases e:FZ xs.length i with
 |none=>rw[e]at h;cases h
 |some j=>rw[e]at h;let⟨h1,h2,h3,h4⟩:=FY e;exact⟨j,h1,h,h2,h3,h4⟩
def dJ{j:Nat}{α:Type}{xs:List α}{v:α}(h:xs[j]?=some v):me xs (j:Int)=some v:=by
 have hj:j<xs.length:=(List.getElem?_eq_some_iff.mp h).1;have e:FZ xs.length j=some j:=by unfold FZ;rw[ax<|by lia,ax<|by lia];simp
 unfold me;rwa[e]
def oU(b:Expr):Prop:=∀o i,subscripted b false o i=operate [o,i] (getItem o i)
def Qj(X:Cx)(r:R2):Prop:=∀(value slice:Expr)(on:gC)(s:Shared)(Y:St)(H:Hp)(x y:V)(v u:Value)(Q:VK),Inv X on Y H s->RelV x v->RelV y u->r x y H Q->subscripted slice false v u=operate [v,u] (getItem v u)->fg X (subscriptTail value slice v u) (EP X on Y Q) X.xe s
def R8(X:Cx)(id:String)(r:V->fh->Hp->VK->Prop):Prop:=∀(on:gC)(s:Shared)(Y:St)(H:Hp)(x:V)(xs:fh)(v:Value)(us:jh)(Q:VK),Inv X on Y H s->RelV x v->Vals xs us->r x xs H Q->fg X (call (.builtin id)<|v::us) (EP X on Y Q) X.xe s
section
def xj{r:R2}(hr:Qj X r)(ha:PE X a ta)(hb:PE X b tb)(hs:oU b):PE X (.Subscript a b pos) (So r ta tb):=by exactλon s Y H Q I h=>Subscript_ (PF ha hb I h λv u s2 x y H2 I2 rx ry q=>hr a b on s2 Y H2 x y v u Q I2 rx ry q<|hs _ _)
def Q1(K:eZ):R2:=λx y H Q=>∃p xs i v,x=.ref p/\y=.int i/\Wd K H p xs/\me xs i=some v/\Q v H
def Tv(K:eZ):R2:=λx y H Q=>∃p xs i v,x=.ref p/\y=.int i/\WM K H p xs/\me xs i=some v/\Q v H
def Tw:R2:=λx y H Q=>∃z i c,x=.str z/\y=.int i/\z.length<=sizeLine/\me z.cps.toList i=some c/\Q (.str ⟨#[c]⟩) H
def Bs:Qj X (Q1 X.K):=by
 intro value slice on s Y H x y v u Q I rx ry h hs;obtain⟨p,xs,i,z,rfl,rfl,hq,he,q⟩:=h;cases rx;obtain⟨t,rfl⟩:=ry;obtain⟨its,r,pl,hz⟩:=I.list hq;obtain⟨j,h1,h2,h3,h4,h5⟩:=wJ he;obtain⟨w,ew,Xn⟩:=r.get h2;have hl:=r.length;have hn:=sK;have fin:EP X on Y Q w s:=⟨z,H,I,Xn,q⟩;by_cases h0:0<=i;have hj:i.toNat=j:=by rw[SF h0 h5]at h1;exact bN h1
 exact item_listR pl.isList h0 (by lia) (by rw[hj];simpa using ew) fin hs;have hj:(i+(its.toArray.size:Int)).toNat=j:=by rw[P6 (by lia) h4]at h1;rw[aG,<-hl];exact bN h1
 exact kQ pl.isList.typeIs slot_list_getitem.lookup (wpAny_getItem_list_neg pl.isList (by lia) (by rw[aG]<;>lia) (by lia) (by rw[hj];simpa using ew) ⟨rfl,fin⟩) hs
def O0:Qj X (Tv X.K):=by intro value slice on s Y H x y v u Q I rx ry h hs;obtain⟨p,xs,i,z,rfl,rfl,hq,he,q⟩:=h;cases rx;obtain⟨t,rfl⟩:=ry;let⟨its,r,pl,hz⟩:=I.tuple hq;let⟨j,h1,h2,h3,h4,h5⟩:=wJ he;let⟨w,ew,Xn⟩:=r.get h2;have hn:=sK;have fin:EP X on Y Q w s:=⟨z,H,I,Xn,q⟩;exact kQ (x:=w) pl.typeIs slot_tuple_getitem.lookup (getItem_tuple (j:=j) (Q:=λr s'=>r=w/\EP X on Y Q r s') pl (by lia) (by lia) (by rw[aG,<-r.length];exact h1) (by simpa using ew) ⟨rfl,fin⟩) hs
def O1:Qj X Tw:=by
 intro value slice on s Y H x y v u Q I rx ry h hs;obtain⟨z,i,c,rfl,rfl,hz,he,q⟩:=h;obtain⟨t,rfl⟩:=rx;obtain⟨t',rfl⟩:=ry;obtain⟨j,h1,h2,h3,h4,h5⟩:=wJ he;have hl:z.cps.toList.length=z.length:=by simp[Str.length]
 rw[hl]at h1 h4 h5;have hn:=sK;exact tail_any (Ve s z t) slot_str_getitem.lookup (getItem_str (by have e1:decide (i< -(2 ^ 63:Int))=false:=aj (by lia);have e2:decide (i≥2 ^ 63)=false:=aj (by lia);rw[e1,e2,DN]) (by rw[h1];simpa using h2) ⟨.str ⟨#[c]⟩,H,I.tok _,⟨_,rfl⟩,q⟩) hs
def Ek(its:jh)(n j:Nat)(u:Value):Obj.mapSeq (·.setIfInBounds j u) {cls:=.type "list",data:=.seq its.toArray n}={cls:=.type "list",data:=.seq (its.set j u).toArray n}:=by simp[Obj.mapSeq]
def Inv.lst{p:Addr}(I:Inv X on Y H s)(h:H p=some (.lst xs)):∃(its:jh)(n:Nat),Vals xs its/\s.heap.get? p=some {cls:=.type "list",data:=.seq its.toArray n}/\xs.length<=sizeLine:=by let⟨z,its,n,r,e⟩:=I.VG p _ h;exact⟨its,n,r,e,z⟩
def Inv.zBD{p:Addr}{its Xw:jh}{f:Obj->Obj}(I:Inv X on Y H s)(h:H p=some (.lst xs))(ho:s.heap.get? p=some {cls:=.type "list",data:=.seq its.toArray n})(hf:f {cls:=.type "list",data:=.seq its.toArray n}={cls:=.type "list",data:=.seq Xw.toArray n'})(r:Vals ys Xw)(hz:ys.length<=sizeLine)(t:Nat):Inv X on Y (dH H p<|.lst ys) {s with heap:=s.heap.update p f,toks:=t}:=by
 have e:(s.heap.update p f).get? p=some {cls:=.type "list",data:=.seq Xw.toArray n'}:=by rw[Heap.get?_update_self f ho<|by rw[hf]<;>rfl,hf]
 refine I.write (by rw[h];trivial) (.inl rfl) (λb u hb q=>(Heap.get?_update_other _ _<|eF hb).trans q) ⟨_,e⟩ ?_;exact⟨hz,Xw,n',r,e⟩
def Q0:V->V->V->Hp->(Hp->Prop)->Prop:=λo i v H Q=>∃p xs k j,o=.ref p/\i=.int k/\H p=some (.lst xs)/\FZ xs.length k=some j/\Q (dH H p<|.lst<|xs.set j v)
def Cz:PV X Q0:=by
 intro on s Y H o i v ov iv u Q I ro ri rv h;obtain⟨p,xs,k,j,rfl,rfl,hp,hj,q⟩:=h;cases ro;obtain⟨t,rfl⟩:=ri;obtain⟨its,n,r,ho,hz⟩:=I.lst hp;obtain⟨h1,h2,h3,h4⟩:=FY hj;have hl:=r.length;have hn:=sK;have I':=I.zBD hp ho (Ek its n j u) (r.set rv j) (by rwa[cy]) s.toks;by_cases h0:0<=k;have hk:k.toNat=j:=by rw[SF h0 h4]at h1;exact bN h1
 exact ki_setAt ho h0 (by lia) (by rwa[aG,<-hl]) (by rw[hk];exact⟨_,I',q⟩);have hk:(k+its.toArray.size).toNat=j:=by rw[P6 (by lia) h3]at h1;rw[aG,<-hl];exact bN h1
 exact ki_setBack ho (by lia) (by rwa[aG,<-hl]) (by lia)<|by rw[hk];exact⟨_,I',q⟩
theorem A6(lo hi:Option Int)(n:Nat):(sliceBounds lo hi none n).1=((HT.VI n 0 lo:Nat):Int)/\(sliceBounds lo hi none n).2.1=((HT.VI n n hi:Nat):Int)/\(sliceBounds lo hi none n).2.2=1:=by
 refine⟨?_,?_,rfl⟩;cases lo with|none=>simp[sliceBounds,HT.VI]|some i=>simp only[sliceBounds,HT.VI,Option.getD_none,show(1:Int)>0 by decide,HN];by_cases h:i<0;simp only[h,HN]<;>lia;simp only[h,HP]<;>lia
 cases hi with|none=>simp[sliceBounds,HT.VI]|some i=>simp only[sliceBounds,HT.VI,Option.getD_none,show(1:Int)>0 by decide,HN];by_cases h:i<0;simp only[h,HN]<;>lia;simp only[h,HP]<;>lia
def y4(its:jh)(lo hi:Option Int):slicePick its.toArray lo hi none=((its.drop<|HT.VI its.length 0 lo).take<|HT.VI its.length its.length hi-HT.VI its.length 0 lo).toArray:=by let⟨h1,h2,h3⟩:=A6 lo hi its.toArray.size;unfold slicePick;rw[h1,h2,h3];simp only[sliceRange_one,pick_run,aG]<;>rfl
def Ts(K:eZ):V->Option Int->Option Int->Hp->VK->Prop:=λx lo hi H Q=>∃a xs,x=.ref a/\Wd K H a xs/\∀p,H p=none->Q (.ref p) (dH H p<|.lst<|Hx xs lo hi)
def Lo:R1 X (Ts X.K):=by intro on s Y H x v vl vu lo hi sl Q I rx hs pl pu h;obtain⟨a,xs,rfl,hx,q⟩:=h;cases rx;let⟨its,r,ht,hz⟩:=I.list hx;have hlen:=r.length;refine⟨"list",_,slot_list_getitem.lookup,ht.isList.typeIs,?_⟩;refine wpAny_getItem_list_slice ht.isList hs pl pu .none (by simp) ?_ (by rw[aG]<;>lia);rw[y4,<-hlen];refine⟨.ref s.heap.objs.size,_,I.laid (λb ob q=>Heap.get?_push_of_some _ q) (ao _) ?_,rfl,q _<|I.VG.fresh<|ao _⟩;exact⟨aJ (vH xs lo hi) hz,_,0,(r.drop<|HT.VI xs.length 0 lo).take<|HT.VI xs.length xs.length hi-HT.VI xs.length 0 lo,Heap.get?_push_size _ rfl⟩
def uC:iq X (.builtin "len") (λxs H Q=>∃p ys,xs=[.ref p]/\(Wd X.K H p ys\/WM X.K H p ys)/\Q (.int ys.length) H):=by intro on s Y H xs us Q I r h;obtain⟨p,ys,rfl,hq,q⟩:=h;obtain⟨u,rfl,rx⟩:=lB r;cases rx;have hn:=sK;rcases hq with hq |hq;let⟨its,r',pl,hz⟩:=I.list hq;have hlen:=r'.length;exact Calls.call_len_list pl.isList (by simp<;>lia) ⟨.int ys.length,H,I.tok _,⟨s.toks+1,by rw[aG,hlen]⟩,q⟩;let⟨its,r',pl,hz⟩:=I.tuple hq;have hlen:=r'.length;exact len_tuple pl (by simp only[aG]<;>lia) ⟨.int ys.length,H,I.tok _,⟨s.toks+1,by rw[aG,hlen]⟩,q⟩
def BQ:iq X (.builtin "len") (λxs H Q=>∃z,xs=[.str z]/\z.length<=sizeLine/\Q (.int z.length) H):=by intro on s Y H xs us Q I r h;obtain⟨z,rfl,hz,q⟩:=h;obtain⟨u,rfl,t,rfl⟩:=lB r;have hn:=sK;exact len_str (by lia) ⟨.int z.length,H,I.tok _,⟨_,rfl⟩,q⟩
def BP:iq X (.type "list") (λxs H Q=>∃p ys,xs=[.ref p]/\(Wd X.K H p ys\/WM X.K H p ys)/\∀l,H l=none->Q (.ref l) (dH H l<|.lst ys)):=by intro on s Y H xs us Q I r h;obtain⟨p,ys,rfl,hq,q⟩:=h;obtain⟨u,rfl,rx⟩:=lB r;cases rx;have fin:∀its,Vals ys its->ys.length<=sizeLine->∀(h':Heap)c',(∀b o',s.heap.get? b=some o'->h'.get? b=some o')->h'.get? s.heap.objs.size=some {cls:=.type "list",dict:=none,data:=.seq its.toArray c',slots:=#[]}->EP X on Y Q (.ref s.heap.objs.size) {s with heap:=h'}:=λits r' hz h' c' kp e=>⟨.ref s.heap.objs.size,_,I.laid kp (ao _) (show VT X.prog X.w _ h' _ (.lst ys)from⟨hz,its,c',r',e⟩),rfl,q _<|I.VG.fresh<|ao _⟩;rcases hq with hq |hq;let⟨its,r',pl,hz⟩:=I.list hq;have hlen:=r'.length;let⟨o,ho,hc,n,hd⟩:=pl.isList;exact call_list_seq p (.inl rfl) ho hc hd (λh' c' kp e=>fin its r' hz h' c' kp e) (by simp only[aG]<;>lia);let⟨its,r',pl,hz⟩:=I.tuple hq;have hlen:=r'.length;let⟨o,ho,hc,n,hd⟩:=pl;exact call_list_seq p (.inr rfl) ho hc hd (λh' c' kp e=>fin its r' hz h' c' kp e)<|by simp<;>lia
def zw:iq X (.type "tuple") (λxs H Q=>∃p ys,xs=[.ref p]/\((Wd X.K H p ys/\∀l,H l=none->Q (.ref l) (dH H l<|.tup ys))\/(WM X.K H p ys/\Q (.ref p) H))):=by intro on s Y H xs us Q I r h;obtain⟨p,ys,rfl,h⟩:=h;obtain⟨u,rfl,rx⟩:=lB r;cases rx;rcases h with⟨hq,q⟩ |⟨hq,q⟩;let⟨its,r',pl,hz⟩:=I.list hq;have hlen:=r'.length;refine call_tuple_list pl.isList (λh' kp=>?_) (by simp<;>lia);have I1:=I.kept (t':=s.toks) kp;have I2:=I1.laid (t':=s.toks) (λb o e=>Heap.get?_push_of_some _ e) (ao _) (show VT X.prog X.w _ _ _ (.tup ys)from⟨hz,its,r',IsTup.new _ _⟩);exact⟨.ref h'.objs.size,_,I2,rfl,q _<|I1.VG.fresh<|ao _⟩;let⟨its,r',pl,hz⟩:=I.tuple hq;exact call_tuple_same pl ⟨.ref p,H,I,rfl,q⟩
def N6(K:eZ)(T:String)(x:V)(H:Hp):Prop:=match x with
 |.str _=>T="str"|.int _=>T="int"
 |.ref p=>(T="list"/\∃xs,Wd K H p xs)\/(T="tuple"/\∃o,K.lookup p=some o/\o.cls=.type "tuple"/\o.dict=none)\/(T="dict"/\((∃kvs,H p=some (.dK kvs))\/∃kvs,H p=some (.dT kvs)))\/(T="set"/\∃S n,H p=some (.set S n))|_=>False
def DS(I:Inv X on Y H s)(r:RelV x v)(ty:N6 X.K T x H):s.TypeIs v T/\∀a,v=.ref a->∃ob,s.heap.get? a=some ob/\ob.dict=none:=by
 cases x with
 |str z=>obtain⟨t,rfl⟩:=r;cases(ty);exact⟨Ve s z t,λ_ e=>nomatch e⟩
 |int i=>obtain⟨t,rfl⟩:=r;cases(ty);exact⟨typeIs_int s i t,λ_ e=>nomatch e⟩
 |ref p=>
  cases r;rcases ty with⟨rfl,xs,hq⟩ |⟨rfl,o,hk,hc,hd⟩ |⟨rfl,hk⟩ |⟨rfl,S,n,hk⟩;obtain⟨its,_,pl,_⟩:=I.list hq;refine⟨pl.isList.typeIs,λa e=>?_⟩;cases e;obtain⟨o,n,e,c,hd,_⟩:=pl;exact⟨o,e,hd⟩;refine⟨⟨o,I.WO p o hk,hc⟩,λa e=>?_⟩;cases e;exact⟨o,I.WO _ o hk,hd⟩;have z:∃o,s.heap.get? p=some o/\o.ExactDict:=by rcases hk with⟨kvs,hk⟩ |⟨kvs,hk⟩;obtain⟨_,_,_,_,o,_,_,e,ex,_⟩:=I.VG p _ hk;exact⟨o,e,ex⟩;obtain⟨_,_,_,_,o,_,_,e,ex,_⟩:=I.VG p _ hk;exact⟨o,e,ex⟩
  obtain⟨o,e,ex⟩:=z;refine⟨⟨o,e,ex.1⟩,λa e2=>?_⟩;cases e2;exact⟨o,e,ex.2.1⟩;obtain⟨o,_,_,_,e,ex,_⟩:=I.VG p _ hk;refine⟨⟨o,e,ex.1⟩,λa e2=>?_⟩;cases e2;exact⟨o,e,ex.2.1⟩
 |_=>exact False.elim ty
def Th(K:eZ)(T:String)(r:V->fh->Hp->VK->Prop)(to:TE):TE:=λY H Q=>to Y H λx H1=>N6 K T x H1/\r x [] H1 Q
def UV(K:eZ)(T:String)(r:V->fh->Hp->VK->Prop)(to:TE)(t:TA):TE:=λY H Q=>to Y H λx H1=>N6 K T x H1/\t Y H1 λxs H2=>r x xs H2 Q
variable {id:String}{r:V->fh->Hp->VK->Prop}
def Ec{apos:Pos}{Vx:Pos}(pa:PlainAttrs T)(slot:Slot T name id)(hty:typeOf (.builtin id)=pure (.type "method_descriptor"))(hm:R8 X id r)(ho:PE X o to)(WX:attributeBase o name X.env (eval o X.env)=eval o X.env:=by rfl)(VO:(apos.endLine==Vx.line)=true:=by rfl):PE X (.Call (.Attribute o name apos) [] [] Vx) (Th X.K T r to):=by refineλon s Y H Q I h=>wpAny_Call_method0_late WX VO (fq (ho on s Y H _ I h) λv s1 ⟨x,H1,I1,r1,ty,q1⟩=>?_);obtain⟨h1,h2⟩:=DS I1 r1 ty;exact⟨T,id,pa,slot,hty,h1,h2,DI rfl<|PySem.evalArgs_none<|hm on s1 Y H1 x [] v [] Q I1 r1 .nil q1⟩
def xk{apos:Pos}(pa:PlainAttrs T)(slot:Slot T name id)(hty:typeOf (.builtin id)=pure (.type "method_descriptor"))(hm:R8 X id r)(ho:PE X o to)(ha:PA X (e::es) t)(WX:attributeBase o name X.env (eval o X.env)=eval o X.env:=by rfl)(WW:((backTo Vx<|starEach (e::es) X.env).all (λx=>!x.1)&&(backToKw Vx<|keywordEach [] X.env).all (λx=>x.1.isSome)&&decide ((e::es).length+([]:List Keyword).length+(if([]:List Keyword).isEmpty then 0 else 1)<30))=true:=by rfl)(VO:(apos.endLine==Vx.line)=true:=by rfl)(hs:Fc e es X.env:=by rfl)(zBJ:tN Vx es X.env:=by rfl):PE X (.Call (.Attribute o name apos) (e::es) [] Vx) (UV X.K T r to t):=by refineλon s Y H Q I h=>wpAny_Call_method_late WX WW VO rfl (fq (ho on s Y H _ I h) λv s1 ⟨x,H1,I1,r1,ty,q1⟩=>?_);obtain⟨h1,h2⟩:=DS I1 r1 ty;refine⟨T,id,pa,slot,hty,h1,h2,?_⟩;have hA:=ha Vx on s1 Y H1 _ I1 q1;rw[hs]at hA ⊢;refine DI (by show(false||(backTo Vx<|starEach es X.env).any (·.1))=false;rw[zBJ]<;>rfl)<|HW ?_;exact fq hA λus s2 ⟨vs,H2,I2,r2,q2⟩=>hm on s2 Y H2 x vs v us Q I2 r1 r2 q2
end
def Uc(X:Cx)(id:String)(r:V->fh->Hp->VK->Prop):Prop:=∀(on:gC)(s:Shared)(Y:St)(H:Hp)(x:V)(xs:fh)(v:Value)(us:jh)(Q:VK),Inv X on Y H s->RelV x v->Vals xs us->r x xs H Q->fg X (call (.builtin id)<|v::us) (EP X on Y Q) X.xe s
def Vals.one:∀{x:V}{us:jh},Vals [x] us->∃u,us=[u]/\RelV x u|_,_,.cons r .nil=>⟨_,rfl,r⟩
def Vals.zero:∀{us:jh},Vals [] us->us=[]|_,.nil=>rfl
def Vals.dropLast(h:Vals xs us):Vals xs.dropLast us.dropLast:=by induction h with|nil=>exact .nil|cons r t ih=>cases t with|nil=>exact .nil|cons q t'=>exact .cons r ih
def Vals.reverse(h:Vals xs us):Vals xs.reverse us.reverse:=by induction h with|nil=>exact .nil|cons r t ih=>rw[nI,nI];exact Vals.append ih<|.cons r .nil
def Vals.rep(h:Vals xs us):∀k:Nat,Vals (List.replicate k xs).flatten (List.replicate k us).flatten|0=>.nil|k+1=>by rw[bf,bf,cB,cB];exact Vals.append h<|Vals.rep h k
def EC{α:Type}(l:List α):l.eraseIdx (l.length-1)=l.dropLast:=by
 induction l with
 |nil=>rfl
 |cons a r ih=>
  cases r with
  |nil=>rfl
  |cons b r=>
   have e:(a::b::r).length-1=((b::r).length-1)+1:=by have h1:(a::b::r).length=r.length+2:=rfl;have h2:(b::r).length=r.length+1:=rfl;lia
   rw[e,List.eraseIdx_cons_succ,ih];all_goals rfl
def AM(its:jh):∀(k:Nat)(acc:jh),List.foldl (λx1 x2=>x1++x2) acc.toArray (List.replicate k its.toArray)=(acc++(List.replicate k its).flatten).toArray
 |0,acc=>by simp
 |k+1,acc=>by
  have e:acc.toArray++its.toArray=(acc++its).toArray:=by simp
  have e2:(acc++its)++(List.replicate k its).flatten=acc++(List.replicate (k+1) its).flatten:=by rw[bf,cB,aO]
  rw[<-e2,<-AM its k (acc++its),<-e,bf,List.foldl_cons]
def Inv.zBE{its Xw:jh}{t':Nat}{l:Addr}{f:Array Value->Array Value}(I:Inv X on Y H s)(hH:H l=some (.lst xs))(e:s.heap.get? l=some {cls:=.type "list",data:=.seq its.toArray n})(hf:f its.toArray=Xw.toArray)(hv:Vals ys Xw)(hz:ys.length<=sizeLine):Inv X on Y (dH H l<|.lst ys) {s with heap:=s.heap.update l<|Obj.mapSeq f,toks:=t'}:=by have q:=PySem.IsL.update e f;rw[hf]at q;refine I.write (by rw[hH];exact trivial) (.inl rfl) (λb' u hb hu=>(Heap.get?_update_other s.heap (Obj.mapSeq f)<|eF hb).trans hu) ⟨_,q⟩ ?_;exact⟨hz,Xw,_,hv,q⟩
def Inv.zBF{t':Nat}(I:Inv X on Y H s)(hv:Vals ys its)(hz:ys.length<=sizeLine):Inv X on Y (dH H s.heap.objs.size<|.lst ys) {s with heap:=s.heap.push {cls:=.type "list",data:=.seq its.toArray},toks:=t'}:=I.laid (λ_ _ q=>Heap.get?_push_of_some _ q) (ao _) ⟨hz,its,0,hv,Heap.get?_push_size _ rfl⟩
def Inv.fresh(I:Inv X on Y H s):H s.heap.objs.size=none:=I.VG.fresh<|ao _
def Inv.YD{l:Addr}(I:Inv X on Y H s)(hH:H l=some (.lst xs)):xs.length<=sizeLine/\∃(its:jh)(n:Nat),Vals xs its/\xs.length=its.length/\s.heap.get? l=some {cls:=.type "list",data:=.seq its.toArray n}:=by let⟨z,its,n,r,e⟩:=I.VG l _ hH;exact⟨z,its,n,r,r.length,e⟩
def CO{n:Nat}(h:n<=sizeLine):Builtin.List.listTooLong n=false:=by exact aj<|by lia
def LH:V->fh->Hp->VK->Prop:=λx vs H Q=>∃l xs y,x=.ref l/\vs=[y]/\H l=some (.lst xs)/\xs.length<sizeLine/\Q .VH (dH H l<|.lst<|xs++[y])
def nV:Uc X "list.append" LH:=by intro on s Y H x vs v us Q I rx rv h;obtain⟨l,xs,y,rfl,rfl,hH,hz,q⟩:=h;cases rx;obtain⟨u,rfl,ru⟩:=rv.one;let⟨z,its,n,r,hl,e⟩:=I.YD hH;refine DE F.slot_list_append ⟨_,e,rfl⟩ F.entry_list_append (F.args_list_append_2 _ _) (PySem.list_append l its.toArray n u<|by rw[aG];lia) ⟨e,?_⟩;refine⟨.VH,_,I.zBE hH e (by simp) (r.append<|.cons ru .nil) ?_,rfl,q⟩;rw[ag,eB];lia
def LG:V->fh->Hp->VK->Prop:=λx vs H Q=>∃l b xs zs,x=.ref l/\vs=[.ref b]/\H l=some (.lst xs)/\H b=some (.lst zs)/\xs.length+zs.length<=sizeLine/\Q .VH (dH H l<|.lst<|xs++zs)
def Hj:Uc X "list.extend" LG:=by
 intro on s Y H x vs v us Q I rx rv h;obtain⟨l,b,xs,zs,rfl,rfl,hH,hB,hz,q⟩:=h;cases rx;obtain⟨u,rfl,ru⟩:=rv.one;cases ru;let⟨z,its,n,r,hl,e⟩:=I.YD hH;let⟨z2,YF,n2,r2,hl2,e2⟩:=I.YD hB;have XS:its.toArray.size+YF.toArray.size<=sizeLine:=by rw[aG,aG];lia
 have Zx:¬(!its.toArray.isEmpty&&Builtin.List.listTooLong (its.toArray.size+YF.toArray.size))=true:=by rw[CO XS,tJ];exact aA
 refine DE F.slot_list_extend ⟨_,e,rfl⟩ F.entry_list_extend (F.args_list_extend_2 _ _) (AutoSeq1.list_extend_list_list_0 l its.toArray n b YF.toArray n2 Zx (by rw[aG];lia)<|by lia) ⟨e,e2,?_⟩;refine⟨.VH,_,I.zBE hH e (by simp) (r.append r2) ?_,rfl,q⟩;rw[ag];lia
def Tu:V->fh->Hp->VK->Prop:=λx vs H Q=>∃l xs y,x=.ref l/\vs=[]/\H l=some (.lst xs)/\xs[xs.length-1]?=some y/\Q y (dH H l<|.lst xs.dropLast)
def JF:Uc X "list.pop" Tu:=by
 intro on s Y H x vs v us Q I rx rv h;obtain⟨l,xs,y,rfl,rfl,hH,hy,q⟩:=h;cases rx;have hus:=rv.zero;subst hus;let⟨z,its,n,r,hl,e⟩:=I.YD hH;let⟨u,hu,ru⟩:=r.get hy;have hy':its.toArray[its.toArray.size-1]?=some u:=by show its.toArray[its.length-1]?=some u;rwa[<-Array.getElem?_toList,<-hl]
 refine DE F.slot_list_pop ⟨_,e,rfl⟩ F.entry_list_pop (F.args_list_pop_1 _) (MeetsSeq.list_pop_last l its.toArray n u hy'<|by rw[aG];lia) ⟨e,?_⟩;refine⟨y,_,I.zBE hH e ?_ r.dropLast ?_,ru,q⟩;rw[aG,List.eraseIdxIfInBounds_toArray,EC];rw[Vi];lia
def Tx:R2:=λx y H Q=>∃l b xs zs,x=.ref l/\y=.ref b/\H l=some (.lst xs)/\H b=some (.lst zs)/\xs.length+zs.length<=sizeLine/\∀p,H p=none->Q (.ref p) (dH H p<|.lst<|xs++zs)
def Jy:mj X (binaryOp .Add) Tx:=by
 intro on s Y H x y v u Q I rx ry h;obtain⟨l,b,xs,zs,rfl,rfl,hH,hB,hz,q⟩:=h;cases rx;cases ry;let⟨z,its,n,r,hl,e⟩:=I.YD hH;let⟨z2,YF,n2,r2,hl2,e2⟩:=I.YD hB;refine PySem.P.add_list e e2 ?_ (by rw[aG,aG];lia);have ea:its.toArray++YF.toArray=(its++YF).toArray:=by simp
 rw[ea];exact⟨.ref _,_,I.zBF (r.append r2)<|by rw[ag];lia,rfl,q _ I.fresh⟩
def Tt:R2:=λx y H Q=>∃l k xs,x=.ref l/\y=.int k/\H l=some (.lst xs)/\-(2 ^ 63)<=k/\k<2 ^ 63/\xs.length*k.toNat<=sizeLine/\∀p,H p=none->Q (.ref p) (dH H p<|.lst (List.replicate k.toNat xs).flatten)
def L8{α:Type}(xs:List α)(k:Nat):(List.replicate k xs).flatten.length=k*xs.length:=by induction k with|zero=>simp|succ k ih=>rw[bf,cB,ag,ih,nF,yo]
def OF:mj X (binaryOp .Mult) Tt:=by
 intro on s Y H x y v u Q I rx ry h;obtain⟨l,k,xs,rfl,rfl,hH,h1,h2,hz,q⟩:=h;cases rx;obtain⟨t,rfl⟩:=ry;let⟨z,its,n,r,hl,e⟩:=I.YD hH;have hlen:its.toArray.size*k.toNat<=sizeLine:=by rwa[aG,<-hl]
 have zG9:¬its.toArray.size*k.toNat>(2 ^ 63-1) / 8:=by
  have:sizeLine<=(2 ^ 63-1) / 8:=by decide
  lia
 have zG2:¬(!Builtin.List.listFitsIndex k)=true:=by rw[fitsIndex_both h1 h2];exact aA
 have Zx:¬Builtin.List.listTooLong (its.toArray.size*k.toNat)=true:=by rw[CO hlen];exact aA
 have zGM:List.foldl (λx1 x2=>x1++x2) #[] (List.replicate (if its.toArray.isEmpty=true then 0 else k.toNat) its.toArray)=(List.replicate k.toNat its).flatten.toArray:=by
  have f0:∀m:Nat,List.foldl (λx1 x2=>x1++x2) #[] (List.replicate m its.toArray)=(List.replicate m its).flatten.toArray:=λm=>by have:=AM its m [];rwa[yw]at this
  rw[f0];cases its with|nil=>simp|cons a r'=>rw[av<|by simp]
 refine wpAny_binaryOp_repeat_ref rfl ⟨_,e,rfl⟩ (λs'=>typeIs_int s' k t) noFill_list_mul F.fills_int_mul F.slot_int_rmul repeat_list F.slot_int_index.lookup<|DE F.slot_int_rmul (typeIs_int s k t) F.entry_int_rmul (F.args_int_rmul_2 _ _) (int___rmul___int_list k t l its.toArray n) ⟨e,rfl,⟨_,e,rfl⟩,DE F.slot_list_mul ⟨_,e,rfl⟩ F.entry_list_mul (F.args_list_mul_2 _ _) (AutoListH.list___mul___list_int_3 l its.toArray n k t zG2 zG9 Zx) ⟨e,?_⟩⟩;rw[zGM];exact⟨.ref _,_,I.zBF (r.rep k.toNat)<|by rwa[L8,HV],rfl,q _ I.fresh⟩
end L2
namespace Att
open PySem PySem.W PySem.Calls PyProof.Rows
variable {H:Hp}{X:Cx}{pos:Pos}
variable {K:eZ}
def vZ{P:Params}:∀(ns:bR)(vs:jh),WellAll P h vs (ns.map WData.int)->IntsAre vs ns:=by
 intro ns;induction ns with
 |nil=>intro vs w;rw[rS]at w;cases w;exact .nil
 |cons n ns ih=>intro vs w;rw[bp]at w;cases w with|cons a b=>cases a;exact .cons _ _<|ih _ b
def G8{l:OpenLaw}(hn:l.most=some n){P:Params}{args:List WData}(Z8:l.row.toRowW.claim.pre args=true)(hwl:WellAll P h vals args):∃a vs ns,vals=[Value.ref a]/\args=[WData.list<|ns.map WData.int]/\h.get? a=some {cls:=.type "list",data:=.seq vs.toArray}/\IntsAre vs ns/\ns.length<=n:=by
 have hsh:=(pre_splitW Z8).1;have hc:=(pre_splitW Z8).2;obtain⟨d,r,rfl,h1,h2⟩:=hasAllW_cons hsh;obtain rfl:=hasAllW_nil h2;obtain⟨xs,rfl,h3⟩:=hasW_list h1;obtain⟨ns,rfl⟩:=items_int h3;have hlen:ns.length<=n:=by
  have h4:(WTm.not<|.lt (.lit<|.int n)<|.len<|.arg 0).holds [] {args:=[.list<|ns.map .int]}=true:=by have h4:=(holds_andW hc).1;rwa[hn]at h4
  have h5:=condW_of h4<|w_not<|w_lt w_lit<|w_len_list<|w_arg rfl;rw[ai]at h5;refine Nat.le_of_not_lt λq=>?_;first
   |(rw[ar q']at h5;decide)|(simp at h5;lia)
 cases hwl with|cons w1 w2=>cases w2;cases w1 with|list ho zHA=>exact⟨_,_,ns,rfl,rfl,ho,vZ ns _ zHA,hlen⟩
def Hb(l:OpenLaw)(args:List WData):l.row.toRowW.claim.post args (.bool true) args=true:=postW_of (by first |rfl |decide |simp[WShape.has,WShape.arms,WShape.armsAll]) (w_eq_bool (w_res rfl) w_lit) rfl
def Yv{l:OpenLaw}{XP:(Str->Option Value)->Heap->Prop}{YP:World->Heap->Prop}{d:DefRec}(hn:l.most=some n)(hdf:d.params.defaults=[])(call:∀(w:World)(s₀ s₁:Shared)(mg mb:tK)(fa:Addr)(o:Obj)(pm cd doc:Value)(a:Addr)(vs:jh)(ns:bR),Ground q loose [] XP w s₀ mg mb s₁.heap->YP w s₁.heap->s₁.heap.get? fa=some o->o.data=.func (docDef d.name d.params d.body d.scope pm cd doc)->s₁.heap.CodeRec cd d.name->mg d.name=some (.ref fa)->s₁.heap.get? a=some {cls:=.type "list",data:=.seq vs.toArray}->IntsAre vs ns->ns.length<=n->s₁.gens=#[]->codeAny (model l.prog w) callerA (.call (.ref fa) ⟨[.ref a],[]⟩) (λr s'=>r=.ok (.ret<|.bool true)/\OldK s₁.heap s'.heap/\s'.os=s₁.os/\AllBare s'.gens) s₁):WalkO q loose XP YP l.row.toRowW d [] (λf vs=>PySem.call f vs):=by intro w s₀ s₁ mg mb G Y fa o pm cd doc dV kV ho hd YG hD hmg hg args vals as Z8 zOE hrd hwl Zf;obtain rfl:dV=.none:=Dflts.none hD hdf;obtain rfl:kV=.none:=Dflts.noKw hD;obtain⟨a,vs,ns,rfl,rfl,zBK,hints,hlen⟩:=G8 hn Z8 hwl;refine enter_call (pQ (call w s₀ s₁ mg mb fa o pm cd doc a vs ns G Y ho (fd_plain hd) YG hmg zBK hints hlen hg) λr s' hq=>?_);obtain⟨rfl,h2,h3,h4⟩:=hq;exact⟨.inl ⟨.bool true,.bool true,[],rfl,λ_=>rfl,.bool true,Hb l _,λ_=>⟨List.Pairwise.nil,λ_ hm=>(nomatch hm)⟩⟩,h2,h3,h4⟩
section
variable {K:Frag}
def TM(h:Heap)(L d:Addr):gC:=(List.range h.objs.size).filterMap λa=>if a=L\/a=d then none else(h.get? a).map λo=>(a,o)
end
end Att
namespace L2
open PySem PySem.W PySem.Spec PyProof.Rows
variable {H:Hp}{X:Cx}{pos:Pos}
variable {K:eZ}
def Ap:∀{vs:jh}{ns:bR},IntsAre vs ns->Vals (ns.map V.int) vs|_,_,.nil=>.nil|_,_,.cons n t h=>.cons ⟨t,rfl⟩<|Ap h
def PX(H:Hp):Prop:=∀b,H b=none\/∃o xs,H b=some (.W5 o<|.lst xs)
def JN{a:Addr}{x:Str}{s₁:Shared}{vs:jh}(KX:K.In s₁.heap)(hns:s₁.heap.Ns mainGlobals mg)(hb:s₁.heap.Ns builtinsNs mb)(hbb:∀x:Str,x≠"__name__"->mb x=bootBuiltins x)(zGR:s₁.heap.NoLimit)(YT:s₁.heap.NoSeer)(hg:s₁.gens=#[])(ha:s₁.heap.get? a=some {cls:=.type "list",data:=.seq vs.toArray})(hi:IntsAre vs ns)(hl:ns.length<=sizeLine)(hr:VS k callerA)(F:∀base:Heap,K.In base->base.Ns mainGlobals mg->dZ P w K mg base CX k fa fd [x] sp)(zDY:∀(s:Shared)(u:Value),BindsTo s fd ⟨[u],[]⟩ [(x,u)])(Yl:∀H:Hp,PX H->Wd K H a (ns.map V.int)->sp [.ref a] H (λv _=>v=.bl true) λ_ _ _=>False)(hCX:∀H e s',CX [] H s₁ (λ_ _ _=>False) e s'->False):
  codeAny (model P w) callerA (.call (.ref fa) ⟨[.ref a],[]⟩) (λr s'=>r=.ok (.ret<|.bool true)/\OldK s₁.heap s'.heap/\s'.os=s₁.os/\AllBare s'.gens) s₁:=by
 have rv:=Ap hi
 have zF7:=hi.length
 have core:∀H:Hp,PX H->Wd K H a (ns.map V.int)->Xu P w H s₁.heap->(∀b,H b≠none->b=a)->(H a≠none->K.lookup a=none)->
   codeAny (model P w) callerA (.call (.ref fa) ⟨[.ref a],[]⟩) (λr s'=>r=.ok (.ret<|.bool true)/\OldK s₁.heap s'.heap/\s'.os=s₁.os/\AllBare s'.gens) s₁:=by
  intro H hO hS VG hA hK
  have Yb:∀{b:Addr}{o:Obj},s₁.heap.get? b=some o->H b=none->(zo s₁.heap H).get? b=some o:=λe n=>JX e n
  have noA:∀{b:Addr}{o:Obj}{es:Array DictEntry}{ep:Nat},s₁.heap.get? b=some o->o.data=.dict es ep->H b=none:=λ{b o es ep}e d=>by
   cases q:H b with
   |none=>rfl
   |some u=>
    have e':=hA b<|by rw[q];simp
    subst e'
    rw[ha]at e;cases e
    have d':=d
    cases d'
  have nsK:∀{b:Addr}{m:tK},s₁.heap.Ns b m->(zo s₁.heap H).Ns b m:=λ{b m} ⟨o,es,ep,e,d,r⟩=>⟨o,es,ep,Yb e<|noA e d,d,r⟩
  have hKb:K.In (zo s₁.heap H):=λb o e=>Yb (KX b o e) (by
   cases q:H b with
   |none=>rfl
   |some u=>
    have e':=hA b<|by rw[q];simp
    subst e'
    rw[hK (by rw[q];simp)]at e;cases e)
  have zDZ:(zo s₁.heap H).NoSeer:={
   statics:=let⟨mc,a1,b1⟩:=YT.statics;⟨mc,nsK a1,b1⟩
   mods:=let⟨mc,a1,b1⟩:=YT.mods;⟨mc,nsK a1,b1⟩
   imp:=let⟨mc,a1,b1⟩:=YT.imp;⟨mc,nsK a1,b1⟩
   main:=let⟨V3,bm,ob,a1,b1,c1,d1,e1⟩:=YT.main;⟨V3,bm,ob,nsK a1,b1,Yb c1 (by
    cases q:H bm with
    |none=>rfl
    |some u=>
     have e':=hA bm<|by rw[q];simp
     subst e'
     rw[ha]at c1;cases c1
     injection d1 with d2
     exact absurd d2 (by decide)),d1,e1⟩}
  have hM:Mod K mg (zo s₁.heap H):=⟨hKb,nsK hns,⟨mb,nsK hb,hbb⟩,let⟨mc,h1,h2⟩:=zGR;⟨mc,nsK h1,h2⟩,zDZ⟩
  have e0:YL P w K mg (zo s₁.heap H) callerA [] s₁ H:=⟨rfl,hM,λb o e=>L5 e,iZ<|Hq _ _,trivial,λb hb=>absurd (show b∈([]:List Addr)from hb)<|by simp,VG,.of_eq hg⟩
  refine pQ ((F _ hKb<|nsK hns).run callerA [] s₁ H ⟨[.ref a],[]⟩ [.ref a] [.ref a] _ _ hr e0 (zDY s₁<|.ref a) (.cons rfl .nil)<|Yl H hO hS) λr s' h=>?_
  cases r with
  |error e=>exact(hCX H e s' h).elim
  |ok fl=>
   cases fl with
   |next=>exact False.elim h
   |brk=>exact False.elim h
   |cont=>exact False.elim h
   |ret u=>
    obtain⟨v,H',os,bare,un,zGK,r',q⟩:=h
    have q':=q
    subst q'
    obtain rfl:u=Value.bool true:=r'
    refine⟨rfl,OldK.of_keep λb o e=>?_,os,bare⟩
    cases q:H b with
    |none=>exact un.keep b o e q (by intro z;exact absurd (show b∈([]:List Addr)from z)<|by simp)<|by simp
    |some u=>
     rcases hO b with z |⟨ob,xs,z⟩
     rw[q]at z;cases z
     obtain⟨e1,_⟩:=VG b _ z
     obtain⟨e2,_⟩:=zGK b _<|un.Wm b ob _ z
     rw[e]at e1;cases e1
     exact e2
 cases hk:K.lookup a with
 |some o=>
  have e:=KX a o hk
  rw[ha]at e
  cases e
  refine core (λ_=>none) (λ_=>.inl rfl) (.inr ⟨_,vs.toArray,_,hk,rfl,rfl,rfl,by rwa[aG,zF7],by simpa using rv⟩) (λb u z=>by have z':=z;cases z') (λb z=>absurd rfl z) λz=>absurd rfl z
 |none=>
  refine core (λb=>if b=a then some (.W5 {cls:=.type "list",data:=.seq vs.toArray}<|.lst<|ns.map V.int)else none) (λb=>?_) (.inl<|.inr ⟨{cls:=.type "list",data:=.seq vs.toArray},ax rfl⟩) (λb u z=>?_) (λb z=>?_) λ_=>hk
  by_cases hb:b=a
  exact .inr ⟨_,_,ax hb⟩
  exact .inl<|av hb
  by_cases hb:b=a
  have z':=(ax hb).symm.trans z
  cases z'
  subst hb
  exact⟨ha,by rwa[ai],vs,_,rv,ha⟩
  have z':=(av hb).symm.trans z
  cases z'
  by_cases hb:b=a
  exact hb
  exact absurd (av hb) z
def Z1{q:Program}{l:PySem.W.OpenLaw}{XP:(Str->Option Value)->Heap->Prop}{YP:World->Heap->Prop}{d:DefRec}{K:Params->eZ}{CX:World->P3}{sp:World->Sp}(hq:importsNone q=true)(hn:l.most=some n)(hn2:n<=sizeLine)(hdf:d.params.defaults=[])(hr:VS k callerA)(hY:∀(w:World)(h:Heap),YP w h->(K w.params).In h)(F:∀(w:World)(mg:tK)(fa:Addr)(h:Heap),(K w.params).In h->h.Ns mainGlobals mg->mg d.name=some (.ref fa)->∃fd:FuncData,(∀(s:Shared)(u:Value),BindsTo s fd ⟨[u],[]⟩ [(x,u)])/\∀base:Heap,(K w.params).In base->base.Ns mainGlobals mg->dZ l.prog w (K w.params) mg base (CX w) k fa fd [x] (sp w))(Yl:∀(w:World)(H:Hp)(a:Addr)(ns:bR),ns.length<=n->PX H->Wd (K w.params) H a (ns.map V.int)->sp w [.ref a] H (λv _=>v=.bl true) λ_ _ _=>False)(hCX:∀(w:World)(H:Hp)(s:Shared)(e:Value)(s':Shared),CX w [] H s (λ_ _ _=>False) e s'->False):PySem.W.WalkO q loose XP YP l.row.toRowW d [] (λf vs=>PySem.call f vs):=by refine Att.Yv hn hdf λw s₀ s₁ mg mb fa o pm cd doc a vs ns G Y ho hd YG hmg zBK hints hlen hg=>?_;have KX:=hY w _ Y;let⟨fd,hb,hF⟩:=F w mg fa _ KX G.T.g hmg;exact JN KX G.T.g G.T.b G.T.builtins G.T.nolimit (G.T.seer hq) hg zBK hints (aJ hlen hn2) hr hF hb (λH hO hS=>Yl w H a ns hlen hO hS) λH e s'=>hCX w H s₁ e s'
def ju(s:Stmt):Arguments:=match s with|.FunctionDef _ a _ _ _ _ _ _ _ _=>a|_=>{posonlyargs:=[],args:=[],vararg:=none,kwonlyargs:=[],kw_defaults:=[],kwarg:=none,defaults:=[]}
def aW(s:Stmt):List Stmt:=match s with|.FunctionDef _ _ b _ _ _ _ _ _ _=>b|_=>[]
def aq(s:Stmt):Scope:=match s with|.FunctionDef _ _ _ _ _ _ sc _ _ _=>sc|_=>{kind:=.function,names:=[],isGenerator:=false,isCoroutine:=false}
abbrev jd:P3:=λ_ _ _ _ _ _=>False
abbrev E0:XK:=λ_ _ _=>False
def qf:iB jd X E0:=λ_ _ _ _ _ _ _ h=>h.elim
structure Yw(K:eZ)(x qual:Str)(st:Stmt)(f:Addr)(fd:FuncData):Prop where
 ex:∃(oc:Value)(od:Option Addr)(kV doc pm:Value)(an:Option Addr)(V2 ct:Value)(ZT:Array (Option Value)),
  fd=fnOf x qual (ju st) (aW st) (aq st) .none kV doc pm an V2 ct/\K.lookup f=some ⟨oc,od,.func fd,ZT⟩/\codeIn K V2 qual=true
 kp:keepIn K (.ref f)=true
def Yw.ok{st:Stmt}{sp:Sp}(F:Yw K x qual st f fd)(S:aN N ps (aq st))(len:∀vs H Q E,sp vs H Q E->vs.length=ps.length)(Zz:∀(V2:Value)(A:Around)(outer:List Env)(s:Shared)(H:Hp)(vs:fh)(Q:VK)(E:XK),VS k (A.deeper<|envOfC qual (aq st) s.heap.objs.size f V2)->sp vs H Q E->∃t,YJ (qA jd P w K mg base N qual (aq st) f V2 A outer s H E).XH (aW st) t/\t {nx:=λ_ H'=>Q .VH H',rt:=Q} (start N vs) H):dZ P w K mg base jd (k+1) f fd ps sp:=by obtain⟨oc,od,kV,doc,pm,an,V2,ct,ZT,rfl,lk,YG⟩:=F.ex;refine Gf lk YG S len λA outer s H vs Q E hr Yl=>?_;let⟨t,h,q⟩:=Zz V2 A outer s H vs Q E hr Yl;exact⟨t,h.XH,q⟩
def Yw.binds{st:Stmt}{ps:cn}(F:Yw K x qual st f fd)(h:∀(kV doc pm:Value)(an:Option Addr)(V2 ct:Value)(us:jh),us.length=ps.length->bindArgs (fnOf x qual (ju st) (aW st) (aq st) .none kV doc pm an V2 ct) ⟨us,[]⟩=pure (ps.zip us)):Binds K fd ps []:=by obtain⟨oc,od,kV,doc,pm,an,V2,ct,ZT,rfl,lk,YG⟩:=F.ex;exact .all<|h kV doc pm an V2 ct
def J3{x qual:Str}{st:Stmt}{f:Addr}{an:Option Addr}{kV doc pm V2 ct:Value}(l:K.lookup f=some ⟨oc,od,.func<|fnOf x qual (ju st) (aW st) (aq st) .none kV doc pm an V2 ct,ZT⟩)(c:codeIn K V2 qual=true)(k:keepIn K (.ref f)=true):Yw K x qual st f (fnOf x qual (ju st) (aW st) (aq st) .none kV doc pm an V2 ct):=⟨⟨oc,od,kV,doc,pm,an,V2,ct,ZT,rfl,l,c⟩,k⟩
def Vu(H H':Hp):Prop:=∀b o,H b=some o->H' b=some o
def Vu.refl(H:Hp):Vu H H:=λ_ _ h=>h
def Vu.trans(a:Vu H H1)(b:Vu H1 H2):Vu H H2:=λc o h=>b c o<|a c o h
def Vu.free{l:Addr}(e:Vu H H')(h:H' l=Option.none):H l=Option.none:=by cases q:H l with|none=>rfl|some o=>rw[e l o q]at h;cases h
def Vu.seq(e:Vu H H')(h:Wd K H a xs):Wd K H' a xs:=by rcases h with(h |⟨o,h⟩) |h;exact .inl<|.inl<|e _ _ h;exact .inl<|.inr ⟨o,e _ _ h⟩;exact .inr h
end L2
namespace L2.EV
open PySem PySem.W PySem.Spec PyProof.Rows
variable {H:Hp}{X:Cx}{pos:Pos}
variable {K:eZ}
inductive D where
 |VH |bl (b:Bool) |int (i:Int) |str (x:Str) |tup (xs:List D) |lst (xs:List D) |XF (ns:bR) |exc (C:Addr) |Yp (C ea:Addr) |WI (kvs:List (bR×Int)) |adr (p:Addr) |Xi (q:Addr)
abbrev aM:=List D
def qo(a C:Addr):Heap->Prop:=λh=>∃ob vs,h.get? a=some ob/\ob.cls=.ref C/\ob.data=.fields vs/\vs[2]?=some .none
def RB(o:Obj)(xs:List (bR×Addr×Int)):Prop:=o.ExactDict/\∃(es:Array DictEntry)(ep:Nat)(ys:List (bR×Addr×Value)),o.data=.dict es ep/\(∀(P:Program)(w:World),es.toList=ys.map (entryOfKey<|tupleKind<|intKind P w))/\Paired (λ(x:bR×Addr×Int)(y:bR×Addr×Value)=>y.1=x.1/\y.2.1=x.2.1/\RelV (.int x.2.2) y.2.2) xs ys/\(ys.map (·.1)).Nodup
def EG(a:Addr)(xs:List (bR×Addr×Int)):Heap->Prop:=λh=>xs.length<=sizeLine/\(a==sysModules)=false/\∃o,h.get? a=some o/\RB o xs
def ZQ(F:Hp)(kvs:List (bR×Int))(xs:List (bR×Addr×Int)):Prop:=kvs=xs.map (λx=>(x.1,x.2.2))/\∀x∈xs,F x.2.1=some (.tup<|x.1.map V.int)
def ZQ.mono{kvs:List (bR×Int)}{xs:List (bR×Addr×Int)}(h:Vu F F')(r:ZQ F kvs xs):ZQ F' kvs xs:=⟨r.1,λx hx=>h _ _<|r.2 x hx⟩
mutual
inductive Rep(K:eZ)(F:Hp):V->D->Prop where
 |VH:Rep K F .VH .VH
 |bl (b:Bool):Rep K F (.bl b) (.bl b)
 |int (i:Int):Rep K F (.int i) (.int i)
 |str (x:Str):Rep K F (.str x) (.str x)
 |tup {a:Addr} {vs:fh} {ds:aM}:F a=some (.tup vs)->Vs K F vs ds->Rep K F (.ref a) (.tup ds)
 |lst {a:Addr} {vs:fh} {ds:aM}:F a=some (.lst vs)->Vs K F vs ds->Rep K F (.ref a) (.lst ds)
 |XF {a:Addr} {ns:bR}:Wd K F a (ns.map V.int)->Rep K F (.ref a) (.XF ns)
 |exc {a C:Addr} {ob:Obj}:F a=some (.W5 ob<|.ext<|qo a C)->Rep K F (.ref a) (.exc C)
 |Yp {a C:Addr} {ob:Obj}:F a=some (.W5 ob<|.ext<|qo a C)->Rep K F (.ref a) (.Yp C a)
 |WI {a:Addr} {ob:Obj} {kvs:List (bR×Int)} {xs:List (bR×Addr×Int)}:F a=some (.W5 ob<|.ext<|EG a xs)->ZQ F kvs xs->Rep K F (.ref a) (.WI kvs)
 |adr (a:Addr):Rep K F (.ref a) (.adr a)
 |Xi {a q:Addr}:F a=some (.dK [(Sum.inr "xs",.ref q)])->Rep K F (.ref a) (.Xi q)
inductive Vs(K:eZ)(F:Hp):fh->aM->Prop where
 |nil:Vs K F [] []
 |cons {v:V} {d:D} {vs:fh} {ds:aM}:Rep K F v d->Vs K F vs ds->Vs K F (v::vs) (d::ds)
end
mutual
def Rep.mono(h:Vu F F'):∀{v:V}{d:D},Rep K F v d->Rep K F' v d
 |_,_,.VH=>.VH|_,_,.bl b=>.bl b
 |_,_,.int i=>.int i|_,_,.str x=>.str x
 |_,_,.tup e r=>.tup (h _ _ e) (Vs.mono h r)|_,_,.lst e r=>.lst (h _ _ e)<|Vs.mono h r
 |_,_,.XF e=>.XF (h.seq e)|_,_,.exc e=>.exc<|h _ _ e
 |_,_,.Yp e=>.Yp (h _ _ e)|_,_,.WI e r=>.WI (h _ _ e)<|r.mono h
 |_,_,.adr a=>.adr a|_,_,.Xi e=>.Xi<|h _ _ e
def Vs.mono(h:Vu F F'):∀{vs:fh}{ds:aM},Vs K F vs ds->Vs K F' vs ds|_,_,.nil=>.nil|_,_,.cons r t=>.cons (Rep.mono h r)<|Vs.mono h t
end
def Vs.length:∀{vs:fh}{ds:aM},Vs K F vs ds->vs.length=ds.length|_,_,.nil=>rfl|_,_,.cons _ t=>aL Nat.succ<|Vs.length t
def Vs.get:∀{vs:fh}{ds:aM}{i:Nat}{d:D},Vs K F vs ds->ds[i]?=some d->∃v,vs[i]?=some v/\Rep K F v d
 |_,_,_,_,.nil,e=>by simp at e|_,_,0,_,.cons r _,e=>by simp at e;subst e;exact⟨_,rfl,r⟩
 |_,_,i+1,d,.cons _ t,e=>by let⟨v,h1,h2⟩:=Vs.get t e;exact⟨v,by simpa using h1,h2⟩
def Vs.append:∀{vs us:fh}{ds es:aM},Vs K F vs ds->Vs K F us es->Vs K F (vs++us) (ds++es)|_,_,_,_,.nil,s=>s|_,_,_,_,.cons r t,s=>.cons r<|Vs.append t s
def Vs.take:∀{vs:fh}{ds:aM}(n:Nat),Vs K F vs ds->Vs K F (vs.take n) (ds.take n)
 |_,_,0,_=>.nil|_,_,_+1,.nil=>.nil
 |_,_,n+1,.cons r t=>.cons r<|Vs.take n t
def Vs.drop:∀{vs:fh}{ds:aM}(n:Nat),Vs K F vs ds->Vs K F (vs.drop n) (ds.drop n)
 |_,_,0,r=>r|_,_,_+1,.nil=>.nil
 |_,_,n+1,.cons _ t=>Vs.drop n t
def Vs.set(r:Rep K F v d):∀{vs:fh}{ds:aM}(i:Nat),Vs K F vs ds->Vs K F (vs.set i v) (ds.set i d)
 |_,_,_,.nil=>.nil|_,_,0,.cons _ t=>.cons r t
 |_,_,i+1,.cons q t=>.cons q<|Vs.set r i t
def Vs.dropLast{ds:aM}(h:Vs K F vs ds):Vs K F vs.dropLast ds.dropLast:=by rw[UK,UK,h.length];exact h.take _
def Vs.reverse:∀{vs:fh}{ds:aM},Vs K F vs ds->Vs K F vs.reverse ds.reverse|_,_,.nil=>.nil|_,_,.cons r t=>by rw[nI,nI];exact Vs.append (Vs.reverse t)<|.cons r .nil
def Vs.rep{ds:aM}(h:Vs K F vs ds):∀k:Nat,Vs K F (List.replicate k vs).flatten (List.replicate k ds).flatten|0=>.nil|k+1=>by rw[bf,bf,cB,cB];exact Vs.append h<|Vs.rep h k
def Vs.ints:∀ns:bR,Vs K F (ns.map V.int) (ns.map D.int)|[]=>.nil|n::ns=>.cons (.int n)<|Vs.ints ns
structure B0 where
 F:Hp
 H:Hp
structure Ext(B:B0)(F H:Hp):Prop where
 sub:Vu F H
 sh:Vu B.H H
 sf:Vu B.F F
 nw:∀a,F a≠none->B.F a≠none\/B.H a=none
inductive Sl where
 |un |val (d:D) |own (xs:aM) |X0 (kvs:List (bR×Int))
abbrev Fd(N:List Str)(ds:List D):List Sl:=ds.map Sl.val++List.replicate (N.length-ds.length) Sl.un
abbrev P9(x:D)(N:List Str)(ds:List D):List Sl:=.val x::ds.map Sl.val++List.replicate (N.length-(ds.length+1)) Sl.un
structure DOk(B:B0)(F H:Hp)(Y:St)(U:List Sl):Prop where
 YH:∀(i:Nat)kvs,U[i]?=some (.X0 kvs)->∃a es,Y[i]?=some (some<|.ref a)/\H a=some (.ext<|EG a es)/\F a=none/\B.H a=none/\ZQ F kvs es
 Yr:∀(i j:Nat)xs ys a,U[i]?=some (.X0 xs)->U[j]?=some (.X0 ys)->Y[i]?=some (some<|.ref a)->Y[j]?=some (some<|.ref a)->i=j
def DOk.to{H':Hp}{xy:St}{U W1:List Sl}(k:DOk B F H Y U)(hF:Vu F F')(hH:∀a φ,H a=some (.ext φ)->F a=none->B.H a=none->H' a=some (.ext φ)/\F' a=none)(hρ:∀(i:Nat)kvs,W1[i]?=some (.X0 kvs)->U[i]?=some (.X0 kvs)/\xy[i]?=Y[i]?):DOk B F' H' xy W1:=by refine⟨λi kvs e=>?_,λi j xs ys a e1 e2 e3 e4=>?_⟩;let⟨q,z⟩:=hρ i kvs e;let⟨a,es,h1,h2,h3,h4,h5⟩:=k.YH i kvs q;let⟨g1,g2⟩:=hH a _ h2 h3 h4;exact⟨a,es,z.trans h1,g1,g2,h4,h5.mono hF⟩;let⟨q1,z1⟩:=hρ i xs e1;let⟨q2,z2⟩:=hρ j ys e2;exact k.Yr i j xs ys a q1 q2 (z1▸e3)<|z2▸e4
def wm{Y:St}{U:List Sl}{v:Option V}{s:Sl}(hs:∀kvs,s≠.X0 kvs)(j:Nat)(kvs:List (bR×Int))(h:(U.set i s)[j]?=some (.X0 kvs)):U[j]?=some (.X0 kvs)/\(Y.set i v)[j]?=Y[j]?:=by
 by_cases e:i=j;subst e;rw[List.getElem?_set_self']at h;cases z:U[i]? with
 |none=>rw[z]at h;cases h
 |some w=>rw[z]at h;exact absurd (bN h)<|hs kvs
 rw[List.getElem?_set_ne e]at h ⊢;exact⟨h,rfl⟩
def wY{Y:St}{U:List Sl}{s:Sl}(hs:∀kvs,s≠.X0 kvs)(j:Nat)(kvs:List (bR×Int))(h:(U.set i s)[j]?=some (.X0 kvs)):U[j]?=some (.X0 kvs)/\Y[j]?=Y[j]?:=⟨(wm (Y:=[]) (v:=none) hs j kvs h).1,rfl⟩
structure Ok(K:eZ)(B:B0)(F H:Hp)(Y:St)(U:List Sl):Prop extends Ext B F H where
 len:Y.length=U.length
 vals:∀(i:Nat)d,U[i]?=some (.val d)->∃v,Y[i]?=some (some v)/\Rep K F v d
 We:∀(i:Nat)xs,U[i]?=some (.own xs)->∃a vs,Y[i]?=some (some<|.ref a)/\H a=some (.lst vs)/\F a=none/\B.H a=none/\Vs K F vs xs
 dist:∀(i j:Nat)xs ys a,U[i]?=some (.own xs)->U[j]?=some (.own ys)->Y[i]?=some (some<|.ref a)->Y[j]?=some (some<|.ref a)->i=j
 WI:DOk B F H Y U
def aP{p:Addr}(h:H p=none):Vu H (dH H p o):=λb u q=>by rwa[aK<|fk q h]
def Cq(h:Vu F H):Vu (dH F p o) (dH H p o):=λb u q=>by by_cases hb:b=p;subst hb;rw[aI]at q ⊢;exact q;rw[aK hb]at q ⊢;exact h b u q
section
variable {U:List Sl}
def Ext.refl(h:Vu F H):Ext ⟨F,H⟩ F H:=⟨h,.refl _,.refl _,λa q=>.inl q⟩
def Ext.trans(x:Ext B F H)(y:Ext ⟨F,H⟩ F' H'):Ext B F' H':=⟨y.sub,x.sh.trans y.sh,x.sf.trans y.sf,λa q=>by rcases y.nw a q with z |z;exact x.nw a z;exact .inr<|x.sh.free z⟩
def Ext.kf{a:Addr}(y:Ext B F' H')(h1:B.F a=none)(h2:B.H a=some o):F' a=none:=by
 cases q:F' a with
 |none=>rfl
 |some u=>
  rcases y.nw a (by rw[q];exactλz=>nomatch z)with z |z
  exact absurd h1 z;exact nomatch h2.symm.trans z
def Ext.grow{p:Addr}(x:Ext B F H)(hp:H p=none):Ext B (dH F p o) (dH H p o):=⟨Cq x.sub,x.sh.trans<|aP hp,x.sf.trans<|aP<|x.sub.free hp,λa q=>by by_cases h:a=p;subst h;exact .inr<|x.sh.free hp;rw[aK h]at q;exact x.nw a q⟩
def Ok.ext(k:Ok K B F H Y U)(y:Ext ⟨F,H⟩ F' H'):Ok K B F' H' Y U:=by refine⟨k.toExt.trans y,k.len,λi d e=>?_,λi xs e=>?_,k.dist,k.WI.to y.sf (λa φ e1 e2 e3=>⟨y.sh _ _ e1,?_⟩) λ_ _ e=>⟨e,rfl⟩⟩;rotate_left 2;exact y.kf e2 e1;let⟨v,h1,h2⟩:=k.vals i d e;exact⟨v,h1,h2.mono y.sf⟩;let⟨a,vs,h1,h2,h3,h4,h5⟩:=k.We i xs e;refine⟨a,vs,h1,y.sh _ _ h2,?_,h4,h5.mono y.sf⟩;exact y.kf h3 h2
def Ok.grow{p:Addr}(k:Ok K B F H Y U)(hp:H p=none):Ok K B (dH F p o) (dH H p o) Y U:=k.ext<|(Ext.refl k.sub).grow hp
def Ok.zD0{p:Addr}(k:Ok K B F H Y U)(hp:H p=none):Ok K B F (dH H p o) Y U:=k.ext ⟨k.sub.trans<|aP hp,aP hp,.refl _,λa q=>.inl q⟩
def Wg(Y:St)(U:List Sl)(p:Addr):Prop:=∀(i:Nat)xs,U[i]?=some (.own xs)->Y[i]?≠some (some<|.ref p)
def Ok.noOwn{p:Addr}(k:Ok K B F H Y U)(hp:H p=none):Wg Y U p:=λi xs e q=>by let⟨a,vs,h1,h2,_⟩:=k.We i xs e;rw[h1]at q;cases q;rw[hp]at h2;cases h2
def Ok.VP(k:Ok K B F H Y U)(i:Nat)(r:Rep K F v d):Ok K B F H (Y.set i<|some v) (U.set i<|.val d):=by
 refine⟨k.toExt,by rw[cy,cy,k.len],λj e q=>?_,λj xs q=>?_,λj l xs ys a q1 q2 q3 q4=>?_,k.WI.to (.refl _) (λ_ _ e1 e2 _=>⟨e1,e2⟩) (wm λ_ z=>nomatch z)⟩;by_cases h:i=j;subst h;rw[List.getElem?_set_self']at q;cases z:U[i]? with
 |none=>rw[z]at q;cases q
 |some w=>
  rw[z]at q;cases q;have hi:i<Y.length:=by rw[k.len];exact(List.getElem?_eq_some_iff.mp z).1
  exact⟨v,by rw[List.getElem?_set_self hi],r⟩
 rw[List.getElem?_set_ne h]at q ⊢;exact k.vals j e q;by_cases h:i=j;subst h;rw[List.getElem?_set_self']at q;cases z:U[i]? with
 |none=>rw[z]at q;cases q
 |some w=>rw[z]at q;cases q
 rw[List.getElem?_set_ne h]at q ⊢;exact k.We j xs q;have n1:i≠j:=by
  rintro rfl;rw[List.getElem?_set_self']at q1;cases z:U[i]? with
  |none=>rw[z]at q1;cases q1
  |some w=>rw[z]at q1;cases q1
 have n2:i≠l:=by
  rintro rfl;rw[List.getElem?_set_self']at q2;cases z:U[i]? with
  |none=>rw[z]at q2;cases q2
  |some w=>rw[z]at q2;cases q2
 rw[List.getElem?_set_ne n1]at q1 q3;rw[List.getElem?_set_ne n2]at q2 q4;exact k.dist j l xs ys a q1 q2 q3 q4
def Ok.YC{ds:aM}{p:Addr}(k:Ok K B F H Y U)(i:Nat)(hp:H p=some (.lst vs))(hf:F p=none)(hb:B.H p=none)(hn:Wg Y U p)(r:Vs K F vs ds):Ok K B F H (Y.set i<|some<|.ref p) (U.set i<|.own ds):=by
 refine⟨k.toExt,by rw[cy,cy,k.len],λj e q=>?_,λj xs q=>?_,λj l xs ys a q1 q2 q3 q4=>?_,k.WI.to (.refl _) (λ_ _ e1 e2 _=>⟨e1,e2⟩) (wm λ_ z=>nomatch z)⟩;by_cases h:i=j;subst h;rw[List.getElem?_set_self']at q;cases z:U[i]? with
 |none=>rw[z]at q;cases q
 |some w=>rw[z]at q;cases q
 rw[List.getElem?_set_ne h]at q ⊢;exact k.vals j e q;by_cases h:i=j;subst h;rw[List.getElem?_set_self']at q;cases z:U[i]? with
 |none=>rw[z]at q;cases q
 |some w=>
  rw[z]at q;cases q;have hi:i<Y.length:=by rw[k.len];exact(List.getElem?_eq_some_iff.mp z).1
  exact⟨p,vs,by rw[List.getElem?_set_self hi],hp,hf,hb,r⟩
 rw[List.getElem?_set_ne h]at q ⊢;exact k.We j xs q;by_cases n1:i=j;by_cases n2:i=l;exact n1.symm.trans n2;subst n1;rw[List.getElem?_set_ne n2]at q2 q4;have hi:i<Y.length:=by have:=(List.getElem?_eq_some_iff.mp q3).1;rw[cy]at this;exact this
 rw[List.getElem?_set_self hi]at q3;cases q3;exact absurd q4<|hn l ys q2;by_cases n2:i=l;subst n2;rw[List.getElem?_set_ne n1]at q1 q3;have hi:i<Y.length:=by have:=(List.getElem?_eq_some_iff.mp q4).1;rw[cy]at this;exact this
 rw[List.getElem?_set_self hi]at q4;cases q4;exact absurd q3<|hn j xs q1;rw[List.getElem?_set_ne n1]at q1 q3;rw[List.getElem?_set_ne n2]at q2 q4;exact k.dist j l xs ys a q1 q2 q3 q4
def Ok.YI{vs:fh}{ds:aM}{i:Nat}(k:Ok K B F H Y U)(hi:U[i]?=some (.own xs))(hs:Y[i]?=some (some<|.ref p))(r:Vs K F ws ds):Ok K B F (dH H p<|.lst ws) Y (U.set i<|.own ds):=by
 let⟨a,us,h1,h2,h3,h4,h5⟩:=k.We i xs hi;rw[h1]at hs;cases hs;have V1:=(List.getElem?_eq_some_iff.mp hi).1;refine⟨⟨λb u q=>?_,λb u q=>?_,k.sf,k.nw⟩,by rw[cy,k.len],λj e q=>?_,λj ys q=>?_,λj l ys zs b q1 q2 q3 q4=>?_,k.WI.to (.refl _) (λb φ e1 e2 _=>⟨by rwa[aK λz=>by subst z;rw[h2]at e1;cases e1],e2⟩) (wY λ_ z=>nomatch z)⟩;have ne:b≠p:=λz=>by subst z;rw[h3]at q;cases q
 rw[aK ne];exact k.sub b u q;have ne:b≠p:=λz=>by subst z;rw[h4]at q;cases q
 rw[aK ne];exact k.sh b u q;by_cases h:i=j;subst h;rw[List.getElem?_set_self V1]at q;cases q;rw[List.getElem?_set_ne h]at q;exact k.vals j e q;by_cases h:i=j;subst h;rw[List.getElem?_set_self V1]at q;cases q;exact⟨p,ws,h1,aI,h3,h4,r⟩;rw[List.getElem?_set_ne h]at q;let⟨b,Xa,g1,g2,g3,g4,g5⟩:=k.We j ys q;have ne:b≠p:=λz=>by subst z;exact h<|k.dist i j xs ys b hi q h1 g1
 exact⟨b,Xa,g1,by rwa[aK ne],g3,g4,g5⟩;have own:∀(m:Nat)ys,(U.set i<|.own ds)[m]?=some (.own ys)->∃zs,U[m]?=some (.own zs):=λm ys q=>by by_cases h:i=m;subst h;exact⟨xs,hi⟩;rw[List.getElem?_set_ne h]at q;exact⟨ys,q⟩
 let⟨y1,z1⟩:=own j ys q1;let⟨y2,z2⟩:=own l zs q2;exact k.dist j l _ _ b z1 z2 q3 q4
def Ok.ZD{i:Nat}(k:Ok K B F H Y U)(hi:U[i]?=some (.own xs)):∃F',Vu F F'/\Ok K B F' H Y (U.set i<|.val<|.lst xs):=by
 let⟨a,us,h1,h2,h3,h4,h5⟩:=k.We i xs hi;have V1:=(List.getElem?_eq_some_iff.mp hi).1;have sf:Vu F (dH F a<|.lst us):=aP h3;have YY:∀j ys,(U.set i<|.val<|.lst xs)[j]?=some (.own ys)->i≠j/\U[j]?=some (.own ys):=λj ys q=>by by_cases h:i=j;subst h;rw[List.getElem?_set_self V1]at q;cases q;rw[List.getElem?_set_ne h]at q;exact⟨h,q⟩
 refine⟨dH F a<|.lst us,sf,⟨λb u q=>?_,k.sh,k.sf.trans sf,λb q=>?_⟩,by rw[cy,k.len],λj e q=>?_,λj ys q=>?_,λj l ys zs b q1 q2 q3 q4=>?_,k.WI.to sf (λb φ e1 e2 _=>⟨e1,by rwa[aK λz=>by subst z;rw[h2]at e1;cases e1]⟩) (wY λ_ z=>nomatch z)⟩;by_cases h:b=a;subst h;rw[aI]at q;cases q;exact h2;rw[aK h]at q;exact k.sub b u q;by_cases h:b=a;subst h;exact .inr h4;rw[aK h]at q;exact k.nw b q;by_cases h:i=j;subst h;rw[List.getElem?_set_self V1]at q;cases q;exact⟨_,h1,.lst aI<|h5.mono sf⟩;rw[List.getElem?_set_ne h]at q;let⟨v,g1,g2⟩:=k.vals j e q;exact⟨v,g1,g2.mono sf⟩;let⟨h,q⟩:=YY j ys q;let⟨b,Xa,g1,g2,g3,g4,g5⟩:=k.We j ys q;have ne:b≠a:=λz=>by subst z;exact h<|k.dist i j xs ys b hi q h1 g1
 exact⟨b,Xa,g1,g2,by rwa[aK ne],g4,g5.mono sf⟩;exact k.dist j l _ _ b (YY j ys q1).2 (YY l zs q2).2 q3 q4
end
set_option autoImplicit true
structure wE(X:Cx)(e:Expr)(Y:St)(H:Hp)(Q:VK):Prop where
 go:∀(on:gC)(s:Shared),Inv X on Y H s->fg X (eval e X.env) (EP X on Y Q) X.xe s
instance zMG {X:Cx} {e:Expr} {Y:St} {H:Hp} {Q:VK}:CoeFun (wE X e Y H Q) (λ_=>∀(on:gC)(s:Shared),Inv X on Y H s->fg X (eval e X.env) (EP X on Y Q) X.xe s):=⟨wE.go⟩
structure wT(X:Cx)(e:Expr)(Y:St)(H:Hp)(Q:(Bool->Hp->Prop)):Prop where
 go:∀(on:gC)(s:Shared),Inv X on Y H s->fg X (isTrue e X.env<|eval e X.env) (TP X on Y Q) X.xe s
instance zMB {X:Cx} {e:Expr} {Y:St} {H:Hp} {Q:Bool->Hp->Prop}:CoeFun (wT X e Y H Q) (λ_=>∀(on:gC)(s:Shared),Inv X on Y H s->fg X (isTrue e X.env<|eval e X.env) (TP X on Y Q) X.xe s):=⟨wT.go⟩
structure wW(X:Cx)(e:Expr)(Y:St)(H:Hp)(Q:(Bool->Hp->Prop)):Prop where
 go:∀(whole:Sem Value)(on:gC)(s:Shared),Inv X on Y H s->fg X (isTrue e X.env whole) (TP X on Y Q) X.xe s
instance zMA {X:Cx} {e:Expr} {Y:St} {H:Hp} {Q:Bool->Hp->Prop}:CoeFun (wW X e Y H Q) (λ_=>∀(whole:Sem Value)(on:gC)(s:Shared),Inv X on Y H s->fg X (isTrue e X.env whole) (TP X on Y Q) X.xe s):=⟨wW.go⟩
structure wA(X:Cx)(es:tL)(Y:St)(H:Hp)(Q:(fh->Hp->Prop)):Prop where
 go:∀(pos:Pos)(on:gC)(s:Shared),Inv X on Y H s->fg X (spliced<|backTo pos<|starEach es X.env) (AP X on Y Q) X.xe s
instance zMH {X:Cx} {es:tL} {Y:St} {H:Hp} {Q:fh->Hp->Prop}:CoeFun (wA X es Y H Q) (λ_=>∀(pos:Pos)(on:gC)(s:Shared),Inv X on Y H s->fg X (spliced<|backTo pos<|starEach es X.env) (AP X on Y Q) X.xe s):=⟨wA.go⟩
structure wS(X:Cx)(st:Stmt)(D:mn)(Y:St)(H:Hp):Prop where
 go:∀(on:gC)(s:Shared),Inv X on Y H s->fg X (exec st X.env) (SP X on D) X.xe s
instance zMC {X:Cx} {st:Stmt} {D:mn} {Y:St} {H:Hp}:CoeFun (wS X st D Y H) (λ_=>∀(on:gC)(s:Shared),Inv X on Y H s->fg X (exec st X.env) (SP X on D) X.xe s):=⟨wS.go⟩
structure wSs(X:Cx)(st:List Stmt)(D:mn)(Y:St)(H:Hp):Prop where
 go:∀(on:gC)(s:Shared),Inv X on Y H s->fg X (execs st X.env) (SP X on D) X.xe s
instance zIW {X:Cx} {st:List Stmt} {D:mn} {Y:St} {H:Hp}:CoeFun (wSs X st D Y H) (λ_=>∀(on:gC)(s:Shared),Inv X on Y H s->fg X (execs st X.env) (SP X on D) X.xe s):=⟨wSs.go⟩
structure wO(X:Cx)(e:Option Expr)(Y:St)(H:Hp)(Q:(Option Int->Hp->Prop)):Prop where
 go:∀(on:gC)(s:Shared),Inv X on Y H s->fg X (evalPart e X.env) (λu s'=>∃o H',Inv X on Y H' s'/\IsPart u o/\Q o H') X.xe s
instance zMD {X:Cx} {e:Option Expr} {Y:St} {H:Hp} {Q:Option Int->Hp->Prop}:CoeFun (wO X e Y H Q) (λ_=>∀(on:gC)(s:Shared),Inv X on Y H s->fg X (evalPart e X.env) (λu s'=>∃o H',Inv X on Y H' s'/\IsPart u o/\Q o H') X.xe s):=⟨wO.go⟩
structure wG(X:Cx)(e:Expr)(v:V)(Y:St)(H:Hp)(Q:(St->Hp->Prop)):Prop where
 go:∀(on:gC)(s:Shared)(u:Value),Inv X on Y H s->RelV v u->fg X (assign e X.env u) (λ_ s'=>∃xy H',Inv X on xy H' s'/\Q xy H') X.xe s
instance zMF {X:Cx} {e:Expr} {v:V} {Y:St} {H:Hp} {Q:St->Hp->Prop}:CoeFun (wG X e v Y H Q) (λ_=>∀(on:gC)(s:Shared)(u:Value),Inv X on Y H s->RelV v u->fg X (assign e X.env u) (λ_ s'=>∃xy H',Inv X on xy H' s'/\Q xy H') X.xe s):=⟨wG.go⟩
section
variable {st:Stmt}{oe:Option Expr}
def aU:PE X e (wE X e):=λon s _ _ _ I h=>h on s I
def mX:PT X e (wT X e):=λon s _ _ _ I h=>h on s I
def LI:PW X e (wW X e):=λwh on s _ _ _ I h=>h wh on s I
def nU:PA X es (wA X es):=λpos on s _ _ _ I h=>h pos on s I
def uP:PS X st (wS X st):=λon s _ _ _ I h=>h on s I
def dU:YJ X WJ (wSs X WJ):=λon s _ _ _ I h=>h on s I
def CG:PO X oe (wO X oe):=λon s _ _ _ I h=>h on s I
def He:PG X e (wG X e):=λon s _ _ _ u _ I r h=>h on s u I r
end
abbrev cE:=List Sl
def Vp(X:Cx)(U:cE)(e:Expr)(d:D):Prop:=∀(B:B0)(F H:Hp)(Y:St)(Q:VK),Ok X.K B F H Y U->(∀v F' H',Ext ⟨F,H⟩ F' H'->Rep X.K F' v d->Q v H')->wE X e Y H Q
def VD(X:Cx)(U:cE)(e:Expr)(xs:aM):Prop:=∀(B:B0)(F H:Hp)(Y:St)(Q:VK),Ok X.K B F H Y U->(∀p vs F' H',Ext ⟨F,H⟩ F' H'->H p=none->H' p=some (.lst vs)->F' p=none->Vs X.K F' vs xs->Q (.ref p) H')->wE X e Y H Q
def Y6(K:eZ)(k:Bool)(H:Hp)(a:Addr)(vs:fh):Prop:=if k=true then Wd K H a vs else WM K H a vs
def XC(X:Cx)(U:cE)(e:Expr)(k:Bool)(xs:aM):Prop:=∀(B:B0)(F H:Hp)(Y:St)(Q:VK),Ok X.K B F H Y U->(∀a vs F' H',Ext ⟨F,H⟩ F' H'->Y6 X.K k H' a vs->Vs X.K F' vs xs->Q (.ref a) H')->wE X e Y H Q
def Vr(X:Cx)(U:cE)(e:Expr)(b:Bool):Prop:=∀(B:B0)(F H:Hp)(Y:St)(Q:Bool->Hp->Prop),Ok X.K B F H Y U->(∀F' H',Ext ⟨F,H⟩ F' H'->Q b H')->wT X e Y H Q
def W0(X:Cx)(U:cE)(e:Expr)(b:Bool):Prop:=∀(B:B0)(F H:Hp)(Y:St)(Q:Bool->Hp->Prop),Ok X.K B F H Y U->(∀F' H',Ext ⟨F,H⟩ F' H'->Q b H')->wW X e Y H Q
def Pl(e:Expr):Prop:=∀(es:tL)(env:Env),starEach (e::es) env=(false,eval e env)::starEach es env
def Yf:tL->Prop|[]=>True|e::es=>Pl e/\Yf es
def Yf.any{env:Env}:∀{es:tL},Yf es->(backTo pos<|starEach es env).any (·.1)=false|[],_=>rfl|e::es,h=>by rw[h.1 es env];show(false||(backTo pos<|starEach es env).any (·.1))=false;rw[Yf.any h.2];rfl
def VL(X:Cx)(U:cE)(es:tL)(ds:aM):Prop:=Yf es/\∀(B:B0)(F H:Hp)(Y:St)(Q:fh->Hp->Prop),Ok X.K B F H Y U->(∀vs F' H',Ext ⟨F,H⟩ F' H'->Vs X.K F' vs ds->Q vs H')->wA X es Y H Q
def YK(X:Cx)(U:cE)(e:Option Expr)(o:Option Int):Prop:=∀(B:B0)(F H:Hp)(Y:St)(Q:Option Int->Hp->Prop),Ok X.K B F H Y U->(∀F' H',Ext ⟨F,H⟩ F' H'->Q o H')->wO X e Y H Q
inductive Out where
 |nx (U:cE) |rt (d:D)
def W8(K:eZ)(B:B0)(F₀:Hp)(E:mn):Out->Prop|.nx U=>∀F H Y,Ok K B F H Y U->Vu F₀ F->E.nx Y H|.rt d=>∀v F H,Ext B F H->Rep K F v d->E.rt v H
def W8.later(h:W8 K B F₀ E o)(s:Vu F₀ F₁):W8 K B F₁ E o:=by
 cases o with
 |nx U=>exactλF H Y k s'=>h F H Y k<|s.trans s'
 |rt d=>exact h
def VN(X:Cx)(U:cE)(st:Stmt)(o:Out):Prop:=∀(B:B0)(F H:Hp)(Y:St)(E:mn),Ok X.K B F H Y U->W8 X.K B F E o->wS X st E Y H
def Vt(X:Cx)(U:cE)(WJ:List Stmt)(o:Out):Prop:=∀(B:B0)(F H:Hp)(Y:St)(E:mn),Ok X.K B F H Y U->W8 X.K B F E o->wSs X WJ E Y H
abbrev Go(X:Cx)(N:List Str)(st:Stmt)(C:List D->D->Prop):Prop:=∀ds d,C ds d->Vt X (Fd N ds) (aW st) (.rt d)
def XD(X:Cx)(U:cE)(tg:Expr)(d:D)(W1:cE):Prop:=∀(B:B0)(F H:Hp)(Y:St)(v:V)(Q:St->Hp->Prop),Ok X.K B F H Y U->Rep X.K F v d->(∀F' H' xy,Ok X.K B F' H' xy W1->Vu F F'->Q xy H')->wG X tg v Y H Q
def Xz(X:Cx)(U:cE)(tg:Expr)(d:D)(W1:cE):Prop:=∀(B:B0)(F H:Hp)(Y:St)(v:V)(Q:St->Hp->Prop),Ok X.K B F H Y U->Rep X.K F v d->(∀xy,Ok X.K B F H xy W1->(∀p,Wg Y U p->Wg xy W1 p)->Q xy H)->wG X tg v Y H Q
def Ext.t(x:Ext ⟨F,H⟩ F' H')(y:Ext ⟨F',H'⟩ F2 H2):Ext ⟨F,H⟩ F2 H2:=x.trans y
def Vp.of(h:PE X e t)(r:∀(B:B0)(F H:Hp)(Y:St)(Q:VK),Ok X.K B F H Y U->(∀v F' H',Ext ⟨F,H⟩ F' H'->Rep X.K F' v d->Q v H')->t Y H Q):Vp X U e d:=λB F H Y Q k q=>.mk λon s I=>h on s Y H Q I<|r B F H Y Q k q
def VD.of(h:PE X e t)(r:∀(B:B0)(F H:Hp)(Y:St)(Q:VK),Ok X.K B F H Y U->(∀p vs F' H',Ext ⟨F,H⟩ F' H'->H p=none->H' p=some (.lst vs)->F' p=none->Vs X.K F' vs xs->Q (.ref p) H')->t Y H Q):VD X U e xs:=λB F H Y Q k q=>.mk λon s I=>h on s Y H Q I<|r B F H Y Q k q
def XC.of(h:PE X e t)(r:∀(B:B0)(F H:Hp)(Y:St)(Q:VK),Ok X.K B F H Y U->(∀a vs F' H',Ext ⟨F,H⟩ F' H'->Y6 X.K k H' a vs->Vs X.K F' vs xs->Q (.ref a) H')->t Y H Q):XC X U e k xs:=λB F H Y Q k q=>.mk λon s I=>h on s Y H Q I<|r B F H Y Q k q
def Vr.of{t:TT}(h:PT X e t)(r:∀(B:B0)(F H:Hp)(Y:St)(Q:Bool->Hp->Prop),Ok X.K B F H Y U->(∀F' H',Ext ⟨F,H⟩ F' H'->Q b H')->t Y H Q):Vr X U e b:=λB F H Y Q k q=>.mk λon s I=>h on s Y H Q I<|r B F H Y Q k q
def W0.of{t:TT}(h:PW X e t)(r:∀(B:B0)(F H:Hp)(Y:St)(Q:Bool->Hp->Prop),Ok X.K B F H Y U->(∀F' H',Ext ⟨F,H⟩ F' H'->Q b H')->t Y H Q):W0 X U e b:=λB F H Y Q k q=>.mk λwh on s I=>h wh on s Y H Q I<|r B F H Y Q k q
def VN.of{st:Stmt}(h:PS X st t)(r:∀(B:B0)(F H:Hp)(Y:St)(E:mn),Ok X.K B F H Y U->W8 X.K B F E o->t E Y H):VN X U st o:=λB F H Y E k q=>.mk λon s I=>h on s Y H E I<|r B F H Y E k q
def Vt.of(h:YJ X WJ t)(r:∀(B:B0)(F H:Hp)(Y:St)(E:mn),Ok X.K B F H Y U->W8 X.K B F E o->t E Y H):Vt X U WJ o:=λB F H Y E k q=>.mk λon s I=>h on s Y H E I<|r B F H Y E k q
def XD.of(h:PG X e t)(r:∀(B:B0)(F H:Hp)(Y:St)(v:V)(Q:St->Hp->Prop),Ok X.K B F H Y U->Rep X.K F v d->(∀F' H' xy,Ok X.K B F' H' xy W1->Vu F F'->Q xy H')->t v Y H Q):XD X U e d W1:=λB F H Y v Q k rv q=>.mk λon s u I ru=>h on s Y H v u Q I ru<|r B F H Y v Q k rv q
def Xz.of(h:PG X e t)(r:∀(B:B0)(F H:Hp)(Y:St)(v:V)(Q:St->Hp->Prop),Ok X.K B F H Y U->Rep X.K F v d->(∀xy,Ok X.K B F H xy W1->(∀p,Wg Y U p->Wg xy W1 p)->Q xy H)->t v Y H Q):Xz X U e d W1:=λB F H Y v Q k rv q=>.mk λon s u I ru=>h on s Y H v u Q I ru<|r B F H Y v Q k rv q
def Wg.VP(h:Wg Y U p)(i:Nat)(v:Option V)(d:D):Wg (Y.set i v) (U.set i<|.val d) p:=λj xs e q=>by
 by_cases hj:i=j;subst hj;rw[List.getElem?_set_self']at e;cases z:U[i]? with
 |none=>rw[z]at e;cases e
 |some w=>rw[z]at e;cases e
 rw[List.getElem?_set_ne hj]at e q;exact h j xs e q
def Ext.freeze{p:Addr}(x:Ext ⟨F,H⟩ F' H')(h0:H p=none)(hp:H' p=some (.lst vs))(hf:F' p=none):Ext ⟨F,H⟩ (dH F' p<|.lst vs) H':=⟨λb u q=>by
  by_cases h:b=p;subst h;rw[aI]at q;cases q;exact hp;rw[aK h]at q;exact x.sub b u q,x.sh,x.sf.trans<|aP hf,λa q=>by
  by_cases h:a=p;subst h;exact .inr h0;rw[aK h]at q;exact x.nw a q⟩
def VD.V5(h:VD X U e xs):Vp X U e (.lst xs):=λB F H Y Q k q=>h B F H Y Q k λp vs F' H' x h0 hp hf r=>q _ _ _ (x.freeze h0 hp hf)<|.lst aI<|r.mono<|aP hf
def Y6.mono(s:Vu H H')(h:Y6 K k H a vs):Y6 K k H' a vs:=by cases k with|true=>exact s.seq h|false=>rcases h with(h |⟨o,h⟩) |h;exact .inl<|.inl<|s _ _ h;exact .inl<|.inr ⟨o,s _ _ h⟩;exact .inr h
def Vp.ql(h:Vp X U e (.lst xs)):XC X U e true xs:=λB F H Y Q k q=>h B F H Y Q k λv F' H' x r=>by cases r with|lst hf rl=>exact q _ _ _ _ x (Wd.of<|x.sub _ _ hf) rl
def Vp.qt(h:Vp X U e (.tup xs)):XC X U e false xs:=λB F H Y Q k q=>h B F H Y Q k λv F' H' x r=>by cases r with|tup hf rl=>exact q _ _ _ _ x (WM.of<|x.sub _ _ hf) rl
def Vp.qs(h:Vp X U e (.XF ns)):XC X U e true (ns.map D.int):=λB F H Y Q k q=>h B F H Y Q k λv F' H' x r=>by cases r with|XF hs=>exact q _ _ _ _ x (x.sub.seq hs)<|Vs.ints ns
def VD.toQ(h:VD X U e xs):XC X U e true xs:=h.V5.ql
structure At(X:Cx)(N:cn)(sc:Scope):Prop where
 eN:X.N=N
 eS:X.env.scope=sc
 calm:X.calm=true
 nd:X.N.Nodup
 XH:X.xe=λ_ _=>False
 un:X.A.units+64<cLine
 dp:X.A.depth+100<recursionLimit
 tree:X.prog.given.tree=none
 fr:∃env l,X.stack=env::l/\env.scope.isGenerator=false/\env.scope.isCoroutine=false/\env.builtins=builtinsNs/\env.globals=mainGlobals
structure YM(X:Cx)(N:cn)(sc:Scope):Prop where
 eN:X.N=N
 eS:X.env.scope=sc
 nd:X.N.Nodup
 XH:X.xe=λ_ _=>False
 un:X.A.units+64<cLine
 dp:X.A.depth+100<recursionLimit
 tree:X.prog.given.tree=none
 fr:∃env l,X.stack=env::l/\env.scope.isGenerator=false/\env.scope.isCoroutine=false/\env.builtins=builtinsNs/\env.globals=mainGlobals
def At.z(t:At X N sc):YM X N sc:=⟨t.eN,t.eS,t.nd,t.XH,t.un,t.dp,t.tree,t.fr⟩
def YM.at(t:YM X N sc)(h:X.calm=true):At X N sc:=⟨t.eN,t.eS,h,t.nd,t.XH,t.un,t.dp,t.tree,t.fr⟩
def Sa(A:Around)(H:Hp):Prop:=∃(ea:Addr)(oe:Obj)(u:HO)(vs:Array Value),A.handled=some (.ref ea)/\H ea=some (.W5 oe u)/\oe.data=.fields vs/\vs[2]?=some .none
class WR (X:Cx):Prop where
 fn:∀x,X.fn x=true
def At.pass(a:At X N sc):PassesOwn (model X.prog X.w) X.A X.env X.xe:=by rw[a.XH];exact PassesOwn.never
def fS(sc:Scope)(x:Str):Bool:=match sc.names.lookup x with
 |some .local=>true|some .cell=>true
 |some .free=>true|_=>false
def ml(sc:Scope)(x:Str):Bool:=match sc.names.lookup x with
 |some .local=>true|some .cell=>true
 |_=>false
def Ip{x:Str}(h:fS sc x=true):Qh sc x:=by
 unfold fS at h;cases e:sc.names.lookup x with
 |none=>rw[e]at h;cases h
 |some k=>rw[e]at h;cases k<;>first |exact .inl e |exact .inr (.inl e) |exact .inr (.inr e) |cases h
def JI{x:Str}(h:ml sc x=true):PY sc x:=by
 unfold ml at h;cases e:sc.names.lookup x with
 |none=>rw[e]at h;cases h
 |some k=>rw[e]at h;cases k<;>first |exact .inl e |exact .inr e |cases h
def cU(x:Str):Bool:=!(x==("__debug__":Str))&& !(x==("__classdict__":Str))
def y8{i:Nat}(t:At X N sc)(hN:N[i]?=some x)(hv:fS sc x=true)(hx:cU x=true):PE X (.Name x pos) (QC i):=by unfold cU at hx;rw[dS,nK,nK]at hx;exact Jp (by rwa[t.eN]) (by rw[t.eS];exact Ip hv) hx.1 hx.2
def aa{U:cE}(t:At X N sc)(i:Nat)(hr:U[i]?=some (.val d):=by rfl)(hN:N[i]?=some x:=by rfl)(hv:fS sc x=true:=by rfl)(hx:cU x=true:=by rfl):Vp X U (.Name x pos) d:=.of (y8 t hN hv hx) λB F H Y Q k q=>by let⟨v,h1,h2⟩:=k.vals i d hr;exact⟨v,h1,q v F H (.refl k.sub) h2⟩
def lT{U:cE}(t:At X N sc)(i:Nat)(hr:U[i]?=some (.own xs))(hN:N[i]?=some x:=by rfl)(hv:fS sc x=true:=by rfl)(hx:cU x=true:=by rfl):XC X U (.Name x pos) true xs:=.of (y8 t hN hv hx) λB F H Y Q k q=>by obtain⟨p,vs,h1,h2,h3,h4,h5⟩:=k.We i xs hr;exact⟨_,h1,q p vs F H (.refl k.sub) (Wd.of h2) h5⟩
def ah:Vp X U (.Constant (.int i) j pos) (.int i):=.of Jq λB F H Y Q k q=>q _ F H (.refl k.sub)<|.int i
def uy:Vp X U (.Constant (.bool b) j pos) (.bl b):=.of Q9 λB F H Y Q k q=>q _ F H (.refl k.sub)<|.bl b
def eJ:Vp X U (.Constant .none j pos) .VH:=.of OA λB F H Y Q k q=>q _ F H (.refl k.sub) .VH
def Vo:Vp X U (.Constant (.str x) j pos) (.str x):=.of Ea λB F H Y Q k q=>q _ F H (.refl k.sub)<|.str x
def two{X:Cx}{U:cE}{a:Expr}{b:Expr}{da db:D}(ha:Vp X U a da)(hb:Vp X U b db){B:B0}{F H:Hp}{Y:St}{R:V->V->Hp->Prop}(k:Ok X.K B F H Y U)(h:∀x y F' H',Ext ⟨F,H⟩ F' H'->Rep X.K F' x da->Rep X.K F' y db->R x y H'):wE X a Y H λx H1=>wE X b Y H1 λy H2=>R x y H2:=ha B F H Y _ k λx F1 H1 x1 r1=>hb B F1 H1 Y _ (k.ext x1) λy F2 H2 x2 r2=>h x y F2 H2 (x1.t x2) (r1.mono x2.sf) r2
def wv{i j m:Int}{C:Int->Int->Prop}{g:Int->Int->Int}(ho:mj X (binaryOp op) (rI C λi j=>.int<|g i j))(ha:Vp X U a (.int i))(hb:Vp X U b (.int j))(hc:C i j)(hm:g i j=m):Vp X U (.BinOp a op b pos) (.int m):=.of (pH ho aU aU) λB F H Y Q k q=>two ha hb k λx y F' H' x' rx ry=>by cases rx;cases ry;subst hm;exact⟨i,j,rfl,rfl,hc,q _ F' H' x'<|.int _⟩
def xO{i j m:Int}{g:Int->Int->Int}(ho:mj X (binaryOp op) (KZ λi j=>.int<|g i j))(ha:Vp X U a (.int i))(hb:Vp X U b (.int j))(hm:g i j=m):Vp X U (.BinOp a op b pos) (.int m):=.of (pH ho aU aU) λB F H Y Q k q=>two ha hb k λx y F' H' x' rx ry=>by cases rx;cases ry;subst hm;exact⟨i,j,rfl,rfl,q _ F' H' x'<|.int _⟩
def bB(ha:Vp X U a (.int i))(hb:Vp X U b (.int j)):Vp X U (.BinOp a .Add b pos) (.int<|i+j):=xO OK ha hb rfl
def jM(ha:Vp X U a (.int i))(hb:Vp X U b (.int j)):Vp X U (.BinOp a .Sub b pos) (.int<|i-j):=xO OE ha hb rfl
def L0:mj X (binaryOp .Mult) (rI IntMulOk λi j=>.int<|i*j):=Rg λ_ _ _ _ _ _ _ hc q=>mul_int q hc
def At.zA9(t:At X N sc)(I:Inv X on Y H s):PylongRoom (model X.prog X.w) X.A s:=by let⟨env,l,h1,h2,h3,h4,h5⟩:=t.fr;exact PylongRoom.of I.nolimit t.dp<|SeerAt.of (I.ok.mod.seer.keeps I.bk) t.tree (by rw[I.ok.frames,h1]) h2 h3 h4 h5
def L3(t:At X N sc):mj X (binaryOp .FloorDiv) (rI (λ_ j=>j≠0) λi j=>.int<|i.fdiv j):=by intro on s Y H x y v u Q I rx ry h;obtain⟨i,j,rfl,rfl,hc,q⟩:=h;obtain⟨t1,rfl⟩:=rx;obtain⟨t2,rfl⟩:=ry;exact floordiv_int hc ⟨.int<|i.fdiv j,H,I.tok _,⟨_,rfl⟩,q⟩<|.inr<|t.zA9 I
def js(ha:Vp X U a (.int i))(hb:Vp X U b (.int j))(hc:IntMulOk i j):Vp X U (.BinOp a .Mult b pos) (.int<|i*j):=wv L0 ha hb hc rfl
def iR(t:At X N sc)(ha:Vp X U a (.int i))(hb:Vp X U b (.int j))(h0:0<j:=by decide):Vp X U (.BinOp a .FloorDiv b pos) (.int<|i / j):=wv (L3 t) ha hb (by lia)<|Int.fdiv_eq_ediv_of_nonneg i<|by lia
def bJ(ha:Vp X U a (.int i))(hb:Vp X U b (.int j))(h0:0<j:=by decide):Vp X U (.BinOp a .Mod b pos) (.int<|i%j):=wv Jw ha hb h0 rfl
def xL(ha:Vp X U a (.int i))(hb:Vp X U b (.int j))(h0:Sf i j):Vp X U (.BinOp a .Pow b pos) (.int<|i ^ j.toNat):=wv OG ha hb h0 rfl
def kF(ha:Vp X U a (.int i)):Vp X U (.UnaryOp .USub a pos) (.int (-i)):=.of (Q8 N5 aU) λB F H Y Q k q=>ha B F H Y _ k λx F' H' x' rx=>by cases rx;exact⟨i,rfl,q _ F' H' x'<|.int _⟩
def Gn{i j:Int}{op:CmpOp}{g:Int->Int->Bool}(ho:mj X (compareOp op) (KZ λi j=>.bl<|g i j))(ha:Vp X U a (.int i))(hb:Vp X U b (.int j))(hm:behindInMarks op b=false):Vp X U (.Compare a [op] [b] pos) (.bl<|g i j):=.of (uc ho aU aU hm) λB F H Y Q k q=>two ha hb k λx y F' H' x' rx ry=>by cases rx;cases ry;exact⟨i,j,rfl,rfl,q _ F' H' x'<|.bl _⟩
def NG(ha:Vp X U a (.int i))(hb:Vp X U b (.int j)):Vp X U (.Compare a [.Lt] [b] pos) (.bl<|decide<|i<j):=Gn Jx ha hb<|eE _<|by decide
def Rx(ha:Vp X U a (.int i))(hb:Vp X U b (.int j)):Vp X U (.Compare a [.Gt] [b] pos) (.bl<|decide<|j<i):=Gn Np ha hb<|eE _<|by decide
mutual
def gw:D->PyData
 |.VH=>.none|.bl b=>.bool b
 |.int i=>.int i|.str x=>.str x
 |.tup xs=>.tuple (VA xs)|.lst xs=>.list<|VA xs
 |.XF ns=>.list (ns.map PyData.int)|.exc _=>.dict []
 |.Yp _ _=>.dict []|.WI _=>.dict []
 |.adr _=>.dict []|.Xi _=>.dict []
def VA:aM->List PyData|[]=>[]|d::ds=>gw d::VA ds
end
def IA(xs:aM):VA xs=xs.map gw:=by induction xs with|nil=>rfl|cons d ds ih=>rw[VA,ih,bp]
def qY(ns:bR):VA (ns.map D.int)=ns.map PyData.int:=by rw[IA,dP];rfl
def AC{s:Shared}:∀{ns:bR}{us:jh},Vals (ns.map V.int) us->∃as,ReadsAll s.heap us (ns.map PyData.int) as
 |[],_,r=>by cases r;exact⟨_,.nil⟩
 |n::ns,_,r=>by rw[bp]at r;cases r with|cons r1 r2=>obtain⟨as,h⟩:=AC r2;obtain⟨t,rfl⟩:=r1;exact⟨_,.cons (Reads.int n t) h⟩
mutual
def Rep.reads(I:Inv X on Y H s)(sub:Vu F H):∀{v:V}{d:D}{u:Value},Rep X.K F v d->RelV v u->(gw d).canLay0=true->∃as,Reads s.heap u (gw d) as
 |_,_,u,.VH,r,hs=>by cases(r);exact⟨_,Reads.none⟩
 |_,_,u,.bl b,r,hs=>by cases(r);exact⟨_,Reads.bool b⟩
 |_,_,u,.int i,r,hs=>by let⟨t,e⟩:=(r);cases e;exact⟨_,Reads.int i t⟩
 |_,_,u,.str x,r,hs=>by let⟨t,e⟩:=(r);cases e;exact⟨_,Reads.str x t⟩
 |_,_,u,.tup h rl,r,hs=>by cases(r);let⟨its,rv,p,_⟩:=I.tuple<|WM.of<|sub _ _ h;let⟨o,e,c,n,dt⟩:=p;let⟨as,ra⟩:=Vs.reads I sub rl rv (by simpa[gw,PyData.canLay0]using hs);exact⟨_,Reads.tuple e c dt ra⟩
 |_,_,u,.lst h rl,r,hs=>by cases(r);let⟨its,rv,p,_⟩:=I.list<|Wd.of<|sub _ _ h;let⟨o,e,c,n,dt⟩:=p.isList;let⟨as,ra⟩:=Vs.reads I sub rl rv (by simpa[gw,PyData.canLay0]using hs);exact⟨_,Reads.list e c dt ra⟩
 |_,_,u,.exc h,r,hs=>by simp[gw,PyData.canLay0]at hs|_,_,u,.Yp h,r,hs=>by simp[gw,PyData.canLay0]at hs
 |_,_,u,.WI h _,r,hs=>by simp[gw,PyData.canLay0]at hs|_,_,u,.adr _,r,hs=>by simp[gw,PyData.canLay0]at hs
 |_,_,u,.Xi _,r,hs=>by simp[gw,PyData.canLay0]at hs|_,_,u,.XF h,r,hs=>by cases(r);let⟨its,rv,p,_⟩:=I.list<|sub.seq h;let⟨o,e,c,n,dt⟩:=p.isList;let⟨as,ra⟩:=AC (s:=s) rv;exact⟨_,Reads.list e c dt ra⟩
def Vs.reads(I:Inv X on Y H s)(sub:Vu F H):∀{vs:fh}{ds:aM}{us:jh},Vs X.K F vs ds->Vals vs us->PyData.canLayAll0 (VA ds)=true->∃as,ReadsAll s.heap us (VA ds) as
 |_,_,_,.nil,r,hs=>by cases r;exact⟨_,.nil⟩
 |_,_,_,.cons r1 r2,r,hs=>by cases r with|cons q1 q2=>rw[VA,PyData.canLayAll0,dS]at hs;have Ze:=hs;let⟨as,h1⟩:=Rep.reads I sub r1 q1 Ze.1;let⟨bs,h2⟩:=Vs.reads I sub r2 q2 Ze.2;exact⟨_,.cons h1 h2⟩
end
def Y6.reads(I:Inv X on Y H s)(sub:Vu F H)(h:Y6 X.K k H a vs)(r:Vs X.K F vs xs)(hs:(if k=true then PyData.list (VA xs)else .tuple<|VA xs).canLay0=true):∃as,Reads s.heap (.ref a) (if k=true then PyData.list (VA xs)else .tuple<|VA xs) as:=by cases k with|true=>let⟨its,rv,p,_⟩:=I.list<|h;let⟨o,e,c,n,dt⟩:=p.isList;let⟨as,ra⟩:=Vs.reads I sub r rv (by simpa[PyData.canLay0]using hs);exact⟨_,Reads.list e c dt ra⟩|false=>let⟨its,rv,p,_⟩:=I.tuple<|h;let⟨o,e,c,n,dt⟩:=p;let⟨as,ra⟩:=Vs.reads I sub r rv (by simpa[PyData.canLay0]using hs);exact⟨_,Reads.tuple e c dt ra⟩
def X6(X:Cx)(H:Hp)(v:V)(p:PyData):Prop:=p.canLay0=true->∀(H':Hp),Vu H H'->∀(on:gC)(Y:St)(s:Shared)(u:Value),Inv X on Y H' s->RelV v u->∃as,Reads s.heap u p as
def E5(X:Cx)(U:cE)(e:Expr)(p:PyData):Prop:=∀(B:B0)(F H:Hp)(Y:St)(Q:VK),Ok X.K B F H Y U->(∀v F' H',Ext ⟨F,H⟩ F' H'->X6 X H' v p->Q v H')->wE X e Y H Q
def Vp.p(h:Vp X U e d):E5 X U e (gw d):=λB F H Y Q k q=>h B F H Y Q k λv F' H' x r=>q v F' H' x λhs H2 s2 on Y s u I ru=>r.reads I (x.sub.trans s2) ru hs
def XC.p(h:XC X U e k xs):E5 X U e (if k=true then PyData.list (VA xs)else .tuple<|VA xs):=λB F H Y Q k' q=>h B F H Y Q k' λa vs F' H' x hs r=>q _ F' H' x λhc H2 s2 on Y s u I ru=>by cases(ru);exact Y6.reads I (x.sub.trans s2) (hs.mono s2) r hc
def FE{p q:PyData}(t:At X N sc)(sp:SeqAt.shaped p=true)(sq:SeqAt.shaped q=true):mj X (compareOp .Eq) (λx y H Q=>X6 X H x p/\X6 X H y q/\Q (.bl<|p.eqv q) H):=by intro on s Y H x y v u Q I rx ry h;let⟨h1,h2,h3⟩:=h;let⟨as,r1⟩:=h1 (pR sp) H (.refl _) on Y s v I rx;let⟨bs,r2⟩:=h2 (pR sq) H (.refl _) on Y s u I ry;exact eq_dataH r1 r2 sp sq t.un ⟨.bl _,H,I,rfl,h3⟩
def Jb{p q:PyData}(t:At X N sc)(sp:SeqAt.shaped p=true)(sq:SeqAt.shaped q=true):mj X (compareOp .NotEq) (λx y H Q=>X6 X H x p/\X6 X H y q/\Q (.bl (!p.eqv q)) H):=by intro on s Y H x y v u Q I rx ry h;let⟨h1,h2,h3⟩:=h;let⟨as,r1⟩:=h1 (pR sp) H (.refl _) on Y s v I rx;let⟨bs,r2⟩:=h2 (pR sq) H (.refl _) on Y s u I ry;exact ne_dataH r1 r2 sp sq t.un ⟨.bl _,H,I,rfl,h3⟩
def X6.mono(h:X6 X H v p)(s:Vu H H'):X6 X H' v p:=λhc H2 s2=>h hc H2<|s.trans s2
def AY(ha:E5 X U a p)(hb:E5 X U b q){R:V->V->Hp->Prop}(k:Ok X.K B F H Y U)(h:∀x y F' H',Ext ⟨F,H⟩ F' H'->X6 X H' x p->X6 X H' y q->R x y H'):wE X a Y H λx H1=>wE X b Y H1 λy H2=>R x y H2:=ha B F H Y _ k λx F1 H1 x1 r1=>hb B F1 H1 Y _ (k.ext x1) λy F2 H2 x2 r2=>h x y F2 H2 (x1.t x2) (r1.mono x2.sh) r2
def BA{r:Bool}(t:At X N sc)(ha:E5 X U a p)(hb:E5 X U b q)(sp:SeqAt.shaped p=true)(sq:SeqAt.shaped q=true)(hr:p.eqv q=r):Vp X U (.Compare a [.Eq] [b] pos) (.bl r):=.of (uc (FE t sp sq) aU aU<|eE _<|by decide) λB F H Y Q k q=>AY ha hb k λx y F' H' x' rx ry=>⟨rx,ry,by rw[hr];exact q _ F' H' x'<|.bl r⟩
def Ez{r:Bool}(t:At X N sc)(ha:E5 X U a p)(hb:E5 X U b q)(sp:SeqAt.shaped p=true)(sq:SeqAt.shaped q=true)(hr:(!p.eqv q)=r):Vp X U (.Compare a [.NotEq] [b] pos) (.bl r):=.of (uc (Jb t sp sq) aU aU<|eE _<|by decide) λB F H Y Q k q=>AY ha hb k λx y F' H' x' rx ry=>⟨rx,ry,by rw[hr];exact q _ F' H' x'<|.bl r⟩
def Vs.at{i:Int}(r:Vs K F vs xs)(h:me xs i=some d):∃v,me vs i=some v/\Rep K F v d:=by
 unfold me at h ⊢;rw[r.length];cases e:FZ xs.length i with
 |none=>rw[e]at h;cases h
 |some j=>rw[e]at h;let⟨v,h1,h2⟩:=r.get h;exact⟨v,h1,h2⟩
def qe{db:D}(ha:XC X U a k xs)(hb:Vp X U b db){R:V->V->Hp->Prop}(k':Ok X.K B F H Y U)(h:∀l vs y F' H',Ext ⟨F,H⟩ F' H'->Y6 X.K k H' l vs->Vs X.K F' vs xs->Rep X.K F' y db->R (.ref l) y H'):wE X a Y H λx H1=>wE X b Y H1 λy H2=>R x y H2:=ha B F H Y _ k' λl vs F1 H1 x1 s1 r1=>hb B F1 H1 Y _ (k'.ext x1) λy F2 H2 x2 r2=>h l vs y F2 H2 (x1.t x2) (s1.mono x2.sh) (r1.mono x2.sf) r2
def br(ha:XC X U a k xs)(hb:Vp X U b (.int i))(h:me xs i=some d:=by rfl)(hs:oU b:=by intro _ _;rfl):Vp X U (.Subscript a b pos) d:=by
 cases k with
 |true=>exact .of (xj Bs aU aU hs) λB F H Y Q k' q=>qe ha hb k' λl vs y F' H' x' sl rl ry=>by cases ry;let⟨v,h1,h2⟩:=rl.at h;exact⟨l,vs,i,v,rfl,rfl,sl,h1,q v F' H' x' h2⟩
 |false=>exact .of (xj O0 aU aU hs) λB F H Y Q k' q=>qe ha hb k' λl vs y F' H' x' sl rl ry=>by cases ry;let⟨v,h1,h2⟩:=rl.at h;exact⟨l,vs,i,v,rfl,rfl,sl,h1,q v F' H' x' h2⟩
def eL:YK X U none none:=λB F H Y Q k q=>.mk λon s I=>LR on s Y H Q I<|q F H<|.refl k.sub
def c9(h:Vp X U e (.int i)):YK X U (some e) (some i):=λB F H Y Q k q=>.mk λon s I=>Be aU on s Y H Q I (h B F H Y _ k λv F' H' x r=>by cases r;exact⟨i,rfl,q F' H' x⟩)
def cutD(xs:aM)(lo hi:Option Int):aM:=(xs.drop<|HT.VI xs.length 0 lo).take<|HT.VI xs.length xs.length hi-HT.VI xs.length 0 lo
def Vs.cut(r:Vs K F vs xs)(lo hi:Option Int):Vs K F (Hx vs lo hi) (cutD xs lo hi):=by unfold Hx cutD;rw[r.length];exact(r.drop _).take _
def fZ{lo hi:Option Expr}{l h:Option Int}(ha:XC X U a true xs)(hl:YK X U lo l)(hh:YK X U hi h):VD X U (.Subscript a (.Slice lo hi none p2) pos) (cutD xs l h):=.of (qc Lo aU CG CG) λB F H Y Q k q=>ha B F H Y _ k λp vs F1 H1 x1 s1 r1=>hl B F1 H1 Y _ (k.ext x1) λF2 H2 x2=>hh B F2 H2 Y _ (k.ext<|x1.t x2) λF3 H3 x3=>by have x:=x1.t<|x2.t x3;refine⟨p,vs,rfl,(s1.mono x2.sh).mono x3.sh,λl' Yo=>?_⟩;exact q l' _ F3 _ ⟨x.sub.trans<|aP Yo,x.sh.trans<|aP Yo,x.sf,x.nw⟩ (x.sh.free Yo) aI (x.sub.free Yo)<|((r1.mono x2.sf).mono x3.sf).cut l h
def MA{lo hi:Option Expr}{l h:Option Int}(ha:XC X U a false xs)(hl:YK X U lo l)(hh:YK X U hi h)(hw:¬(HT.VI xs.length 0 l=0/\HT.VI xs.length xs.length h=xs.length)):Vp X U (.Subscript a (.Slice lo hi none p2) pos) (.tup<|cutD xs l h):=.of (qc Og aU CG CG) λB F H Y Q k q=>ha B F H Y _ k λp vs F1 H1 x1 s1 r1=>hl B F1 H1 Y _ (k.ext x1) λF2 H2 x2=>hh B F2 H2 Y _ (k.ext<|x1.t x2) λF3 H3 x3=>by have x:=x1.t<|x2.t x3;have r3:=(r1.mono x2.sf).mono x3.sf;refine⟨p,vs,rfl,(s1.mono x2.sh).mono x3.sh,by rwa[r3.length],λl' Yo=>?_⟩;exact q _ _ _ (x.grow Yo)<|.tup aI<|(r3.cut l h).mono<|aP<|x.sub.free Yo
def af:VL X U [] []:=⟨trivial,λB F H Y Q k q=>.mk λpos on s I=>dk pos on s Y H Q I<|q [] F H (.refl k.sub) .nil⟩
def ac{ds:aM}(h1:Vp X U e d)(h2:VL X U es ds)(hs:Pl e:=by intro _ _;rfl):VL X U (e::es) (d::ds):=⟨⟨hs,h2.1⟩,λB F H Y Q k q=>.mk λpos on s I=>bC aU nU (hs _ _) pos on s Y H Q I (h1 B F H Y _ k λv F1 H1 x1 r1=>h2.2 B F1 H1 Y _ (k.ext x1) λvs F2 H2 x2 r2=>q _ F2 H2 (x1.t x2)<|.cons (r1.mono x2.sf) r2)⟩
def aC{ds:aM}(h:VL X U es ds)(hl:ds.length<=sizeLine:=by exact cM rfl):Vp X U (.Tuple es x1 pos) (.tup ds):=.of (Bj nU) λB F H Y Q k q=>h.2 B F H Y _ k λvs F' H' x r=>⟨by rwa[r.length],λp hp=>q _ _ _ (x.grow hp)<|.tup aI<|r.mono<|aP<|x.sub.free hp⟩
def bK{ds:aM}(h:VL X U es ds)(hl:ds.length<=sizeLine:=by exact cM rfl):VD X U (.List es pos) ds:=.of (Eb nU) λB F H Y Q k q=>h.2 B F H Y _ k λvs F' H' x r=>⟨by rwa[r.length],λp hp=>q p vs F' _ ⟨x.sub.trans<|aP hp,x.sh.trans<|aP hp,x.sf,x.nw⟩ (x.sh.free hp) aI (x.sub.free hp) r⟩
def kJ(ha:Vp X U a (.lst xs))(hb:Vp X U b (.lst ys))(hz:xs.length+ys.length<=sizeLine):VD X U (.BinOp a .Add b pos) (xs++ys):=.of (pH Jy aU aU) λB F H Y Q k q=>two ha hb k λx y F' H' x' rx ry=>by cases rx with|lst h1 r1=>cases ry with|lst h2 r2=>refine⟨_,_,_,_,rfl,rfl,x'.sub _ _ h1,x'.sub _ _ h2,by rwa[r1.length,r2.length],λp hp=>?_⟩;exact q p _ F' _ ⟨x'.sub.trans<|aP hp,x'.sh.trans<|aP hp,x'.sf,x'.nw⟩ (x'.sh.free hp) aI (x'.sub.free hp)<|r1.append r2
def BG(ha:Vp X U a (.lst xs))(hb:Vp X U b (.int n))(h1: -(2 ^ 63)<=n)(h2:n<2 ^ 63)(hz:xs.length*n.toNat<=sizeLine):VD X U (.BinOp a .Mult b pos) (List.replicate n.toNat xs).flatten:=.of (pH OF aU aU) λB F H Y Q k q=>two ha hb k λx y F' H' x' rx ry=>by cases rx with|lst g1 r1=>cases ry;refine⟨_,n,_,rfl,rfl,x'.sub _ _ g1,h1,h2,by rwa[r1.length],λp hp=>?_⟩;exact q p _ F' _ ⟨x'.sub.trans<|aP hp,x'.sh.trans<|aP hp,x'.sf,x'.nw⟩ (x'.sh.free hp) aI (x'.sub.free hp)<|r1.rep _
def wt(ha:Vr X U a r):W0 X U (.BoolOp .And [a] pos) r:=.of (LJ mX) λB F H Y Q k q=>ha B F H Y Q k q
def qp(ha:Vr X U a r):W0 X U (.BoolOp .Or [a] pos) r:=.of (Oo mX) λB F H Y Q k q=>ha B F H Y Q k q
def rj{bP:tL}(ha:Vr X U a true)(hb:W0 X U (.BoolOp .And (b::bP) pos) r):W0 X U (.BoolOp .And (a::b::bP) pos) r:=.of (Jc mX LI) λB F H Y Q k q=>ha B F H Y _ k λF1 H1 x1=>by rw[ax rfl];exact hb B F1 H1 Y _ (k.ext x1) λF2 H2 x2=>q F2 H2<|x1.t x2
def ut{bP:tL}(ha:Vr X U a false):W0 X U (.BoolOp .And (a::b::bP) pos) false:=.of (Jc mX LI) λB F H Y Q k q=>ha B F H Y _ k λF1 H1 x1=>by rw[av aA];exact q F1 H1 x1
def m4{bP:tL}(ha:Vr X U a false)(hb:W0 X U (.BoolOp .Or (b::bP) pos) r):W0 X U (.BoolOp .Or (a::b::bP) pos) r:=.of (Nk mX LI) λB F H Y Q k q=>ha B F H Y _ k λF1 H1 x1=>by rw[av aA];exact hb B F1 H1 Y _ (k.ext x1) λF2 H2 x2=>q F2 H2<|x1.t x2
def va{bP:tL}(ha:Vr X U a true):W0 X U (.BoolOp .Or (a::b::bP) pos) true:=.of (Nk mX LI) λB F H Y Q k q=>ha B F H Y _ k λF1 H1 x1=>by rw[ax rfl];exact q F1 H1 x1
def W0.toT(h:W0 X U e r):Vr X U e r:=λB F H Y Q k q=>.mk λon s I=>h B F H Y Q k q _ on s I
def lU(ha:Vr X U a r):Vr X U (.UnaryOp .Not a pos) (!r):=.of (Oq mX) λB F H Y Q k q=>ha B F H Y _ k q
def Kb{op:BoolOp}(h:Vp X U a d):Vp X U (.BoolOp op [a] pos) d:=.of (Oy aU) λB F H Y Q k q=>h B F H Y Q k q
def MD{bP:tL}(ha:Vp X U a (.bl true))(hb:Vp X U (.BoolOp .And (b::bP) pos) d):Vp X U (.BoolOp .And (a::b::bP) pos) d:=.of (Jr aU aU) λB F H Y Q k q=>ha B F H Y _ k λv F1 H1 x1 r=>by cases r;exact⟨true,rfl,by rw[ax rfl];exact hb B F1 H1 Y _ (k.ext x1) λv F2 H2 x2 r2=>q v F2 H2 (x1.t x2) r2⟩
def ME{bP:tL}(ha:Vp X U a (.bl false)):Vp X U (.BoolOp .And (a::b::bP) pos) (.bl false):=.of (Jr aU aU) λB F H Y Q k q=>ha B F H Y _ k λv F1 H1 x1 r=>by cases r;exact⟨false,rfl,by rw[av aA];exact q _ F1 H1 x1<|.bl false⟩
def Pj{bP:tL}(ha:Vp X U a (.bl false))(hb:Vp X U (.BoolOp .Or (b::bP) pos) d):Vp X U (.BoolOp .Or (a::b::bP) pos) d:=.of (No aU aU) λB F H Y Q k q=>ha B F H Y _ k λv F1 H1 x1 r=>by cases r;exact⟨false,rfl,by rw[av aA];exact hb B F1 H1 Y _ (k.ext x1) λv F2 H2 x2 r2=>q v F2 H2 (x1.t x2) r2⟩
def Pi{bP:tL}(ha:Vp X U a (.bl true)):Vp X U (.BoolOp .Or (a::b::bP) pos) (.bl true):=.of (No aU aU) λB F H Y Q k q=>ha B F H Y _ k λv F1 H1 x1 r=>by cases r;exact⟨true,rfl,by rw[ax rfl];exact q _ F1 H1 x1<|.bl true⟩
def Gi(ha:Vp X U a (.bl r)):Vp X U (.UnaryOp .Not a pos) (.bl (!r)):=.of (Oz aU) λB F H Y Q k q=>ha B F H Y _ k λv F1 H1 x1 rv=>by cases rv;exact⟨r,rfl,q _ F1 H1 x1<|.bl _⟩
def sP(hc:Vr X U c true)(ha:Vp X U a d):Vp X U (.IfExp c a b pos) d:=.of (ub mX aU aU) λB F H Y Q k q=>hc B F H Y _ k λF1 H1 x1=>by rw[ax rfl];exact ha B F1 H1 Y _ (k.ext x1) λv F2 H2 x2 r2=>q v F2 H2 (x1.t x2) r2
def sQ(hc:Vr X U c false)(hb:Vp X U b d):Vp X U (.IfExp c a b pos) d:=.of (ub mX aU aU) λB F H Y Q k q=>hc B F H Y _ k λF1 H1 x1=>by rw[av aA];exact hb B F1 H1 Y _ (k.ext x1) λv F2 H2 x2 r2=>q v F2 H2 (x1.t x2) r2
def Kf(ha:Vp X U e (.int i))(he:∀whole,isTrue e X.env whole=(do let v <-whole;standAt e.pos;holding [v] (truthy v)):=by intro _;rfl):Vr X U e (i !=0):=.of (Jf aU he) λB F H Y Q k q=>ha B F H Y _ k λv F1 H1 x1 r=>by cases r;exact⟨_,rfl,q F1 H1 x1⟩
def fM(ha:Vp X U e (.bl r))(he:∀whole,isTrue e X.env whole=(do let v <-whole;standAt e.pos;holding [v] (truthy v)):=by intro _;rfl):Vr X U e r:=.of (Op aU he) λB F H Y Q k q=>ha B F H Y _ k λv F1 H1 x1 rv=>by cases rv;exact⟨r,rfl,q F1 H1 x1⟩
section
def sS{db:D}{op:CmpOp}{r:R2}(ho:mj X (compareOp op) r)(ha:Vp X U a da)(hb:Vp X U b db)(hm:behindInMarks op b=false)(hr:∀(F H:Hp)x y(Q:VK),Rep X.K F x da->Rep X.K F y db->Q (.bl k) H->r x y H Q):Vr X U (.Compare a [op] [b] pos) k:=.of (gr ho aU aU hm) λB F H Y Q k' q=>two ha hb k' λx y F' H' x' rx ry=>hr F' H' x y _ rx ry ⟨k,rfl,q F' H' x'⟩
def io(ha:Vp X U a (.int i))(hb:Vp X U b (.int j)):Vr X U (.Compare a [.Lt] [b] pos) (decide<|i<j):=sS Jx ha hb (eE _<|by decide) λF H x y Q rx ry q=>by cases rx;cases ry;exact⟨i,j,rfl,rfl,q⟩
def gf(ha:Vp X U a (.int i))(hb:Vp X U b (.int j)):Vr X U (.Compare a [.Gt] [b] pos) (decide<|j<i):=sS Np ha hb (eE _<|by decide) λF H x y Q rx ry q=>by cases rx;cases ry;exact⟨i,j,rfl,rfl,q⟩
def NH(ha:Vp X U a (.int i))(hb:Vp X U b (.int j)):Vr X U (.Compare a [.GtE] [b] pos) (decide<|j<=i):=sS Re ha hb (eE _<|by decide) λF H x y Q rx ry q=>by cases rx;cases ry;exact⟨i,j,rfl,rfl,q⟩
def Db{i:Int}:decide (V.int i=V.int j)=decide (i=j):=by rw[BJ,Bool.beq_eq_decide_eq]
def dM(ha:Vp X U a (.int i))(hb:Vp X U b (.int j)):Vr X U (.Compare a [.Eq] [b] pos) (decide<|i=j):=sS Rf ha hb (eE _<|by decide) λF H x y Q rx ry q=>by cases rx;cases ry;exact⟨rfl,by rwa[Db]⟩
def vc(ha:Vp X U a (.int i))(hb:Vp X U b (.int j)):Vr X U (.Compare a [.NotEq] [b] pos) (!decide (i=j)):=sS Rb ha hb (eE _<|by decide) λF H x y Q rx ry q=>by cases rx;cases ry;exact⟨rfl,by rwa[Db]⟩
def kH{r:Bool}(t:At X N sc)(ha:E5 X U a p)(hb:E5 X U b q)(sp:SeqAt.shaped p=true)(sq:SeqAt.shaped q=true)(hr:p.eqv q=r):Vr X U (.Compare a [.Eq] [b] pos) r:=.of (gr (FE t sp sq) aU aU<|eE _<|by decide) λB F H Y Q k q=>AY ha hb k λx y F' H' x' rx ry=>⟨rx,ry,r,by rw[hr],q F' H' x'⟩
def EB{r:Bool}(t:At X N sc)(ha:E5 X U a p)(hb:E5 X U b q)(sp:SeqAt.shaped p=true)(sq:SeqAt.shaped q=true)(hr:(!p.eqv q)=r):Vr X U (.Compare a [.NotEq] [b] pos) r:=.of (gr (Jb t sp sq) aU aU<|eE _<|by decide) λB F H Y Q k q=>AY ha hb k λx y F' H' x' rx ry=>⟨rx,ry,r,by rw[hr],q F' H' x'⟩
structure kN(X:Cx)(sc:Scope)(x:Str)(u:Value):Prop where
 g:sw sc x
 m:X.mg x=none
 v:bootBuiltins x=some u
 n:x≠"__name__"
 d:pE x
def dI(t:At X N sc)(h:sw sc x):Gl X x:=by show X.env.scope.names.lookup x=_;rwa[t.eS]
variable {ds:aM}
def ux{id:String}(t:At X N sc){r:fh->Hp->VK->Prop}(bl:kN X sc x (.builtin id))(hc:iq X (.builtin id) r)(ha:VL X U (e::es) ds)(hr:∀(F H:Hp)vs(Q:VK),Vu F H->Vs X.K F vs ds->(∀v F' H',Ext ⟨F,H⟩ F' H'->Rep X.K F' v d->Q v H')->r vs H Q):Vp X U (.Call (.Name x p) (e::es) [] pos) d:=.of (iH hc (dI t bl.g) bl.m bl.v nU bl.n bl.d (ha.1.1 _ _)<|Yf.any ha.1.2) λB F H Y Q k q=>ha.2 B F H Y _ k λvs F' H' x' rv=>hr F' H' vs Q x'.sub rv λv F2 H2 x2 r2=>q v F2 H2 (x'.t x2) r2
def vb(t:At X N sc){r:fh->Hp->VK->Prop}(bl:kN X sc x (.type T))(hc:iq X (.type T) r)(ha:VL X U (e::es) ds)(hr:∀(F H:Hp)vs(Q:VK),Vu F H->Vs X.K F vs ds->(∀v F' H',Ext ⟨F,H⟩ F' H'->Rep X.K F' v d->Q v H')->r vs H Q):Vp X U (.Call (.Name x p) (e::es) [] pos) d:=.of (nS hc (dI t bl.g) bl.m bl.v nU bl.n bl.d (ha.1.1 _ _)<|Yf.any ha.1.2) λB F H Y Q k q=>ha.2 B F H Y _ k λvs F' H' x' rv=>hr F' H' vs Q x'.sub rv λv F2 H2 x2 r2=>q v F2 H2 (x'.t x2) r2
def Vs.one(h:Vs K F vs [d]):∃v,vs=[v]/\Rep K F v d:=by cases h with|cons r t=>cases t;exact⟨_,rfl,r⟩
def Vs.two(h:Vs K F vs [d,e]):∃v u,vs=[v,u]/\Rep K F v d/\Rep K F u e:=by cases h with|cons r t=>obtain⟨u,rfl,q⟩:=t.one;exact⟨_,_,rfl,r,q⟩
def eC(t:At X N sc)(bl:kN X sc x (.builtin "len"))(ha:XC X U e k xs)(W3:Pl e:=by intro _ _;rfl):Vp X U (.Call (.Name x p) [e] [] pos) (.int xs.length):=.of (iH uC (dI t bl.g) bl.m bl.v (bC aU dk<|W3 _ _) bl.n bl.d (W3 _ _) rfl) λB F H Y Q k' q=>ha B F H Y _ k' λl vs F' H' x' sl rl=>by
  refine⟨l,vs,rfl,?_,?_⟩;cases k with|true=>exact .inl sl|false=>exact .inr sl
  rw[rl.length];exact q _ F' H' x'<|.int _
def Ke(t:At X N sc)(bl:kN X sc x (.builtin "abs"))(ha:Vp X U e (.int i))(W3:Pl e:=by intro _ _;rfl):Vp X U (.Call (.Name x p) [e] [] pos) (.int i.natAbs):=ux t bl Kx (ac ha af W3) λF H vs Q sub r q=>by
  obtain⟨v,rfl,rv⟩:=r.one;cases rv;have e:(if i<0 then-i else i)=i.natAbs:=by split<;>lia
  exact⟨i,rfl,by rw[e];exact q _ F H (.refl sub)<|.int _⟩
def lc(t:At X N sc)(bl:kN X sc x (.builtin "max"))(ha:Vp X U a (.int i))(hb:Vp X U b (.int j))(hpa:Pl a:=by intro _ _;rfl)(hpb:Pl b:=by intro _ _;rfl):Vp X U (.Call (.Name x p) [a,b] [] pos) (.int<|max i j):=ux t bl (HB t.calm) (ac ha (ac hb af hpb) hpa) λF H vs Q sub r q=>by
  obtain⟨v,u,rfl,rv,ru⟩:=r.two;cases rv;cases ru;have e:(if j>i then j else i)=max i j:=by split<;>lia
  exact⟨i,j,rfl,by rw[e];exact q _ F H (.refl sub)<|.int _⟩
def Gj(t:At X N sc)(bl:kN X sc x (.builtin "min"))(ha:Vp X U a (.int i))(hb:Vp X U b (.int j))(hpa:Pl a:=by intro _ _;rfl)(hpb:Pl b:=by intro _ _;rfl):Vp X U (.Call (.Name x p) [a,b] [] pos) (.int<|min i j):=ux t bl (HA t.calm) (ac ha (ac hb af hpb) hpa) λF H vs Q sub r q=>by
  obtain⟨v,u,rfl,rv,ru⟩:=r.two;cases rv;cases ru;have e:(if j<i then j else i)=min i j:=by split<;>lia
  exact⟨i,j,rfl,by rw[e];exact q _ F H (.refl sub)<|.int _⟩
def oN(t:At X N sc)(bl:kN X sc x (.type "int"))(ha:Vp X U e (.bl k))(W3:Pl e:=by intro _ _;rfl):Vp X U (.Call (.Name x p) [e] [] pos) (.int (if k then 1 else 0)):=vb t bl HE (ac ha af W3) λF H vs Q sub r q=>by obtain⟨v,rfl,rv⟩:=r.one;cases rv;exact .inr ⟨k,rfl,q _ F H (.refl sub)<|.int _⟩
def MG(t:At X N sc)(bl:kN X sc x (.type "list"))(ha:XC X U e k xs)(W3:Pl e:=by intro _ _;rfl):VD X U (.Call (.Name x p) [e] [] pos) xs:=.of (nS BP (dI t bl.g) bl.m bl.v (bC aU dk<|W3 _ _) bl.n bl.d (W3 _ _) rfl) λB F H Y Q k' q=>ha B F H Y _ k' λl vs F' H' x' sl rl=>by
  refine⟨l,vs,rfl,?_,λp hp=>?_⟩;cases k with|true=>exact .inl sl|false=>exact .inr sl
  exact q p vs F' _ ⟨x'.sub.trans<|aP hp,x'.sh.trans<|aP hp,x'.sf,x'.nw⟩ (x'.sh.free hp) aI (x'.sub.free hp) rl
def jr(t:At X N sc)(bl:kN X sc x (.type "tuple"))(ha:XC X U e true xs)(W3:Pl e:=by intro _ _;rfl):Vp X U (.Call (.Name x p) [e] [] pos) (.tup xs):=.of (nS zw (dI t bl.g) bl.m bl.v (bC aU dk<|W3 _ _) bl.n bl.d (W3 _ _) rfl) λB F H Y Q k' q=>ha B F H Y _ k' λl vs F' H' x' sl rl=>by refine⟨l,vs,rfl,.inl ⟨sl,λp hp=>?_⟩⟩;exact q _ _ _ (x'.grow hp)<|.tup aI<|rl.mono<|aP<|x'.sub.free hp
def Sj:D->Value|.VH=>.type "NoneType" |.bl _=>.type "bool" |.int _=>.type "int" |.str _=>.type "str" |.tup _=>.type "tuple" |.lst _=>.type "list" |.XF _=>.type "list" |.exc C=>.ref C |.Yp C _=>.ref C |.WI _=>.type "dict" |.adr _=>.type "dict" |.Xi _=>.type "dict"
def SY(sub:Vu F H)(r:Rep X.K F v d)(hd:∀ns,d≠.XF ns)(hx:∀C ea,d≠.exc C/\d≠.Yp C ea/\d≠.adr C:=by intro _ _;exact And.intro (λh=>by cases h)<|And.intro (λh=>by cases h) λh=>by cases h)(hq:∀kvs,d≠.WI kvs:=by intro _ h;cases h):vm X.K H v (Sj d):=by
 cases r with
 |VH=>exact .VH|bl b=>exact .bl b
 |int i=>exact .int i|str x=>exact .str x
 |tup h _=>exact .tup (sub _ _ h)|lst h _=>exact .lst<|sub _ _ h
 |XF h=>exact absurd rfl (hd _)|exc h=>exact absurd rfl (hx _ 0).1
 |Yp h=>exact absurd rfl (hx _ _).2.1|adr a=>exact absurd rfl (hx a 0).2.2
 |Xi h=>exact .dK (sub _ _ h)|WI h _=>exact absurd rfl<|hq _
def O6{d:D}(hx:∀C ea,d≠.exc C/\d≠.Yp C ea/\d≠.adr C)(hd:∀ns,d≠.XF ns)(hq:∀kvs,d≠.WI kvs)(hk:kitOne X.K (Sj d) (.type T)=some k):iq X (.builtin "isinstance") (λxs H Q=>∃x F,xs=[x,.ty T]/\Vu F H/\Rep X.K F x d/\Q (.bl k) H):=by intro on s Y H xs us Q I r h;obtain⟨v,F,rfl,sub,rv,q⟩:=h;obtain⟨u,w,rfl,ru,Xn⟩:=wQ r;cases(Xn);exact Hn I ru (SY sub rv hd hx hq) hk λtk=>⟨.bl k,H,I.tok tk,rfl,q⟩
def sO(t:At X N sc)(bl:kN X sc x (.builtin "isinstance"))(bt:kN X sc y (.type T))(ha:Vp X U a d)(hk:kitOne X.K (Sj d) (.type T)=some k)(hd:∀ns,d≠.XF ns:=by intro _ h;cases h)(hpa:Pl a:=by intro _ _;rfl)(hx:∀C ea,d≠.exc C/\d≠.Yp C ea/\d≠.adr C:=by intro _ _;exact And.intro (λh=>by cases h)<|And.intro (λh=>by cases h) λh=>by cases h)(hq:∀kvs,d≠.WI kvs:=by intro _ h;cases h):Vp X U (.Call (.Name x p) [a,.Name y py] [] pos) (.bl k):=.of (iH (O6 hx hd hq hk) (dI t bl.g) bl.m bl.v (bC aU (bC (wp (v:=.ty T) (dI t bt.g) bt.m bt.v rfl bt.n bt.d) dk)<|hpa _ _) bl.n bl.d (hpa _ _) rfl) λB F H Y Q k' q=>ha B F H Y _ k' λv F' H' x' r=>⟨v,F',rfl,x'.sub,r,q _ F' H' x'<|.bl k⟩
def Vs.bls:∀{bs:List Bool}{vs:fh},Vs K F vs (bs.map D.bl)->vs=bs.map V.bl
 |[],_,h=>by cases h;rfl
 |b::bs,_,h=>by cases h with|cons r t=>cases r;rw[bp,Vs.bls t]
theorem Dm:∀{bs:List Bool}{us:jh},Vals (bs.map V.bl) us->LSm.BoolsAre us bs
 |[],_,r=>by cases r;exact .nil
 |b::bs,_,r=>by rw[bp]at r;cases r with|cons r1 r2=>cases(r1);exact .cons b<|Dm r2
def HF(hc:X.calm=true):iq X (.builtin "all") (λxs H Q=>∃(l:Addr)(bs:List Bool),xs=[.ref l]/\Wd X.K H l (bs.map V.bl)/\Q (.bl<|bs.all id) H):=by
 intro on s Y H xs us Q I r h;obtain⟨l,bs,rfl,sl,q⟩:=h;obtain⟨u,rfl,ru⟩:=lB r;cases(ru);obtain⟨vs,rv,pl,hz⟩:=I.list sl;have hb:=Dm rv;have hl:=pl.isList;have V1:l<s.heap.objs.size:=by let⟨_,e,_⟩:=hl;exact aR e
 refine call_all_walk<|P4 hl ?_;refine⟨s.heap.objs.size,[s.heap.objs.size,l],[s.heap.objs.size],vs.toArray.size,_,_,λi=>(bs[i]?).getD true,rfl,Walks.list (A:=X.A.in1) (I.ok.hd hc) _ l (bH V1) vs.toArray,⟨⟨_,Heap.get?_push_size _ rfl,rfl,rfl⟩,hl.push _⟩,λi v s' Q' E' hP hQ=>?_,λh' tk hk=>?_⟩;obtain⟨b,e,rfl⟩:=hb.get i v (by simpa using hP);simp only[e,KQ]at hQ;exact gh hQ;have e:((List.range vs.toArray.size).all λi=>(bs[i]?).getD true)=bs.all id:=by rw[aG,hb.length];exact LSm.range_all bs
 rw[e];exact⟨.bl _,H,I.kept<|LSm.kept_iter hk,rfl,q⟩
def xP(t:At X N sc){bs:List Bool}(bl:kN X sc x (.builtin "all"))(ha:XC X U e true (bs.map D.bl))(W3:Pl e:=by intro _ _;rfl):Vp X U (.Call (.Name x p) [e] [] pos) (.bl<|bs.all id):=.of (iH (HF t.calm) (dI t bl.g) bl.m bl.v (bC aU dk<|W3 _ _) bl.n bl.d (W3 _ _) rfl) λB F H Y Q k' q=>ha B F H Y _ k' λl vs F' H' x' sl rl=>by have e:=rl.bls;subst e;exact⟨l,bs,rfl,sl,q _ F' H' x'<|.bl _⟩
def G7(K:eZ)(C:aM->D->Prop):Sp:=λvs H Q _=>∃F ds d,Vu F H/\Vs K F vs ds/\C ds d/\∀v F' H',Ext ⟨F,H⟩ F' H'->Rep K F' v d->Q v H'
def Callee(X:Cx)(x:Str)(C:aM->D->Prop):Prop:=∃(f:Addr)(fd:FuncData)(ps:cn)(k:Nat),dZ X.prog X.w X.K X.mg X.base jd k f fd ps (G7 X.K C)/\VS k X.A/\X.mg x=some (.ref f)/\keepIn X.K (.ref f)=true/\Binds X.K fd ps []
def aB(t:At X N sc){C:aM->D->Prop}(h:Callee X x C)(ha:VL X U (e::es) ds)(hC:C ds d)(hg:sw sc x:=by rfl)(Wb:pE x:=by rfl):Vp X U (.Call (.Name x p) (e::es) [] pos) d:=by obtain⟨f,fd,ps,k,F,hr,hm,hk,hb⟩:=h;have pz:iB jd X E0:=qf;refine .of (j7 F hr (dI t hg) hm hk hb .nil pz nU Wb (ha.1.1 _ _)<|Yf.any ha.1.2) λB F' H Y Q k' q=>ha.2 B F' H Y _ k' λvs F1 H1 x1 r1=>?_;refine⟨F1,ds,d,x1.sub,by rwa[aX],hC,λv F2 H2 x2 r2=>q v F2 H2 (x1.t x2) r2⟩
def dE(sc:Scope):Env:={scope:=sc,locals:=0,globals:=0,cells:=[],qual:="",func:=none,code:=.none,frame:=none,builtins:=0}
def A3{env ZG:Env}(h:env.scope=ZG.scope):swappedStores ts v env=swappedStores ts v ZG:=by unfold swappedStores Env.blockKind Env.kindOf;rw[h]
def Oa{tg:Option Expr}{env ZG:Env}(h:env.scope=ZG.scope):swapsWith v tg n env=swapsWith v tg n ZG:=by unfold swapsWith Env.blockKind Env.kindOf;rw[h]
variable {st:Stmt}{bP:List Stmt}
def bQ:Vt X U [] (.nx U):=.of FF λB F H Y E k q=>q F H Y k<|.refl _
def au(h1:VN X U st (.nx W1))(h2:Vt X W1 bP o):Vt X U (st::bP) o:=.of (gA uP dU) λB F H Y E k q=>h1 B F H Y _ k λF1 H1 WF k1 s1=>h2 B F1 H1 WF E k1<|q.later s1
def dC(h1:VN X U st (.rt d)):Vt X U (st::bP) (.rt d):=.of (gA uP dU) λB F H Y E k q=>h1 B F H Y _ k q
def az(h1:VN X U st o):Vt X U [st] o:=.of (oH uP) λB F H Y E k q=>h1 B F H Y E k q
def fJ{U:cE}(i:Nat)(hi:U[i]?=some (.own xs))(h:Vt X (U.set i<|.val<|.lst xs) bP o):Vt X U bP o:=λB F H Y E k q=>by let⟨F',sf,k'⟩:=k.ZD hi;exact h B F' H Y E k'<|q.later sf
def bj(h:Vp X U e d):VN X U (.Return (some e) pos) (.rt d):=.of (uQ aU) λB F H Y E k q=>h B F H Y _ k λv F' H' x r=>q v F' H' (k.toExt.trans x) r
def dA(hc:Vr X U c true)(h:Vt X U ss o):VN X U (.If c ss us pos) o:=.of (xb mX dU dU) λB F H Y E k q=>hc B F H Y _ k λF1 H1 x1=>by rw[ax rfl];exact h B F1 H1 Y E (k.ext x1)<|q.later x1.sf
def cj(hc:Vr X U c false)(h:Vt X U us o):VN X U (.If c ss us pos) o:=.of (xb mX dU dU) λB F H Y E k q=>hc B F H Y _ k λF1 H1 x1=>by rw[av aA];exact h B F1 H1 Y E (k.ext x1)<|q.later x1.sf
def Ga{x:Str}[WR X]:X.fn x=true\/X.env.scope.names.lookup x=some .local:=.inl<|WR.fn x
def At.loc{x:Str}(t:At X N sc)(hx:ml sc x=true):PY X.env.scope x:=by rw[t.eS];exact JI hx
def At.ix{i:Nat}(t:At X N sc)(h:N[i]?=some x):X.N[i]?=some x:=by rwa[t.eN]
def bg[WR X](t:At X N sc)(i:Nat)(h:Vp X U e d)(hi:N[i]?=some x:=by rfl)(hx:ml sc x=true:=by rfl)(hs:swapsWith e (some<|.Name x pos') pos.line X.env=pure false:=by rfl):VN X U (.Assign [.Name x pos'] e pos) (.nx<|U.set i<|.val d):=.of (oI t.nd (t.ix hi) (t.loc hx) aU hs Ga) λB F H Y E k q=>h B F H Y _ k λv F' H' x' r=>q F' H' _ ((k.ext x').VP i r) x'.sf
def jl[WR X](t:At X N sc)(i:Nat)(h:VD X U e xs)(hi:N[i]?=some x:=by rfl)(hx:ml sc x=true:=by rfl)(hs:swapsWith e (some<|.Name x pos') pos.line X.env=pure false:=by rfl):VN X U (.Assign [.Name x pos'] e pos) (.nx<|U.set i<|.own xs):=.of (oI t.nd (t.ix hi) (t.loc hx) aU hs Ga) λB F H Y E k q=>h B F H Y _ k λp vs F' H' x' h0 hp hf r=>q F' H' _ ((k.ext x').YC i hp hf (k.sh.free h0) (k.noOwn h0) r) x'.sf
def IL{U:cE}[WR X](t:At X N sc)(i:Nat){g:Int->Int->Int}{C:Int->Int->Prop}(ho:mj X (inplaceOp op) (rI C λi j=>.int<|g i j))(hr:U[i]?=some (.val<|.int n))(h:Vp X U e (.int m))(hc:C n m)(hi:N[i]?=some x:=by rfl)(hx:ml sc x=true:=by rfl):VN X U (.AugAssign (.Name x pos') op e pos) (.nx<|U.set i<|.val<|.int<|g n m):=.of (Jg t.nd (t.ix hi) (t.loc hx) aU (ho) Ga) λB F H Y E k q=>by let⟨v,h1,h2⟩:=k.vals i _ hr;cases h2;exact⟨_,h1,h B F H Y _ k λv F' H' x' r=>by cases r;exact⟨n,m,rfl,rfl,hc,q F' H' _ ((k.ext x').VP i<|.int _) x'.sf⟩⟩
def C4:mj X (inplaceOp .Add) (rI (λ_ _=>True) λi j=>.int<|i+j):=Rg λ_ _ _ _ _ _ _ _ q=>iadd_int q
def JV:mj X (inplaceOp .Sub) (rI (λ_ _=>True) λi j=>.int<|i-j):=Rg λ_ _ _ _ _ _ _ _ q=>isub_int q
def IM{U:cE}[WR X](t:At X N sc)(i:Nat)(hr:U[i]?=some (.val<|.int n))(h:Vp X U e (.int m))(hi:N[i]?=some x:=by rfl)(hx:ml sc x=true:=by rfl):VN X U (.AugAssign (.Name x pos') .Add e pos) (.nx<|U.set i<|.val<|.int<|n+m):=IL t i C4 hr h trivial hi hx
def CA{U:cE}[WR X](t:At X N sc)(i:Nat)(hr:U[i]?=some (.val<|.int n))(h:Vp X U e (.int m))(hi:N[i]?=some x:=by rfl)(hx:ml sc x=true:=by rfl):VN X U (.AugAssign (.Name x pos') .Sub e pos) (.nx<|U.set i<|.val<|.int<|n-m):=IL t i JV hr h trivial hi hx
def bq[WR X](t:At X N sc)(i:Nat)(hi:N[i]?=some x:=by rfl)(hx:ml sc x=true:=by rfl):XD X U (.Name x pos) d (U.set i<|.val d):=.of (wo t.nd (t.ix hi) (t.loc hx) Ga) λB F H Y v Q k r q=>q F H _ (k.VP i r)<|.refl _
def mO[WR X](t:At X N sc)(i j:Nat)(hi:N[i]?=some x:=by rfl)(hj:N[j]?=some y:=by rfl)(hx:ml sc x=true:=by rfl)(hy:ml sc y=true:=by rfl):XD X U (.Tuple [.Name x px,.Name y py] kt pos) (.tup [u,v]) ((U.set i<|.val u).set j<|.val v):=.of (Jm t.calm<|xi (wo t.nd (t.ix hi) (t.loc hx) Ga)<|xi (wo t.nd (t.ix hj) (t.loc hy) Ga) FK) λB F H Y w Q k r q=>by cases r with|tup h rl=>obtain⟨v1,v2,rfl,r1,r2⟩:=rl.two;exact⟨_,_,rfl,WM.of<|k.sub _ _ h,rfl,_,_,rfl,_,_,rfl,rfl,q F H _ ((k.VP i r1).VP j r2)<|.refl _⟩
def cD(t:At X N sc)(i:Nat)(hi:N[i]?=some x:=by rfl)(hx:sc.names.lookup x=some .local:=by rfl):Xz X U (.Name x pos) d (U.set i<|.val d):=.of (wo t.nd (t.ix hi) (by rw[t.eS];exact .inl hx)<|by rw[t.eS];exact .inr hx) λB F H Y v Q k r q=>q _ (k.VP i r) λp h=>h.VP i _ d
def iE(t:At X N sc)(h:Vp X U e d)(hg:XD X U tg d W1)(hs:swapsWithSole [tg] e pos.line X.env=pure false:=by rfl)(hw:swappedStores [tg] e (dE sc)=pure none:=by rfl)(h1:(assignEach [tg] X.env).map (·.2)=[assign tg X.env]:=by rfl):VN X U (.Assign [tg] e pos) (.nx W1):=.of (Jh aU He hs ((A3<|t.eS).trans hw) h1) λB F H Y E k q=>h B F H Y _ k λv F1 H1 x1 r1=>hg B F1 H1 Y v _ (k.ext x1) r1 λF2 H2 σ2 k2 s2=>q F2 H2 σ2 k2<|x1.sf.trans s2
def sD{i:Nat}{Q:VK}{U:cE}(t:At X N sc)(hr:U[i]?=some (.own xs))(hN:N[i]?=some x)(hv:fS sc x=true)(hx:cU x=true)(k:Ok X.K B F H Y U)(h:∀p vs,Y[i]?=some (some<|.ref p)->H p=some (.lst vs)->Vs X.K F vs xs->Q (.ref p) H):wE X (.Name x pos) Y H Q:=.mk λon s I=>by obtain⟨p,vs,h1,h2,h3,h4,h5⟩:=k.We i xs hr;exact y8 t hN hv hx on s Y H Q I ⟨_,h1,h p vs h1 h2 h5⟩
def gz{apos Vx:Pos}{U:cE}(t:At X N sc)(i:Nat)(hr:U[i]?=some (.own xs))(h:Vp X U e d)(hz:xs.length<sizeLine)(hN:N[i]?=some y:=by rfl)(hv:fS sc y=true:=by rfl)(hx:cU y=true:=by rfl)(hs:Fc e [] X.env:=by rfl)(VO:(apos.endLine==Vx.line)=true:=by rfl)(Xf:tN Vx [] X.env:=by rfl)(WW:Cn Vx [e] X.env:=by rfl)(XX:swapsWith (.Call (.Attribute (.Name y p) "append" apos) [e] [] Vx) none pos.line X.env=pure false:=by rfl):VN X U (.Expr (.Call (.Attribute (.Name y p) "append" apos) [e] [] Vx) pos) (.nx<|U.set i<|.own<|xs++[d]):=.of (k8 (xk dw ib ia nV aU (bC aU dk hs) rfl WW VO hs Xf) XX) λB F H Y E k q=>sD t hr hN hv hx k λl vs h1 h2 h3=>⟨.inl ⟨rfl,_,Wd.of h2⟩,h B F H Y _ k λv F' H' x' r=>by have k':=k.ext x';refine⟨l,vs,v,rfl,rfl,x'.sh _ _ h2,by rwa[h3.length],?_⟩;exact q F' _ _ (k'.YI (vs:=vs) hr h1<|(h3.mono x'.sf).append<|.cons r .nil) x'.sf⟩
def MJ{U:cE}(t:At X N sc)(i:Nat)(hr:U[i]?=some (.own xs))(h:Vp X U b (.int n))(hj:FZ xs.length n=some j)(hN:N[i]?=some y:=by rfl)(hv:fS sc y=true:=by rfl)(hx:cU y=true:=by rfl)(ha:∀v,assign (.Subscript (.Name y p) b pos) X.env v=(do
   let ov <-holding [v] (eval (.Name y p) X.env)
   let iv <-holding [v,ov] (eval b X.env)
   standAt pos
   holding [v,ov,iv] (setItem ov iv v)
   release [v,ov,iv] []):=by intro _;rfl):XD X U (.Subscript (.Name y p) b pos) d (U.set i (.own (xs.set j d))):=
 .of (Ow aU aU Cz ha) λB F H Y v Q k r q=>
  sD t hr hN hv hx k λl vs h1 h2 h3=>h B F H Y _ k λw F' H' x' Xn=>by
   cases Xn
   refine⟨l,vs,n,j,rfl,rfl,x'.sh _ _ h2,by rwa[h3.length],?_⟩
   exact q F' _ _ ((k.ext x').YI (vs:=vs) hr h1<|(h3.mono x'.sf).set (r.mono x'.sf) j) x'.sf
def Hs:R6 X (Q1 X.K):=by
 intro on s Y H o i ov iv Q I ro ri h;obtain⟨p,xs,n,z,rfl,rfl,hq,he,q⟩:=h;cases ro;obtain⟨t,rfl⟩:=ri;let⟨its,r,pl,hz⟩:=I.list hq;let⟨j,h1,h2,h3,h4,h5⟩:=wJ he;let⟨w,ew,Xn⟩:=r.get h2;have hl:=r.length;have hn:=sK;have fin:EP X on Y Q w s:=⟨z,H,I,Xn,q⟩;by_cases h0:0<=n;have hj:n.toNat=j:=by rw[SF h0 h5]at h1;exact bN h1
 exact wpAny_getItem_list pl.isList h0 (by lia) (by rw[hj];simpa using ew) fin;have hj:(n+its.toArray.size).toNat=j:=by rw[P6 (by lia) h4]at h1;rw[aG,<-hl];exact bN h1
 exact wpAny_getItem_list_neg pl.isList (by lia) (by rw[aG]<;>lia) (by lia) (by rw[hj];simpa using ew) fin
def G9{j:Nat}{U:cE}(t:At X N sc)(i:Nat){g:Int->Int->Int}{C:Int->Int->Prop}(ho:mj X (inplaceOp op) (rI C λi j=>.int<|g i j))(hr:U[i]?=some (.own xs))(hb:Vp X U b (.int n))(hj:FZ xs.length n=some j)(hu:xs[j]?=some (.int u))(he:Vp X U e (.int m))(hc:C u m)(hN:N[i]?=some y:=by rfl)(hv:fS sc y=true:=by rfl)(hx:cU y=true:=by rfl)(ha:∀ov iv new,augStore b ov iv new=(do holding [new,ov,iv] (setItem ov iv new);release [new,ov,iv] [];pure .next):=by intros;rfl):VN X U (.AugAssign (.Subscript (.Name y p) b zCS) op e pos) (.nx<|U.set i<|.own<|xs.set j<|.int<|g u m):=.of (LL aU aU Hs aU (ho) Cz ha) λB F H Y E k q=>sD t hr hN hv hx k λl vs h1 h2 h3=>hb B F H Y _ k λw F1 H1 x1 Xn=>by
   cases Xn;have h21:=x1.sh _ _ h2;have ZC:me xs n=some (.int u):=by unfold me;rwa[hj]
   let⟨w,hw1,hw2⟩:=(h3.mono x1.sf).at ZC;cases hw2;refine⟨l,vs,n,_,rfl,rfl,Wd.of h21,hw1,he B F1 H1 Y _ (k.ext x1) λw F2 H2 x2 rw2=>?_⟩;cases rw2;refine⟨u,m,rfl,rfl,hc,l,vs,n,j,rfl,rfl,x2.sh _ _ h21,by rwa[h3.length],?_⟩;exact q F2 _ _ ((k.ext<|x1.t x2).YI (vs:=vs) hr h1<|((h3.mono x1.sf).mono x2.sf).set (.int _) j) (x1.t x2).sf
end
structure wI(X:Cx)(tg e:Expr)(Y:St)(H:Hp)(R:It->Hp->Prop):Prop where
 go:∀(on:gC)(s:Shared),Inv X on Y H s->fg X (eval e X.env) (λv s1=>fg X (pyIter v) (SA X on Y tg R) X.xe s1) X.xe s
instance zME {X:Cx} {tg e:Expr} {Y:St} {H:Hp} {R:It->Hp->Prop}:CoeFun (wI X tg e Y H R) (λ_=>∀(on:gC)(s:Shared),Inv X on Y H s->fg X (eval e X.env) (λv s1=>fg X (pyIter v) (SA X on Y tg R) X.xe s1) X.xe s):=⟨wI.go⟩
def Q7:PI X tg e (wI X tg e):=λon s _ _ _ I h=>h on s I
def vp(K:eZ)(J:It)(F:Hp)(ds:aM):Prop:=∀(i:Nat)(F2 H2:Hp),Vu F F2->Vu F2 H2->(∀d,ds[i]?=some d->J.go i H2/\∀x H',J.yld i H2 x H'->∃F',Ext ⟨F2,H2⟩ F' H'/\Rep K F' x d)/\(ds.length<=i->J.stop i H2)
def Za(X:Cx)(U:cE)(tg e:Expr)(ds:aM):Prop:=∀(B:B0)(F H:Hp)(Y:St)(R:It->Hp->Prop),Ok X.K B F H Y U->(∀J F' H',Ext ⟨F,H⟩ F' H'->vp X.K J F' ds->R J H')->wI X tg e Y H R
def Za.of(h:PI X tg e t)(r:∀(B:B0)(F H:Hp)(Y:St)(R:It->Hp->Prop),Ok X.K B F H Y U->(∀J F' H',Ext ⟨F,H⟩ F' H'->vp X.K J F' ds->R J H')->t Y H R):Za X U tg e ds:=λB F H Y R k q=>.mk λon s I=>h on s Y H R I<|r B F H Y R k q
def Mb(hs:∀H,Vu F H->Wd K H l vs)(r:Vs K F vs ds):vp K (Uh K l) F ds:=λi F2 H2 s1 s2=>⟨λd hd=>by let⟨v,hv,rv⟩:=r.get hd;have sq:=hs H2<|s1.trans s2;refine⟨⟨vs,v,sq,hv⟩,λx H' y=>?_⟩;obtain⟨rfl,y⟩:=y;have e:=y vs sq;rw[hv]at e;cases e;exact⟨F2,.refl s2,rv.mono s1⟩,λh=>⟨vs,hs H2<|s1.trans s2,by rwa[r.length]⟩⟩
def JS(hs:∀H,Vu F H->WM K H l vs)(r:Vs K F vs ds):vp K (Uf K l) F ds:=λi F2 H2 s1 s2=>⟨λd hd=>by let⟨v,hv,rv⟩:=r.get hd;have sq:=hs H2<|s1.trans s2;refine⟨⟨vs,v,sq,hv⟩,λx H' y=>?_⟩;obtain⟨rfl,y⟩:=y;have e:=y vs sq;rw[hv]at e;cases e;exact⟨F2,.refl s2,rv.mono s1⟩,λh=>⟨vs,hs H2<|s1.trans s2,by rwa[r.length]⟩⟩
def qz(h:Vp X U e (.lst ds)):Za X U tg e ds:=.of (FJ aU) λB F H Y R k q=>h B F H Y _ k λv F' H' x r=>by cases r with|lst hf rl=>exact⟨_,rfl,⟨_,Wd.of<|x.sub _ _ hf⟩,q _ F' H' x<|Mb (λH2 s2=>Wd.of<|s2 _ _ hf) rl⟩
def BH(h:Vp X U e (.tup ds)):Za X U tg e ds:=.of (Jk aU) λB F H Y R k q=>h B F H Y _ k λv F' H' x r=>by cases r with|tup hf rl=>exact⟨_,rfl,⟨_,WM.of<|x.sub _ _ hf⟩,q _ F' H' x<|JS (λH2 s2=>WM.of<|s2 _ _ hf) rl⟩
def fu(lo:Int)(n:Nat):aM:=(List.range n).map λ(i:Nat)=>D.int<|lo+(i:Int)
def Er{lo:Int}:vp K (R9 lo n) F (fu lo n):=λi F2 H2 s1 s2=>⟨λd hd=>by
  unfold fu at hd;rw[List.getElem?_map]at hd;have hi:i<n:=by by_cases h:i<n;exact h;rw[List.getElem?_eq_none<|by simpa using h]at hd;cases hd
  rw[List.getElem?_range hi]at hd;cases hd;refine⟨hi,λx H' y=>?_⟩;obtain⟨rfl,rfl⟩:=y;exact⟨F2,.refl s2,.int _⟩,λh=>by
   have h':n<=i:=by simpa[fu]using h
   exact h'⟩
def jO(t:At X N sc)(bl:kN X sc "range" (.type "range"))(h:Vp X U a (.int j))(h1: -(2 ^ 62)<=j)(h2:j<2 ^ 62)(hs:Pl a:=by intro _ _;rfl):Za X U tg (.Call (.Name "range" p) [a] [] pos) (fu 0 j.toNat):=.of (AF (dI t bl.g) bl.m (bC aU dk<|hs _ _)<|hs _ _) λB F H Y R k q=>h B F H Y _ k λv F' H' x r=>by cases r;exact⟨j,rfl,h1,h2,q _ F' H' x Er⟩
def Hv(t:At X N sc)(bl:kN X sc "range" (.type "range"))(ha:Vp X U a (.int i))(hb:Vp X U b (.int j))(hc: -(2 ^ 62)<=i/\i<2 ^ 62/\-(2 ^ 62)<=j/\j<2 ^ 62)(hsa:Pl a:=by intro _ _;rfl)(hsb:Pl b:=by intro _ _;rfl):Za X U tg (.Call (.Name "range" p) [a,b] [] pos) (fu i (j-i).toNat):=.of (Hd (dI t bl.g) bl.m (bC aU (bC aU dk<|hsb _ _)<|hsa _ _) (by rw[hsa,hsb];rfl)<|hsb _ _) λB F H Y R k q=>ha B F H Y _ k λv F1 H1 x1 r1=>hb B F1 H1 Y _ (k.ext x1) λw F2 H2 x2 r2=>by cases r1;cases r2;exact⟨i,j,rfl,hc,q _ F2 H2 (x1.t x2) Er⟩
inductive VU(X:Cx)(tg:Expr)(body:List Stmt):aM->cE->Out->Prop where
 |nil {U:cE}:VU X tg body [] U (.nx U)
 |cons {d:D} {ds:aM} {U Wp WP:cE} {o:Out}:XD X U tg d Wp->Vt X Wp body (.nx WP)->VU X tg body ds WP o->VU X tg body (d::ds) U o
 |ret {d r:D} {ds:aM} {U Wp:cE}:XD X U tg d Wp->Vt X Wp body (.rt r)->VU X tg body (d::ds) U (.rt r)
def jc{i:Nat}{α:Type}{xs ys:List α}{x:α}(h:xs.drop i=x::ys):xs[i]?=some x/\xs.drop (i+1)=ys/\i<xs.length:=by
 have hi:i<xs.length:=by by_cases q:i<xs.length;exact q;rw[nJ<|by lia]at h;cases h
 have e:=cY hi;rw[h]at e;injection e with e1 e2;exact⟨by rw[List.getElem?_eq_getElem hi,e1],e2.symm,hi⟩
def mC(t:At X N sc)(hi:Za X U tg e ds)(h:VU X tg body ds U o)(hs:∀x,foldedSetIterable e X.env x=pure x:=by intro _;rfl):VN X U (.For tg e body [] pos) o:=.of (D7 t.pass t.calm Q7 He dU hs) λB F H Y E k q=>hi B F H Y _ k λJ F1 H1 x1 J1=>by
  refine⟨λi m Y H=>∃W1 F',Ok X.K B F' H Y W1/\Vu F1 F'/\VU X tg body (ds.drop i) W1 o/\m=ds.length-i,⟨ds.length,U,F1,k.ext x1,.refl _,by simpa using h,by simp⟩,?_⟩;rintro i m Y H ⟨W1,F',k',sf,run,rfl⟩;have J2:=J1 i F' H sf k'.sub;generalize e1:ds.drop i=bP at run;cases run with
  |nil=>
   have hl:ds.length<=i:=by have:=aL List.length e1;rw[bX,jf]at this;lia
   exact .inl ⟨J2.2 hl,(q.later<|x1.sf.trans sf) F' H Y k'<|.refl _⟩
  |@cons d0 ds0 ρ0 Wp WP o0 g b r=>obtain⟨hd,hr,V1⟩:=jc e1;obtain⟨go,yl⟩:=J2.1 _ hd;refine .inr ⟨go,λxy H'=>∃Xe,Ok X.K B Xe H' xy WP/\Vu F1 Xe,λxy H' ⟨Xe,Zw,XG⟩=>⟨ds.length-(i+1),by lia,_,Xe,Zw,XG,by rwa[hr],rfl⟩,λx H' y=>?_⟩;obtain⟨F2,x2,rx⟩:=yl x H' y;refine g B F2 H' Y x _ (k'.ext x2) rx λF3 H3 XV k3 s3=>b B F3 H3 XV _ k3 λF4 H4 σ4 k4 s4=>⟨F4,k4,sf.trans<|x2.sf.trans<|s3.trans s4⟩
  |ret g b=>obtain⟨hd,hr,V1⟩:=jc e1;obtain⟨go,yl⟩:=J2.1 _ hd;refine .inr ⟨go,λ_ _=>False,λxy H' z=>z.elim,λx H' y=>?_⟩;obtain⟨F2,x2,rx⟩:=yl x H' y;exact g B F2 H' Y x _ (k'.ext x2) rx λF3 H3 XV k3 s3=>b B F3 H3 XV _ k3 q
def VU.of(body:List Stmt)(R:Nat->cE):∀(ds:aM)(i:Nat),(∀(j:Nat)d,ds[j]?=some d->∃Wp,XD X (R<|i+j) tg d Wp/\Vt X Wp body (.nx<|R<|i+j+1))->VU X tg body ds (R i) (.nx<|R<|i+ds.length)
 |[],i,_=>.nil
 |d::ds,i,h=>by
  let⟨Wp,h1,h2⟩:=h 0 d rfl;refine .cons h1 h2 ?_;have r:=VU.of body R ds (i+1) λj e he=>by have:=h (j+1) e he;rwa[show i+1+j=i+(j+1)by lia]
  rwa[show i+(d::ds).length=i+1+ds.length by simp;lia]
inductive Wv(X:Cx)(c:Expr)(body:List Stmt):Nat->cE->Out->Prop where
 |stop {U:cE}:Vr X U c false->Wv X c body 0 U (.nx U)
 |step {n:Nat} {U Wp:cE} {o:Out}:Vr X U c true->Vt X U body (.nx Wp)->Wv X c body n Wp o->Wv X c body (n+1) U o
 |ret {U:cE} {r:D}:Vr X U c true->Vt X U body (.rt r)->Wv X c body 0 U (.rt r)
def gp(t:At X N sc)(h:∃n,Wv X c body n U o):VN X U (.While c body [] pos) o:=.of (xa t.pass mX dU) λB F H Y E k q=>by
  let⟨n,h⟩:=h;refine⟨λm Y H=>∃W1 F',Ok X.K B F' H Y W1/\Vu F F'/\Wv X c body m W1 o,⟨n,U,F,k,.refl _,h⟩,?_⟩;rintro m Y H ⟨W1,F',k',sf,run⟩;cases run with
  |stop hc=>refine hc B F' H Y _ k' λF1 H1 x1=>?_;rw[av aA];exact q F1 H1 Y (k'.ext x1)<|sf.trans x1.sf
  |@step n0 ρ0 Wp o0 hc hb r=>refine hc B F' H Y _ k' λF1 H1 x1=>?_;rw[ax rfl];exact⟨λxy H'=>∃Xe,Ok X.K B Xe H' xy Wp/\Vu F Xe,λxy H' ⟨Xe,Zw,XG⟩=>⟨_,fC _,_,Xe,Zw,XG,r⟩,hb B F1 H1 Y _ (k'.ext x1) λF2 H2 σ2 k2 s2=>⟨F2,k2,sf.trans<|x1.sf.trans s2⟩⟩
  |ret hc hb=>refine hc B F' H Y _ k' λF1 H1 x1=>?_;rw[ax rfl];exact⟨λ_ _=>False,λxy H' z=>z.elim,hb B F1 H1 Y _ (k'.ext x1) q⟩
structure DefX(P:Program)(w:World)(K:eZ)(mg:tK)(base:Heap)(k:Nat)(N:cn)(sc:Scope)(X:Cx):Prop where
 at':At X N sc
 prog:X.prog=P
 w':X.w=w
 k':X.K=K
 V3:X.mg=mg
 WA:X.base=base
 room:VS k X.A
 VR:WR X
 Xr:X.stack=X.env::X.outer/\X.env.frame=some X.env.locals
abbrev cG(P:Program)(w:World)(K:PySem.W.Frag)(mg:Str->Option Value)(base:Heap)(k:Nat)(N:List Str)(st:Stmt)(X:Cx):Prop:=DefX P w K mg base k N (aq st) X
def iI(sub:Vu F H)(r:Vs K F vs ds)(n:Nat):Ok K ⟨F,H⟩ F H (vs.map some++List.replicate n none) (ds.map Sl.val++List.replicate n Sl.un):=by
 have hl:=r.length;have own:∀(i:Nat)xs,(ds.map Sl.val++List.replicate n Sl.un)[i]?≠some (.own xs):=λi xs h=>by
  by_cases hi:i<ds.length;rw[List.getElem?_append_left<|by simpa using hi,List.getElem?_map]at h;cases e:ds[i]? with
  |none=>rw[e]at h;cases h
  |some d=>rw[e]at h;cases h
  rw[List.getElem?_append_right<|by simpa using hi,List.getElem?_replicate]at h;split at h<;>cases h
 have zC1:∀(i:Nat)xs,(ds.map Sl.val++List.replicate n Sl.un)[i]?≠some (.X0 xs):=λi xs h=>by
  by_cases hi:i<ds.length;rw[List.getElem?_append_left<|by simpa using hi,List.getElem?_map]at h;cases e:ds[i]? with
  |none=>rw[e]at h;cases h
  |some d=>rw[e]at h;cases h
  rw[List.getElem?_append_right<|by simpa using hi,List.getElem?_replicate]at h;split at h<;>cases h
 refine⟨.refl sub,by simp[hl],λi d h=>?_,λi xs h=>absurd h<|own i xs,λi j xs ys a h=>absurd h<|own i xs,⟨λi kvs h=>absurd h<|zC1 i kvs,λi j xs ys a h=>absurd h<|zC1 i xs⟩⟩;by_cases hi:i<ds.length;rw[List.getElem?_append_left<|by simpa using hi,List.getElem?_map]at h;cases e:ds[i]? with
 |none=>rw[e]at h;cases h
 |some d'=>rw[e]at h;cases h;let⟨v,hv,rv⟩:=r.get e;exact⟨v,by rw[List.getElem?_append_left<|by rw[ai];lia,List.getElem?_map,hv];rfl,rv⟩
 rw[List.getElem?_append_right<|by simpa using hi,List.getElem?_replicate]at h;split at h<;>cases h
def Rw{P:Program}(VZ:P.given.tree=none){w:World}{K:eZ}{mg:tK}{base:Heap}{x qual:Str}{st:Stmt}{f:Addr}{fd:FuncData}{N ps:cn}{k:Nat}{C:aM->D->Prop}(F:Yw K x qual st f fd)(S:aN N ps (aq st))(len:∀ds d,C ds d->ds.length=ps.length)(body:∀X,DefX P w K mg base k N (aq st) X->Go X N st C):dZ P w K mg base jd (k+1) f fd ps (G7 K C):=by
 refine F.ok S (λvs H Q E h=>?_) λV2 A outer s H vs Q E hr h=>?_;obtain⟨F',ds,d,sub,r,hC,q⟩:=h;rw[r.length];exact len ds d hC;obtain⟨F',ds,d,sub,r,hC,q⟩:=h;refine⟨_,dU,?_⟩;have hx:DefX P w K mg base k N (aq st) (qA jd P w K mg base N qual (aq st) f V2 A outer s H E).XH:=⟨⟨rfl,rfl,rfl,S.nd,rfl,hr.units,hr.WY,VZ,⟨_,_,rfl,S.gen,S.co,rfl,rfl⟩⟩,rfl,rfl,rfl,rfl,rfl,hr,⟨λ_=>rfl⟩,rfl,rfl⟩;have hk:Ok K ⟨F',H⟩ F' H (start N vs) (Fd N ds):=by unfold start;rw[r.length];exact iI sub r _
 exact(body _ hx ds d hC) ⟨F',H⟩ F' H _ _ hk λv F2 H2 x2 r2=>q v F2 H2 x2 r2
def DefX.callee{x:Str}{C:aM->D->Prop}(h:DefX P w K mg base k N sc X)(F:dZ P w K mg base jd j f fd ps (G7 K C))(hj:j<=k)(hm:mg x=some (.ref f))(hk:keepIn K (.ref f)=true)(hb:Binds K fd ps []):Callee X x C:=by obtain⟨h0,rfl,rfl,rfl,rfl,rfl,hr,_⟩:=h;exact⟨f,fd,ps,j,F,hr.mono hj,hm,hk,hb⟩
def vM(scope sc:Scope):Scope:={scope with names:=scope.names.map λ(n,k)=>if(k==.free&&sc.kind==.function&&sc.names.lookup n==some .cell)then(n,.cell)else(n,k)}
def Bb{sc:Scope}{env:Env}(h:env.scope=sc):relabel scope env=vM scope sc:=by subst h;rfl
theorem BN(env:Env):∀(names:List (Str×NameKind))(cs:List (Str×Addr)),(∀n,(n,NameKind.free)∈names->∃c,env.cells.lookup n=some c)->(∀n c,cs.lookup n=some c->env.cells.lookup n=some c)->∃cl:List (Str×Addr),(forIn (m:=Sem) names cs λ(x:Str×NameKind)r=>if x.2==.free then do let c <-cellOf env x.1;pure (ForInStep.yield<|(x.1,c)::r)else pure<|ForInStep.yield r)=pure cl/\(∀n c,cl.lookup n=some c->env.cells.lookup n=some c)/\(∀n,(n,NameKind.free)∈names->∃c,cl.lookup n=some c)/\(∀n c,cs.lookup n=some c->∃c',cl.lookup n=some c')
 |[],cs,_,h=>⟨cs,rfl,h,(λn hn=>nomatch hn),λn c e=>⟨c,e⟩⟩
 |(n,k)::r,cs,hf,h=>by
  rw[yx];by_cases hk:k=.free;subst hk;obtain⟨c,hc⟩:=hf n cm;have Xb:cellOf env n=pure c:=by unfold cellOf;rw[hc]
  have h':∀m c',((n,c)::cs).lookup m=some c'->env.cells.lookup m=some c':=λm c' e=>by
   rw[dQ]at e;cases hm:m==n with
   |true=>rw[hm]at e;cases e;rwa[eq_of_beq hm]
   |false=>rw[hm]at e;exact h m c' e
  obtain⟨cl,e1,e2,e3,e4⟩:=BN env r ((n,c)::cs) (λm hm=>hf m<|aV _ hm) h';refine⟨cl,?_,e2,λm hm=>?_,λm c' e=>?_⟩;rwa[Xb];rcases bc.mp hm with z |z;cases z;exact e4 n c (by rw[dQ,beq_self_eq_true]);exact e3 m z;by_cases hm:m=n;subst hm;exact e4 m c (by rw[dQ,beq_self_eq_true]);exact e4 m c' (by rwa[dQ,bF.mpr hm]);obtain⟨cl,e1,e2,e3,e4⟩:=BN env r cs (λm hm=>hf m<|aV _ hm) h;refine⟨cl,?_,e2,λm hm=>?_,e4⟩;rw[bF.mpr hk,av aA];exact e1;rcases bc.mp hm with z |z;cases z;exact absurd rfl hk;exact e3 m z
def EI{scope:Scope}{env:Env}(hf:∀n,(n,NameKind.free)∈scope.names->∃c,env.cells.lookup n=some c):∃cl:List (Str×Addr),closureFor scope env=pure cl/\(∀n c,cl.lookup n=some c->env.cells.lookup n=some c)/\(∀n,(n,NameKind.free)∈scope.names->∃c,cl.lookup n=some c):=by obtain⟨cl,e1,e2,e3,_⟩:=BN env scope.names [] hf λn c e=>nomatch e;refine⟨cl,?_,e2,e3⟩;show(forIn scope.names ([]:List (Str×Addr)) (λ(x:Str×NameKind)r=>if x.2==.free then do let c <-cellOf env x.1;pure (ForInStep.yield<|(x.1,c)::r)else pure<|ForInStep.yield r)>>=λs=>pure s)=pure cl;rw[e1];rfl
structure qU(N:cn)(sc:Scope)(N':cn)(scope:Scope):Prop where
 kind:scope.kind=.function
 cells:∀y∈scope.names,y.2=.cell->scope.names.lookup y.1=some .cell
 names:∀y∈scope.names,y.2=.local->scope.names.lookup y.1=some .local
 free:∀y∈scope.names,y.2=.free->sc.names.lookup y.1=some .cell
 zD2:sc.kind=.function
 nd:N'.Nodup
 old:∀(i:Nat)x,i<N.length->N'[i]?=some x->fS (vM scope sc) x=true->N[i]?=some x/\scope.names.lookup x=some .free
 len:N.length<=N'.length
def CK(scope:Scope)(x:Str):Bool:=match scope.names.lookup x with|some .cell=>true|_=>false
structure FC(names:List (Str×NameKind))(cells:List (Str×Addr))(n:Nat)(cl:List (Str×Addr))(h:Heap):Prop where
 look:∀m c,cl.lookup m=some c->(cells.lookup m=some c/\¬(m,NameKind.cell)∈names)\/(n<=c/\(m,NameKind.cell)∈names/\h.IsCell c none)
 has:∀m,((m,NameKind.cell)∈names\/∃c,cells.lookup m=some c)->∃c,cl.lookup m=some c
 inj:∀x y c,n<=c->cl.lookup x=some c->cl.lookup y=some c->x=y
theorem qm:∀(names:List (Str×NameKind))(cells:List (Str×Addr))(s:Shared)(Q:List (Str×Addr)->Shared->Prop),(∀m c,cells.lookup m=some c->c<s.heap.objs.size)->
  (∀cl h,(∀b o,s.heap.get? b=some o->h.get? b=some o)->FC names cells s.heap.objs.size cl h->Q cl {s with heap:=h})->
  wpAny M A (forIn names cells λx __s=>match x with
   |(name,kind)=>if(kind==NameKind.cell)=true then do
     let a <-alloc {cls:=Value.type "cell",data:=Data.cell none}
     pure (ForInStep.yield<|(name,a)::__s)
    else pure (ForInStep.yield __s)) Q E s
 |[],cells,s,Q,hb,q=>by
  refine aD<|q cells s.heap (λ_ _ e=>e) ⟨λm c e=>.inl ⟨e,λz=>nomatch z⟩,λm hm=>hm.elim (λz=>nomatch z) id,λx y c hc e _=>absurd (hb x c e)<|wg hc⟩
 |(name,kind)::bP,cells,s,Q,hb,q=>by
  rw[yx]
  by_cases hk:kind=.cell
  subst hk
  refine ak<|ak (SE<|aD ?_)
  have XS:(s.heap.push {cls:=Value.type "cell",data:=Data.cell none}).objs.size=s.heap.objs.size+1:=by rw[fY]
  refine qm bP _ _ _ (λm c e=>?_) λcl h kp f=>q cl h (λb o e=>kp b o<|Heap.get?_push_of_some _ e) ⟨λm c e=>?_,λm hm=>f.has m ?_,λx y c hc ex ey=>?_⟩
  rw[XS]
  rw[dQ]at e
  split at e
  cases e;exact fC _
  exact jE<|hb m c e
  have f':=f.look m c e
  rcases f' with⟨e1,e2⟩ |⟨e1,e2,e3⟩
  rw[dQ]at e1
  split at e1
  rename_i hm
  cases e1
  have hm':m=name:=by simpa using hm
  subst hm'
  exact .inr ⟨ao _,by simp,⟨_,kp _ _<|Heap.get?_push_size _ rfl,rfl⟩⟩
  rename_i hm
  have hm':m≠name:=by simpa using hm
  exact .inl ⟨e1,λz=>by
   rcases bc.mp z with z |z
   exact hm'<|aL Prod.fst z
   exact e2 z⟩
  have e1':s.heap.objs.size+1<=c:=by rwa[<-XS]
  exact .inr ⟨by lia,by simp[e2],e3⟩
  rcases hm with hm |⟨c,hc⟩
  rcases bc.mp hm with z |z
  right
  have:m=name:=aL Prod.fst z
  subst this
  exact⟨s.heap.objs.size,by rw[dQ];simp⟩
  exact .inl z
  right
  rw[dQ]
  split
  exact⟨_,rfl⟩
  exact⟨c,hc⟩
  by_cases YA:s.heap.objs.size+1<=c
  exact f.inj x y c (by rwa[XS]) ex ey
  have one:∀z,cl.lookup z=some c->z=name:=λz ez=>by
   rcases f.look z c ez with⟨e1,_⟩ |⟨e1,_⟩
   rw[dQ]at e1
   split at e1
   rename_i hm;simpa using hm
   exact absurd (hb z c e1)<|wg hc
   exact absurd (aJ (iZ XS.symm) e1) YA
  rw[one x ex,one y ey]
  have hk':(kind==NameKind.cell)=false:=by simpa using hk
  have mem:∀m,(m,NameKind.cell)∈(name,kind)::bP↔(m,NameKind.cell)∈bP:=λm=>by
   constructor
   intro z
   rcases bc.mp z with z |z
   exact absurd (aL Prod.snd z).symm hk
   exact z
   intro z;simp[z]
  refine ak ?_
  show wpAny M A (if(kind==NameKind.cell)=true then _ else _) _ _ s
  rw[hk',av aA]
  refine aD (qm bP cells s Q hb λcl h kp f=>q cl h kp ⟨λm c e=>?_,λm hm=>f.has m ?_,f.inj⟩)
  rw[mem];exact f.look m c e
  rw[mem]at hm;exact hm
def CP{s:Shared}{scope:Scope}{env:Env}{cl:List (Str×Addr)}{Q:Env->Shared->Prop}(hb:∀m c,cl.lookup m=some c->c<s.heap.objs.size)(h:∀cl' h',(∀b o,s.heap.get? b=some o->h'.get? b=some o)->(∃m,h'.Ns s.heap.objs.size m)->FC scope.names cl s.heap.objs.size cl' h'->Q {scope:=scope,locals:=s.heap.objs.size,globals:=env.globals,cells:=cl',qual:=env.qual,func:=none,code:=env.code,frame:=env.frame,builtins:=env.builtins} {s with heap:=h'}):wpAny M A (newFunctionEnv scope env.globals cl [] env.qual none .none<|some env) Q E s:=by
 refine ak<|SE ?_;have XS:(s.heap.push {cls:=Value.type "dict",data:=Data.dict #[]}).objs.size=s.heap.objs.size+1:=by rw[fY]
 refine ak (qm scope.names cl _ _ (λm c e=>?_) λcl' h' kp f=>?_);show c<(s.heap.push {cls:=Value.type "dict",data:=Data.dict #[]}).objs.size;rw[XS];exact jE<|hb m c e;refine ak<|aD<|aD ?_;obtain⟨o,es,ep,g1,g2,g3,g4⟩:=Heap.Ns.new s.heap<|.type "dict";refine h cl' h' (λb o e=>kp b o<|Heap.get?_push_of_some _ e) ⟨_,o,es,ep,kp _ _ g1,g2,g3,g4⟩ ⟨λm c e=>?_,f.has,λx y c hc ex ey=>?_⟩;rcases f.look m c e with z |⟨z1,z2,z3⟩;exact .inl z;have z1':s.heap.objs.size+1<=c:=aJ (iZ XS.symm) z1;exact .inr ⟨Nat.le_of_succ_le z1',z2,z3⟩;by_cases YA:s.heap.objs.size+1<=c;exact f.inj x y c (aJ (iZ XS) YA) ex ey;rcases f.look x c ex with⟨z,_⟩ |⟨z,_⟩;exact absurd (hb x c z)<|wg hc;have z':s.heap.objs.size+1<=c:=aJ (iZ XS.symm) z;exact absurd z' YA
structure XQ(X X':Cx)(N':cn)(sc':Scope)(ow:Str->Bool):Prop where
 at0:YM X' N' sc'
 Yu:X'.calm=X.calm
 prog:X'.prog=X.prog
 w':X'.w=X.w
 k':X'.K=X.K
 V3:X'.mg=X.mg
 WA:X'.base=X.base
 a':X'.A=X.A
 fn':∀x,ow x=true->X'.fn x=true
structure Yy(X X':Cx)(N':cn)(sc':Scope)(ow:Str->Bool):Prop where
 at':At X' N' sc'
 prog:X'.prog=X.prog
 w':X'.w=X.w
 k':X'.K=X.K
 V3:X'.mg=X.mg
 WA:X'.base=X.base
 a':X'.A=X.A
 fn':∀x,ow x=true->X'.fn x=true
section
variable {ow:Str->Bool}
def XQ.calm(h:XQ X X' N' sc' ow)(hc:X.calm=true):Yy X X' N' sc' ow:=⟨h.at0.at<|h.Yu.trans hc,h.prog,h.w',h.k',h.V3,h.WA,h.a',h.fn'⟩
def Yy.callee{C:aM->D->Prop}(h:Yy X X' N' sc' ow)(c:Callee X x C):Callee X' x C:=by let⟨f,fd,ps,k,F,hr,hm,hk,hb⟩:=c;refine⟨f,fd,ps,k,?_,?_,?_,?_,?_⟩;rwa[h.prog,h.w',h.k',h.V3,h.WA];rwa[h.a'];rwa[h.V3];rwa[h.k'];rwa[h.k']
end
inductive VX(X:Cx)(tg elt:Expr)(ifs:tL):aM->cE->aM->Prop where
 |nil {U:cE}:VX X tg elt ifs [] U []
 |take {d r:D} {ds rs:aM} {U Wp:cE}:Xz X U tg d Wp->(ifs=[]\/∃c,ifs=[c]/\Vr X Wp c true)->Vp X Wp elt r->VX X tg elt ifs ds Wp rs->VX X tg elt ifs (d::ds) U (r::rs)
 |skip {d:D} {ds rs:aM} {U Wp:cE} {c:Expr}:Xz X U tg d Wp->ifs=[c]->Vr X Wp c false->VX X tg elt ifs ds Wp rs->VX X tg elt ifs (d::ds) U rs
section
variable {R:Result->Shared->Prop}
def BM{env:Env}(I:Nat->Shared->Prop)(turn:∀n s,I n s->wpAny (model prog w) A (pyNext it) (λr s₁=>match r with
   |none=>R (.ok .next) s₁
   |some v=>wpAny (model prog w) A (letOwnedTupleGo target it v) (λ_ s₀=>wpAny (model prog w) A (assign target env v) (λ_ s₂=>
     wpAny (model prog w) A (forIn ifs true λc r=>if r=true then do let ok <-isTrue c env (eval c env);pure (ForInStep.yield ok)else pure<|ForInStep.yield r) (λok s₃=>
      if ok=true then wpAny (model prog w) A (eval elt env) (λx s₄=>
       wpAny (model prog w) A (call (.builtin "list.append") [acc,x]) (λ_ s₅=>∃m,m<n/\I m s₅) (λ_ _=>False) s₄) (λ_ _=>False) s₃
      else∃m,m<n/\I m s₃) (λ_ _=>False) s₂) (λ_ _=>False) s₀) (λ_ _=>False) s₁) (λ_ _=>False) s)
  n (h:I n s):
  codeAny (model prog w) A (.compLoop (.ListComp elt [⟨target,iter,ifs,0⟩] scope pos) 0 it acc env) R s:=by
 refine codeAny_loop rfl I (λn s hI=>?_) n h
 refine wpAny_noted ?_
 rw[compTurn_list]
 refine ak<|nE<|ak (aH (turn n s hI) (λr s₁ h₁=>?_) λ_ _ h'=>h'.elim)
 cases r with
 |none=>exact aD h₁
 |some v=>
  refine ak (aH h₁ (λ_ s₀ h₀=>ak (aH h₀ (λ_ s₂ h₂=>ak (aH h₂ (λok s₃ h₃=>?_) λ_ _ h'=>h'.elim)) λ_ _ h'=>h'.elim)) λ_ _ h'=>h'.elim)
  cases ok with
  |false=>exact aD ⟨rfl,h₃⟩
  |true=>
   exact ak<|ak (aH h₃ (λx s₄ h₄=>ak (aH h₄ (λ_ s₅ h₅=>aD<|aD ⟨rfl,h₅⟩) λ_ _ h'=>h'.elim)) λ_ _ h'=>h'.elim)
end
def Ok.zAE{p:Addr}(k:Ok K B F H Y U)(hf:F p=none)(hb:B.H p=none)(hn:Wg Y U p)(hl:∃vs,H p=some (.lst vs)):Ok K B F (dH H p o) Y U:=by
 refine⟨⟨λb u q=>?_,λb u q=>?_,k.sf,k.nw⟩,k.len,k.vals,λi xs e=>?_,k.dist,k.WI.to (.refl _) (λb φ e1 e2 _=>⟨by rwa[aK λz=>by subst z;let⟨vs,hl⟩:=hl;rw[hl]at e1;cases e1],e2⟩) λ_ _ e=>⟨e,rfl⟩⟩;have ne:b≠p:=λz=>by subst z;rw[hf]at q;cases q
 rw[aK ne];exact k.sub b u q;have ne:b≠p:=λz=>by subst z;rw[hb]at q;cases q
 rw[aK ne];exact k.sh b u q;let⟨a,vs,h1,h2,h3,h4,h5⟩:=k.We i xs e;have ne:a≠p:=λz=>by subst z;exact hn i xs e h1
 exact⟨a,vs,h1,by rwa[aK ne],h3,h4,h5⟩
def Ok.more(k:Ok K B F H Y U)(n:Nat):Ok K B F H (Y++List.replicate n none) (U++List.replicate n .un):=by
 have get:∀(i:Nat)s,(U++List.replicate n Sl.un)[i]?=some s->s≠.un->U[i]?=some s/\(Y++List.replicate n none)[i]?=Y[i]?:=λi s h hn=>by by_cases hi:i<U.length;rw[List.getElem?_append_left hi]at h;exact⟨h,List.getElem?_append_left<|by rwa[k.len]⟩;rw[List.getElem?_append_right<|by lia,List.getElem?_replicate]at h;split at h;cases h;exact absurd rfl hn;cases h
 refine⟨k.toExt,by simp[k.len],λi d h=>?_,λi xs h=>?_,λi j xs ys a h1 h2 h3 h4=>?_,k.WI.to (.refl _) (λ_ _ e1 e2 _=>⟨e1,e2⟩) λi kvs h=>get i _ h λz=>nomatch z⟩;let⟨e1,e2⟩:=get i _ h λz=>nomatch z;rw[e2];exact k.vals i d e1;let⟨e1,e2⟩:=get i _ h λz=>nomatch z;rw[e2];exact k.We i xs e1;let⟨e1,e2⟩:=get i _ h1 λz=>nomatch z;let⟨g1,g2⟩:=get j _ h2 λz=>nomatch z;rw[e2]at h3;rw[g2]at h4;exact k.dist i j xs ys a e1 g1 h3 h4
def lR{x:Str}{names:List (Str×NameKind)}{k:NameKind}(h:names.lookup x=some k):(x,k)∈names:=iu h
def w9{scope sc:Scope}{x:Str}(hf:sc.kind=.function)(fr:∀y∈scope.names,y.2=.free->sc.names.lookup y.1=some .cell){k:NameKind}(h:(vM scope sc).names.lookup x=some k):∃k',scope.names.lookup x=some k'/\(k'=.free->k=.cell)/\(k'≠.free->k=k'):=by
 have go:∀names:List (Str×NameKind),(∀y∈names,y.2=.free->sc.names.lookup y.1=some .cell)->(names.map λ(n,k)=>if(k==NameKind.free&&sc.kind==.function&&sc.names.lookup n==some .cell)then(n,NameKind.cell)else(n,k)).lookup x=some k->∃k',names.lookup x=some k'/\(k'=.free->k=.cell)/\(k'≠.free->k=k'):=by
  intro names;induction names with
  |nil=>intro _ h;cases h
  |cons y r ih=>
   intro fr h;let⟨n,kk⟩:=y;have hr:=ih λy hy=>fr y<|aV _ hy;by_cases hkk:kk=.free;subst hkk;have e:(if(NameKind.free==NameKind.free&&sc.kind==.function&&sc.names.lookup n==some .cell)=true then(n,NameKind.cell)else(n,NameKind.free))=(n,NameKind.cell):=by have YA:sc.names.lookup n=some .cell:=fr (n,.free) cm rfl;rw[YA,hf];rfl
   rw[bp]at h;simp only[e]at h;rw[dQ]at h ⊢;cases hx:x==n with
   |true=>rw[hx]at h;cases h;exact⟨.free,rfl,λ_=>rfl,λz=>absurd rfl z⟩
   |false=>rw[hx]at h;exact hr h
   have e:(if(kk==NameKind.free&&sc.kind==.function&&sc.names.lookup n==some .cell)=true then(n,NameKind.cell)else(n,kk))=(n,kk):=by rw[bF.mpr hkk];rfl
   rw[bp]at h;simp only[e]at h;rw[dQ]at h ⊢;cases hx:x==n with
   |true=>rw[hx]at h;cases h;exact⟨_,rfl,λz=>absurd z hkk,λ_=>rfl⟩
   |false=>rw[hx]at h;exact hr h
 exact go scope.names fr h
def Sw(X:Cx)(N':cn)(scope:Scope)(cl:List (Str×Addr))(C:Addr)(s3:Shared)(H3:Hp)(fp:List Addr):Cx:={X with N:=N',s₀:=s3,H₀:=H3,env:=compEnvC scope cl C X.env,outer:=X.stack,stack:=X.stack,ex:=fp,fn:=CK scope,pn:=[],xe:=λ_ _=>False}
section
variable {tn:Nat->Heap->Prop}{J:It}{ds rs:aM}
def Py{cl Zh:List (Str×Addr)}(t:YM X N sc)(S:qU N sc N' scope)(I3:Inv X on Y H3 s3)(hc1:∀n c,Zh.lookup n=some c->X.env.cells.lookup n=some c)(hc2:∀n,(n,NameKind.free)∈scope.names->∃c,Zh.lookup n=some c)(CN:FC scope.names Zh s3.heap.objs.size cl h₁)(fo:∀b∈fp,tw X on H3 b)(fl:∀b∈fp,b<s3.heap.objs.size):(Sw X N' scope cl s3.heap.objs.size s3 H3 fp).Ok:=by
 refine⟨I3.ok.mod,?_,I3.ok.glob,I3.ok.blt,ao _,λx y c h1 h2=>?_,λx hx=>?_,(λx c hf h=>?_),I3.ok.hd,I3.ok.frames,.inl rfl,λb hb=>⟨?_,λx c h=>?_⟩,I3.bs,aJ I3.ok.ZW I3.sz,λb o h hb=>?_,λb hb h=>?_,I3.stack,I3.XB⟩;exact S.kind;by_cases hc:s3.heap.objs.size<=c;exact CN.inj x y c hc h1 h2;have old:∀z,cl.lookup z=some c->X.env.cells.lookup z=some c:=λz ez=>by rcases CN.look z c ez with⟨e,_⟩ |⟨e,_⟩;exact hc1 z c e;exact absurd e hc
 exact I3.ok.inj x y c (old x h1)<|old y h2;have YQ:(relabel scope X.env).names.lookup x=some .cell\/(relabel scope X.env).names.lookup x=some .free:=hx;rw[Bb t.eS]at YQ;have hk:∃k,(k=NameKind.cell\/k=.free)/\(vM scope sc).names.lookup x=some k:=by rcases YQ with h |h;exact⟨_,.inl rfl,h⟩;exact⟨_,.inr rfl,h⟩
 let⟨k,hk,h⟩:=hk;let⟨k',h1,h2,h3⟩:=w9 S.zD2 S.free h;by_cases hf:k'=.free;subst hf;exact CN.has x<|.inr<|hc2 x<|lR h1;have e:=h3 hf;rcases hk with hk |hk;have e':=e.symm.trans hk;subst e';exact CN.has x<|.inl<|lR h1;exact absurd (e.symm.trans hk) hf;have hm:(x,NameKind.cell)∈scope.names:=by
  have hf':CK scope x=true:=hf;unfold CK at hf';cases e:scope.names.lookup x with
  |none=>rw[e]at hf';cases hf'
  |some kk=>rw[e]at hf';cases kk<;>first |exact lR e |cases hf'
 rcases CN.look x c h with⟨_,e⟩ |⟨e,_⟩;exact absurd hm e;exact e;exact bH<|fl b hb;rcases CN.look x c h with⟨e,_⟩ |⟨e,_⟩;exact(fo b hb).2.2.2.2.1 x c<|hc1 x c e;exactλz=>absurd (fl b hb) (by rw[<-z];exact wg e);rcases(fo b hb).2.2.2.1 with z |z;exact I3.ok.WK b o h z;have h1:=aR h;exact absurd (ba h1<|aJ I3.ok.ZW z)<|gi _;have h':b∈jC X.stack:=h;rcases bc.mp (I3.XE b h')with z |z;exact(fo b hb).2.1 z;exact(fo b hb).2.2.1 z
def MM{tk:Nat}{cl Zh:List (Str×Addr)}(t:YM X N sc)(S:qU N sc N' scope)(I3:Inv X on Y H3 s3)(hc1:∀n c,Zh.lookup n=some c->X.env.cells.lookup n=some c)(hc2:∀n,(n,NameKind.free)∈scope.names->∃c,Zh.lookup n=some c)(CN:FC scope.names Zh s3.heap.objs.size cl h₁)(fo:∀b∈fp,tw X on H3 b)(fl:∀b∈fp,b<s3.heap.objs.size)(hns:∃m,h₁.Ns s3.heap.objs.size m)(kp:∀b o,s3.heap.get? b=some o->h₁.get? b=some o):Inv (Sw X N' scope cl s3.heap.objs.size s3 H3 fp) [] (Y++List.replicate (N'.length-N.length) none) H3 {s3 with heap:=h₁,toks:=tk}:=by
 obtain⟨m,hm⟩:=hns;have hlen:Y.length=N.length:=by rw[I3.len,t.eN]
 refine⟨Py t S I3 hc1 hc2 CN fo fl,rfl,I3.bare,Un.kept kp,⟨m,hm,λi x v h1 h2 h3=>?_⟩,λx c h=>?_,I3.VG.fresh<|ao _,λx c h=>(CN.look x c h).elim (λz=>I3.Ws x c<|hc1 x c z.1) λz=>I3.VG.fresh z.1,(λp hp=>nomatch hp),I3.VG.kept kp,?_⟩;have hi:i<Y.length:=by by_cases hi:i<Y.length;exact hi;rw[List.getElem?_append_right<|by lia,List.getElem?_replicate]at h2;split at h2<;>cases h2
 rw[List.getElem?_append_left hi]at h2;have h3':Qh (vM scope sc) x:=by rw[<-Bb t.eS];exact h3
 have hv:fS (vM scope sc) x=true:=by unfold fS;rcases h3' with z |z |z<;>rw[z]
 obtain⟨e1,e2⟩:=S.old i x (by lia) h1 hv;have Xb:=S.free _ (lR e2) rfl;obtain⟨m0,hn0,hl0⟩:=I3.loc;obtain⟨u,ru,lk⟩:=hl0 i x v (by rwa[t.eN]) h2 (by rw[t.eS];exact .inr<|.inl Xb);refine⟨u,ru,?_⟩;have hkx:X.env.kindOf x=some .cell:=by show X.env.scope.names.lookup x=_;rwa[t.eS]
 rcases lk with⟨k,_⟩ |⟨_,c,hc,hcc⟩;rw[hkx]at k;cases k;obtain⟨c',YA⟩:=CN.has x<|.inr<|hc2 x<|lR e2;have ho:Zh.lookup x=some c':=by rcases CN.look x c' YA with⟨z,_⟩ |⟨_,z,_⟩;exact z;have z':=S.cells _ z rfl;rw[e2]at z';cases z'
 have e:=bN<|(hc1 x c' ho).symm.trans hc;subst e;refine .inr ⟨?_,c',YA,?_⟩;show(relabel scope X.env).names.lookup x=_\/(relabel scope X.env).names.lookup x=_;rw[Bb t.eS];rcases h3' with z |z |z;obtain⟨k',g1,g2,g3⟩:=w9 S.zD2 S.free z;by_cases hk':k'=.free;have:=g2 hk';cases this;have e:=g3 hk';subst e;rw[e2]at g1;cases g1;exact .inl z;exact .inr z;obtain⟨oc,ho,hd⟩:=hcc;exact⟨oc,kp _ _ ho,hd⟩;rcases CN.look x c h with⟨z,_⟩ |⟨_,_,z⟩;obtain⟨v,oc,ho,hd⟩:=I3.cell x c<|hc1 x c z;exact⟨v,oc,kp _ _ ho,hd⟩;exact⟨_,z⟩;show(Y++List.replicate (N'.length-N.length) none).length=N'.length;have:=S.len;rw[ag,jB,hlen];lia
end
def Sg(X:Cx)(on:gC)(Y:St)(F2 H2:Hp)(rs:aM)(D' C:Addr)(s':Shared):Prop:=∃(F' H':Hp)(vs:fh)(m:tK),Inv X on Y H' s'/\s'.heap.Ns C m/\H' C=none/\C≠X.env.locals/\X.s₀.heap.objs.size<=C/\(∀x c,X.env.cells.lookup x=some c->c≠C)/\(∀p∈X.pn++on,p.1≠C)/\Ext ⟨F2,H2⟩ F' H'/\H2 D'=none/\H' D'=some (.lst vs)/\F' D'=none/\Vs X.K F' vs rs/\D'≠C
section
variable {tn:Nat->Heap->Prop}{J:It}{ds rs:aM}
theorem Hz{s3:Shared}{DD C:Addr}{h₁:Heap}{tk:Nat}{cl Zh:List (Str×Addr)}(t:YM X N sc)(md:X.calm=true\/(J.WT/\Sa X.A H2))(S:qU N sc N' scope)(hC:s3.heap.objs.size=C)(hDC:DD≠C)(I3:Inv X on Y (dH H2 DD<|.lst []) s3)(hD0:H2 DD=none)(fo3:∀b∈fp,tw X on (dH H2 DD<|.lst []) b)(fl3:∀b∈fp,b<s3.heap.objs.size)(T:Dz X.prog X.w X.K tg J fp it tn)(tn3:tn 0 s3.heap)(zBN:∃m,h₁.Ns s3.heap.objs.size m)(kp4:∀b o,s3.heap.get? b=some o->h₁.get? b=some o)(k2:Ok X.K B F2 H2 Y U)(JO:vp X.K J F2 ds)(hz:ds.length<sizeLine)(hc1:∀n c,Zh.lookup n=some c->X.env.cells.lookup n=some c)(hc2:∀n,(n,NameKind.free)∈scope.names->∃c,Zh.lookup n=some c)(CN:FC scope.names Zh s3.heap.objs.size cl h₁)(run:∀X',XQ X X' N' (vM scope sc) (CK scope)->VX X' tg elt ifs ds (U++List.replicate (N'.length-N.length) .un) rs){RR:Value->Addr->Result->Shared->Prop}(hRR:∀D' C s',Sg X on Y F2 H2 rs D' C s'->RR (.ref D') C (.ok .next) s'):codeAny (model X.prog X.w) X.A (.compStart (.ListComp elt [⟨tg,iter,ifs,0⟩] scope pos) 0 (.ref it) (.ref DD)<|compEnvC scope cl C X.env) (RR (.ref DD) C) {s3 with heap:=h₁,toks:=tk}:=by
 have I4:Inv (Sw X N' scope cl C s3 (dH H2 DD<|.lst []) fp) [] (Y++List.replicate (N'.length-N.length) none) (dH H2 DD<|.lst []) {s3 with heap:=h₁,toks:=tk}:=by have q:=MM (tk:=tk) t S I3 hc1 hc2 CN fo3 fl3 zBN kp4;rwa[hC]at q
 generalize hX':Sw X N' scope cl C s3 (dH H2 DD<|.lst []) fp=X' at I4;have cx:XQ X X' N' (vM scope sc) (CK scope):=by subst hX';exact⟨⟨rfl,Bb t.eS,S.nd,rfl,t.un,t.dp,t.tree,t.fr⟩,rfl,rfl,rfl,rfl,rfl,rfl,rfl,λx hx=>hx⟩
 have md':X'.calm=true\/(J.WT/\P0 X'):=by
  rcases md with z |⟨z,ea,oe,u,vs,k1,k2,k3,k4⟩;exact .inl<|cx.Yu.trans z;refine .inr ⟨z,ea,oe,u,vs,by rwa[cx.a'],?_,k3,k4⟩;have e:X'.H₀=dH H2 DD (.lst []):=by subst hX';rfl
  rwa[e,aK<|fk k2 hD0]
 have run':=run X' cx;have eP:=cx.prog;have eW:=cx.w';have eA:=cx.a';have eK:=cx.k';have ZJ:X'.env=compEnvC scope cl C X.env:=by subst hX';rfl
 have eX:=cx.at0.XH;have eEx:X'.ex=fp:=by subst hX';rfl
 have ePn:X'.pn=[]:=by subst hX';rfl
 have k4:Ok X.K B F2 (dH H2 DD<|.lst []) (Y++List.replicate (N'.length-N.length) none) (U++List.replicate (N'.length-N.length) .un):=(k2.zD0 hD0).more _;have no4:Wg (Y++List.replicate (N'.length-N.length) none) (U++List.replicate (N'.length-N.length) .un) DD:=(k2.more _).noOwn hD0;have bD:=k2.sh.free hD0;have fD:=k2.sub.free hD0;have fp4:∀{H':Hp},(∀b∈fp,H' b=none)->∀b∈fp,tw X' [] H' b:=λ{H'}hn b hb=>by refine⟨hn b hb,?_,?_,.inl<|by rwa[eEx],λx c h=>?_,λp hp=>?_⟩;exact(I4.ok.exf b<|by rwa[eEx]).1;exact I4.ok.Y0 b (by rwa[eEx]);exact(I4.ok.exf b<|by rwa[eEx]).2 x c h;rw[ePn]at hp;exact nomatch hp
 have fin:∀(xy:St)(F' H':Hp)vs(s':Shared),Inv X' [] xy H' s'->Ext ⟨F2,H2⟩ F' H'->H' DD=some (.lst vs)->F' DD=none->Vs X.K F' vs rs->RR (.ref DD) C (.ok .next) s':=λxy F' H' vs s' I' x' h1 h2 h3=>by
  refine hRR DD C s' ?_;have base:=I'.base;have ZU:=I'.os;have zDR:=I'.VG;have Xl:=I'.free;obtain⟨m,hm,_⟩:=I'.loc;rw[ZJ]at Xl hm;rw[eEx]at base;have e1:X'.fs=jC X.stack:=by subst hX';rfl
  have e2:X'.H₀=dH H2 DD (.lst []):=by subst hX';rfl
  have e3:X'.s₀=s3:=by subst hX';rfl
  rw[e1,e2,e3]at base;rw[e3]at ZU;rw[eP,eW]at zDR;refine⟨F',H',vs,m,I3.zAZ ZU base zDR I'.bare λb hb=>⟨(fo3 b hb).2.2.2.1,(fo3 b hb).2.1,(fo3 b hb).2.2.2.2.1,(fo3 b hb).2.2.2.2.2⟩,hm,Xl,?_,?_,λx c h z=>?_,λp hp z=>?_,x',hD0,h1,h2,h3,hDC⟩;have:=I3.lt;rw[hC]at this;exactλz=>absurd (z▸this)<|gi _;have:=I3.sz;rw[hC]at this;exact this;obtain⟨v,q⟩:=I3.cell x c h;have:=q.lt;rw[hC,z]at this;exact absurd this<|gi _;have:=aR (I3.pin p hp).1;rw[hC,z]at this;exact absurd this<|gi _
 have tn4:=T.keep 0 _ _ tn3 λb hb o e=>kp4 b o e;have loop:∀s4:Shared,s4={s3 with heap:=h₁,toks:=tk}->codeAny (model X.prog X.w) X.A (.compLoop (.ListComp elt [⟨tg,iter,ifs,0⟩] scope pos) 0 (.ref it) (.ref DD)<|compEnvC scope cl C X.env) (RR (.ref DD) C) s4:=by
  rintro s4 rfl;obtain⟨P,hP⟩:∃P:Nat->Shared->Prop,P=λn s'=>∃(i:Nat)(xy:St)(F' H':Hp)(W1:cE)(vs:fh)(r0 r1:aM),Inv X' [] xy H' s'/\tn i s'.heap/\(∀b∈fp,H' b=none)/\Ok X.K B F' H' xy W1/\Ext ⟨F2,H2⟩ F' H'/\H' DD=some (.lst vs)/\F' DD=none/\Wg xy W1 DD/\Vs X.K F' vs r0/\VX X' tg elt ifs (ds.drop i) W1 r1/\r0++r1=rs/\r0.length<=i/\i<=ds.length/\n=ds.length+1-i:=⟨_,rfl⟩;refine BM P ?_ (ds.length+1)<|hP▸⟨0,_,F2,_,_,[],[],rs,I4,tn4,λb hb=>(fo3 b hb).1,k4,⟨k2.sub.trans<|aP hD0,aP hD0,.refl _,λa h=>.inl h⟩,aI,fD,no4,.nil,by simpa using run',rfl,bO _,bO _,by simp⟩;intro n s' hs;rw[hP]at hs;obtain⟨i,xy,F',H',W1,vs,r0,r1,I',tni,fpi,k',x',hH,hF,no',rv,cr,er,hr0,hi,rfl⟩:=hs;have JO':=JO i F' H' x'.sf k'.sub;have TI:=T.item X' eP eW eK md' i [] s' xy H' (λ_ _=>False) I' (fp4 fpi) tni;have TD:=T.done X' eP eW eK md' i [] s' xy H' (λ_ _=>False) I' (fp4 fpi) tni;rw[eA]at TI TD;generalize e1:ds.drop i=bP at cr
  have stepI:∀{TT:Shared->Prop}{d:D}{Wp:cE}(hd:ds[i]?=some d)(g:Xz X' W1 tg d Wp)(K:∀(Wa:gC)(s5:Shared)(σ5:St)(F5 H5:Hp),Inv X' Wa σ5 H5 s5->Ok X.K B F5 H5 σ5 Wp->Ext ⟨F2,H2⟩ F5 H5->H5 DD=some (.lst vs)->F5 DD=none->Wg σ5 Wp DD->Vs X.K F5 vs r0->(∀(s6:Shared)(σ6:St)(H6:Hp),Inv X' Wa σ6 H6 s6->Inv X' [] σ6 H6 s6/\tn (i+1) s6.heap/\∀b∈fp,H6 b=none)->TT s5),fg X (pyNext<|.ref it) (λr s₁=>match r with
   |none=>RR (.ref DD) C (.ok .next) s₁
   |some v=>fg X (letOwnedTupleGo tg (.ref it) v) (λ_ s₀=>fg X (assign tg (compEnvC scope cl C X.env) v) (λ_=>TT) (λ_ _=>False) s₀) (λ_ _=>False) s₁) (λ_ _=>False) s':=by
   intro TT d Wp hd g K
   obtain⟨go,yl⟩:=JO'.1 _ hd
   refine fq (TI go) λr s4 ⟨u,hr,h4⟩=>?_
   subst hr
   refine fq h4 λ_ s5 ⟨x,H5,I5,r5,y5,Zq,fr5⟩=>?_
   obtain⟨F5,x5,rx⟩:=yl x H5 y5
   have gg:=g B F5 H5 xy x (λσ6 H6=>H6=H5/\Ok X.K B F5 H5 σ6 Wp/\Wg σ6 Wp DD) (by rw[eK];exact k'.ext x5) (by rwa[eK]) (λσ6 k6 n6=>⟨rfl,by rw[eK]at k6;exact k6,n6 DD no'⟩) _ s5 u (I5.pinned (fp4 fr5)<|T.obj _ _ Zq) r5
   unfold fg at gg;rw[eP,eW,eA,ZJ,eX]at gg
   refine fq gg λ_ s6 ⟨σ6,H6,I6,e6,k6,n6⟩=>?_
   subst e6
   refine K _ s6 σ6 F5 H6 I6 k6 (x'.t x5) (x5.sh _ _ hH) ?_ n6 (rv.mono x5.sf) λs7 σ7 H7 I7=>⟨I7.Wx,T.keep _ _ _ Zq λb hb o e=>(I7.pin (b,o)<|aF _<|aF _<|jL hb e).1,λb hb=>?_⟩
   exact x5.kf hF hH
   obtain⟨o,e,d⟩:=T.obj _ _ Zq b hb
   exact(I7.pin (b,o)<|aF _<|aF _<|jL hb e).2.1
  have zEB:∀{d r:D}{Zr rs':aM}{Wp:cE}(V1:i<ds.length)(hdr:ds.drop (i+1)=Zr)(ev:Vp X' Wp elt r)(cr':VX X' tg elt ifs Zr Wp rs')(er':r0++(r::rs')=rs)(Wa:gC)(s5:Shared)(σ5:St)(F5 H5:Hp),Inv X' Wa σ5 H5 s5->Ok X.K B F5 H5 σ5 Wp->Ext ⟨F2,H2⟩ F5 H5->H5 DD=some (.lst vs)->F5 DD=none->Wg σ5 Wp DD->Vs X.K F5 vs r0->(∀(s6:Shared)(σ6:St)(H6:Hp),Inv X' Wa σ6 H6 s6->Inv X' [] σ6 H6 s6/\tn (i+1) s6.heap/\∀b∈fp,H6 b=none)->fg X (eval elt<|compEnvC scope cl C X.env) (λx s₄=>fg X (call (.builtin "list.append") [.ref DD,x]) (λ_ s₅=>∃m,m<ds.length+1-i/\P m s₅) (λ_ _=>False) s₄) (λ_ _=>False) s5:=by
   subst hP;intro d r Zr rs' Wp V1 hdr ev cr' er' Wa s5 σ5 F5 H5 I5 k5 x5 h5 f5 n5 rv5 back;have ee:=ev B F5 H5 σ5 (λv H6=>∃F6,Ext ⟨F5,H5⟩ F6 H6/\Rep X.K F6 v r) (by rwa[eK]) (λv F6 H6 x6 r6=>⟨F6,x6,by rw[eK]at r6;exact r6⟩) Wa s5 I5;unfold fg at ee;rw[eP,eW,eA,ZJ,eX]at ee;refine fq ee λu s6 ⟨v,H6,I6,ru,F6,x6,r6⟩=>?_;have h6:=x6.sh _ _ h5;have f6:=x6.kf f5 h5;have hlen:vs.length<sizeLine:=by have:=rv5.length;lia
   have app:=nV Wa s6 σ5 H6 (.ref DD) [v] (.ref DD) [u] (λz H7=>H7=dH H6 DD (.lst<|vs++[v])) I6 rfl (.cons ru .nil) ⟨DD,vs,v,rfl,rfl,h6,hlen,rfl⟩;unfold fg at app;rw[eP,eW,eA,eX]at app;refine fq app λ_ s7 ⟨z,H7,I7,_,e7⟩=>?_;subst e7;obtain⟨I8,t8,f8⟩:=back s7 σ5 _ I7;have x7:=x5.t x6;refine⟨ds.length+1-(i+1),by lia,i+1,σ5,F6,_,Wp,vs++[v],r0++[r],rs',I8,t8,f8,(k5.ext x6).zAE f6 bD n5 ⟨_,h6⟩,⟨λb w q=>?_,λb w q=>?_,x7.sf,x7.nw⟩,aI,f6,n5,(rv5.mono x6.sf).append<|.cons r6 .nil,by rwa[hdr],by rwa[aO],by rw[ag,eB];lia,V1,rfl⟩;have ne:b≠DD:=λz=>by subst z;rw[f6]at q;cases q
   rw[aK ne];exact x6.sub b w q;have ne:b≠DD:=λz=>by subst z;have q':H2 b=some w:=q;rw[hD0]at q';cases q'
   rw[aK ne];exact x7.sh b w q
  cases cr with
  |nil=>
   have hl:ds.length<=i:=by have:=aL List.length e1;rw[bX,jf]at this;lia
   refine fq (TD<|JO'.2 hl) λr s4 ⟨hr,I4'⟩=>?_;subst hr;rw[aX]at er;subst er;exact fin xy F' H' vs s4 I4' x' hH hF rv
  |@take d r ds0 rs0 ρ0 Wp g ci ev cr'=>obtain⟨hd,hdr,V1⟩:=jc e1;refine stepI hd g λWa s5 σ5 F5 H5 I5 k5 x5 h5 f5 n5 rv5 back=>?_;rcases ci with rfl |⟨c,rfl,et⟩;refine wpAny_tests_nil ?_;rw[ax rfl];exact zEB (d:=d) V1 hdr ev cr' er Wa s5 σ5 F5 H5 I5 k5 x5 h5 f5 n5 rv5 back;have tt:=et B F5 H5 σ5 (λb H6=>b=true/\∃F6,Ext ⟨F5,H5⟩ F6 H6) (by rwa[eK]) (λF6 H6 x6=>⟨rfl,F6,x6⟩) Wa s5 I5;unfold fg at tt;rw[eP,eW,eA,ZJ,eX]at tt;refine wpAny_tests_one (fq tt λb s6 ⟨H6,I6,eb,F6,x6⟩=>?_);subst eb;rw[ax rfl];have f6:=x6.kf f5 h5;exact zEB (d:=d) V1 hdr ev cr' er Wa s6 σ5 F6 H6 I6 (k5.ext x6) (x5.t x6) (x6.sh _ _ h5) f6 n5 (rv5.mono x6.sf) back
  |@skip d ds0 rs0 ρ0 Wp c g hc et cr'=>obtain⟨hd,hdr,V1⟩:=jc e1;subst hc;refine stepI hd g λWa s5 σ5 F5 H5 I5 k5 x5 h5 f5 n5 rv5 back=>?_;have tt:=et B F5 H5 σ5 (λb H6=>b=false/\∃F6,Ext ⟨F5,H5⟩ F6 H6) (by rwa[eK]) (λF6 H6 x6=>⟨rfl,F6,x6⟩) Wa s5 I5;unfold fg at tt;rw[eP,eW,eA,ZJ,eX]at tt;refine wpAny_tests_one (fq tt λb s6 ⟨H6,I6,eb,F6,x6⟩=>?_);subst eb;rw[av aA];obtain⟨I8,t8,f8⟩:=back s6 σ5 _ I6;subst hP;exact⟨ds.length+1-(i+1),by lia,i+1,σ5,F6,H6,Wp,vs,r0,_,I8,t8,f8,k5.ext x6,x5.t x6,x6.sh _ _ h5,x6.kf f5 h5,n5,rv5.mono x6.sf,by rwa[hdr],er,by lia,V1,rfl⟩
 exact codeAny_compStart_list (loop _ rfl)<|T.self _ 0 _ _ _ tn4<|loop _ rfl
def Df{cl:List (Str×Addr)}(t:YM X N sc)(md:X.calm=true\/(J.WT/\Sa X.A H2))(S:qU N sc N' scope)(I2:Inv X on Y H2 s2)(T:Dz X.prog X.w X.K tg J fp it tn)(t0:tn 0 s2.heap)(fo2:∀b∈fp,tw X on H2 b)(k2:Ok X.K B F2 H2 Y U)(JO:vp X.K J F2 ds)(hz:ds.length<sizeLine)(hc1:∀n c,cl.lookup n=some c->X.env.cells.lookup n=some c)(hc2:∀n,(n,NameKind.free)∈scope.names->∃c,cl.lookup n=some c)(run:∀X',XQ X X' N' (vM scope sc) (CK scope)->VX X' tg elt ifs ds (U++List.replicate (N'.length-N.length) .un) rs){RR:Value->Addr->Result->Shared->Prop}(hRR:∀D' C s',Sg X on Y F2 H2 rs D' C s'->RR (.ref D') C (.ok .next) s'):fg X (newList []) (λacc s₃=>fg X (newFunctionEnv scope X.env.globals cl [] X.env.qual none .none<|some X.env) (λzEI s₄=>codeAny (model X.prog X.w) X.A (.compStart (.ListComp elt [⟨tg,iter,ifs,0⟩] scope pos) 0 (.ref it) acc {zEI with scope:=relabel scope X.env}) (RR acc zEI.locals) s₄) E s₃) E s2:=by
 have zG8:∀m c,cl.lookup m=some c->c<(s2.heap.push {cls:=.type "list",data:=.seq [].toArray}).objs.size:=λm c e=>by let⟨v,q⟩:=I2.cell m c<|hc1 m c e;rw[fY];exact jE q.lt
 refine dG (CP zG8 λcl' h₁ kp₁ zBN CN=>?_);have I3:=I2.zBF (t':=s2.toks) .nil<|bO _;have XS:(s2.heap.push {cls:=.type "list",data:=.seq [].toArray}).objs.size=s2.heap.objs.size+1:=by rw[fY]
 have tfp:∀b∈fp,b<s2.heap.objs.size:=λb hb=>by let⟨o,e,_⟩:=T.obj 0 _ t0 b hb;exact aR e
 refine Hz t md S rfl (by rw[XS];exact bH<|fC _) I3 (I2.VG.fresh<|ao _) (λb hb=>?_) (λb hb=>?_) T (T.keep 0 _ _ t0 λb hb o e=>Heap.get?_push_of_some _ e) zBN kp₁ k2 JO hz hc1 hc2 CN run hRR
 let⟨f0,f1⟩:=fo2 b hb;exact⟨by rwa[aK<|bH<|tfp b hb],f1⟩;rw[XS];exact jE<|tfp b hb
end
section
variable {ds rs:aM}
def GE(t:YM X N sc)(S:qU N sc N' scope)(I:Inv X on Y H s):∃cl:List (Str×Addr),closureFor scope X.env=pure cl/\(∀n c,cl.lookup n=some c->X.env.cells.lookup n=some c)/\(∀n,(n,NameKind.free)∈scope.names->∃c,cl.lookup n=some c):=EI λn hn=>I.ok.has n<|.inl<|by show X.env.scope.names.lookup n=_;rw[t.eS];exact S.free _ hn rfl
def jt(t:At X N sc)(N':cn)(S:qU N sc N' scope)(hi:Za X U tg iter ds)(hz:ds.length<sizeLine)(run:∀X',Yy X X' N' (vM scope sc) (CK scope)->VX X' tg elt ifs ds (U++List.replicate (N'.length-N.length) .un) rs)(hs:∀x,foldedSetIterable iter X.env x=pure x:=by intro _;rfl):VD X U (.ListComp elt [⟨tg,iter,ifs,0⟩] scope pos) rs:=λB F H Y Q k q=>.mk λon s I=>by obtain⟨cl,e1,e2,e3⟩:=GE t.z S I;rw[eval_ListComp];refine wpAny_comprehension_free (use:=none) rfl hs e1 S.kind S.names (fq (hi B F H Y (λJ H1=>∃F1,Ext ⟨F,H⟩ F1 H1/\vp X.K J F1 ds) k (λJ F' H' x j=>⟨F',x,j⟩) on s I) λv s1 h=>fq h λitv s2 h2=>?_);obtain⟨it,fp,tn,J,H',e,I2,T,t0,fo,F1,x1,JO⟩:=h2;subst e;refine Df (RR:=λacc C=>compPost (model X.prog X.w) X.A X.xe none (EP X on Y Q) acc C) t.z (.inl t.calm) S I2 T t0 fo (k.ext x1) JO hz e2 e3 (λX' c0=>run X'<|c0.calm t.calm) ?_;rintro D' C s' ⟨F',H'',vs,m,IX,hm,h0,hL,hs0,hcl,hpn,x',hd0,hd,hf,rv,hDC⟩;refine⟨m,hm,λh'' sb=>?_⟩;have IX':Inv X on Y H'' {s' with heap:=h''}:=IX.turned (t':=s'.toks) (it:=C) (λb o hb e=>sb.extBut b o hb e) h0 hL (.inr hs0) hcl hpn;exact⟨.ref D',H'',IX',rfl,q D' vs F' H'' (x1.t x') (x1.sh.free hd0) hd hf rv⟩
def Ay{zCV:Pos}[WR X](t:At X N sc)(i:Nat)(N':cn)(S:qU N sc N' scope)(hi:Za X U tg iter ds)(hz:ds.length<sizeLine)(run:∀X',Yy X X' N' (vM scope sc) (CK scope)->VX X' tg elt ifs ds (U++List.replicate (N'.length-N.length) .un) rs)(XX:swapsWith (.ListComp elt [⟨tg,iter,ifs,0⟩] scope pos) (some<|.Name y py) zCV.line (dE sc)=pure true:=by rfl)(hN:N[i]?=some y:=by rfl)(hy:ml sc y=true:=by rfl)(hs:∀x,foldedSetIterable iter X.env x=pure x:=by intro _;rfl):VN X U (.Assign [.Name y py] (.ListComp elt [⟨tg,iter,ifs,0⟩] scope pos) zCV) (.nx<|U.set i<|.own rs):=λB F H Y E k q=>.mk λon s I=>by
 let⟨cl,e1,e2,e3⟩:=GE t.z S I;rw[exec_Assign_Name_used _ _ _ _<|(Oa<|t.eS).trans XX];refine ak<|nE<|ak ?_;refine ak (aH (wpAny_comprehension_free (use:=some<|assign (.Name y py) X.env) (Q:=λ_ s'=>SP X on E .next s') rfl hs e1 S.kind S.names (fq (hi B F H Y (λJ H1=>∃F1,Ext ⟨F,H⟩ F1 H1/\vp X.K J F1 ds) k (λJ F' H' x j=>⟨F',x,j⟩) on s I) λv s1 h=>fq h λitv s2 h2=>?_)) (λ_ s' hq=>aD<|aD hq) λ_ _ e=>e);let⟨it,fp,tn,J,H',e,I2,T,t0,fo,F1,x1,JO⟩:=h2;subst e;refine Df (RR:=λacc C=>compPost (model X.prog X.w) X.A X.xe (some<|assign (.Name y py) X.env) (λ_ s'=>SP X on E .next s') acc C) t.z (.inl t.calm) S I2 T t0 fo (k.ext x1) JO hz e2 e3 (λX' c0=>run X'<|c0.calm t.calm) ?_;rintro D' C s' ⟨F',H'',vs,m,IX,hm,h0,hL,hs0,hcl,hpn,x',hd0,hd,hf,rv,hDC⟩;refine wpAny_assign_Name<|Av (v:=.ref D') IX t.nd (t.ix hN) (t.loc hy) rfl (λXG I'' zDG=>?_) Ga;let⟨a,sb,ha⟩:=zDG;have hCa:C≠a:=by rcases ha with z |z;rwa[z];exact eF<|hcl y a z
 refine⟨m,hm.sameBut sb hCa,λh'' sb'=>?_⟩;have I3:=I''.turned (t':=XG.toks) (it:=C) (λb o hb e=>sb'.extBut b o hb e) h0 hL (.inr hs0) hcl hpn;have hH:=x1.sh.free hd0;exact⟨_,H'',I3,q F' H'' _ ((k.ext<|x1.t x').YC i hd hf (k.sh.free hH) (k.noOwn hH) rv) (x1.t x').sf⟩
def VX.all(R:D->cE)(f:D->D):∀(ds:aM)(U:cE),(∀d∈ds,Xz X U tg d<|R d)->(∀d∈ds,∀e∈ds,Xz X (R d) tg e<|R e)->(∀d∈ds,Vp X (R d) elt<|f d)->VX X tg elt [] ds U (ds.map f)|[],_,_,_,_=>.nil|d::ds,U,h1,h2,h3=>.take (h1 d cm) (.inl rfl) (h3 d cm) (VX.all R f ds (R d) (λe he=>h2 d cm e<|aV _ he) (λa ha e he=>h2 a (aV _ ha) e<|aV _ he) λe he=>h3 e<|aV _ he)
end
def RE(N:cn)(sc:Scope)(N':cn)(scope:Scope):Bool:=
 decide (scope.kind=.function)&&scope.names.all (λy=>decide<|y.2=.cell->scope.names.lookup y.1=some .cell)&&scope.names.all (λy=>decide<|y.2=.local->scope.names.lookup y.1=some .local)&&scope.names.all (λy=>decide<|y.2=.free->sc.names.lookup y.1=some .cell)&&decide (sc.kind=.function)&&decide N'.Nodup&&(List.range N.length).all (λi=>match N'[i]? with
   |some x=>!(fS (vM scope sc) x)||(decide (N[i]?=some x)&&decide (scope.names.lookup x=some .free))
   |none=>true)&&decide (N.length<=N'.length)
def Hy{scope:Scope}(h:RE N sc N' scope=true):qU N sc N' scope:=by unfold RE at h;simp only[dS,bV,List.all_eq_true]at h;let⟨⟨⟨⟨⟨⟨⟨h1,h2⟩,h3⟩,h4⟩,h5⟩,h6⟩,h7⟩,h8⟩:=h;refine⟨h1,h2,h3,h4,h5,h6,λi x hi hx hv=>?_,h8⟩;have q:=h7 i<|List.mem_range.mpr hi;rw[hx]at q;simp only[hv,Bool.not_true,gj,dS,bV]at q;exact q
def kL{x:Str}(hm:X.mg x=none)(g:sw sc x:=by rfl)(v:bootBuiltins x=some u:=by rfl)(n:x≠"__name__":=by decide)(d:pE x:=by rfl):kN X sc x u:=⟨g,hm,v,n,d⟩
abbrev cZ(f:bR):D:=.tup<|f.map D.int
abbrev ja(f:bR):D:=.lst<|f.map D.int
def Ce{xs:bR}{i:Int}{n:Nat}(h0:0<=i)(hn:i.toNat=n)(h:n<xs.length):me (xs.map D.int) i=some (.int xs[n]):=by
 have e:i=((n:Nat):Int):=by lia
 subst e;exact dJ<|by rw[List.getElem?_map,List.getElem?_eq_getElem h];rfl
def Ep{n:Nat}{i:Int}{j:Nat}(h0:0<=i)(hn:i.toNat=j)(h:j<n):FZ n i=some j:=by unfold FZ;rw[ax h0,ax<|by lia,hn]
def Kh(xs ys:bR):PyData.eqvAll (xs.map PyData.int) (ys.map PyData.int)=decide (xs=ys):=by
 induction xs generalizing ys with
 |nil=>cases ys<;>simp[PyData.eqvAll]
 |cons x xs ih=>cases ys with|nil=>simp[PyData.eqvAll]|cons y ys=>simp only[bp,PyData.eqvAll,PyData.eqv,ih];by_cases h1:x=y<;>by_cases h2:xs=ys<;>simp[h1,h2]
def rD(xs ys:bR):(gw<|cZ xs).eqv (gw<|cZ ys)=decide (xs=ys):=by show(PyData.tuple<|VA<|xs.map D.int).eqv (.tuple<|VA<|ys.map D.int)=_;rw[qY,qY];simp only[PyData.eqv];exact Kh xs ys
def Di(xs:bR):PyData.canLayAll0 (xs.map PyData.int)=true:=canLayAll0_ints xs
def eI(xs:bR):SeqAt.shaped (gw<|cZ xs)=true:=by
 show SeqAt.shaped (.tuple<|VA<|xs.map D.int)=true;rw[qY];have h1:=PySem.W.depthAll_ints xs;have h2:PyData.depth (.tuple<|xs.map PyData.int)<=64:=by simp only[PyData.depth];lia
 show(PyData.canLay0 (.tuple<|xs.map PyData.int)&&decide (PyData.depth (.tuple<|xs.map PyData.int)<=64))=true;rw[dS];exact⟨by simp only[PyData.canLay0];exact Di xs,ar h2⟩
inductive Xt:cE->cE->Prop where
 |nil:Xt [] []
 |keep {s:Sl} {a b:cE}:Xt a b->Xt (s::a) (s::b)
 |forget {s:Sl} {a b:cE}:Xt a b->Xt (s::a) (.un::b)
def Xt.len:∀{a b:cE},Xt a b->a.length=b.length
 |_,_,.nil=>rfl|_,_,.keep h=>aL Nat.succ h.len
 |_,_,.forget h=>aL Nat.succ h.len
def Xt.get:∀{a b:cE},Xt a b->∀(i:Nat)(s:Sl),b[i]?=some s->s≠.un->a[i]?=some s
 |_,_,.nil,_,_,h,_=>by simp at h|_,_,.keep h,0,s,e,_=>by simpa using e
 |_,_,.keep h,i+1,s,e,hn=>by simpa using h.get i s (by simpa using e) hn|_,_,.forget h,0,s,e,hn=>by simp at e;exact absurd e.symm hn
 |_,_,.forget h,i+1,s,e,hn=>by simpa using h.get i s (by simpa using e) hn
def Ok.weak(k:Ok K B F H Y a)(w:Xt a b):Ok K B F H Y b:=⟨k.toExt,k.len.trans w.len,λi d h=>k.vals i d (w.get i _ h λz=>nomatch z),λi xs h=>k.We i xs (w.get i _ h λz=>nomatch z),λi j xs ys p h1 h2=>k.dist i j xs ys p (w.get i _ h1 λz=>nomatch z) (w.get j _ h2 λz=>nomatch z),k.WI.to (.refl _) (λ_ _ e1 e2 _=>⟨e1,e2⟩) λi kvs h=>⟨w.get i _ h (λz=>nomatch z),rfl⟩⟩
def Vt.weak(h:Vt X U WJ (.nx Wp))(w:Xt Wp WP):Vt X U WJ (.nx WP):=λB F H Y E k q=>h B F H Y E k λF' H' xy k' s'=>q F' H' xy (k'.weak w) s'
def Vr.eq{b':Bool}(h:Vr X U e b)(q:b=b'):Vr X U e b':=q▸h
def Vp.eq{d':D}(h:Vp X U e d)(q:d=d'):Vp X U e d':=q▸h
def VD.eq{d':aM}(h:VD X U e d)(q:d=d'):VD X U e d':=q▸h
def XC.eq{d':aM}(h:XC X U e k d)(q:d=d'):XC X U e k d':=q▸h
def Vt.eq{o':Out}(h:Vt X U WJ o)(q:o=o'):Vt X U WJ o':=q▸h
def VN.eq{st:Stmt}{o':Out}(h:VN X U st o)(q:o=o'):VN X U st o':=q▸h
def VU.same(U:cE):∀(ds:aM),(∀d∈ds,∃Wp,XD X U tg d Wp/\Vt X Wp body (.nx U))->VU X tg body ds U (.nx U)|[],_=>.nil|d::ds,h=>by let⟨Wp,h1,h2⟩:=h d cm;exact .cons h1 h2 (VU.same U ds λe he=>h e<|aV _ he)
def VU.Z4{ds:aM}(R:Nat->cE)(h:∀(j:Nat)d,ds[j]?=some d->∃Wp,XD X (R j) tg d Wp/\Vt X Wp body (.nx<|R<|j+1)):VU X tg body ds (R 0) (.nx<|R ds.length):=by
 have q:=VU.of (X:=X) (tg:=tg) body R ds 0 λj d e=>by let⟨Wp,h1,h2⟩:=h j d e;exact⟨Wp,by simpa using h1,by simpa using h2⟩
 simpa using q
def VU.Wf{ds:aM}{U W1:cE}(R:Nat->cE)(h:∀(j:Nat)d,ds[j]?=some d->∃Wp,XD X (R j) tg d Wp/\Vt X Wp body (.nx<|R<|j+1))(e0:R 0=U)(e1:R ds.length=W1):VU X tg body ds U (.nx W1):=by subst e0;subst e1;exact VU.Z4 R h
def uV{j:Int}(h1: -(2 ^ 64)<j)(h2:j<2 ^ 64):IntMulOk i j:=.of_right<|intBits_le_64 h1 h2
def lP{i j:Int}(h1: -(2 ^ 64)<i)(h2:i<2 ^ 64):IntMulOk i j:=.of_left<|intBits_le_64 h1 h2
def og(xs:bR)(lo hi:Option Int):bR:=(xs.drop<|HT.VI xs.length 0 lo).take<|HT.VI xs.length xs.length hi-HT.VI xs.length 0 lo
def uA(xs:bR)(lo hi:Option Int):cutD (xs.map D.int) lo hi=(og xs lo hi).map D.int:=by unfold cutD og;rw[ai,DL,pL]
theorem Kv(xs:bR)(lo hi:Option Int):(og xs lo hi).length<=xs.length:=by unfold og;rw[dR,bX];lia
def Ja(k:Nat)(n:Int):(List.replicate k [D.int n]).flatten=(List.replicate k n).map D.int:=by induction k with|zero=>rfl|succ k ih=>rw[bf,cB,ih,bf,bp];rfl
def VX.gen{α:Type}(g f:α->D)(R:α->cE):∀(xs:List α)(U:cE),(∀x∈xs,Xz X U tg (g x)<|R x)->(∀x∈xs,∀y∈xs,Xz X (R x) tg (g y)<|R y)->(∀x∈xs,Vp X (R x) elt<|f x)->VX X tg elt [] (xs.map g) U (xs.map f)|[],_,_,_,_=>.nil|x::xs,U,h1,h2,h3=>.take (h1 x cm) (.inl rfl) (h3 x cm) (VX.gen g f R xs (R x) (λe he=>h2 x cm e<|aV _ he) (λa ha e he=>h2 a (aV _ ha) e<|aV _ he) λe he=>h3 e<|aV _ he)
def JK:(sizeLine:Nat)=16777216:=tD
open AutoSeq1 (wpAny_loadPart')
def vP{Q:qW}{s:Shared}(hit:s.heap.IsTupleIter it t i)(ht:s.heap.IsTuple t items)(hx:items[i]?=some x)(hQ:∀h',h'.IsTupleIter it t (i+1)->Heap.SameBut it s.heap h'->Q x {s with heap:=h'}):wpAny (model prog w) A (Builtin.SmallTypes.nextOf<|.ref it) Q E s:=by let⟨o,ho,hc,hd⟩:=id hit;let⟨ol,hol,_,nl,hdl⟩:=ht;refine ak<|wpAny_callSpecial?_slot hit.typeIs lr<|l9 lr hit.typeIs UL ?_<|Us _;show wpAny _ _ (field (.ref it) 0>>=_) _ _ s;refine ak<|eG ho hd (x:=.ref t) rfl ?_;rw[av (show¬((Value.ref t==Value.none)=true)from aA)];refine ak<|eG ho hd rfl ?_;refine ak<|wpAny_seqItems hol hdl ?_;simp only[bv,hx];refine ak<|we ho hd (by simp)<|aD ⟨x,rfl,aD<|hQ _ ?_<|Heap.SameBut.update ..⟩;exact⟨_,Heap.get?_update_self _ ho<|Fa<|oj hd _,(Obj.cls_mapFields ..).trans hc,by rw[oj hd];simp[rawInt]⟩
def qh{A:Around}{E:qW}{s:Shared}(hh:A.handled=none)(hit:s.heap.IsTupleIter it t i)(ht:s.heap.IsTuple t items)(hx:items[i]?=none)(hE:∀h' e,Heap.ExtBut it s.heap h'->(∃o,h'.get? e=some o/\o.cls=.type "StopIteration")->E (.ref e) {s with heap:=h'}):wpAny (model prog w) A (Builtin.SmallTypes.nextOf<|.ref it) Q E s:=by
 let⟨o,ho,hc,hd⟩:=id hit;let⟨ol,hol,_,nl,hdl⟩:=ht;refine ak<|wpAny_callSpecial?_slot hit.typeIs lr<|l9 lr hit.typeIs UL ?_<|Us _;show wpAny _ _ (field (.ref it) 0>>=_) _ _ s;refine ak<|eG ho hd (x:=.ref t) rfl ?_;rw[av (show¬((Value.ref t==Value.none)=true)from aA)];refine ak<|eG ho hd rfl ?_;refine ak<|wpAny_seqItems hol hdl ?_;simp only[bv,hx];refine ak<|wpAny_rule<|ak<|we ho hd (by simp) ?_;refine ak ?_;simp only[newExc,newTuple];refine ak<|dG ?_ (by size_fits);refine ak<|wpAny_of_eq (by first |rfl |(simp;rfl)) ?_;refine dG ?_ (by size_fits);simp only[raiseNew];refine ak<|wpAny_handled ?_;first |rw[show A.in1.handled=none from hh] |rw[hh]
 refine ak<|aD<|wpAny_throw ?_;exact hE _ _ (((Heap.SameBut.update ..).extBut.push _).push _) ⟨_,Heap.get?_push_size _ rfl,rfl⟩
def Hw{A:Around}(hh:A.handled=none)(it t:Addr)(Xo:t≠it)(items:Array Value):Draws prog w A it [it,t] items.size (λi v=>items[i]?=some v) (λi h=>h.IsTupleIter it t i/\h.IsTuple t items) where
 live:=λ_ _ st=>let⟨o,ho,_⟩:=st.1;⟨o,ho⟩
 frame:=λ_ _ _ st hk=>⟨st.1.at λo e=>hk it (by simp) o e,let⟨o,e,r⟩:=st.2;⟨o,hk t (by simp) o e,r⟩⟩
 item:=λi s Q E hi st hQ=>by refine vP st.1 st.2 (x:=items[i]) (by simp[hi]) λh' zGY hs'=>?_;exact hQ _ h' s.toks (by simp[hi]) ⟨zGY,let⟨o,e,r⟩:=st.2;⟨o,hs'.extBut t o Xo e,r⟩⟩ hs'
 done:=λs Q E st hE=>qh hh st.1 st.2 (by simp) hE
def CQ(l:Addr)(items:Array Value)(n:Nat)(X0:Option Addr)(sl:Array (Option Value)):Meets (Builtin.«enumerate.__new__» ⟨[.type "enumerate",.ref l],[]⟩) (λ_ R s=>s.heap.get? l=some {cls:=.type "tuple",dict:=X0,data:=.seq items n,slots:=sl}/\R (.ok<|.ret<|.ref (s.heap.push {cls:=.type "tuple_iterator",data:=.fields #[.ref l,.int 0 0]}).objs.size) {s with heap:=(s.heap.push {cls:=.type "tuple_iterator",data:=.fields #[.ref l,.int 0 0]}).push {cls:=.type "enumerate",data:=.fields #[.none,.bool false,.ref s.heap.objs.size,rawInt 0,.none,.none]}}):=.of_wp λprog w A R s h=>by
  obtain⟨hp,g,d,tk,os⟩:=s;obtain⟨hl,h⟩:=h;have zN2:=sub_enumerate;have hL:Heap.IsTuple (Shared.heap ⟨hp,g,d,tk,os⟩) l items:=⟨_,hl,rfl,n,rfl⟩
  wp_walk using jT hl
  refine wpAny_stack_any λst=>aD ?_;split;rename_i c _ _ _ _ _;cases(c==Value.type "enumerate")
  wp_walk using jT hl,wf hL
  exact⟨_,rfl,h⟩
  wp_walk using jT hl,wf hL
  exact⟨_,rfl,h⟩
  wp_walk using jT hl,wf hL
  exact⟨_,rfl,h⟩
def EK{Q:qW}{s:Shared}(hL:s.heap.IsTuple l items)(h:∀h',IsEnum h' (s.heap.objs.size+1) s.heap.objs.size 0 .none->h'.IsTupleIter s.heap.objs.size l 0->h'.objs.size=s.heap.objs.size+2->(∀b o,s.heap.get? b=some o->h'.get? b=some o)->Q (.ref<|s.heap.objs.size+1) {s with heap:=h'}):wpAny (model prog w) A (call (.type "enumerate") [.ref l]) Q E s:=by
 let⟨⟨c,X0,dt,sl⟩,hl,hc,n,hd⟩:=hL;replace hc:c=.type "tuple":=hc;replace hd:dt=.seq items n:=hd;subst hc hd;refine callType_new F.called_enumerate rfl (F.typeCall_enumerate_1 _) (F.newCall_enumerate_1 _) (λobj=>F.args_object_init_2 obj _) F.entry_enumerate_new (CQ l items n X0 sl) ⟨hl,?_⟩;have hz:(s.heap.push {cls:=.type "tuple_iterator",data:=.fields #[.ref l,.int 0 0]}).objs.size=s.heap.objs.size+1:=fY ..;rw[hz];have he:IsEnum ((s.heap.push {cls:=.type "tuple_iterator",data:=.fields #[.ref l,.int 0 0]}).push {cls:=.type "enumerate",data:=.fields #[.none,.bool false,.ref s.heap.objs.size,rawInt 0,.none,.none]}) (s.heap.objs.size+1) s.heap.objs.size 0 .none:=by have:=Heap.get?_push_size (s.heap.push {cls:=.type "tuple_iterator",data:=.fields #[.ref l,.int 0 0]}) (o:={cls:=.type "enumerate",data:=.fields #[.none,.bool false,.ref s.heap.objs.size,rawInt 0,.none,.none]}) rfl;rw[hz]at this;exact this
 refine⟨⟨_,he,rfl⟩,h _ he ⟨_,Heap.get?_push_of_some _<|Heap.get?_push_size _ rfl,rfl,rfl⟩ (by rw[fY,hz]) λb o x=>Heap.get?_push_of_some _<|Heap.get?_push_of_some _ x⟩
def Ui(K:eZ)(a:Addr):It:=⟨λi H=>∃xs x,WM K H a xs/\xs[i]?=some x,λi H x H'=>∃p,H p=none/\x=.ref p/\∀xs,WM K H a xs->∃v,xs[i]?=some v/\H'=dH H p (.tup [.int i,v]),λi H=>∃xs,WM K H a xs/\xs.length<=i,False⟩
def Inv.zCP{h':Heap}{t':Nat}{e it:Addr}(I:Inv X on Y H s)(k:∀b o,b≠e->b≠it->s.heap.get? b=some o->h'.get? b=some o)(fe:tw X on H e)(fi:tw X on H it):Inv X on Y H {s with heap:=h',toks:=t'}:=by let⟨e0,e1,e2,e3,e4,e5⟩:=fe;let⟨i0,i1,i2,i3,i4,i5⟩:=fi;refine I.step (ch:=[e,it]) (λb hb=>?_) (λb o _ _ hc q _=>k b o (λz=>hc<|by simp[z]) (λz=>hc<|by simp[z]) q) (λb o _ _ hc q _=>⟨o.slots,k b o (λz=>hc<|by simp[z]) (λz=>hc<|by simp[z]) q⟩) (λ_ _ _ _ n=>n) (λb o hc q=>⟨o,k b o (λz=>hc<|by simp[z]) (λz=>hc<|by simp[z]) q⟩) (λ_ _ q=>q) (λ_ _ _ q=>q) (λb ps q=>⟨#[],by rw[q];simp⟩) (λm hm=>?_) (λb u q=>?_) I.bare;rcases bc.mp hb with rfl |hb;exact⟨e3,e1,e4,e5⟩;rw[bZ.mp hb];exact⟨i3,i1,i4,i5⟩;let⟨o,es,ep,ho,r⟩:=hm;exact⟨o,es,ep,k _ o (eF e1) (eF i1) ho,r⟩;have ne:∀c v,H c=some v->c≠e/\c≠it:=λc v q=>⟨(λz=>by rw[z,e0]at q;cases q),(λz=>by rw[z,i0]at q;cases q)⟩;refine(I.VG b u q).XU (λc v hc r=>?_) (λ_ r=>r) λ_ _ r=>r;rcases hc with z |z;subst z;exact k c v (ne c _ q).1 (ne c _ q).2 r;exact k c v (ne c _ z).1 (ne c _ z).2 r
def Inv.zCR{p:Addr}(I:Inv X on Y H s)(hp:H p=none)(h1:X.s₀.heap.objs.size<=p)(h2:p≠X.env.locals)(h3:∀x c,X.env.cells.lookup x=some c->c≠p)(h4:∀q∈X.pn++on,q.1≠p)(new:VT X.prog X.w (dH H p o) s.heap p o):Inv X on Y (dH H p o) s:=by have old:∀b ob,X.s₀.heap.get? b=some ob->b≠p:=λb ob e=>bH<|ba (aR e) h1;refine⟨I.ok,I.os,I.bare,⟨I.base.keep,I.base.slot,λb ob e n hx=>by rw[aK<|old b ob e];exact I.base.free b ob e n hx,I.base.there,λb xs e=>?_,λb ob u e=>?_,λb ps e=>?_⟩,I.loc,I.cell,by rw[aK<|eF h2];exact I.free,λx c e=>by rw[aK<|h3 x c e];exact I.Ws x c e,λq hq=>?_,λb u e=>?_,I.len⟩;have q:=I.base.Wt b xs e;rwa[aK<|fk q hp];have q:=I.base.Wm b ob u e;rwa[aK<|fk q hp];let⟨more,q⟩:=I.base.Wy b ps e;exact⟨more,by rwa[aK<|fk q hp]⟩;let⟨a,b,c⟩:=I.pin q hq;exact⟨a,by rwa[aK<|h4 q hq],c⟩;by_cases hb:b=p;subst hb;rw[aI]at e;cases e;exact new;rw[aK hb]at e;exact(I.VG b u e).XU (λ_ _ _ q=>q) (λc q=>by rwa[aK<|fk q hp]) λc xs q=>by rwa[aK<|fk q hp]
def G3(a e it:Addr)(Xo:e≠it):Dz P w K (.Tuple es x1 pos) (Ui K a) [e,it] e (λi h=>(∃old,IsEnum h e it i old)/\h.IsTupleIter it a i) where
 mem:=by simp
 obj:=λi h st b hb=>by obtain⟨⟨old,he⟩,o,ho,c,d⟩:=st;rcases bc.mp hb with rfl |hb;exact⟨_,he,λv z=>by cases z⟩;rw[bZ.mp hb];exact⟨o,ho,λv z=>by rw[d]at z;cases z⟩
 keep:=λi h h' st k=>by obtain⟨⟨old,he⟩,hi⟩:=st;exact⟨⟨old,k e (by simp) _ he⟩,hi.at λo q=>k it (by simp) o q⟩
 item:=by
  intro X hP hw hK hc i on s Y H E I hf st hg;subst hP hw hK;replace hc:=hc.resolve_right λz=>z.1;obtain⟨⟨old,he⟩,hit⟩:=st;obtain⟨xs,x,hq,hx⟩:=hg;obtain⟨its,rv,p,hz⟩:=I.tuple hq;obtain⟨u,hu,ru⟩:=rv.get hx;have fe:=hf e (by simp);have fi:=hf it (by simp);have V1:=(List.getElem?_eq_some_iff.mp hu).1;obtain⟨oa,hoa,hca,na,hda⟩:=id p;have hae:e≠a:=λz=>by subst z;rw[he]at hoa;cases hoa;injection hca with z2;exact absurd z2<|by decide
  have hai:a≠it:=λz=>by subst z;obtain⟨oi,hoi,hci,_⟩:=hit;rw[hoa]at hoi;cases hoi;rw[hca]at hci;injection hci with z2;exact absurd z2<|by decide
  refine wpAny_pyNext_enum_itemD (Hw (prog:=X.prog) (w:=X.w) (A:=X.A.in1) (I.ok.hd hc) it a hai its.toArray) he ⟨hit,p⟩ V1 Xo (by simp[hae,Xo]) λy h' tk hy ho XY hT XS hk=>?_;have ey:y=u:=by
   have:its[i]?=some y:=by simpa using hy
   rw[hu]at this;exact(bN this).symm
  subst ey;refine⟨_,rfl,wpAny_letOwnedTupleGo_enum ho λh2 he2 sb=>?_⟩;have hTe:=nG<|aR he;have hTi:s.heap.objs.size≠it:=by obtain⟨oi,hoi,_⟩:=id hit;exact nG<|aR hoi
  have sb':Heap.SameBut e h' h2:=sb;have kk:∀b o,b≠e->b≠it->s.heap.get? b=some o->h2.get? b=some o:=λb o h1 h2' q=>sb'.extBut b o h1<|hk b o h1 h2' q;have I1:Inv X on Y H {s with heap:=h2,toks:=tk+1}:=Inv.zCP I kk fe fi;have hp0:=I.VG.fresh<|ao _;have I2:Inv X on Y (dH H s.heap.objs.size<|.tup [.int i,x]) {s with heap:=h2,toks:=tk+1}:=by refine Inv.zCR I1 hp0 I.sz (nG I.lt) (λz c h=>?_) (λq hq2 z=>?_) ⟨cM rfl,[.int i tk,y],.cons ⟨tk,rfl⟩<|.cons ru .nil,⟨_,sb'.extBut _ _ hTe hT,rfl,0,rfl⟩⟩;obtain⟨v,hv⟩:=I.cell z c h;exact bH hv.lt;have:=aR (I.pin q hq2).1;rw[z]at this;exact absurd this<|gi _
  refine⟨.ref s.heap.objs.size,_,I2,rfl,⟨s.heap.objs.size,hp0,rfl,λys hys=>⟨x,by rwa[I.X3 hys hq],rfl⟩⟩,⟨⟨_,by simpa using he2⟩,XY.1.at λo q=>sb'.extBut it o (eF Xo) q⟩,λb hb=>?_⟩;have bT:b≠s.heap.objs.size:=by rcases bc.mp hb with rfl |hb;exact eF hTe;rw[bZ.mp hb];exact eF hTi
  rw[aK bT];exact(hf b hb).1
 done:=by intro X hP hw hK hc i on s Y H E I hf st hg;subst hP hw hK;replace hc:=hc.resolve_right λz=>z.1;obtain⟨⟨old,he⟩,hit⟩:=st;obtain⟨xs,hq,hx⟩:=hg;obtain⟨its,rv,p,hz⟩:=I.tuple hq;obtain⟨f0,f1,f2,f3,f4,f5⟩:=hf it (by simp);have hl:=rv.length;have hT:s.TypeIs (.ref e) "enumerate":=⟨_,he,rfl⟩;refine ak<|wpAny_attempt<|wpAny_callSpecial?_slot hT F.slot_enumerate_next<|l9 F.slot_enumerate_next hT F.entry_enumerate_next ?_<|F.args_enumerate_next_1 _;show wpAny _ _ (field (.ref e) 2>>=_) _ _ _;refine ak<|eG he rfl rfl ?_;refine ak (qh (I.ok.hd hc) hit p (by simp;lia) λh' x he' YQ=>?_);obtain⟨o,ho,YA⟩:=YQ;refine ak<|wpAny_isInstance ⟨o,ho,YA⟩ isSubtype_stop ?_;exact aD ⟨rfl,I.turned (λb o hb e=>he' b o hb e) f0 f1 f3 f4 f5⟩
 self:=λ_ _ s Q E st h=>by obtain⟨⟨old,he⟩,hit⟩:=st;exact wpAny_pyIter_enum he h
def Rq(K:eZ)(ta:TA):TI:=λY H R=>ta Y H λvs H1=>∃a,vs=[.ref a]/\(∃xs,WM K H1 a xs)/\R (Ui K a) H1
def LU(hg:Gl X "enumerate")(hm:X.mg "enumerate"=none)(hl:PA X [a] ta)(hs:Pl a):PI X (.Tuple es x1 tp) (.Call (.Name "enumerate" p) [a] [] pos) (Rq X.K ta):=by refineλon s Y H R I h=>Call_<|u5 I hg hm (show bootBuiltins "enumerate"=some (.type "enumerate")by decide)<|jD (fq (hl pos on s Y H _ I h) λus s1 ⟨vs,H1,I1,r1,q1⟩=>?_) (hs _ _) rfl;obtain⟨l,rfl,⟨xs,hq⟩,q⟩:=q1;obtain⟨u,rfl,ru⟩:=lB r1;cases(ru);obtain⟨its,rv,pt,hz⟩:=I1.tuple hq;refine EK pt λh' he hi XS kp=>?_;refine wpAny_pyIter_enum he ?_;have fr:∀b,s1.heap.objs.size<=b->tw X on H1 b:=λb hb=>I1.ZE hb<|I1.VG.fresh hb;refine⟨s1.heap.objs.size+1,[s1.heap.objs.size+1,s1.heap.objs.size],_,_,H1,rfl,I1.kept (t':=s1.toks) kp,G3 l _ _<|nG<|fC _,⟨⟨_,he⟩,hi⟩,λb hb=>?_,q⟩;rcases bc.mp hb with rfl |hb;exact fr _ (by lia);rw[bZ.mp hb];exact fr _<|ao _
def AO(ds:aM):aM:=(List.range ds.length).map λ(i:Nat)=>.tup [.int (i:Int),ds.getD i .VH]
def n8{i:Nat}(h:(AO ds)[i]?=some d):∃e,ds[i]?=some e/\d=.tup [.int (i:Int),e]:=by unfold AO at h;rw[List.getElem?_map]at h;by_cases hi:i<ds.length;rw[List.getElem?_range hi]at h;cases h;exact⟨ds[i],List.getElem?_eq_getElem hi,by show D.tup [D.int (i:Int),ds.getD i .VH]=_;rw[List.getD_eq_getElem?_getD,List.getElem?_eq_getElem hi];rfl⟩;rw[List.getElem?_eq_none<|by simpa using hi]at h;cases h
def n4:(AO ds).length=ds.length:=by simp[AO]
def O4{F:Hp}{l:Addr}(hf:F l=some (.tup vs))(r:Vs K F vs ds):vp K (Ui K l) F (AO ds):=λi F2 H2 s1 s2=>⟨λd hd=>by obtain⟨e,he,rfl⟩:=n8 hd;let⟨v,hv,rv⟩:=r.get he;have sq:WM K H2 l vs:=WM.of<|s2 _ _<|s1 _ _ hf;refine⟨⟨vs,v,sq,hv⟩,λx H' y=>?_⟩;obtain⟨p,hp,rfl,y⟩:=y;obtain⟨v',hv',rfl⟩:=y vs sq;rw[hv]at hv';cases hv';exact⟨_,(Ext.refl s2).grow hp,.tup aI<|.cons (.int _)<|.cons ((rv.mono s1).mono<|aP<|s2.free hp) .nil⟩,λh=>⟨vs,WM.of<|s2 _ _<|s1 _ _ hf,by rw[r.length];rw[n4]at h;exact h⟩⟩
def wx(t:At X N sc)(bl:kN X sc "enumerate" (.type "enumerate"))(h:Vp X U a (.tup ds))(hs:Pl a:=by intro _ _;rfl):Za X U (.Tuple es x1 tp) (.Call (.Name "enumerate" p) [a] [] pos) (AO ds):=.of (LU (dI t bl.g) bl.m (bC aU dk<|hs _ _) hs) λB F H Y R k q=>h B F H Y _ k λv F' H' x r=>by cases r with|tup hf rl=>exact⟨_,rfl,⟨_,WM.of<|x.sub _ _ hf⟩,q _ F' H' x<|O4 hf rl⟩
abbrev vB:jh:=[.type "ValueError",.type "Exception",.type "BaseException",.type "object"]
abbrev vN:String:="ValueError.__new__"
def FL{mg:tK}{x:Str}(X:K.In h)(hb:mg x=some (.ref C))(q:excIn K C vB vN=true):OwnCls x C vB vN mg h:=by
 constructor;exact hb;unfold excIn at q;split at q;rename_i X0 c sls lk;split at q;rename_i C2 tl z0 z1 z2 z3 nid z5 zGN zDF;simp only[dS,jU,nK]at q;obtain⟨q1,qi⟩:=q;obtain⟨q1,qn⟩:=q1;obtain⟨q1,qt⟩:=q1;obtain⟨q1,qd⟩:=q1;obtain⟨qC,qN⟩:=q1;subst qC;subst qN;cases c with
 |mk f1 f2 f3 f4 f5 f6 f7 f8 f9 f10 f11=>
  have e3:=zGN;have esl:sls=#[z0,z1,z2,z3,some<|.builtin vN,z5]:=by cases sls with|mk ls=>exact aL Array.mk zDF
  subst e3;subst qd;subst esl;exact⟨tl,f4,f1,f5,f2,f6,f7,f8,f9,f10,X0,z0,z1,z2,z3,z5,_,X _ _ lk,.of_isNs<|isNs_of_in X qn,nsMap_none_of_in X qn qi,tail_of_in X qt⟩
 cases q;cases q
def U9(h base:Heap)(e C:Addr)(fl:Value):Prop:=∃(oe:Obj)(vs:Array Value)(T:Addr)(oT:Obj)(ts:Array Value),h.get? e=some oe/\oe.cls=.ref C/\oe.data=.fields vs/\vs[1]?=some (.ref T)/\vs[2]?=some .none/\base.get? T=none/\T≠e/\h.get? T=some oT/\oT.data=.fields ts/\ts[3]?=some fl
def Xv(base:Heap)(l:List Env)(e C:Addr)(fl:Value)(h:Heap):Prop:=base.StaysIn h/\base.get? e=none/\h.FunFrames base l/\U9 h base e C fl
section
variable {env:Env}{outer:List Env}{Q:Unit->Shared->Prop}
def xS{A:Around}{s:Shared}{e:Addr}(hfr:A.frames=some (env::outer))(hl:s.heap.FunFrames base (env::outer))(hf:env.frame=some L)(he:s.heap.get? e=some oe)(hd:oe.data=.fields vs)(hc:oe.cls=.ref C)(XS:1<vs.size)(h2:vs[2]?=some .none)(hkb:base.StaysIn s.heap)(hen:base.get? e=none)(k:∀h',Xv base (env::outer) e C (rawInt L) h'->s.heap.UpToSlots h'->Q () {s with heap:=h'}):wpAny M A (do let a <-frameOf env;let pl <-entryPlaceOf L had;let b <-EntryCells.newEntry head a .none (rawInt L) .none pl;setField (.ref e) 1 b) Q E s:=by
 have ne:e∉(env::outer).filterMap (·.frame):=λhm=>by let⟨_,o,ho,hn⟩:=hl.mem hm;rw[he]at ho;cases ho;exact hn vs hd
 refine ak (wpAny_frameOf_fun hfr hl hf λg hs=>ak (wpAny_entryPlaceOf λpl Xf=>?_));refine ak<|dG ?_<|Xf.sizeOk5 _ _ _ _ _;have g1:=(hs.2.1 e ne).trans he;have g2:=λob=>Heap.get?_push_of_some ob g1;have Te:=nG<|aR g1;refine we (g2 _) hd XS<|k _ ?_ ?_;have d1:=oj hd (·.setIfInBounds 1 (Value.ref g.objs.size));have old:∀b o,b≠e->g.get? b=some o->∀ob,((g.push ob).update e (Obj.mapFields (·.setIfInBounds 1 (Value.ref g.objs.size)))).get? b=some o:=λb o hb q ob=>by rw[Heap.get?_update_other _ _<|eF hb];exact Heap.get?_push_of_some _ q
 have kb:base.StaysIn g:=λb o q=>(hs.2.1 b λhm=>by rw[(hl.mem hm).1]at q;cases q).trans<|hkb b o q;refine⟨λb o q=>old b o (λz=>by rw[z,hen]at q;cases q) (kb b o q) _,hen,hl.of_keeps λb o q hn=>?_,_,_,g.objs.size,_,_,Heap.get?_update_self _ (g2 _)<|Fa d1,(Obj.cls_mapFields ..).trans hc,d1,by simp[XS],?_,kb.fresh,Te,(Heap.get?_update_other _ _<|eF Te).trans<|Heap.get?_push_size g rfl,rfl,?_⟩;let⟨sl,q2⟩:=hs.2.2 b o q;exact⟨_,old b _ (λz=>by rw[z,he]at q;cases q;exact hn vs hd) q2 _,rfl⟩;rwa[Array.getElem?_setIfInBounds_ne<|by decide];first |(simp;done) |(rcases Xf with rfl |⟨_,_,_,_,_,_,_,rfl⟩<;>simp)
 intro b o q hn;let⟨sl,q2⟩:=hs.2.2 b o q;refine⟨sl,?_⟩;rw[Heap.get?_update_other _ _ λz=>by subst z;rw[he]at q;cases q;exact hn vs hd];exact Heap.get?_push_of_some _ q2
def mM{s:Shared}{l:List Env}(f:Xv base l e C fl s.heap)(k:∀h',Xv base l e C .none h'->s.heap.UpToSlots h'->Q () {s with heap:=h'}):wpAny M A (setFlight (.ref e) none) Q E s:=by
 obtain⟨f1,f2,f3,oe,vs,T,oT,ts,a1,a2,a3,a4,a5,a6,a7,a8,a9,a10⟩:=f;have z3:=(Array.getElem?_eq_some_iff.mp a10).1;have off:∀b,b≠T->(s.heap.update T (Obj.mapFields (·.setIfInBounds 3 (none.elim Value.none λf=>rawInt f)))).get? b=s.heap.get? b:=λb hb=>Heap.get?_update_other _ _<|eF hb;have Yi:∀b o,s.heap.get? b=some o->(∀ws,o.data≠.fields ws)->b≠T:=λb o q hn z=>by rw[z,a8]at q;cases q;exact hn ts a9
 refine ak<|eG a1 a3 a4 ?_;rw[ax<|by simp];refine we a8 a9 z3 (k _ ⟨λb o q=>(off b λz=>by rw[z,a6]at q;cases q).trans<|f1 b o q,f2,f3.of_keeps λb o q hn=>⟨o,(off b<|Yi b o q hn).trans q,rfl⟩,oe,vs,T,_,_,(off e<|eF a7).trans a1,a2,a3,a4,a5,a6,a7,Heap.get?_update_self _ a8<|Fa<|oj a9 _,oj a9 _,by simp[z3]⟩ λb o q hn=>⟨o.slots,(off b<|Yi b o q hn).trans q⟩)
def Hh{A:Around}{s:Shared}{base:Heap}(hfr:A.frames=some (env::outer))(hf:env.frame=some L)(hkb:base.StaysIn h)(hl:h.FunFrames base (env::outer))(m:Heap.MadeExcOf h s.heap e (.ref C) vs)(k:∀h',Xv base (env::outer) e C (rawInt L) h'->s.heap.UpToSlots h'->Q () {s with heap:=h'}):wpAny M A (noteFrame (.ref e) env) Q E s:=by
 obtain⟨t,he,_,_⟩:=m.there;have hen:base.get? e=none:=by cases q:base.get? e with|none=>rfl|some o=>have:=hkb e o q;rw[m.new]at this;cases this
 unfold noteFrame;simp only[hf];refine ak<|eG he rfl (x:=.none) rfl ?_;rw[av<|by decide];exact xS hfr (hl.of_keeps λb o q _=>⟨o,m.keeps b o q,rfl⟩) hf he rfl rfl (by simp) rfl (λb o q=>m.keeps b o<|hkb b o q) hen k
def FO{A:Around}{s:Shared}(hfr:A.frames=some (env::outer))(hf:env.frame=some L)(f:Xv base (env::outer) e C .none s.heap)(k:∀h',Xv base (env::outer) e C (rawInt L) h'->s.heap.UpToSlots h'->Q () {s with heap:=h'}):wpAny M A (noteFrame (.ref e) env) Q E s:=by
 obtain⟨f1,f2,f3,oe,vs,T,oT,ts,a1,a2,a3,a4,a5,a6,a7,a8,a9,a10⟩:=f;have off:∀b,b≠T->(s.heap.update T (Obj.mapFields (·.setIfInBounds 3 Value.none))).get? b=s.heap.get? b:=λb hb=>Heap.get?_update_other _ _<|eF hb;have Yi:∀b o,s.heap.get? b=some o->(∀ws,o.data≠.fields ws)->b≠T:=λb o q hn z=>by rw[z,a8]at q;cases q;exact hn ts a9
 unfold noteFrame;simp only[hf];refine ak<|eG a1 a3 a4 ?_;rw[ax<|by simp];refine ak<|eG a8 a9 a10 ?_;rw[av<|by simp[rawInt]];refine ak<|we a8 a9 (Array.getElem?_eq_some_iff.mp a10).1 ?_;exact xS hfr (f3.of_keeps λb o q hn=>⟨o,(off b<|Yi b o q hn).trans q,rfl⟩) hf ((off e<|eF a7).trans a1) a3 a2 (Array.getElem?_eq_some_iff.mp a4).1 a5 (λb o q=>(off b λz=>by rw[z,a6]at q;cases q).trans<|f1 b o q) f2 λh' fl up=>k h' fl λb o q hn=>up b o ((off b<|Yi b o q hn).trans q) hn
def Xv.pop(f:Xv base (env::outer) e C fl h):Xv base outer e C fl h:=let⟨a,b,⟨_,_,c⟩,d⟩:=f;⟨a,b,c,d⟩
def Xv.first{l:List Env}(f:Xv base l e C fl h):∃oe vs,h.get? e=some oe/\oe.cls=.ref C/\oe.data=.fields vs/\vs[2]?=some .none:=
 let⟨_,_,_,oe,vs,_,_,_,a1,a2,a3,_,a5,_⟩:=f;⟨oe,vs,a1,a2,a3,a5⟩
end
structure Sd(P:Program)(w:World)(l:List Env)(H:Hp)(s:Shared)(H':Hp)(C:Addr)(e:Value)(s':Shared):Prop where
 ex:∃(ea:Addr)(B:Heap),e=.ref ea/\Xv B l ea C .none s'.heap/\Xu P w H' B/\
  (∀b o,s.heap.get? b=some o->H b=none->b∉jC l->B.get? b=some o)/\(∀b o,s.heap.get? b=some o->b∉jC l->∃o',B.get? b=some o')
 os:s'.os=s.os
 bare:AllBare s'.gens
 slot:∀b o,s.heap.get? b=some o->H b=none->b∈jC l->∃sl,s'.heap.get? b=some {o with slots:=sl}
 free:∀b o,s.heap.get? b=some o->H b=none->H' b=none
 Wt:∀b xs,H b=some (.tup xs)->H' b=some (.tup xs)
 Wm:∀b o u,H b=some (.W5 o u)->H' b=some (.W5 o u)
 Wy:∀b ps,H b=some (.Zd ps)->∃more,H' b=some (.Zd<|ps++more)
def u9(I:Inv X on Y H s)(hx:X.ex=[])(XY:X.stack=X.env::X.outer)(hf:X.env.frame=some X.env.locals)(f:Sd X.prog X.w X.stack H s H' C e s'):wpAny M X.A (leaving X.env e) (λ_ XG=>Sd X.prog X.w X.outer X.H₀ X.s₀ H' C e XG) E s':=by
 obtain⟨⟨ea,B,rfl,fl,VG,keep,there⟩,os,bare,slot,free,Wt,Wm,Wy⟩:=f;rw[XY]at fl;have WK:∀b,b∉X.ex:=λb z=>by rw[hx]at z;cases z
 have neL:∀b o,X.s₀.heap.get? b=some o->b≠X.env.locals:=λb o q=>bH<|ba (aR q) I.ok.above;have nst:∀b o,X.s₀.heap.get? b=some o->b∉X.fs->b∉jC X.stack:=λb o q hb z=>by rcases bc.mp (I.XE b z)with y |y;exact neL b o q y;exact hb y
 have ist:∀b,b∈X.fs->b∈jC X.stack:=λb hb=>by rw[XY];unfold jC;rw[fX,hf];exact aV _ hb
 refine ak (FO (by rw[I.ok.frames,XY]) hf fl λh1 fl1 up1=>mM fl1 λh' fl2 up2=>?_);have up:=up1.trans up2;refine⟨⟨ea,B,rfl,fl2.pop,VG,λb o q n hb=>?_,λb o q hb=>?_⟩,os.trans I.os,bare,λb o q n hb=>?_,λb o q n=>?_,λb xs q=>Wt b xs<|I.base.Wt b xs q,λb o u q=>Wm b o u<|I.base.Wm b o u q,λb ps q=>?_⟩;exact keep b o (I.base.keep b o q n hb<|WK b) (I.base.free b o q n<|WK b)<|nst b o q hb;let⟨o',e1⟩:=I.base.there b o q<|WK b;exact there b o' e1<|nst b o q hb;let⟨sl,e1⟩:=I.base.slot b o q n hb<|WK b;let⟨sl',e2⟩:=slot b _ e1 (I.base.free b o q n<|WK b)<|ist b hb;let⟨_,o2,Yd,hd2⟩:=I.ok.Xg.mem hb;have:o=o2:=by rw[q]at Yd;exact bN Yd
 subst this;let⟨zA4,e3⟩:=up b _ e2 hd2;exact⟨zA4,e3⟩;let⟨o',e1⟩:=I.base.there b o q<|WK b;exact free b o' e1<|I.base.free b o q n<|WK b;let⟨m1,e1⟩:=I.base.Wy b ps q;let⟨m2,e2⟩:=Wy b _ e1;exact⟨m1++m2,by rw[e2,Array.append_assoc]⟩
def sI{s':Shared}(I:Inv X on Y H s)(hx:X.ex=[])(XY:X.stack=X.env::X.outer)(hf:X.env.frame=some X.env.locals)(m:Heap.MadeExcOf s.heap s'.heap ea (.ref C) vs)(os:s'.os=s.os)(gens:s'.gens=s.gens):wpAny M X.A (leaving X.env<|.ref ea) (λ_ XG=>Sd X.prog X.w X.outer X.H₀ X.s₀ H C (.ref ea) XG) E s':=by
 have WK:∀b,b∉X.ex:=λb z=>by rw[hx]at z;cases z
 have neL:∀b o,X.s₀.heap.get? b=some o->b≠X.env.locals:=λb o q=>bH<|ba (aR q) I.ok.above;have nst:∀b o,X.s₀.heap.get? b=some o->b∉X.fs->b∉jC X.stack:=λb o q hb z=>by rcases bc.mp (I.XE b z)with y |y;exact neL b o q y;exact hb y
 have ist:∀b,b∈X.fs->b∈jC X.stack:=λb hb=>by rw[XY];unfold jC;rw[fX,hf];exact aV _ hb
 have fr:=funFrames_hide I.stack λenv he b hb=>List.mem_filterMap.mpr ⟨env,he,hb⟩;have VG:Xu X.prog X.w H (hideAll s.heap<|jC X.stack):=λa o q=>(I.VG a o q).XU (λb u hb z=>rJ _ z λhm=>by have n:=I.XB b hm;rcases hb with y |y;rw[y,q]at n;cases n;rw[y]at n;cases n) (λ_ z=>z) λ_ _ z=>z
 refine ak (Hh (by rw[I.ok.frames,XY]) hf (λb o q=>of_hideAll _ q) (by rwa[<-XY]) m λh1 fl1 up1=>mM fl1 λh' fl2 up2=>?_);have up:=up1.trans up2;refine⟨⟨ea,_,rfl,fl2.pop,VG,λb o q n hb=>?_,λb o q hb=>?_⟩,os.trans I.os,by rw[gens];exact I.bare,λb o q n hb=>?_,λb o q n=>I.base.free b o q n<|WK b,I.base.Wt,I.base.Wm,I.base.Wy⟩;exact rJ _ (I.base.keep b o q n hb<|WK b)<|nst b o q hb;let⟨o',e1⟩:=I.base.there b o q<|WK b;exact⟨o',rJ _ e1<|nst b o q hb⟩;let⟨sl,e1⟩:=I.base.slot b o q n hb<|WK b;let⟨_,o2,Yd,hd2⟩:=I.ok.Xg.mem hb;have:o=o2:=by rw[q]at Yd;exact bN Yd
 subst this;let⟨zA4,e3⟩:=up b _ (m.keeps _ _ e1) hd2;exact⟨zA4,e3⟩
inductive Cf(X:Cx)(m:Bool)(H:Hp)(s:Shared)(H':Hp)(C:Addr)(e:Value)(s':Shared):Prop where
 |fly:Sd X.prog X.w X.stack H s H' C e s'->Cf X m H s H' C e s'
 |made {ea:Addr} {vs:jh}:m=true->H'=H->e=.ref ea->Heap.MadeExcOf s.heap s'.heap ea (.ref C) vs->s'.os=s.os->s'.gens=s.gens->Cf X m H s H' C e s'
def XP(X:Cx)(m:Bool)(on:gC)(B:B0)(F:Hp)(W1:cE)(C:Addr)(e:Value)(s':Shared):Prop:=∃(WF:St)(H1:Hp)(s1:Shared)(F' H':Hp),Inv X on WF H1 s1/\Ok X.K B F' H' WF W1/\Vu F F'/\Cf X m H1 s1 H' C e s'
def XP.later(h:XP X m on B F1 W1 C e s')(sf:Vu F F1):XP X m on B F W1 C e s':=by let⟨WF,H1,s1,F',H',a,b,c,d⟩:=h;exact⟨WF,H1,s1,F',H',a,b,sf.trans c,d⟩
def XvE(X:Cx)(m:Bool)(U:cE)(e:Expr)(C:Addr)(W1:cE):Prop:=∀(B:B0)(F H:Hp)(Y:St),Ok X.K B F H Y U->∀(on:gC)(s:Shared),Inv X on Y H s->fg X (eval e X.env) (λ_ _=>False) (XP X m on B F W1 C) s
def X1(X:Cx)(m:Bool)(U:cE)(st:Stmt)(C:Addr)(W1:cE):Prop:=∀(B:B0)(F H:Hp)(Y:St),Ok X.K B F H Y U->∀(on:gC)(s:Shared),Inv X on Y H s->fg X (exec st X.env) (λ_ _=>False) (XP X m on B F W1 C) s
def E1(X:Cx)(m:Bool)(U:cE)(st:List Stmt)(C:Addr)(W1:cE):Prop:=∀(B:B0)(F H:Hp)(Y:St),Ok X.K B F H Y U->∀(on:gC)(s:Shared),Inv X on Y H s->fg X (execs st X.env) (λ_ _=>False) (XP X m on B F W1 C) s
section
variable {ds:aM}{st:Stmt}{bP:List Stmt}
def At.no(t:At X N sc){P:Prop}(h:X.xe v s):P:=by rw[t.XH]at h;exact h.elim
def Vp.go{Q:qW}(t:At X N sc)(h:Vp X U e d)(k:Ok X.K B F H Y U)(I:Inv X on Y H s)(q:∀v u F' H' s',Ext ⟨F,H⟩ F' H'->Rep X.K F' v d->RelV v u->Inv X on Y H' s'->Q u s'):fg X (eval e X.env) Q E s:=aH (h B F H Y (λv H'=>∃F',Ext ⟨F,H⟩ F' H'/\Rep X.K F' v d) k (λv F' H' x r=>⟨F',x,r⟩) on s I) (λu s' ⟨v,H',I',r,F',x,rv⟩=>q v u F' H' s' x rv r I') λ_ _ z=>t.no z
def Vr.go(t:At X N sc)(h:Vr X U e k0)(k:Ok X.K B F H Y U)(I:Inv X on Y H s){Q:Bool->Shared->Prop}(q:∀F' H' s',Ext ⟨F,H⟩ F' H'->Inv X on Y H' s'->Q k0 s'):fg X (isTrue e X.env<|eval e X.env) Q E s:=aH (h B F H Y (λb H'=>b=k0/\∃F',Ext ⟨F,H⟩ F' H') k (λF' H' x=>⟨rfl,F',x⟩) on s I) (λu s' ⟨H',I',e,F',x⟩=>by subst e;exact q F' H' s' x I') λ_ _ z=>t.no z
def VN.go(t:At X N sc)(h:VN X U st (.nx Wp))(k:Ok X.K B F H Y U)(I:Inv X on Y H s){Q:Flow->Shared->Prop}(q:∀F' H' xy s',Ok X.K B F' H' xy Wp->Vu F F'->Inv X on xy H' s'->Q .next s'):fg X (exec st X.env) Q E s:=by
 refine aH (h B F H Y {nx:=λxy H'=>∃F',Ok X.K B F' H' xy Wp/\Vu F F',rt:=λ_ _=>False} k (λF' H' xy k' sf=>⟨F',k',sf⟩) on s I) (λf s' z=>?_) λ_ _ z=>t.no z;cases f with
 |next=>let⟨xy,H',I',F',k',sf⟩:=z;exact q F' H' xy s' k' sf I'|brk=>let⟨_,_,_,z⟩:=z;exact z.elim
 |cont=>let⟨_,_,_,z⟩:=z;exact z.elim|ret u=>let⟨_,_,_,_,_,z⟩:=z;exact z.elim
def mo(h:X1 X m U st C W1):E1 X m U (st::bP) C W1:=λB F H Y k on s I=>fQ (aH (h B F H Y k on s I) (λ_ _ z=>z.elim) λ_ _ z=>z)
def K8(t:At X N sc)(h1:VN X U st (.nx Wp))(h:E1 X m Wp bP C W1):E1 X m U (st::bP) C W1:=λB F H Y k on s I=>fQ (h1.go t k I λF' H' xy s' k' sf I'=>aH (h B F' H' xy k' on s' I') (λ_ _ z=>z) λ_ _ z=>z.later sf)
def Am(t:At X N sc)(hc:Vr X U c true)(h:E1 X m U ss C W1):X1 X m U (.If c ss us pos) C W1:=λB F H Y k on s I=>wpAny_If (hc.go t k I λF' H' s' x I'=>aH (h B F' H' Y (k.ext x) on s' I') (λ_ _ z=>z) λ_ _ z=>z.later x.sf)
def Ii(h:XvE X m U e C W1)(hs:swapsWith e (some<|.Name x pos') pos.line X.env=pure false:=by rfl):X1 X m U (.Assign [.Name x pos'] e pos) C W1:=λB F H Y k on s I=>P5 (aH (h B F H Y k on s I) (λ_ _ z=>z.elim) λ_ _ z=>z) hs
def DR(h:XvE X m U e C W1)(hs:swapsWith e none pos.line X.env=pure false:=by rfl):X1 X m U (.Expr e pos) C W1:=λB F H Y k on s I=>Vd (aH (h B F H Y k on s I) (λ_ _ z=>z.elim) λ_ _ z=>z) I.quiet hs
def E8(P:Program)(w:World):P3:=λouter H s E e s'=>∃(C:Addr)(H':Hp),E (.ref C) none H'/\Sd P w outer H s H' C e s'
def Fs(K:eZ)(C:Addr)(R:aM->Prop):Sp:=λvs H _ E=>∃F ds,Vu F H/\Vs K F vs ds/\R ds/\∀F' H',Ext ⟨F,H⟩ F' H'->E (.ref C) none H'
def j9(X:Cx)(x:Str)(C:Addr)(R:aM->Prop):Prop:=∃(f:Addr)(fd:FuncData)(ps:cn)(k:Nat),dZ X.prog X.w X.K X.mg X.base (E8 X.prog X.w) k f fd ps (Fs X.K C R)/\VS k X.A/\X.mg x=some (.ref f)/\keepIn X.K (.ref f)=true/\Binds X.K fd ps []
def sx(t:At X N sc){R:aM->Prop}(h:j9 X x C R)(ha:VL X U (e::es) ds)(hR:R ds)(hg:sw sc x:=by rfl)(Wb:pE x:=by rfl):XvE X m U (.Call (.Name x p) (e::es) [] pos) C U:=by
 obtain⟨f,fd,ps,k,Fn,hr,hm,hk,hb⟩:=h;refineλB F H Y k0 on s I=>gT<|mK I (dI t hg) hm ?_ Wb;refine ma I.ok.mod.kin hk (aH (ha.2 B F H Y (λvs H1=>∃F1,Ext ⟨F,H⟩ F1 H1/\Vs X.K F1 vs ds) k0 (λvs F1 H1 x1 r1=>⟨F1,x1,r1⟩) pos on s I) (λus s1 z=>?_) λ_ _ z=>t.no z) (ha.1.1 _ _)<|Yf.any ha.1.2;obtain⟨vs,H1,I1,r,F1,x1,r1⟩:=z;refine⟨I1.WO,?_⟩;have Yl:Fs X.K C R vs H1 (λ_ _=>False) (λc _ H2=>c=.ref C/\∃F2,Ext ⟨F1,H1⟩ F2 H2):=⟨F1,ds,x1.sub,r1,hR,λF2 H2 x2=>⟨rfl,F2,x2⟩⟩;have hl:us.length=ps.length:=by rw[<-r.length];exact Fn.len _ _ _ _ Yl
 refine M2 (pQ (Fn.run X.A X.stack s1 H1 ⟨us,[]⟩ us vs _ _ hr I1.ZF (by have:=hb s1 us I1.WO (by rwa[aX]);rw[aX]at this;exact this) r Yl) λr' s' hq=>?_);cases r' with
 |error e'=>obtain⟨C',H2,⟨hC,F2,x2⟩,fl⟩:=hq;cases hC;exact⟨Y,H1,s1,F2,H2,I1,k0.ext<|x1.t x2,(x1.t x2).sf,.fly fl⟩
 |ok fl=>
  cases fl with
  |ret u=>let⟨_,_,_,_,_,_,_,z⟩:=(hq);exact z|next=>exact False.elim hq
  |brk=>exact False.elim hq|cont=>exact False.elim hq
def DefX.zAG{x:Str}{R:aM->Prop}(h:DefX P w K mg base k N sc X)(F:dZ P w K mg base (E8 P w) j f fd ps (Fs K C R))(hj:j<=k)(hm:mg x=some (.ref f))(hk:keepIn K (.ref f)=true)(hb:Binds K fd ps []):j9 X x C R:=by obtain⟨h0,rfl,rfl,rfl,rfl,rfl,hr,_⟩:=h;exact⟨f,fd,ps,j,F,hr.mono hj,hm,hk,hb⟩
def jV(t:At X N sc)(O:OwnCls x C vB vN X.mg X.base)(h:Vp X U msg ms)(hg:sw sc x:=by rfl)(Wb:pE x:=by rfl)(hs:Pl msg:=by intro _ _;rfl):X1 X true U (.Raise (some<|.Call (.Name x np) [msg] [] Vx) none pos) C U:=by intro B F H Y k on s I;obtain⟨tl,Nn,nm,q,bs,hdct,sn,sub,ab,col,dd,k0,k1,k2,k3,k5,mN,hC,hN,hni,T⟩:=O.obj;refine wpAny_Raise_call_subT (nm:=nm) (q:=q) (N:=Nn) (bs:=bs) (hdct:=hdct) (sn:=sn) (sub:=sub) (ab:=ab) (col:=col) (dd:=dd) (k0:=k0) (k1:=k1) (k2:=k2) (k3:=k3) (k5:=k5) PySem.F.excBase_ValueError (T.hasType PySem.F.excBase_ValueError.hasBase) (I.ok.hd t.calm) (by rw[hs [] X.env];rfl) hni<|mK I (dI t hg) O.bound ⟨rfl,?_⟩ Wb;rw[hs [] X.env];refine HW<|om (h.go t k I λv u F' H' s' x' r ru I'=>Calls.spliced_nil ?_);refine⟨rfl,by show 1<=sizeLine;decide,I'.bk _ _ hC,hN.keeps I'.bk,T.keeps I'.bk,λh' e' mm=>?_⟩;exact⟨Y,H',s',F',H',I',k.ext x',x'.sf,.made rfl rfl rfl mm rfl rfl⟩
end
def VT.zAK(x:VT P w H h a o):∃ob,h.get? a=some ob:=by
 cases o with
 |lst xs=>let⟨_,_,_,_,e⟩:=x;exact⟨_,e⟩|tup xs=>let⟨_,_,_,ob,e,_⟩:=x;exact⟨_,e⟩
 |dK kvs=>let⟨_,_,_,_,ob,_,_,e,_⟩:=x;exact⟨_,e⟩|dT kvs=>let⟨_,_,_,_,ob,_,_,e,_⟩:=x;exact⟨_,e⟩
 |set S n=>let⟨ob,_,_,_,e,_⟩:=x;exact⟨_,e⟩|ins C dx fs=>let⟨_,_,_,e,_⟩:=x;exact⟨_,e⟩
 |own y=>exact x|xd fs=>let⟨_,⟨ob,_,_,e,_⟩,_⟩:=x;exact⟨_,e⟩
 |rng lo hi=>let⟨_,_,_,e⟩:=x;exact⟨_,e⟩|W5 ob u=>let⟨e,_⟩:=x;exact⟨_,e⟩
 |Zd ps=>exact⟨_,(x)⟩|met f y=>exact⟨_,(x)⟩
 |ext φ=>let⟨_,e,_⟩:=x;exact e
abbrev Cx.WT(X:Cx)(ea:Addr):Cx:={X with A:=X.A.mark<|some<|.ref ea,calm:=false}
def Inv.WT(I:Inv X on Y H s)(ea:Addr):Inv (Cx.WT X ea) on Y H s:=⟨⟨I.ok.mod,I.ok.kind,I.ok.glob,I.ok.blt,I.ok.above,I.ok.inj,I.ok.has,I.ok.cab,(λz=>nomatch z),I.ok.frames,I.ok.Xr,I.ok.exf,I.ok.bs,I.ok.ZW,I.ok.WK,I.ok.Y0,I.ok.Xg,I.ok.frf⟩,I.os,I.bare,I.base,I.loc,I.cell,I.free,I.Ws,I.pin,I.VG,I.len⟩
def Inv.Y2(ok:X.Ok)(I:Inv (Cx.WT X ea) on Y H s):Inv X on Y H s:=⟨ok,I.os,I.bare,I.base,I.loc,I.cell,I.free,I.Ws,I.pin,I.VG,I.len⟩
def At.WT(t:At X N sc)(ea:Addr):YM (Cx.WT X ea) N sc:=⟨t.eN,t.eS,t.nd,t.XH,t.un,t.dp,t.tree,t.fr⟩
def Gg{s':Shared}(I:Inv X on Y H s)(os:s'.os=s.os)(bare:AllBare s'.gens)(VG:Xu X.prog X.w H' B)(keep:∀b o,s.heap.get? b=some o->H b=none->b∉jC X.stack->B.get? b=some o)(there:∀b o,s.heap.get? b=some o->b∉jC X.stack->∃o',B.get? b=some o')(slot:∀b o,s.heap.get? b=some o->H b=none->b∈jC X.stack->∃sl,s'.heap.get? b=some {o with slots:=sl})(free:∀b o,s.heap.get? b=some o->H b=none->H' b=none)(Wt:∀b xs,H b=some (.tup xs)->H' b=some (.tup xs))(Wm:∀b o u,H b=some (.W5 o u)->H' b=some (.W5 o u))(Wy:∀b ps,H b=some (.Zd ps)->∃more,H' b=some (.Zd<|ps++more))(fl:Xv B X.stack ea C .none h5)(up:s'.heap.UpToSlots h5):∃oe:Obj,Inv X on Y (dH H' ea<|.W5 oe<|.ext<|qo ea C) {s' with heap:=h5}/\H' ea=none/\h5.get? ea=some oe/\oe.cls=.ref C:=by
 obtain⟨oe,vs,hoe,hoc,hod,Yd⟩:=fl.first;have nea:∀a o,H' a=some o->a≠ea:=λa o q z=>by obtain⟨ob,e⟩:=VT.zAK<|VG a o q;rw[z,fl.2.1]at e;cases e
 have hn:H' ea=none:=by cases q:H' ea with|none=>rfl|some u=>exact absurd rfl<|nea ea u q
 have fne:∀b,b∈jC X.stack->b≠ea:=λb hb z=>by obtain⟨_,o,ho,hd⟩:=fl.2.2.1.mem hb;rw[z,hoe]at ho;cases ho;exact hd vs hod
 have bne:∀b o,s.heap.get? b=some o->b≠ea:=λb o q=>by by_cases hb:b∈jC X.stack;exact fne b hb;intro z;obtain⟨o',e⟩:=there b o q hb;rw[z,fl.2.1]at e;cases e
 refine⟨oe,I.zAZ (ch:=[]) os ⟨λb o q n hb _=>fl.1 b o<|keep b o q n hb,λb o q n hb _=>?_,λb o q n _=>by rw[aK<|bne b o q];exact free b o q n,λb o q _=>?_,λb xs q=>by rw[aK<|nea b _<|Wt b xs q];exact Wt b xs q,λb o u q=>by rw[aK<|nea b _<|Wm b o u q];exact Wm b o u q,λb ps q=>?_⟩ (λa u q=>?_) bare λb z=>absurd z<|by simp,hn,hoe,hoc⟩;obtain⟨sl,e1⟩:=slot b o q n hb;obtain⟨_,o2,Yd,hd2⟩:=I.stack.mem hb;have e2:o=o2:=by rw[q]at Yd;exact bN Yd
 subst e2;obtain⟨Wh,e3⟩:=up b _ e1 hd2;exact⟨Wh,e3⟩;by_cases hb:b∈jC X.stack;obtain⟨sl,e1⟩:=slot b o q (I.XB b hb) hb;obtain⟨_,o2,Yd,hd2⟩:=I.stack.mem hb;have e2:o=o2:=by rw[q]at Yd;exact bN Yd
 subst e2;obtain⟨Wh,e3⟩:=up b _ e1 hd2;exact⟨_,e3⟩;obtain⟨o',e⟩:=there b o q hb;exact⟨o',fl.1 b o' e⟩;obtain⟨m1,e1⟩:=Wy b ps q;exact⟨m1,by rwa[aK<|nea b _ e1]⟩;by_cases ha:a=ea;subst ha;rw[aI]at q;cases q;exact⟨hoe,⟨oe,vs,hoe,hoc,hod,Yd⟩,⟨oe,hoe⟩,λh1 h2 ⟨ob,ws,e1,e2,e3,e4⟩ k=>⟨ob,ws,k _ e1,e2,e3,e4⟩⟩;rw[aK ha]at q;exact(VG a u q).XU (λb v _ z=>fl.1 b v z) (λb z=>by rwa[aK<|nea b _ z]) λb xs z=>by rwa[aK<|nea b _ z]
def Ej{s:Shared}{ea:Addr}{Q:Bool->Shared->Prop}(X:K.In s.heap)(O:OwnCls y Dc vB vN mg s.heap)(he:s.heap.get? ea=some oe)(hc:oe.cls=.ref C)(hm:mroIn K C (.ref Dc)=some b)(q:Q b s):wpAny M A (excMatches (.ref ea)<|.ref Dc) Q E s:=by
 obtain⟨tl,Nn,nm,qn,bs,hdct,sn,sub,ab,col,dd,k0,k1,k2,k3,k5,mN,hC,hN,hni,T⟩:=O.obj;have hcB:(Value.ref Dc::tl).contains (.type "BaseException")=true:=by rw[List.contains_cons,T.hasType (X:="BaseException") (b:=true) rfl,Bool.or_true]
 have f:=tc_notTuple;obtain⟨hh,gg,d,tt,os⟩:=s;repeat (first |(with_reducible refine iC he ?_;rw[hc]) |with_reducible refine iC hC ?_ |(with_reducible refine wpAny_isSubtype_exc hC ?_;rw[hcB]) |(with_reducible refine(DF (M:=M) X hm).at ?_) |wp_step)
 cases b<;>(repeat wp_step)<;>exact q
def Aq{i:Nat}{Q:Unit->Shared->Prop}(I:Inv X on Y H s)(hN:X.N.Nodup)(hi:X.N[i]?=some n)(hk:X.env.kindOf n=some .local)(h:∀s',Inv X on (Y.set i none) H s'->Q () s'):wpAny M A (do bindName X.env n .none;unbindBehindTheSuite X.env n pos) Q E s:=by
 let⟨m,hn,hl⟩:=id I.loc;have zBR:(X.env.scope.kind==.class||(X.env.scope.kind==.module&&X.env.locals !=X.env.globals))=false:=by rw[I.ok.kind];rfl
 refine wpAny_nameGoes_keeps hk hn zBR λh' v Wi hs=>h _ ?_;have low:∀b o,X.s₀.heap.get? b=some o->h'.get? b=s.heap.get? b:=λb o e=>hs.2 b<|bH<|ba (aR e) I.ok.above;refine⟨I.ok,I.os,I.bare,⟨λb o e nn hb hx=>(low b o e).trans<|I.base.keep b o e nn hb hx,λb o e nn hb hx=>?_,I.base.free,λb o e hx=>?_,I.base.Wt,I.base.Wm,I.base.Wy⟩,⟨_,Wi,λj y v' e1 e2 e3=>?_⟩,λy c e=>?_,I.free,I.Ws,λp hp=>?_,λb ob e=>?_,by rw[cy];exact I.len⟩;let⟨sl,e1⟩:=I.base.slot b o e nn hb hx;exact⟨sl,(low b o e).trans e1⟩;let⟨o',e1⟩:=I.base.there b o e hx;exact⟨o',(low b o e).trans e1⟩;have hj:i≠j:=λz=>by
  subst z;rw[List.getElem?_set_self']at e2;cases q:Y[i]? with
  |none=>rw[q]at e2;cases e2
  |some w=>rw[q]at e2;cases e2
 rw[List.getElem?_set_ne hj]at e2;let⟨u',r',q⟩:=hl j y v' e1 e2 e3;refine⟨u',r',?_⟩;rcases q with⟨k,e⟩ |⟨k,c,e,z⟩;refine .inl ⟨k,?_⟩;have:y≠n:=λe=>hj<|xm hN (e▸hi) e1;simp[this,e];exact .inr ⟨k,c,e,z.sameBut hs<|I.cne y c e⟩;let⟨w',z⟩:=I.cell y c e;exact⟨w',z.sameBut hs<|I.cne y c e⟩;let⟨e,nn,ne,nf,d⟩:=I.pin p hp;exact⟨(hs.2 p.1 ne).trans e,nn,ne,nf,d⟩;refine(I.VG b ob e).XU (λc w' hc q=>(hs.2 c ?_).trans q) (λ_ q=>q) λ_ _ q=>q;rintro rfl;rcases hc with z |z;rw[<-z,I.free]at e;cases e;rw[I.free]at z;cases z
section
variable {hs:List ExceptHandler}{h₀:ExceptHandler}
def QW(t:At X N sc)(h:Vt X U body o):VN X U (.Try body (h₀::hs) [] [] pos) o:=λB F H Y E k q=>.mk λon s I=>by
 refine wpAny_Try_except (aH (h B F H Y E k q on s I) (λf s1 z=>?_) λ_ _ z=>t.no z);cases f with
 |next=>exact uH z|brk=>exact z
 |cont=>exact z|ret u=>exact z
def SP.Y2{f:Flow}(ok:X.Ok)(z:SP (Cx.WT X ea) on E f s):SP X on E f s:=by
 cases f with
 |next=>let⟨xy,H',I,q⟩:=z;exact⟨xy,H',Inv.Y2 ok I,q⟩|brk=>let⟨xy,H',I,q⟩:=z;exact⟨xy,H',Inv.Y2 ok I,q⟩
 |cont=>let⟨xy,H',I,q⟩:=z;exact⟨xy,H',Inv.Y2 ok I,q⟩|ret u=>let⟨v,xy,H',I,r,q⟩:=z;exact⟨v,xy,H',Inv.Y2 ok I,r,q⟩
def Out.drop(i:Nat):Out->Out|.nx U=>.nx (U.set i .un)|.rt d=>.rt d
def Lr{o:Addr->Out}(t:At X N sc)(XY:X.stack=X.env::X.outer/\X.env.frame=some X.env.locals)(i:Nat)(hb:E1 X false U body C Wp)(OD:OwnCls y Dc vB vN X.mg X.base)(hm:mroIn X.K C (.ref Dc)=some true)(h:∀ea,Vt (Cx.WT X ea) (Wp.set i<|.val<|.Yp C ea) (b₀::zCU)<|o ea)(hi:N[i]?=some n:=by rfl)(hl:sc.names.lookup n=some .local:=by rfl)(hg:sw sc y:=by rfl)(Wb:pE y:=by rfl)(ho:∀ea(B:B0)(F:Hp)(E:mn),W8 X.K B F E o'->W8 X.K B F E ((o ea).drop i)):VN X U (.Try body (.ExceptHandler (some<|.Name y np) (some n) (b₀::zCU) hp::hs) [] [] pos) o':=λB F H Y E k q=>.mk λon s I=>by
 refine wpAny_Try_except (aH (hb B F H Y k on s I) (λ_ _ z=>z.elim) λe s' z=>?_);obtain⟨WF,H1,s1,F1,H2,I1,k1,sf,th⟩:=z;cases th with
 |made z=>cases z
 |fly f=>
  obtain⟨⟨ea,Bh,rfl,fl,VG,keep,there⟩,os,bare,slot,free,Wt,Wm,Wy⟩:=f;have fl':=fl;rw[XY.1]at fl';refine FO (by rw[I.ok.frames,XY.1]) XY.2 fl' λh4 zDU up4=>?_;refine mM zDU λh5 fl5 zCO=>?_;have zD7:=fl5;rw[<-XY.1]at zD7;obtain⟨oe,I5,hn,he,hc⟩:=Gg I1 os bare VG keep there slot free Wt Wm Wy zD7<|up4.trans zCO;refine wpAny_handleBy_cons (codeAny_handlers_test<|mK (Inv.WT I5 ea) (dI (X:=X) t hg) OD.bound ?_ Wb) (by intro z;cases z);refine Ej I5.WO (OD.keeps I5.bk) he hc hm<|codeAny_handlers_suite_as ?_;refine mM fl5 λh6 fl6 zFS=>?_;have zD6:=fl6;rw[<-XY.1]at zD6;obtain⟨o6,I6,_⟩:=Gg I1 os bare VG keep there slot free Wt Wm Wy zD6<|(up4.trans zCO).trans zFS;have hkl:X.env.kindOf n=some .local:=by show X.env.scope.names.lookup n=_;rwa[t.eS]
  have Zf:=hkl;refine nP (X:=Cx.WT X ea) (v:=.ref ea) (Inv.WT I6 ea) t.nd (t.ix hi) (.inl Zf) rfl (λs7 I7=>?_)<|.inr Zf;have k7:Ok X.K B (dH F1 ea<|.W5 o6<|.ext<|qo ea C) (dH H2 ea<|.W5 o6<|.ext<|qo ea C) (WF.set i<|some<|.ref ea) (Wp.set i<|.val<|.Yp C ea):=(k1.grow hn).VP i<|.Yp aI;have q2:W8 X.K B (dH F1 ea<|.W5 o6<|.ext<|qo ea C) {nx:=λxy H'=>E.nx (xy.set i none) H',rt:=E.rt} (o ea):=by
   have q1:W8 X.K B (dH F1 ea<|.W5 o6<|.ext<|qo ea C) E ((o ea).drop i):=W8.later (ho ea B F E q)<|sf.trans<|aP<|k1.sub.free hn;revert q1;cases o ea with
   |nx WP=>
    intro q1;refineλF' H' xy k' s'=>q1 F' H' (xy.set i none) ⟨k'.toExt,by rw[cy,cy,k'.len],λj d e=>?_,λj xs e=>?_,λj l xs ys a e1 e2 e3 e4=>?_,k'.WI.to (.refl _) (λ_ _ e1 e2 _=>⟨e1,e2⟩) (wm λ_ z=>nomatch z)⟩ s';have ne:i≠j:=λz=>by
     subst z;rw[List.getElem?_set_self']at e;cases w:WP[i]? with
     |none=>rw[w]at e;cases e
     |some _=>rw[w]at e;cases e
    rw[List.getElem?_set_ne ne]at e ⊢;exact k'.vals j d e;have ne:i≠j:=λz=>by
     subst z;rw[List.getElem?_set_self']at e;cases w:WP[i]? with
     |none=>rw[w]at e;cases e
     |some _=>rw[w]at e;cases e
    rw[List.getElem?_set_ne ne]at e ⊢;exact k'.We j xs e;have ne:∀{j:Nat}{xs:aM},(WP.set i Sl.un)[j]?=some (.own xs)->i≠j:=λ{j xs}e z=>by
     subst z;rw[List.getElem?_set_self']at e;cases w:WP[i]? with
     |none=>rw[w]at e;cases e
     |some _=>rw[w]at e;cases e
    have n1:=ne e1;have n2:=ne e2;rw[List.getElem?_set_ne n1]at e1 e3;rw[List.getElem?_set_ne n2]at e2 e4;exact k'.dist j l xs ys a e1 e2 e3 e4
   |rt d=>exactλq1=>q1
  refine aH (h ea B _ _ _ _ k7 q2 on s7 I7) (λf s8 z=>?_) λ_ _ z=>t.no z;have z':=SP.Y2 I.ok z;cases f with
  |next=>obtain⟨xy,H',I8,w⟩:=z';exact Aq I8 t.nd (t.ix hi) hkl λs9 I9=>⟨_,H',I9,w⟩
  |brk=>obtain⟨xy,H',I8,w⟩:=z';exact w.elim
  |cont=>obtain⟨xy,H',I8,w⟩:=z';exact w.elim
  |ret u=>obtain⟨v,xy,H',I8,r,w⟩:=z';exact Aq I8 t.nd (t.ix hi) hkl λs9 I9=>⟨v,_,H',I9,r,w⟩
end
def Vp.soft(h:Vp X U e (.Yp C ea)):Vp X U e (.exc C):=λB F H Y Q k q=>h B F H Y Q k λv F' H' x r=>by cases r with|Yp hf=>exact q _ F' H' x<|.exc hf
def NU{U:cE}(t:YM X N sc)(i:Nat)(hr:U[i]?=some (.val d))(hN:N[i]?=some x:=by rfl)(hv:fS sc x=true:=by rfl)(hx:cU x=true:=by rfl):Vp X U (.Name x pos) d:=by have YQ:=hx;unfold cU at YQ;rw[dS,nK,nK]at YQ;refine .of (Jp (by rwa[t.eN]) (by rw[t.eS];exact Ip hv) YQ.1 YQ.2) λB F H Y Q k q=>?_;let⟨v,h1,h2⟩:=k.vals i d hr;exact⟨v,h1,q v F H (.refl k.sub) h2⟩
def Qq(t:YM X N sc)(hf:∀x,X.fn x=true)(i:Nat)(h:Vp X U e d)(hi:N[i]?=some x:=by rfl)(hx:ml sc x=true:=by rfl)(hs:swapsWith e (some<|.Name x pos') pos.line X.env=pure false:=by rfl):VN X U (.Assign [.Name x pos'] e pos) (.nx<|U.set i<|.val d):=.of (oI t.nd (by rwa[t.eN]) (by rw[t.eS];exact JI hx) aU hs<|.inl<|hf x) λB F H Y E k q=>h B F H Y _ k λv F' H' x' r=>q F' H' _ ((k.ext x').VP i r) x'.sf
def Rz{it l:Addr}(Xo:l≠it):∀(n i:Nat)(s:Shared)(Q:jh->Shared->Prop),s.heap.IsListIter it l i->s.heap.IsList l xs->i+n<=xs.size->(∀h',h'.IsListIter it l (i+n)->Heap.SameBut it s.heap h'->Q ((xs.toList.drop i).take n) {s with heap:=h'})->wpAny (model prog w) A (draw (.ref it) n) Q E s:=by
 intro n;induction n with
 |zero=>intro i s Q hit _ _ hQ;have z:=hQ s.heap hit<|Heap.SameBut.refl ..;rw[P8]at z;exact aD z
 |succ n ih=>
  intro i s Q hit hl hle hQ;have V1:=ba (Nat.lt_succ_of_le<|Nat.le_add_right i n) hle;refine ak (wpAny_pyNext_list_item hit hl (Array.getElem?_eq_getElem V1) λh1 zBP X9=>ak<|dv (ih (i+1) _ _ zBP (hl.extBut X9.extBut Xo) (by lia) λh2 zOJ Ze=>aD ?_));have e1:xs.toList.drop i=xs[i]::xs.toList.drop (i+1):=by rw[cY<|by simpa using V1];simp
  have z:=hQ h2 (by
            have e2:i+(n+1)=i+1+n:=by lia
            rwa[e2]) (X9.trans Ze)
  rwa[e1,List.take_succ_cons]at z
def uE{s:Shared}{A:Around}{env:Env}{Q:Unit->Shared->Prop}(hh:A.handled=none)(hl:s.heap.IsList l xs)(hn:(assignEach elts env).length=xs.size)(zDE:(assignEach elts env).findIdx? (·.1)=none)(h:∀h',Heap.ExtBut s.heap.objs.size s.heap h'->wpAny (model prog w) A (assignInOrder ((assignEach elts env).map (·.2)) xs.toList) Q E {s with heap:=h'}):wpAny (model prog w) A (assign (.Tuple elts x1 pos) env<|.ref l) Q E s:=by
 have ne:l≠s.heap.objs.size:=by let⟨o,ho,_⟩:=hl;exact bH<|aR ho
 rw[assign_Tuple];refine ak<|nE ?_;unfold unpack;rw[hn,zDE];refine ak<|dv ?_;refine ak<|ak (wpAny_specialOf hl.typeIs slot_list_iter.lookup<|aD ?_);simp;refine ak<|dv<|P4 hl ?_;refine ak<|dv (Rz ne xs.size 0 _ _ ⟨_,Heap.get?_push_size _ rfl,rfl,rfl⟩ (hl.push _) (iZ<|Uq _) λh1 zBP X9=>?_);have all:(xs.toList.drop 0).take xs.size=xs.toList:=by rw[tH];exact dO<|by simp
 rw[all,av<|by simp];refine ak<|dv (wpAny_pyNext_list_end hh zBP ((hl.push _).extBut X9.extBut ne) (by simp) λh2 he2=>?_);simp;exact aD (h h2 λb o hb e=>he2 b o hb<|X9.extBut b o hb<|Heap.get?_push_of_some _ e)
def TX(K:eZ)(n:Nat)(t:MX):TG:=λv Y H Q=>∃a xs,v=.ref a/\Wd K H a xs/\xs.length=n/\t xs Y H Q
def Ox{n:Nat}{t:MX}(hc:X.calm=true)(h:Qi X es t)(hn:(assignEach es X.env).length=n:=by rfl)(XY:(assignEach es X.env).findIdx? (·.1)=none:=by rfl):PG X (.Tuple es k pos) (TX X.K n t):=by
 intro on s Y H v u Q I r hw;obtain⟨a,xs,e1,hq,hl,hw⟩:=hw;subst e1;cases r;obtain⟨its,rv,ht,hz⟩:=I.list hq;have len:(assignEach es X.env).length=its.toArray.size:=by rw[hn,<-hl,rv.length];simp
 refine uE (I.ok.hd hc) ht.isList len XY λh' hx=>?_;exact h on _ Y H xs _ Q (I.kept (t':=s.toks) λb o e=>hx b o (bH<|aR e) e) (by simpa using rv) hw
structure Ut(X:Cx)(es:tL)(vs:fh)(Y:St)(H:Hp)(Q:St->Hp->Prop):Prop where
 go:∀(on:gC)(s:Shared)(us:jh),Inv X on Y H s->Vals vs us->fg X (assignInOrder ((assignEach es X.env).map (·.2)) us) (λ_ s'=>∃xy H',Inv X on xy H' s'/\Q xy H') X.xe s
def Jl:Qi X es (Ut X es):=λon s _ _ _ us _ I r h=>h.go on s us I r
def KM(X:Cx)(U:cE)(es:tL)(ds:aM)(W1:cE):Prop:=((∀env,(assignEach es env).length=ds.length)/\∀env,(assignEach es env).findIdx? (·.1)=none)/\∀(B:B0)(F H:Hp)(Y:St)(vs:fh)(Q:St->Hp->Prop),Ok X.K B F H Y U->Vs X.K F vs ds->(∀F' H' xy,Ok X.K B F' H' xy W1->Vu F F'->Q xy H')->Ut X es vs Y H Q
def Va(e:Expr):Prop:=∀(es:tL)(env:Env),assignEach (e::es) env=(false,assign e env)::assignEach es env
def e9:KM X U [] [] U:=⟨⟨λ_=>rfl,λ_=>rfl⟩,λB F H Y vs Q k r q=>.mk λon s us I ru=>by cases r;exact FK on s Y H [] us Q I ru ⟨rfl,q F H Y k<|.refl _⟩⟩
def bA(h1:XD X U e d Wp)(h2:KM X Wp es ds W1)(hs:Va e:=by intro _ _;rfl):KM X U (e::es) (d::ds) W1:=⟨⟨λenv=>by rw[hs es env,bY,bY,h2.1.1 env],λenv=>by
  rw[hs es env,List.findIdx?_cons]
  simp[h2.1.2 env]⟩,λB F H Y vs Q k r q=>.mk λon s us I ru=>by
 cases r with
 |cons r1 r2=>
  refine xi He Jl (by rw[hs es X.env];rfl) on s Y H _ us Q I ru ⟨_,_,rfl,?_⟩
  exact h1 B F H Y _ _ k r1 λF1 H1 WF k1 s1=>h2.2 B F1 H1 WF _ _ k1 (r2.mono s1) λF2 H2 σ2 k2 s2=>q F2 H2 σ2 k2 (s1.trans s2)⟩
def gs(t:At X N sc)(h:KM X U es ds W1):XD X U (.Tuple es k pos) (.tup ds) W1:=.of (Jm (n:=ds.length) t.calm Jl (h.1.1 _)<|h.1.2 _) λB F H Y v Q k r q=>by cases r with|tup hf rl=>exact⟨_,_,rfl,WM.of<|k.sub _ _ hf,rl.length,h.2 B F H Y _ Q k rl q⟩
def Pq(t:At X N sc)(h:KM X U es ds W1):XD X U (.Tuple es k pos) (.lst ds) W1:=.of (Ox (n:=ds.length) t.calm Jl (h.1.1 _)<|h.1.2 _) λB F H Y v Q k r q=>by cases r with|lst hf rl=>exact⟨_,_,rfl,Wd.of<|k.sub _ _ hf,rl.length,h.2 B F H Y _ Q k rl q⟩
structure rR(K:eZ)(C:Addr):Prop where
 ga:findIn K (.ref C) "__getattribute__"=some (some<|.builtin "BaseException.__getattribute__")
 gt:findIn K (.ref C) "__getattr__"=some none
 cl:findIn K (.ref C) "__class__"=some (some<|.builtin "object.__class__")
 ob:mroIn K C (.type "object")=some true
 be:mroIn K C (.type "BaseException")=some true
section
variable {g:Array GenState}{d:Drawn}{os:OsState}
def SW{a:Addr}{R:Result->Shared->Prop}(X:K.In h)(c:rR K C)(hx:h.get? a=some o)(hc:o.cls=.ref C)(hq:R (.ok<|.ret<|.ref C) ⟨h,g,d,t,os⟩):codeAny (model prog w) A (.call (.builtin "getset_descriptor.__get__") ⟨[.builtin "object.__class__",.ref a,.ref C],[]⟩) R ⟨h,g,d,t,os⟩:=by
 have L:Looks (model prog w) h (isSubtype (.ref C)<|.type<|".".intercalate ("object.__class__".cutAt '.').dropLast) true:=by rw[F.owner_object_class];exact DF X c.ob
 refine codeAny_call_builtin F.slot_gs_get.plain F.entry_gs_get<|F.slot_gs_get.check _ _ _ _ _ _ _ _ F.typeOf_object_class (F.args_gs_get _ _ _) ?_;repeat (any_goals (first |assumption |(with_reducible refine iC hx ?_;rw[hc]) |(with_reducible refine L.at ?_) |wp_step))
 refine⟨Code.quiet_builtin _<|by decide,codeAny_builtin F.entry_object_class ?_⟩;repeat (any_goals (first |assumption |(with_reducible refine iC hx ?_;rw[hc]) |wp_step))
def N2{a:Addr}{Q:Fin->Shared->Prop}(X:K.In h)(c:rR K C)(hx:h.get? a=some o)(hc:o.cls=.ref C)(hq:Q (.done<|.ret<|.ref C) ⟨h,g,d,t,os⟩):wpAny (model prog w) A (Builtin.«object.__getattribute__» ⟨[.ref a,.str "__class__" tk],[]⟩) Q E ⟨h,g,d,t,os⟩:=by
 have f5:=F.typeOf_object_class;have f6:=F.slot_gs_get.lookup;have f7:=F.slot_gs_set.lookup;repeat (any_goals (first |assumption |(with_reducible refine iC hx ?_;rw[hc]) |(with_reducible refine(pS (M:=model prog w) X c.cl).at ?_) |wp_step))
 refine SW X c hx hc ?_;repeat (any_goals (first |assumption |wp_step))
def N3{a:Addr}{Q:Unit->Shared->Prop}(X:K.In h)(c:rR K C)(hx:h.get? a=some o)(hc:o.cls=.ref C)(hq:Q () ⟨h,g,d,t,os⟩):wpAny M A (checkBuiltinCall "BaseException.__getattribute__" ⟨[.ref a,n],[]⟩) Q E ⟨h,g,d,t,os⟩:=by
 have e1:builtinKind "BaseException.__getattribute__"=some .slot:=rfl;have e2:splitId "BaseException.__getattribute__"=some ("BaseException","__getattribute__"):=rfl;simp only[checkBuiltinCall,e1,e2];refine ak ?_;repeat (first |(with_reducible refine iC hx ?_;rw[hc]) |(with_reducible refine(DF (M:=M) X c.be).at ?_) |wp_step)
 exact hq
def UN{Q:qW}{a:Addr}(X:K.In h)(c:rR K C)(hx:h.get? a=some o)(hc:o.cls=.ref C)(hq:Q (.ref C) ⟨h,g,d,t,os⟩):wpAny (model prog w) A (getAttrBy (.ref a) (.str "__class__" tk) false) Q E ⟨h,g,d,t,os⟩:=by
 have f3:=F.attr_ValueError.ga.bind<|.ref a;have ne:(Value.builtin "BaseException.__getattribute__"==Value.builtin "object.__getattribute__")=false:=rfl;have L1:=pS (M:=model prog w) X c.ga;repeat (any_goals (first |assumption |(with_reducible refine iC hx ?_;rw[hc]) |(with_reducible refine L1.at ?_) |(with_reducible refine(pS (M:=model prog w) X c.gt).at ?_) |wp_step))
 refine codeAny_call_builtin F.attr_ValueError.ga.plain F.entry_bexc_ga<|N3 X c hx hc<|N2 X c hx hc ?_;repeat (any_goals (first |assumption |wp_step))
def Qt{t:Nat}{a:Addr}{Q:Option Value->Shared->Prop}(X:K.In h)(c:rR K C)(hx:h.get? a=some o)(hc:o.cls=.ref C)(hq:Q (some<|.ref C) ⟨h,g,d,t+1,os⟩):wpAny (model prog w) A (getAttr? (.ref a) "__class__") Q E ⟨h,g,d,t,os⟩:=by repeat (any_goals (first |assumption |with_reducible apply UN X c hx hc |wp_step))
end
def FR{v:Value}(h:mroIn K C v=some b):∃c0 dd cd sl,K.lookup C=some ⟨c0,dd,.cls cd,sl⟩:=by let⟨cd,e,_⟩:=Option.bind_eq_some_iff.mp h;unfold clsIn at e;split at e;rename_i c0 dd cd' sl ho;exact⟨c0,dd,cd',sl,ho⟩;cases e
def CY(c:rR K C):KitX K (.ref a) (.ref C) (qo a C) where
 ty:=λM h X ⟨o,vs,e1,e2,e3,e4⟩=>e2▸(Looks.ld e1).andThen .now
 it:=λM h X _=>by obtain⟨c0,dd,cd,sl,e⟩:=FR c.ob;exactλA' Q' E' s' k q=>ak<|wpAny_loadPart (k _ _<|X _ _ e)<|aD q
 ne:=λh tp dd its n sl X e=>by obtain⟨c0,dd',cd,sl',e'⟩:=FR c.ob;refine Bool.eq_false_iff.mpr λq=>?_;have z:=Value.ref.inj<|jU.mp q;subst z;have:=(X _ _ e').symm.trans e;cases this
 ca:=λ{_ _ _ _ _ s}X ⟨o,vs,e1,e2,e3,e4⟩ q=>by obtain⟨h,g,d,t,os⟩:=s;exact Qt X c e1 e2 q
def Ex(sub:Vu F H)(r:Rep X.K F v (.exc C)):∃ea ob,v=.ref ea/\H ea=some (.W5 ob<|.ext<|qo ea C):=by cases r with|exc h=>exact⟨_,_,rfl,sub _ _ h⟩
def JT{cu:Value}(c:rR X.K C)(rc:∀u,RelV cv u->u=cu)(hk:kitOne X.K (.ref C) cu=some k):iq X (.builtin "isinstance") (λxs H Q=>∃v b ob,xs=[v,cv]/\v=.ref b/\H b=some (.W5 ob<|.ext<|qo b C)/\Q (.bl k) H):=by intro on s Y H xs us Q I r h;obtain⟨v,b,ob,rfl,rfl,hb,q⟩:=h;obtain⟨u,w,rfl,ru,Xn⟩:=wQ r;have e:=rc w Xn;subst e;cases(ru);let⟨_,hp,_,_⟩:=(I.VG b _ hb);exact cQ (CY c) I.WO hp hk (λz=>nomatch z) λtk=>⟨.bl k,H,I.tok tk,rfl,q⟩
def Mg(t:YM X N sc)(h:sw sc x):Gl X x:=by show X.env.scope.names.lookup x=_;rwa[t.eS]
def NV{y:Str}(t:YM X N sc)(bl:kN X sc x (.builtin "isinstance"))(c:rR X.K C)(hy:X.mg y=some (.ref Dc))(ha:Vp X U a (.exc C))(hk:kitOne X.K (.ref C) (.ref Dc)=some k)(hg:sw sc y:=by rfl)(hd:pE y:=by rfl)(hpa:Pl a:=by intro _ _;rfl):Vp X U (.Call (.Name x p) [a,.Name y py] [] pos) (.bl k):=.of (iH (JT c (cv:=.ref Dc) (λu h=>h) hk) (Mg t bl.g) bl.m bl.v (bC aU (bC (rf (v:=.ref Dc) (Mg t hg) hy rfl hd) dk)<|hpa _ _) bl.n bl.d (hpa _ _) rfl) λB F H Y Q k' q=>ha B F H Y _ k' λv F' H' x' r=>by obtain⟨ea,ob,rfl,hb⟩:=Ex x'.sub r;exact⟨_,ea,ob,rfl,rfl,hb,q _ F' H' x'<|.bl k⟩
def NW(t:YM X N sc)(bl:kN X sc x (.builtin "isinstance"))(c:rR X.K C)(bt:kN X sc y (.type T))(ha:Vp X U a (.exc C))(hk:kitOne X.K (.ref C) (.type T)=some k)(hpa:Pl a:=by intro _ _;rfl):Vp X U (.Call (.Name x p) [a,.Name y py] [] pos) (.bl k):=.of (iH (JT c (cv:=.ty T) (λu h=>h) hk) (Mg t bl.g) bl.m bl.v (bC aU (bC (wp (v:=.ty T) (Mg t bt.g) bt.m bt.v rfl bt.n bt.d) dk)<|hpa _ _) bl.n bl.d (hpa _ _) rfl) λB F H Y Q k' q=>ha B F H Y _ k' λv F' H' x' r=>by obtain⟨ea,ob,rfl,hb⟩:=Ex x'.sub r;exact⟨_,ea,ob,rfl,rfl,hb,q _ F' H' x'<|.bl k⟩
def Mv{y:Str}(t:At X N sc)(bl:kN X sc x (.builtin "isinstance"))(c:rR X.K C)(hy:X.mg y=some (.ref Dc))(ha:Vp X U a (.exc C))(hk:kitOne X.K (.ref C) (.ref Dc)=some k)(hg:sw sc y:=by rfl)(hd:pE y:=by rfl)(hpa:Pl a:=by intro _ _;rfl):Vp X U (.Call (.Name x p) [a,.Name y py] [] pos) (.bl k):=NV t.z bl c hy ha hk hg hd hpa
def Mw(t:At X N sc)(bl:kN X sc x (.builtin "isinstance"))(c:rR X.K C)(bt:kN X sc y (.type T))(ha:Vp X U a (.exc C))(hk:kitOne X.K (.ref C) (.type T)=some k)(hpa:Pl a:=by intro _ _;rfl):Vp X U (.Call (.Name x p) [a,.Name y py] [] pos) (.bl k):=NW t.z bl c bt ha hk hpa
def C1:D->Bool|.VH=>true|_=>false
def FD(r:Rep K F v d):decide (v=.VH)=C1 d:=by cases r<;>rfl
def eV(ha:Vp X U a d):Vr X U (.Compare a [.Is] [.Constant .none j p'] pos) (C1 d):=sS OH ha eJ (eE _<|by decide) λF H x y Q rx ry q=>by cases ry;exact⟨rfl,by rwa[FD rx]⟩
def ww(ha:Vp X U a d):Vr X U (.Compare a [.IsNot] [.Constant .none j p'] pos) (!C1 d):=sS LZ ha eJ (eE _<|by decide) λF H x y Q rx ry q=>by cases ry;exact⟨rfl,by rwa[FD rx]⟩
open AutoSeq1 (wpAny_loadPart')
section
variable {ds:aM}{st:Stmt}{bP:List Stmt}
def LX:mj X (binaryOp .Sub) (λx y H Q=>∃k j:Bool,x=.bl k/\y=.bl j/\Q (.int<|b2i k-b2i j) H):=by intro on s Y H x y v u Q I rx ry h;obtain⟨k,j,rfl,rfl,q⟩:=h;cases rx;cases ry;exact sub_bool ⟨.int<|b2i k-b2i j,H,I.tok _,⟨_,rfl⟩,q⟩
def By(ha:Vp X U a (.bl k))(hb:Vp X U b (.bl j)):Vp X U (.BinOp a .Sub b pos) (.int<|b2i k-b2i j):=.of (pH LX aU aU) λB F H Y Q k' q=>two ha hb k' λx y F' H' x' rx ry=>by cases rx;cases ry;exact⟨k,j,rfl,rfl,q _ F' H' x'<|.int _⟩
end
end L2.EV
namespace HT
open PySem PySem.W PyProof.Rows PySem.Spec
variable {H:Hp}{X:Cx}{pos:Pos}
variable {K:eZ}{ds:aM}
def Zt(xs:Array Value):((List.range xs.size).filterMap λ(m:Nat)=>xs[((xs.size:Int)-1+(m:Int)*(-1)).toNat]?).toArray=xs.toList.reverse.toArray:=by
 have zEG:∀(f g:Nat->Option Value)(l:bI),(∀m∈l,f m=g m)->l.filterMap f=l.filterMap g:=by intro f g l;induction l with|nil=>intro _;rfl|cons m l ih=>intro h;have h1:=ih λm hm=>h m<|aV _ hm;rw[fX,fX,h m<|cm ..,h1]
 have h2:∀(n:Nat)(r:jh),r.length=n->(List.range r.length).filterMap (λm=>r[m]?)=r:=by
  intro n;induction n with
  |zero=>intro r hr;rw[bx hr];rfl
  |succ n ih=>
   intro r hr;rcases gx r with e |⟨ys,y,e⟩;subst e;simp at hr;rw[gy]at e;subst e;have hl:ys.length=n:=by simpa using hr
   rw[ag,eB,M5,UJ];rw[zEG (λm=>(ys++[y])[m]?) (λm=>ys[m]?) (List.range ys.length) λm hm=>List.getElem?_append_left<|List.mem_range.mp hm,ih ys hl];congr 1;simp
 have key:∀l:jh,(List.range l.length).filterMap (λ(m:Nat)=>l[((l.length:Int)-1+(m:Int)*(-1)).toNat]?)=l.reverse:=by
  intro l;have h1:=zEG (λ(m:Nat)=>l[((l.length:Int)-1+(m:Int)*(-1)).toNat]?) (λm=>l.reverse[m]?) (List.range l.length) λm hm=>by show l[((l.length:Int)-1+(m:Int)*(-1)).toNat]?=l.reverse[m]?;rw[List.getElem?_reverse<|List.mem_range.mp hm];congr 1;lia
  rw[h1];have:=h2 _ l.reverse rfl;rwa[fW]at this
 have:=key xs.toList;rw[dj]at this;have e:(λ(m:Nat)=>xs.toList[((xs.size:Int)-1+(m:Int)*(-1)).toNat]?)=λ(m:Nat)=>xs[((xs.size:Int)-1+(m:Int)*(-1)).toNat]?:=by funext m;exact Array.getElem?_toList
 rw[e]at this;rw[this]
end HT
namespace L2.EV
open PySem PySem.W PySem.Spec PyProof.Rows
variable {H:Hp}{X:Cx}{pos:Pos}
variable {K:eZ}{ds:aM}
def IG(K:eZ)(C:aM->aM->Prop):Sp:=λvs H Q _=>∃F ds xs,Vu F H/\Vs K F vs ds/\C ds xs/\∀p us F' H',Ext ⟨F,H⟩ F' H'->H p=none->H' p=some (.lst us)->F' p=none->Vs K F' us xs->Q (.ref p) H'
def Sv(F:Hp)(p:Addr):Hp:=λa=>if a=p then none else F a
end L2.EV
namespace L2
open PySem PySem.W PySem.Spec PyProof.Rows
variable {H:Hp}{X:Cx}{pos:Pos}
variable {K:eZ}{ds:aM}
end L2
namespace L2.EV
open PySem PySem.W PySem.Spec PyProof.Rows
variable {H:Hp}{X:Cx}{pos:Pos}
variable {K:eZ}{ds:aM}
abbrev Vc:=List<|bR×Int
abbrev Vb:=List<|bR×Addr×Int
abbrev kv(x:bR×Addr×Int):bR×Int:=(x.1,x.2.2)
def zAL(H:Hp)(a:Addr)(xs:Vb):Prop:=H a=some (.ext<|EG a xs)\/∃ob,H a=some (.W5 ob<|.ext<|EG a xs)
def items_int:∀{ks:bR}{us:jh},Vals (ks.map V.int) us->ItemsAre (intKind P w) ks us
 |[],_,r=>by rw[rS]at r;cases r;exact .nil
 |k::ks,_,r=>by rw[bp]at r;cases r with|cons h t=>obtain⟨tk,rfl⟩:=(show∃t,_=Value.int k t from h);exact .cons (by show Value.isInt k (.int k tk)=true;simp[Value.isInt])<|items_int t
def zAL.is(I:Inv X on Y H s)(h:zAL H a xs):EG a xs s.heap:=by rcases h with e |⟨ob,e⟩;exact(show VT X.prog X.w H s.heap a (.ext<|EG a xs)from I.VG a _ e).1;exact(show VT X.prog X.w H s.heap a (.W5 ob<|.ext<|EG a xs)from I.VG a _ e).2.1
section
variable {U:List Sl}
def A7{s:Sl}(j:Nat)(t:Sl)(h:(U.set i s)[j]?=some t)(hn:t≠s):i≠j/\U[j]?=some t:=by
 by_cases e:i=j;subst e;rw[List.getElem?_set_self']at h;cases z:U[i]? with
 |none=>rw[z]at h;cases h
 |some w=>rw[z]at h;exact absurd (bN h).symm hn
 rw[List.getElem?_set_ne e]at h;exact⟨e,h⟩
end
def y3(its:jh):slicePick its.toArray none none (some (-1))=its.reverse.toArray:=by
 unfold slicePick;have e1:sliceBounds none none (some (-1)) its.toArray.size=((its.toArray.size:Int)-1,-1,-1):=rfl;rw[e1];have e2:sliceRange ((its.toArray.size:Int)-1) (-1) (-1)=(List.range its.toArray.size).map λ(k:Nat)=>((its.toArray.size:Int)-1+(k:Int)*(-1)).toNat:=by
  have e3:(if(-1:Int)>0 then(if(its.toArray.size:Int)-1< -1 then(-1-((its.toArray.size:Int)-1)+ -1-1) / -1 else 0)else(if(its.toArray.size:Int)-1> -1 then((its.toArray.size:Int)-1- -1- -1-1) / (- -1)else 0)).toNat=its.toArray.size:=by rw[av<|by decide];by_cases h:(its.toArray.size:Int)-1> -1;rw[ax h];have:(- -1:Int)=1:=rfl;rw[this,Int.ediv_one];lia;rw[av h];lia
  show(List.range<|Int.toNat _).map _=_;rw[e3];exact DH λk _=>by congr 1;lia
 rw[e2,List.filterMap_map];have:=HT.Zt its.toArray;rw[<-this];rfl
def Gr(ha:XC X U a true xs)(hc:Vp X U c (.int (-1))):VD X U (.Subscript a (.Slice none none (some c) p2) pos) xs.reverse:=λB F H Y Q k q=>.mk λon s I=>by refine Subscript_ (fq (ha B F H Y (λv H1=>∃p vs F1,v=.ref p/\Ext ⟨F,H⟩ F1 H1/\Y6 X.K true H1 p vs/\Vs X.K F1 vs xs) k (λp vs F1 H1 x1 s1 r1=>⟨p,vs,F1,rfl,x1,s1,r1⟩) on s I) λv s1 z=>?_);obtain⟨x,H1,I1,r1,p,vs,F1,hx,x1,sq,rp⟩:=z;subst hx;cases r1;refine wpAny_Slice ?_;rw[evalPart_none];refine aD<|aD ?_;rw[evalPart_some];refine fq (hc B F1 H1 Y (λv H2=>∃F2,Ext ⟨F1,H1⟩ F2 H2/\v=.int (-1)) (k.ext x1) (λv F2 H2 x2 r=>by cases r;exact⟨F2,x2,rfl⟩) on s1 I1) λu s2 z=>?_;obtain⟨y,H2,I2,r2,F2,x2,hy⟩:=z;subst hy;obtain⟨tk,rfl⟩:=r2;have I4:Inv X on Y H2 {s2 with heap:=s2.heap.push {cls:=.type "slice",data:=.fields #[.none,.none,.int (-1) tk]}}:=I2.kept (t':=s2.toks) λb ob q=>Heap.get?_push_of_some _ q;obtain⟨its,r,ht,hz⟩:=I4.list<|Y6.mono x2.sh sq;have hlen:=r.length;refine tail_any (ops:=[.ref p,.ref s2.heap.objs.size]) ht.isList.typeIs slot_list_getitem.lookup (wpAny_getItem_list_slice ht.isList (Heap.IsSliceOf.new ..) .none .none (.int (-1) tk) (by decide) ?_<|by rw[aG]<;>lia) rfl;rw[y3];have xx:=x1.t x2;have hp:=I4.VG.fresh<|ao _;refine⟨.ref _,_,I4.laid (t':=s2.toks) (o:=.lst vs.reverse) (λb ob q=>Heap.get?_push_of_some _ q) (ao _) ?_,rfl,q _ vs.reverse F2 _ ⟨xx.sub.trans<|aP hp,xx.sh.trans<|aP hp,xx.sf,xx.nw⟩ (xx.sh.free hp) aI (xx.sub.free hp) (rp.mono x2.sf).reverse⟩;exact⟨by rwa[fW],_,0,r.reverse,Heap.get?_push_size _ rfl⟩
def wn(t:At X N sc)(i j:Nat)(h1:VD X U a us)(h2:Vp X U b v)(hij:i≠j)(hi:N[i]?=some x:=by rfl)(hj:N[j]?=some y:=by rfl)(hx:sc.names.lookup x=some .local:=by rfl)(hy:sc.names.lookup y=some .local:=by rfl)(hw:swappedStores [.Tuple [.Name x px,.Name y py] kt pt] (.Tuple [a,b] k2 pt2) (dE sc)=pure (some [x,y]):=by rfl)(hs:swapsWithSole [.Tuple [.Name x px,.Name y py] kt pt] (.Tuple [a,b] k2 pt2) pos.line X.env=pure false:=by rfl)(X9:Fc a [b] X.env:=by rfl)(Ze:Fc b [] X.env:=by rfl):VN X U (.Assign [.Tuple [.Name x px,.Name y py] kt pt] (.Tuple [a,b] k2 pt2) pos) (.nx<|(U.set i<|.own us).set j<|.val v):=.of (Os (i:=i) (j:=j) t.calm t.nd (t.ix hi) (t.ix hj) hij (by rw[t.eS];exact hx) (by rw[t.eS];exact hy) (bC aU (bC aU dk Ze) X9) ((A3 (show X.env.scope=(dE sc).scope from t.eS)).trans hw) hs) λB F H Y E k q=>h1 B F H Y _ k λp vs F1 H1 x1 h0 hp hf r=>h2 B F1 H1 Y _ (k.ext x1) λv2 F2 H2 x2 r2=>by have ZV:F2 p=none:=x2.kf hf hp;exact⟨.ref p,v2,rfl,q F2 H2 _ (((k.ext<|x1.t x2).YC i (x2.sh _ _ hp) ZV (k.sh.free h0) (k.noOwn h0)<|r.mono x2.sf).VP j r2) (x1.t x2).sf⟩
def Om{p:PyData}(t:At X N sc){qs:List PyData}(sp:p.canLay0=true)(sd:p.depth<=62)(sq:PyData.canLayAll0 qs=true):mj X (compareOp .NotIn) (λx y H Q=>X6 X H x p/\X6 X H y (.list qs)/\Q (.bl (!qs.any λy=>PyData.eqv y p)) H):=by intro on s Y H x y v u Q I rx ry h;let⟨h1,h2,h3⟩:=h;let⟨as,r1⟩:=h1 sp H (.refl _) on Y s v I rx;let⟨bs,r2⟩:=h2 (by simpa[PyData.canLay0]using sq) H (.refl _) on Y s u I ry;refine SeqAt.notIn_list_reads r2 r1 sq sp ?_ ⟨.bl _,H,I,rfl,h3⟩;have hu:=t.un;have:min (PyData.depthAll qs) p.depth<=p.depth:=pB _ _;lia
end L2.EV
namespace HT
open PySem PySem.W PySem.Spec PyProof.Rows
variable {H:Hp}{X:Cx}{pos:Pos}
variable {K:eZ}{ds:aM}
def W4{Q:qW}{s:Shared}{lo hi:Option Int}(ht:IsTup s.heap t items)(hs:s.heap.IsSliceOf sl vl vu .none)(pl:IsPart vl lo)(pu:IsPart vu hi)(hw:VI items.size 0 lo=0/\VI items.size items.size hi=items.size)(h:Q (.ref t) s):wpAny (model prog w) A (getItem (.ref t)<|.ref sl) Q E s:=by
 let⟨os,ZU,hcs,Ww⟩:=id hs;have hTs:s.TypeIs (.ref sl) "slice":=⟨os,ZU,hcs⟩;unfold getItem;try with_reducible refine dv ?_
 first |refine ak (aD ?_) |skip
 refine ak<|wpAny_sequenceKey ht.typeIs (by decide) ?_;refine ak<|wpAny_callSpecial?_slot (name:=Str.ofString "__getitem__") ht.typeIs ic<|l9 ic ht.typeIs entry_tuple_getitem ?_<|args_tuple_getitem _ _;show wpAny _ _ (Builtin.Tuple.tupleItemsOf (.ref t)>>=_) _ _ s;refine ak<|tupleItemsOf_ ht ?_;refine ak<|wpAny_typeOf hTs ?_;rw[ax<|by decide];refine ak<|nQ hs pl pu ?_;have zF8:(((VI items.size 0 lo:Nat):Int)==0&&(1:Int)==1&&(VI items.size items.size hi-VI items.size 0 lo)==items.size)=true:=by rw[hw.1,hw.2];simp
 show wpAny _ _ (if(((VI items.size 0 lo:Nat):Int)==0&&(1:Int)==1&&(VI items.size items.size hi-VI items.size 0 lo)==items.size)=true then _ else _) _ _ s;rw[ax zF8];refine ak<|ak (m:=typeOf<|.ref t)<|wpAny_typeOf ht.typeIs<|aD ?_;rw[ax<|by decide];have fin:wpAny (model prog w) A.in1 (ret<|Value.ref t) (λfin s'=>∃v,fin=Fin.done (Flow.ret v)/\wpAny (model prog w) A (pure v) Q E s') E s:=aD ⟨_,rfl,aD h⟩;first
  |exact fin|exact ak<|aD fin
  |trace_state
end HT
namespace L2
open PySem PySem.W PySem.Spec PyProof.Rows
variable {H:Hp}{X:Cx}{pos:Pos}
variable {K:eZ}{ds:aM}
def Tp(K:eZ):V->Option Int->Option Int->Hp->VK->Prop:=λx lo hi H Q=>∃a xs,x=.ref a/\WM K H a xs/\(HT.VI xs.length 0 lo=0/\HT.VI xs.length xs.length hi=xs.length)/\Q (.ref a) H
def Lm:R1 X (Tp X.K):=by
 intro on s Y H x v vl vu lo hi sl Q I rx hs pl pu h;obtain⟨a,xs,rfl,hx,hw,q⟩:=h;cases rx;let⟨its,r,ht,hz⟩:=I.tuple hx;have hlen:its.toArray.size=xs.length:=by rw[aG];exact r.length.symm
 refine⟨"tuple",_,PyProof.Rows.slot_tuple_getitem.lookup,ht.typeIs,?_⟩;exact HT.W4 ht hs pl pu (by rwa[hlen]) ⟨.ref a,H,I,rfl,q⟩
end L2
namespace L2.EV
open PySem PySem.W PySem.Spec PyProof.Rows
variable {H:Hp}{X:Cx}{pos:Pos}
variable {K:eZ}{ds:aM}
def Mz{lo hi:Option Expr}{l h:Option Int}(ha:Vp X U a (.tup xs))(hl:YK X U lo l)(hh:YK X U hi h)(hw:HT.VI xs.length 0 l=0/\HT.VI xs.length xs.length h=xs.length):Vp X U (.Subscript a (.Slice lo hi none p2) pos) (.tup xs):=.of (qc Lm aU CG CG) λB F H Y Q k q=>ha B F H Y _ k λv F1 H1 x1 r1=>hl B F1 H1 Y _ (k.ext x1) λF2 H2 x2=>hh B F2 H2 Y _ (k.ext<|x1.t x2) λF3 H3 x3=>by have x:=x1.t<|x2.t x3;have r3:=(r1.mono x2.sf).mono x3.sf;cases r3 with|tup hs rs=>exact⟨_,_,rfl,WM.of<|x.sub _ _ hs,by rwa[rs.length],q _ F3 H3 x<|.tup hs rs⟩
def Wj(B:B0)(p:Addr)(us:fh):B0:=⟨B.F,dH B.H p<|.lst us⟩
def Wj.same{B:B0}{p:Addr}(h:B.H p=some (.lst us)):Wj B p us=B:=by
 have:dH B.H p (.lst us)=B.H:=funext λb=>by by_cases z:b=p;subst z;rw[aI,h];rw[aK z]
 show(⟨B.F,dH B.H p<|.lst us⟩:B0)=B;rw[this]
def Wj.up{ws:fh}:Wj (Wj B p us) p ws=Wj B p ws:=by show(⟨B.F,dH (dH B.H p<|.lst us) p<|.lst ws⟩:B0)=⟨B.F,dH B.H p<|.lst ws⟩;rw[Fg]
structure WU(K:eZ)(B:B0)(p:Addr)(F:Hp)(us:fh)(xs:aM):Prop where
 st:B.H p=some (.lst us)
 fr:B.F p=none
 rep:Vs K F us xs
def WU.free(l:WU K B p F us xs)(x:Ext B F H):F p=none:=x.kf l.fr l.st
def yg(K:eZ)(B:B0)(p:Addr)(F₀:Hp)(E:mn)(xs':aM):Out->Prop|.nx U=>∀F H Y us,Ok K (Wj B p us) F H Y U->Vs K F us xs'->Vu F₀ F->E.nx Y H|.rt d=>∀v F H us,Ext (Wj B p us) F H->Vs K F us xs'->Rep K F v d->E.rt v H
def XT(X:Cx)(p:Addr)(U:cE)(WJ:List Stmt)(o:Out)(xs xs':aM):Prop:=∀(B:B0)(F H:Hp)(Y:St)(E:mn)(us:fh),WU X.K B p F us xs->Ok X.K B F H Y U->yg X.K B p F E xs' o->wSs X WJ E Y H
abbrev Sb(X:Cx)(N:List Str)(st:Stmt)(C:List D->List D->D->List D->Prop):Prop:=∀q ds xs d xs',C ds xs d xs'->XT X q (P9 (.Xi q) N ds) (aW st) (.rt d) xs xs'
def pP(X:Cx)(p:Addr)(U:cE)(st:Stmt)(o:Out)(xs xs':aM):Prop:=∀(B:B0)(F H:Hp)(Y:St)(E:mn)(us:fh),WU X.K B p F us xs->Ok X.K B F H Y U->yg X.K B p F E xs' o->wS X st E Y H
def Ok.now(k:Ok K B F H Y U):Ok K ⟨F,B.H⟩ F H Y U:=⟨⟨k.sub,k.sh,.refl _,λa q=>.inl q⟩,k.len,k.vals,k.We,k.dist,⟨k.WI.YH,k.WI.Yr⟩⟩
def Ext.Zp(x:Ext B F H)(y:Ext ⟨F,B.H⟩ F' H'):Ext B F' H':=⟨y.sub,y.sh,x.sf.trans y.sf,λa q=>by rcases y.nw a q with z |z;exact x.nw a z;exact .inr z⟩
section
variable {st:Stmt}{bP:List Stmt}
def AD(l:WU X.K B p F us xs)(k:Ok X.K B F H Y U)(q:yg X.K B p F E xs o):(∃W1,o=.nx W1/\W8 X.K B F E o)\/(∃d,o=.rt d/\W8 X.K ⟨F,B.H⟩ F E o):=by cases o with|nx W1=>exact .inl ⟨W1,rfl,λF' H' xy k' s'=>q F' H' xy us (by rwa[Wj.same l.st]) (l.rep.mono s') s'⟩|rt d=>exact .inr ⟨d,rfl,λv F' H' x r=>q v F' H' us (by rw[Wj.same l.st];exact k.toExt.Zp x) (l.rep.mono x.sf) r⟩
def Vt.m(h:Vt X U WJ o):XT X p U WJ o xs xs:=λB F H Y E us l k q=>by rcases AD l k q with⟨_,_,z⟩ |⟨_,_,z⟩;exact h B F H Y E k z;exact h ⟨F,B.H⟩ F H Y E k.now z
def VN.m(h:VN X U st o):pP X p U st o xs xs:=λB F H Y E us l k q=>by rcases AD l k q with⟨_,_,z⟩ |⟨_,_,z⟩;exact h B F H Y E k z;exact h ⟨F,B.H⟩ F H Y E k.now z
def LQ(q:yg X.K B p F E xs' o)(s:Vu F F1):yg X.K (Wj B p us) p F1 E xs' o:=by
 cases o with
 |nx W1=>exactλF' H' xy ws k r s'=>q F' H' xy ws (by rw[Wj.up]at k;exact k) r<|s.trans s'
 |rt d=>exactλv F' H' ws x r rv=>q v F' H' ws (by rw[Wj.up]at x;exact x) r rv
def fA(h1:pP X p U st (.nx Wp) xs W9)(h2:XT X p Wp bP o W9 xs'):XT X p U (st::bP) o xs xs':=λB F H Y E us l k q=>(.mk λon s I=>gA uP dU on s Y H E I (h1 B F H Y _ us l k λF1 H1 WF ws k1 r1 s1=>h2 (Wj B p ws) F1 H1 WF E ws ⟨aI,l.fr,r1⟩ k1<|LQ q s1))
def c6(h1:pP X p U st o xs xs'):XT X p U [st] o xs xs':=λB F H Y E us l k q=>(.mk λon s I=>oH uP on s Y H E I<|h1 B F H Y E us l k q)
def CS:XT X p U [] (.nx U) xs xs:=Vt.m bQ
def Ok.zAY(k:Ok K B F H Y U)(l:WU K B p F us xs):Ok K (Wj B p ws) F (dH H p<|.lst ws) Y U:=by
 have hf:=l.free k.toExt;have ho:∀a,B.H a=none->a≠p:=λa h z=>by subst z;rw[l.st]at h;cases h
 refine⟨⟨λc u q=>?_,λc u q=>?_,k.sf,λa q=>?_⟩,k.len,k.vals,λi ys h=>?_,k.dist,⟨λi kvs h=>?_,k.WI.Yr⟩⟩;have ne:c≠p:=λz=>by subst z;rw[hf]at q;cases q
 rw[aK ne];exact k.sub c u q;by_cases z:c=p;subst z;have q':dH B.H c (.lst ws) c=some u:=q;rw[aI]at q' ⊢;exact q';have q':dH B.H p (.lst ws) c=some u:=q;rw[aK z]at q' ⊢;exact k.sh c u q';have ne:a≠p:=λz=>by subst z;exact q hf
 rcases k.nw a q with z |z;exact .inl z;refine .inr ?_;show dH B.H p (.lst ws) a=none;rwa[aK ne];let⟨a,vs,h1,h2,h3,h4,h5⟩:=k.We i ys h;have ne:=ho a h4;exact⟨a,vs,h1,by rwa[aK ne],h3,by show dH B.H p (.lst ws) a=none;rwa[aK ne],h5⟩;let⟨a,es,h1,h2,h3,h4,h5⟩:=k.WI.YH i kvs h;have ne:=ho a h4;exact⟨a,es,h1,by rwa[aK ne],h3,by show dH B.H p (.lst ws) a=none;rwa[aK ne],h5⟩
def vk{i:Nat}{Q:VK}{U:cE}(t:At X N sc)(hr:U[i]?=some (.val<|.adr p))(hN:N[i]?=some x)(hv:fS sc x=true)(hx:cU x=true)(k:Ok X.K B F H Y U)(h:Q (.ref p) H):wE X (.Name x py) Y H Q:=.mk λon s I=>by let⟨v,h1,h2⟩:=k.vals i _ hr;cases h2;exact y8 t hN hv hx on s Y H Q I ⟨_,h1,h⟩
end
def WU.ext(l:WU K B p F us xs)(x:Ext ⟨F,H⟩ F' H'):WU K B p F' us xs:=⟨l.st,l.fr,l.rep.mono x.sf⟩
section
variable {bP:List Stmt}{ds:aM}
inductive WS(X:Cx)(p:Addr)(tg:Expr)(body:List Stmt):aM->cE->aM->cE->aM->Prop where
 |nil {U:cE} {xs:aM}:WS X p tg body [] U xs U xs
 |cons {d:D} {ds:aM} {U Wp WP ρ3:cE} {xs W9 xs2:aM}:XD X U tg d Wp->XT X p Wp body (.nx WP) xs W9->WS X p tg body ds WP W9 ρ3 xs2->WS X p tg body (d::ds) U xs ρ3 xs2
def WS.Z4(R:Nat->cE)(L:Nat->aM):∀(ds:aM)(i:Nat),(∀(j:Nat)d,ds[j]?=some d->∃Wp,XD X (R<|i+j) tg d Wp/\XT X p Wp body (.nx<|R<|i+j+1) (L<|i+j) (L<|i+j+1))->WS X p tg body ds (R i) (L i) (R<|i+ds.length) (L<|i+ds.length)
 |[],i,_=>.nil
 |d::ds,i,h=>by
  let⟨Wp,h1,h2⟩:=h 0 d rfl;have:=WS.Z4 R L ds (i+1) λj d' e=>by have:=h (j+1) d' (by simpa using e);rw[show i+1+j=i+(j+1)by lia];exact this
  rw[show i+1+ds.length=i+(d::ds).length by rw[bY];lia]at this;exact .cons h1 h2 this
end
def Ok.back{i:Nat}(k:Ok K B F H Y U)(hi:U[i]?=some (.own xs))(hs:Y[i]?=some (some<|.ref a))(x:Ext (Wj ⟨F,H⟩ a Xa) F' H')(r:Vs K F' Xa xs'):Ok K B F' H' Y (U.set i<|.own xs'):=by
 let⟨a',us,h1,h2,h3,h4,h5⟩:=k.We i xs hi;rw[h1]at hs;cases hs;have V1:=(List.getElem?_eq_some_iff.mp hi).1;have hu:∀b u,b≠a->H b=some u->H' b=some u:=λb u ne q=>x.sh b u (by show dH H a (.lst Xa) b=some u;rwa[aK ne]);have Xl:∀b,F b=none->(b=a\/H b≠none)->F' b=none:=λb hf hh=>by cases e:F' b with|none=>rfl|some o=>exfalso;rcases x.nw b (by rw[e];exact DG o)with z |z;exact z hf;have z':dH H a (.lst Xa) b=none:=z;by_cases y:b=a;subst y;rw[aI]at z';cases z';rw[aK y]at z';rcases hh with w |w;exact y w;exact w z'
 refine⟨⟨x.sub,λb u q=>?_,k.sf.trans x.sf,λc q=>?_⟩,by rw[cy,k.len],λj d q=>?_,λj ys q=>?_,λj l ys zs b q1 q2 q3 q4=>?_,?_⟩;exact hu b u (λz=>by subst z;rw[h4]at q;cases q)<|k.sh b u q;rcases x.nw c q with z |z;exact k.nw c z;refine .inr ?_;have z':dH H a (.lst Xa) c=none:=z;by_cases y:c=a;subst y;rw[aI]at z';cases z';rw[aK y]at z';exact k.sh.free z';by_cases h:i=j;subst h;rw[List.getElem?_set_self V1]at q;cases q;rw[List.getElem?_set_ne h]at q;let⟨v,g1,g2⟩:=k.vals j d q;exact⟨v,g1,g2.mono x.sf⟩;by_cases h:i=j;subst h;rw[List.getElem?_set_self V1]at q;cases q;exact⟨a,Xa,h1,x.sh a _<|by show dH H a (.lst Xa) a=_;rw[aI],Xl a h3<|.inl rfl,h4,r⟩;rw[List.getElem?_set_ne h]at q;let⟨b,vs,g1,g2,g3,g4,g5⟩:=k.We j ys q;have ne:b≠a:=λz=>by subst z;exact h<|k.dist i j xs ys b hi q h1 g1
 exact⟨b,vs,g1,hu b _ ne g2,Xl b g3<|.inr<|by rw[g2];exact DG _,g4,g5.mono x.sf⟩;have back:∀(m:Nat)ys,(U.set i<|.own xs')[m]?=some (.own ys)->∃ws,U[m]?=some (.own ws):=λm ys e=>by by_cases h:i=m;subst h;exact⟨xs,hi⟩;rw[List.getElem?_set_ne h]at e;exact⟨ys,e⟩
 let⟨w1,e1⟩:=back j ys q1;let⟨w2,e2⟩:=back l zs q2;exact k.dist j l w1 w2 b e1 e2 q3 q4;exact k.WI.to x.sf (λb φ e1 e2 e3=>by
  have ne:b≠a:=λz=>by subst z;rw[h2]at e1;cases e1
  exact⟨hu b _ ne e1,Xl b e2 (.inr (by rw[e1];exact DG _))⟩) (wY λ_ z=>nomatch z)
def WS.Wf{W1:cE}{U:cE}{xs:aM}{xs':aM}(R:Nat->cE)(L:Nat->aM)(h:∀(j:Nat)d,ds[j]?=some d->∃Wp,XD X (R j) tg d Wp/\XT X q Wp body (.nx<|R<|j+1) (L j) (L<|j+1))(e0:R 0=U)(l0:L 0=xs)(e1:R ds.length=W1)(l1:L ds.length=xs'):WS X q tg body ds U xs W1 xs':=by
 have:=WS.Z4 (X:=X) (p:=q) (tg:=tg) (body:=body) R L ds 0 λj d e=>by rw[Uq];exact h j d e
 rwa[Uq,e0,l0,e1,l1]at this
def XT.weak(h:XT X q U WJ (.nx Wp) xs xs')(w:Xt Wp WP):XT X q U WJ (.nx WP) xs xs':=λB F H Y E us l k pq=>h B F H Y E us l k λF' H' xy ws k' r s=>pq F' H' xy ws (k'.weak w) r s
section
variable {rss:List aM}
def Ext.stays{p:Addr}(x:Ext ⟨F,H⟩ F' H')(h:H p=some (.lst us))(f:F p=none):F' p=none:=x.kf f h
end
abbrev Tb:=List<|Addr×aM
structure W7(K:eZ)(B:B0)(F H:Hp)(Y:St)(U:cE)(T:Tb):Prop where
 nd:(T.map (·.1)).Nodup
 st:∀x∈T,∃us,H x.1=some (.lst us)/\F x.1=none/\Vs K F us x.2
 bn:∀x∈T,B.H x.1=none
 no:∀x∈T,Wg Y U x.1
theorem EQ(x:Int)(k:Nat):Builtin.bitAnd x (2 ^ k-1)=x%2 ^ k:=by
 have e:((2:Int) ^ k-1)=((2 ^ k-1:Nat):Int):=by have:1<=2 ^ k:=Fb;rw[Int.natCast_sub this,Int.natCast_pow];rfl
 have hp:(0:Int)<=2 ^ k-1:=by rw[e];exact Int.natCast_nonneg _
 have et:((2:Int) ^ k-1).toNat=2 ^ k-1:=by rw[e];exact bv _
 have ek:((2 ^ k:Nat):Int)=(2:Int) ^ k:=by rw[Int.natCast_pow];rfl
 by_cases hx:0<=x;rw[bitAnd_pp hx hp,et,KR,Int.natCast_emod,ek,kO hx];rw[bitAnd_np hx hp,et,Nat.and_comm,KR,Int.natCast_emod,ek];unfold Builtin.bitNot;rw[kO<|by lia];have zDJ:(0:Int)<2 ^ k:=by rw[<-ek];exact Int.natCast_pos.mpr<|Nat.two_pow_pos k
 generalize(2:Int) ^ k=m at*;have h1:=jg (-x-1)<|Int.ne_of_gt zDJ;have h2:=tI (-x-1) zDJ;have h3:=Int.mul_ediv_add_emod (-x-1) m;have h4:x=m-1-(-x-1)%m+m*(-((-x-1) / m)-1):=by
  have:m*(-((-x-1) / m)-1)=-(m*((-x-1) / m))-m:=by rw[Int.mul_sub,Int.mul_neg,Int.mul_one]
  lia
 have h5:x%m=(m-1-(-x-1)%m)%m:=by
  conv=>lhs;rw[h4]
  rw[Int.add_mul_emod_self_left]
 have h6:(m-1-(-x-1)%m)%m=m-1-(-x-1)%m:=Int.emod_eq_of_lt (by lia) (by lia);rw[h5,h6]
def Gk{k:Nat}(ha:Vp X U a (.int i))(hb:Vp X U b (.int<|2 ^ k-1)):Vp X U (.BinOp a .BitAnd b pos) (.int<|i%2 ^ k):=xO OJ ha hb<|EQ i k
def MC(ha:Vp X U a (.tup xs))(hb:Vp X U b (.tup ys))(hx:xs≠[])(hy:ys≠[])(hz:xs.length+ys.length<=sizeLine):Vp X U (.BinOp a .Add b pos) (.tup<|xs++ys):=.of (pH L4 aU aU) λB F H Y Q k q=>two ha hb k λx y F' H' x' rx ry=>by cases rx with|tup h1 r1=>cases ry with|tup h2 r2=>refine⟨_,_,_,_,rfl,rfl,WM.of<|x'.sub _ _ h1,WM.of<|x'.sub _ _ h2,λz=>hx<|bx<|by rw[<-r1.length,z];rfl,by rwa[r1.length,r2.length],λz=>absurd (bx<|by rw[<-r2.length,z];rfl) hy,λ_ p hp=>?_⟩;exact q _ _ _ (x'.grow hp)<|.tup aI<|(r1.append r2).mono<|aP<|x'.sub.free hp
def D4{p:PyData}(t:At X N sc){qs:List PyData}(sp:p.canLay0=true)(sd:p.depth<=62)(sq:PyData.canLayAll0 qs=true):mj X (compareOp .In) (λx y H Q=>X6 X H x p/\X6 X H y (.tuple qs)/\Q (.bl (qs.any λy=>PyData.eqv y p)) H):=by intro on s Y H x y v u Q I rx ry h;let⟨h1,h2,h3⟩:=h;let⟨as,r1⟩:=h1 sp H (.refl _) on Y s v I rx;let⟨bs,r2⟩:=h2 (by simpa[PyData.canLay0]using sq) H (.refl _) on Y s u I ry;refine SeqAt.in_tuple_reads r2 r1 sq sp ?_ ⟨.bl _,H,I,rfl,h3⟩;have hu:=t.un;have:min (PyData.depthAll qs) p.depth<=p.depth:=pB _ _;lia
def iy{r:Bool}(t:At X N sc)(ha:Vp X U a d)(hb:Vp X U b (.tup xs))(sp:(gw d).canLay0=true)(sd:(gw d).depth<=62)(sq:PyData.canLayAll0 (VA xs)=true)(he:((VA xs).any λy=>PyData.eqv y<|gw d)=r)(hm:behindInMarks .In b=false:=by rfl):Vr X U (.Compare a [.In] [b] pos) r:=.of (gr (D4 t sp sd sq) aU aU hm) λB F H Y Q k q=>AY (Vp.p ha) (Vp.p hb) k λx y F' H' x' rx ry=>⟨rx,ry,r,by rw[he],q F' H' x'⟩
def c7(ha:Vp X U a (.str z))(hb:Vp X U b (.int i))(hz:z.length<=sizeLine)(h:me z.cps.toList i=some c)(hs:oU b:=by intro _ _;rfl):Vp X U (.Subscript a b pos) (.str ⟨#[c]⟩):=.of (xj O1 aU aU hs) λB F H Y Q k q=>two ha hb k λx y F' H' x' rx ry=>by cases rx;cases ry;exact⟨z,i,c,rfl,rfl,hz,h,q _ F' H' x'<|.str _⟩
def LB{p:PyData}(t:At X N sc){qs:List PyData}(sp:p.canLay0=true)(sd:p.depth<=62)(sq:PyData.canLayAll0 qs=true):mj X (compareOp .NotIn) (λx y H Q=>X6 X H x p/\X6 X H y (.tuple qs)/\Q (.bl (!qs.any λy=>PyData.eqv y p)) H):=by intro on s Y H x y v u Q I rx ry h;let⟨h1,h2,h3⟩:=h;let⟨as,r1⟩:=h1 sp H (.refl _) on Y s v I rx;let⟨bs,r2⟩:=h2 (by simpa[PyData.canLay0]using sq) H (.refl _) on Y s u I ry;refine SeqAt.notIn_tuple_reads r2 r1 sq sp ?_ ⟨.bl _,H,I,rfl,h3⟩;have hu:=t.un;have:min (PyData.depthAll qs) p.depth<=p.depth:=pB _ _;lia
def BE{r:Bool}(t:At X N sc)(ha:Vp X U a d)(hb:Vp X U b (.tup xs))(sp:(gw d).canLay0=true)(sd:(gw d).depth<=62)(sq:PyData.canLayAll0 (VA xs)=true)(he:(!(VA xs).any λy=>PyData.eqv y<|gw d)=r)(hm:behindInMarks .NotIn b=false:=by rfl):Vr X U (.Compare a [.NotIn] [b] pos) r:=.of (gr (LB t sp sd sq) aU aU hm) λB F H Y Q k q=>AY (Vp.p ha) (Vp.p hb) k λx y F' H' x' rx ry=>⟨rx,ry,r,by rw[he],q F' H' x'⟩
def On{p:PyData}(t:At X N sc){qs:List PyData}(sp:p.canLay0=true)(sd:p.depth<=62)(sq:PyData.canLayAll0 qs=true):mj X (compareOp .In) (λx y H Q=>X6 X H x p/\X6 X H y (.list qs)/\Q (.bl (qs.any λy=>PyData.eqv y p)) H):=by intro on s Y H x y v u Q I rx ry h;let⟨h1,h2,h3⟩:=h;let⟨as,r1⟩:=h1 sp H (.refl _) on Y s v I rx;let⟨bs,r2⟩:=h2 (by simpa[PyData.canLay0]using sq) H (.refl _) on Y s u I ry;refine SeqAt.in_list_reads r2 r1 sq sp ?_ ⟨.bl _,H,I,rfl,h3⟩;have hu:=t.un;have:min (PyData.depthAll qs) p.depth<=p.depth:=pB _ _;lia
def Pn{r:Bool}(t:At X N sc)(ha:Vp X U a d)(hb:XC X U b true xs)(sp:(gw d).canLay0=true)(sd:(gw d).depth<=62)(sq:PyData.canLayAll0 (VA xs)=true)(he:((VA xs).any λy=>PyData.eqv y<|gw d)=r)(hm:behindInMarks .In b=false:=by rfl):Vp X U (.Compare a [.In] [b] pos) (.bl r):=.of (uc (On t sp sd sq) aU aU hm) λB F H Y Q k q=>AY (Vp.p ha) (XC.p hb) k λx y F' H' x' rx ry=>⟨rx,ry,by rw[he];exact q _ F' H' x'<|.bl r⟩
def V4(X:Cx)(q:Addr)(U:cE)(e:Expr)(d:D)(xs xs':aM):Prop:=∀(B:B0)(F H:Hp)(Y:St)(Q:VK)(us:fh),WU X.K B q F us xs->Ok X.K B F H Y U->(∀v F' H' Xa,Ext (Wj ⟨F,H⟩ q Xa) F' H'->Vs X.K F' Xa xs'->Rep X.K F' v d->Q v H')->wE X e Y H Q
def E6(X:Cx)(q:Addr)(U:cE)(es:tL)(ds:aM)(xs xs':aM):Prop:=Yf es/\∀(B:B0)(F H:Hp)(Y:St)(Q:fh->Hp->Prop)(us:fh),WU X.K B q F us xs->Ok X.K B F H Y U->(∀vs F' H' Xa,Ext (Wj ⟨F,H⟩ q Xa) F' H'->Vs X.K F' Xa xs'->Vs X.K F' vs ds->Q vs H')->wA X es Y H Q
def X2(X:Cx)(q:Addr)(U:cE)(e:Expr)(b:Bool)(xs:aM):Prop:=∀(B:B0)(F H:Hp)(Y:St)(Q:Bool->Hp->Prop)(us:fh),WU X.K B q F us xs->Ok X.K B F H Y U->(∀F' H',Ext ⟨F,H⟩ F' H'->Q b H')->wT X e Y H Q
def Fi(x:Ext (Wj ⟨F,H⟩ q us) F1 H1)(hf:F q=none):F1 q=none:=x.kf hf aI
def Ext.zFY(x:Ext (Wj ⟨F,H⟩ q us) F1 H1)(hf:F q=none):Ext (Wj ⟨F,H⟩ q ws) F1 (dH H1 q<|.lst ws):=by
 have h1:=Fi x hf;refine⟨λb u z=>?_,λb u z=>?_,x.sf,λa z=>?_⟩;have ne:b≠q:=λw=>by subst w;rw[h1]at z;cases z
 rw[aK ne];exact x.sub b u z;have z':dH H q (.lst ws) b=some u:=z;by_cases ne:b=q;subst ne;rw[aI]at z' ⊢;exact z';rw[aK ne]at z' ⊢;exact x.sh b u (by show dH H q (.lst us) b=some u;rwa[aK ne]);have ne:a≠q:=λw=>by subst w;exact z h1
 rcases x.nw a z with y |y;exact .inl y;refine .inr ?_;have y':dH H q (.lst us) a=none:=y;show dH H q (.lst ws) a=none;rw[aK ne]at y' ⊢;exact y'
def Ext.tM(x:Ext (Wj ⟨F,H⟩ q us) F1 H1)(hf:F q=none)(y:Ext (Wj ⟨F1,H1⟩ q ws) F2 H2):Ext (Wj ⟨F,H⟩ q ws) F2 H2:=(x.zFY hf).trans y
def Ext.toM{q:Addr}(x:Ext ⟨F,H⟩ F' H')(h:H q=some (.lst us)):Ext (Wj ⟨F,H⟩ q us) F' H':=by rwa[Wj.same h]
section
variable {st:Stmt}{bP:List Stmt}{ds:aM}
def Ok.XM(k:Ok K B F H Y U)(l:WU K B q F us xs)(x:Ext (Wj ⟨F,H⟩ q ws) F' H'):Ok K (Wj B q ws) F' H' Y U:=(k.zAY l).ext x
def WU.ff(l:WU K B q F us xs)(k:Ok K B F H Y U):F q=none:=l.free k.toExt
def Vp.em(h:Vp X U e d):V4 X q U e d xs xs:=λB F H Y Q us l k w=>h B F H Y Q k λv F' H' x r=>w v F' H' us (x.toM<|k.sh _ _ l.st) (l.rep.mono x.sf) r
def VL.am(h:VL X U es ds):E6 X q U es ds xs xs:=⟨h.1,λB F H Y Q us l k w=>h.2 B F H Y Q k λv F' H' x r=>w v F' H' us (x.toM<|k.sh _ _ l.st) (l.rep.mono x.sf) r⟩
def jw(h1:V4 X q U e d xs W9)(h2:E6 X q U es ds W9 xs')(hs:Pl e:=by intro _ _;rfl):E6 X q U (e::es) (d::ds) xs xs':=⟨⟨hs,h2.1⟩,λB F H Y Q us l k w=>.mk λpos on s I=>bC aU nU (hs _ _) pos on s Y H Q I (h1 B F H Y _ us l k λv F1 H1 u1 x1 r1 rv=>h2.2 (Wj B q u1) F1 H1 Y _ u1 ⟨aI,l.fr,r1⟩ (k.XM l x1) λvs F2 H2 u2 x2 r2 rvs=>w _ F2 H2 u2 (x1.tM (l.ff k) x2) r2<|.cons (rv.mono x2.sf) rvs)⟩
def Kk(h:E6 X q U es ds xs xs')(hl:ds.length<=sizeLine:=by exact cM rfl):V4 X q U (.Tuple es x1 pos) (.tup ds) xs xs':=λB F H Y Q us l k w=>.mk λon s I=>Bj nU on s Y H Q I (h.2 B F H Y _ us l k λvs F' H' u1 x r rv=>⟨by rwa[rv.length],λp hp=>w _ _ _ u1 (x.grow hp) (r.mono<|aP<|x.sub.free hp)<|.tup aI<|rv.mono<|aP<|x.sub.free hp⟩)
def Kl(h:E6 X q U es ds xs xs')(hl:ds.length<=sizeLine:=by exact cM rfl):V4 X q U (.List es pos) (.lst ds) xs xs':=λB F H Y Q us l k w=>.mk λon s I=>Eb nU on s Y H Q I (h.2 B F H Y _ us l k λvs F' H' u1 x r rv=>⟨by rwa[rv.length],λp hp=>w _ _ _ u1 (x.grow hp) (r.mono<|aP<|x.sub.free hp)<|.lst aI<|rv.mono<|aP<|x.sub.free hp⟩)
def Km(ha:V4 X q U a (.lst ys) xs W9)(hb:V4 X q U b (.int i) W9 xs')(h:me ys i=some d)(hs:oU b:=by intro _ _;rfl):V4 X q U (.Subscript a b pos) d xs xs':=λB F H Y Q us l k w=>.mk λon s I=>xj Bs aU aU hs on s Y H Q I (ha B F H Y _ us l k λv F1 H1 u1 x1 r1 rv=>hb (Wj B q u1) F1 H1 Y _ u1 ⟨aI,l.fr,r1⟩ (k.XM l x1) λv2 F2 H2 u2 x2 r2 YW=>by cases YW;cases rv with|lst hf rl=>let⟨z,h1,h2⟩:=(rl.mono x2.sf).at h;exact⟨_,_,i,z,rfl,rfl,Wd.of<|x2.sub _ _<|x2.sf _ _ hf,h1,w z F2 H2 u2 (x1.tM (l.ff k) x2) r2 h2⟩)
def gX[WR X](t:At X N sc)(i:Nat)(h:V4 X q U e d xs xs')(hi:N[i]?=some x:=by rfl)(hx:ml sc x=true:=by rfl)(hs:swapsWith e (some<|.Name x pos') pos.line X.env=pure false:=by rfl):pP X q U (.Assign [.Name x pos'] e pos) (.nx<|U.set i<|.val d) xs xs':=λB F H Y E us l k w=>(.mk λon s I=>oI t.nd (t.ix hi) (t.loc hx) aU hs Ga on s Y H E I (h B F H Y _ us l k λv F' H' u1 x' r rv=>w F' H' _ u1 ((k.XM l x').VP i rv) r x'.sf))
def uW(h:V4 X q U e d xs xs'):pP X q U (.Return (some e) pos) (.rt d) xs xs':=λB F H Y E us l k w=>(.mk λon s I=>uQ aU on s Y H E I (h B F H Y _ us l k λv F' H' u1 x' r rv=>w v F' H' u1 (k.XM l x').toExt r rv))
def FU(h1:pP X q U st (.rt d) xs xs'):XT X q U (st::bP) (.rt d) xs xs':=λB F H Y E us l k w=>(.mk λon s I=>gA uP dU on s Y H E I<|h1 B F H Y _ us l k w)
def Vr.l{xs:aM}(h:Vr X U e r):X2 X q U e r xs:=λB F H Y Q us l k w=>h B F H Y Q k w
def FT(w:yg X.K B q F E xs' o)(s:Vu F F1):yg X.K B q F1 E xs' o:=by
 cases o with
 |nx W1=>exactλF' H' xy ws k r s'=>w F' H' xy ws k r<|s.trans s'
 |rt d=>exact w
def lQ(hc:X2 X q U c true xs)(h:XT X q U ss o xs xs'):pP X q U (.If c ss Xa pos) o xs xs':=λB F H Y E us l k w=>(.mk λon s I=>xb mX dU dU on s Y H E I (hc B F H Y _ us l k λF1 H1 x1=>by rw[ax rfl];exact h B F1 H1 Y E us (l.ext x1) (k.ext x1)<|FT w x1.sf))
def gZ(hc:X2 X q U c false xs)(h:XT X q U Xa o xs xs'):pP X q U (.If c ss Xa pos) o xs xs':=λB F H Y E us l k w=>(.mk λon s I=>xb mX dU dU on s Y H E I (hc B F H Y _ us l k λF1 H1 x1=>by rw[av aA];exact h B F1 H1 Y E us (l.ext x1) (k.ext x1)<|FT w x1.sf))
def JQ:AJ (Sum.inr "xs") (.str "xs" tk)=true:=by show Value.isStrOf "xs" (.str "xs" tk)=true;simp[Value.isStrOf]
def Nc{i:Nat}{Q:VK}{U:cE}(t:At X N sc)(hr:U[i]?=some (.val<|.Xi q))(hN:N[i]?=some x)(hv:fS sc x=true)(hx:cU x=true)(k:Ok X.K B F H Y U)(h:Q (.ref q) H):wE X (.Subscript (.Name x py) (.Constant (.str "xs") j p2) pos) Y H Q:=.mk λon s I=>by
 obtain⟨v,h1,h2⟩:=k.vals i _ hr;cases h2 with|@Xi a _ e=>
 refine Subscript_ (fq (y8 t hN hv hx on s Y H (λv H1=>v=.ref a/\H1=H) I ⟨_,h1,rfl,rfl⟩) λu s1 ⟨v,H1,I1,rv,ev,eh⟩=>?_);subst ev;subst eh;cases(rv);refine fq (Ea on s1 Y H1 (λv H2=>v=.str "xs"/\H2=H1) I1 ⟨rfl,rfl⟩) λiv s2 ⟨w,H2,I2,Xn,ew,eh⟩=>?_;subst ew;subst eh;obtain⟨tk,rfl⟩:=(Xn);obtain⟨z,hsm,vs,rel,dd⟩:=(I2.VG a _<|k.sub _ _ e);cases rel with|@cons _ kv _ vs' hkv tl=>
 cases tl;obtain⟨kk,w'⟩:=kv;obtain⟨e1,e2⟩:=hkv;have e1':(Sum.inr (Str.ofString "xs"):nt)=kk:=e1;subst e1';cases(e2);refine kQ (x:=.ref q) dd.typeIs PySem.F.slot_dict_getitem.lookup ?_ (by rfl);exact Sh (knd:=la X.prog X.w) (k:=Sum.inr "xs") (JQ (tk:=tk)) dd.mapOf (by simp[valueAt]) ⟨rfl,.ref q,H2,I2.tok _,rfl,h⟩
def Cs{r:Bool}{ns:bR}{U:cE}{xs:aM}(t:At X N sc)(i:Nat)(hr:U[i]?=some (.val<|.Xi q))(hx0:xs=ns.map D.int)(he:r=ns.isEmpty)(hN:N[i]?=some x:=by rfl)(hv:fS sc x=true:=by rfl)(hx:cU x=true:=by rfl):X2 X q U (.Compare (.Subscript (.Name x py) (.Constant (.str "xs") j p2) p1) [.Eq] [.List [] p3] pos) r xs:=λB F H Y Q us l k w=>.mk λon s I=>by
 subst hx0;have sh:SeqAt.shaped (PyData.list<|VA<|ns.map D.int)=true:=by rw[qY];exact shaped_ints ns
 refine gr (FE t (q:=.list []) sh rfl) aU aU (eE _<|by decide) on s Y H Q I<|Nc t hr hN hv hx k ?_;refine(bK af).toQ.p B F H Y _ k λv F' H' x' rd=>?_;refine⟨λhc H2 s2 on Y s u I ru=>?_,rd,r,?_,w F' H' x'⟩;cases(ru);exact Y6.reads (k:=true) I (x'.sub.trans s2) (Wd.of<|s2 _ _<|x'.sh _ _<|k.sh _ _ l.st) (l.rep.mono x'.sf) hc;subst he;cases ns with|nil=>rfl|cons n ns=>rfl
def Pp{apos Vx:Pos}{U:cE}{xs:aM}{xs':aM}(t:At X N sc)(i:Nat)(hr:U[i]?=some (.val<|.Xi q))(hxs:xs=xs'++[d])(hN:N[i]?=some x:=by rfl)(hv:fS sc x=true:=by rfl)(hx:cU x=true:=by rfl)(VO:(apos.endLine==Vx.line)=true:=by rfl):V4 X q U (.Call (.Attribute (.Subscript (.Name x py) (.Constant (.str "xs") j p2) p1) "pop" apos) [] [] Vx) d xs xs':=λB F H Y Q us l k w=>.mk λon s I=>by
 subst hxs;refine Ec dw UI UH JF aU rfl VO on s Y H Q I<|Nc t hr hN hv hx k ?_;have h2:=k.sh _ _ l.st;refine⟨.inl ⟨rfl,_,Wd.of h2⟩,?_⟩;let⟨v,hw,Xn⟩:=l.rep.get (i:=xs'.length) (d:=d) (by simp);have hll:us.length-1=xs'.length:=by rw[l.rep.length];simp
 refine⟨q,us,v,rfl,rfl,h2,by rwa[hll],?_⟩;have rd:=l.rep.dropLast;rw[Ck]at rd;exact w v F _ us.dropLast ⟨λb u z=>by rw[aK λe=>by subst e;rw[l.ff k]at z;cases z];exact k.sub b u z,λb u z=>z,.refl _,λa z=>.inl z⟩ rd Xn
def spS(K:eZ)(C:aM->aM->D->aM->Prop):Sp:=λvs H Q _=>∃q F ds d us xs xs',Vu F H/\H q=some (.lst us)/\F q=none/\Vs K F us xs/\Vs K F vs (.Xi q::ds)/\C ds xs d xs'/\∀v F' H' Xa,Ext (Wj ⟨F,H⟩ q Xa) F' H'->Vs K F' Xa xs'->Rep K F' v d->Q v H'
def VV(X:Cx)(x:Str)(C:aM->aM->D->aM->Prop):Prop:=∃(f:Addr)(fd:FuncData)(ps:cn)(k:Nat),dZ X.prog X.w X.K X.mg X.base jd k f fd ps (spS X.K C)/\VS k X.A/\X.mg x=some (.ref f)/\keepIn X.K (.ref f)=true/\Binds X.K fd ps []
def O9{P:Program}(VZ:P.given.tree=none){w:World}{K:eZ}{mg:tK}{base:Heap}{x qual:Str}{st:Stmt}{f:Addr}{fd:FuncData}{N ps:cn}{k:Nat}{C:aM->aM->D->aM->Prop}(F:Yw K x qual st f fd)(S:aN N ps (aq st))(len:∀ds xs d xs',C ds xs d xs'->ds.length+1=ps.length)(body:∀X,DefX P w K mg base k N (aq st) X->Sb X N st C):dZ P w K mg base jd (k+1) f fd ps (spS K C):=by
 refine F.ok S (λvs H Q E h=>?_) λV2 A outer s H vs Q E hr h=>?_;obtain⟨p,F',ds,d,us,xs,xs',sub,hp,hf,ru,r,hC,q⟩:=h;rw[r.length];exact len ds xs d xs' hC;obtain⟨p,F',ds,d,us,xs,xs',sub,hp,hf,ru,r,hC,q⟩:=h;refine⟨_,dU,?_⟩;have hx:DefX P w K mg base k N (aq st) (qA jd P w K mg base N qual (aq st) f V2 A outer s H E).XH:=⟨⟨rfl,rfl,rfl,S.nd,rfl,hr.units,hr.WY,VZ,⟨_,_,rfl,S.gen,S.co,rfl,rfl⟩⟩,rfl,rfl,rfl,rfl,rfl,hr,⟨λ_=>rfl⟩,rfl,rfl⟩;have hk:Ok K ⟨F',H⟩ F' H (start N vs) (.val (.Xi p)::ds.map Sl.val++List.replicate (N.length-(ds.length+1)) Sl.un):=by unfold start;rw[r.length];exact iI sub r _
 exact body _ hx p ds xs d xs' hC ⟨F',H⟩ F' H _ _ us ⟨hp,hf,ru⟩ hk λv F2 H2 Zn x2 r2 rv=>q v F2 H2 Zn x2 r2 rv
def DefX.zAH{x:Str}{C:aM->aM->D->aM->Prop}(h:DefX P w K mg base k N sc X)(F:dZ P w K mg base jd j f fd ps (spS K C))(hj:j<=k)(hm:mg x=some (.ref f))(hk:keepIn K (.ref f)=true)(hb:Binds K fd ps []):VV X x C:=by obtain⟨h0,rfl,rfl,rfl,rfl,rfl,hr,_⟩:=h;exact⟨f,fd,ps,j,F,hr.mono hj,hm,hk,hb⟩
def j8(t:At X N sc){C:aM->aM->D->aM->Prop}(h:VV X x C)(ha:E6 X q U (e::es) (.Xi q::ds) xs W9)(hC:C ds W9 d xs')(hg:sw sc x:=by rfl)(Wb:pE x:=by rfl):V4 X q U (.Call (.Name x p) (e::es) [] pos) d xs xs':=λB F0 H Y Q us l k w=>.mk λon s I=>by obtain⟨f,fd,ps,kk,F,Yn,hm,hk,hb⟩:=h;have pz:iB jd X E0:=qf;refine j7 F Yn (dI t hg) hm hk hb .nil pz nU Wb (ha.1.1 _ _) (Yf.any ha.1.2) on s Y H Q I (ha.2 B F0 H Y _ us l k λvs F1 H1 u1 x1 r1 rv=>?_);have k1:=k.XM l x1;refine⟨q,F1,ds,d,u1,W9,xs',k1.sub,k1.sh _ _ aI,Fi x1<|l.ff k,r1,by rwa[aX],hC,λv F2 H2 u2 x2 r2 YW=>w v F2 H2 u2 (x1.tM (l.ff k) x2) r2 YW⟩
def Ext.Z7{l:Addr}(x:Ext ⟨F,H⟩ F1 H1)(h0:H l=none)(hf:F1 l=none)(y:Ext (Wj ⟨F1,H1⟩ l us) F2 H2):Ext ⟨F,H⟩ F2 H2:=by refine Ext.trans ⟨λb u z=>?_,λb u z=>?_,x.sf,x.nw⟩ y;rw[aK λe=>by subst e;rw[hf]at z;cases z];exact x.sub b u z;have z':H b=some u:=z;rw[aK λe=>by subst e;rw[h0]at z';cases z'];exact x.sh b u z
def Ob{Q:VK}(t:At X N sc)(h1:VD X U e xs)(k:Ok X.K B F H Y U)(w:∀a l vs F' H',Ext ⟨F,H⟩ F' H'->H l=none->H' l=some (.lst vs)->F' l=none->Vs X.K F' vs xs->Rep X.K F' (.ref a) (.Xi l)->Q (.ref a) H'):wE X (.Dict [some<|.Constant (.str "xs") j p1] [e] p2) Y H Q:=.mk λon s I=>by
 rw[arm_eval_Dict,zip_pairTrees [some<|.Constant (.str "xs") j p1] [e] X.env p2 rfl rfl];have Xf:(pairTrees [some<|.Constant (.str "xs") j p1] [e] X.env p2).length=1:=pairTrees_length _ _ X.env p2 rfl rfl;rw[dictDisplay_pairs _ (λz=>by rw[z]at Xf;cases Xf)<|by lia];refine ak<|nE<|ak ?_;refine ak<|SE ?_;have hn:=I.VG.fresh<|ao s.heap.objs.size;have hbg:sysModules<s.heap.objs.size:=yn (by decide)<|(I.mod.glob.keeps I.bk).lt;have hsm:=bF.mpr<|eF<|bH hbg;have I1:=I.laid (o:=.dK []) (t':=s.toks) (λ_ _ q=>Heap.get?_push_of_some _ q) (ao _)<|⟨bO _,hsm,[],.nil,Heap.DictOf.new s.heap⟩;have x1:Ext ⟨F,H⟩ F (dH H s.heap.objs.size<|.dK []):=⟨k.sub.trans<|aP hn,aP hn,.refl _,λ_ z=>.inl z⟩;have hfa:=k.sub.free hn;refine ak<|dv ?_;rw[ax<|by lia];generalize s.heap.objs.size=a at hn hsm I1 x1 hfa ⊢;refine ak<|pairTrees_cons_walk (fq (Ea on _ Y _ (λv H2=>v=.str "xs"/\H2=dH H a (.dK [])) I1 ⟨rfl,rfl⟩) λu s1 ⟨v,H1,I2,rv,ev,eh⟩=>?_);subst ev;subst eh;obtain⟨tk,rfl⟩:=(rv);refine fq (h1 B F _ Y (λv H2=>∃l vs F2,v=.ref l/\Ext ⟨F,dH H a<|.dK []⟩ F2 H2/\dH H a (.dK []) l=none/\H2 l=some (.lst vs)/\F2 l=none/\Vs X.K F2 vs xs) (k.ext x1) (λl vs F2 H2 x2 g1 g2 g3 g4=>⟨l,vs,F2,rfl,x2,g1,g2,g3,g4⟩) on s1 I2) λu2 s2 ⟨v2,H2,I3,YW,l,vs,F2,ev,x2,g1,g2,g3,g4⟩=>?_;subst ev;cases(YW);refine pairTrees_nil_walk<|dv (ak ?_);have ha2:=x2.sh _ _ aI;obtain⟨z,_,vs0,rel,dd⟩:=(I3.VG a _ ha2);cases rel;rw[yx];refine ak<|ak<|wpAny_dictSet_pairs (knd:=la X.prog X.w) (k:=Sum.inr "xs") (JQ (tk:=tk)) dd (λh' dd' sb=>?_)<|bO _;refine aD ?_;show wpAny _ _ (forIn [] PUnit.unit _) _ _ _;rw[List.forIn_nil];refine aD<|aD ?_;have XY:stored [] (Sum.inr<|Str.ofString "xs") (Value.ref l)=[((Sum.inr (Str.ofString "xs"):nt),Value.ref l)]:=rfl;rw[XY]at dd';have I4:Inv X on Y (dH H2 a<|.dK [(Sum.inr "xs",.ref l)]) {s2 with heap:=h',toks:=s2.toks+1}:=I3.write (by rw[ha2];exact True.intro) (.inl rfl) (λc q hc w=>(sb.2 c hc).trans w) (let⟨o,_,_,h1,_⟩:=dd';⟨o,h1⟩)<|⟨by show 1<=sizeLine;rw[tD];decide,hsm,[((Sum.inr (Str.ofString "xs"):nt),Value.ref l)],.cons ⟨rfl,rfl⟩ .nil,dd'⟩;refine aD<|aD ⟨.ref a,_,I4,rfl,?_⟩;have ZV:=x2.kf hfa aI;have Z0:=x1.t x2;have hla:l≠a:=λz=>by subst z;rw[aI]at g1;cases g1
 have hl0:H l=none:=by rw[aK hla]at g1;exact g1
 refine w a l vs (dH F2 a<|.dK [(Sum.inr "xs",.ref l)]) _ ⟨Cq Z0.sub,λc u z=>?_,Z0.sf.trans<|aP ZV,λc z=>?_⟩ hl0 (by rwa[aK hla]) (by rwa[aK hla]) (g4.mono<|aP ZV)<|.Xi aI;have ne:c≠a:=λe=>by subst e;have z':H c=some u:=z;rw[hn]at z';cases z'
 rw[aK ne];exact Z0.sh c u z;by_cases e:c=a;subst e;exact .inr hn;rw[aK e]at z;exact Z0.nw c z
def Kc(t:At X N sc){C:aM->aM->D->aM->Prop}(h:VV X x C)(h1:VD X U e xs)(ha:VL X U es ds)(hC:C ds xs d xs')(hg:sw sc x:=by rfl)(Wb:pE x:=by rfl):Vp X U (.Call (.Name x p) (.Dict [some<|.Constant (.str "xs") j p1] [e] p2::es) [] pos) d:=λB F0 H Y Q k w=>.mk λon s I=>by let⟨f,fd,ps,kk,F,Yn,hm,hk,hb⟩:=h;have pz:iB jd X E0:=qf;have Xf:Pl (.Dict [some<|.Constant (.str "xs") j p1] [e] p2):=λ_ _=>rfl;refine j7 F Yn (dI t hg) hm hk hb .nil pz nU Wb (Xf _ _) (Yf.any ha.1) on s Y H Q I<|.mk λpos' on s I=>?_;refine bC (aU) (nU) (Xf _ _) pos' on s Y H _ I<|Ob t h1 k λa l vs F1 H1 x1 g0 g1 g2 g3 g4=>ha.2 B F1 H1 Y _ (k.ext x1) λws F2 H2 x2 r2=>?_;have ZV:=x2.stays g1 g2;refine⟨l,F2,ds,d,vs,xs,xs',x2.sub,x2.sh _ _ g1,ZV,g3.mono x2.sf,by rw[aX];exact .cons (g4.mono x2.sf) r2,hC,λv F3 H3 u3 x3 r3 rv=>w v F3 H3 ((x1.t x2).Z7 g0 ZV x3) rv⟩
end
mutual
inductive GP(K:eZ):Value->PyData->Prop where
 |int (i:Int) (t:Tok):GP K (.int i t) (.int i)
 |str (x:Str) (t:Tok):GP K (.str x t) (.str x)
 |tup {a:Addr} {o:Obj} {its:Array Value} {n:Nat} {ps:List PyData}:K.lookup a=some o->o.cls=.type "tuple"->o.data=.seq its n->ZZ K its.toList ps->GP K (.ref a) (.tuple ps)
inductive ZZ(K:eZ):jh->List PyData->Prop where
 |nil:ZZ K [] []
 |cons {v:Value} {vs:jh} {p:PyData} {ps:List PyData}:GP K v p->ZZ K vs ps->ZZ K (v::vs) (p::ps)
end
mutual
def GP.reads(i:K.In h):∀{v:Value}{p:PyData},GP K v p->∃as,Reads h v p as
 |_,_,.int i t=>⟨_,.int i t⟩|_,_,.str x t=>⟨_,.str x t⟩
 |_,_,.tup e c d r=>by let⟨as,ra⟩:=ZZ.reads i r;exact⟨_,.tuple (i _ _ e) c d ra⟩
def ZZ.reads(i:K.In h):∀{vs:jh}{ps:List PyData},ZZ K vs ps->∃as,ReadsAll h vs ps as|_,_,.nil=>⟨_,.nil⟩|_,_,.cons a b=>by let⟨as,ra⟩:=GP.reads i a;let⟨bs,rb⟩:=ZZ.reads i b;exact⟨_,.cons ra rb⟩
end
def qv{x:Str}(t:At X N sc)(hm:X.mg x=some (.ref l))(hk:GP X.K (.ref l) q)(hg:sw sc x:=by rfl)(Wb:pE x:=by rfl):E5 X U (.Name x pos) q:=λB F H Y Q k w=>.mk λon s I=>rf (v:=.ref l) (dI t hg) hm rfl Wb on s Y H Q I (w _ F H (.refl k.sub) λhc H' s' on Y s u I ru=>by cases(ru);exact hk.reads I.WO)
def xQ{r:Bool}(t:At X N sc){qs:List PyData}(ha:E5 X U a q)(hb:E5 X U b (.tuple qs))(sp:q.canLay0=true)(sd:q.depth<=62)(sq:PyData.canLayAll0 qs=true)(he:(qs.any λy=>PyData.eqv y q)=r)(hm:behindInMarks .In b=false:=by rfl):Vr X U (.Compare a [.In] [b] pos) r:=.of (gr (D4 t sp sd sq) aU aU hm) λB F H Y Q k q=>AY ha hb k λx y F' H' x' rx ry=>⟨rx,ry,r,by rw[he],q F' H' x'⟩
def Pk:D->Bool|.VH=>true |.bl _=>true |.int _=>true |.str _=>true |.tup _=>true |.lst _=>true |.WI _=>true |_=>false
def Md(hk:kitOne X.K (.type "dict") (.type T)=some k):iq X (.builtin "isinstance") (λxs H Q=>∃x F kvs,xs=[x,.ty T]/\Vu F H/\Rep X.K F x (.WI kvs)/\Q (.bl k) H):=by
 intro on s Y H xs us Q I r h;obtain⟨v,F,kvs,rfl,sub,rv,q⟩:=h;obtain⟨u,w,rfl,ru,Xn⟩:=wQ r;cases(Xn);cases rv with|@WI a ob _ zs hf _=>
 cases(ru);let⟨_,_,o,h1,h2,_⟩:=zAL.is I (.inr ⟨ob,sub _ _ hf⟩:zAL H a zs);exact cQ HQ I.WO ⟨o,h1,h2.1⟩ hk (λz=>nomatch z) λtk=>⟨.bl k,H,I.tok tk,rfl,q⟩
def Gm(t:At X N sc)(bl:kN X sc x (.builtin "isinstance"))(bt:kN X sc y (.type T))(ha:Vp X U a d)(hp:Pk d=true)(hk:kitOne X.K (Sj d) (.type T)=some k)(hpa:Pl a:=by intro _ _;rfl):Vp X U (.Call (.Name x p) [a,.Name y py] [] pos) (.bl k):=by
 cases d with
 |WI kvs=>exact .of (iH (Md hk) (dI t bl.g) bl.m bl.v (bC aU (bC (wp (v:=.ty T) (dI t bt.g) bt.m bt.v rfl bt.n bt.d) dk)<|hpa _ _) bl.n bl.d (hpa _ _) rfl) λB F H Y Q k' q=>ha B F H Y _ k' λv F' H' x' r=>⟨v,F',kvs,rfl,x'.sub,r,q _ F' H' x'<|.bl k⟩
 |VH=>exact sO t bl bt ha hk (hpa:=hpa)|bl _=>exact sO t bl bt ha hk (hpa:=hpa)
 |int _=>exact sO t bl bt ha hk (hpa:=hpa)|str _=>exact sO t bl bt ha hk (hpa:=hpa)
 |tup _=>exact sO t bl bt ha hk (hpa:=hpa)|lst _=>exact sO t bl bt ha hk (hpa:=hpa)
 |XF _=>cases hp
 |exc _=>cases hp
 |Yp _ _=>cases hp
 |adr _=>cases hp
 |Xi _=>cases hp
def F8:D->Bool|.tup _=>true |_=>false
def JU:D->Bool|.str _=>true |_=>false
def uu(t:At X N sc)(bl:kN X sc x (.builtin "isinstance"))(bt:kN X sc y (.type "tuple"))(ha:Vp X U a d)(hp:Pk d=true)(hpa:Pl a:=by intro _ _;rfl):Vp X U (.Call (.Name x p) [a,.Name y py] [] pos) (.bl<|F8 d):=Gm t bl bt ha hp (by cases d<;>first |rfl |cases hp) hpa
def uv(t:At X N sc)(bl:kN X sc x (.builtin "isinstance"))(bt:kN X sc y (.type "str"))(ha:Vp X U a d)(hp:Pk d=true)(hpa:Pl a:=by intro _ _;rfl):Vp X U (.Call (.Name x p) [a,.Name y py] [] pos) (.bl<|JU d):=Gm t bl bt ha hp (by cases d<;>first |rfl |cases hp) hpa
def MB{lo hi:Option Expr}{l h:Option Int}(ha:Vp X U a (.tup xs))(hl:YK X U lo l)(hh:YK X U hi h):Vp X U (.Subscript a (.Slice lo hi none p2) pos) (.tup<|cutD xs l h):=by
 by_cases hw:HT.VI xs.length 0 l=0/\HT.VI xs.length xs.length h=xs.length;have e:cutD xs l h=xs:=by unfold cutD;rw[hw.1,hw.2];simp
 rw[e];exact Mz ha hl hh hw;exact MA ha.qt hl hh hw
def jv{α:Type}[DecidableEq α](u v:α):(u==v)=decide (u=v):=by by_cases h:u=v;simp[h];simp[h]
def cL(w:Str):(gw<|.str w).depth<=62:=by simp[gw,PyData.depth]
def de{w:Str}(h:PyData.strOk w=true):(gw<|.str w).canLay0=true:=by simp[gw,PyData.canLay0,h]
def gO{w:Str}(h:PyData.strOk w=true):SeqAt.shaped (gw<|.str w)=true:=by show((gw<|.str w).canLay0&&decide ((gw<|.str w).depth<=64))=true;rw[ar<|by have:=cL w;lia,de h];rfl
def U8{u v:Str}(hu:PyData.strOk u=true)(hv:PyData.strOk v=true):PyData.canLayAll0 [.str u,.str v]=true:=by simp[PyData.canLayAll0,PyData.canLay0,hu,hv]
def cK(t:At X N sc)(ha:Vp X U a (.str u))(hb:Vp X U b (.str v))(hu:PyData.strOk u=true)(hv:PyData.strOk v=true:=by decide):Vr X U (.Compare a [.Eq] [b] pos) (decide<|u=v):=kH t ha.p hb.p (gO hu) (gO hv)<|by exact jv u v
def qx(t:At X N sc)(ha:Vp X U a (.str u))(hb:Vp X U b (.str v))(hu:PyData.strOk u=true)(hv:PyData.strOk v=true:=by decide):Vp X U (.Compare a [.Eq] [b] pos) (.bl<|decide<|u=v):=BA t ha.p hb.p (gO hu) (gO hv)<|by exact jv u v
def PJ(u v w:Str):([PyData.str u,.str v].any λy=>PyData.eqv y<|.str w)=(decide (w=u)||decide (w=v)):=by show((u==w)||((v==w)||false))=_;rw[jv,jv,DN,bG.mpr<|Cm,bG.mpr<|Cm (a:=v)]
def Po{u v:Str}(t:At X N sc)(ha:Vp X U a (.str w))(hw:PyData.strOk w=true)(hu:PyData.strOk u=true:=by decide)(hv:PyData.strOk v=true:=by decide):Vr X U (.Compare a [.In] [.Tuple [.Constant (.str u) i p1,.Constant (.str v) j p2] k p3] pos) (decide (w=u)||decide (w=v)):=iy t ha (aC<|ac Vo<|ac Vo af) (de hw) (cL w) (U8 hu hv)<|PJ u v w
theorem Cd{i:Int}{ys:aM}(hi:i=-1\/i=((ys++[d]).length:Int)-1):me (ys++[d]) i=some d:=by
 unfold me;have hl:(ys++[d]).length=ys.length+1:=by simp
 rcases hi with rfl |rfl;have:FZ (ys++[d]).length (-1)=some ys.length:=by unfold FZ;simp[hl];lia
 rw[this];simp;rw[Ep (j:=ys.length) (by lia) (by lia)<|by lia];simp
section
variable {bP:List Stmt}
def rq(ha:Vp X U a (.bl u))(hb:u=true->Vp X U b (.bl v)):Vp X U (.BoolOp .And [a,b] pos) (.bl<|u&&v):=by cases u with|true=>exact MD ha (Kb<|hb rfl)|false=>exact ME ha
def Ey(ha:Vp X U a (.bl u))(hb:u=false->Vp X U b (.bl v)):Vp X U (.BoolOp .Or [a,b] pos) (.bl<|u||v):=by cases u with|true=>exact Pi ha|false=>exact Pj ha<|Kb<|hb rfl
def eM(ha:Vr X U a u)(hb:u=false->Vr X U b v):Vr X U (.BoolOp .Or [a,b] pos) (u||v):=by cases u with|true=>exact W0.toT (va ha)|false=>exact W0.toT<|m4 ha<|qp<|hb rfl
def BB(ha:Vr X U a u)(hb:u=false->Vr X U b v)(hc:u=false->v=false->Vr X U c w):Vr X U (.BoolOp .Or [a,b,c] pos) (u||(v||w)):=by cases u with|true=>exact W0.toT (va ha)|false=>cases v with|true=>exact W0.toT (m4 ha<|va<|hb rfl)|false=>exact W0.toT<|m4 ha<|m4 (hb rfl)<|qp<|hc rfl rfl
def fN(ha:Vr X U a u)(hb:u=true->Vr X U b v):Vr X U (.BoolOp .And [a,b] pos) (u&&v):=by cases u with|true=>exact W0.toT (rj ha<|wt<|hb rfl)|false=>exact W0.toT<|ut ha
def BF(ha:Vr X U a u)(hb:u=true->Vr X U b v)(hc:u=true->v=true->Vr X U c w):Vr X U (.BoolOp .And [a,b,c] pos) (u&&(v&&w)):=by
 cases u with
 |true=>cases v with|true=>exact W0.toT (rj ha<|rj (hb rfl)<|wt<|hc rfl rfl)|false=>exact W0.toT<|rj ha<|ut<|hb rfl
 |false=>exact W0.toT<|ut ha
def ip(hc:Vr X U c u)(h1:u=true->Vt X U body (.rt d))(h2:u=false->Vt X U bP (.rt d)):Vt X U (.If c body [] pos::bP) (.rt d):=by cases u with|true=>exact dC (dA hc<|h1 rfl)|false=>exact au (cj hc bQ)<|h2 rfl
end
def all_map(g:D->Bool)(xs:aM):(xs.map g).all id=xs.all g:=by rw[yr];rfl
def Wv.scan{Y:Type}(R:Y->cE)(I F:Y->Prop)(μ:Y->Nat)(st:∀s,I s->(Vr X (R s) c false/\F s)\/(Vr X (R s) c true/\(Vt X (R s) body (.rt d0)\/∃s',Vt X (R s) body (.nx<|R s')/\I s'/\μ s'<μ s))):∀(n:Nat)(s:Y),μ s<=n->I s->∃m o,Wv X c body m (R s) o/\(o=.rt d0\/∃s',o=.nx (R s')/\F s')|n,s,hn,hI=>by rcases st s hI with⟨h1,h2⟩ |⟨h1,h2 |⟨s',h2,h3,h4⟩⟩;exact⟨0,_,.stop h1,.inr ⟨s,rfl,h2⟩⟩;exact⟨0,_,.ret h1 h2,.inl rfl⟩;cases n with|zero=>lia|succ n=>let⟨m,o,hr,ho⟩:=Wv.scan R I F μ st n s' (by lia) h3;exact⟨m+1,o,.step h1 h2 hr,ho⟩
def Hu{bP:List Stmt}{Y:Type}(t:At X N sc)(R:Y->cE)(I F:Y->Prop)(μ:Y->Nat)(s0:Y)(h0:I s0)(st:∀s,I s->(Vr X (R s) c false/\F s)\/(Vr X (R s) c true/\(Vt X (R s) body (.rt d0)\/∃s',Vt X (R s) body (.nx<|R s')/\I s'/\μ s'<μ s)))(fin:∀s,F s->Vt X (R s) bP (.rt d0)):Vt X (R s0) (.While c body [] pos::bP) (.rt d0):=by let⟨m,o,hr,ho⟩:=Wv.scan R I F μ st (μ s0) s0 (ao _) h0;have run:=gp (pos:=pos) t ⟨m,hr⟩;rcases ho with rfl |⟨s',rfl,hf⟩;exact dC run;exact au run<|fin s' hf
def Ul(mg:tK)(K:eZ)(x:Str)(q:PyData):Prop:=∃l,mg x=some (.ref l)/\GP K (.ref l) q
def TZ(d:D)(xs:aM):L2.EV.cutD (d::xs) (some 1) none=xs:=by
 unfold L2.EV.cutD;have e1:HT.VI (d::xs).length 0 (some 1)=1:=by unfold HT.VI;simp;try lia
 have e2:HT.VI (d::xs).length (d::xs).length none=(d::xs).length:=rfl;rw[e1,e2];simp
def Nz(ns:bR):ns=[]\/∃m i,ns=m++[i]:=by cases h:ns.getLast? with|none=>exact .inl (List.getLast?_eq_none_iff.mp h)|some y=>let⟨ys,e⟩:=List.getLast?_eq_some_iff.mp h;exact .inr ⟨ys,y,e⟩
def RD{xs:aM}{n:Nat}(h:n<=xs.length):L2.EV.cutD xs none (some (n:Int))=xs.take n:=by unfold L2.EV.cutD;rw[HT.Yh,HT.YN,M3 h];simp
def BL{n:Nat}:L2.EV.cutD xs (some (n:Int)) none=xs.drop n:=by unfold L2.EV.cutD;rw[HT.Yh,HT.YN];by_cases h:n<=xs.length;rw[M3 h];rw[<-bX,bW];rw[Nat.min_eq_right<|by lia,nJ<|ao _,nJ<|by lia];simp
def xM{x:Str}(t:At X N sc)(hm:X.mg x=some (.ref l))(hg:sw sc x:=by rfl)(Wb:pE x:=by rfl):Vp X U (.Name x pos) (.adr l):=.of (rf (v:=.ref l) (dI t hg) hm rfl Wb) λB F H Y Q k w=>w _ F H (.refl k.sub)<|.adr l
structure LS where
 cs:Type
 ds:Type
 ov:cs->Addr->Option HO
 dom:∀c c' a,ov c a=none->ov c' a=none
 rep:eZ->Hp->cs->ds->Prop
 mono:∀{K:eZ}{F F':Hp}{c:cs}{s:ds},Vu F F'->rep K F c s->rep K F' c s
def k9(o:Addr->Option HO)(H:Hp):Hp:=λa=>match o a with
 |some u=>some u|none=>H a
def gP{a:Addr}{o:Addr->Option HO}(h:o a=some u):k9 o H a=some u:=by unfold k9;rw[h]
def dL{a:Addr}{o:Addr->Option HO}(h:o a=none):k9 o H a=H a:=by unfold k9;rw[h]
def Vy(S:LS)(B:B0)(c:S.cs):B0:=⟨B.F,k9 (S.ov c) B.H⟩
structure Ln(S:LS)(K:eZ)(B:B0)(F:Hp)(c:S.cs)(s:S.ds):Prop where
 st:∀a u,S.ov c a=some u->B.H a=some u
 fr:∀a u,S.ov c a=some u->B.F a=none
 rep:S.rep K F c s
section
variable {S:LS}{c c1 c2:S.cs}{s s1 s2:S.ds}
def Vy.same{B:B0}(h:∀a u,S.ov c a=some u->B.H a=some u):Vy S B c=B:=by
 have:k9 (S.ov c) B.H=B.H:=funext λa=>by cases e:S.ov c a with|none=>exact dL e|some u=>rw[gP e,h a u e]
 show(⟨B.F,k9 (S.ov c) B.H⟩:B0)=B;rw[this]
def Vy.up:Vy S (Vy S B c) c1=Vy S B c1:=by
 have:k9 (S.ov c1) (k9 (S.ov c) B.H)=k9 (S.ov c1) B.H:=funext λa=>by cases e:S.ov c1 a with|some u=>rw[gP e,gP e]|none=>rw[dL e,dL e,dL<|S.dom c1 c a e]
 show(⟨B.F,k9 (S.ov c1)<|k9 (S.ov c) B.H⟩:B0)=⟨B.F,k9 (S.ov c1) B.H⟩;rw[this]
def LS.has{a:Addr}(h:S.ov c1 a=some u)(c:S.cs):∃v,S.ov c a=some v:=by cases e:S.ov c a with|some v=>exact⟨v,rfl⟩|none=>rw[S.dom c c1 a e]at h;cases h
def Ln.free{a:Addr}(l:Ln S K B F c s)(x:Ext B F H)(h:S.ov c1 a=some u):F a=none:=by let⟨v,hv⟩:=LS.has h c;exact x.kf (l.fr a v hv)<|l.st a v hv
def Ln.up(l:Ln S K B F c s)(r:S.rep K F1 c1 s1):Ln S K (Vy S B c1) F1 c1 s1:=⟨λa u h=>gP h,λa u h=>by let⟨v,hv⟩:=LS.has h c;exact l.fr a v hv,r⟩
def Ln.ext(l:Ln S K B F c s)(x:Ext ⟨F,H⟩ F' H'):Ln S K B F' c s:=⟨l.st,l.fr,S.mono x.sf l.rep⟩
def Ok.Yt(k:Ok K B F H Y U)(l:Ln S K B F c s):Ok K (Vy S B c1) F (k9 (S.ov c1) H) Y U:=by
 have hf:∀a u,S.ov c1 a=some u->F a=none:=λa u h=>l.free k.toExt h;have ho:∀a,B.H a=none->S.ov c1 a=none:=λa h=>by cases e:S.ov c1 a with|none=>rfl|some u=>let⟨v,hv⟩:=LS.has e c;rw[l.st a v hv]at h;cases h
 refine⟨⟨λb u q=>?_,λb u q=>?_,k.sf,λa q=>?_⟩,k.len,k.vals,λi ys h=>?_,k.dist,⟨λi kvs h=>?_,k.WI.Yr⟩⟩;cases e:S.ov c1 b with
 |some v=>rw[hf b v e]at q;cases q
 |none=>rw[dL e];exact k.sub b u q
 have q':k9 (S.ov c1) B.H b=some u:=q;cases e:S.ov c1 b with|some v=>rw[gP e]at q' ⊢;exact q'|none=>rw[dL e]at q' ⊢;exact k.sh b u q'
 rcases k.nw a q with z |z;exact .inl z;refine .inr ?_;show k9 (S.ov c1) B.H a=none;rwa[dL<|ho a z];let⟨a,vs,h1,h2,h3,h4,h5⟩:=k.We i ys h;have e:=ho a h4;exact⟨a,vs,h1,by rwa[dL e],h3,by show k9 (S.ov c1) B.H a=none;rwa[dL e],h5⟩;let⟨a,es,h1,h2,h3,h4,h5⟩:=k.WI.YH i kvs h;have e:=ho a h4;exact⟨a,es,h1,by rwa[dL e],h3,by show k9 (S.ov c1) B.H a=none;rwa[dL e],h5⟩
def Ok.V6(k:Ok K B F H Y U)(l:Ln S K B F c s)(x:Ext (Vy S ⟨F,H⟩ c1) F1 H1):Ok K (Vy S B c1) F1 H1 Y U:=(k.Yt l).ext x
def K3(x:Ext (Vy S ⟨F,H⟩ c1) F1 H1)(hf:∀a u,S.ov c1 a=some u->F a=none)(h:S.ov c2 a=some u):F1 a=none:=by let⟨v,hv⟩:=LS.has h c1;exact x.kf (hf a v hv)<|gP hv
def Ext.reZ(x:Ext (Vy S ⟨F,H⟩ c1) F1 H1)(hf:∀a u,S.ov c1 a=some u->F a=none):Ext (Vy S ⟨F,H⟩ c2) F1 (k9 (S.ov c2) H1):=by
 refine⟨λb u z=>?_,λb u z=>?_,x.sf,λa z=>?_⟩;cases e:S.ov c2 b with
 |some v=>rw[K3 x hf e]at z;cases z
 |none=>rw[dL e];exact x.sub b u z
 have z':k9 (S.ov c2) H b=some u:=z;cases e:S.ov c2 b with|some v=>rw[gP e]at z' ⊢;exact z'|none=>rw[dL e]at z' ⊢;exact x.sh b u<|by show k9 (S.ov c1) H b=some u;rwa[dL<|S.dom c2 c1 b e]
 rcases x.nw a z with y |y;exact .inl y;refine .inr ?_;have y':k9 (S.ov c1) H a=none:=y;show k9 (S.ov c2) H a=none;cases e:S.ov c1 a with
 |some v=>rw[gP e]at y';cases y'
 |none=>rw[dL e]at y';rwa[dL<|S.dom c1 c2 a e]
def Ext.tZ(x:Ext (Vy S ⟨F,H⟩ c1) F1 H1)(hf:∀a u,S.ov c1 a=some u->F a=none)(y:Ext (Vy S ⟨F1,H1⟩ c2) F2 H2):Ext (Vy S ⟨F,H⟩ c2) F2 H2:=(x.reZ hf).trans y
def Ext.toZ(x:Ext ⟨F,H⟩ F1 H1)(h:∀a u,S.ov c a=some u->H a=some u):Ext (Vy S ⟨F,H⟩ c) F1 H1:=by rwa[Vy.same h]
def Ln.now(l:Ln S K B F c s)(k:Ok K B F H Y U):∀a u,S.ov c a=some u->H a=some u:=λa u h=>k.sh _ _<|l.st a u h
def Ln.ff(l:Ln S K B F c s)(k:Ok K B F H Y U):∀a u,S.ov c1 a=some u->F a=none:=λa u h=>l.free k.toExt h
end
def Vz(S:LS)(X:Cx)(U:cE)(e:Expr)(d:D)(s s':S.ds):Prop:=∀(B:B0)(F H:Hp)(Y:St)(Q:VK)(c:S.cs),Ln S X.K B F c s->Ok X.K B F H Y U->(∀v F' H' c',Ext (Vy S ⟨F,H⟩ c') F' H'->S.rep X.K F' c' s'->Rep X.K F' v d->Q v H')->wE X e Y H Q
def HL(S:LS)(X:Cx)(U:cE)(es:tL)(ds:aM)(s s':S.ds):Prop:=Yf es/\∀(B:B0)(F H:Hp)(Y:St)(Q:fh->Hp->Prop)(c:S.cs),Ln S X.K B F c s->Ok X.K B F H Y U->(∀vs F' H' c',Ext (Vy S ⟨F,H⟩ c') F' H'->S.rep X.K F' c' s'->Vs X.K F' vs ds->Q vs H')->wA X es Y H Q
def VC(S:LS)(X:Cx)(U:cE)(e:Expr)(b:Bool)(s s':S.ds):Prop:=∀(B:B0)(F H:Hp)(Y:St)(Q:Bool->Hp->Prop)(c:S.cs),Ln S X.K B F c s->Ok X.K B F H Y U->(∀F' H' c',Ext (Vy S ⟨F,H⟩ c') F' H'->S.rep X.K F' c' s'->Q b H')->wT X e Y H Q
def vK(S:LS)(K:eZ)(B:B0)(F₀:Hp)(E:mn)(s':S.ds):Out->Prop|.nx U=>∀F H Y c,Ok K (Vy S B c) F H Y U->S.rep K F c s'->Vu F₀ F->E.nx Y H|.rt d=>∀v F H c,Ext (Vy S B c) F H->S.rep K F c s'->Rep K F v d->E.rt v H
def Wq(S:LS)(X:Cx)(U:cE)(WJ:List Stmt)(o:Out)(s s':S.ds):Prop:=∀(B:B0)(F H:Hp)(Y:St)(E:mn)(c:S.cs),Ln S X.K B F c s->Ok X.K B F H Y U->vK S X.K B F E s' o->wSs X WJ E Y H
def V0(S:LS)(X:Cx)(U:cE)(st:Stmt)(o:Out)(s s':S.ds):Prop:=∀(B:B0)(F H:Hp)(Y:St)(E:mn)(c:S.cs),Ln S X.K B F c s->Ok X.K B F H Y U->vK S X.K B F E s' o->wS X st E Y H
section
variable {S:LS}{st:Stmt}{bP:List Stmt}{s s1 s2 s':S.ds}{ds:aM}
def Vp.z(h:Vp X U e d):Vz S X U e d s s:=λB F H Y Q c l k w=>h B F H Y Q k λv F' H' x r=>w v F' H' c (x.toZ<|l.now k) (S.mono x.sf l.rep) r
def VL.z(h:VL X U es ds):HL S X U es ds s s:=⟨h.1,λB F H Y Q c l k w=>h.2 B F H Y Q k λv F' H' x r=>w v F' H' c (x.toZ<|l.now k) (S.mono x.sf l.rep) r⟩
def Vr.z(h:Vr X U e r):VC S X U e r s s:=λB F H Y Q c l k w=>h B F H Y Q k λF' H' x=>w F' H' c (x.toZ<|l.now k)<|S.mono x.sf l.rep
def Vz.eq{d':D}(h:Vz S X U e d s s')(q:d=d'):Vz S X U e d' s s':=q▸h
def VC.eq{r':Bool}(h:VC S X U e r s s')(q:r=r'):VC S X U e r' s s':=q▸h
def bb(h1:Vz S X U e d s s1)(h2:HL S X U es ds s1 s')(hs:Pl e:=by intro _ _;rfl):HL S X U (e::es) (d::ds) s s':=⟨⟨hs,h2.1⟩,λB F H Y Q c l k w=>.mk λpos on st I=>bC aU nU (hs _ _) pos on st Y H Q I (h1 B F H Y _ c l k λv F1 H1 c1 x1 r1 rv=>h2.2 (Vy S B c1) F1 H1 Y _ c1 (l.up r1) (k.V6 l x1) λvs F2 H2 c2 x2 r2 rvs=>w _ F2 H2 c2 (x1.tZ (l.ff k) x2) r2<|.cons (rv.mono x2.sf) rvs)⟩
def Pe(h:HL S X U es ds s s')(hl:ds.length<=sizeLine:=by exact cM rfl):Vz S X U (.Tuple es x1 pos) (.tup ds) s s':=λB F H Y Q c l k w=>.mk λon st I=>Bj nU on st Y H Q I (h.2 B F H Y _ c l k λvs F' H' c1 x r rv=>⟨by rwa[rv.length],λp hp=>w _ _ _ c1 (x.grow hp) (S.mono (aP<|x.sub.free hp) r)<|.tup aI<|rv.mono<|aP<|x.sub.free hp⟩)
def G0{db:D}(ha:Vz S X U a da s s1)(hb:Vz S X U b db s1 s'){R:V->V->Hp->Prop}{c:S.cs}(l:Ln S X.K B F c s)(k:Ok X.K B F H Y U)(h:∀x y F' H' c',Ext (Vy S ⟨F,H⟩ c') F' H'->S.rep X.K F' c' s'->Rep X.K F' x da->Rep X.K F' y db->R x y H'):wE X a Y H λx H1=>wE X b Y H1 λy H2=>R x y H2:=ha B F H Y _ c l k λx F1 H1 c1 x1 r1 rv=>hb (Vy S B c1) F1 H1 Y _ c1 (l.up r1) (k.V6 l x1) λy F2 H2 c2 x2 r2 ry=>h x y F2 H2 c2 (x1.tZ (l.ff k) x2) r2 (rv.mono x2.sf) ry
def Rep.rd(sub:Vu F H)(r:Rep X.K F v d):X6 X H v (gw d):=λhs H2 s2 on Y s u I ru=>r.reads I (sub.trans s2) ru hs
def Qy{db:D}{r:Bool}(t:At X N sc)(ha:Vz S X U a da s s1)(hb:Vz S X U b db s1 s')(sp:SeqAt.shaped (gw da)=true)(sq:SeqAt.shaped (gw db)=true)(hr:(gw da).eqv (gw db)=r):VC S X U (.Compare a [.Eq] [b] pos) r s s':=λB F H Y Q c l k w=>.mk λon st I=>gr (FE t sp sq) aU aU (eE _<|by decide) on st Y H Q I (G0 ha hb l k λx y F' H' c' x' r' rx ry=>⟨rx.rd x'.sub,ry.rd x'.sub,r,by rw[hr],w F' H' c' x' r'⟩)
def M9{r:Bool}(t:At X N sc)(ha:Vz S X U a da s s1)(hb:Vz S X U b (.tup xs) s1 s')(sp:(gw da).canLay0=true)(sd:(gw da).depth<=62)(sq:PyData.canLayAll0 (VA xs)=true)(he:((VA xs).any λy=>PyData.eqv y<|gw da)=r)(hm:behindInMarks .In b=false:=by rfl):VC S X U (.Compare a [.In] [b] pos) r s s':=λB F H Y Q c l k w=>.mk λon st I=>gr (D4 t sp sd sq) aU aU hm on st Y H Q I (G0 ha hb l k λx y F' H' c' x' r' rx ry=>⟨rx.rd x'.sub,(ry.rd x'.sub:X6 X H' y (.tuple<|VA xs)),r,by rw[he],w F' H' c' x' r'⟩)
def Fk(ha:Vz S X U a (.int i) s s1)(hb:Vz S X U b (.int j) s1 s'):VC S X U (.Compare a [.Lt] [b] pos) (decide<|i<j) s s':=λB F H Y Q c l k w=>.mk λon st I=>gr Jx aU aU (eE _<|by decide) on st Y H Q I (G0 ha hb l k λx y F' H' c' x' r' rx ry=>by cases rx;cases ry;exact⟨i,j,rfl,rfl,_,rfl,w F' H' c' x' r'⟩)
def Pg(hc:VC S X U cd true s s1)(ha:Vz S X U a d s1 s'):Vz S X U (.IfExp cd a b pos) d s s':=λB F H Y Q c l k w=>.mk λon st I=>ub mX aU aU on st Y H Q I (hc B F H Y _ c l k λF1 H1 c1 x1 r1=>by rw[ax rfl];exact ha (Vy S B c1) F1 H1 Y _ c1 (l.up r1) (k.V6 l x1) λv F2 H2 c2 x2 r2 rv=>w v F2 H2 c2 (x1.tZ (l.ff k) x2) r2 rv)
def Ph(hc:VC S X U cd false s s1)(hb:Vz S X U b d s1 s'):Vz S X U (.IfExp cd a b pos) d s s':=λB F H Y Q c l k w=>.mk λon st I=>ub mX aU aU on st Y H Q I (hc B F H Y _ c l k λF1 H1 c1 x1 r1=>by rw[av aA];exact hb (Vy S B c1) F1 H1 Y _ c1 (l.up r1) (k.V6 l x1) λv F2 H2 c2 x2 r2 rv=>w v F2 H2 c2 (x1.tZ (l.ff k) x2) r2 rv)
def xg{c:S.cs}(l:Ln S X.K B F c s)(k:Ok X.K B F H Y U)(q:vK S X.K B F E s o):(∃W1,o=.nx W1/\W8 X.K B F E o)\/(∃d,o=.rt d/\W8 X.K ⟨F,B.H⟩ F E o):=by cases o with|nx W1=>exact .inl ⟨W1,rfl,λF' H' xy k' s'=>q F' H' xy c (by rwa[Vy.same l.st]) (S.mono s' l.rep) s'⟩|rt d=>exact .inr ⟨d,rfl,λv F' H' x r=>q v F' H' c (by rw[Vy.same l.st];exact k.toExt.Zp x) (S.mono x.sf l.rep) r⟩
def Vt.z(h:Vt X U WJ o):Wq S X U WJ o s s:=λB F H Y E c l k q=>by rcases xg l k q with⟨_,_,z⟩ |⟨_,_,z⟩;exact h B F H Y E k z;exact h ⟨F,B.H⟩ F H Y E k.now z
def VN.z(h:VN X U st o):V0 S X U st o s s:=λB F H Y E c l k q=>by rcases xg l k q with⟨_,_,z⟩ |⟨_,_,z⟩;exact h B F H Y E k z;exact h ⟨F,B.H⟩ F H Y E k.now z
def xf{c:S.cs}(q:vK S X.K B F E s' o)(sf:Vu F F1):vK S X.K (Vy S B c) F1 E s' o:=by
 cases o with
 |nx W1=>exactλF' H' xy c' k r s'=>q F' H' xy c' (by rw[Vy.up]at k;exact k) r<|sf.trans s'
 |rt d=>exactλv F' H' c' x r rv=>q v F' H' c' (by rw[Vy.up]at x;exact x) r rv
def bo(h1:V0 S X U st (.nx Wp) s s1)(h2:Wq S X Wp bP o s1 s'):Wq S X U (st::bP) o s s':=λB F H Y E c l k q=>.mk λon w I=>gA uP dU on w Y H E I (h1 B F H Y _ c l k λF1 H1 WF c1 k1 r1 sf=>h2 (Vy S B c1) F1 H1 WF E c1 (l.up r1) k1<|xf q sf)
def cA(h1:V0 S X U st o s s'):Wq S X U [st] o s s':=λB F H Y E c l k q=>.mk λon w I=>oH uP on w Y H E I<|h1 B F H Y E c l k q
def pU:Wq S X U [] (.nx U) s s:=Vt.z bQ
def H9(h1:V0 S X U st (.rt d) s s'):Wq S X U (st::bP) (.rt d) s s':=λB F H Y E c l k w=>.mk λon q I=>gA uP dU on q Y H E I<|h1 B F H Y _ c l k w
def gN[WR X](t:At X N sc)(i:Nat)(h:Vz S X U e d s s')(hi:N[i]?=some x:=by rfl)(hx:ml sc x=true:=by rfl)(hs:swapsWith e (some<|.Name x pos') pos.line X.env=pure false:=by rfl):V0 S X U (.Assign [.Name x pos'] e pos) (.nx<|U.set i<|.val d) s s':=λB F H Y E c l k w=>.mk λon q I=>oI t.nd (t.ix hi) (t.loc hx) aU hs Ga on q Y H E I (h B F H Y _ c l k λv F' H' c1 x' r rv=>w F' H' _ c1 ((k.V6 l x').VP i rv) r x'.sf)
def wM(h:Vz S X U e d s s'):V0 S X U (.Return (some e) pos) (.rt d) s s':=λB F H Y E c l k w=>.mk λon q I=>uQ aU on q Y H E I (h B F H Y _ c l k λv F' H' c1 x' r rv=>w v F' H' c1 (k.V6 l x').toExt r rv)
def cz(h:Vz S X U e d s s')(XX:swapsWith e none pos.line X.env=pure false:=by rfl):V0 S X U (.Expr e pos) (.nx U) s s':=λB F H Y E c l k w=>.mk λon q I=>k8 aU XX on q Y H E I (h B F H Y _ c l k λv F' H' c1 x' r rv=>w F' H' Y c1 (k.V6 l x') r x'.sf)
def sv(hc:VC S X U cd true s s1)(h:Wq S X U ss o s1 s'):V0 S X U (.If cd ss us pos) o s s':=λB F H Y E c l k w=>.mk λon q I=>xb mX dU dU on q Y H E I (hc B F H Y _ c l k λF1 H1 c1 x1 r1=>by rw[ax rfl];exact h (Vy S B c1) F1 H1 Y E c1 (l.up r1) (k.V6 l x1)<|xf w x1.sf)
def lA(hc:VC S X U cd false s s1)(h:Wq S X U us o s1 s'):V0 S X U (.If cd ss us pos) o s s':=λB F H Y E c l k w=>.mk λon q I=>xb mX dU dU on q Y H E I (hc B F H Y _ c l k λF1 H1 c1 x1 r1=>by rw[av aA];exact h (Vy S B c1) F1 H1 Y E c1 (l.up r1) (k.V6 l x1)<|xf w x1.sf)
inductive WB(S:LS)(X:Cx)(cd:Expr)(body:List Stmt):Nat->cE->S.ds->cE->S.ds->Prop where
 |stop {U:cE} {s s1:S.ds}:VC S X U cd false s s1->WB S X cd body 0 U s U s1
 |step {n:Nat} {U Wp WP:cE} {s s1 s2 s3:S.ds}:VC S X U cd true s s1->Wq S X U body (.nx Wp) s1 s2->WB S X cd body n Wp s2 WP s3->WB S X cd body (n+1) U s WP s3
def nL(t:At X N sc)(h:∃n,WB S X cd body n U s W1 s'):V0 S X U (.While cd body [] pos) (.nx W1) s s':=λB F H Y E c l k q=>.mk λon w I=>xa t.pass mX dU on w Y H E I (by
  obtain⟨n,h⟩:=h;refine⟨λm Y H=>∃Wp F1 c1 s1,Ok X.K (Vy S B c1) F1 H Y Wp/\S.rep X.K F1 c1 s1/\Vu F F1/\WB S X cd body m Wp s1 W1 s',⟨n,U,F,c,s,by rwa[Vy.same l.st],l.rep,.refl _,h⟩,?_⟩;rintro m Y H ⟨Wp,F1,c1,s1,k1,r1,sf,run⟩;have l1:=l.up r1;cases run with
  |stop hc=>refine hc (Vy S B c1) F1 H Y _ c1 l1 k1 λF2 H2 c2 x2 r2=>?_;rw[av aA];have k2:=k1.V6 l1 x2;rw[Vy.up]at k2;exact q F2 H2 Y c2 k2 r2<|sf.trans x2.sf
  |@step n0 _ ρa _ _ sa sb _ hc hb r=>refine hc (Vy S B c1) F1 H Y _ c1 l1 k1 λF2 H2 c2 x2 r2=>?_;rw[ax rfl];have k2:=k1.V6 l1 x2;rw[Vy.up]at k2;refine⟨λxy H'=>∃Xe c'',Ok X.K (Vy S B c'') Xe H' xy ρa/\S.rep X.K Xe c'' sb/\Vu F Xe,λxy H' ⟨Xe,c'',Zw,r'',XG⟩=>⟨_,fC _,_,Xe,c'',_,Zw,r'',XG,r⟩,hb (Vy S B c2) F2 H2 Y _ c2 (l.up r2) k2 λF3 H3 XV c3 k3 r3 s3=>⟨F3,c3,?_,r3,sf.trans (x2.sf.trans s3)⟩⟩;rw[Vy.up]at k3;exact k3)
def Wq.weak(h:Wq S X U WJ (.nx Wp) s s')(w:Xt Wp WP):Wq S X U WJ (.nx WP) s s':=λB F H Y E c l k pq=>h B F H Y E c l k λF' H' xy ws k' r sf=>pq F' H' xy ws (k'.weak w) r sf
end
structure m7 where
 C:Addr
 p:Addr
 dx:Addr
 q:Addr
 l:Addr
 toks:cn
def JW(r:m7)(n:Int):HO:=.ins r.C r.dx [("tokens",.ref r.l),("done",.int n),("steps",.ref r.q)]
def Vv(r:m7):LS where
 cs:=Int×fh
 ds:=Int×aM
 ov c a:=if a=r.p then some (JW r c.1)else if a=r.q then some (.lst c.2)else none
 dom c c' a h:=by by_cases h1:a=r.p;rw[ax h1]at h;cases h;rw[av h1]at h ⊢;by_cases h2:a=r.q;rw[ax h2]at h;cases h;rw[av h2]
 rep K F c s:=c.1=s.1/\Vs K F c.2 s.2/\F r.l=some (.lst<|r.toks.map V.str)
 mono:=λsf h=>⟨h.1,h.2.1.mono sf,sf _ _ h.2.2⟩
structure gn(K:eZ)(r:m7):Prop where
 cls:Zl K r.C
 n1:VM K r.C "tokens"
 n2:VM K r.C "done"
 n3:VM K r.C "steps"
 ne:r.q≠r.p
abbrev HK(X:Cx)(N:List Str)(st:Stmt)(C:List Str->List D->Int×List D->D->Int×List D->Prop):Prop:=∀(r:m7),gn X.K r->∀ds s d s',C r.toks ds s d s'->Wq (Vv r) X (P9 (.adr r.p) N ds) (aW st) (.rt d) s s'\/(d=.VH/\∃W1,Wq (Vv r) X (P9 (.adr r.p) N ds) (aW st) (.nx W1) s s')
def AB:∀ts:cn,Vs K F (ts.map V.str) (ts.map D.str)|[]=>.nil|t::ts=>.cons (.str t)<|AB ts
def Vv.Y5{c:Int×fh}:(Vv r).ov c r.p=some (JW r c.1):=ax rfl
def Vv.Zj{r:m7}(ok:r.q≠r.p){c:Int×fh}:(Vv r).ov c r.q=some (.lst c.2):=by show(if r.q=r.p then _ else if r.q=r.q then _ else _)=_;rw[av ok,ax rfl]
def EY{i:Nat}{Q:VK}{U:cE}(t:At X N sc)(hr:U[i]?=some (.val<|.adr q))(hN:N[i]?=some x)(hv:fS sc x=true)(hx:cU x=true)(k:Ok X.K B F H Y U)(h:Q (.ref q) H):wE X (.Name x py) Y H Q:=.mk λon s I=>by let⟨v,h1,h2⟩:=k.vals i _ hr;cases h2;exact y8 t hN hv hx on s Y H Q I ⟨_,h1,h⟩
def t9{U:cE}(t:At X N sc)(ok:gn X.K r)(i:Nat){s:Int×aM}(hr:U[i]?=some (.val<|.adr r.p))(hN:N[i]?=some x:=by rfl)(hv:fS sc x=true:=by rfl)(hx:cU x=true:=by rfl)(hb:attributeBase (.Name x py) "tokens" X.env (eval (.Name x py) X.env)=eval (.Name x py) X.env:=by rfl):Vz (Vv r) X U (.Attribute (.Name x py) "tokens" pos) (.lst<|r.toks.map D.str) s s:=λB F H Y Q c l k w=>.mk λon st I=>uS aU hb on st Y H Q I<|EY t hr hN hv hx k ⟨r.p,r.C,r.dx,_,.ref r.l,rfl,l.now k _ _ Vv.Y5,ok.cls,ok.n1,rfl,w _ F H c ((Ext.refl k.sub).toZ<|l.now k) l.rep<|.lst l.rep.2.2<|AB _⟩
def ua{U:cE}(t:At X N sc)(ok:gn X.K r)(i:Nat){s:Int×aM}(hr:U[i]?=some (.val<|.adr r.p))(hN:N[i]?=some x:=by rfl)(hv:fS sc x=true:=by rfl)(hx:cU x=true:=by rfl)(hb:attributeBase (.Name x py) "done" X.env (eval (.Name x py) X.env)=eval (.Name x py) X.env:=by rfl):Vz (Vv r) X U (.Attribute (.Name x py) "done" pos) (.int s.1) s s:=λB F H Y Q c l k w=>.mk λon st I=>uS aU hb on st Y H Q I<|EY t hr hN hv hx k ⟨r.p,r.C,r.dx,_,.int c.1,rfl,l.now k _ _ Vv.Y5,ok.cls,ok.n2,rfl,w _ F H c ((Ext.refl k.sub).toZ<|l.now k) l.rep<|by rw[l.rep.1];exact .int _⟩
def OC{r:m7}{c c':Int×fh}(ok:r.q≠r.p)(h:∀a u,(Vv r).ov c a=some u->H a=some u)(hc:c'.2=c.2):k9 ((Vv r).ov c') H=dH H r.p (JW r c'.1):=funext λa=>by by_cases h1:a=r.p;subst h1;rw[gP Vv.Y5,aI];rw[aK h1];by_cases h2:a=r.q;subst h2;rw[gP<|Vv.Zj ok,h _ _<|Vv.Zj ok,hc];exact dL (show(if a=r.p then _ else if a=r.q then _ else _)=_ by rw[av h1,av h2])
def Ju{r:m7}{c c':Int×fh}(ok:r.q≠r.p)(h:∀a u,(Vv r).ov c a=some u->H a=some u)(hc:c'.1=c.1):k9 ((Vv r).ov c') H=dH H r.q (.lst c'.2):=funext λa=>by by_cases h1:a=r.p;subst h1;rw[gP Vv.Y5,aK<|eF ok,h _ _ Vv.Y5,hc];by_cases h2:a=r.q;subst h2;rw[gP<|Vv.Zj ok,aI];rw[aK h2];exact dL (show(if a=r.p then _ else if a=r.q then _ else _)=_ by rw[av h1,av h2])
def LD{U:cE}(t:At X N sc)(ok:gn X.K r)(i:Nat)(hr:U[i]?=some (.val<|.adr r.p))(he:Vp X U e (.int m))(hN:N[i]?=some x:=by rfl)(hv:fS sc x=true:=by rfl)(hx:cU x=true:=by rfl):V0 (Vv r) X U (.AugAssign (.Attribute (.Name x py) "done" ps) .Add e pos) (.nx U) (n,xs) (n+m,xs):=λB F H Y E c l k w=>.mk λon st I=>Ha (rd:=Tz) aU aU (λon s Y H x y u v Q I rx ry h=>by obtain⟨i,j,rfl,rfl,q⟩:=h;obtain⟨t1,rfl⟩:=rx;obtain⟨t2,rfl⟩:=ry;exact iadd_int ⟨.int<|i+j,H,I.tok _,⟨_,rfl⟩,q⟩) on st Y H E I<|EY t hr hN hv hx k ⟨r.p,r.C,r.dx,_,.int c.1,rfl,l.now k _ _ Vv.Y5,ok.cls,ok.n2,rfl,he B F H Y _ k λv F1 H1 x1 r1=>by cases r1;have k1:=k.ext x1;have l1:=l.ext x1;refine⟨c.1,m,rfl,rfl,r.dx,_,l1.now k1 _ _ Vv.Y5,cM rfl,?_⟩;have hq:=w F1 (k9 ((Vv r).ov (c.1+m,c.2)) H1) Y (c.1+m,c.2) (k1.Yt l1) ⟨by rw[l.rep.1],l1.rep.2⟩ x1.sf;rw[OC (c':=(c.1+m,c.2)) ok.ne (l1.now k1) rfl]at hq;exact hq⟩
def kZ{U:cE}{apos:Pos}{Vx:Pos}(t:At X N sc)(ok:gn X.K r)(i:Nat){s s1:Int×aM}(hr:U[i]?=some (.val<|.adr r.p))(he:Vz (Vv r) X U e d s s1)(hz:s1.2.length<sizeLine)(hN:N[i]?=some x:=by rfl)(hv:fS sc x=true:=by rfl)(hx:cU x=true:=by rfl)(hb:attributeBase (.Name x py) "steps" X.env (eval (.Name x py) X.env)=eval (.Name x py) X.env:=by rfl)(hb2:attributeBase (.Attribute (.Name x py) "steps" ps) "append" X.env (eval (.Attribute (.Name x py) "steps" ps) X.env)=eval (.Attribute (.Name x py) "steps" ps) X.env:=by rfl)(hs:Fc e [] X.env:=by rfl)(VO:(apos.endLine==Vx.line)=true:=by rfl)(Xf:tN Vx [] X.env:=by rfl)(WW:Cn Vx [e] X.env:=by rfl)(XX:swapsWith (.Call (.Attribute (.Attribute (.Name x py) "steps" ps) "append" apos) [e] [] Vx) none pos.line X.env=pure false:=by rfl):V0 (Vv r) X U (.Expr (.Call (.Attribute (.Attribute (.Name x py) "steps" ps) "append" apos) [e] [] Vx) pos) (.nx U) s (s1.1,s1.2++[d]):=λB F H Y E c l k w=>.mk λon st I=>k8 (xk dw ib ia nV (uS aU hb) (bC aU dk hs) hb2 WW VO hs Xf) XX on st Y H E I<|EY t hr hN hv hx k ⟨r.p,r.C,r.dx,_,.ref r.q,rfl,l.now k _ _ Vv.Y5,ok.cls,ok.n3,rfl,.inl ⟨rfl,_,Wd.of<|l.now k _ _<|Vv.Zj ok.ne⟩,he B F H Y _ c l k λv F1 H1 c1 x1 r1 rv=>by have k1:=k.V6 l x1;have l1:=l.up r1;refine⟨r.q,c1.2,v,rfl,rfl,l1.now k1 _ _<|Vv.Zj ok.ne,by rwa[r1.2.1.length],?_⟩;have k2:Ok X.K (Vy (Vv r) (Vy (Vv r) B c1) (c1.1,c1.2++[v])) F1 (k9 ((Vv r).ov (c1.1,c1.2++[v])) H1) Y U:=k1.Yt l1;have e1:Vy (Vv r) (Vy (Vv r) B c1) (c1.1,c1.2++[v])=Vy (Vv r) B (c1.1,c1.2++[v]):=Vy.up;rw[e1,Ju (c':=(c1.1,c1.2++[v])) ok.ne (l1.now k1) rfl]at k2;exact w F1 _ Y (c1.1,c1.2++[v]) k2 ⟨r1.1,r1.2.1.append<|.cons rv .nil,r1.2.2⟩ x1.sf⟩
section
variable {S:LS}{s s1 s':S.ds}
def Bw(t:At X N sc)(bl:kN X sc x (.builtin "len"))(ha:Vz S X U e (.lst xs) s s')(W3:Pl e:=by intro _ _;rfl):Vz S X U (.Call (.Name x p) [e] [] pos) (.int xs.length) s s':=λB F H Y Q c l k w=>.mk λon st I=>iH uC (dI t bl.g) bl.m bl.v (bC aU dk<|W3 _ _) bl.n bl.d (W3 _ _) rfl on st Y H Q I (ha B F H Y _ c l k λv F1 H1 c1 x1 r1 rv=>by cases rv with|lst hf rl=>exact⟨_,_,rfl,.inl<|Wd.of<|x1.sub _ _ hf,by rw[rl.length];exact w _ F1 H1 c1 x1 r1<|.int _⟩)
def Pf(ha:Vz S X U a (.lst xs) s s1)(hb:Vz S X U b (.int i) s1 s')(h:me xs i=some d)(hs:oU b:=by intro _ _;rfl):Vz S X U (.Subscript a b pos) d s s':=λB F H Y Q c l k w=>.mk λon st I=>xj Bs aU aU hs on st Y H Q I (G0 ha hb l k λx y F' H' c' x' r' rx ry=>by cases ry;cases rx with|lst hf rl=>let⟨z,h1,h2⟩:=rl.at h;exact⟨_,_,i,z,rfl,rfl,Wd.of<|x'.sub _ _ hf,h1,w z F' H' c' x' r' h2⟩)
end
def QQ(K:eZ)(C:cn->aM->Int×aM->D->Int×aM->Prop):Sp:=λvs H Q _=>∃(r:m7)(F:Hp)(ds:aM)(d:D)(c:Int×fh)(s s':Int×aM),Vu F H/\gn K r/\(∀a u,(Vv r).ov c a=some u->H a=some u)/\(∀a u,(Vv r).ov c a=some u->F a=none)/\(Vv r).rep K F c s/\Vs K F vs (.adr r.p::ds)/\C r.toks ds s d s'/\∀v F' H' c',Ext (Vy (Vv r) ⟨F,H⟩ c') F' H'->(Vv r).rep K F' c' s'->Rep K F' v d->Q v H'
def Vq(X:Cx)(x:Str)(C:cn->aM->Int×aM->D->Int×aM->Prop):Prop:=∃(f:Addr)(fd:FuncData)(ps:cn)(k:Nat),dZ X.prog X.w X.K X.mg X.base jd k f fd ps (QQ X.K C)/\VS k X.A/\X.mg x=some (.ref f)/\keepIn X.K (.ref f)=true/\Binds X.K fd ps []
section
variable {ds:aM}{s s1 s':Int×aM}
def Pa{P:Program}(VZ:P.given.tree=none){w:World}{K:eZ}{mg:tK}{base:Heap}{x qual:Str}{st:Stmt}{f:Addr}{fd:FuncData}{N ps:cn}{k:Nat}{C:cn->aM->Int×aM->D->Int×aM->Prop}(F:Yw K x qual st f fd)(S:aN N ps (aq st))(len:∀ts ds s d s',C ts ds s d s'->ds.length+1=ps.length)(body:∀X,DefX P w K mg base k N (aq st) X->HK X N st C):dZ P w K mg base jd (k+1) f fd ps (QQ K C):=by
 refine F.ok S (λvs H Q E h=>?_) λV2 A outer s H vs Q E hr h=>?_;obtain⟨r,F',ds,d,c,s,s',sub,ok,h1,h2,h3,rv,hC,q⟩:=h;rw[rv.length];exact len r.toks ds s d s' hC;obtain⟨r,F',ds,d,c,s1,s',sub,ok,h1,h2,h3,rv,hC,q⟩:=h;refine⟨_,dU,?_⟩;have hx:DefX P w K mg base k N (aq st) (qA jd P w K mg base N qual (aq st) f V2 A outer s H E).XH:=⟨⟨rfl,rfl,rfl,S.nd,rfl,hr.units,hr.WY,VZ,⟨_,_,rfl,S.gen,S.co,rfl,rfl⟩⟩,rfl,rfl,rfl,rfl,rfl,hr,⟨λ_=>rfl⟩,rfl,rfl⟩;have hk:Ok K ⟨F',H⟩ F' H (start N vs) (P9 (.adr r.p) N ds):=by unfold start;rw[rv.length];exact iI sub rv _
 rcases body _ hx r ok ds s1 d s' hC with hb |⟨rfl,W1,hb⟩;exact hb ⟨F',H⟩ F' H _ _ c ⟨h1,h2,h3⟩ hk λv F2 H2 c2 x2 r2 rv=>q v F2 H2 c2 x2 r2 rv;exact hb ⟨F',H⟩ F' H _ _ c ⟨h1,h2,h3⟩ hk λF2 H2 σ2 c2 k2 r2 s2=>q .VH F2 H2 c2 k2.toExt r2 .VH
def DefX.zAI{x:Str}{C:cn->aM->Int×aM->D->Int×aM->Prop}(h:DefX P w K mg base k N sc X)(F:dZ P w K mg base jd j f fd ps (QQ K C))(hj:j<=k)(hm:mg x=some (.ref f))(hk:keepIn K (.ref f)=true)(hb:Binds K fd ps []):Vq X x C:=by obtain⟨h0,rfl,rfl,rfl,rfl,rfl,hr,_⟩:=h;exact⟨f,fd,ps,j,F,hr.mono hj,hm,hk,hb⟩
def b0(t:At X N sc)(ok:gn X.K r){C:cn->aM->Int×aM->D->Int×aM->Prop}(h:Vq X x C)(ha:HL (Vv r) X U (e::es) (.adr r.p::ds) s s1)(hC:C r.toks ds s1 d s')(hg:sw sc x:=by rfl)(Wb:pE x:=by rfl):Vz (Vv r) X U (.Call (.Name x p) (e::es) [] pos) d s s':=λB F0 H Y Q c l k w=>.mk λon st I=>by obtain⟨f,fd,ps,kk,F,Yn,hm,hk,hb⟩:=h;have pz:iB jd X E0:=qf;refine j7 F Yn (dI t hg) hm hk hb .nil pz nU Wb (ha.1.1 _ _) (Yf.any ha.1.2) on st Y H Q I (ha.2 B F0 H Y _ c l k λvs F1 H1 c1 x1 r1 rv=>?_);have k1:=k.V6 l x1;have l1:=l.up r1;refine⟨r,F1,ds,d,c1,s1,s',k1.sub,ok,l1.now k1,l1.ff k1,r1,by rwa[aX],hC,λv F2 H2 c2 x2 r2 YW=>w v F2 H2 c2 (x1.tZ (l.ff k) x2) r2 YW⟩
end
section
variable {S:LS}{c c1:S.cs}
def Ok.pin(k:Ok K B F H Y U)(hb:∀a u,S.ov c a=some u->B.H a=none)(hh:∀a u,S.ov c a=some u->H a=some u)(hf:∀a u,S.ov c a=some u->F a=none)(ho:∀(i:Nat)xs a,U[i]?=some (.own xs)->Y[i]?=some (some<|.ref a)->S.ov c a=none)(hd:∀(i:Nat)xs a,U[i]?=some (.X0 xs)->Y[i]?=some (some<|.ref a)->S.ov c a=none):Ok K (Vy S B c) F H Y U:=by
 refine⟨⟨k.sub,λb u q=>?_,k.sf,λa q=>?_⟩,k.len,k.vals,λi ys h=>?_,k.dist,⟨λi kvs h=>?_,k.WI.Yr⟩⟩;have q':k9 (S.ov c) B.H b=some u:=q;cases e:S.ov c b with
 |some v=>rw[gP e]at q';cases q';exact hh b _ e
 |none=>rw[dL e]at q';exact k.sh b u q'
 rcases k.nw a q with z |z;exact .inl z;refine .inr ?_;show k9 (S.ov c) B.H a=none;cases e:S.ov c a with|some v=>exact absurd (hf a v e) q|none=>rwa[dL e]
 let⟨a,vs,h1,h2,h3,h4,h5⟩:=k.We i ys h;exact⟨a,vs,h1,h2,h3,by show k9 (S.ov c) B.H a=none;rwa[dL<|ho i ys a h h1],h5⟩;let⟨a,es,h1,h2,h3,h4,h5⟩:=k.WI.YH i kvs h;exact⟨a,es,h1,h2,h3,by show k9 (S.ov c) B.H a=none;rwa[dL<|hd i kvs a h h1],h5⟩
def Ext.zAM(x:Ext (Vy S B c1) F H)(hb:∀a u,S.ov c1 a=some u->B.H a=none):Ext B F H:=by
 refine⟨x.sub,λb u q=>?_,x.sf,λa q=>?_⟩;refine x.sh b u ?_;show k9 (S.ov c1) B.H b=some u;cases e:S.ov c1 b with
 |some v=>rw[hb b v e]at q;cases q
 |none=>rwa[dL e]
 rcases x.nw a q with z |z;exact .inl z;refine .inr ?_;have z':k9 (S.ov c1) B.H a=none:=z;cases e:S.ov c1 a with
 |some v=>rw[gP e]at z';cases z'
 |none=>rw[dL e]at z';exact z'
end
def Ub(K:eZ)(F H F' H':Hp)(r:m7):Prop:=gn K r/\Ext ⟨F,H⟩ F' H'/\H r.p=none/\H r.q=none/\H' r.p=some (JW r 0)/\H' r.q=some (.lst [])/\F' r.p=none/\F' r.q=none/\F' r.l=some (.lst<|r.toks.map V.str)
def Lh(K:eZ)(C:aM->cn->Prop):Sp:=λvs H Q _=>∃F ds toks,Vu F H/\Vs K F vs ds/\C ds toks/\∀r F' H',r.toks=toks->Ub K F H F' H' r->Q (.ref r.p) H'
def WG(X:Cx)(x:Str)(C:aM->cn->Prop):Prop:=∃(f:Addr)(fd:FuncData)(ps:cn)(k:Nat),dZ X.prog X.w X.K X.mg X.base jd k f fd ps (Lh X.K C)/\VS k X.A/\X.mg x=some (.ref f)/\keepIn X.K (.ref f)=true/\Binds X.K fd ps []
def DA(X:Cx)(U:cE)(WJ:List Stmt)(toks:cn):Prop:=∀(B:B0)(F H:Hp)(Y:St)(E:mn),Ok X.K B F H Y U->(∀r F' H',r.toks=toks->gn X.K r->Ext B F' H'->B.H r.p=none->B.H r.q=none->H' r.p=some (JW r 0)->H' r.q=some (.lst [])->F' r.p=none->F' r.q=none->F' r.l=some (.lst<|toks.map V.str)->E.rt (.ref r.p) H')->wSs X WJ E Y H
section
variable {ds:aM}{st:Stmt}{bP:List Stmt}
def uz(h1:VN X U st (.nx W1))(h2:DA X W1 bP toks):DA X U (st::bP) toks:=λB F H Y E k q=>.mk λon s I=>gA uP dU on s Y H E I (h1 B F H Y _ k λF1 H1 WF k1 s1=>h2 B F1 H1 WF E k1 q)
def Mn{P:Program}(VZ:P.given.tree=none){w:World}{K:eZ}{mg:tK}{base:Heap}{x qual:Str}{st:Stmt}{f:Addr}{fd:FuncData}{N ps:cn}{k:Nat}{C:aM->cn->Prop}(F:Yw K x qual st f fd)(S:aN N ps (aq st))(len:∀ds ts,C ds ts->ds.length=ps.length)(body:∀X,DefX P w K mg base k N (aq st) X->∀ds ts,C ds ts->DA X (Fd N ds) (aW st) ts):dZ P w K mg base jd (k+1) f fd ps (Lh K C):=by
 refine F.ok S (λvs H Q E h=>?_) λV2 A outer s H vs Q E hr h=>?_;obtain⟨F',ds,ts,sub,rv,hC,q⟩:=h;rw[rv.length];exact len ds ts hC;obtain⟨F',ds,ts,sub,rv,hC,q⟩:=h;refine⟨_,dU,?_⟩;have hx:DefX P w K mg base k N (aq st) (qA jd P w K mg base N qual (aq st) f V2 A outer s H E).XH:=⟨⟨rfl,rfl,rfl,S.nd,rfl,hr.units,hr.WY,VZ,⟨_,_,rfl,S.gen,S.co,rfl,rfl⟩⟩,rfl,rfl,rfl,rfl,rfl,hr,⟨λ_=>rfl⟩,rfl,rfl⟩;have hk:Ok K ⟨F',H⟩ F' H (start N vs) (Fd N ds):=by unfold start;rw[rv.length];exact iI sub rv _
 exact(body _ hx ds ts hC) ⟨F',H⟩ F' H _ _ hk λr F2 H2 e ok x2 h1 h2 h3 h4 h5 h6 h7=>q r F2 H2 e ⟨ok,x2,h1,h2,h3,h4,h5,h6,by rwa[e]⟩
def DefX.ZK{x:Str}{C:aM->cn->Prop}(h:DefX P w K mg base k N sc X)(F:dZ P w K mg base jd j f fd ps (Lh K C))(hj:j<=k)(hm:mg x=some (.ref f))(hk:keepIn K (.ref f)=true)(hb:Binds K fd ps []):WG X x C:=by obtain⟨h0,rfl,rfl,rfl,rfl,rfl,hr,_⟩:=h;exact⟨f,fd,ps,j,F,hr.mono hj,hm,hk,hb⟩
def MF[WR X](t:At X N sc)(i:Nat){C:aM->cn->Prop}(h:WG X x C)(ha:VL X U (e::es) ds)(hC:C ds toks)(Ym:∀r:m7,gn X.K r->r.toks=toks->∃s',Wq (Vv r) X (U.set i<|.val<|.adr r.p) bP (.rt d) (0,[]) s')(hg:sw sc x:=by rfl)(Wb:pE x:=by rfl)(hi:N[i]?=some y:=by rfl)(hx:ml sc y=true:=by rfl)(hs:swapsWith (.Call (.Name x p) (e::es) [] Vx) (some<|.Name y pos') pos.line X.env=pure false:=by rfl):Vt X U (.Assign [.Name y pos'] (.Call (.Name x p) (e::es) [] Vx) pos::bP) (.rt d):=λB F0 H Y E k w=>.mk λon s I=>by
 obtain⟨f,fd,ps,kk,F,Yn,hm,hk,hb⟩:=h;have pz:iB jd X E0:=qf;refine gA uP dU on s Y H E I (.mk λon s I=>oI (i:=i) t.nd (t.ix hi) (t.loc hx) (j7 F Yn (dI t hg) hm hk hb .nil pz nU Wb (ha.1.1 _ _)<|Yf.any ha.1.2) hs Ga on s Y H _ I (ha.2 B F0 H Y _ k λvs F1 H1 x1 r1=>?_));refine⟨F1,ds,toks,x1.sub,by rwa[aX],hC,λr F2 H2 et nr=>?_⟩;obtain⟨ok,x2,n1,n2,h1,h2,f1,f2,hl⟩:=nr;have k1:=k.ext x1;have k2:=(k1.ext x2).VP i (.adr r.p:Rep X.K F2 (.ref r.p) (.adr r.p));have dm:∀a u,(Vv r).ov ((0:Int),([]:fh)) a=some u->H1 a=none/\H2 a=some u/\F2 a=none:=λa u z=>by by_cases e1:a=r.p;subst e1;rw[Vv.Y5]at z;cases z;exact⟨n1,h1,f1⟩;by_cases e2:a=r.q;subst e2;rw[Vv.Zj ok.ne]at z;cases z;exact⟨n2,h2,f2⟩;rw[show(Vv r).ov ((0:Int),([]:fh)) a=none from(show(if a=r.p then _ else if a=r.q then _ else _)=_ by rw[av e1,av e2])]at z;cases z
 have hb0:∀(c:(Vv r).cs)a u,(Vv r).ov c a=some u->B.H a=none:=λc a u z=>by obtain⟨v,hv⟩:=LS.has z ((0:Int),([]:fh));exact k1.sh.free (dm a v hv).1
 have no:∀(j:Nat)xs a,(U.set i<|.val<|.adr r.p)[j]?=some (.own xs)->(Y.set i<|some<|.ref r.p)[j]?=some (some<|.ref a)->(Vv r).ov ((0:Int),([]:fh)) a=none:=λj xs a q1 q2=>by obtain⟨Xo,q1'⟩:=A7 j _ q1 λz=>nomatch z;rw[List.getElem?_set_ne Xo]at q2;obtain⟨a',vs',g1,g2,_⟩:=k1.We j xs q1';rw[g1]at q2;cases q2;cases e:(Vv r).ov ((0:Int),([]:fh)) a with|none=>rfl|some u=>rw[(dm a u e).1]at g2;cases g2
 have nd:∀(j:Nat)xs a,(U.set i<|.val<|.adr r.p)[j]?=some (.X0 xs)->(Y.set i<|some<|.ref r.p)[j]?=some (some<|.ref a)->(Vv r).ov ((0:Int),([]:fh)) a=none:=λj xs a q1 q2=>by obtain⟨Xo,q1'⟩:=A7 j _ q1 λz=>nomatch z;rw[List.getElem?_set_ne Xo]at q2;obtain⟨a',vs',g1,g2,_⟩:=k1.WI.YH j xs q1';rw[g1]at q2;cases q2;cases e:(Vv r).ov ((0:Int),([]:fh)) a with|none=>rfl|some u=>rw[(dm a u e).1]at g2;cases g2
 have k3:=k2.pin (S:=Vv r) (c:=((0:Int),([]:fh))) (λa u z=>hb0 _ a u z) (λa u z=>(dm a u z).2.1) (λa u z=>(dm a u z).2.2) no nd;obtain⟨s',hz⟩:=Ym r ok et;refine hz (Vy (Vv r) B ((0:Int),([]:fh))) F2 H2 _ E ((0:Int),([]:fh)) ⟨λa u z=>gP z,λa u z=>?_,⟨rfl,.nil,hl⟩⟩ k3 λv F3 H3 c3 x3 r3 rv=>?_;cases eb:B.F a with|none=>exact eb|some o=>have:=k3.sf a o eb;rw[(dm a u z).2.2]at this;cases this
 have e3:Vy (Vv r) (Vy (Vv r) B ((0:Int),([]:fh))) c3=Vy (Vv r) B c3:=Vy.up (S:=Vv r);rw[e3]at x3;exact w v F3 H3 (x3.zAM λa u z=>hb0 c3 a u z) rv
end
def A4(C:Addr):Sp:=λvs H Q _=>∃x dx l,vs=[.ref x,.ref l]/\H x=some (.ins C dx [])/\∀q H',H q=none->q≠x->H'=dH (dH H q<|.lst []) x (.ins C dx [("tokens",.ref l),("done",.int 0),("steps",.ref q)])->Q .VH H'
structure Ud(X:Cx)(x:Str)(C:Addr):Prop where
 fn:∃(f:Addr)(fd:FuncData)(ps:cn)(k:Nat),Mk X.K C f/\dZ X.prog X.w X.K X.mg X.base jd k f fd ps (A4 C)/\VS (k+1) X.A/\Binds X.K fd ps []
 m:X.mg x=some (.ref C)
 cls:Zl X.K C
 n1:VM X.K C "tokens"
 n2:VM X.K C "done"
 n3:VM X.K C "steps"
theorem Fp:∀{ts:cn}{vs:fh},Vs K F vs (ts.map D.str)->vs=ts.map V.str
 |[],_,h=>by cases h;rfl
 |t::ts,_,h=>by cases h with|cons r q=>cases r;rw[bp,Fp q]
def Kg{toks:cn}(t:At X N sc)(M:Ud X x C)(h:Vp X U e (.lst<|toks.map D.str))(hg:sw sc x:=by rfl)(Wb:pE x:=by rfl)(W3:Pl e:=by intro _ _;rfl):DA X U [.Return (some<|.Call (.Name x p) [e] [] Vx) pos] toks:=λB F H Y E k w=>.mk λon s I=>by
 obtain⟨f,fd,ps,kk,mk,fo,hr,hb⟩:=M.fn;have pz:iB jd X E0:=qf;refine oH (uQ<|LV mk fo hr (dI t hg) M.m hb .nil pz (bC aU dk<|W3 _ _) Wb (W3 _ _) rfl) on s Y H E I (h B F H Y _ k λv F1 H1 x1 r1=>?_);intro x0 dx hx hdx Xo;cases r1 with|@lst l vs _ hf rl=>
 have ev:=Fp rl;subst ev;refine⟨x0,dx,l,rfl,by rw[aI],λq H' hq hqx eH=>⟨rfl,?_⟩⟩;rw[aK hqx]at hq;have hqd:q≠dx:=λz=>by subst z;rw[aI]at hq;cases hq
 rw[aK hqd]at hq;have k1:=k.ext x1;have x2:Ext ⟨F1,H1⟩ F1 H':=by refine⟨λb u z=>?_,λb u z=>?_,.refl _,λa z=>.inl z⟩;have z':=x1.sub b u z;rw[eH,aK (λe=>by subst e;rw[hx]at z';cases z'),aK (λe=>by subst e;rw[hq]at z';cases z'),aK (λe=>by subst e;rw[hx]at z';cases z'),aK λe=>by subst e;rw[hdx]at z';cases z'];exact z';have z':H1 b=some u:=z;rw[eH,aK (λe=>by subst e;rw[hx]at z';cases z'),aK (λe=>by subst e;rw[hq]at z';cases z'),aK (λe=>by subst e;rw[hx]at z';cases z'),aK λe=>by subst e;rw[hdx]at z';cases z'];exact z'
 refine w ⟨C,x0,dx,q,l,toks⟩ F1 H' rfl ⟨M.cls,M.n1,M.n2,M.n3,hqx⟩ (k1.toExt.trans x2) (k1.sh.free hx) (k1.sh.free hq) (by rw[eH,aI];rfl) (by rw[eH];show dH _ x0 _ q=_;rw[aK hqx,aI]) (x1.sub.free hx) (x1.sub.free hq) hf
theorem H8{U:cE}(t:At X N sc)(ok:gn X.K r)(i:Nat){s:Int×aM}(hr:U[i]?=some (.val<|.adr r.p))(h:VU X tg body s.2 U (.nx W1))(hN:N[i]?=some x:=by rfl)(hv:fS sc x=true:=by rfl)(hx:cU x=true:=by rfl)(hb:attributeBase (.Name x py) "steps" X.env (eval (.Name x py) X.env)=eval (.Name x py) X.env:=by rfl)(hs:∀z,foldedSetIterable (.Attribute (.Name x py) "steps" ps) X.env z=pure z:=by intro _;rfl):V0 (Vv r) X U (.For tg (.Attribute (.Name x py) "steps" ps) body [] pos) (.nx W1) s s:=λB F H Y E c l k q=>.mk λon w I=>D7 t.pass t.calm (FJ<|uS aU hb) He dU hs on w Y H E I (EY t hr hN hv hx k ⟨r.p,r.C,r.dx,_,.ref r.q,rfl,l.now k _ _ Vv.Y5,ok.cls,ok.n3,rfl,r.q,rfl,⟨_,Wd.of<|l.now k _ _<|Vv.Zj ok.ne⟩,by
  refine⟨λi m Y H=>∃Wp F1,Ok X.K B F1 H Y Wp/\Vu F F1/\VU X tg body (s.2.drop i) Wp (.nx W1)/\m=s.2.length-i,⟨s.2.length,U,F,k,.refl _,by simpa using h,by simp⟩,?_⟩;rintro i m Y H ⟨Wp,F1,k1,sf,run,rfl⟩;have hq:=k1.sh _ _<|l.st _ _<|Vv.Zj ok.ne;have rl:=l.rep.2.1.mono sf;generalize e1:s.2.drop i=bP at run;cases run with
  |nil=>
   have hl:s.2.length<=i:=by have:=aL List.length e1;rw[bX,jf]at this;lia
   refine .inl ⟨⟨c.2,Wd.of hq,by rwa[rl.length]⟩,q F1 H Y c (by rwa[Vy.same l.st]) (zBY l sf) sf⟩
  |@cons d0 ds0 _ ρa ρb _ g bd rr=>let⟨hd,Ym,V1⟩:=jc e1;let⟨v,hv1,rv⟩:=rl.get hd;refine .inr ⟨⟨c.2,v,Wd.of hq,hv1⟩,λxy H'=>∃Xe,Ok X.K B Xe H' xy ρb/\Vu F Xe,λxy H' ⟨Xe,Zw,XG⟩=>⟨s.2.length-(i+1),by lia,_,Xe,Zw,XG,by rwa[Ym],rfl⟩,λxv H' y=>?_⟩;obtain⟨rfl,y⟩:=y;have ex:=y c.2 (Wd.of hq);rw[hv1]at ex;cases ex;exact g B F1 H' Y v _ k1 rv λF3 H3 XV k3 s3=>bd B F3 H3 XV _ k3 λF4 H4 σ4 k4 s4=>⟨F4,k4,sf.trans (s3.trans s4)⟩⟩)
where
 zBY {B:B0} {F F1:Hp} {c:(Vv r).cs} {s:Int×aM} (l:Ln (Vv r) X.K B F c s) (sf:Vu F F1):(Vv r).rep X.K F1 c s:=(Vv r).mono sf l.rep
def fF{U:cE}{xs:aM}{xs':aM}{Vx:Pos}{apos:Pos}(t:At X N sc)(i:Nat)(hr:U[i]?=some (.val<|.adr q))(hxs:xs=xs'++[d])(hN:N[i]?=some x:=by rfl)(hv:fS sc x=true:=by rfl)(hx:cU x=true:=by rfl)(VO:(apos.endLine==Vx.line)=true:=by rfl):V4 X q U (.Call (.Attribute (.Name x py) "pop" apos) [] [] Vx) d xs xs':=λB F H Y Q us l k w=>.mk λon s I=>by
 subst hxs;refine Ec dw UI UH JF aU rfl VO on s Y H Q I<|vk t hr hN hv hx k ?_;have h2:=k.sh _ _ l.st;refine⟨.inl ⟨rfl,_,Wd.of h2⟩,?_⟩;let⟨v,hw,Xn⟩:=l.rep.get (i:=xs'.length) (d:=d) (by simp);have hll:us.length-1=xs'.length:=by rw[l.rep.length];simp
 refine⟨q,us,v,rfl,rfl,h2,by rwa[hll],?_⟩;have rd:=l.rep.dropLast;rw[Ck]at rd;exact w v F _ us.dropLast ⟨λb u z=>by rw[aK λe=>by subst e;rw[l.ff k]at z;cases z];exact k.sub b u z,λb u z=>z,.refl _,λa z=>.inl z⟩ rd Xn
def gK{U:cE}{Vx:Pos}{apos:Pos}(t:At X N sc)(i:Nat)(hr:U[i]?=some (.val<|.adr q))(he:V4 X q U e d xs W9)(hz:W9.length<sizeLine)(hN:N[i]?=some x:=by rfl)(hv:fS sc x=true:=by rfl)(hx:cU x=true:=by rfl)(hb2:attributeBase (.Name x py) "append" X.env (eval (.Name x py) X.env)=eval (.Name x py) X.env:=by rfl)(hs:Fc e [] X.env:=by rfl)(VO:(apos.endLine==Vx.line)=true:=by rfl)(Xf:tN Vx [] X.env:=by rfl)(WW:Cn Vx [e] X.env:=by rfl)(XX:swapsWith (.Call (.Attribute (.Name x py) "append" apos) [e] [] Vx) none pos.line X.env=pure false:=by rfl):pP X q U (.Expr (.Call (.Attribute (.Name x py) "append" apos) [e] [] Vx) pos) (.nx U) xs (W9++[d]):=λB F H Y E us l k w=>.mk λon st I=>k8 (xk dw ib ia nV aU (bC aU dk hs) hb2 WW VO hs Xf) XX on st Y H E I<|vk t hr hN hv hx k ⟨.inl ⟨rfl,_,Wd.of<|k.sh _ _ l.st⟩,he B F H Y _ us l k λv F1 H1 u1 x1 r1 rv=>by have k1:=k.XM l x1;have l1:WU X.K (Wj B q u1) q F1 u1 W9:=⟨aI,l.fr,r1⟩;refine⟨q,u1,v,rfl,rfl,k1.sh _ _ aI,by rwa[r1.length],?_⟩;have k2:Ok X.K (Wj (Wj B q u1) q<|u1++[v]) F1 (dH H1 q<|.lst<|u1++[v]) Y U:=k1.zAY l1;rw[Wj.up]at k2;exact w F1 _ Y (u1++[v]) k2 (r1.append<|.cons rv .nil) x1.sf⟩
def Lj(K:eZ)(C:D->aM->aM->Prop):Sp:=λvs H Q _=>∃q F d0 us xs xs',Vu F H/\H q=some (.lst us)/\F q=none/\Vs K F us xs/\Vs K F vs [d0,.adr q]/\C d0 xs xs'/\∀v F' H' Xa,Ext (Wj ⟨F,H⟩ q Xa) F' H'->Vs K F' Xa xs'->Rep K F' v .VH->Q v H'
def WH(X:Cx)(x:Str)(C:D->aM->aM->Prop):Prop:=∃(f:Addr)(fd:FuncData)(ps:cn)(k:Nat),dZ X.prog X.w X.K X.mg X.base jd k f fd ps (Lj X.K C)/\VS k X.A/\X.mg x=some (.ref f)/\keepIn X.K (.ref f)=true/\Binds X.K fd ps []
def Mp{P:Program}(VZ:P.given.tree=none){w:World}{K:eZ}{mg:tK}{base:Heap}{x qual:Str}{st:Stmt}{f:Addr}{fd:FuncData}{N ps:cn}{k:Nat}{C:D->aM->aM->Prop}(F:Yw K x qual st f fd)(S:aN N ps (aq st))(len:2=ps.length)(body:∀X,DefX P w K mg base k N (aq st) X->∀q d0 xs xs',C d0 xs xs'->∃W1,XT X q (.val d0::.val (.adr q)::List.replicate (N.length-2) Sl.un) (aW st) (.nx W1) xs xs'):dZ P w K mg base jd (k+1) f fd ps (Lj K C):=by
 refine F.ok S (λvs H Q E h=>?_) λV2 A outer s H vs Q E hr h=>?_;obtain⟨p,F',d0,us,xs,xs',sub,hp,hf,ru,r,hC,q⟩:=h;rwa[r.length];obtain⟨p,F',d0,us,xs,xs',sub,hp,hf,ru,r,hC,q⟩:=h;refine⟨_,dU,?_⟩;have hx:DefX P w K mg base k N (aq st) (qA jd P w K mg base N qual (aq st) f V2 A outer s H E).XH:=⟨⟨rfl,rfl,rfl,S.nd,rfl,hr.units,hr.WY,VZ,⟨_,_,rfl,S.gen,S.co,rfl,rfl⟩⟩,rfl,rfl,rfl,rfl,rfl,hr,⟨λ_=>rfl⟩,rfl,rfl⟩;have hk:Ok K ⟨F',H⟩ F' H (start N vs) ([d0,.adr p].map Sl.val++List.replicate (N.length-2) Sl.un):=by unfold start;rw[r.length];exact iI sub r _
 obtain⟨W1,hb⟩:=body _ hx p d0 xs xs' hC;exact hb ⟨F',H⟩ F' H _ _ us ⟨hp,hf,ru⟩ hk λF2 H2 σ2 Zn k2 r2 s2=>q .VH F2 H2 Zn k2.toExt r2 .VH
def DefX.ZM{x:Str}{C:D->aM->aM->Prop}(h:DefX P w K mg base k N sc X)(F:dZ P w K mg base jd j f fd ps (Lj K C))(hj:j<=k)(hm:mg x=some (.ref f))(hk:keepIn K (.ref f)=true)(hb:Binds K fd ps []):WH X x C:=by obtain⟨h0,rfl,rfl,rfl,rfl,rfl,hr,_⟩:=h;exact⟨f,fd,ps,j,F,hr.mono hj,hm,hk,hb⟩
def IK{U:cE}(t:At X N sc){C:D->aM->aM->Prop}(h:WH X x C)(i:Nat)(hr:U[i]?=some (.own xs))(ha:Vp X U e d0)(hC:C d0 xs xs')(hN:N[i]?=some y:=by rfl)(hv:fS sc y=true:=by rfl)(hx:cU y=true:=by rfl)(hg:sw sc x:=by rfl)(Wb:pE x:=by rfl)(hs:Pl (.Name y py):=by intro _ _;rfl)(he:Pl e:=by intro _ _;rfl)(XX:swapsWith (.Call (.Name x p) [e,.Name y py] [] Vx) none pos.line X.env=pure false:=by rfl):VN X U (.Expr (.Call (.Name x p) [e,.Name y py] [] Vx) pos) (.nx<|U.set i<|.own xs'):=by
 obtain⟨f,fd,ps,k,F,Yn,hm,hk,hb⟩:=h;have pz:iB jd X E0:=qf;refine .of (k8 (j7 F Yn (dI t hg) hm hk hb .nil pz (bC aU (bC aU dk<|hs _ _)<|he _ _) Wb (he _ _)<|by unfold tN;rw[hs];rfl) XX) λB F' H Y E k' q=>?_;refine ha B F' H Y _ k' λv0 F1 H1 x1 r1=>?_;have k1:=k'.ext x1;refine sD t hr hN hv hx k1 λl us h1 h2 h3=>?_;have hf1:F1 l=none:=by obtain⟨a,vs,o1,o2,o3,o4,o5⟩:=k1.We i xs hr;rw[h1]at o1;cases o1;exact o3
 refine⟨l,F1,d0,us,xs,xs',x1.sub,h2,hf1,h3,?_,hC,λv F2 H2 Zn x2 r2 rv=>q F2 H2 Y (k1.back hr h1 x2 r2)<|x1.sf.trans x2.sf⟩;exact .cons r1<|.cons (.adr l) .nil
def oP(ha:Vp X U a (.str z))(hb:Vp X U b (.str w))(hz:z.length+w.length<=sizeLine):Vp X U (.BinOp a .Add b pos) (.str<|z++w):=.of (pH sF aU aU) λB F H Y Q k q=>two ha hb k λx y F' H' x' rx ry=>by cases rx;cases ry;exact⟨z,w,rfl,rfl,hz,q _ F' H' x'<|.str _⟩
def Bz{r:Bool}(ha:Vp X U a (.str z))(hb:Vp X U b (.str w))(hr:(!(Builtin.Str.occurrences w z 0 w.length 1).isEmpty)=r)(hm:behindInMarks .In b=false:=by rfl):Vp X U (.Compare a [.In] [b] pos) (.bl r):=.of (uc AH aU aU hm) λB F H Y Q k q=>two ha hb k λx y F' H' x' rx ry=>by cases rx;cases ry;subst hr;exact⟨z,w,rfl,rfl,q _ F' H' x'<|.bl _⟩
def kG{r:Bool}(ha:Vp X U a (.str z))(hb:Vp X U b (.str w))(hr:(!(Builtin.Str.occurrences w z 0 w.length 1).isEmpty)=r)(hm:behindInMarks .In b=false:=by rfl):Vr X U (.Compare a [.In] [b] pos) r:=.of (gr AH aU aU hm) λB F H Y Q k q=>two ha hb k λx y F' H' x' rx ry=>by cases rx;cases ry;subst hr;exact⟨z,w,rfl,rfl,_,rfl,q F' H' x'⟩
def dX(t:At X N sc)(bl:kN X sc x (.builtin "len"))(ha:Vp X U e (.str z))(hz:z.length<=sizeLine)(W3:Pl e:=by intro _ _;rfl):Vp X U (.Call (.Name x p) [e] [] pos) (.int z.length):=ux t bl BQ (ac ha af W3) λF H vs Q sub r q=>by obtain⟨v,rfl,rv⟩:=r.one;cases rv;exact⟨z,rfl,hz,q _ F H (.refl sub)<|.int _⟩
def Mr(t:At X N sc)(bl:kN X sc x (.type "str"))(ha:Vp X U e (.int i))(hz:i.natAbs.log2<1920)(W3:Pl e:=by intro _ _;rfl):Vp X U (.Call (.Name x p) [e] [] pos) (.str<|toString i):=vb t bl BO (ac ha af W3) λF H vs Q sub r q=>by obtain⟨v,rfl,rv⟩:=r.one;cases rv;exact⟨i,rfl,hz,q _ F H (.refl sub)<|.str _⟩
def BR:iq X (.type "int") (λxs H Q=>∃z n,xs=[.str z]/\PySem.intText? z=some n/\z.length<=640/\Q (.int n) H):=by intro on s Y H xs us Q I r h;obtain⟨z,n,rfl,h1,h2,q⟩:=h;obtain⟨u,rfl,t,rfl⟩:=lB r;exact PySem.W.KIN.call_text h1 h2 ⟨.int n,H,I.tok _,⟨_,rfl⟩,q⟩
def wu(t:At X N sc)(bl:kN X sc x (.type "int"))(ha:Vp X U e (.str z))(hn:PySem.intText? z=some n)(hz:z.length<=640)(W3:Pl e:=by intro _ _;rfl):Vp X U (.Call (.Name x p) [e] [] pos) (.int n):=vb t bl BR (ac ha af W3) λF H vs Q sub r q=>by obtain⟨v,rfl,rv⟩:=r.one;cases rv;exact⟨z,n,rfl,hn,hz,q _ F H (.refl sub)<|.int _⟩
def Eg:R8 X "str.isalnum" (λx xs H Q=>∃z,x=.str z/\xs=[]/\Q (.bl<|Txt.isalnum z) H):=by intro on s Y H x xs v us Q I rx rs h;obtain⟨z,rfl,rfl,q⟩:=h;obtain⟨t,rfl⟩:=rx;cases rs;exact SC.isalnum ⟨.bl _,H,I,rfl,q⟩
def jN{apos Vx:Pos}(ho:Vp X U a (.str z))(WX:attributeBase a "isalnum" X.env (eval a X.env)=eval a X.env:=by rfl)(VO:(apos.endLine==Vx.line)=true:=by rfl):Vp X U (.Call (.Attribute a "isalnum" apos) [] [] Vx) (.bl<|Txt.isalnum z):=.of (Ec ym PySem.F.slot_str_isalnum PySem.F.type_str_isalnum Eg aU WX VO) λB F H Y Q k q=>ho B F H Y _ k λv F1 H1 x1 r1=>by cases r1;exact⟨rfl,z,rfl,rfl,q _ F1 H1 x1<|.bl _⟩
end L2.EV
namespace L2
open PySem PySem.W PySem.Spec PyProof.Rows
variable {H:Hp}{X:Cx}{pos:Pos}
variable {K:eZ}{ds:aM}
def Ug(z:Str):It:=⟨λi _=>i<z.cps.size,λi H x H'=>H'=H/\∃c,z.cps[i]?=some c/\x=.str ⟨#[c]⟩,λi _=>z.cps.size<=i,False⟩
def G1(it:Addr)(z:Str)(t:Tok):Dz P w K tg (Ug z) [it] it (λi h=>h.IsStrIter it "str_ascii_iterator" z t i) where
 mem:=by simp
 obj:=λi h st b hb=>by
  cases by simpa using hb
  obtain⟨o,e,c,d⟩:=st;exact⟨o,e,λv z=>by rw[d]at z;cases z⟩
 keep:=λi h h' st k=>let⟨o,e,r⟩:=st;⟨o,k it (by simp) o e,r⟩
 item:=by intro X hP hw hK hc i on s Y H E I hf st hg;subst hP hw hK;replace hc:=hc.resolve_right λz=>z.1;obtain⟨f0,f1,f2,f3,f4,f5⟩:=hf it (by simp);have hi:i<z.cps.size:=hg;refine wpAny_pyNext_ascii_item st (c:=z.cps[i]) (by simp[hi]) λh' Wk sb=>?_;have I1:Inv X on Y H {s with heap:=h',toks:=s.toks+1}:=I.turned (λb o hb e=>(sb.2 b hb).trans e) f0 f1 f3 f4 f5;obtain⟨o,e,c,d⟩:=id Wk;exact⟨_,rfl,Gc (s:={s with heap:=h',toks:=s.toks+1}) e c d (by decide) ⟨.str ⟨#[z.cps[i]]⟩,H,I1,⟨_,rfl⟩,⟨rfl,_,by simp[hi],rfl⟩,Wk,λb hb=>(hf b hb).1⟩⟩
 done:=by intro X hP hw hK hc i on s Y H E I hf st hg;subst hP hw hK;replace hc:=hc.resolve_right λz=>z.1;obtain⟨f0,f1,f2,f3,f4,f5⟩:=hf it (by simp);have hi:z.cps.size<=i:=hg;exact wpAny_pyNext_ascii_end (I.ok.hd hc) st (by simp[hi]) λh' eb=>⟨rfl,I.turned (t':=s.toks) (λb o hb e=>eb b o hb e) f0 f1 f3 f4 f5⟩
 self:=λ_ _ _ _ _ st h=>wpAny_pyIter_striter_ascii st h
def TR(tl:TE):TI:=λY H R=>tl Y H λx H1=>∃z,x=.str z/\z.cps.all (·<128)=true/\R (Ug z) H1
def Ou(hl:PE X l tl):PI X tg l (TR tl):=by
 refineλon s Y H R I h=>fq (hl on s Y H _ I h) λv s1 ⟨x,H1,I1,r1,q1⟩=>?_;obtain⟨z,e,ha,q⟩:=q1;subst e;obtain⟨t,rfl⟩:=r1;refine wpAny_pyIter_ascii ha<|⟨s1.heap.objs.size,[s1.heap.objs.size],_,_,H1,rfl,I1.kept (t':=s1.toks) λb o e=>Heap.get?_push_of_some _ e,G1 _ z t,⟨_,Heap.get?_push_size _ rfl,rfl,rfl⟩,λb hb=>?_,q⟩;cases by simpa using hb
 exact I1.ZE (ao _)<|I1.VG.fresh<|ao _
end L2
namespace L2.EV
open PySem PySem.W PySem.Spec PyProof.Rows
variable {H:Hp}{X:Cx}{pos:Pos}
variable {K:eZ}{ds:aM}
def KY(z:Str):aM:=z.cps.toList.map λc=>D.str ⟨#[c]⟩
def O3:vp K (Ug z) F (KY z):=λi F2 H2 s1 s2=>⟨λd hd=>by
  unfold KY at hd;rw[List.getElem?_map]at hd;cases e:z.cps.toList[i]? with
  |none=>rw[e]at hd;cases hd
  |some c=>
   rw[e]at hd;cases hd;refine⟨(show i<z.cps.size by simpa using((List.getElem?_eq_some_iff.mp e).1)),λx H' y=>?_⟩;obtain⟨rfl,c',h1,rfl⟩:=y;have h2:z.cps[i]?=some c:=by simpa using e
   rw[h2]at h1;cases h1;exact⟨F2,.refl s2,.str _⟩,λh=>by
   have h':z.cps.size<=i:=by simpa[KY]using h
   exact h'⟩
def ED(h:Vp X U e (.str z))(ha:z.cps.all (·<128)=true):Za X U tg e (KY z):=.of (Ou aU) λB F H Y R k q=>h B F H Y _ k λv F' H' x r=>by cases r;exact⟨z,rfl,ha,q _ F' H' x O3⟩
section
variable {lo:Expr}
def II:R1 X (λx lo hi H Q=>∃z,x=.str z/\z.length<=sizeLine/\Q (.str<|Txt.slice z lo hi) H):=by
 intro on s Y H x v vl vu lo hi sl Q I rx hs pl pu h;obtain⟨z,rfl,hz,q⟩:=h;obtain⟨t,rfl⟩:=rx;have part:∀{v:Value}{o:Option Int},IsPart v o->∃l:Option (Int×Tok),v=partValue l/\l.map (·.1)=o:=λh=>by cases h with|none=>exact⟨none,rfl,rfl⟩|int i t=>exact⟨some (i,t),rfl,rfl⟩
 obtain⟨l,rfl,rfl⟩:=part pl;obtain⟨u,rfl,rfl⟩:=part pu;exact⟨"str",_,PySem.F.slot_str_getitem.lookup,Ve _ _ _,wpAny_getItem_str_slice (l:=l) (u:=u) (st:=none) hs rfl (post_val_or_str ⟨aJ (Txt.slice_le z _ _) hz,λt' k=>⟨.str (Txt.slice z (l.map (·.1)) (u.map (·.1))),H,I.tok _,⟨_,rfl⟩,q⟩⟩)⟩
def oO(h:Vp X U e (.str z))(h1:Vp X U lo (.int i))(h2:Vp X U hi (.int j))(hz:z.length<=sizeLine):Vp X U (.Subscript e (.Slice (some lo) (some hi) none p2) pos) (.str<|Txt.slice z (some i)<|some j):=.of (qc II aU (Be aU)<|Be aU) λB F H Y Q k q=>h B F H Y _ k λv F1 H1 x1 r1=>h1 B F1 H1 Y _ (k.ext x1) λv2 F2 H2 x2 r2=>by cases r1;cases r2;exact⟨i,rfl,h2 B F2 H2 Y _ (k.ext<|x1.t x2) λv3 F3 H3 x3 r3=>by cases r3;exact⟨j,rfl,z,rfl,hz,q _ F3 H3 (x1.t<|x2.t x3)<|.str _⟩⟩
theorem CI(cs:Array Nat)(i:Nat):∀n,i+n<=cs.size->((List.range n).map λk=>i+k).filterMap (cs[·]?)=(cs.toList.drop i).take n
 |0,_=>by simp
 |n+1,h=>by
  rw[M5,aE,UJ,CI cs i n<|by lia,tF,List.getElem?_drop];congr 1;have:i+n<cs.size:=by lia
  simp[this]
def Cp:∀(xs:fh)(us:jh),us.length=xs.length->(∀(j:Nat)x u,xs[j]?=some x->us[j]?=some u->RelV x u)->Vals xs us|[],[],_,_=>.nil|x::xs,u::us,hl,h=>.cons (h 0 x u rfl rfl) (Cp xs us (by simpa using hl) λj y v h1 h2=>h (j+1) y v h1 h2)
theorem uB{z:Str}{i j:Nat}(h:i<=j)(hi:i<=z.length):Txt.slice z (some (i:Int)) (some (j:Int))=⟨((z.cps.toList.drop i).take<|j-i).toArray⟩:=by
 have hz:z.length=z.cps.size:=rfl;have e1:Builtin.Str.strSliceIndices (some (i:Int)) (some (j:Int)) 1 z.length=(List.range<|min j z.length-i).map λk=>i+k:=by
  unfold Builtin.Str.strSliceIndices sliceRange;have a1:¬((i:Int)<0):=by lia
  have a2:¬((j:Int)<0):=by lia
  simp only[a1,a2,HP,show(1:Int)>0 by decide,HN];have b1:max 0 (min (i:Int) (z.length:Int))=i:=by lia
  have b2:max 0 (min (j:Int) (z.length:Int))=(min j z.length:Nat):=by lia
  rw[b1,b2];have b3:(if(i:Int)<(min j z.length:Nat)then(((min j z.length:Nat):Int)-i+1-1) / 1 else 0).toNat=min j z.length-i:=by split<;>lia
  rw[b3];exact DH λk _=>by lia
 have e2:((List.range<|min j z.length-i).map λk=>i+k).filterMap (z.cps[·]?)=(z.cps.toList.drop i).take (j-i):=by rw[CI z.cps i (min j z.length-i)<|by lia];by_cases hj:j<=z.length;rw[M3 hj];rw[dO<|by rw[bX,dj];lia,dO<|by rw[bX,dj];lia]
 unfold Txt.slice;rw[e1,e2];split;rename_i h0;rw[dS,jU,jU,ai,gU]at h0;have hi0:i=0\/z.length=0:=by lia
 rcases hi0 with rfl |e;rw[tH,HS,dO<|by rw[dj];lia];have:z.cps.toList=[]:=bx (by rw[dj];lia);rw[this];let⟨c⟩:=z;have hc:=Array.eq_empty_of_size_eq_zero e;subst hc;simp;rfl
def EJ(hc:X.calm=true):iq X (.type "list") (λxs H Q=>∃z,xs=[.str z]/\z.length<=sizeLine/\∀l,H l=none->Q (.ref l) (dH H l<|.lst (z.cps.toList.map λc=>V.str ⟨#[c]⟩))):=by
 intro on s Y H xs us Q I r h;obtain⟨z,rfl,hz,q⟩:=h;obtain⟨u,rfl,t,rfl⟩:=lB r;refine call_list_str (I.ok.hd hc) z t (hn:=hz) λh' tk ZO c' kp e Z9=>?_;have rv:Vals (z.cps.toList.map λc=>V.str ⟨#[c]⟩) ZO.toList:=by let⟨h1,h2⟩:=Z9;refine Cp _ _ (by simp[h1]) λj x u e1 e2=>?_;obtain⟨c,t',hc,rfl⟩:=h2 j u (by simpa using e2);rw[List.getElem?_map,show z.cps.toList[j]?=some c by simpa using hc]at e1;cases e1;exact⟨t',rfl⟩
 exact⟨.ref s.heap.objs.size,_,I.laid (t':=tk) kp (ao _) (show VT X.prog X.w _ h' _ (.lst _)from⟨by rwa[ai,dj],ZO.toList,c',rv,by simpa using e⟩),rfl,q _<|I.VG.fresh<|ao _⟩
def Az:∀cs:bI,Vs K F (cs.map λc=>V.str ⟨#[c]⟩) (cs.map λc=>D.str ⟨#[c]⟩)|[]=>.nil|c::cs=>.cons (.str _)<|Az cs
def C8(t:At X N sc)(bl:kN X sc x (.type "list"))(ha:Vp X U e (.str z))(hz:z.length<=sizeLine)(W3:Pl e:=by intro _ _;rfl):VD X U (.Call (.Name x p) [e] [] pos) (KY z):=.of (nS (EJ t.calm) (dI t bl.g) bl.m bl.v (bC aU dk<|W3 _ _) bl.n bl.d (W3 _ _) rfl) λB F H Y Q k' q=>ha B F H Y _ k' λv F' H' x' r=>by cases r;exact⟨z,rfl,hz,λl hl=>q l _ F' _ ⟨x'.sub.trans<|aP hl,x'.sh.trans<|aP hl,x'.sf,x'.nw⟩ (x'.sh.free hl) aI (x'.sub.free hl)<|Az _⟩
end
def qq{x:Str}(t:At X N sc)(hm:∃tk,X.mg x=some (.str z tk))(hg:sw sc x:=by rfl)(Wb:pE x:=by rfl):Vp X U (.Name x p) (.str z):=by let⟨tk,hm⟩:=hm;exact .of (rf (dI t hg) hm (show RelV (.str z) (.str z tk)from⟨_,rfl⟩) Wb) λB F H Y Q k q=>q _ F H (.refl k.sub)<|.str _
def hJ{x:Str}(t:At X N sc)(hm:∃tk,X.mg x=some (.int z tk))(hg:sw sc x:=by rfl)(Wb:pE x:=by rfl):Vp X U (.Name x p) (.int z):=by let⟨tk,hm⟩:=hm;exact .of (rf (dI t hg) hm (show RelV (.int z) (.int z tk)from⟨_,rfl⟩) Wb) λB F H Y Q k q=>q _ F H (.refl k.sub)<|.int _
def A8(h:Vp X U e d)(XX:swapsWith e none pos.line X.env=pure false:=by rfl):VN X U (.Expr e pos) (.nx U):=λB F H Y E k q=>.mk λon s I=>k8 aU XX on s Y H E I (h B F H Y _ k λv F' H' x' r=>q F' H' Y (k.ext x') x'.sf)
def Oj:VN X U (.Return none pos) (.rt .VH):=λB F H Y E k q=>.mk λon s I=>LK on s Y H E I<|q .VH F H k.toExt .VH
def Pb{P:Program}(VZ:P.given.tree=none){w:World}{K:eZ}{mg:tK}{base:Heap}{x qual:Str}{st:Stmt}{f:Addr}{fd:FuncData}{N ps:cn}{k:Nat}{C:aM->D->Prop}(F:Yw K x qual st f fd)(S:aN N ps (aq st))(len:∀ds d,C ds d->ds.length=ps.length)(body:∀X,DefX P w K mg base k N (aq st) X->∀ds d,C ds d->Vt X (Fd N ds) (aW st) (.rt d)\/(d=.VH/\∃W1,Vt X (Fd N ds) (aW st)<|.nx W1)):dZ P w K mg base jd (k+1) f fd ps (G7 K C):=by
 refine F.ok S (λvs H Q E h=>?_) λV2 A outer s H vs Q E hr h=>?_;let⟨F',ds,d,sub,r,hC,q⟩:=h;rw[r.length];exact len ds d hC;let⟨F',ds,d,sub,r,hC,q⟩:=h;refine⟨_,dU,?_⟩;have hx:DefX P w K mg base k N (aq st) (qA jd P w K mg base N qual (aq st) f V2 A outer s H E).XH:=⟨⟨rfl,rfl,rfl,S.nd,rfl,hr.units,hr.WY,VZ,⟨_,_,rfl,S.gen,S.co,rfl,rfl⟩⟩,rfl,rfl,rfl,rfl,rfl,hr,⟨λ_=>rfl⟩,rfl,rfl⟩;have hk:Ok K ⟨F',H⟩ F' H (start N vs) (Fd N ds):=by unfold start;rw[r.length];exact iI sub r _
 rcases body _ hx ds d hC with hb |⟨rfl,W1,hb⟩;exact hb ⟨F',H⟩ F' H _ _ hk λv F2 H2 x2 r2=>q v F2 H2 x2 r2;exact hb ⟨F',H⟩ F' H _ _ hk λF2 H2 σ2 k2 s2=>q .VH F2 H2 k2.toExt .VH
def S(cs:bI):Str:=⟨cs.toArray⟩
def ce(cs:bI):(S cs).length=cs.length:=by show cs.toArray.size=_;simp
def eQ(cs:bI):(S cs).cps.toList=cs:=by show cs.toArray.toList=_;simp
def pK(a b:bI):S a++S b=S (a++b):=by show(⟨a.toArray++b.toArray⟩:Str)=⟨_⟩;simp
def fG{a:bI}(h:S a=S b):a=b:=by rw[<-eQ a,h,eQ]
def T9(z:Str):z=S z.cps.toList:=by let⟨c⟩:=z;show(⟨c⟩:Str)=⟨_⟩;simp
def dF{cs:bI}(h:∀c∈cs,c<128):PyData.strOk (S cs)=true:=by show cs.toArray.all (·<0x110000)=true;simp;intro c hc;have:=h c hc;lia
def KI{cs:bI}(h:∀c∈cs,c<128):(S cs).cps.all (·<128)=true:=by show cs.toArray.all (·<128)=true;simp;exact h
def al(c:Nat):Bool:=PySem.Unicode.isAlnum c
def HJ(c:Nat):Txt.isalnum (S [c])=al c:=by show(decide ((#[c]:Array Nat).size>0)&&(#[c]:Array Nat).all PySem.Unicode.isAlnum)=_;simp[al]
def sX{pre:bI}{c:Nat}:me (S<|pre++c::post).cps.toList (pre.length:Int)=some c:=by rw[eQ];exact dJ<|by simp
def NQ(pre w post:bI):Txt.slice (S<|pre++w++post) (some (pre.length:Int)) (some<|(pre.length:Int)+(w.length:Int))=S w:=by
 have e:(pre.length:Int)+(w.length:Int)=((pre.length+w.length:Nat):Int):=by lia
 rw[e,uB (by lia)<|by rw[ce];simp,eQ];show(⟨_⟩:Str)=⟨_⟩;simp[List.drop_append,List.take_append]
def E3(pre post:bI)(c:Nat):Txt.slice (S<|pre++c::post) (some (pre.length:Int)) (some<|(pre.length:Int)+2)=S (c::post.take 1):=by
 have e:(pre.length:Int)+2=((pre.length+2:Nat):Int):=by lia
 rw[e,uB (by lia)<|by rw[ce];simp,eQ];show(⟨_⟩:Str)=⟨_⟩;simp[List.drop_append,List.take_append]
def RH:Stmt->Stmt|.ClassDef _ _ _ (b::_) _ _ _ _ _ _ _=>b|s=>s
def Mj{P:Program}{st:Stmt}{k:Nat}(VZ:P.given.tree=none)(F:Yw K x qual st f fd)(S:aN ["self","tokens"] ["self","tokens"] (aq st))(c:Zl K C)(n1:VM K C "tokens")(n2:VM K C "done")(n3:VM K C "steps")(hb:aW st=[.Assign [.Attribute (.Name "self" p1) "tokens" p2] (.Name "tokens" p3) a1,.Assign [.Attribute (.Name "self" p4) "done" p5] (.Constant (.int 0) j p6) a2,.Assign [.Attribute (.Name "self" p7) "steps" p8] (.List [] p9) a3])(v1:fS (aq st) "self"=true)(v2:fS (aq st) "tokens"=true):dZ P w K mg base jd (k+1) f fd ["self","tokens"] (A4 C):=by
 refine F.ok S (λvs H Q E h=>?_) λV2 A outer s H vs Q E hr h=>?_;obtain⟨x,dx,l,rfl,_⟩:=h;rfl;obtain⟨x0,dx,l,rfl,hx,q⟩:=h;have hX:DefX P w K mg base k ["self","tokens"] (aq st) (qA jd P w K mg base ["self","tokens"] qual (aq st) f V2 A outer s H E).XH:=⟨⟨rfl,rfl,rfl,S.nd,rfl,hr.units,hr.WY,VZ,⟨_,_,rfl,S.gen,S.co,rfl,rfl⟩⟩,rfl,rfl,rfl,rfl,rfl,hr,⟨λ_=>rfl⟩,rfl,rfl⟩;have t:=hX.at';rw[hb];refine⟨_,gA (D8 (y8 t (i:=0) rfl v1 rfl) (y8 t (i:=1) rfl v2 rfl) rfl)<|gA (D8 (y8 t (i:=0) rfl v1 rfl) Jq rfl)<|oH<|D8 (y8 t (i:=0) rfl v1 rfl) (Eb dk) rfl,?_⟩;refine⟨.ref l,rfl,.ref x0,rfl,x0,C,dx,[],rfl,hx,c,n1,by decide,?_⟩;refine⟨.ref x0,rfl,x0,C,dx,_,rfl,aI,c,n2,(by show 1<1000;decide),?_⟩;refine⟨bO _,λp hp=>⟨.ref x0,rfl,x0,C,dx,pM "done" (.int 0)<|pM "tokens" (.ref l) [],rfl,?_,c,n3,(show(2:Nat)<1000 by decide),?_⟩⟩;have hpx:x0≠p:=λe=>by subst e;rw[aI]at hp;cases hp
 rw[aK hpx,aI];have hpx:p≠x0:=λe=>by subst e;rw[aI]at hp;cases hp
 refine q p _ (by rwa[aK hpx,aK hpx]at hp) hpx ?_;funext b;unfold dH;by_cases h1:b=x0;rw[ax h1,ax h1];rfl;rw[av h1,av h1];by_cases h2:b=p;simp[h1,h2,hpx];simp[h1,h2]
def DefX.mkR{x:Str}(h:DefX P w K mg base k N sc X)(F:dZ P w K mg base jd j f fd ps (A4 C))(hj:j+1<=k)(M:Mk K C f)(hm:mg x=some (.ref C))(hb:Binds K fd ps [])(c:Zl K C)(n1:VM K C "tokens")(n2:VM K C "done")(n3:VM K C "steps"):Ud X x C:=by obtain⟨h0,rfl,rfl,rfl,rfl,rfl,hr,_⟩:=h;exact⟨⟨f,fd,ps,j,M,F,hr.mono hj,hb⟩,hm,c,n1,n2,n3⟩
def Se(X:Cx)(q:Addr)(U:cE)(tg e:Expr)(ds:aM)(xs xs':aM):Prop:=∀(B:B0)(F H:Hp)(Y:St)(R:It->Hp->Prop)(us:fh),WU X.K B q F us xs->Ok X.K B F H Y U->(∀J F' H' Xa,Ext (Wj ⟨F,H⟩ q Xa) F' H'->Vs X.K F' Xa xs'->vp X.K J F' ds->R J H')->wI X tg e Y H R
section
variable {st:Stmt}{bP:List Stmt}{ds:aM}
def MH{i j m:Int}{C:Int->Int->Prop}{g:Int->Int->Int}(ho:mj X (binaryOp op) (rI C λi j=>.int<|g i j))(ha:V4 X q U a (.int i) xs W9)(hb:Vp X U b (.int j))(hc:C i j)(hm:g i j=m):V4 X q U (.BinOp a op b pos) (.int m) xs W9:=λB F H Y Q us l k w=>.mk λon s I=>pH ho aU aU on s Y H Q I (ha B F H Y _ us l k λx F1 H1 u1 x1 r1 rx=>hb (Wj B q u1) F1 H1 Y _ (k.XM l x1) λy F2 H2 x2 ry=>by cases rx;cases ry;subst hm;exact⟨i,j,rfl,rfl,hc,w _ F2 H2 u1 (x1.trans x2) (r1.mono x2.sf)<|.int _⟩)
def Gs(ha:V4 X q U a (.int i) xs W9)(hb:Vp X U b (.int j))(h0:0<j):V4 X q U (.BinOp a .Mod b pos) (.int<|i%j) xs W9:=MH Jw ha hb h0 rfl
def EE(t:At X N sc)(bl:kN X sc "range" (.type "range"))(h:V4 X q U a (.int j) xs W9)(h1: -(2 ^ 62)<=j)(h2:j<2 ^ 62)(hs:Pl a:=by intro _ _;rfl):Se X q U tg (.Call (.Name "range" p) [a] [] pos) (fu 0 j.toNat) xs W9:=λB F H Y R us l k w=>(.mk λon s I=>AF (dI t bl.g) bl.m (bC aU dk<|hs _ _) (hs _ _) on s Y H R I (h B F H Y _ us l k λv F1 H1 u1 x1 r1 rv=>by cases rv;exact⟨j,rfl,h1,h2,w _ F1 H1 u1 x1 r1 Er⟩))
end
def OQ(t:At X N sc)(hi:Se X p U tg e ds xs0 xs)(h:WS X p tg body ds U xs W1 xs')(hs:∀x,foldedSetIterable e X.env x=pure x:=by intro _;rfl):pP X p U (.For tg e body [] pos) (.nx W1) xs0 xs':=λB F H Y E us l k q=>(.mk λon s I=>D7 t.pass t.calm Q7 He dU hs on s Y H E I (hi B F H Y _ us l k λJ F1 H1 u1 x1 rr1 J1=>by
  refine⟨λi m Y H=>∃Wp F' Z3 W9,Ok X.K (Wj B p Z3) F' H Y Wp/\Vs X.K F' Z3 W9/\Vu F1 F'/\WS X p tg body (ds.drop i) Wp W9 W1 xs'/\m=ds.length-i,⟨ds.length,U,F1,u1,xs,k.XM l x1,rr1,.refl _,by simpa using h,by simp⟩,?_⟩;rintro i m Y H ⟨Wp,F',Z3,W9,k',r',sf,run,rfl⟩;have J2:=J1 i F' H sf k'.sub;generalize e1:ds.drop i=bP at run;cases run with
  |nil=>
   have hl:ds.length<=i:=by have:=aL List.length e1;rw[bX,jf]at this;lia
   exact .inl ⟨J2.2 hl,q F' H Y Z3 k' r'<|x1.sf.trans sf⟩
  |@cons d0 ds0 _ ρa ρb _ _ xsa _ g bd r=>obtain⟨hd,hr,V1⟩:=jc e1;obtain⟨go,yl⟩:=J2.1 _ hd;refine .inr ⟨go,λxy H'=>∃Xe Zn,Ok X.K (Wj B p Zn) Xe H' xy ρb/\Vs X.K Xe Zn xsa/\Vu F1 Xe,λxy H' ⟨Xe,Zn,Zw,r'',XG⟩=>⟨ds.length-(i+1),by lia,_,Xe,Zn,_,Zw,r'',XG,by rwa[hr],rfl⟩,λx H' y=>?_⟩;obtain⟨F2,x2,rx⟩:=yl x H' y;refine g (Wj B p Z3) F2 H' Y x _ (k'.ext x2) rx λF3 H3 XV k3 s3=>bd (Wj B p Z3) F3 H3 XV _ Z3 ⟨aI,l.fr,(r'.mono x2.sf).mono s3⟩ k3 λF4 H4 σ4 us4 k4 r4 s4=>⟨F4,us4,?_,r4,sf.trans (x2.sf.trans (s3.trans s4))⟩;rw[Wj.up]at k4;exact k4))
def LS.lst(S:LS)(q:Addr):LS where
 cs:=S.cs×fh
 ds:=S.ds×aM
 ov c a:=match S.ov c.1 a with|some u=>some u|none=>if a=q then some (.lst c.2)else none
 dom c c' a h:=by
  cases e:S.ov c.1 a with
  |some u=>rw[e]at h;cases h
  |none=>rw[e]at h;rw[S.dom c.1 c'.1 a e];by_cases h1:a=q;have h':(if a=q then some (HO.lst c.2)else none)=none:=h;rw[ax h1]at h';cases h';show(if a=q then _ else _)=_;rw[av h1]
 rep K F c s:=S.rep K F c.1 s.1/\Vs K F c.2 s.2
 mono:=λsf h=>⟨S.mono sf h.1,h.2.mono sf⟩
section
variable {S:LS}{st:Stmt}{bP:List Stmt}{s s1 s':S.ds}{ds:aM}
def sJ{a:Addr}{c:S.cs}(h:S.ov c a=some u):(S.lst q).ov (c,us) a=some u:=by show(match S.ov c a with |some u=>some u |none=>if a=q then some (HO.lst us)else none)=some u;rw[h]
def vx{q:Addr}{c:S.cs}(h:S.ov c q=none):(S.lst q).ov (c,us) q=some (.lst us):=by show(match S.ov c q with |some u=>some u |none=>if q=q then some (HO.lst us)else none)=_;rw[h];exact ax rfl
def oJ{a:Addr}{q:Addr}{c:S.cs}(h:S.ov c a=none)(hq:a≠q):(S.lst q).ov (c,us) a=none:=by show(match S.ov c a with |some u=>some u |none=>if a=q then some (HO.lst us)else none)=none;rw[h];exact av hq
def tO{q:Addr}{c:S.cs}(hq:H q=some (.lst us))(h0:S.ov c q=none):Vy (S.lst q) ⟨F,H⟩ (c,us)=Vy S ⟨F,H⟩ c:=by
 have:k9 ((S.lst q).ov (c,us)) H=k9 (S.ov c) H:=funext λa=>by cases e:S.ov c a with|some u=>rw[gP<|sJ e,gP e]|none=>rw[dL e];by_cases h:a=q;subst h;rw[gP<|vx e,hq];rw[dL<|oJ e h]
 show(⟨F,k9 ((S.lst q).ov (c,us)) H⟩:B0)=⟨F,k9 (S.ov c) H⟩;rw[this]
def Fh{q:Addr}{c:S.cs}(hc:∀a u,S.ov c a=some u->H a=some u)(h0:S.ov c q=none):Vy (S.lst q) ⟨F,H⟩ (c,us)=Wj ⟨F,H⟩ q us:=by
 have:k9 ((S.lst q).ov (c,us)) H=dH H q (.lst us):=funext λa=>by by_cases h:a=q;subst h;rw[gP<|vx h0,aI];rw[aK h];cases e:S.ov c a with|some u=>rw[gP<|sJ e,hc a u e]|none=>rw[dL<|oJ e h]
 show(⟨F,k9 ((S.lst q).ov (c,us)) H⟩:B0)=⟨F,dH H q<|.lst us⟩;rw[this]
def iQ(S:LS)(q:Addr):Prop:=∀c,S.ov c q=none
def Ln.fst(hq:iQ S q){c:(S.lst q).cs}{s:(S.lst q).ds}(l:Ln (S.lst q) K B F c s):Ln S K B F c.1 s.1:=⟨λa u h=>l.st a u<|sJ h,λa u h=>l.fr a u<|sJ h,l.rep.1⟩
def Ln.snd(hq:iQ S q){c:(S.lst q).cs}{s:(S.lst q).ds}(l:Ln (S.lst q) K B F c s):WU K B q F c.2 s.2:=⟨l.st q _<|vx<|hq c.1,l.fr q _<|vx<|hq c.1,l.rep.2⟩
def Vz.l(hq:iQ S q)(h:Vz S X U e d s s'):Vz (S.lst q) X U e d (s,xs) (s',xs):=λB F H Y Q c l k w=>h B F H Y Q c.1 (l.fst hq) k λv F' H' c' x r rv=>w v F' H' (c',c.2) (by rwa[tO (k.sh _ _ (l.snd hq).st)<|hq c']) ⟨r,l.rep.2.mono x.sf⟩ rv
def OU(hq:iQ S q){c:(S.lst q).cs}(l:Ln (S.lst q) X.K B F c (s,xs))(k:Ok X.K B F H Y U)(w:vK (S.lst q) X.K B F E (s',xs) o):vK S X.K B F E s' o\/vK S X.K ⟨F,B.H⟩ F E s' o:=by
 have e:∀c':S.cs,Vy (S.lst q) B (c',c.2)=Vy S B c':=λc'=>tO (l.snd hq).st<|hq c';cases o with
 |nx W1=>exact .inl λF' H' xy c' k' r' sf=>w F' H' xy (c',c.2) (by rwa[e]) ⟨r',l.rep.2.mono sf⟩ sf
 |rt d=>exact .inr λv F' H' c' x' r' rv=>w v F' H' (c',c.2) (by rw[e];exact(k.Yt<|l.fst hq).toExt.Zp x') ⟨r',l.rep.2.mono x'.sf⟩ rv
def Ln.zF2{c:S.cs}(l:Ln S K B F c s)(x:Ext B F H):Ln S K ⟨F,B.H⟩ F c s:=⟨l.st,λa u h=>l.free x h,l.rep⟩
def V0.l(hq:iQ S q)(h:V0 S X U st o s s'):V0 (S.lst q) X U st o (s,xs) (s',xs):=λB F H Y E c l k w=>by rcases OU hq l k w with z |z;exact h B F H Y E c.1 (l.fst hq) k z;exact h ⟨F,B.H⟩ F H Y E c.1 ((l.fst hq).zF2 k.toExt) k.now z
def V4.zl(hq:iQ S q)(h:V4 X q U e d xs xs'):Vz (S.lst q) X U e d (s,xs) (s,xs'):=λB F H Y Q c l k w=>h B F H Y Q c.2 (l.snd hq) k λv F' H' Xa x r rv=>w v F' H' (c.1,Xa) (by rwa[Fh ((l.fst hq).now k)<|hq c.1]) ⟨S.mono x.sf l.rep.1,r⟩ rv
def X2.zl(hq:iQ S q)(h:X2 X q U e b xs):VC (S.lst q) X U e b (s,xs) (s,xs):=λB F H Y Q c l k w=>h B F H Y Q c.2 (l.snd hq) k λF' H' x=>w F' H' c (x.toZ<|l.now k)<|(S.lst q).mono x.sf l.rep
def LW{q:Addr}{c:S.cs}(hc:∀a u,S.ov c a=some u->H a=some u)(h0:S.ov c q=none):k9 ((S.lst q).ov (c,us)) H=dH H q (.lst us):=aL B0.H<|Fh (F:=H) hc h0
def Fj{q:Addr}{c:S.cs}(h0:S.ov c q=none):Vy (S.lst q) ⟨F,H⟩ (c,us)=Wj (Vy S ⟨F,H⟩ c) q us:=by
 have:k9 ((S.lst q).ov (c,us)) H=dH (k9 (S.ov c) H) q (.lst us):=funext λa=>by by_cases h:a=q;subst h;rw[gP<|vx h0,aI];rw[aK h];cases e:S.ov c a with|some u=>rw[gP<|sJ e,gP e]|none=>rw[dL<|oJ e h,dL e]
 show(⟨F,k9 ((S.lst q).ov (c,us)) H⟩:B0)=⟨F,dH (k9 (S.ov c) H) q<|.lst us⟩;rw[this]
def Ln.apart{q:Addr}{c:S.cs}(l:Ln S K B F c s)(h:B.H q=none):iQ S q:=λc'=>by cases e:S.ov c' q with|none=>rfl|some u=>let⟨v,hv⟩:=LS.has e c;rw[l.st q v hv]at h;cases h
def GV{U:cE}{apos:Pos}{Vx:Pos}(hq:iQ S q)(t:At X N sc)(i:Nat)(hr:U[i]?=some (.val<|.adr q))(he:Vz (S.lst q) X U e d (s,xs) (s1,W9))(hz:W9.length<sizeLine)(hN:N[i]?=some x:=by rfl)(hv:fS sc x=true:=by rfl)(hx:cU x=true:=by rfl)(hb2:attributeBase (.Name x py) "append" X.env (eval (.Name x py) X.env)=eval (.Name x py) X.env:=by rfl)(hs:Fc e [] X.env:=by rfl)(VO:(apos.endLine==Vx.line)=true:=by rfl)(Xf:tN Vx [] X.env:=by rfl)(WW:Cn Vx [e] X.env:=by rfl)(XX:swapsWith (.Call (.Attribute (.Name x py) "append" apos) [e] [] Vx) none pos.line X.env=pure false:=by rfl):V0 (S.lst q) X U (.Expr (.Call (.Attribute (.Name x py) "append" apos) [e] [] Vx) pos) (.nx U) (s,xs) (s1,W9++[d]):=λB F H Y E c l k w=>.mk λon st I=>k8 (xk dw ib ia nV aU (bC aU dk hs) hb2 WW VO hs Xf) XX on st Y H E I<|vk t hr hN hv hx k ⟨.inl ⟨rfl,_,Wd.of<|k.sh _ _ (l.snd hq).st⟩,he B F H Y _ c l k λv F1 H1 c1 x1 r1 rv=>by have k1:=k.V6 l x1;have l1:=l.up r1;refine⟨q,c1.2,v,rfl,rfl,l1.now k1 _ _<|vx<|hq c1.1,by rwa[r1.2.length],?_⟩;have k2:Ok X.K (Vy (S.lst q) (Vy (S.lst q) B c1) (c1.1,c1.2++[v])) F1 (k9 ((S.lst q).ov (c1.1,c1.2++[v])) H1) Y U:=k1.Yt l1;have e1:Vy (S.lst q) (Vy (S.lst q) B c1) (c1.1,c1.2++[v])=Vy (S.lst q) B (c1.1,c1.2++[v]):=Vy.up;rw[e1,LW ((l1.fst hq).now k1)<|hq c1.1]at k2;exact w F1 _ Y (c1.1,c1.2++[v]) k2 ⟨r1.1,r1.2.append<|.cons rv .nil⟩ x1.sf⟩
def AZ{r:Bool}{U:cE}(t:At X N sc)(i:Nat)(hr:U[i]?=some (.val<|.adr q))(sh:SeqAt.shaped (PyData.list<|VA xs)=true)(he:r= !xs.isEmpty)(hN:N[i]?=some x:=by rfl)(hv:fS sc x=true:=by rfl)(hx:cU x=true:=by rfl):X2 X q U (.Compare (.Name x py) [.NotEq] [.List [] p3] pos) r xs:=λB F H Y Q us l k w=>.mk λon s I=>by refine gr (Jb t (q:=.list []) sh rfl) aU aU (eE _<|by decide) on s Y H Q I<|vk t hr hN hv hx k ?_;refine(bK af).toQ.p B F H Y _ k λv F' H' x' rd=>?_;refine⟨λhc H2 s2 on Y s u I ru=>?_,rd,r,?_,w F' H' x'⟩;cases(ru);exact Y6.reads (k:=true) I (x'.sub.trans s2) (Wd.of<|s2 _ _<|x'.sh _ _<|k.sh _ _ l.st) (l.rep.mono x'.sf) hc;subst he;cases xs with|nil=>rfl|cons n ns=>rfl
def wj(t:At X N sc)(h:Vz S X U e d s s')(hg:XD X U tg d W1)(hs:swapsWithSole [tg] e pos.line X.env=pure false:=by rfl)(hw:swappedStores [tg] e (dE sc)=pure none:=by rfl)(h1:(assignEach [tg] X.env).map (·.2)=[assign tg X.env]:=by rfl):V0 S X U (.Assign [tg] e pos) (.nx W1) s s':=λB F H Y E c l k w=>.mk λon st I=>Jh aU He hs ((A3<|t.eS).trans hw) h1 on st Y H E I (h B F H Y _ c l k λv F1 H1 c1 x1 r1 rv=>hg (Vy S B c1) F1 H1 Y v _ (k.V6 l x1) rv λF2 H2 σ2 k2 s2=>w F2 H2 σ2 c1 k2 (S.mono s2 r1)<|x1.sf.trans s2)
def K4{U:cE}[WR X](t:At X N sc)(i:Nat)(hr:U[i]?=some (.val<|.str z))(h:Vz S X U e (.str w) s s')(hz:z.length+w.length<=sizeLine)(hi:N[i]?=some x:=by rfl)(hx:ml sc x=true:=by rfl):V0 S X U (.AugAssign (.Name x pos') .Add e pos) (.nx<|U.set i<|.val<|.str<|z++w) s s':=λB F H Y E c l k q=>.mk λon st I=>Jg t.nd (t.ix hi) (t.loc hx) aU (C3) Ga on st Y H E I<|by let⟨v,h1,h2⟩:=k.vals i _ hr;cases h2;exact⟨_,h1,h B F H Y _ c l k λv F' H' c1 x' r rv=>by cases rv;exact⟨z,w,rfl,rfl,hz,q F' H' _ c1 ((k.V6 l x').VP i<|.str _) r x'.sf⟩⟩
def Bx(ha:Vz S X U a (.str z) s s1)(hb:Vz S X U b (.str w) s1 s')(hz:z.length+w.length<=sizeLine):Vz S X U (.BinOp a .Add b pos) (.str<|z++w) s s':=λB F H Y Q c l k q=>.mk λon st I=>pH sF aU aU on st Y H Q I (G0 ha hb l k λx y F' H' c' x' r' rx ry=>by cases rx;cases ry;exact⟨z,w,rfl,rfl,hz,q _ F' H' c' x' r'<|.str _⟩)
end
section
variable {ds:aM}{s s1 s':Int×aM}
def re{U:cE}{apos:Pos}{Vx:Pos}(t:At X N sc)(ok:gn X.K r)(i:Nat)(hr:U[i]?=some (.val<|.adr r.p))(he:Vz (Vv r) X U e (.lst ys) s s1)(hz:s1.2.length+ys.length<=sizeLine)(hN:N[i]?=some x:=by rfl)(hv:fS sc x=true:=by rfl)(hx:cU x=true:=by rfl)(hb:attributeBase (.Name x py) "steps" X.env (eval (.Name x py) X.env)=eval (.Name x py) X.env:=by rfl)(hb2:attributeBase (.Attribute (.Name x py) "steps" ps) "extend" X.env (eval (.Attribute (.Name x py) "steps" ps) X.env)=eval (.Attribute (.Name x py) "steps" ps) X.env:=by rfl)(hs:Fc e [] X.env:=by rfl)(VO:(apos.endLine==Vx.line)=true:=by rfl)(Xf:tN Vx [] X.env:=by rfl)(WW:Cn Vx [e] X.env:=by rfl)(XX:swapsWith (.Call (.Attribute (.Attribute (.Name x py) "steps" ps) "extend" apos) [e] [] Vx) none pos.line X.env=pure false:=by rfl):V0 (Vv r) X U (.Expr (.Call (.Attribute (.Attribute (.Name x py) "steps" ps) "extend" apos) [e] [] Vx) pos) (.nx U) s (s1.1,s1.2++ys):=λB F H Y E c l k w=>.mk λon st I=>k8 (xk dw PySem.F.slot_list_extend PySem.F.type_list_extend Hj (uS aU hb) (bC aU dk hs) hb2 WW VO hs Xf) XX on st Y H E I (EY t hr hN hv hx k ⟨r.p,r.C,r.dx,_,.ref r.q,rfl,l.now k _ _ Vv.Y5,ok.cls,ok.n3,rfl,.inl ⟨rfl,_,Wd.of<|l.now k _ _<|Vv.Zj ok.ne⟩,he B F H Y _ c l k λv F1 H1 c1 x1 r1 rv=>by
   have k1:=k.V6 l x1;have l1:=l.up r1;cases rv with|@lst b ws _ hf rl=>
   refine⟨r.q,b,c1.2,ws,rfl,rfl,l1.now k1 _ _ (Vv.Zj ok.ne),x1.sub _ _ hf,by rwa[r1.2.1.length,rl.length],?_⟩;have k2:Ok X.K (Vy (Vv r) (Vy (Vv r) B c1) (c1.1,c1.2++ws)) F1 (k9 ((Vv r).ov (c1.1,c1.2++ws)) H1) Y U:=k1.Yt l1;have e1:Vy (Vv r) (Vy (Vv r) B c1) (c1.1,c1.2++ws)=Vy (Vv r) B (c1.1,c1.2++ws):=Vy.up;rw[e1,Ju (c':=(c1.1,c1.2++ws)) ok.ne (l1.now k1) rfl]at k2;exact w F1 _ Y (c1.1,c1.2++ws) k2 ⟨r1.1,r1.2.1.append rl,r1.2.2⟩ x1.sf⟩)
def Li(K:eZ)(C:cn->Int×aM->aM->D->Int×aM->aM->Prop):Sp:=λvs H Q _=>∃(r:m7)(q:Addr)(F:Hp)(d:D)(c:((Vv r).lst q).cs)(s s':Int×aM)(xs xs':aM),Vu F H/\gn K r/\iQ (Vv r) q/\(∀a u,((Vv r).lst q).ov c a=some u->H a=some u)/\(∀a u,((Vv r).lst q).ov c a=some u->F a=none)/\((Vv r).lst q).rep K F c (s,xs)/\Vs K F vs [.adr r.p,.adr q]/\C r.toks s xs d s' xs'/\∀v F' H' c',Ext (Vy ((Vv r).lst q) ⟨F,H⟩ c') F' H'->((Vv r).lst q).rep K F' c' (s',xs')->Rep K F' v d->Q v H'
def Wr(X:Cx)(x:Str)(C:cn->Int×aM->aM->D->Int×aM->aM->Prop):Prop:=∃(f:Addr)(fd:FuncData)(ps:cn)(k:Nat),dZ X.prog X.w X.K X.mg X.base jd k f fd ps (Li X.K C)/\VS k X.A/\X.mg x=some (.ref f)/\keepIn X.K (.ref f)=true/\Binds X.K fd ps []
def Mo{P:Program}(VZ:P.given.tree=none){w:World}{K:eZ}{mg:tK}{base:Heap}{x qual:Str}{st:Stmt}{f:Addr}{fd:FuncData}{N ps:cn}{k:Nat}{C:cn->Int×aM->aM->D->Int×aM->aM->Prop}(F:Yw K x qual st f fd)(S:aN N ps (aq st))(len:2=ps.length)(body:∀X,DefX P w K mg base k N (aq st) X->∀(r:m7)(q:Addr),gn X.K r->iQ (Vv r) q->∀s xs d s' xs',C r.toks s xs d s' xs'->Wq ((Vv r).lst q) X (.val (.adr r.p)::.val (.adr q)::List.replicate (N.length-2) Sl.un) (aW st) (.rt d) (s,xs) (s',xs')):dZ P w K mg base jd (k+1) f fd ps (Li K C):=by
 refine F.ok S (λvs H Q E h=>?_) λV2 A outer s H vs Q E hr h=>?_;obtain⟨r,q,F',d,c,s,s',xs,xs',sub,ok,ap,h1,h2,h3,rv,hC,g⟩:=h;rwa[rv.length];obtain⟨r,q,F',d,c,s1,s',xs,xs',sub,ok,ap,h1,h2,h3,rv,hC,g⟩:=h;refine⟨_,dU,?_⟩;have hx:DefX P w K mg base k N (aq st) (qA jd P w K mg base N qual (aq st) f V2 A outer s H E).XH:=⟨⟨rfl,rfl,rfl,S.nd,rfl,hr.units,hr.WY,VZ,⟨_,_,rfl,S.gen,S.co,rfl,rfl⟩⟩,rfl,rfl,rfl,rfl,rfl,hr,⟨λ_=>rfl⟩,rfl,rfl⟩;have hk:Ok K ⟨F',H⟩ F' H (start N vs) ([.adr r.p,.adr q].map Sl.val++List.replicate (N.length-2) Sl.un):=by unfold start;rw[rv.length];exact iI sub rv _
 exact body _ hx r q ok ap s1 xs d s' xs' hC ⟨F',H⟩ F' H _ _ c ⟨h1,h2,h3⟩ hk λv F2 H2 c2 x2 r2 rv=>g v F2 H2 c2 x2 r2 rv
def DefX.ZL{x:Str}{C:cn->Int×aM->aM->D->Int×aM->aM->Prop}(h:DefX P w K mg base k N sc X)(F:dZ P w K mg base jd j f fd ps (Li K C))(hj:j<=k)(hm:mg x=some (.ref f))(hk:keepIn K (.ref f)=true)(hb:Binds K fd ps []):Wr X x C:=by obtain⟨h0,rfl,rfl,rfl,rfl,rfl,hr,_⟩:=h;exact⟨f,fd,ps,j,F,hr.mono hj,hm,hk,hb⟩
def Al[WR X](t:At X N sc)(ok:gn X.K r){C:cn->Int×aM->aM->D->Int×aM->aM->Prop}(h:Wr X x C)(i j:Nat)(ha:Vp X U e0 (.adr r.p))(hr:U[i]?=some (.own xs))(hC:C r.toks s xs d s' xs')(hN:N[i]?=some z:=by rfl)(hv:fS sc z=true:=by rfl)(hx:cU z=true:=by rfl)(hj:N[j]?=some y:=by rfl)(hy:ml sc y=true:=by rfl)(hg:sw sc x:=by rfl)(Wb:pE x:=by rfl)(hs:Pl (.Name z pz):=by intro _ _;rfl)(he:Pl e0:=by intro _ _;rfl)(XX:swapsWith (.Call (.Name x p) [e0,.Name z pz] [] Vx) (some<|.Name y pos') pos.line X.env=pure false:=by rfl):V0 (Vv r) X U (.Assign [.Name y pos'] (.Call (.Name x p) [e0,.Name z pz] [] Vx) pos) (.nx<|(U.set i<|.own xs').set j<|.val d) s s':=λB F0 H Y E c l k w=>.mk λon st I=>by
 obtain⟨f,fd,ps,kk,F,Yn,hm,hk,hb⟩:=h;have pz':iB jd X E0:=qf;refine oI t.nd (t.ix hj) (t.loc hy) (j7 F Yn (dI t hg) hm hk hb .nil pz' (bC aU (bC aU dk<|hs _ _)<|he _ _) Wb (he _ _)<|by unfold tN;rw[hs];rfl) XX Ga on st Y H E I<|ha B F0 H Y _ k λv0 F1 H1 x1 rv1=>?_;have k1:=k.ext x1;have l1:=l.ext x1;refine sD t hr hN hv hx k1 λa us h1 h2 h3=>?_;obtain⟨a',Xa,o1,o2,o3,o4,o5⟩:=k1.We i xs hr;rw[h1]at o1;cases o1;have ap:=l1.apart o4;refine⟨r,a,F1,d,(c,us),s,s',xs,xs',k1.sub,ok,ap,λb u hb=>?_,λb u hb=>?_,⟨l1.rep,h3⟩,?_,hC,λv F2 H2 c2 x2 r2 rv=>?_⟩;by_cases ZA:b=a;subst ZA;rw[vx<|ap c]at hb;cases hb;exact h2;cases e:(Vv r).ov c b with
 |some u'=>rw[sJ e]at hb;cases hb;exact l1.now k1 _ _ e
 |none=>rw[oJ e ZA]at hb;cases hb
 by_cases ZA:b=a;subst ZA;exact o3;cases e:(Vv r).ov c b with|some u'=>exact l1.ff k1 _ _ e|none=>rw[oJ e ZA]at hb;cases hb
 exact .cons rv1<|.cons (.adr a) .nil;have x2:=(Fj<|ap c2.1)▸x2;have k2:Ok X.K (Vy (Vv r) B c2.1) F1 (k9 ((Vv r).ov c2.1) H1) Y U:=k1.Yt l1;exact w F2 H2 _ c2.1 ((k2.back hr h1 x2 r2.2).VP j rv) r2.1<|x1.sf.trans x2.sf
end
inductive yf(S:LS)(X:Cx)(cd:Expr)(body:List Stmt):Nat->cE->S.ds->Out->S.ds->Prop where
 |stop {U:cE} {s s1:S.ds}:VC S X U cd false s s1->yf S X cd body 0 U s (.nx U) s1
 |ret {U:cE} {s s1 s2:S.ds} {d:D}:VC S X U cd true s s1->Wq S X U body (.rt d) s1 s2->yf S X cd body 0 U s (.rt d) s2
 |step {n:Nat} {U Wp:cE} {o:Out} {s s1 s2 s3:S.ds}:VC S X U cd true s s1->Wq S X U body (.nx Wp) s1 s2->yf S X cd body n Wp s2 o s3->yf S X cd body (n+1) U s o s3
section
variable {S:LS}{s s':S.ds}
def Aj(t:At X N sc)(h:∃n,yf S X cd body n U s o s'):V0 S X U (.While cd body [] pos) o s s':=λB F H Y E c l k q=>.mk λon w I=>xa t.pass mX dU on w Y H E I (by
  let⟨n,h⟩:=h;refine⟨λm Y H=>∃Wp F1 c1 s1,Ok X.K (Vy S B c1) F1 H Y Wp/\S.rep X.K F1 c1 s1/\Vu F F1/\yf S X cd body m Wp s1 o s',⟨n,U,F,c,s,by rwa[Vy.same l.st],l.rep,.refl _,h⟩,?_⟩;rintro m Y H ⟨Wp,F1,c1,s1,k1,r1,sf,run⟩;have l1:=l.up r1;cases run with
  |stop hc=>refine hc (Vy S B c1) F1 H Y _ c1 l1 k1 λF2 H2 c2 x2 r2=>?_;rw[av aA];have k2:=k1.V6 l1 x2;rw[Vy.up]at k2;exact q F2 H2 Y c2 k2 r2<|sf.trans x2.sf
  |@ret _ _ sa _ d hc hb=>refine hc (Vy S B c1) F1 H Y _ c1 l1 k1 λF2 H2 c2 x2 r2=>?_;rw[ax rfl];have k2:=k1.V6 l1 x2;rw[Vy.up]at k2;refine⟨λxy H'=>False,λxy H' h=>h.elim,hb (Vy S B c2) F2 H2 Y _ c2 (l.up r2) k2 λv F3 H3 c3 x3 r3 rv=>?_⟩;rw[Vy.up]at x3;exact q v F3 H3 c3 x3 r3 rv
  |@step n0 _ ρa _ _ sa sb _ hc hb r=>refine hc (Vy S B c1) F1 H Y _ c1 l1 k1 λF2 H2 c2 x2 r2=>?_;rw[ax rfl];have k2:=k1.V6 l1 x2;rw[Vy.up]at k2;refine⟨λxy H'=>∃Xe c'',Ok X.K (Vy S B c'') Xe H' xy ρa/\S.rep X.K Xe c'' sb/\Vu F Xe,λxy H' ⟨Xe,c'',Zw,r'',XG⟩=>⟨_,fC _,_,Xe,c'',_,Zw,r'',XG,r⟩,hb (Vy S B c2) F2 H2 Y _ c2 (l.up r2) k2 λF3 H3 XV c3 k3 r3 s3=>⟨F3,c3,?_,r3,sf.trans (x2.sf.trans s3)⟩⟩;rw[Vy.up]at k3;exact k3)
end
structure Ci(P:Program)(w:World)(K:eZ)(a:Addr)(kvs:List (Str×Addr))(ep:Nat):Prop where
 lo:(a==sysModules)=false
 at':∀h:Heap,K.In h->h.DictAt (la P w) a (kvs.map λp=>((Sum.inr p.1:nt),Value.ref p.2)) ep
section
variable {ds:aM}{kvs:List (Str×Addr)}
abbrev u6(kvs:List (Str×Addr)):List (nt×Value):=kvs.map λp=>((Sum.inr p.1:nt),Value.ref p.2)
def OI(g:Ci X.prog X.w X.K q kvs ep):mj X (compareOp .In) (λx y H Q=>∃k,x=.str k/\y=.ref q/\Q (.bl (valueAt (u6 kvs)<|Sum.inr k).isSome) H):=by intro on s Y H x y v u Q I rx ry h;obtain⟨k,rfl,rfl,z⟩:=h;obtain⟨t,rfl⟩:=rx;cases ry;exact wpAny_in_of (ly k t) g.lo (g.at' _ I.WO).dictOf.mapOf ⟨.bl _,H,I.tok _,rfl,z⟩
def xR{r:Bool}{x:Str}(t:At X N sc)(g:Ci X.prog X.w X.K q kvs ep)(ha:Vp X U a (.str k))(hm:X.mg x=some (.ref q))(he:(valueAt (u6 kvs)<|Sum.inr k).isSome=r)(hg:sw sc x:=by rfl)(Wb:pE x:=by rfl)(hb:behindInMarks .In (.Name x py)=false:=by rfl):Vr X U (.Compare a [.In] [.Name x py] pos) r:=.of (gr (OI g) aU aU hb) λB F H Y Q k' w=>two ha (xM t hm hg Wb) k' λu v F' H' x' ru rv=>by cases ru;cases rv;exact⟨k,rfl,rfl,_,rfl,by rw[he];exact w F' H' x'⟩
def O2(g:Ci X.prog X.w X.K q kvs ep):Qj X (λx y H Q=>∃k l,x=.ref q/\y=.str k/\valueAt (u6 kvs) (Sum.inr k)=some (.ref l)/\Q (.ref l) H):=by intro value slice on s Y H x y v u Q I rx ry h hs;obtain⟨k,l,rfl,rfl,hv,z⟩:=h;cases rx;obtain⟨t,rfl⟩:=ry;have dd:=g.at' _ I.WO;exact kQ dd.dictOf.typeIs PySem.F.slot_dict_getitem.lookup (Sh (ly k t) dd.dictOf.mapOf hv ⟨rfl,.ref l,H,I.tok _,rfl,z⟩) hs
def Pm{x:Str}(t:At X N sc)(g:Ci X.prog X.w X.K q kvs ep)(ha:Vp X U a (.str k))(hm:X.mg x=some (.ref q))(he:valueAt (u6 kvs) (Sum.inr k)=some (.ref l))(hg:sw sc x:=by rfl)(Wb:pE x:=by rfl)(hs:oU a:=by intro _ _;rfl):Vp X U (.Subscript (.Name x py) a pos) (.adr l):=.of (xj (O2 g) aU aU hs) λB F H Y Q k' w=>two (xM t hm hg Wb) ha k' λu v F' H' x' ru rv=>by cases ru;cases rv;exact⟨k,l,rfl,rfl,he,w _ F' H' x'<|.adr l⟩
theorem Ao:∀(kvs:List (Str×Addr))(us:jh),us.length=kvs.length->(∀(j:Nat)(v:Value),us[j]?=some v->∃k x,(u6 kvs)[j]?=some (k,x)/\AJ k v=true)->Vals (kvs.map λp=>V.str p.1) us
 |[],[],_,_=>.nil|p::kvs,u::us,hl,h=>by obtain⟨k,x,e,hk⟩:=h 0 u rfl;cases e;rcases fy hk with⟨i,t,e,_⟩ |⟨z,t,e,rfl⟩;cases e;cases e;exact .cons ⟨t,rfl⟩ (Ao kvs us (by simpa using hl) λj v hj=>h (j+1) v hj)
 |[],u::us,hl,_=>by simp at hl|p::kvs,[],hl,_=>by simp at hl
def zx(g:Ci X.prog X.w X.K q kvs ep)(hc:X.calm=true)(hz:kvs.length<=sizeLine):iq X (.type "list") (λxs H Q=>xs=[.ref q]/\∀l,H l=none->Q (.ref l) (dH H l<|.lst (kvs.map λp=>V.str p.1))):=by intro on s Y H xs us Q I r h;obtain⟨rfl,z⟩:=h;obtain⟨u,rfl,rx⟩:=lB r;cases rx;have hl:(u6 kvs).length=kvs.length:=ai _;refine kdl_call (kdl_dict g.lo) (I.ok.hd hc) (g.at' _ I.WO) (by rwa[hl]) λh' tk ZO c' kp e Z9=>?_;refine⟨.ref s.heap.objs.size,_,I.laid (o:=.lst (kvs.map λp=>V.str p.1)) kp (ao _)<|⟨by rwa[ai],ZO.toList,c',?_,by simpa using e⟩,rfl,z _<|I.VG.fresh<|ao _⟩;exact Ao kvs ZO.toList (by rw[dj,Z9.1,hl]) λj v e=>Z9.2 j v<|by rwa[<-Array.getElem?_toList]
def Kj{x:Str}(t:At X N sc)(g:Ci X.prog X.w X.K q kvs ep)(bl:kN X sc y (.type "list"))(hm:X.mg x=some (.ref q))(hz:kvs.length<=sizeLine)(hg:sw sc x:=by rfl)(Wb:pE x:=by rfl)(W3:Pl (.Name x py):=by intro _ _;rfl):VD X U (.Call (.Name y p) [.Name x py] [] pos) (kvs.map λp=>D.str p.1):=.of (nS (zx g t.calm hz) (dI t bl.g) bl.m bl.v (bC aU dk<|W3 _ _) bl.n bl.d (W3 _ _) rfl) λB F H Y Q k' w=>(xM t hm hg Wb) B F H Y _ k' λv F' H' x' r=>by
  cases r;refine⟨rfl,λp hp=>?_⟩;have rl:∀kvs:List (Str×Addr),Vs X.K F' (kvs.map λp=>V.str p.1) (kvs.map λp=>D.str p.1):=λkvs=>by induction kvs with|nil=>exact .nil|cons p kvs ih=>exact .cons (.str _) ih
  exact w p _ F' _ ⟨x'.sub.trans<|aP hp,x'.sh.trans<|aP hp,x'.sf,x'.nw⟩ (x'.sh.free hp) aI (x'.sub.free hp)<|rl kvs
def Xd(K:eZ)(l:Addr)(ns:bR):Prop:=∃(o:Obj)(its:Array Value)(n:Nat),K.lookup l=some o/\o.cls=.type "tuple"/\o.data=.seq its n/\its.size<=sizeLine/\Vals (ns.map V.int) its.toList
def Xd.sq(g:Xd K l ns)(H:Hp):WM K H l (ns.map V.int):=.inr g
def Ry(h:Vp X U e (.adr l))(g:Xd X.K l ns):Za X U tg e (ns.map D.int):=.of (Jk aU) λB F H Y R k w=>h B F H Y _ k λv F' H' x r=>by cases r;exact⟨_,rfl,⟨_,g.sq H'⟩,w _ F' H' x<|JS (λH2 s2=>g.sq H2)<|Vs.ints ns⟩
def O7(g:Xd X.K l ns)(hk:kitOne X.K (.type "tuple") (.type T)=some k):iq X (.builtin "isinstance") (λxs H Q=>xs=[.ref l,.ty T]/\Q (.bl k) H):=by intro on s Y H xs us Q I r h;obtain⟨rfl,z⟩:=h;obtain⟨u,w,rfl,ru,Xn⟩:=wQ r;cases(Xn);cases(ru);obtain⟨o,its,n,h1,h2,h3,h4,h5⟩:=g;exact cQ kitx_tuple I.WO ⟨o,I.WO _ _ h1,h2⟩ hk (λz=>nomatch z) λtk=>⟨.bl k,H,I.tok tk,rfl,z⟩
def Mx(t:At X N sc)(g:Xd X.K l ns)(bl:kN X sc x (.builtin "isinstance"))(bt:kN X sc y (.type T))(ha:Vp X U a (.adr l))(hk:kitOne X.K (.type "tuple") (.type T)=some k)(hpa:Pl a:=by intro _ _;rfl):Vp X U (.Call (.Name x p) [a,.Name y py] [] pos) (.bl k):=.of (iH (O7 g hk) (dI t bl.g) bl.m bl.v (bC aU (bC (wp (v:=.ty T) (dI t bt.g) bt.m bt.v rfl bt.n bt.d) dk)<|hpa _ _) bl.n bl.d (hpa _ _) rfl) λB F H Y Q k' w=>ha B F H Y _ k' λv F' H' x' r=>by cases r;exact⟨rfl,w _ F' H' x'<|.bl k⟩
def Hi:R8 X "str.startswith" (λv vs H Q=>∃(z w:Str),v=.str z/\vs=[.str w]/\Q (.bl<|Txt.startswith z w) H):=by intro on s Y H v vs u us Q I rv rvs h;obtain⟨z,w,rfl,rfl,q⟩:=h;obtain⟨t,rfl⟩:=rv;obtain⟨u2,rfl,⟨t2,rfl⟩⟩:=lB rvs;exact PySem.SC.startswith ⟨.bl _,H,I,rfl,q⟩
def rk{r:Bool}{apos:Pos}(ho:Vp X U a (.str z))(ha:Vp X U e (.str w))(hi:Txt.startswith z w=r)(hs:Pl e:=by intro _ _;rfl)(WX:attributeBase a "startswith" X.env (eval a X.env)=eval a X.env:=by rfl)(WW:Cn Vx [e] X.env:=by rfl)(VO:(apos.endLine==Vx.line)=true:=by rfl):Vp X U (.Call (.Attribute a "startswith" apos) [e] [] Vx) (.bl r):=.of (xk ym PySem.F.slot_str_startswith PySem.F.type_str_startswith Hi aU (bC aU dk<|hs _ _) WX WW VO (hs _ _) rfl) λB F H Y Q k q=>ho B F H Y _ k λv F1 H1 x1 r1=>by cases r1;refine⟨rfl,ha B F1 H1 Y _ (k.ext x1) λv2 F2 H2 x2 r2=>?_⟩;cases r2;subst hi;exact⟨z,w,rfl,rfl,q _ F2 H2 (x1.t x2)<|.bl _⟩
def vd(z w:Str):cn:=Builtin.Str.partsBetween z (Builtin.Str.occurrences z w 0 z.length<|z.length+1) w.length
structure KO(z w:Str):Prop where
 h1:(decide (z.length<w.length)||decide (Builtin.Str.strKind z<Builtin.Str.strKind w))=false
 h2:(w.length==0)=false
 h3:(Builtin.Str.occurrences z w 0 z.length<|z.length+1).isEmpty=false
 h4:z.length<=sizeLine
 h5:(vd z w).length<=sizeLine
def An:∀(ps:cn)(n:Nat),Vals (ps.map V.str) (strsFrom n ps)|[],_=>.nil|p::ps,n=>.cons ⟨_,rfl⟩<|An ps<|n+1
def JE:R8 X "str.split" (λv vs H Q=>∃(z w:Str),v=.str z/\vs=[.str w]/\KO z w/\∀l,H l=none->Q (.ref l) (dH H l<|.lst<|(vd z w).map V.str)):=by intro on s Y H v vs u us Q I rv rvs h;obtain⟨z,w,rfl,rfl,ok,q⟩:=h;obtain⟨t,rfl⟩:=rv;obtain⟨u2,rfl,⟨t2,rfl⟩⟩:=lB rvs;exact DE Up (Ve _ _ _) PySem.F.entry_str_split (PySem.F.args_str_split_2 _ _) (meets_str_split_sep z w t t2 ok.h1 ok.h2 ok.h3 ok.h4 ok.h5)<|⟨.ref s.heap.objs.size,_,I.laid (o:=.lst<|(vd z w).map V.str) (λb o e=>Heap.get?_push_of_some _ e) (ao _)<|⟨by rw[ai];exact ok.h5,_,_,An _ _,Heap.get?_push_size _ rfl⟩,rfl,q _<|I.VG.fresh<|ao _⟩
def Ki{apos:Pos}(ho:Vp X U a (.str z))(ha:Vp X U e (.str w))(ok:KO z w)(hs:Pl e:=by intro _ _;rfl)(WX:attributeBase a "split" X.env (eval a X.env)=eval a X.env:=by rfl)(WW:Cn Vx [e] X.env:=by rfl)(VO:(apos.endLine==Vx.line)=true:=by rfl):VD X U (.Call (.Attribute a "split" apos) [e] [] Vx) ((vd z w).map D.str):=.of (xk ym Up PySem.F.type_str_split JE aU (bC aU dk<|hs _ _) WX WW VO (hs _ _) rfl) λB F H Y Q k q=>ho B F H Y _ k λv F1 H1 x1 r1=>by
   cases r1;refine⟨rfl,ha B F1 H1 Y _ (k.ext x1) λv2 F2 H2 x2 r2=>?_⟩;cases r2;have x':=x1.t x2;have rl:∀ps:cn,Vs X.K F2 (ps.map V.str) (ps.map D.str):=λps=>by induction ps with|nil=>exact .nil|cons p ps ih=>exact .cons (.str _) ih
   exact⟨z,w,rfl,rfl,ok,λp hp=>q p _ F2 _ ⟨x'.sub.trans<|aP hp,x'.sh.trans<|aP hp,x'.sf,x'.nw⟩ (x'.sh.free hp) aI (x'.sub.free hp)<|rl _⟩
def JH{U:cE}(t:At X N sc){C:D->aM->aM->Prop}(h:WH X x C)(i:Nat)(hr:U[i]?=some (.val<|.adr q))(ha:Vp X U e d0)(hC:C d0 xs xs')(hN:N[i]?=some y:=by rfl)(hv:fS sc y=true:=by rfl)(hx:cU y=true:=by rfl)(hg:sw sc x:=by rfl)(Wb:pE x:=by rfl)(hs:Pl (.Name y py):=by intro _ _;rfl)(he:Pl e:=by intro _ _;rfl)(XX:swapsWith (.Call (.Name x p) [e,.Name y py] [] Vx) none pos.line X.env=pure false:=by rfl):pP X q U (.Expr (.Call (.Name x p) [e,.Name y py] [] Vx) pos) (.nx U) xs xs':=λB F0 H Y E us l0 k w=>.mk λon st I=>by let⟨f,fd,ps,kk,F,Yn,hm,hk,hb⟩:=h;have pz:iB jd X E0:=qf;refine k8 (j7 F Yn (dI t hg) hm hk hb .nil pz (bC aU (bC aU dk<|hs _ _)<|he _ _) Wb (he _ _)<|by unfold tN;rw[hs];rfl) XX on st Y H E I<|ha B F0 H Y _ k λv0 F1 H1 x1 r1=>?_;have k1:=k.ext x1;have l1:=l0.ext x1;refine vk t hr hN hv hx k1<|⟨q,F1,d0,us,xs,xs',k1.sub,k1.sh _ _ l1.st,l1.ff k1,l1.rep,.cons r1<|.cons (.adr q) .nil,hC,λv F2 H2 Zn x2 r2 rv=>w F2 H2 Y Zn (k1.XM l1 x2) r2<|x1.sf.trans x2.sf⟩
end
abbrev Vl:=List<|bR×Addr×Value
abbrev Vm:=List<|bR×Str
structure Kd(K:eZ)(x:Str)(st:Stmt)(f:Addr)(fd:FuncData):Prop where
 a:nsIn K mainGlobals x=some (some<|.ref f)
 F:Yw K x x st f fd
structure Bn(K:eZ)(mg:tK)(x:Str)(f:Addr)(fd:FuncData)(ps:cn):Prop where
 m:mg x=some (.ref f)
 k:keepIn K (.ref f)=true
 b:Binds K fd ps []
section
variable {st:Stmt}
def kd{an:Option Addr}{kV doc pm V2 ct:Value}{x:Str}(a:nsIn K mainGlobals x=some (some<|.ref f))(l:K.lookup f=some ⟨oc,od,.func<|fnOf x x (ju st) (aW st) (aq st) .none kV doc pm an V2 ct,ZT⟩)(c:codeIn K V2 x=true)(k:keepIn K (.ref f)=true):Kd K x st f (fnOf x x (ju st) (aW st) (aq st) .none kV doc pm an V2 ct):=⟨a,J3 l c k⟩
def Kd.b1(d:Kd K x st f fd)(X:K.In h)(G:h.Ns mainGlobals mg)(S:aN N [p] (aq st))(hb:∀(kV doc pm:Value)(an:Option Addr)(V2 ct a:Value),bindArgs (fnOf x x (ju st) (aW st) (aq st) .none kV doc pm an V2 ct) ⟨[a],[]⟩=pure ([p].zip [a]):=by intros;rfl):Bn K mg x f fd [p]:=⟨bh X G d.a,d.F.kp,d.F.binds λkV doc pm an V2 ct us hl=>match us,hl with |[a],_=>hb kV doc pm an V2 ct a⟩
def Kd.b2(d:Kd K x st f fd)(X:K.In h)(G:h.Ns mainGlobals mg)(S:aN N [p,q] (aq st))(hb:∀(kV doc pm:Value)(an:Option Addr)(V2 ct a b:Value),bindArgs (fnOf x x (ju st) (aW st) (aq st) .none kV doc pm an V2 ct) ⟨[a,b],[]⟩=pure ([p,q].zip [a,b]):=by intros;rfl):Bn K mg x f fd [p,q]:=⟨bh X G d.a,d.F.kp,d.F.binds λkV doc pm an V2 ct us hl=>match us,hl with |[a,b],_=>hb kV doc pm an V2 ct a b⟩
def Kd.b3(d:Kd K x st f fd)(X:K.In h)(G:h.Ns mainGlobals mg)(S:aN N [p,q,r] (aq st))(hb:∀(kV doc pm:Value)(an:Option Addr)(V2 ct a b c:Value),bindArgs (fnOf x x (ju st) (aW st) (aq st) .none kV doc pm an V2 ct) ⟨[a,b,c],[]⟩=pure ([p,q,r].zip [a,b,c]):=by intros;rfl):Bn K mg x f fd [p,q,r]:=⟨bh X G d.a,d.F.kp,d.F.binds λkV doc pm an V2 ct us hl=>match us,hl with |[a,b,c],_=>hb kV doc pm an V2 ct a b c⟩
def DefX.ca{C:aM->D->Prop}(h:DefX P w K mg base k N sc X)(F:dZ P w K mg base jd j f fd ps (G7 K C))(b:Bn K mg x f fd ps)(hj:j<=k:=by decide):EV.Callee X x C:=h.callee F hj b.m b.k b.b
def DefX.zEN{C:D->aM->aM->Prop}(h:DefX P w K mg base k N sc X)(F:dZ P w K mg base jd j f fd ps (Lj K C))(b:Bn K mg x f fd ps)(hj:j<=k:=by decide):EV.WH X x C:=h.ZM F hj b.m b.k b.b
def DefX.Zi{C:aM->aM->D->aM->Prop}(h:DefX P w K mg base k N sc X)(F:dZ P w K mg base jd j f fd ps (spS K C))(b:Bn K mg x f fd ps)(hj:j<=k:=by decide):EV.VV X x C:=h.zAH F hj b.m b.k b.b
def DefX.V8{C:cn->aM->Int×aM->D->Int×aM->Prop}(h:DefX P w K mg base k N sc X)(F:dZ P w K mg base jd j f fd ps (QQ K C))(b:Bn K mg x f fd ps)(hj:j<=k:=by decide):EV.Vq X x C:=h.zAI F hj b.m b.k b.b
def DefX.zEK{C:aM->cn->Prop}(h:DefX P w K mg base k N sc X)(F:dZ P w K mg base jd j f fd ps (Lh K C))(b:Bn K mg x f fd ps)(hj:j<=k:=by decide):EV.WG X x C:=h.ZK F hj b.m b.k b.b
def DefX.zEM{C:cn->Int×aM->aM->D->Int×aM->aM->Prop}(h:DefX P w K mg base k N sc X)(F:dZ P w K mg base jd j f fd ps (Li K C))(b:Bn K mg x f fd ps)(hj:j<=k:=by decide):EV.Wr X x C:=h.ZL F hj b.m b.k b.b
end
def DefX.bt{x:Str}(h:DefX P w K mg base k N sc X)(m:mg x=none)(g:sw sc x:=by rfl)(v:bootBuiltins x=some u:=by rfl)(n:x≠"__name__":=by decide)(d:pE x:=by rfl):kN X sc x u:=⟨g,by rw[h.V3];exact m,v,n,d⟩
def iT{N P:cn}{sc:Scope}(h:sc.kind=.function/\sc.isCoroutine=false/\sc.isGenerator=false/\N.Nodup/\N.take P.length=P/\(∀x∈P,sc.names.lookup x=some .local\/sc.names.lookup x=some .cell)/\∀y∈sc.names,y.2≠.free):aN N P sc:=⟨h.1,h.2.1,h.2.2.1,h.2.2.2.1,h.2.2.2.2.1,h.2.2.2.2.2.1,h.2.2.2.2.2.2⟩
def Ef:mj X (binaryOp .Mult) (λx y H Q=>∃z n,x=.str z/\y=.int n/\MulOk z n/\Q (.str<|Txt.mul z n) H):=by intro on s Y H x y v u Q I rx ry h;obtain⟨z,n,rfl,rfl,hz,q⟩:=h;obtain⟨t,rfl⟩:=rx;obtain⟨t',rfl⟩:=ry;exact SB.mul hz λt' k=>⟨.str<|Txt.mul z n,H,I.tok _,⟨_,rfl⟩,q⟩
def Ht(xs:List (Array Nat)):∀acc:Array Nat,(xs.foldl (λx1 x2=>x1++x2) acc).toList=acc.toList++(xs.map Array.toList).flatten:=by induction xs with|nil=>intro acc;simp|cons x xs ih=>intro acc;rw[List.foldl_cons,ih];simp
def Ri(u:bI)(n:Nat):Txt.mul (S u) (n:Int)=S (List.replicate n u).flatten:=by
 have key:∀a b:Array Nat,a.toList=b.toList->(⟨a⟩:Str)=⟨b⟩:=λa b h=>by rw[Array.ext' h]
 unfold Txt.mul;split;rename_i h;have:n=0:=by lia
 subst this;rfl;split;rename_i h1 h;rw[yy,jU,jU]at h;rcases h with h |h;have:n=1:=by lia
 subst this;simp;rw[ce]at h;have:u=[]:=bx h;subst this;simp;refine key _ _ ?_;rw[Ht,bv,List.map_replicate,show(S u).cps.toList=u from eQ u];simp
def Ms{n:Nat}(ha:Vp X U a (.str<|S u))(hb:Vp X U b (.int (n:Int)))(hu:u.length<=10)(hn:n<=10000):Vp X U (.BinOp a .Mult b pos) (.str<|S (List.replicate n u).flatten):=.of (pH Ef aU aU) λB F H Y Q k q=>two ha hb k λx y F' H' x' rx ry=>by cases rx;cases ry;exact⟨S u,n,rfl,rfl,mulOk_of 10 10000 (by rw[ce];exact hu) (by lia) (by lia) (by decide)<|by decide,by rw[Ri];exact q _ F' H' x'<|.str _⟩
section
variable {ds:aM}{st:Stmt}{bP:List Stmt}
def XvG(X:Cx)(U:cE)(st:List Stmt)(C:Addr)(W1:cE):Prop:=∀(E:qW),PassesOwn (model X.prog X.w) X.A X.env E->∀(B:B0)(F H:Hp)(Y:St),Ok X.K B F H Y U->∀(on:gC)(s:Shared),Inv X on Y H s->(∀e s',XP X true on B F W1 C e s'->E e s')->fg X (execs st X.env) (λ_ _=>False) E s
def RW(X:Cx)(U:cE)(st:Stmt)(C:Addr)(W1:cE):Prop:=∀(E:qW),PassesOwn (model X.prog X.w) X.A X.env E->∀(B:B0)(F H:Hp)(Y:St),Ok X.K B F H Y U->∀(on:gC)(s:Shared),Inv X on Y H s->(∀e s',XP X true on B F W1 C e s'->E e s')->fg X (exec st X.env) (λ_ _=>False) E s
def Ih(h:RW X U st C W1):XvG X U (st::bP) C W1:=λE hp B F H Y k on s I hE=>fQ (aH (h E hp B F H Y k on s I hE) (λ_ _ z=>z.elim) λ_ _ z=>z)
def Ig(t:At X N sc)(h1:VN X U st (.nx Wp))(h:XvG X Wp bP C W1):XvG X U (st::bP) C W1:=λE hp B F H Y k on s I hE=>fQ (h1.go t k I λF' H' xy s' k' sf I'=>h E hp B F' H' xy k' on s' I' λe XG z=>hE e XG<|z.later sf)
inductive WE(X:Cx)(tg:Expr)(body:List Stmt)(C:Addr)(W1:cE):aM->cE->Prop where
 |here {d:D} {ds:aM} {U Wp:cE}:XD X U tg d Wp->E1 X true Wp body C W1->WE X tg body C W1 (d::ds) U
 |next {d:D} {ds:aM} {U Wp WP:cE}:XD X U tg d Wp->Vt X Wp body (.nx WP)->WE X tg body C W1 ds WP->WE X tg body C W1 (d::ds) U
def N1(t:At X N sc)(hi:Za X U tg e ds)(run:WE X tg body C W1 ds U)(hs:∀x,foldedSetIterable e X.env x=pure x:=by intro _;rfl):RW X U (.For tg e body [] pos) C W1:=by
 intro E hp B F H Y k on s I hE
 refine wpAny_For (aH (hi B F H Y (λJ H1=>∃F1,Ext ⟨F,H⟩ F1 H1/\vp X.K J F1 ds) k (λJ F' H' x j=>⟨F',x,j⟩) on s I) (λv s1 h=>aH h (λitv s2 h2=>?_) λ_ _ z=>t.no z) λ_ _ z=>t.no z) hs
 obtain⟨it,fp,tn,J,H',ee,I2,T,t0,f2,F1,x1,JO⟩:=h2
 subst ee
 have stat:∀{H':Hp},(∀b∈fp,H' b=none)->∀b∈fp,tw X on H' b:=λhn b hb=>⟨hn b hb,(f2 b hb).2⟩
 refine codeAny_forLoop_any (λn s'=>∃i xy H' F' ρ0,Inv X on xy H' s'/\tn i s'.heap/\(∀b∈fp,H' b=none)/\Ok X.K B F' H' xy ρ0/\Vu F1 F'/\WE X tg body C W1 (ds.drop i) ρ0/\n=ds.length-i) ?_ ds.length ⟨0,Y,H',F1,U,I2,t0,λb hb=>(f2 b hb).1,k.ext x1,.refl _,by simpa using run,by simp⟩
 rintro n s3 ⟨i,XV,H3,F3,ρ3,I3,st3,fr3,k3,sf3,r3,rfl⟩
 have J2:=JO i F3 H3 sf3 k3.sub
 generalize e1:ds.drop i=bP at r3
 have zD1:∀{d:D}{ds0:aM}{Wp:cE},ds.drop i=d::ds0->XD X ρ3 tg d Wp->(∀(fps:gC)(F6 H6:Hp)(σ6:St)(s6:Shared),Ok X.K B F6 H6 σ6 Wp->Vu F3 F6->Inv X (on++fps) σ6 H6 s6->
   (∀{σ7:St}{H7:Hp}{s7:Shared},Inv X (on++fps) σ7 H7 s7->Inv X on σ7 H7 s7/\tn (i+1) s7.heap/\∀b∈fp,H7 b=none)->
   fg X (execs body X.env) (λf s₃=>match f with
     |.next=>∃m,m<ds.length-i/\∃i xy H' F' ρ0,Inv X on xy H' s₃/\tn i s₃.heap/\(∀b∈fp,H' b=none)/\Ok X.K B F' H' xy ρ0/\Vu F1 F'/\WE X tg body C W1 (ds.drop i) ρ0/\m=ds.length-i
     |.cont=>∃m,m<ds.length-i/\∃i xy H' F' ρ0,Inv X on xy H' s₃/\tn i s₃.heap/\(∀b∈fp,H' b=none)/\Ok X.K B F' H' xy ρ0/\Vu F1 F'/\WE X tg body C W1 (ds.drop i) ρ0/\m=ds.length-i
     |.brk=>False
     |.ret v=>False) (notedBy (model X.prog X.w) X.A X.env (cameBackBy (model X.prog X.w) X.A X.env E)) s6)->
   fg X (pyNext<|.ref it) (λr s₁=>match r with
    |none=>fg X (execs [] X.env) (λf s₃=>False) (notedBy (model X.prog X.w) X.A X.env<|cameBackBy (model X.prog X.w) X.A X.env E) s₁
    |some v=>fg X (letOwnedTupleGo tg (.ref it) v) (λ_ s₁'=>fg X (assign tg X.env v) (λ_ s₂=>fg X (execs body X.env) (λf s₃=>match f with
     |.next=>∃m,m<ds.length-i/\∃i xy H' F' ρ0,Inv X on xy H' s₃/\tn i s₃.heap/\(∀b∈fp,H' b=none)/\Ok X.K B F' H' xy ρ0/\Vu F1 F'/\WE X tg body C W1 (ds.drop i) ρ0/\m=ds.length-i
     |.cont=>∃m,m<ds.length-i/\∃i xy H' F' ρ0,Inv X on xy H' s₃/\tn i s₃.heap/\(∀b∈fp,H' b=none)/\Ok X.K B F' H' xy ρ0/\Vu F1 F'/\WE X tg body C W1 (ds.drop i) ρ0/\m=ds.length-i
     |.brk=>False
     |.ret v=>False) (notedBy (model X.prog X.w) X.A X.env (cameBackBy (model X.prog X.w) X.A X.env E)) s₂) (notedBy (model X.prog X.w) X.A X.env (cameBackBy (model X.prog X.w) X.A X.env E)) s₁') (notedBy (model X.prog X.w) X.A X.env (cameBackBy (model X.prog X.w) X.A X.env E)) s₁)
    (notedBy (model X.prog X.w) X.A X.env<|cameBackBy (model X.prog X.w) X.A X.env E) s3:=by
  intro d ds0 Wp ed g bd
  obtain⟨hd,_,_⟩:=jc ed
  obtain⟨go,yl⟩:=J2.1 _ hd
  refine aH (T.item X rfl rfl rfl (.inl t.calm) i on s3 XV H3 _ I3 (stat fr3) st3 go) (λr s4 ⟨u,hr,h4⟩=>?_) λ_ _ z=>z
  subst hr
  refine aH h4 (λ_ s5 ⟨x,H5,I5,r5,y5,Zq,fr5⟩=>?_) λ_ _ z=>z
  obtain⟨F2,x2,rx⟩:=yl x H5 y5
  refine aH (g B F2 H5 XV x (λσ6 H6=>∃F6,Ok X.K B F6 H6 σ6 Wp/\Vu F2 F6) (k3.ext x2) rx (λF6 H6 σ6 k6 s6=>⟨F6,k6,s6⟩) (on++uR fp s5.heap) s5 u (I5.pinned (stat fr5)<|T.obj _ _ Zq) r5) (λ_ s6 ⟨σ6,H6,I6,F6,k6,sf6⟩=>?_) λ_ _ z=>t.no z
  refine bd (uR fp s5.heap) F6 H6 σ6 s6 k6 (x2.sf.trans sf6) I6 λ{σ7 H7 s7}I7=>⟨I7.Wx,?_,λb hb=>?_⟩
  exact T.keep _ _ _ Zq λb hb o e=>(I7.pin (b,o)<|aF _<|aF _<|jL hb e).1
  obtain⟨o,e,d⟩:=T.obj _ _ Zq b hb
  exact(I7.pin (b,o)<|aF _<|aF _<|jL hb e).2.1
 cases r3 with
 |here g hx=>
  refine zD1 e1 g λfps F6 H6 σ6 s6 k6 sf6 I6 back=>?_
  refine aH (hx B F6 H6 σ6 k6 _ s6 I6) (λ_ _ z=>z.elim) λe' s' ⟨WF,H1,s1,F',H',i1,o1,sf,th⟩=>?_
  exact hp _ _<|hE _ _ ⟨WF,H1,s1,F',H',i1.Wx,o1,x1.sf.trans<|sf3.trans<|sf6.trans sf,th⟩
 |@next d ds0 _ Wp WP g b r=>
  obtain⟨_,hr,V1⟩:=jc e1
  refine zD1 e1 g λfps F6 H6 σ6 s6 k6 sf6 I6 back=>?_
  refine aH (b B F6 H6 σ6 {nx:=λxy H'=>∃F',Ok X.K B F' H' xy WP/\Vu F6 F',rt:=λ_ _=>False} k6 (λF' H' xy k' sf=>⟨F',k',sf⟩) (on++fps) s6 I6) (λf s7 z=>?_) λ_ _ z=>t.no z
  cases f with
  |next=>
   obtain⟨σ7,H7,I7,F7,k7,sf7⟩:=z
   obtain⟨j1,j2,j3⟩:=back I7
   exact⟨ds.length-(i+1),by lia,i+1,σ7,H7,F7,WP,j1,j2,j3,k7,sf3.trans<|sf6.trans sf7,by rwa[hr],rfl⟩
  |brk=>let⟨_,_,_,z⟩:=z;exact z.elim
  |cont=>let⟨_,_,_,z⟩:=z;exact z.elim
  |ret u=>let⟨_,_,_,_,_,z⟩:=z;exact z.elim
end
section
variable {st:Stmt}
def DefX.caX{R:aM->Prop}(h:DefX P w K mg base k N sc X)(F:dZ P w K mg base (E8 P w) j f fd ps (Fs K C R))(b:Bn K mg x f fd ps)(hj:j<=k:=by decide):j9 X x C R:=h.zAG F hj b.m b.k b.b
end
def XPZ(S:LS)(X:Cx)(on:gC)(B:B0)(F:Hp)(C:Addr)(e:Value)(s':Shared):Prop:=∃(WF:St)(H1:Hp)(s1:Shared)(W1:cE)(F' H':Hp)(c':S.cs),Inv X on WF H1 s1/\Ok X.K (Vy S B c') F' H' WF W1/\Vu F F'/\Cf X true H1 s1 H' C e s'
def W6(S:LS)(X:Cx)(U:cE)(e:Expr)(C:Addr)(s:S.ds):Prop:=∀(B:B0)(F H:Hp)(Y:St)(c:S.cs),Ln S X.K B F c s->Ok X.K B F H Y U->∀(on:gC)(st:Shared),Inv X on Y H st->fg X (eval e X.env) (λ_ _=>False) (XPZ S X on B F C) st
def Dy(S:LS)(X:Cx)(U:cE)(WJ:List Stmt)(C:Addr)(s:S.ds):Prop:=∀(E:qW),PassesOwn (model X.prog X.w) X.A X.env E->∀(B:B0)(F H:Hp)(Y:St)(c:S.cs),Ln S X.K B F c s->Ok X.K B F H Y U->∀(on:gC)(st:Shared),Inv X on Y H st->(∀e s',XPZ S X on B F C e s'->E e s')->fg X (execs WJ X.env) (λ_ _=>False) E st
abbrev yk(X:Cx)(N:List Str)(st:Stmt)(C:Addr)(R:List Str->List D->Int×List D->Prop):Prop:=∀(r:m7),gn X.K r->∀ds s,R r.toks ds s->Dy (Vv r) X (P9 (.adr r.p) N ds) (aW st) C s
def Xx(S:LS)(X:Cx)(U:cE)(sm:Stmt)(C:Addr)(s:S.ds):Prop:=∀(E:qW),PassesOwn (model X.prog X.w) X.A X.env E->∀(B:B0)(F H:Hp)(Y:St)(c:S.cs),Ln S X.K B F c s->Ok X.K B F H Y U->∀(on:gC)(st:Shared),Inv X on Y H st->(∀e s',XPZ S X on B F C e s'->E e s')->fg X (exec sm X.env) (λ_ _=>False) E st
section
variable {S:LS}{st:Stmt}{bP:List Stmt}{s s1 s2 s':S.ds}{ds:aM}{c:S.cs}
def XPZ.back(h:XPZ S X on (Vy S B c) F1 C v w')(sf:Vu F F1):XPZ S X on B F C v w':=by let⟨WF,H1,s1,W1,F',H',c',i,k,q,th⟩:=h;rw[Vy.up]at k;exact⟨WF,H1,s1,W1,F',H',c',i,k,sf.trans q,th⟩
def Vz.go{Q:qW}(t:At X N sc)(h:Vz S X U e d s s1)(l:Ln S X.K B F c s)(k:Ok X.K B F H Y U)(I:Inv X on Y H w)(q:∀v u F' H' c' w',Ext (Vy S ⟨F,H⟩ c') F' H'->S.rep X.K F' c' s1->Rep X.K F' v d->RelV v u->Inv X on Y H' w'->Q u w'):fg X (eval e X.env) Q E w:=aH (h B F H Y (λv H'=>∃F' c',Ext (Vy S ⟨F,H⟩ c') F' H'/\S.rep X.K F' c' s1/\Rep X.K F' v d) c l k (λv F' H' c' x r rv=>⟨F',c',x,r,rv⟩) on w I) (λu w' ⟨v,H',I',r,F',c',x,rr,rv⟩=>q v u F' H' c' w' x rr rv r I') λ_ _ z=>t.no z
def VC.go(t:At X N sc)(h:VC S X U e k0 s s1)(l:Ln S X.K B F c s)(k:Ok X.K B F H Y U)(I:Inv X on Y H w){Q:Bool->Shared->Prop}(q:∀F' H' c' w',Ext (Vy S ⟨F,H⟩ c') F' H'->S.rep X.K F' c' s1->Inv X on Y H' w'->Q k0 w'):fg X (isTrue e X.env<|eval e X.env) Q E w:=aH (h B F H Y (λb H'=>b=k0/\∃F' c',Ext (Vy S ⟨F,H⟩ c') F' H'/\S.rep X.K F' c' s1) c l k (λF' H' c' x r=>⟨rfl,F',c',x,r⟩) on w I) (λu w' ⟨H',I',e,F',c',x,r⟩=>by subst e;exact q F' H' c' w' x r I') λ_ _ z=>t.no z
def V0.go(t:At X N sc)(h:V0 S X U st (.nx Wp) s s1)(l:Ln S X.K B F c s)(k:Ok X.K B F H Y U)(I:Inv X on Y H w){Q:Flow->Shared->Prop}(q:∀F' H' xy c' w',Ok X.K (Vy S B c') F' H' xy Wp->S.rep X.K F' c' s1->Vu F F'->Inv X on xy H' w'->Q .next w'):fg X (exec st X.env) Q E w:=by
 refine aH (h B F H Y {nx:=λxy H'=>∃F' c',Ok X.K (Vy S B c') F' H' xy Wp/\S.rep X.K F' c' s1/\Vu F F',rt:=λ_ _=>False} c l k (λF' H' xy c' k' r sf=>⟨F',c',k',r,sf⟩) on w I) (λf w' z=>?_) λ_ _ z=>t.no z;cases f with
 |next=>let⟨xy,H',I',F',c',k',r,sf⟩:=z;exact q F' H' xy c' w' k' r sf I'|brk=>let⟨_,_,_,z⟩:=z;exact z.elim
 |cont=>let⟨_,_,_,z⟩:=z;exact z.elim|ret u=>let⟨_,_,_,_,_,z⟩:=z;exact z.elim
def Wq.go(t:At X N sc)(h:Wq S X U WJ (.nx Wp) s s1)(l:Ln S X.K B F c s)(k:Ok X.K B F H Y U)(I:Inv X on Y H w){Q:Flow->Shared->Prop}(q:∀F' H' xy c' w',Ok X.K (Vy S B c') F' H' xy Wp->S.rep X.K F' c' s1->Vu F F'->Inv X on xy H' w'->Q .next w'):fg X (execs WJ X.env) Q E w:=by
 refine aH (h B F H Y {nx:=λxy H'=>∃F' c',Ok X.K (Vy S B c') F' H' xy Wp/\S.rep X.K F' c' s1/\Vu F F',rt:=λ_ _=>False} c l k (λF' H' xy c' k' r sf=>⟨F',c',k',r,sf⟩) on w I) (λf w' z=>?_) λ_ _ z=>t.no z;cases f with
 |next=>let⟨xy,H',I',F',c',k',r,sf⟩:=z;exact q F' H' xy c' w' k' r sf I'|brk=>let⟨_,_,_,z⟩:=z;exact z.elim
 |cont=>let⟨_,_,_,z⟩:=z;exact z.elim|ret u=>let⟨_,_,_,_,_,z⟩:=z;exact z.elim
def X1.z(h:X1 X true U st C W1):Xx S X U st C s:=λE hp B F H Y c l k on w I hE=>aH (h B F H Y k on w I) (λ_ _ z=>z) λv w' ⟨WF,H1,s1,F',H',i,o,sf,th⟩=>hE v w' ⟨WF,H1,s1,W1,F',H',c,i,by rwa[Vy.same l.st],sf,th⟩
def XvE.z(h:XvE X true U e C W1):W6 S X U e C s:=λB F H Y c l k on w I=>aH (h B F H Y k on w I) (λ_ _ z=>z) λv w' ⟨WF,H1,s1,F',H',i,o,sf,th⟩=>⟨WF,H1,s1,W1,F',H',c,i,by rwa[Vy.same l.st],sf,th⟩
def aY(h:Xx S X U st C s):Dy S X U (st::bP) C s:=λE hp B F H Y c l k on w I hE=>fQ (aH (h E hp B F H Y c l k on w I hE) (λ_ _ z=>z.elim) λ_ _ z=>z)
def bU(t:At X N sc)(h1:V0 S X U st (.nx Wp) s s1)(h:Dy S X Wp bP C s1):Dy S X U (st::bP) C s:=λE hp B F H Y c l k on w I hE=>fQ (h1.go t l k I λF' H' xy c' w' k' r sf I'=>h E hp (Vy S B c') F' H' xy c' (l.up r) k' on w' I' λv Z2 z=>hE v Z2<|z.back sf)
def pV(t:At X N sc)(hc:VC S X U cd true s s1)(h:Dy S X U ss C s1):Xx S X U (.If cd ss us pos) C s:=λE hp B F H Y c l k on w I hE=>wpAny_If (hc.go t l k I λF' H' c' w' x r I'=>h E hp (Vy S B c') F' H' Y c' (l.up r) (k.V6 l x) on w' I' λv Z2 z=>hE v Z2<|z.back x.sf)
def wP(t:At X N sc)(hc:VC S X U cd false s s1)(h:Dy S X U us C s1):Xx S X U (.If cd ss us pos) C s:=λE hp B F H Y c l k on w I hE=>wpAny_If (hc.go t l k I λF' H' c' w' x r I'=>h E hp (Vy S B c') F' H' Y c' (l.up r) (k.V6 l x) on w' I' λv Z2 z=>hE v Z2<|z.back x.sf)
def fK(h:W6 S X U e C s)(hs:swapsWith e none pos.line X.env=pure false:=by rfl):Xx S X U (.Expr e pos) C s:=λE hp B F H Y c l k on w I hE=>Vd (aH (h B F H Y c l k on w I) (λ_ _ z=>z.elim) hE) I.quiet hs
def DQ(h:W6 S X U e C s)(hs:swapsWith e (some<|.Name x pos') pos.line X.env=pure false:=by rfl):Xx S X U (.Assign [.Name x pos'] e pos) C s:=λE hp B F H Y c l k on w I hE=>P5 (aH (h B F H Y c l k on w I) (λ_ _ z=>z.elim) hE) hs
def Ib(t:At X N sc)(ha:Vz S X U a d s s1)(hb:W6 S X U b C s1):W6 S X U (.BinOp a op b pos) C s:=λB F H Y c l k on w I=>wpAny_BinOp (ha.go t l k I λv u F' H' c' w' x r rv ru I'=>aH (hb (Vy S B c') F' H' Y c' (l.up r) (k.V6 l x) on w' I') (λ_ _ z=>z.elim) λv' Z2 z=>z.back x.sf)
inductive kM(S:LS)(X:Cx)(cd:Expr)(body:List Stmt)(C:Addr):Nat->cE->S.ds->Prop where
 |here {n:Nat} {U:cE} {s s1:S.ds}:VC S X U cd true s s1->Dy S X U body C s1->kM S X cd body C n U s
 |next {n:Nat} {U Wp:cE} {s s1 s2:S.ds}:VC S X U cd true s s1->Wq S X U body (.nx Wp) s1 s2->kM S X cd body C n Wp s2->kM S X cd body C (n+1) U s
def nM(t:At X N sc)(h:∃n,kM S X cd body C n U s):Xx S X U (.While cd body [] pos) C s:=λE hp B F H Y c l k on w I hE=>by
 let⟨n,h⟩:=h;refine wpAny_While<|codeAny_whileLoop (λm w'=>∃xy H' F' c' Wp s1,Inv X on xy H' w'/\Ok X.K (Vy S B c') F' H' xy Wp/\S.rep X.K F' c' s1/\Vu F F'/\kM S X cd body C m Wp s1) ?_ n ⟨Y,H,F,c,U,s,I,by rwa[Vy.same l.st],l.rep,.refl _,h⟩;rintro m w1 ⟨WF,H1,F1,c1,Wp,d1,I1,k1,r1,sf1,run⟩;have l1:=l.up r1;cases run with
 |here hc hx=>refine hc.go t l1 k1 I1 λF2 H2 c2 w2 x2 r2 I2=>?_;rw[ax rfl];exact ir hp (aH (hx E hp (Vy S (Vy S B c1) c2) F2 H2 WF c2 (l1.up r2) (k1.V6 l1 x2) on w2 I2 λv Z2 z=>hE v Z2<|(z.back x2.sf).back sf1) (λ_ _ z=>z.elim) λ_ _ z=>z)
 |@next n0 _ ρa _ sa sb hc hb r=>refine hc.go t l1 k1 I1 λF2 H2 c2 w2 x2 r2 I2=>?_;rw[ax rfl];have k2:=k1.V6 l1 x2;rw[Vy.up]at k2;refine hb.go t (l.up r2) k2 I2 λF3 H3 XV c3 w3 k3 r3 sf3 I3=>?_;rw[Vy.up]at k3;exact⟨n0,fC _,XV,H3,F3,c3,ρa,sb,I3,k3,r3,sf1.trans<|x2.sf.trans sf3,r⟩
def uJ{apos:Pos}{Vx:Pos}(t:At X N sc)(ho:∀(B:B0)(F H:Hp)(Y:St)(c:S.cs),Ln S X.K B F c s->Ok X.K B F H Y U->wE X o Y H (λv H1=>H1=H/\N6 X.K "list" v H))(he:W6 S X U e C s)(WX:attributeBase o "append" X.env (eval o X.env)=eval o X.env:=by rfl)(hs:Fc e [] X.env:=by rfl)(VO:(apos.endLine==Vx.line)=true:=by rfl)(Xf:tN Vx [] X.env:=by rfl)(WW:Cn Vx [e] X.env:=by rfl):W6 S X U (.Call (.Attribute o "append" apos) [e] [] Vx) C s:=λB F H Y c l k on w I=>by refine wpAny_Call_method_late WX WW VO rfl (aH ((ho B F H Y c l k) on w I) (λv w1 ⟨x,H1,I1,r1,eH,ty⟩=>?_) λ_ _ z=>t.no z);subst eH;obtain⟨h1,h2⟩:=DS I1 r1 ty;refine⟨"list","list.append",dw,ib,ia,h1,h2,?_⟩;rw[hs];refine DI (by show(false||(backTo Vx<|starEach [] X.env).any (·.1))=false;rw[Xf];rfl)<|HW ?_;exact om (aH (he B F H1 Y c l k on w1 I1) (λ_ _ z=>z.elim) λ_ _ z=>z)
def Jt{U:cE}(t:At X N sc)(i:Nat)(hr:U[i]?=some (.own xs))(hN:N[i]?=some y:=by rfl)(hv:fS sc y=true:=by rfl)(hx:cU y=true:=by rfl):∀(B:B0)(F H:Hp)(Y:St)(c:S.cs),Ln S X.K B F c s->Ok X.K B F H Y U->wE X (.Name y p) Y H (λv H1=>H1=H/\N6 X.K "list" v H):=λB F H Y c l k=>sD t hr hN hv hx k λq vs h1 h2 h3=>⟨rfl,.inl ⟨rfl,_,Wd.of h2⟩⟩
end
def LS0:LS where
 cs:=Unit
 ds:=Unit
 ov _ _:=none
 dom _ _ _ h:=h
 rep _ _ _ _:=True
 mono:=λ_ h=>h
abbrev P1(X:Cx)(N:List Str)(st:Stmt)(C:Addr)(R:List D->Prop):Prop:=∀ds,R ds->Dy LS0 X (Fd N ds) (aW st) C ()
def Uu(B:B0)(c:LS0.cs):Vy LS0 B c=B:=Vy.same λa u h=>nomatch h
def U1:Ln LS0 K B F () ():=⟨(λa u h=>nomatch h),(λa u h=>nomatch h),trivial⟩
section
variable {ds:aM}{s s1 s':Int×aM}{bP:List Stmt}
def Ml{P:Program}(VZ:P.given.tree=none){w:World}{K:eZ}{mg:tK}{base:Heap}{x qual:Str}{st:Stmt}{f:Addr}{fd:FuncData}{N ps:cn}{k:Nat}{C:Addr}{R:aM->Prop}(Fn:Yw K x qual st f fd)(S:aN N ps (aq st))(len:∀ds,R ds->ds.length=ps.length)(body:∀X,DefX P w K mg base k N (aq st) X->P1 X N st C R):dZ P w K mg base (E8 P w) (k+1) f fd ps (Fs K C R):=by
 obtain⟨oc,od,kV,doc,pm,an,V2,ct,ZT,rfl,lk,YG⟩:=Fn.ex;refine Gf lk YG S (λvs H Q E h=>?_) λA outer s H vs Q E hr h=>?_;obtain⟨F',ds,sub,r,hR,q⟩:=h;rw[r.length];exact len ds hR;obtain⟨F',ds,sub,r,hR,q⟩:=h;refine⟨_,dU,?_⟩;have hx:DefX P w K mg base k N (aq st) (qA (E8 P w) P w K mg base N qual (aq st) f V2 A outer s H E).XH:=⟨⟨rfl,rfl,rfl,S.nd,rfl,hr.units,hr.WY,VZ,⟨_,_,rfl,S.gen,S.co,rfl,rfl⟩⟩,rfl,rfl,rfl,rfl,rfl,hr,⟨λ_=>rfl⟩,rfl,rfl⟩;have hk:Ok K ⟨F',H⟩ F' H (start N vs) (Fd N ds):=by unfold start;rw[r.length];exact iI sub r _
 refine .mk λon s0 I0=>?_;refine aH ((body _ hx ds hR) _ P7 ⟨F',H⟩ F' H _ () U1 hk on s0 (I0.Xq _) λe' s' z=>?_) (λ_ _ z=>z.elim) λe' s' z=>z;obtain⟨WF,H1,s1,W1,F2,H2,c2,I1,k1,sf,th⟩:=z;rw[Uu]at k1;have hE:=q F2 H2 k1.toExt;cases th with
 |fly fl=>exact aH (u9 I1 rfl rfl rfl fl) (λ_ _ z=>⟨C,H2,hE,z⟩) λ_ _ z=>z
 |made _ eh ee mm os gens=>subst eh;subst ee;exact aH (sI I1 rfl rfl rfl mm os gens) (λ_ _ z=>⟨C,_,hE,z⟩) λ_ _ z=>z
def G6(K:eZ)(C:Addr)(R:cn->aM->Int×aM->Prop):Sp:=λvs H _ E=>∃(r:m7)(F:Hp)(ds:aM)(c:Int×fh)(s:Int×aM),Vu F H/\gn K r/\(∀a u,(Vv r).ov c a=some u->H a=some u)/\(∀a u,(Vv r).ov c a=some u->F a=none)/\(Vv r).rep K F c s/\Vs K F vs (.adr r.p::ds)/\R r.toks ds s/\∀F' H' c',Ext (Vy (Vv r) ⟨F,H⟩ c') F' H'->E (.ref C) none H'
def di(X:Cx)(x:Str)(C:Addr)(R:cn->aM->Int×aM->Prop):Prop:=∃(f:Addr)(fd:FuncData)(ps:cn)(k:Nat),dZ X.prog X.w X.K X.mg X.base (E8 X.prog X.w) k f fd ps (G6 X.K C R)/\VS k X.A/\X.mg x=some (.ref f)/\keepIn X.K (.ref f)=true/\Binds X.K fd ps []
def Mm{P:Program}(VZ:P.given.tree=none){w:World}{K:eZ}{mg:tK}{base:Heap}{x qual:Str}{st:Stmt}{f:Addr}{fd:FuncData}{N ps:cn}{k:Nat}{C:Addr}{R:cn->aM->Int×aM->Prop}(Fn:Yw K x qual st f fd)(S:aN N ps (aq st))(len:∀ts ds s,R ts ds s->ds.length+1=ps.length)(body:∀X,DefX P w K mg base k N (aq st) X->yk X N st C R):dZ P w K mg base (E8 P w) (k+1) f fd ps (G6 K C R):=by
 obtain⟨oc,od,kV,doc,pm,an,V2,ct,ZT,rfl,lk,YG⟩:=Fn.ex;refine Gf lk YG S (λvs H Q E h=>?_) λA outer s H vs Q E hr h=>?_;obtain⟨r,F',ds,c,s,sub,ok,h1,h2,h3,rv,hR,q⟩:=h;rw[rv.length];exact len r.toks ds s hR;obtain⟨r,F',ds,c,s1,sub,ok,h1,h2,h3,rv,hR,q⟩:=h;refine⟨_,dU,?_⟩;have hx:DefX P w K mg base k N (aq st) (qA (E8 P w) P w K mg base N qual (aq st) f V2 A outer s H E).XH:=⟨⟨rfl,rfl,rfl,S.nd,rfl,hr.units,hr.WY,VZ,⟨_,_,rfl,S.gen,S.co,rfl,rfl⟩⟩,rfl,rfl,rfl,rfl,rfl,hr,⟨λ_=>rfl⟩,rfl,rfl⟩;have hk:Ok K ⟨F',H⟩ F' H (start N vs) (P9 (.adr r.p) N ds):=by unfold start;rw[rv.length];exact iI sub rv _
 refine .mk λon s0 I0=>?_;refine aH ((body _ hx r ok ds s1 hR) _ P7 ⟨F',H⟩ F' H _ c ⟨h1,h2,h3⟩ hk on s0 (I0.Xq _) λe' s' z=>?_) (λ_ _ z=>z.elim) λe' s' z=>z;obtain⟨WF,H1,s1,W1,F2,H2,c2,I1,k1,sf,th⟩:=z;have hE:=q F2 H2 c2 k1.toExt;cases th with
 |fly fl=>exact aH (u9 I1 rfl rfl rfl fl) (λ_ _ z=>⟨C,H2,hE,z⟩) λ_ _ z=>z
 |made _ eh ee mm os gens=>subst eh;subst ee;exact aH (sI I1 rfl rfl rfl mm os gens) (λ_ _ z=>⟨C,_,hE,z⟩) λ_ _ z=>z
def DefX.zIJ{x:Str}{R:cn->aM->Int×aM->Prop}(h:DefX P w K mg base k N sc X)(F:dZ P w K mg base (E8 P w) j f fd ps (G6 K C R))(hj:j<=k)(hm:mg x=some (.ref f))(hk:keepIn K (.ref f)=true)(hb:Binds K fd ps []):di X x C R:=by obtain⟨h0,rfl,rfl,rfl,rfl,rfl,hr,_⟩:=h;exact⟨f,fd,ps,j,F,hr.mono hj,hm,hk,hb⟩
def ft(t:At X N sc)(ok:gn X.K r){R:cn->aM->Int×aM->Prop}(h:di X x C R)(ha:HL (Vv r) X U (e::es) (.adr r.p::ds) s s1)(hR:R r.toks ds s1)(hg:sw sc x:=by rfl)(Wb:pE x:=by rfl):W6 (Vv r) X U (.Call (.Name x p) (e::es) [] pos) C s:=by
 obtain⟨f,fd,ps,k,Fn,hr,hm,hk,hb⟩:=h;refineλB F H Y c l k0 on st I=>gT<|mK I (dI t hg) hm ?_ Wb;refine ma I.ok.mod.kin hk (aH (ha.2 B F H Y (λvs H1=>∃F1 c1,Ext (Vy (Vv r) ⟨F,H⟩ c1) F1 H1/\(Vv r).rep X.K F1 c1 s1/\Vs X.K F1 vs (.adr r.p::ds)) c l k0 (λvs F1 H1 c1 x1 r1 rv=>⟨F1,c1,x1,r1,rv⟩) pos on st I) (λus st1 z=>?_) λ_ _ z=>t.no z) (ha.1.1 _ _)<|Yf.any ha.1.2;obtain⟨vs,H1,I1,rl,F1,c1,x1,r1,rv⟩:=z;refine⟨I1.WO,?_⟩;have k1:=k0.V6 l x1;have l1:=l.up r1;have Yl:G6 X.K C R vs H1 (λ_ _=>False) (λcc _ H2=>cc=.ref C/\∃F2 c2,Ext (Vy (Vv r) ⟨F1,H1⟩ c2) F2 H2):=⟨r,F1,ds,c1,s1,k1.sub,ok,l1.now k1,l1.ff k1,r1,rv,hR,λF2 H2 c2 x2=>⟨rfl,F2,c2,x2⟩⟩;have hl:us.length=ps.length:=by rw[<-rl.length];exact Fn.len _ _ _ _ Yl
 refine M2 (pQ (Fn.run X.A X.stack st1 H1 ⟨us,[]⟩ us vs _ _ hr I1.ZF (by have:=hb st1 us I1.WO (by rwa[aX]);rw[aX]at this;exact this) rl Yl) λr' s' hq=>?_);cases r' with
 |error e'=>obtain⟨C',H2,⟨hC,F2,c2,x2⟩,fl⟩:=hq;cases hC;have k2:=k1.V6 l1 x2;have eu:Vy (Vv r) (Vy (Vv r) B c1) c2=Vy (Vv r) B c2:=Vy.up;rw[eu]at k2;exact⟨Y,H1,st1,U,F2,H2,c2,I1,k2,x1.sf.trans x2.sf,.fly fl⟩
 |ok fl=>
  cases fl with
  |ret u=>let⟨_,_,_,_,_,_,_,z⟩:=(hq);exact z|next=>exact False.elim hq
  |brk=>exact False.elim hq|cont=>exact False.elim hq
def LF{U:cE}(t:At X N sc)(ok:gn X.K r)(i:Nat)(hr:U[i]?=some (.val<|.adr r.p))(hN:N[i]?=some x:=by rfl)(hv:fS sc x=true:=by rfl)(hx:cU x=true:=by rfl)(hb:attributeBase (.Name x py) "steps" X.env (eval (.Name x py) X.env)=eval (.Name x py) X.env:=by rfl):∀(B:B0)(F H:Hp)(Y:St)(c:(Vv r).cs),Ln (Vv r) X.K B F c s->Ok X.K B F H Y U->wE X (.Attribute (.Name x py) "steps" ps) Y H (λv H1=>H1=H/\N6 X.K "list" v H):=λB F H Y c l k=>.mk λon st I=>uS aU hb on st Y H _ I<|EY t hr hN hv hx k ⟨r.p,r.C,r.dx,_,.ref r.q,rfl,l.now k _ _ Vv.Y5,ok.cls,ok.n3,rfl,rfl,.inl ⟨rfl,_,Wd.of<|l.now k _ _<|Vv.Zj ok.ne⟩⟩
def K7[WR X](t:At X N sc)(i:Nat){C0:aM->cn->Prop}(h:WG X x C0)(ha:VL X U (e::es) ds)(hC:C0 ds toks)(Ym:∀r:m7,gn X.K r->r.toks=toks->Dy (Vv r) X (U.set i<|.val<|.adr r.p) bP C (0,[]))(hg:sw sc x:=by rfl)(Wb:pE x:=by rfl)(hi:N[i]?=some y:=by rfl)(hx:ml sc y=true:=by rfl)(hs:swapsWith (.Call (.Name x p) (e::es) [] Vx) (some<|.Name y pos') pos.line X.env=pure false:=by rfl):Dy LS0 X U (.Assign [.Name y pos'] (.Call (.Name x p) (e::es) [] Vx) pos::bP) C ():=λE hp B F0 H Y c0 l0 k on s I hE=>by
 obtain⟨f,fd,ps,kk,F,Yn,hm,hk,hb⟩:=h;have pz:iB jd X E0:=qf;have asg:wS X (.Assign [.Name y pos'] (.Call (.Name x p) (e::es) [] Vx) pos) {nx:=λxy H'=>∃(r:m7)(F2:Hp),gn X.K r/\r.toks=toks/\Vu F0 F2/\(∀(c:(Vv r).cs)a u,(Vv r).ov c a=some u->B.H a=none)/\Ln (Vv r) X.K (Vy (Vv r) B (0,[])) F2 (0,[]) (0,[])/\Ok X.K (Vy (Vv r) B (0,[])) F2 H' xy (U.set i<|.val<|.adr r.p),rt:=λ_ _=>False} Y H:=.mk λon s I=>by
  refine oI t.nd (t.ix hi) (t.loc hx) (j7 F Yn (dI t hg) hm hk hb .nil pz nU Wb (ha.1.1 _ _)<|Yf.any ha.1.2) hs Ga on s Y H _ I (ha.2 B F0 H Y _ k λvs F1 H1 x1 r1=>?_);refine⟨F1,ds,toks,x1.sub,by rwa[aX],hC,λr F2 H2 et nr=>?_⟩;obtain⟨ok,x2,n1,n2,h1,h2,f1,f2,hl⟩:=nr;have k1:=k.ext x1;have k2:=(k1.ext x2).VP i (.adr r.p:Rep X.K F2 (.ref r.p) (.adr r.p));have dm:∀a u,(Vv r).ov (0,[]) a=some u->H1 a=none/\H2 a=some u/\F2 a=none:=λa u z=>by by_cases e1:a=r.p;subst e1;rw[Vv.Y5]at z;cases z;exact⟨n1,h1,f1⟩;by_cases e2:a=r.q;subst e2;rw[Vv.Zj ok.ne]at z;cases z;exact⟨n2,h2,f2⟩;rw[show(Vv r).ov (0,[]) a=none from(show(if a=r.p then _ else if a=r.q then _ else _)=_ by rw[av e1,av e2])]at z;cases z
  have hb0:∀(c:(Vv r).cs)a u,(Vv r).ov c a=some u->B.H a=none:=λc a u z=>by obtain⟨v,hv⟩:=LS.has z (0,[]);exact k1.sh.free (dm a v hv).1
  have no:∀(j:Nat)xs a,(U.set i<|.val<|.adr r.p)[j]?=some (.own xs)->(Y.set i<|some<|.ref r.p)[j]?=some (some<|.ref a)->(Vv r).ov (0,[]) a=none:=λj xs a q1 q2=>by obtain⟨Xo,q1'⟩:=A7 j _ q1 λz=>nomatch z;rw[List.getElem?_set_ne Xo]at q2;obtain⟨a',vs',g1,g2,_⟩:=k1.We j xs q1';rw[g1]at q2;cases q2;cases e:(Vv r).ov (0,[]) a with|none=>rfl|some u=>rw[(dm a u e).1]at g2;cases g2
  have nd:∀(j:Nat)xs a,(U.set i<|.val<|.adr r.p)[j]?=some (.X0 xs)->(Y.set i<|some<|.ref r.p)[j]?=some (some<|.ref a)->(Vv r).ov (0,[]) a=none:=λj xs a q1 q2=>by obtain⟨Xo,q1'⟩:=A7 j _ q1 λz=>nomatch z;rw[List.getElem?_set_ne Xo]at q2;obtain⟨a',vs',g1,g2,_⟩:=k1.WI.YH j xs q1';rw[g1]at q2;cases q2;cases e:(Vv r).ov (0,[]) a with|none=>rfl|some u=>rw[(dm a u e).1]at g2;cases g2
  have k3:=k2.pin (λa u z=>hb0 _ a u z) (λa u z=>(dm a u z).2.1) (λa u z=>(dm a u z).2.2) no nd;refine⟨r,F2,ok,et,x1.sf.trans x2.sf,hb0,⟨λa u z=>gP z,λa u z=>?_,⟨rfl,.nil,hl⟩⟩,k3⟩;cases eb:B.F a with|none=>exact eb|some o=>have:=k3.sf a o eb;rw[(dm a u z).2.2]at this;cases this
 refine fQ (aH (asg on s I) (λf s' z=>?_) λ_ _ z=>t.no z);cases f with
 |brk=>let⟨_,_,_,z⟩:=z;exact z.elim|cont=>let⟨_,_,_,z⟩:=z;exact z.elim
 |ret u=>let⟨_,_,_,_,_,z⟩:=z;exact z.elim
 |next=>
  obtain⟨xy,H',I',r,F2,ok,et,sf,hb0,l,k3⟩:=z;refine Ym r ok et E hp _ F2 H' xy _ l k3 on s' I' λv w' z=>hE v w' ?_;obtain⟨WF,H1,s1,W1,F',H'',c',i1,o1,sf1,th⟩:=z;have e3:Vy (Vv r) (Vy (Vv r) B (0,[])) c'=Vy (Vv r) B c':=Vy.up;rw[e3]at o1;refine⟨WF,H1,s1,W1.map λ_=>.un,F',H'',c0,i1,?_,sf.trans sf1,th⟩;rw[Uu B c0];have nn:∀j(z:Sl),(W1.map λ_=>Sl.un)[j]?=some z->z=.un:=λj z hz=>by
   rw[List.getElem?_map]at hz;cases e:W1[j]? with
   |none=>rw[e]at hz;cases hz
   |some q=>rw[e]at hz;cases hz;rfl
  exact⟨o1.toExt.zAM λa u z=>hb0 c' a u z,by rw[ai];exact o1.len,(λj d hd=>nomatch nn j _ hd),(λj ys hd=>nomatch nn j _ hd),(λj j' ys ys' a h1 h2=>nomatch nn j _ h1),⟨(λj ys hd=>nomatch nn j _ hd),(λj j' ys ys' a h1 h2=>nomatch nn j _ h1)⟩⟩
end
def Ext.zEO(k:Ext B F H)(x:Ext (Wj ⟨F,H⟩ a us) F' H')(h0:B.H a=none):Ext B F' H':=by refine⟨x.sub,λb u z=>?_,k.sf.trans x.sf,λb z=>?_⟩;refine x.sh b u ?_;show dH H a (.lst us) b=some u;rw[aK λe=>by subst e;rw[h0]at z;cases z];exact k.sh b u z;rcases x.nw b z with y |y;exact k.nw b y;refine .inr ?_;have y':dH H a (.lst us) b=none:=y;by_cases e:b=a;subst e;exact h0;rw[aK e]at y';cases q:B.H b with|none=>rfl|some u=>rw[k.sh b u q]at y';cases y'
section
variable {ds:aM}{s s1 s':Int×aM}{bP:List Stmt}
def Ft(K:eZ)(C:Addr)(R:cn->Int×aM->aM->Prop):Sp:=λvs H _ E=>∃(r:m7)(q:Addr)(F:Hp)(c:((Vv r).lst q).cs)(s:Int×aM)(xs:aM),Vu F H/\gn K r/\iQ (Vv r) q/\(∀a u,((Vv r).lst q).ov c a=some u->H a=some u)/\(∀a u,((Vv r).lst q).ov c a=some u->F a=none)/\((Vv r).lst q).rep K F c (s,xs)/\Vs K F vs [.adr r.p,.adr q]/\R r.toks s xs/\∀F' H' c',Ext (Vy ((Vv r).lst q) ⟨F,H⟩ c') F' H'->E (.ref C) none H'
def rG(X:Cx)(x:Str)(C:Addr)(R:cn->Int×aM->aM->Prop):Prop:=∃(f:Addr)(fd:FuncData)(ps:cn)(k:Nat),dZ X.prog X.w X.K X.mg X.base (E8 X.prog X.w) k f fd ps (Ft X.K C R)/\VS k X.A/\X.mg x=some (.ref f)/\keepIn X.K (.ref f)=true/\Binds X.K fd ps []
def J5{P:Program}(VZ:P.given.tree=none){w:World}{K:eZ}{mg:tK}{base:Heap}{x qual:Str}{st:Stmt}{f:Addr}{fd:FuncData}{N ps:cn}{k:Nat}{C:Addr}{R:cn->Int×aM->aM->Prop}(Fn:Yw K x qual st f fd)(S:aN N ps (aq st))(len:2=ps.length)(body:∀X,DefX P w K mg base k N (aq st) X->∀(r:m7)(q:Addr),gn X.K r->iQ (Vv r) q->∀s xs,R r.toks s xs->Dy ((Vv r).lst q) X (.val (.adr r.p)::.val (.adr q)::List.replicate (N.length-2) Sl.un) (aW st) C (s,xs)):dZ P w K mg base (E8 P w) (k+1) f fd ps (Ft K C R):=by
 obtain⟨oc,od,kV,doc,pm,an,V2,ct,ZT,rfl,lk,YG⟩:=Fn.ex;refine Gf lk YG S (λvs H Q E h=>?_) λA outer s H vs Q E hr h=>?_;obtain⟨r,q,F',c,s,xs,sub,ok,ap,h1,h2,h3,rv,hR,g⟩:=h;rwa[rv.length];obtain⟨r,q,F',c,s1,xs,sub,ok,ap,h1,h2,h3,rv,hR,g⟩:=h;refine⟨_,dU,?_⟩;have hx:DefX P w K mg base k N (aq st) (qA (E8 P w) P w K mg base N qual (aq st) f V2 A outer s H E).XH:=⟨⟨rfl,rfl,rfl,S.nd,rfl,hr.units,hr.WY,VZ,⟨_,_,rfl,S.gen,S.co,rfl,rfl⟩⟩,rfl,rfl,rfl,rfl,rfl,hr,⟨λ_=>rfl⟩,rfl,rfl⟩;have hk:Ok K ⟨F',H⟩ F' H (start N vs) ([.adr r.p,.adr q].map Sl.val++List.replicate (N.length-2) Sl.un):=by unfold start;rw[rv.length];exact iI sub rv _
 refine .mk λon s0 I0=>?_;refine aH ((body _ hx r q ok ap s1 xs hR) _ P7 ⟨F',H⟩ F' H _ c ⟨h1,h2,h3⟩ hk on s0 (I0.Xq _) λe' s' z=>?_) (λ_ _ z=>z.elim) λe' s' z=>z;obtain⟨WF,H1,s1,W1,F2,H2,c2,I1,k1,sf,th⟩:=z;have hE:=g F2 H2 c2 k1.toExt;cases th with
 |fly fl=>exact aH (u9 I1 rfl rfl rfl fl) (λ_ _ z=>⟨C,H2,hE,z⟩) λ_ _ z=>z
 |made _ eh ee mm os gens=>subst eh;subst ee;exact aH (sI I1 rfl rfl rfl mm os gens) (λ_ _ z=>⟨C,_,hE,z⟩) λ_ _ z=>z
def DefX.zEL{x:Str}{R:cn->Int×aM->aM->Prop}(h:DefX P w K mg base k N sc X)(F:dZ P w K mg base (E8 P w) j f fd ps (Ft K C R))(hj:j<=k)(hm:mg x=some (.ref f))(hk:keepIn K (.ref f)=true)(hb:Binds K fd ps []):rG X x C R:=by obtain⟨h0,rfl,rfl,rfl,rfl,rfl,hr,_⟩:=h;exact⟨f,fd,ps,j,F,hr.mono hj,hm,hk,hb⟩
def PL(x:Ext B F H):Ok K B F H Y (Y.map λ_=>.un):=by
 have nn:∀j(z:Sl),(Y.map λ_=>Sl.un)[j]?=some z->z=.un:=λj z hz=>by
  rw[List.getElem?_map]at hz;cases e:Y[j]? with
  |none=>rw[e]at hz;cases hz
  |some q=>rw[e]at hz;cases hz;rfl
 exact⟨x,by rw[ai],(λj d hd=>nomatch nn j _ hd),(λj ys hd=>nomatch nn j _ hd),(λj j' ys ys' a h1 h2=>nomatch nn j _ h1),⟨(λj ys hd=>nomatch nn j _ hd),(λj j' ys ys' a h1 h2=>nomatch nn j _ h1)⟩⟩
def GY{X:Cx}{U:cE}{e0:Expr}{xs:aM}{p:Pos}{Vx:Pos}{pz:Pos}{N:cn}{sc:Scope}{x:Str}{z:Str}{r:m7}{C:Addr}(t:At X N sc)(ok:gn X.K r){R:cn->Int×aM->aM->Prop}(h:rG X x C R)(i:Nat)(ha:Vp X U e0 (.adr r.p))(hr:U[i]?=some (.own xs))(hR:R r.toks s xs)(hN:N[i]?=some z:=by rfl)(hv:fS sc z=true:=by rfl)(hx:cU z=true:=by rfl)(hg:sw sc x:=by rfl)(Wb:pE x:=by rfl)(hs:Pl (.Name z pz):=by intro _ _;rfl)(he:Pl e0:=by intro _ _;rfl):W6 (Vv r) X U (.Call (.Name x p) [e0,.Name z pz] [] Vx) C s:=by
 obtain⟨f,fd,ps,k,Fn,hr0,hm,hk,hb⟩:=h;refineλB F H Y c l k0 on st I=>gT<|mK I (dI t hg) hm ?_ Wb;have wa:wA X [e0,.Name z pz] Y H (λvs H1=>∃(F1:Hp)(a:Addr)(us:fh),Ext ⟨F,H⟩ F1 H1/\Vs X.K F1 vs [.adr r.p,.adr a]/\Y[i]?=some (some<|.ref a)/\H1 a=some (.lst us)/\Vs X.K F1 us xs):=.mk λpos on s I=>bC aU (bC aU dk<|hs _ _) (he _ _) pos on s Y H _ I (ha B F H Y _ k0 λv0 F1 H1 x1 rv1=>sD t hr hN hv hx (k0.ext x1) λa us h1 h2 h3=>⟨F1,a,us,x1,.cons rv1<|.cons (.adr a) .nil,h1,h2,h3⟩);refine ma I.ok.mod.kin hk (aH (wa Vx on st I) (λus st1 z=>?_) λ_ _ z=>t.no z) (he _ _) (by rw[hs];rfl);obtain⟨vs,H1,I1,rl,F1,a,Z3,x1,rv,h1,h2,h3⟩:=z;refine⟨I1.WO,?_⟩;have k1:=k0.ext x1;have l1:=l.ext x1;obtain⟨a',Xa,o1,o2,o3,o4,o5⟩:=k1.We i xs hr;rw[h1]at o1;cases o1;have ap:=l1.apart o4;have Yl:Ft X.K C R vs H1 (λ_ _=>False) (λcc _ H2=>cc=.ref C/\∃F2 c2,Ext (Vy ((Vv r).lst a) ⟨F1,H1⟩ c2) F2 H2):=by
  refine⟨r,a,F1,(c,Z3),s,xs,k1.sub,ok,ap,λb u hb=>?_,λb u hb=>?_,⟨l1.rep,h3⟩,rv,hR,λF2 H2 c2 x2=>⟨rfl,F2,c2,x2⟩⟩;by_cases ZA:b=a;subst ZA;rw[vx<|ap c]at hb;cases hb;exact h2;cases e:(Vv r).ov c b with
  |some u'=>rw[sJ e]at hb;cases hb;exact l1.now k1 _ _ e
  |none=>rw[oJ e ZA]at hb;cases hb
  by_cases ZA:b=a;subst ZA;exact o3;cases e:(Vv r).ov c b with|some u'=>exact l1.ff k1 _ _ e|none=>rw[oJ e ZA]at hb;cases hb
 have hl:us.length=ps.length:=by rw[<-rl.length];exact Fn.len _ _ _ _ Yl
 refine M2 (pQ (Fn.run X.A X.stack st1 H1 ⟨us,[]⟩ us vs _ _ hr0 I1.ZF (by have:=hb st1 us I1.WO (by rwa[aX]);rw[aX]at this;exact this) rl Yl) λr' s' hq=>?_);cases r' with
 |error e'=>
  obtain⟨C',H2,⟨hC,F2,c2,x2⟩,fl⟩:=hq;cases hC;have x2:=(Fj<|ap c2.1)▸x2;have k2:Ok X.K (Vy (Vv r) B c2.1) F1 (k9 ((Vv r).ov c2.1) H1) Y U:=k1.Yt l1;have hb0:(Vy (Vv r) B c2.1).H a=none:=by show k9 ((Vv r).ov c2.1) B.H a=none;rwa[dL<|ap c2.1]
  exact⟨Y,H1,st1,Y.map λ_=>.un,F2,H2,c2.1,I1,PL<|k2.toExt.zEO x2 hb0,x1.sf.trans x2.sf,.fly fl⟩
 |ok fl=>
  cases fl with
  |ret u=>let⟨_,_,_,_,_,_,_,z⟩:=(hq);exact z|next=>exact False.elim hq
  |brk=>exact False.elim hq|cont=>exact False.elim hq
def Xx.l{st:Stmt}{S:LS}{s:S.ds}(hq:iQ S q)(h:Xx S X U st C s):Xx (S.lst q) X U st C (s,xs):=λE hp B F H Y c l k on w I hE=>h E hp B F H Y c.1 (l.fst hq) k on w I λe s' ⟨WF,H1,s1,W1,F',H',c',i,o,sf,th⟩=>hE e s' ⟨WF,H1,s1,W1,F',H',(c',c.2),i,by rwa[show Vy (S.lst q) B (c',c.2)=Vy S B c' from tO (l.snd hq).st<|hq c'],sf,th⟩
def W6.l{S:LS}{s:S.ds}(hq:iQ S q)(h:W6 S X U e C s):W6 (S.lst q) X U e C (s,xs):=λB F H Y c l k on w I=>aH (h B F H Y c.1 (l.fst hq) k on w I) (λ_ _ z=>z) λe s' ⟨WF,H1,s1,W1,F',H',c',i,o,sf,th⟩=>⟨WF,H1,s1,W1,F',H',(c',c.2),i,by rwa[show Vy (S.lst q) B (c',c.2)=Vy S B c' from tO (l.snd hq).st<|hq c'],sf,th⟩
end
def Mc{cs:List Addr}(c:rR X.K C)(hk:∀D∈cs,kitOne X.K (.ref C) (.ref D)=some false):iq X (.builtin "isinstance") (λxs H Q=>∃v b ob tp,xs=[v,.ref tp]/\v=.ref b/\H b=some (.W5 ob<|.ext<|qo b C)/\H tp=some (.tup<|cs.map V.ref)/\Q (.bl false) H):=by
 intro on s Y H xs us Q I r h;obtain⟨v,b,ob,tp,rfl,rfl,hb,ht,q⟩:=h;obtain⟨u,w,rfl,ru,Xn⟩:=wQ r;cases(ru);cases(show w=Value.ref tp from Xn);obtain⟨_,hp,_,_⟩:=(I.VG b _ hb);obtain⟨lz,its,hv,ht2⟩:=(I.VG tp _ ht);have e1:its=cs.map Value.ref:=by
  clear ht ht2 hk r Xn lz;generalize hw:cs.map V.ref=ws at hv;induction hv generalizing cs with
  |nil=>cases cs with|nil=>rfl|cons a b=>cases hw
  |cons h1 h2 ih=>
   cases cs with
   |nil=>cases hw
   |cons a b=>cases hw;rw[bp,<-ih rfl,show _=Value.ref a from h1]
 subst e1;have ek:kitAny X.K (.ref C) (cs.map Value.ref)=some false:=by clear ht ht2 hv lz;induction cs with|nil=>rfl|cons a b ih=>show(match kitOne X.K (.ref C) (.ref a)with |some true=>some true |some false=>kitAny X.K (.ref C) (b.map Value.ref) |none=>none)=some false;rw[hk a<|by simp];exact ih λD hD=>hk D<|by simp[hD]
 obtain⟨⟨cl,dd,dat,sl⟩,ht3,h2,n,h3⟩:=ht2;cases h2;cases h3;exact kia_tup (CY c) I.WO hp ht3 ek (λz=>nomatch z) λtk=>⟨.bl false,H,I.tok tk,rfl,q⟩
inductive Zb(X:Cx)(sc:Scope):tL->List Addr->Prop where
 |nil:Zb X sc [] []
 |cons {y:Str} {py:Pos} {D:Addr} {es:tL} {cs:List Addr} (hy:X.mg y=some (.ref D)) (h:Zb X sc es cs) (hg:sw sc y:=by rfl) (hd:pE y:=by rfl):Zb X sc (.Name y py::es) (D::cs)
def Zb.wA(t:At X N sc)(h:Zb X sc es cs):∀{Y:St}{H:Hp}{Q:fh->Hp->Prop},Q (cs.map V.ref) H->wA X es Y H Q:=by
 induction h with
 |nil=>intro Y H Q q;exact .mk λpos on s I=>dk pos on s Y H Q I q
 |@cons y py D es cs hy h hg hd ih=>intro Y H Q q;exact .mk λpos on s I=>bC (rf (v:=.ref D) (dI t hg) hy rfl hd) nU rfl pos on s Y H Q I<|ih q
def Mu(t:At X N sc)(bl:kN X sc x (.builtin "isinstance"))(c:rR X.K C)(he:Zb X sc es cs)(ha:Vp X U a (.exc C))(hk:∀D∈cs,kitOne X.K (.ref C) (.ref D)=some false)(hl:cs.length<=sizeLine:=by exact cM rfl)(hpa:Pl a:=by intro _ _;rfl):Vp X U (.Call (.Name x p) [a,.Tuple es k0 pt] [] pos) (.bl false):=.of (iH (Mc c hk) (dI t bl.g) bl.m bl.v (bC aU (bC (Bj nU) dk)<|hpa _ _) bl.n bl.d (hpa _ _) rfl) λB F H Y Q k' q=>ha B F H Y _ k' λv F' H' x' r=>by
   refine he.wA t ⟨by rwa[ai],λtp hp=>?_⟩;obtain⟨ea,ob,rfl,hb⟩:=Ex x'.sub r;have ne:ea≠tp:=λz=>by subst z;rw[hb]at hp;cases hp
   exact⟨_,ea,ob,tp,rfl,rfl,(aK ne).trans hb,aI,q _ F' _ ⟨λb u z=>(aP hp) b u<|x'.sub b u z,λb u z=>(aP hp) b u<|x'.sh b u z,x'.sf,x'.nw⟩<|.bl false⟩
abbrev PU:=List<|Str×V
def K0(is:PU):List (nt×V):=is.map λx=>((Sum.inr x.1:nt),x.2)
def UC(is:PU)(ws:List (Value×Value)):Prop:=Paired (λ(q:Str×V)(p:Value×Value)=>(∃tk,p.1=.str q.1 tk)/\RelV q.2 p.2) is ws
def KV.keys{kvs:List (nt×V)}{vs:List (nt×Value)}(h:KV kvs vs):vs.map (·.1)=kvs.map (·.1):=by induction h with|nil=>rfl|cons h _ ih=>rw[bp,bp,ih,h.1]
def KV.snoc{kvs:List (nt×V)}{vs:List (nt×Value)}{k:nt}(h:KV kvs vs)(r:RelV v u):KV (kvs++[(k,v)]) (vs++[(k,u)]):=by induction h with|nil=>exact .cons ⟨rfl,r⟩ .nil|cons h _ ih=>exact .cons h ih
def KV.len{kvs:List (nt×V)}{vs:List (nt×Value)}(h:KV kvs vs):vs.length=kvs.length:=by have:=aL List.length<|KV.keys h;simpa using this
def Kq{a:Addr}{Q:PUnit->Shared->Prop}:∀(is:PU)(ws:List (Value×Value))(kvs:List (nt×V))(H:Hp)(s0:Shared),Inv X on Y H s0->H a=some (.dK kvs)->UC is ws->(∀x∈is,∀y∈kvs,y.1≠Sum.inr x.1)->(is.map (·.1)).Nodup->kvs.length+is.length<sizeLine->
  (∀s',Inv X on Y (dH H a<|.dK<|kvs++K0 is) s'->Q PUnit.unit s')->
  fg X (forIn ws PUnit.unit λx _=>do
   dictSet a x.fst x.snd
   pure (ForInStep.yield PUnit.unit)) Q E s0:=by
 intro is
 induction is with
 |nil=>
  intro ws kvs H s I h1 r _ _ hz q
  cases r
  have e:dH H a (.dK<|kvs++K0 [])=H:=funext λb=>by
   by_cases hb:b=a
   subst hb;rw[aI,h1];simp[K0]
   rw[aK hb]
  have q':=q s
  rw[e]at q'
  exact aD<|q' I
 |cons x is ih=>
  intro ws kvs H s I h1 r hn nd hz q
  cases r with
  |@cons _ p _ ws' hp hr=>
  obtain⟨⟨tk,e1⟩,rv⟩:=hp
  rw[bY]at hz
  rw[yx]
  obtain⟨z1,z2,vs,kv,dd⟩:=(I.VG a _ h1)
  have hl:=KV.len kv
  rw[e1]
  refine ak<|ak<|wpAny_dictSet_pairs (k:=Sum.inr x.1) (ly x.1 tk) dd (λh' dd' sb=>?_)<|by lia
  refine aD ?_
  have es:stored vs (Sum.inr x.1:nt) p.2=vs++[(Sum.inr x.1,p.2)]:=by
   unfold stored
   rw[av]
   intro z
   obtain⟨y,hy,e⟩:=List.any_eq_true.mp z
   have:y.1∈kvs.map (·.1):=by rw[<-KV.keys kv];exact List.mem_map.mpr ⟨y,hy,rfl⟩
   obtain⟨y',hy',e'⟩:=List.mem_map.mp this
   exact hn x (by simp) y' hy'<|e'.trans<|cg e
  rw[es]at dd'
  have ok:VT X.prog X.w (dH H a<|.dK<|kvs++[(Sum.inr x.1,x.2)]) h' a (.dK<|kvs++[(Sum.inr x.1,x.2)]):=⟨by rw[ag,eB];lia,z2,_,KV.snoc kv rv,dd'⟩
  have I2:Inv X on Y (dH H a<|.dK<|kvs++[(Sum.inr x.1,x.2)]) {s with heap:=h',toks:=s.toks+1}:=
   I.write (by rw[h1];exact True.intro) (.inl rfl) (λc q hc w=>(sb.2 c hc).trans w) (let⟨o,_,_,h1,_⟩:=dd';⟨o,h1⟩) ok
  rw[bp,gR]at nd
  refine ih ws' (kvs++[(Sum.inr x.1,x.2)]) _ _ I2 aI hr (λz hz' y hy=>?_) nd.2 (by rw[ag,eB];lia) λs' I3=>q s' ?_
  rcases bS.mp hy with w |w
  exact hn z (by simp[hz']) y w
  rw[bZ]at w;subst w
  intro e
  injection e with e
  exact nd.1<|List.mem_map.mpr ⟨z,hz',e.symm⟩
  rw[Fg]at I3
  have e3:kvs++[((Sum.inr x.1:nt),x.2)]++K0 is=kvs++K0 (x::is):=by simp[K0]
  rw[e3]at I3;exact I3
section
variable {XW:List (Str×D)}
def ZX(K:eZ)(F:Hp)(XW:List (Str×D))(is:PU):Prop:=Paired (λ(q:Str×D)(x:Str×V)=>x.1=q.1/\Rep K F x.2 q.2) XW is
def ZX.keys{is:PU}(r:ZX K F XW is):is.map (·.1)=XW.map (·.1):=by induction r with|nil=>rfl|cons a t ih=>rw[bp,bp,ih,a.1]
def ZX.mono{is:PU}(h:Vu F F')(r:ZX K F XW is):ZX K F' XW is:=by induction r with|nil=>exact .nil|cons a t ih=>exact .cons ⟨a.1,a.2.mono h⟩ ih
def Nu(XW:List (Str×D))(k:Str):Option D:=(XW.find? λp=>decide<|p.1=k).map (·.2)
def ZX.at{k:Str}{is:PU}(r:ZX K F XW is)(h:Nu XW k=some d):∀{vs:List (nt×Value)},KV (K0 is) vs->∃v u,valueAt vs (Sum.inr k:nt)=some u/\RelV v u/\Rep K F v d:=by
 unfold Nu at h;induction r with
 |nil=>cases h
 |@cons p q ps qs hq t ih=>
  intro vs kv;have kv':KV (((Sum.inr q.1:nt),q.2)::K0 qs) vs:=kv;cases kv' with|@cons _ w _ vs' hw hvs=>
  let⟨k0,u⟩:=w;have e0:=hw.1.symm;subst e0;rw[List.find?_cons]at h;by_cases e:p.1=k;have e':decide (p.1=k)=true:=by simp[e]
  rw[e']at h;cases h;exact⟨q.2,u,by unfold valueAt;simp[hq.1,e],hw.2,hq.2⟩;have e':decide (p.1=k)=false:=by simp[e]
  rw[e']at h;let⟨v',u',h1,h2⟩:=ih h hvs;refine⟨v',u',?_,h2⟩;unfold valueAt at h1 ⊢;simp[hq.1,e];simpa using h1
inductive Yx(X:Cx)(U:cE):List (Option Expr)->tL->List (Str×D)->Prop where
 |nil:Yx X U [] [] []
 |cons {a b:Expr} {as:List (Option Expr)} {bs:tL} {k:Str} {d:D} {r:List (Str×D)}:Vp X U a (.str k)->Vp X U b d->Yx X U as bs r->Yx X U (some a::as) (b::bs) ((k,d)::r)
def Yx.len{bs:tL}(h:Yx X U as bs XW):as.all (·.isSome)=true/\as.length=bs.length/\as.length=XW.length:=by induction h with|nil=>exact⟨rfl,rfl,rfl⟩|cons h1 h2 h3 ih=>exact⟨by rw[List.all_cons,ih.1];rfl,aL Nat.succ ih.2.1,aL Nat.succ ih.2.2⟩
def Yx.walk{bs:tL}(h:Yx X U as bs XW):∀{B:B0}{F H:Hp}{Y:St},Ok X.K B F H Y U->∀{on:gC}{s:Shared},Inv X on Y H s->fg X (evalPairs<|pairTrees as bs X.env pos) (λws s'=>∃F' H' is,Inv X on Y H' s'/\Ext ⟨F,H⟩ F' H'/\ZX X.K F' XW is/\UC is ws) X.xe s:=by induction h with|nil=>intro B F H Y kk on s I;exact pairTrees_nil_walk ⟨F,H,[],I,.refl kk.sub,.nil,.nil⟩|@cons a b as bs k d r h1 h2 h3 ih=>intro B F H Y kk on s I;refine pairTrees_cons_walk (fq (h1 B F H Y (λv H1=>∃F1,Ext ⟨F,H⟩ F1 H1/\Rep X.K F1 v (.str k)) kk (λv F1 H1 x1 r1=>⟨F1,x1,r1⟩) on s I) λu s1 ⟨v,H1,I1,rv,F1,x1,r1⟩=>?_);have k1:=kk.ext x1;refine fq (h2 B F1 H1 Y (λv H2=>∃F2,Ext ⟨F1,H1⟩ F2 H2/\Rep X.K F2 v d) k1 (λv F2 H2 x2 r2=>⟨F2,x2,r2⟩) on s1 I1) λu2 s2 ⟨v2,H2,I2,YW,F2,x2,r2⟩=>?_;refine fq (ih (k1.ext x2) I2) λws s3 ⟨F3,H3,xs,I3,x3,r3,pr⟩=>?_;cases r1;exact⟨F3,H3,(k,v2)::xs,I3,(x1.t x2).t x3,.cons ⟨rfl,r2.mono x3.sf⟩ r3,.cons ⟨rv,YW⟩ pr⟩
def C7{bs:tL}[WR X](t:At X N sc)(i:Nat)(h:Yx X U as bs XW)(nd:(XW.map (·.1)).Nodup)(hc:∀q,Vr X (U.set i<|.val<|.adr q) c r)(hT:r=true->(∀q,Vp X (U.set i<|.val<|.adr q) a<|.str k)/\Nu XW k=some d)(hF:r=false->∀q,Vp X (U.set i<|.val<|.adr q) e d)(hρ:i<U.length:=by decide)(h0:as≠[]:=by exactλz=>nomatch z)(h15:as.length<=15:=by decide)(hi:N[i]?=some y:=by rfl)(hx:ml sc y=true:=by rfl)(hv:fS sc y=true:=by rfl)(hN:cU y=true:=by rfl)(hp:oU a:=by intro _ _;rfl)(hs:swapsWith (.Dict as bs py) (some<|.Name y pos') pos.line X.env=pure false:=by rfl):Vt X U [.Assign [.Name y pos'] (.Dict as bs py) pos,.If c [.Return (some<|.Subscript (.Name y p) a pi) pr] [] ps,.Return (some e) pr2] (.rt d):=λB F H Y E kk w=>.mk λon s I=>by
 obtain⟨l1,l2,l3⟩:=h.len;have dis:wE X (.Dict as bs py) Y H (λv H'=>∃q F' is,v=.ref q/\Ext ⟨F,H⟩ F' H'/\H' q=some (.dK<|K0 is)/\F' q=none/\ZX X.K F' XW is):=.mk λon s I=>by
  rw[arm_eval_Dict,zip_pairTrees as bs X.env py l1 l2];have Xf:=pairTrees_length as bs X.env py l1 l2;rw[dictDisplay_pairs _ (λz=>h0<|bx<|by rw[<-Xf,z];rfl)<|by lia];refine ak<|nE<|ak ?_;refine ak<|SE ?_;have hn:=I.VG.fresh<|ao s.heap.objs.size;have hb:sysModules<s.heap.objs.size:=yn (by decide)<|(I.mod.glob.keeps I.bk).lt;have z:VT X.prog X.w H (s.heap.push {cls:=.type "dict",data:=.dict #[]}) s.heap.objs.size (.dK []):=⟨bO _,bF.mpr<|eF<|bH hb,[],.nil,Heap.DictOf.new s.heap⟩;have I1:=I.laid (o:=.dK []) (t':=s.toks) (λ_ _ q=>Heap.get?_push_of_some _ q) (ao _) z;have x1:Ext ⟨F,H⟩ F (dH H s.heap.objs.size<|.dK []):=⟨kk.sub.trans<|aP hn,aP hn,.refl _,λ_ z=>.inl z⟩;refine ak<|dv ?_;rw[ax<|by lia];refine ak (fq (h.walk (kk.ext x1) I1) λws s2 ⟨F2,H2,is,I2,x2,r2,pr⟩=>?_);refine dv<|ak ?_;have ZV:=x2.kf (kk.sub.free hn) aI;have hk:=r2.keys;have hlen:is.length=XW.length:=by have:=aL List.length hk;rw[ai,ai]at this;exact this
  refine Kq is ws [] H2 s2 I2 (x2.sh _ _ aI) pr (λ_ _ _ z=>nomatch z) (by rwa[hk]) (by rw[jf,tD];lia) λs3 I3=>?_;refine aD<|aD<|aD ⟨.ref s.heap.objs.size,_,I3,rfl,?_⟩;have Z0:=x1.t x2;refine⟨_,F2,is,rfl,⟨λc u w=>?_,λc u w=>?_,Z0.sf,Z0.nw⟩,aI,ZV,r2⟩;have ne:c≠s.heap.objs.size:=λz=>by subst z;rw[ZV]at w;cases w
  rw[aK ne];exact Z0.sub c u w;have ne:c≠s.heap.objs.size:=λz=>by subst z;have w':H s.heap.objs.size=some u:=w;rw[hn]at w';cases w'
  rw[aK ne];exact Z0.sh c u w
 have ix:∀{q:Addr},Qj X (λx y H Q=>∃k is F d,x=.ref q/\y=.str k/\H q=some (.dK<|K0 is)/\ZX X.K F XW is/\Nu XW k=some d/\∀v,Rep X.K F v d->Q v H):=by intro q value slice on s Y H x y v u Q I rx ry h hs;obtain⟨k,is,F,d,rfl,rfl,hq,hr,hl,q'⟩:=h;cases rx;obtain⟨tk,rfl⟩:=ry;obtain⟨z1,z2,vs,kv,dd⟩:=(I.VG q _ hq);obtain⟨v',u',e1,e2,e3⟩:=hr.at hl kv;exact kQ dd.typeIs PySem.F.slot_dict_getitem.lookup (Sh (ly k tk) dd.mapOf e1 ⟨rfl,v',H,I.tok _,e2,q' v' e3⟩) hs
 refine gA uP dU on s Y H E I (.mk λon s I=>oI t.nd (t.ix hi) (t.loc hx) aU hs Ga on s Y H _ I (.mk λon s I=>aH (dis on s I) (λu s' ⟨v,H1,I1,rv,q,F1,is,ev,x1,g1,g2,r1⟩=>⟨v,H1,I1,rv,?_⟩) λ_ _ z=>z));subst ev;have k1:=(kk.ext x1).VP i<|.adr q;refine .mk λon s I=>gA uP dU on s _ H1 E I (.mk λon s I=>xb mX dU dU on s _ H1 _ I (hc q B F1 H1 _ _ k1 λF2 H2 x2=>?_));have k2:=k1.ext x2;cases r with
 |true=>obtain⟨ha,hl⟩:=hT rfl;rw[ax rfl];refine .mk λon s I=>oH (uQ aU) on s _ H2 _ I (.mk λon s I=>xj (ix (q:=q)) aU aU hp on s _ H2 _ I ((aa t i (List.getElem?_set_self hρ) hi hv hN) B F2 H2 _ _ k2 λu F3 H3 x3 r3=>ha q B F3 H3 _ _ (k2.ext x3) λv F4 H4 x4 r4=>?_));cases r3;cases r4;exact⟨k,is,F4,d,rfl,rfl,x4.sh _ _<|x3.sh _ _<|x2.sh _ _ g1,((r1.mono x2.sf).mono x3.sf).mono x4.sf,hl,λv rv=>w v F4 H4 (((k2.ext x3).ext x4).toExt) rv⟩
 |false=>rw[av aA];exact .mk λon s I=>FF on s _ H2 _ I (.mk λon s I=>oH (uQ aU) on s _ H2 _ I (hF rfl q B F2 H2 _ _ k2 λv F3 H3 x3 r3=>w v F3 H3 (k2.ext x3).toExt r3))
end
section
variable {S:LS}{s:S.ds}
def N0{U:cE}(t:At X N sc)(i:Nat)(hr:U[i]?=some (.val d))(h:W6 S X U e C s)(hi:N[i]?=some x:=by rfl)(hx:ml sc x=true:=by rfl):Xx S X U (.AugAssign (.Name x pos') op e pos) C s:=λE hp B F H Y c l k on w I hE=>by
 let⟨v,h1,h2⟩:=k.vals i _ hr;let⟨m,hn,hl⟩:=I.loc;have YQ:=t.loc hx;have vis:Qh X.env.scope x:=by rcases YQ with k |k;exact .inl k;exact .inr<|.inl k
 let⟨u,r,l'⟩:=hl i x v (t.ix hi) h1 vis;refine wpAny_AugAssign_Name ?_;have go:∀{Q:qW},fg X (eval e X.env) Q E w:=λ{Q}=>aH (h B F H Y c l k on w I) (λ_ _ z=>z.elim) hE;rcases l' with⟨hk,hm⟩ |⟨hk,c,hc,Xb⟩;exact HM I.ok.kind hk hn hm go;rcases hk with hk |hk;exact KP I.ok.kind hk hc Xb go;rcases YQ with k |k;have:X.env.scope.names.lookup x=some .free:=hk;rw[k]at this;cases this;have:X.env.scope.names.lookup x=some .free:=hk;rw[k]at this;cases this
def K6(t:At X N sc){s1:S.ds}(ha:Vz S X U a d s s1)(hb:W6 S X U b C s1)(h1:Pl a:=by intro _ _;rfl)(h2:Pl b:=by intro _ _;rfl):W6 S X U (.Tuple [a,b] x1 pos) C s:=λB F H Y c l k on w I=>by refine wpAny_Tuple_spliced ?_;rw[h1 [b] X.env,h2 [] X.env];exact om (ha.go t l k I λv u F' H' c' w' x r rv ru I'=>om (aH (hb (Vy S B c') F' H' Y c' (l.up r) (k.V6 l x) on w' I') (λ_ _ z=>z.elim) λv' Z2 z=>z.back x.sf))
def Hm{U:cE}{s0:S.ds}(hq:iQ S q)(t:At X N sc)(i:Nat)(hr:U[i]?=some (.val<|.adr q))(hN:N[i]?=some x:=by rfl)(hv:fS sc x=true:=by rfl)(hx:cU x=true:=by rfl):∀(B:B0)(F H:Hp)(Y:St)(c:(S.lst q).cs),Ln (S.lst q) X.K B F c (s0,xs)->Ok X.K B F H Y U->wE X (.Name x py) Y H (λv H1=>H1=H/\N6 X.K "list" v H):=λB F H Y c l k=>vk t hr hN hv hx k ⟨rfl,.inl ⟨rfl,_,Wd.of<|k.sh _ _ (l.snd hq).st⟩⟩
end
def kK(ha:V4 X q U a (.lst ys) xs W9)(hb:V4 X q U b (.lst zs) W9 xs')(hz:ys.length+zs.length<=sizeLine):V4 X q U (.BinOp a .Add b pos) (.lst<|ys++zs) xs xs':=λB F H Y Q us l k w=>.mk λon s I=>pH Jy aU aU on s Y H Q I (ha B F H Y _ us l k λv F1 H1 u1 x1 r1 rv=>hb (Wj B q u1) F1 H1 Y _ u1 ⟨aI,l.fr,r1⟩ (k.XM l x1) λv2 F2 H2 u2 x2 r2 YW=>by cases rv with|lst h1 q1=>cases YW with|lst h2 q2=>exact⟨_,_,_,_,rfl,rfl,x2.sub _ _<|x2.sf _ _ h1,x2.sub _ _ h2,by rw[q1.length,q2.length];exact hz,λp hp=>w _ _ _ u2 ((x1.tM (l.ff k) x2).grow hp) (r2.mono<|aP<|x2.sub.free hp)<|.lst aI<|((q1.mono x2.sf).append q2).mono<|aP<|x2.sub.free hp⟩)
end L2.EV
set_option maxHeartbeats 4000000
namespace My
open PySem PySem.W L2 L2.EV
variable {H:Hp}{X:Cx}{pos:Pos}
variable {K:eZ}
def top(i:Nat):Stmt:=PySem.Challenge.pw_planestacks_k35_texts_of_no_sayings.main.body.getD i<|.Pass ⟨0,0,0,0⟩
abbrev jX:Stmt:=top 7
abbrev m8:cn:=["parts","nought","many"]
def pW:aN m8 ["parts","nought"] (aq jX):=iT<|by decide
abbrev q8:Stmt:=top 8
abbrev vn:cn:=["parts","power","nought"]
def wZ:aN vn ["parts","power","nought"] (aq q8):=iT<|by decide
abbrev t7:Stmt:=top 9
abbrev yi:cn:=["numbers"]
def Ax:aN yi ["numbers"] (aq t7):=iT<|by decide
abbrev oC:Stmt:=top 10
abbrev sY:cn:=["f","g","many"]
def vt:aN sY ["f","g"] (aq oC):=iT<|by decide
abbrev kS:Stmt:=top 11
abbrev oW:cn:=["f"]
def rW:aN oW ["f"] (aq kS):=iT<|by decide
abbrev ki:Stmt:=top 12
abbrev qG:cn:=["f","g","numbers","j","one","k","other"]
def tU:aN qG ["f","g"] (aq ki):=iT<|by decide
abbrev oE:Stmt:=top 14
abbrev sZ:cn:=["rows"]
def vv:aN sZ ["rows"] (aq oE):=iT<|by decide
abbrev kW:Stmt:=top 15
abbrev oZ:cn:=["f","g","many"]
def rZ:aN oZ ["f","g"] (aq kW):=iT<|by decide
abbrev jY:Stmt:=top 16
abbrev nc:cn:=["f","g"]
def pZ:aN nc ["f","g"] (aq jY):=iT<|by decide
abbrev iD:Stmt:=top 17
abbrev m9:cn:=["f","g","rows","j","one","k","other"]
def pY:aN m9 ["f","g"] (aq iD):=iT<|by decide
abbrev i7:Stmt:=top 19
abbrev ko:cn:=["thing"]
def ox:aN ko ["thing"] (aq i7):=iT<|by decide
abbrev mB:Stmt:=top 25
abbrev qH:cn:=["token"]
def tV:aN qH ["token"] (aq mB):=iT<|by decide
abbrev kU:Stmt:=top 26
abbrev oY:cn:=["text","start","end"]
def rY:aN oY ["text","start"] (aq kU):=iT<|by decide
abbrev dB:Stmt:=top 27
abbrev eO:cn:=["run"]
def iw:aN eO ["run"] (aq dB):=iT<|by decide
abbrev jI:Stmt:=top 28
abbrev lX:cn:=["text","start","run"]
def pX:aN lX ["text","start"] (aq jI):=iT<|by decide
abbrev cb:Stmt:=top 29
abbrev fO:cn:=["text","tokens","at"]
def oy:aN fO ["text"] (aq cb):=iT<|by decide
abbrev fR:Stmt:=top 30
abbrev gL:cn:=["tokens","opening","closing","many","token"]
def lF:aN gL ["tokens","opening","closing"] (aq fR):=iT<|by decide
abbrev i8:Stmt:=top 32
abbrev kq:cn:=["text","most","tokens"]
def oz:aN kq ["text","most"] (aq i8):=iT<|by decide
abbrev kT:Stmt:=top 33
abbrev oX:cn:=["reader"]
def rX:aN oX ["reader"] (aq kT):=iT<|by decide
abbrev kR:Stmt:=top 34
abbrev oV:cn:=["reader","token"]
def rV:aN oV ["reader"] (aq kR):=iT<|by decide
abbrev gG:Stmt:=top 35
abbrev iJ:cn:=["reader","tokens","token"]
def lD:aN iJ ["reader","tokens"] (aq gG):=iT<|by decide
abbrev gH:Stmt:=top 36
abbrev iK:cn:=["reader"]
def lE:aN iK ["reader"] (aq gH):=iT<|by decide
abbrev jJ:Stmt:=top 39
abbrev lY:cn:=["reader","sign"]
def kh:aN lY ["reader"] (aq jJ):=iT<|by decide
abbrev ge:Stmt:=top 40
abbrev hU:cn:=["reader"]
def kB:aN hU ["reader"] (aq ge):=iT<|by decide
abbrev gJ:Stmt:=top 41
abbrev iN:cn:=["reader","minuses"]
def lH:aN iN ["reader"] (aq gJ):=iT<|by decide
abbrev ig:Stmt:=top 42
abbrev jx:cn:=["reader"]
def mT:aN jx ["reader"] (aq ig):=iT<|by decide
abbrev i9:Stmt:=top 43
abbrev kr:cn:=["reader","token"]
def oB:aN kr ["reader"] (aq i9):=iT<|by decide
abbrev q9:Stmt:=top 44
abbrev vo:cn:=["token","number"]
def w5:aN vo ["token"] (aq q9):=iT<|by decide
abbrev ii:Stmt:=top 45
abbrev jP:cn:=["f","many","power","k"]
def mv:aN jP ["f","many"] (aq ii):=iT<|by decide
abbrev ie:Stmt:=top 46
abbrev V9:cn:=["step","boards","last","first"]
def mr:aN V9 ["step","boards"] (aq ie):=iT<|by decide
abbrev e8:Stmt:=top 51
abbrev fP:cn:=["reader","sign"]
def iU:aN fP ["reader"] (aq e8):=iT<|by decide
abbrev cH:Stmt:=top 52
abbrev dy:cn:=["reader","prefixes","word"]
def jG:aN dy ["reader"] (aq cH):=iT<|by decide
abbrev dn:Stmt:=top 53
abbrev VF:cn:=["reader","brackets","prefixes","word"]
def kA:aN VF ["reader","brackets"] (aq dn):=iT<|by decide
abbrev dW:Stmt:=top 54
abbrev fx:cn:=["reader","brackets","ended","prefixes"]
def mR:aN fx ["reader"] (aq dW):=iT<|by decide
abbrev mz:Stmt:=top 55
abbrev WZ:cn:=["step","waiting","last","first","word","letter"]
def tT:aN WZ ["step","waiting"] (aq mz):=iT<|by decide
abbrev gI:Stmt:=top 56
abbrev iM:cn:=["text","reader","waiting","step"]
def lG:aN iM ["text"] (aq gI):=iT<|by decide
abbrev mI:Stmt:=top 58
abbrev qO:cn:=["_law_script","_law_k","_law_state","_law_cell_here"]
def t6:aN qO ["_law_script","_law_k"] (aq mI):=iT<|by decide
abbrev jq:Stmt:=top 59
abbrev l7:cn:=["_law_cell_here","_law_many","_law_found","_law_state","_law_digits","_law_k"]
def pG:aN l7 ["_law_cell_here","_law_many"] (aq jq):=iT<|by decide
abbrev mE:Stmt:=top 60
abbrev qJ:cn:=["_law_state"]
def tX:aN qJ ["_law_state"] (aq mE):=iT<|by decide
abbrev iF:Stmt:=top 61
abbrev nj:cn:=["_law_state","_law_deep","_law_x","_law_tokens"]
def lK:aN nj ["_law_state","_law_deep"] (aq iF):=iT<|by decide
abbrev oF:Stmt:=top 62
abbrev tf:cn:=["_law_state","_law_deep","_law_tokens","_law_turn"]
def p0:aN tf ["_law_state","_law_deep"] (aq oF):=iT<|by decide
abbrev jm:Stmt:=top 63
abbrev lZ:cn:=["_law_state","_law_deep","_law_x","_law_more","_law_tokens"]
def kC:aN lZ ["_law_state","_law_deep"] (aq jm):=iT<|by decide
abbrev j0:Stmt:=top 64
abbrev ni:cn:=["_law_tokens","_law_xs","_law_signs","_law_text_here","_law_k","_law_blanks"]
def qb:aN ni ["_law_tokens","_law_xs"] (aq j0):=iT<|by decide
abbrev cV:Stmt:=top 65
abbrev jy:cn:=["_law_text_here","_law_found","_law_at","_law_signs","_law_end"]
def sg:aN jy ["_law_text_here"] (aq cV):=iT<|by decide
abbrev ik:Stmt:=top 66
abbrev jR:cn:=["_law_mark_here"]
def my:aN jR ["_law_mark_here"] (aq ik):=iT<|by decide
abbrev mH:Stmt:=top 67
abbrev qM:cn:=["_law_marks_here","_law_at"]
def t5:aN qM ["_law_marks_here","_law_at"] (aq mH):=iT<|by decide
abbrev mG:Stmt:=top 68
abbrev qL:cn:=["_law_marks_here","_law_first","_law_last","_law_many","_law_most","_law_mark_here"]
def t4:aN qL ["_law_marks_here","_law_first","_law_last"] (aq mG):=iT<|by decide
abbrev ij:Stmt:=top 69
abbrev jQ:cn:=["_law_marks_here","_law_at","_law_mark_here","_law_tree","_law_end"]
def mx:aN jQ ["_law_marks_here","_law_at"] (aq ij):=iT<|by decide
abbrev fz:Stmt:=top 70
abbrev iW:cn:=["_law_marks_here","_law_at","_law_many","_law_tree","_law_end","_law_mark_here"]
def kP:aN iW ["_law_marks_here","_law_at"] (aq fz):=iT<|by decide
abbrev cq:Stmt:=top 71
abbrev il:cn:=["_law_marks_here","_law_at","_law_tree","_law_end","_law_more"]
def mw:aN il ["_law_marks_here","_law_at"] (aq cq):=iT<|by decide
abbrev cp:Stmt:=top 72
abbrev iS:cn:=["_law_marks_here","_law_at","_law_tree","_law_end","_law_word","_law_more"]
def jH:aN iS ["_law_marks_here","_law_at"] (aq cp):=iT<|by decide
abbrev j6:Stmt:=top 73
abbrev nq:cn:=["_law_tree","_law_one","_law_size","_law_turn","_law_other"]
def lL:aN nq ["_law_tree"] (aq j6):=iT<|by decide
abbrev jZ:Stmt:=top 74
abbrev nh:cn:=["_law_tokens","_law_xs","_law_some","_law_found","_law_k","_law_at","_law_mark_here","_law_way"]
def qa:aN nh ["_law_tokens","_law_xs"] (aq jZ):=iT<|by decide
abbrev mD:Stmt:=top 75
abbrev qI:cn:=["_law_cell_here","_law_xs","_law_tokens","_law_way","_law_many","_law_some","_law_text_here","_law_at","_law_signs"]
def tW:aN qI ["_law_cell_here"] (aq mD):=iT<|by decide
abbrev mF:Stmt:=top 76
abbrev qK:cn:=["_law_marks_here","_law_at","_law_one","_law_middle","_law_other","_law_end"]
def tY:aN qK ["_law_marks_here","_law_at"] (aq mF):=iT<|by decide
abbrev du:Stmt:=top 77
abbrev iO:cn:=["_law_marks_here","_law_at","_law_heads","_law_size","_law_found","_law_end","_law_one","_law_middle","_law_word","_law_other","_law_head"]
def lJ:aN iO ["_law_marks_here","_law_at"] (aq du):=iT<|by decide
abbrev oG:Stmt:=top 78
abbrev tu:cn:=["_law_text_here","_law_marks_here","_law_words","_law_runs","_law_found","_law_end"]
def vw:aN tu ["_law_text_here"] (aq oG):=iT<|by decide
abbrev jn:Stmt:=top 79
abbrev pc:cn:=["_law_found","_law_bounds_here"]
def mU:aN pc ["_law_found"] (aq jn):=iT<|by decide
abbrev jo:Stmt:=top 80
abbrev pe:cn:=["_law_saying_here","_law_signs"]
def mV:aN pe ["_law_saying_here"] (aq jo):=iT<|by decide
abbrev jp:Stmt:=top 81
abbrev l6:cn:=["_law_thing","_law_caught","_law_found","e","_law_others"]
def pF:aN l6 ["_law_thing"] (aq jp):=iT<|by decide
abbrev kX:Stmt:=top 82
abbrev ph:cn:=["_law_text_here","_law_found","_law_word","_law_told"]
def se:aN ph ["_law_text_here"] (aq kX):=iT<|by decide
abbrev w8:Stmt:=top 83
abbrev KJ:cn:=["_law_script","_law_cell_here","_law_x","_law_thing","_law_many"]
def Oi:aN KJ ["_law_script"] (aq w8):=iT<|by decide
abbrev iG:Stmt:=RH<|top 31
def w6:aN ["self","tokens"] ["self","tokens"] (aq iG):=iT<|by decide
def pp(ds:aM)(d:D):Prop:=∃f:bR,ds=[cZ f]/\f.length<1000/\d=cZ (f.map λx=>-x)
def xu:∀ds d,pp ds d->ds.length=1:=by rintro _ _ ⟨a,rfl,_⟩;rfl
def Aw{n:Nat}(h:n<1000):n<sizeLine:=yn h<|by decide
def B6(h:cG P w K mg base k oW kS X)(VQ:mg "tuple"=none):Go X oW kS pp:=by rintro ds d ⟨f,rfl,hf,rfl⟩;have t:=h.at';haveI:=h.VR;have bl:=h.bt VQ;refine az<|bj<|jr t bl<|XC.eq (VD.toQ (jt (rs:=(f.map D.int).map λd=>match d with |.int i=>.int (-i) |d=>d) t ["f","number"] (Hy rfl) (BH<|aa t 0) (by rw[ai];exact Aw hf) λX' cx=>?_)) ?_;have t':=cx.at';refine VX.all (λd=>[.val<|cZ f,.val d]) _ _ _ (λd hd=>cD t' 1) (λd hd e he=>cD t' 1) λd hd=>?_;obtain⟨i,_,rfl⟩:=List.mem_map.mp hd;exact kF<|aa t' 1 rfl;rw[dP,dP];rfl
def uO{i:Nat}{α:Type}{xs:List α}{x:α}(h:xs[i]?=some x):xs.take (i+1)=xs.take i++[x]:=by rw[jF,h];rfl
def xT(s:Int)(xs:bR):Int:=xs.foldl (λs x=>(s*69621+x)%2147483647) s
def vI(ns:bR)(j:Int):Int:=if j<ns.length then ns.getD j.toNat 0 else xT (48271*(j*j+7*j+11)%2147483647)<|og ns none<|some 3
def qS(ds:aM)(d:D):Prop:=∃(ns:bR)(j:Int),ds=[.XF ns,.int j]/\0<=j/\j<1000/\d=.int (vI ns j)
def zk:∀ds d,qS ds d->ds.length=2:=by rintro _ _ ⟨a,b,rfl,_⟩;rfl
def Qa(s0:Int):Nat->Int|0=>s0|i+1=>(Qa s0 i*(Qa s0 i%65521+40487)+7*(i:Int)+5)%1999999973
def Pu(d0:Int):Nat->Int|0=>d0|i+1=>Pu d0 i / 1000000
def O5(s0 d0:Int)(i:Nat):Int:=if Pu d0 i>0 then Pu d0 i%1000000 else Qa s0<|i+1
def tS(c:Int):Int:=(c%1999999973+31)*765432101%1999999973
def rP(c:Int):Int:=if c<0\/c≥10 ^ 18 then c.natAbs else 0
def lO(c:Int)(n:Nat):bR:=(List.range n).map<|O5 (tS c)<|rP c
def uT(c:Int)(n:Nat):(lO c n).length=n:=by simp[lO]
def jA(ds:aM)(d:D):Prop:=∃(c:Int)(n:Nat),ds=[.int c,.int n]/\n<1000/\d=ja (lO c n)
def u4:∀ds d,jA ds d->ds.length=2:=by rintro _ _ ⟨a,b,rfl,_⟩;rfl
def nR{i:Nat}(h:(fu 0 n)[i]?=some d):i<n/\d=.int (i:Int):=by unfold fu at h;rw[List.getElem?_map]at h;by_cases hi:i<n;rw[List.getElem?_range hi]at h;cases h;exact⟨hi,by show D.int (0+(i:Int))=_;rw[yt]⟩;rw[List.getElem?_eq_none<|by simpa using hi]at h;cases h
def Dv(h:cG P w K mg base k qO mI X)(Vw:mg "len"=none):Go X qO mI qS:=by
 rintro ds d ⟨ns,j,rfl,h0,h1,rfl⟩;have t:=h.at';haveI:=h.VR;have bl:=h.bt Vw;by_cases hj:j<ns.length;refine dC<|dA (Vr.eq (io (aa t 1)<|eC t bl<|Vp.qs<|aa t 0) ?_)<|az<|bj<|br (Vp.qs<|aa t 0) (aa t 1) ?_;rw[ai];exact ar hj;have hn:j.toNat<ns.length:=by lia
 rw[Ce h0 rfl hn];unfold vI;rw[ax hj,List.getD_eq_getElem?_getD,List.getElem?_eq_getElem hn];rfl;refine au (cj (Vr.eq (io (aa t 1)<|eC t bl<|Vp.qs<|aa t 0) ?_) bQ) ?_;rw[ai];exact aj hj;refine au (bg t 2<|bJ (js ah (bB (bB (js (aa t 1) (aa t 1)<|lP (by lia)<|by lia)<|js ah (aa t 1)<|lP (by decide)<|by decide) ah)<|lP (by decide)<|by decide) ah)<|au (W1:=[.val<|.XF ns,.val<|.int j,.val<|.int<|vI ns j,.un]) (mC t (qz<|Vp.eq (VD.V5<|fZ (Vp.qs<|aa t 0) eL<|c9 ah)<|by rw[uA]) ?_) (az<|bj<|aa t 2);refine VU.Wf (λi=>[.val<|.XF ns,.val<|.int j,.val<|.int<|xT (48271*(j*j+7*j+11)%2147483647)<|(og ns none<|some 3).take i,.un]) (λi d hi=>?_) rfl ?_;rw[List.getElem?_map]at hi;cases e:(og ns none<|some 3)[i]? with
 |none=>rw[e]at hi;cases hi
 |some x=>
  rw[e]at hi;cases hi;refine⟨_,bq t 3,Vt.weak (az<|bg t 2<|bJ (bB (js (aa t 2) ah<|uV (by decide)<|by decide)<|aa t 3) ah) ?_⟩;have e2:xT (48271*(j*j+7*j+11)%2147483647) ((og ns none<|some 3).take<|i+1)=(xT (48271*(j*j+7*j+11)%2147483647) ((og ns none<|some 3).take i)*69621+x)%2147483647:=by rw[uO e];unfold xT;rw[List.foldl_append];rfl
  rw[e2];exact .keep<|.keep<|.keep<|.forget .nil
 rw[ai,bW];unfold vI;rw[av hj]
theorem yc(h:cG P w K mg base k l7 jq X)(VJ:mg "range"=none)(zC9:mg "abs"=none)(Wl:mg "int"=none):Go X l7 jq jA:=by
 rintro ds d ⟨c,n,rfl,hn,rfl⟩;have t:=h.at';haveI:=h.VR;have b1:=h.bt VJ;have b2:=h.bt zC9;have b3:=h.bt Wl;refine au (jl t 2<|bK af)<|au (bg t 3<|bJ (js (bB (bJ (aa t 0) ah<|by decide) ah) ah<|uV (by decide)<|by decide) ah) ?_;refine au (bg t 4 ah)<|au (W1:=[.val<|.int c,.val<|.int n,.own [],.val<|.int<|tS c,.val<|.int<|rP c,.un]) ?_ ?_;by_cases h1:c<0;refine dA (W0.toT<|va<|Vr.eq (io (aa t 0) ah)<|ar h1)<|Vt.eq (az<|bg t 4<|Ke t b2<|aa t 0) ?_;have e:rP c=c.natAbs:=by unfold rP;rw[ax<|.inl h1]
 rw[e];rfl;by_cases h2:c≥10 ^ 18;refine dA (W0.toT<|m4 (Vr.eq (io (aa t 0) ah)<|aj h1)<|qp<|Vr.eq (NH (aa t 0)<|xL ah ah ⟨by decide,by decide,by decide⟩)<|ar h2)<|Vt.eq (az<|bg t 4<|Ke t b2<|aa t 0) ?_;have e:rP c=c.natAbs:=by unfold rP;rw[ax<|.inr h2]
 rw[e];rfl;refine cj (W0.toT<|m4 (Vr.eq (io (aa t 0) ah)<|aj h1)<|qp<|Vr.eq (NH (aa t 0)<|xL ah ah ⟨by decide,by decide,by decide⟩)<|aj h2)<|Vt.eq bQ ?_;have e:rP c=0:=by unfold rP;rw[av<|by rintro(z |z);exact h1 z;exact h2 z]
 rw[e];rfl;refine au (mC t (jO t b1 (aa t 1) (by lia)<|by lia)<|VU.Wf (W1:=[.val<|.int c,.val<|.int n,.own<|(lO c n).map D.int,.val<|.int<|Qa (tS c) n,.val<|.int<|Pu (rP c) n,.un]) (λi=>[.val<|.int c,.val<|.int n,.own<|(lO c i).map D.int,.val<|.int<|Qa (tS c) i,.val<|.int<|Pu (rP c) i,.un]) (λi d hi=>?_) rfl ?_)<|fJ 2 rfl<|az<|bj<|aa t 2;obtain⟨hin,rfl⟩:=nR hi;refine⟨_,bq t 5,Vt.weak (au (bg t 3<|bJ (bB (bB (js (aa t 3) (bB (bJ (aa t 3) ah<|by decide) ah)<|uV (by lia)<|by lia)<|js ah (aa t 5)<|lP (by decide)<|by decide) ah) ah)<|au (gz t 2 rfl (d:=.int<|O5 (tS c) (rP c) i) (br (VD.toQ<|bK<|ac (aa t 3)<|ac (bJ (aa t 4) ah) af) (oN t b3<|Rx (aa t 4) ah) ?_) ?_)<|az<|bg t 4<|iR t (aa t 4) ah) ?_⟩;by_cases hd:0<Pu (rP c) i;have e:O5 (tS c) (rP c) i=Pu (rP c) i%1000000:=by unfold O5;rw[ax hd]
 rw[e,ar hd];rfl;have e:O5 (tS c) (rP c) i=Qa (tS c) (i+1):=by unfold O5;rw[av hd]
 rw[e,aj hd];rfl;rw[ai,uT];exact Aw (by lia);have e:lO c (i+1)=lO c i++[O5 (tS c) (rP c) i]:=by unfold lO;rw[M5,aE];rfl
 rw[e,aE];exact .keep<|.keep<|.keep<|.keep<|.keep<|.forget .nil;have e:(fu 0 (n:Int).toNat).length=n:=by simp[fu]
 rw[e]
def i6(xs:bR):bR:=(xs.reverse.dropWhile (·==0)).reverse
def nN(xs:bR):i6 (xs++[0])=i6 xs:=by simp[i6]
def uM{a:Int}(xs:bR)(h:a≠0):i6 (xs++[a])=xs++[a]:=by simp[i6,h]
def tP(xs:bR):(i6 xs).length<=xs.length:=by unfold i6;rw[fW];have:=(yq (l:=xs.reverse) (p:=λx=>x==0)).length_le;rwa[fW]at this
def Lb(xs:bR):i6 xs=[]\/∃ys a,i6 xs=ys++[a]/\a≠0:=by induction h:xs.length generalizing xs with|zero=>left;rw[bx h];rfl|succ n ih=>rcases gx xs with e |⟨ys,y,e⟩;subst e;left;rfl;rw[gy]at e;subst e;by_cases hy:y=0;subst hy;rw[nN];exact ih ys (by simpa using h);right;exact⟨ys,y,uM ys hy,hy⟩
def wr(f g:bR)(i:Nat)(acc:bR):Nat->bR|0=>acc|j+1=>(wr f g i acc j).set (i+j)<|(wr f g i acc j).getD (i+j) 0+f.getD i 0*g.getD j 0
def sE(f g:bR):Nat->bR|0=>List.replicate (f.length+g.length) 0|i+1=>wr f g i (sE f g i) g.length
def rh(f g:bR)(i:Nat)(acc:bR):∀j,(wr f g i acc j).length=acc.length|0=>rfl|j+1=>by rw[wr,cy,rh]
def xl(f g:bR):∀i,(sE f g i).length=f.length+g.length|0=>by rw[sE,jB]|i+1=>by rw[sE,rh,xl]
def ji(f g:bR):bR:=i6<|sE f g f.length
def wU(f g:bR):(ji f g).length<=f.length+g.length:=by have:=tP<|sE f g f.length;rwa[xl]at this
def Mi{xs:bR}{j:Nat}(h:j<xs.length):xs.getD j 0=xs[j]:=by rw[List.getD_eq_getElem?_getD,List.getElem?_eq_getElem h];rfl
def yd{xs:bR}{n:Nat}(h:n<xs.length):me (xs.map D.int) (n:Int)=some (.int<|xs.getD n 0):=by rw[Ce (by lia) (bv n) h,Mi h]
def Xc(f:bR):Prop:=f=[]\/∃ys a,f=ys++[a]/\a≠0
def Ix(xs:bR):xs.take (i6 xs).length=i6 xs:=by induction h:xs.length generalizing xs with|zero=>rw[bx h];rfl|succ n ih=>rcases gx xs with e |⟨ys,y,e⟩;subst e;rfl;rw[gy]at e;subst e;by_cases hy:y=0;subst hy;rw[nN];have q:=ih ys (by simpa using h);rwa[K2<|tP ys];rw[uM ys hy,bW]
theorem De(R:Nat->cE)(xs:bR)(h1:Vr X (R 0) c false)(h2:∀m(h:m<xs.length),Vr X (R<|m+1) c<|decide<|xs[m]=0)(h3:∀m,Vt X (R<|m+1) body<|.nx<|R m):∀m,m<=xs.length->∃n,Wv X c body n (R m) (.nx<|R (i6<|xs.take m).length)
 |0,_=>⟨0,.stop h1⟩
 |m+1,hm=>by
  have V1:=hm;have e:=uO<|List.getElem?_eq_getElem V1;by_cases hz:xs[m]=0;let⟨n,q⟩:=De R xs h1 h2 h3 m (by lia);refine⟨n+1,.step (Vr.eq (h2 m V1)<|ar hz) (h3 m) ?_⟩;rwa[e,hz,nN];refine⟨0,?_⟩;rw[e,uM _ hz];have el:(xs.take m++[xs[m]]).length=m+1:=by rw[<-e,dR];lia
  rw[el];exact .stop<|Vr.eq (h2 m V1)<|aj hz
def uG(ds:aM)(d:D):Prop:=∃xs:bR,ds=[ja xs]/\xs.length<1000/\d=cZ (i6 xs)
def En:∀ds d,uG ds d->ds.length=1:=by rintro _ _ ⟨a,rfl,_⟩;rfl
def si(f g:bR):bR:=i6 ((List.range<|max f.length g.length).map λi=>f.getD i 0+g.getD i 0)
def pk(ds:aM)(d:D):Prop:=∃f g:bR,ds=[cZ f,cZ g]/\f.length<1000/\g.length<1000/\d=cZ (si f g)
def Bo:∀ds d,pk ds d->ds.length=2:=by rintro _ _ ⟨a,b,rfl,_⟩;rfl
def qg(f g:bR):Nat->bR|0=>List.replicate (f.length+g.length-1) 0|i+1=>wr f g i (qg f g i) g.length
def ud(f g:bR):∀i,(qg f g i).length=f.length+g.length-1|0=>by rw[qg,jB]|i+1=>by rw[qg,rh,ud]
theorem C5(f g:bR)(i:Nat)(acc:bR)(z:Int):∀j,i+j<=acc.length->wr f g i (acc++[z]) j=wr f g i acc j++[z]
 |0,_=>rfl
 |j+1,h=>by
  have hl:i+j<(wr f g i acc j).length:=by rw[rh];lia
  rw[wr,wr,C5 f g i acc z j<|by lia,List.set_append_left _ _ hl];have e:(wr f g i acc j++[z]).getD (i+j) 0=(wr f g i acc j).getD (i+j) 0:=by rw[List.getD_eq_getElem?_getD,List.getD_eq_getElem?_getD,List.getElem?_append_left hl]
  rw[e]
theorem AG(f g:bR)(hf:f≠[])(hg:g≠[]):∀i,i<=f.length->sE f g i=qg f g i++[0]|0,_=>by have h1:=List.length_pos_iff.mpr hf;rw[sE,qg,show f.length+g.length=(f.length+g.length-1)+1 by lia,Vh];rfl|i+1,h=>by rw[sE,qg,AG f g hf hg i<|by lia,C5];rw[ud];lia
def DX{f g:bR}(hf:f≠[])(hg:g≠[]):i6 (qg f g f.length)=ji f g:=by unfold ji;rw[AG f g hf hg _<|ao _,nN]
def uL:∀n,i6 (List.replicate n (0:Int))=[]|0=>rfl|n+1=>by rw[Vh,nN,uL]
def G5(g:bR):ji [] g=[]:=by unfold ji;rw[jf,sE];exact uL _
def CL(f:bR):∀i,sE f [] i=List.replicate f.length 0|0=>rfl|i+1=>by rw[sE,jf,wr,CL]
def DY(f:bR):ji f []=[]:=by unfold ji;rw[CL];exact uL _
def GK{x:Int}(h:x.natAbs<2 ^ k):Builtin.Int.intBits x<=k:=by
 unfold Builtin.Int.intBits;split;exact bO _;rename_i h0;have:x.natAbs≠0:=by intro z;apply h0;simp at z ⊢;lia
 exact(Nat.log2_lt this).mpr h
def rg{x y:Int}{k:Nat}(hk:k<=1000000)(hx:x.natAbs<2 ^ k)(hy:y.natAbs<2 ^ k):IntMulOk x y:=.of_bits (aJ (GK hx)<|aJ hk<|by decide)<|aJ (GK hy)<|aJ hk<|by decide
def qP(ds:aM)(d:D):Prop:=∃f g:bR,ds=[cZ f,cZ g]/\f.length<100/\g.length<100/\(∀x∈f,∀y∈g,IntMulOk x y)/\d=cZ (ji f g)
def zb:∀ds d,qP ds d->ds.length=2:=by rintro _ _ ⟨a,b,rfl,_⟩;rfl
theorem Do(h:cG P w K mg base k qG ki X)(Yk:mg "enumerate"=none)(Vw:mg "len"=none)(c1:Callee X "row_of" uG):Go X qG ki qP:=by
 rintro ds d ⟨f,g,rfl,hf,hg,hb,rfl⟩;have t:=h.at';haveI:=h.VR;have b1:kN X (aq ki) "enumerate" (.type "enumerate"):=kL (by rwa[h.V3]) rfl rfl;have b2:=h.bt Vw;by_cases h1:f=[];·refine dC<|dA (W0.toT<|va<|kH t (Vp.p<|aa t 0) (Vp.p (d:=cZ [])<|aC af) (eI _) (eI _)<|by rw[rD,h1];rfl)<|az<|bj<|Vp.eq (aC af) ?_;rw[h1,G5];rfl
 by_cases h2:g=[];·refine dC<|dA (W0.toT<|m4 (kH t (Vp.p<|aa t 0) (Vp.p (d:=cZ [])<|aC af) (eI _) (eI _)<|by rw[rD,aj h1])<|qp<|kH t (Vp.p<|aa t 1) (Vp.p (d:=cZ [])<|aC af) (eI _) (eI _)<|by rw[rD,h2];rfl)<|az<|bj<|Vp.eq (aC af) ?_;rw[h2,DY];rfl
 refine au (cj (W0.toT<|m4 (kH t (Vp.p<|aa t 0) (Vp.p (d:=cZ [])<|aC af) (eI _) (eI _)<|by rw[rD,aj h1])<|qp<|kH t (Vp.p<|aa t 1) (Vp.p (d:=cZ [])<|aC af) (eI _) (eI _)<|by rw[rD,aj h2]) bQ) ?_;have en:((f.length:Int)+g.length-1).toNat=f.length+g.length-1:=by lia
 refine au (jl (xs:=(qg f g 0).map D.int) t 2<|VD.eq (BG (VD.V5<|bK<|ac ah af) (Vp.eq (jM (bB (eC t b2<|Vp.qt<|aa t 0)<|eC t b2<|Vp.qt<|aa t 1) ah)<|by rw[ai,ai]) (by lia) (by lia)<|by rw[en];have:=JK;simp;lia)<|by rw[en,Ja];rfl)<|au (W1:=[.val<|cZ f,.val<|cZ g,.own<|(qg f g f.length).map D.int,.un,.un,.un,.un]) (mC t (wx t b1<|aa t 0)<|VU.Wf (λi=>[.val<|cZ f,.val<|cZ g,.own<|(qg f g i).map D.int,.un,.un,.un,.un]) (λi d hi=>?_) rfl ?_) ?_
 ·obtain⟨e,he,rfl⟩:=n8 hi;rw[List.getElem?_map]at he;cases hx:f[i]? with
  |none=>rw[hx]at he;cases he
  |some x=>
  rw[hx]at he;cases he;have hi':i<f.length:=(List.getElem?_eq_some_iff.mp hx).1;have ex:f.getD i 0=x:=by rw[List.getD_eq_getElem?_getD,hx];rfl
  refine⟨_,mO t 3 4,Vt.weak (Wp:=[.val<|cZ f,.val<|cZ g,.own<|(qg f g<|i+1).map D.int,.val<|.int i,.val<|.int x,.un,.un]) (az<|mC t (wx t b1<|aa t 1)<|VU.Wf (λj=>[.val<|cZ f,.val<|cZ g,.own<|(wr f g i (qg f g i) j).map D.int,.val<|.int i,.val<|.int x,.un,.un]) (λj d hj=>?_) rfl ?_)<|.keep<|.keep<|.keep<|.forget<|.forget<|.keep<|.keep .nil⟩
  ·obtain⟨e,he,rfl⟩:=n8 hj;rw[List.getElem?_map]at he;cases hy:g[j]? with
   |none=>rw[hy]at he;cases he
   |some y=>
   rw[hy]at he;cases he;have hj':j<g.length:=(List.getElem?_eq_some_iff.mp hy).1;have ey:g.getD j 0=y:=by rw[List.getD_eq_getElem?_getD,hy];rfl
   have hl:(wr f g i (qg f g i) j).length=f.length+g.length-1:=by rw[rh,ud]
   have V1:i+j<(wr f g i (qg f g i) j).length:=by lia
   refine⟨_,mO t 5 6,Vt.weak (az<|G9 (j:=i+j) (u:=(wr f g i (qg f g i) j).getD (i+j) 0) t 2 C4 rfl (bB (aa t 3)<|aa t 5) ?_ ?_ (js (aa t 4) (aa t 6)<|hb x (List.mem_of_getElem? hx) y<|List.mem_of_getElem? hy) trivial) ?_⟩;·rw[ai];exact Ep (by lia) (by lia)<|by lia
   ·rw[List.getElem?_map,List.getD_eq_getElem?_getD,List.getElem?_eq_getElem V1];rfl
   ·rw[wr,List.map_set,ex,ey];exact .keep<|.keep<|.keep<|.keep<|.keep<|.forget<|.forget .nil
  ·rw[n4,ai];rfl
 ·rw[n4,ai]
 ·refine fJ 2 rfl<|az<|bj<|Vp.eq (aB t c1 (ac (aa t 2) af) ⟨qg f g f.length,rfl,by rw[ud];lia,rfl⟩) ?_;rw[DX h1 h2]
def AE(f g:bR):(si f g).length<=max f.length g.length:=by have:=tP ((List.range<|max f.length g.length).map λi=>f.getD i 0+g.getD i 0);rwa[ai,gU]at this
def AK{g:bR}{i:Nat}(h:g.length<=i):g.getD i 0=0:=by rw[List.getD_eq_getElem?_getD,List.getElem?_eq_none h];rfl
def Ar(xs:bR)(i:Nat):(i6 xs).getD i 0=xs.getD i 0:=by
 have key:∀ys:bR,∀i,(ys.dropWhile (·==0)).reverse.getD i 0=ys.reverse.getD i 0:=by
  intro ys;induction ys with
  |nil=>intro i;rfl
  |cons y ys ih=>
   intro i;by_cases hy:y=0;subst hy;have:(0::ys).dropWhile (·==0)=ys.dropWhile (·==0):=by simp[List.dropWhile]
   rw[this,ih i,nI,List.getD_eq_getElem?_getD,List.getD_eq_getElem?_getD];by_cases hi:i<ys.reverse.length;rw[List.getElem?_append_left hi];rw[List.getElem?_append_right<|by lia,List.getElem?_eq_none<|by lia];cases z:i-ys.reverse.length with|zero=>rfl|succ n=>rfl
   have:(y::ys).dropWhile (·==0)=y::ys:=by rw[List.dropWhile_cons_of_neg<|by simpa using hy]
   rw[this]
 have:=key xs.reverse i;rwa[List.reverse_reverse]at this
def N8(xs:bR):Xc (i6 xs):=Lb xs
def gc:Nat->(Nat->Int)->Int|0,_=>0|n+1,h=>gc n h+h n
def sy(h:Nat->Int):∀n,gc (n+1) h=h 0+gc n (λi=>h<|i+1)|0=>by simp[gc]|n+1=>by rw[gc,sy h n,gc];lia
def tR(h g:Nat->Int):∀n,gc n (λi=>h i+g i)=gc n h+gc n g|0=>rfl|n+1=>by rw[gc,tR h g n,gc,gc];lia
def fj{h g:Nat->Int}:∀n,(∀i,i<n->h i=g i)->gc n h=gc n g|0,_=>rfl|n+1,e=>by rw[gc,gc,fj n λi hi=>e i<|by lia,e n<|by lia]
def nO:∀n,gc n (λ_=>0)=0|0=>rfl|n+1=>by rw[gc,nO n];rfl
def rs:bR->(Nat->Int)->Int|[],_=>0|a::f,ψ=>a*ψ 0+rs f (λi=>ψ<|i+1)
def jK:∀(f:bR)(n:Nat)(ψ:Nat->Int),f.length<=n->rs f ψ=gc n (λi=>f.getD i 0*ψ i)
 |[],n,ψ,_=>by exact((fj n λi _=>by simp).trans<|nO n).symm|a::f,0,ψ,h=>by simp at h
 |a::f,n+1,ψ,h=>by rw[rs,sy,jK f n _<|by simpa using h];rfl
theorem IV:∀(f:bR)(i:Nat),rs f (λj=>if j=i then 1 else 0)=f.getD i 0
 |[],i=>by simp[rs]
 |a::f,0=>by
  have e:rs f (λj=>if j+1=0 then 1 else 0)=0:=by have:(λj:Nat=>if j+1=0 then(1:Int)else 0)=λ_=>0:=funext λj=>av (by lia);rw[this,jK f f.length _<|ao _];exact(fj _ λi _=>by simp).trans<|nO _
  rw[rs,e];simp
 |a::f,i+1=>by
  have e:(λj:Nat=>if j+1=i+1 then(1:Int)else 0)=λj=>if j=i then 1 else 0:=funext λj=>by by_cases h:j=i;rw[ax h,ax<|by lia];rw[av h,av<|by lia]
  rw[rs,e,IV f i];simp
def IW{f g:bR}(h:∀i,f.getD i 0=g.getD i 0)(ψ:Nat->Int):rs f ψ=rs g ψ:=by rw[jK f (max f.length g.length) ψ<|by lia,jK g (max f.length g.length) ψ<|by lia];exact fj _ λi _=>by rw[h i]
def A9(ψ:Nat->Int)(h:∀i,ψ i=0)(f:bR):rs f ψ=0:=by rw[jK f f.length ψ<|ao _];exact(fj _ λi _=>by rw[h i];simp).trans<|nO _
def IS:∀(f:bR)(m:Nat)(v:Int)(ψ:Nat->Int),m<f.length->rs (f.set m v) ψ=rs f ψ+(v-f.getD m 0)*ψ m
 |[],m,v,ψ,h=>by simp at h|a::f,0,v,ψ,_=>by show v*ψ 0+_=a*ψ 0+_+(v-a)*ψ 0;rw[Int.sub_mul];lia
 |a::f,m+1,v,ψ,h=>by show a*ψ 0+rs (f.set m v) _=a*ψ 0+rs f _+(v-f.getD m 0)*ψ (m+1);rw[IS f m v _<|by simpa using h];lia
def LA(ψ χ:Nat->Int):∀(f:bR),rs f (λi=>ψ i+χ i)=rs f ψ+rs f χ:=λf=>by rw[jK f f.length _<|ao _,jK f f.length _<|ao _,jK f f.length _<|ao _,<-tR];exact fj _ λi _=>by rw[Int.mul_add]
abbrev Bd:=List bR
def Dg(b:Bd)(i k:Nat):Int:=(b.getD k []).getD i 0
def bs:Bd->(Nat->Nat->Int)->Int|[],_=>0|r::b,φ=>rs r (λi=>φ i 0)+bs b (λi k=>φ i<|k+1)
def v5(i k:Nat):Nat->Nat->Int:=λa c=>if a=i/\c=k then 1 else 0
def wD:∀(b:Bd)(φ:Nat->Nat->Int),(∀i k,φ i k=0)->bs b φ=0|[],_,_=>rfl|r::b,φ,h=>by rw[bs,A9 _ λi=>h i 0,wD b _ λi k=>h i<|k+1];rfl
theorem EM:∀(b:Bd)(i k:Nat),bs b (v5 i k)=Dg b i k
 |[],i,k=>by simp[bs,Dg]
 |r::b,i,0=>by
  rw[bs,wD b (λa c=>v5 i 0 a<|c+1) λa c=>av<|by lia];have e:(λa:Nat=>v5 i 0 a 0)=λa=>if a=i then 1 else 0:=funext λa=>by unfold v5;by_cases h:a=i;rw[ax ⟨h,rfl⟩,ax h];rw[av λz=>h z.1,av h]
  rw[e,IV];simp[Dg]
 |r::b,i,k+1=>by
  have e:rs r (λa=>v5 i (k+1) a 0)=0:=A9 _ (λa=>av<|by lia) r;have e2:(λa c:Nat=>v5 i (k+1) a<|c+1)=v5 i k:=funext λa=>funext λc=>by unfold v5;by_cases h:a=i/\c=k;rw[ax h,ax ⟨h.1,by lia⟩];rw[av h,av λz=>h ⟨z.1,by lia⟩]
  rw[bs,e,e2,EM b i k];simp[Dg]
def Ky:∀(b:Bd)(m:Nat)(r:bR)(φ:Nat->Nat->Int),m<b.length->bs (b.set m r) φ=bs b φ+(rs r (λi=>φ i m)-rs (b.getD m []) (λi=>φ i m))
 |[],m,r,φ,h=>by simp at h|a::b,0,r,φ,_=>by show rs r _+_=rs a _+_+(rs r _-rs a _);lia
 |a::b,m+1,r,φ,h=>by show rs a _+bs (b.set m r) _=rs a _+bs b _+(rs r _-rs (b.getD m []) _);rw[Ky b m r _<|by simpa using h];lia
def qB:∀(b:Bd)(n:Nat)(φ:Nat->Nat->Int),b.length<=n->bs b φ=gc n (λk=>rs (b.getD k []) λi=>φ i k)
 |[],n,φ,_=>by exact((fj n λi _=>by simp[rs]).trans<|nO n).symm|r::b,0,φ,h=>by simp at h
 |r::b,n+1,φ,h=>by rw[bs,sy,qB b n _<|by simpa using h];rfl
abbrev bz(b:Bd):D:=.tup<|b.map cZ
abbrev IY(b:Bd):D:=.lst<|b.map cZ
def gV(xs:Bd):Bd:=(xs.reverse.dropWhile (·==[])).reverse
def ot(xs:Bd):gV (xs++[[]])=gV xs:=by simp[gV]
def ou{a:bR}(xs:Bd)(h:a≠[]):gV (xs++[a])=xs++[a]:=by simp[gV,h]
def uN(xs:Bd):(gV xs).length<=xs.length:=by unfold gV;rw[fW];have:=(yq (l:=xs.reverse) (p:=λx=>x==[])).length_le;rwa[fW]at this
def G4(xs:Bd):xs.take (gV xs).length=gV xs:=by induction h:xs.length generalizing xs with|zero=>rw[bx h];rfl|succ n ih=>rcases gx xs with e |⟨ys,y,e⟩;subst e;rfl;rw[gy]at e;subst e;by_cases hy:y=[];subst hy;rw[ot];have q:=ih ys (by simpa using h);rwa[K2<|uN ys];rw[ou ys hy,bW]
def Iy(xs:Bd):gV xs=[]\/∃ys a,gV xs=ys++[a]/\a≠[]:=by induction h:xs.length generalizing xs with|zero=>left;rw[bx h];rfl|succ n ih=>rcases gx xs with e |⟨ys,y,e⟩;subst e;left;rfl;rw[gy]at e;subst e;by_cases hy:y=[];subst hy;rw[ot];exact ih ys (by simpa using h);right;exact⟨ys,y,ou ys hy,hy⟩
def zq(ys:Bd)(i:Nat):(ys++[[]]).getD i []=ys.getD i []:=by rw[List.getD_eq_getElem?_getD,List.getD_eq_getElem?_getD];by_cases h:i<ys.length;rw[List.getElem?_append_left h];rw[List.getElem?_append_right<|by lia,List.getElem?_eq_none (show ys.length<=i by lia)];cases(i-ys.length)with|zero=>rfl|succ n=>rfl
def DV(xs:Bd)(i:Nat):(gV xs).getD i []=xs.getD i []:=by induction h:xs.length generalizing xs with|zero=>rw[bx h];rfl|succ n ih=>rcases gx xs with e |⟨ys,y,e⟩;subst e;rfl;rw[gy]at e;subst e;by_cases hy:y=[];subst hy;rw[ot,ih ys<|by simpa using h,zq];rw[ou ys hy]
def Hk{x:bR}(h:x∈gV xs):x∈xs:=by unfold gV at h;rw[pD]at h;have:=(yq (p:=λx=>x==[])).subset h;exact pD.mp this
theorem AQ(R:Nat->cE)(xs:Bd)(h1:Vr X (R 0) c false)(h2:∀m(h:m<xs.length),Vr X (R<|m+1) c<|decide<|xs[m]=[])(h3:∀m,Vt X (R<|m+1) body<|.nx<|R m):∀m,m<=xs.length->∃n,Wv X c body n (R m) (.nx<|R (gV<|xs.take m).length)
 |0,_=>⟨0,.stop h1⟩
 |m+1,hm=>by
  have V1:=hm;have e:=uO<|List.getElem?_eq_getElem V1;by_cases hz:xs[m]=[];let⟨n,q⟩:=AQ R xs h1 h2 h3 m (by lia);refine⟨n+1,.step (Vr.eq (h2 m V1)<|ar hz) (h3 m) ?_⟩;rwa[e,hz,ot];refine⟨0,?_⟩;rw[e,ou _ hz];have el:(xs.take m++[xs[m]]).length=m+1:=by rw[<-e,dR];lia
  rw[el];exact .stop<|Vr.eq (h2 m V1)<|aj hz
def EW{i:Int}{n:Nat}{α:Type}{g:α->D}{xs:List α}(h0:0<=i)(hn:i.toNat=n)(h:n<xs.length):me (xs.map g) i=some (g xs[n]):=by
 rw[show i=(n:Int)by lia];have e:(xs.map g)[n]?=some (g xs[n]):=by rw[List.getElem?_map,List.getElem?_eq_getElem h];rfl
 exact dJ e
def Dd{m:Nat}{α:Type}(xs:List α)(g:α->D)(h:m<=xs.length):cutD (xs.map g) none (some (m:Int))=(xs.take m).map g:=by
 unfold cutD;rw[ai];have e1:HT.VI xs.length 0 none=0:=by simp[HT.VI]
 have e2:HT.VI xs.length xs.length (some m)=m:=by simp only[HT.VI];split<;>lia
 rw[e1,e2,tH,HS,DL]
def ka(ds:aM)(d:D):Prop:=(∃xs:bR,ds=[ja xs,.int 0]/\xs.length<1000/\d=cZ (i6 xs))\/∃xs:Bd,ds=[IY xs,.tup []]/\xs.length<1000/\d=bz (gV xs)
def vR:∀ds d,ka ds d->ds.length=2:=by rintro _ _ (⟨a,rfl,_⟩ |⟨a,rfl,_⟩)<;>rfl
def rH(ds:aM)(d:D):Prop:=(∃(f:bR)(i:Nat),ds=[cZ f,.int i,.int 0]/\d=.int (f.getD i 0))\/∃(f:Bd)(i:Nat),ds=[bz f,.int i,.tup []]/\d=cZ (f.getD i [])
def CV:∀ds d,rH ds d->ds.length=3:=by rintro _ _ (⟨a,b,rfl,_⟩ |⟨a,b,rfl,_⟩)<;>rfl
def pw(ds:aM)(d:D):Prop:=∃xs:Bd,ds=[IY xs]/\xs.length<1000/\d=bz (gV xs)
def Bp:∀ds d,pw ds d->ds.length=1:=by rintro _ _ ⟨a,rfl,_⟩;rfl
def lM(f g:Bd):Bd:=gV ((List.range<|max f.length g.length).map λk=>si (f.getD k [])<|g.getD k [])
def Xy(n:Nat)(f:Bd):Prop:=f.length<n/\∀r∈f,r.length<n
def ll(ds:aM)(d:D):Prop:=∃f g:Bd,ds=[bz f,bz g]/\Xy 1000 f/\Xy 1000 g/\d=bz (lM f g)
def xA:∀ds d,ll ds d->ds.length=2:=by rintro _ _ ⟨a,b,rfl,_⟩;rfl
def ug(g:Bd):Bd:=g.map λr=>r.map λx=>-x
def kg(ds:aM)(d:D):Prop:=∃f g:Bd,ds=[bz f,bz g]/\Xy 1000 f/\Xy 1000 g/\d=bz (lM f<|ug g)
def vW:∀ds d,kg ds d->ds.length=2:=by rintro _ _ ⟨a,b,rfl,_⟩;rfl
def m3(f g:Bd)(j:Nat)(acc:Bd):Nat->Bd|0=>acc|k+1=>(m3 f g j acc k).set (j+k)<|si ((m3 f g j acc k).getD (j+k) [])<|ji (f.getD j [])<|g.getD k []
def lN(f g:Bd):Nat->Bd|0=>List.replicate (f.length+g.length-1) []|j+1=>m3 f g j (lN f g j) g.length
def um(f g:Bd)(j:Nat)(acc:Bd):∀k,(m3 f g j acc k).length=acc.length|0=>rfl|k+1=>by rw[m3,cy,um f g j acc k]
def ue(f g:Bd):∀j,(lN f g j).length=f.length+g.length-1|0=>jB|j+1=>by rw[lN,um,ue f g j]
def jj(f g:Bd):Bd:=if f=[]\/g=[]then []else gV<|lN f g f.length
def uq{xs:Bd}(i:Nat):xs.getD i []=[]\/xs.getD i []∈xs:=by rw[List.getD_eq_getElem?_getD];by_cases h:i<xs.length;right;rw[List.getElem?_eq_getElem h];exact fE _;left;rw[List.getElem?_eq_none<|by lia];rfl
def Xy.get(h:Xy n f)(h0:0<n)(i:Nat):(f.getD i []).length<n:=by rcases uq i with e |e;rwa[e];exact h.2 _ e
theorem wq{g:Bd}{acc:Bd}(hf:Xy 100 f)(hg:Xy 100 g)(j:Nat)(ha:∀r∈acc,r.length<200):∀k,∀r∈m3 f g j acc k,r.length<200
 |0,r,hr=>ha r hr
 |k+1,r,hr=>by
  rw[m3]at hr;rcases Ql hr with h |h;exact wq hf hg j ha k r h;subst h;have h1:=AE ((m3 f g j acc k).getD (j+k) [])<|ji (f.getD j [])<|g.getD k [];have h2:=wU (f.getD j [])<|g.getD k [];have h3:=hf.get (by lia) j;have h4:=hg.get (by lia) k;have h5:((m3 f g j acc k).getD (j+k) []).length<200:=by rcases uq (j+k)with e |e;rw[e];decide;exact wq hf hg j ha k _ e
  lia
def FM{g:Bd}(hf:Xy 100 f)(hg:Xy 100 g):∀j,∀r∈lN f g j,r.length<200|0,r,hr=>by rw[lN]at hr;rw[(List.mem_replicate.mp hr).2];decide|j+1,r,hr=>wq hf hg j (FM hf hg j) g.length r hr
def PZ(b:Bd):Prop:=∀r∈b,∀y∈r,y.natAbs<2 ^ 1000
def ke(ds:aM)(d:D):Prop:=∃f g:Bd,ds=[bz f,bz g]/\Xy 100 f/\Xy 100 g/\PZ f/\PZ g/\d=bz (jj f g)
def vV:∀ds d,ke ds d->ds.length=2:=by rintro _ _ ⟨a,b,rfl,_⟩;rfl
def Aa(h:cG P w K mg base k m8 jX X)(Vw:mg "len"=none)(VQ:mg "tuple"=none):Go X m8 jX ka:=by
 have t:=h.at';haveI:=h.VR;have b1:=h.bt Vw;have b2:=h.bt VQ;rintro ds d (⟨xs,rfl,hl,rfl⟩ |⟨xs,rfl,hl,rfl⟩);refine au (bg t 2<|Vp.eq (eC t b1<|Vp.ql<|aa t 0)<|by rw[ai])<|au (gp t<|De (λm=>[.val<|ja xs,.val<|.int 0,.val<|.int m]) xs ?_ (λm hm=>?_) (λm=>?_) xs.length<|ao _) (az<|bj<|Vp.eq (jr t b2<|VD.toQ<|fZ (Vp.ql<|aa t 0) eL<|c9<|aa t 2) ?_);exact W0.toT<|ut<|Vr.eq (gf (aa t 2) ah) rfl;refine W0.toT<|rj (Vr.eq (gf (aa t 2) ah)<|ar<|by lia)<|wt<|dM (br (Vp.ql<|aa t 0) (jM (aa t 2) ah) ?_)<|aa t 1;exact Ce (by lia) (by lia) hm;refine Vt.eq (az<|CA t 2 rfl ah) ?_;have e:((m+1:Nat):Int)-1=m:=by lia
 show Out.nx [_,_,.val<|.int<|((m+1:Nat):Int)-1]=_;rw[e];rw[bW,Dd xs D.int<|tP xs,Ix];refine au (bg t 2<|Vp.eq (eC t b1<|Vp.ql<|aa t 0)<|by rw[ai])<|au (gp t<|AQ (λm=>[.val<|IY xs,.val<|.tup [],.val<|.int m]) xs ?_ (λm hm=>?_) (λm=>?_) xs.length<|ao _) (az<|bj<|Vp.eq (jr t b2<|VD.toQ<|fZ (Vp.ql<|aa t 0) eL<|c9<|aa t 2) ?_);exact W0.toT<|ut<|Vr.eq (gf (aa t 2) ah) rfl;refine W0.toT<|rj (Vr.eq (gf (aa t 2) ah)<|ar<|by lia)<|wt<|kH t (Vp.p<|br (Vp.ql<|aa t 0) (jM (aa t 2) ah) ?_) (Vp.p<|aa t 1) (eI _) (eI _)<|rD _ _;exact EW (by lia) (by lia) hm;refine Vt.eq (az<|CA t 2 rfl ah) ?_;have e:((m+1:Nat):Int)-1=m:=by lia
 show Out.nx [_,_,.val<|.int<|((m+1:Nat):Int)-1]=_;rw[e];rw[bW,Dd xs cZ<|uN xs,G4]
def HG(h:cG P w K mg base k vn q8 X)(Vw:mg "len"=none):Go X vn q8 rH:=by have t:=h.at';have b1:=h.bt Vw;rintro ds d (⟨f,i,rfl,rfl⟩ |⟨f,i,rfl,rfl⟩);by_cases hi:i<f.length;exact az<|bj<|sP (Vr.eq (io (aa t 1)<|eC t b1<|Vp.qt<|aa t 0)<|ar<|by rw[ai];lia)<|br (Vp.qt<|aa t 0) (aa t 1)<|yd hi;refine az<|bj<|sQ (Vr.eq (io (aa t 1)<|eC t b1<|Vp.qt<|aa t 0)<|aj<|by rw[ai];lia)<|Vp.eq (aa t 2) ?_;rw[List.getD_eq_getElem?_getD,List.getElem?_eq_none<|by lia];rfl;by_cases hi:i<f.length;refine az<|bj<|sP (Vr.eq (io (aa t 1)<|eC t b1<|Vp.qt<|aa t 0)<|ar<|by rw[ai];lia)<|br (Vp.qt<|aa t 0) (aa t 1) ?_;rw[EW (by lia) (by lia) hi,List.getD_eq_getElem?_getD,List.getElem?_eq_getElem hi];rfl;refine az<|bj<|sQ (Vr.eq (io (aa t 1)<|eC t b1<|Vp.qt<|aa t 0)<|aj<|by rw[ai];lia)<|Vp.eq (aa t 2) ?_;rw[List.getD_eq_getElem?_getD,List.getElem?_eq_none<|by lia];rfl
def KA(h:cG P w K mg base k yi t7 X)(c1:Callee X "without_end" ka):Go X yi t7 uG:=by rintro ds d ⟨xs,rfl,hl,rfl⟩;have t:=h.at';exact az<|bj<|aB t c1 (ac (aa t 0)<|ac ah af)<|.inl ⟨xs,rfl,hl,rfl⟩
def ET(h:cG P w K mg base k sZ oE X)(c1:Callee X "without_end" ka):Go X sZ oE pw:=by rintro ds d ⟨xs,rfl,hl,rfl⟩;have t:=h.at';exact az<|bj<|aB t c1 (ac (aa t 0)<|ac (aC af) af)<|.inr ⟨xs,rfl,hl,rfl⟩
theorem ES(h:cG P w K mg base k sY oC X)(Xj:mg "max"=none)(Vw:mg "len"=none)(VJ:mg "range"=none)(c1:Callee X "row_of" uG)(c2:Callee X "part_at" rH):Go X sY oC pk:=by rintro ds d ⟨f,g,rfl,hf,hg,rfl⟩;have t:=h.at';haveI:=h.VR;have b1:=h.bt Xj;have b2:=h.bt Vw;have b3:=h.bt VJ;refine au (bg (d:=.int ((max f.length g.length:Nat):Int)) t 2<|Vp.eq (lc t b1 (eC t b2<|Vp.qt<|aa t 0)<|eC t b2<|Vp.qt<|aa t 1)<|by rw[ai,ai];congr 1;lia)<|az (bj<|aB t c1 (ac (Vp.eq (VD.V5 (jt (rs:=(List.range<|max f.length g.length).map λi=>D.int<|f.getD i 0+g.getD i 0) t ["f","g","many","power"] (Hy rfl) (jO t b3 (aa t 2) (by lia)<|by lia) (by simp[fu];exact Aw<|by lia) λX' cx=>?_))<|by show D.lst _=D.lst _;rw[dP];rfl) af) ⟨_,rfl,by rw[ai,gU];lia,rfl⟩);rw[bv];exact VX.gen (λ(i:Nat)=>D.int<|0+i) _ (λ(i:Nat)=>[.val<|cZ f,.val<|cZ g,.val<|.int ((max f.length g.length:Nat):Int),.val<|.int i]) _ _ (λx hx=>by rw[yt];exact cD cx.at' 3) (λx hx y hy=>by rw[yt];exact cD cx.at' 3) λx hx=>bB (aB cx.at' (cx.callee c2) (ac (aa cx.at' 0 rfl)<|ac (aa cx.at' 3 rfl)<|ac ah af)<|.inl ⟨f,x,rfl,rfl⟩)<|aB cx.at' (cx.callee c2) (ac (aa cx.at' 1 rfl)<|ac (aa cx.at' 3 rfl)<|ac ah af)<|.inl ⟨g,x,rfl,rfl⟩
theorem B8(h:cG P w K mg base k oZ kW X)(Xj:mg "max"=none)(Vw:mg "len"=none)(VJ:mg "range"=none)(c1:Callee X "board_of" pw)(c2:Callee X "row_plus" pk)(c3:Callee X "part_at" rH):Go X oZ kW ll:=by rintro ds d ⟨f,g,rfl,hf,hg,rfl⟩;have t:=h.at';haveI:=h.VR;have b1:=h.bt Xj;have b2:=h.bt Vw;have b3:=h.bt VJ;have lf:=hf.1;have lg:=hg.1;show Vt X [.val<|bz f,.val<|bz g,.un] _ _;refine au (bg (d:=.int ((max f.length g.length:Nat):Int)) t 2<|Vp.eq (lc t b1 (eC t b2<|Vp.qt<|aa t 0)<|eC t b2<|Vp.qt<|aa t 1)<|by rw[ai,ai];congr 1;lia)<|az (bj<|aB t c1 (ac (Vp.eq (VD.V5 (jt (rs:=(List.range<|max f.length g.length).map λk=>cZ<|si (f.getD k [])<|g.getD k []) t ["f","g","many","power"] (Hy rfl) (jO t b3 (aa t 2) (by lia)<|by lia) (by simp[fu];exact Aw<|by lia) λX' cx=>?_))<|by show D.lst _=D.lst _;rw[dP];rfl) af) ⟨_,rfl,by rw[ai,gU];lia,rfl⟩);rw[bv];exact VX.gen (λ(i:Nat)=>D.int<|0+i) _ (λ(i:Nat)=>[.val<|bz f,.val<|bz g,.val<|.int ((max f.length g.length:Nat):Int),.val<|.int i]) _ _ (λx hx=>by rw[yt];exact cD cx.at' 3) (λx hx y hy=>by rw[yt];exact cD cx.at' 3) λx hx=>aB cx.at' (cx.callee c2) (ac (aB cx.at' (cx.callee c3) (ac (aa cx.at' 0 rfl)<|ac (aa cx.at' 3 rfl)<|ac (aC af) af)<|.inr ⟨f,x,rfl,rfl⟩)<|ac (aB cx.at' (cx.callee c3) (ac (aa cx.at' 1 rfl)<|ac (aa cx.at' 3 rfl)<|ac (aC af) af)<|.inr ⟨g,x,rfl,rfl⟩) af) ⟨_,_,rfl,hf.get (by lia) x,hg.get (by lia) x,rfl⟩
def Ae(h:cG P w K mg base k nc jY X)(VQ:mg "tuple"=none)(c1:Callee X "board_plus" ll)(c2:Callee X "other_sign" pp):Go X nc jY kg:=by rintro ds d ⟨f,g,rfl,hf,hg,rfl⟩;have t:=h.at';haveI:=h.VR;have b1:=h.bt VQ;refine az<|bj<|aB t c1 (ac (aa t 0)<|ac (Vp.eq (jr t b1<|VD.toQ (jt (rs:=g.map λr=>cZ (r.map λx=>-x)) t ["f","g","row"] (Hy rfl) (BH<|aa t 1) (by rw[ai];exact Aw hg.1) λX' cx=>?_))<|by show D.tup _=D.tup _;unfold ug;rw[dP];rfl) af) ⟨f,ug g,rfl,hf,?_,rfl⟩;exact VX.gen cZ _ (λr=>[.val<|bz f,.val<|bz g,.val<|cZ r]) _ _ (λx hx=>cD cx.at' 2) (λx hx y hy=>cD cx.at' 2) λx hx=>aB cx.at' (cx.callee c2) (ac (aa cx.at' 2 rfl) af) ⟨x,rfl,hg.2 x hx,rfl⟩;unfold ug;refine⟨by rw[ai];exact hg.1,λr hr=>?_⟩;obtain⟨q,hq,rfl⟩:=List.mem_map.mp hr;rw[ai];exact hg.2 q hq
def IZ(n:Nat):(List.replicate n [D.tup []]).flatten=(List.replicate n ([]:bR)).map cZ:=by induction n with|zero=>rfl|succ n ih=>rw[bf,cB,ih,bf,bp];rfl
def lV(f:Bd):(gw<|bz f).eqv (gw<|.tup [])=decide (f=[]):=by show(PyData.tuple<|VA<|f.map cZ).eqv (.tuple<|VA [])=_;cases f with|nil=>simp[VA,PyData.eqv,PyData.eqvAll]|cons r f=>simp[VA,PyData.eqv,PyData.eqvAll]
def Fn(n:Nat)(d:D):Prop:=(gw d).canLay0=true/\(gw d).depth<=n/\(gw d).eqv (gw d)=true
def Fn.int(i:Int):Fn 1 (.int i):=⟨rfl,by simp[gw,PyData.depth],by simp[gw,PyData.eqv]⟩
def Fn.bl(b:Bool):Fn 1 (.bl b):=⟨rfl,by simp[gw,PyData.depth],by simp[gw,PyData.eqv]⟩
def Fn.all:∀{xs:aM},(∀x∈xs,Fn n x)->PyData.canLayAll0 (VA xs)=true/\PyData.depthAll (VA xs)<=n/\PyData.eqvAll (VA xs) (VA xs)=true|[],_=>⟨rfl,by simp[VA,PyData.depthAll],by simp[VA,PyData.eqvAll]⟩|x::xs,h=>by let⟨a1,a2,a3⟩:=h x (by simp);let⟨b1,b2,b3⟩:=Fn.all (xs:=xs) λy hy=>h y (by simp[hy]);refine⟨?_,?_,?_⟩;simp only[VA,PyData.canLayAll0,a1,b1];rfl;simp only[VA,PyData.depthAll];lia;simp only[VA,PyData.eqvAll,a3,b3];rfl
def Fn.tup{xs:aM}(h:∀x∈xs,Fn n x):Fn (n+1) (.tup xs):=by let⟨b1,b2,b3⟩:=Fn.all h;exact⟨by simp only[gw,PyData.canLay0];exact b1,by simp only[gw,PyData.depth];lia,by simp only[gw,PyData.eqv];exact b3⟩
def Fn.lst{xs:aM}(h:∀x∈xs,Fn n x):Fn (n+1) (.lst xs):=by let⟨b1,b2,b3⟩:=Fn.all h;exact⟨by simp only[gw,PyData.canLay0];exact b1,by simp only[gw,PyData.depth];lia,by simp only[gw,PyData.eqv];exact b3⟩
def Fn.sh(h:Fn n d)(hn:n<=64):SeqAt.shaped (gw d)=true:=by show((gw d).canLay0&&decide ((gw d).depth<=64))=true;rw[h.1,ar<|aJ h.2.1 hn];rfl
def J4(r:bR):Fn 2 (cZ r):=Fn.tup λx hx=>by obtain⟨i,_,rfl⟩:=List.mem_map.mp hx;exact Fn.int i
def J6(b:Bd):Fn 3 (bz b):=Fn.tup λx hx=>by obtain⟨r,_,rfl⟩:=List.mem_map.mp hx;exact J4 r
def jk(f:Bd):SeqAt.shaped (gw<|bz f)=true:=(J6 f).sh<|by decide
theorem Ad(h:cG P w K mg base k m9 iD X)(Yk:mg "enumerate"=none)(Vw:mg "len"=none)(c1:Callee X "board_of" pw)(c2:Callee X "row_plus" pk)(c3:Callee X "row_times" qP):Go X m9 iD ke:=by
 rintro ds d ⟨f,g,rfl,hf,hg,ha,hb,rfl⟩;have t:=h.at';haveI:=h.VR;have b1:kN X (aq iD) "enumerate" (.type "enumerate"):=kL (by rwa[h.V3]) rfl rfl;have b2:=h.bt Vw;have s0:=eI [];by_cases h1:f=[];·refine dC<|dA (W0.toT<|va<|kH t (Vp.p<|aa t 0) (Vp.p<|aC af) (jk _) s0<|by rw[lV,h1];rfl)<|az<|bj<|Vp.eq (aC af) ?_;unfold jj;rw[ax<|.inl h1];rfl
 by_cases h2:g=[];·refine dC<|dA (W0.toT<|m4 (kH t (Vp.p<|aa t 0) (Vp.p<|aC af) (jk _) s0<|by rw[lV,aj h1])<|qp<|kH t (Vp.p<|aa t 1) (Vp.p<|aC af) (jk _) s0<|by rw[lV,h2];rfl)<|az<|bj<|Vp.eq (aC af) ?_;unfold jj;rw[ax<|.inr h2];rfl
 have et:jj f g=gV (lN f g f.length):=by unfold jj;rw[av λz=>z.elim h1 h2]
 have lf':=hf.1;have lg':=hg.1;refine au (cj (W0.toT<|m4 (kH t (Vp.p<|aa t 0) (Vp.p<|aC af) (jk _) s0<|by rw[lV,aj h1])<|qp<|kH t (Vp.p<|aa t 1) (Vp.p<|aC af) (jk _) s0<|by rw[lV,aj h2]) bQ) ?_;have en:((f.length:Int)+g.length-1).toNat=f.length+g.length-1:=by lia
 refine au (jl (xs:=(lN f g 0).map cZ) t 2<|VD.eq (BG (VD.V5<|bK<|ac (aC af) af) (Vp.eq (jM (bB (eC t b2<|Vp.qt<|aa t 0)<|eC t b2<|Vp.qt<|aa t 1) ah)<|by rw[ai,ai]) (by lia) (by lia)<|by rw[en];have:=JK;simp;lia)<|by rw[en,IZ];rfl)<|au (W1:=[.val<|bz f,.val<|bz g,.own<|(lN f g f.length).map cZ,.un,.un,.un,.un]) (mC t (wx t b1<|aa t 0)<|VU.Wf (λi=>[.val<|bz f,.val<|bz g,.own<|(lN f g i).map cZ,.un,.un,.un,.un]) (λi d hi=>?_) rfl ?_) ?_
 ·obtain⟨e,he,rfl⟩:=n8 hi;rw[List.getElem?_map]at he;cases hx:f[i]? with
  |none=>rw[hx]at he;cases he
  |some x=>
  rw[hx]at he;cases he;have hi':i<f.length:=(List.getElem?_eq_some_iff.mp hx).1;have ex:f.getD i []=x:=by rw[List.getD_eq_getElem?_getD,hx];rfl
  refine⟨_,mO t 3 4,Vt.weak (Wp:=[.val<|bz f,.val<|bz g,.own<|(lN f g<|i+1).map cZ,.val<|.int i,.val<|cZ x,.un,.un]) (az<|mC t (wx t b1<|aa t 1)<|VU.Wf (λj=>[.val<|bz f,.val<|bz g,.own<|(m3 f g i (lN f g i) j).map cZ,.val<|.int i,.val<|cZ x,.un,.un]) (λj d hj=>?_) rfl ?_)<|.keep<|.keep<|.keep<|.forget<|.forget<|.keep<|.keep .nil⟩
  ·obtain⟨e,he,rfl⟩:=n8 hj;rw[List.getElem?_map]at he;cases hy:g[j]? with
   |none=>rw[hy]at he;cases he
   |some y=>
   rw[hy]at he;cases he;have hj':j<g.length:=(List.getElem?_eq_some_iff.mp hy).1;have ey:g.getD j []=y:=by rw[List.getD_eq_getElem?_getD,hy];rfl
   have hl:(m3 f g i (lN f g i) j).length=f.length+g.length-1:=by rw[um,ue]
   have V1:i+j<(m3 f g i (lN f g i) j).length:=by lia
   have e1:(i+j)=((i+j:Nat):Int):=by lia
   have hix:me ((m3 f g i (lN f g i) j).map cZ) (i+j)=some (cZ<|(m3 f g i (lN f g i) j).getD (i+j) []):=by rw[EW (by lia) (by lia) V1,List.getD_eq_getElem?_getD,List.getElem?_eq_getElem V1];rfl
   have h3:=hf.get (by lia) i;have h4:=hg.get (by lia) j;have h5:((m3 f g i (lN f g i) j).getD (i+j) []).length<200:=by
    rcases uq (i+j)with e |e;·rw[e];decide
    ·exact wq hf hg i (FM hf hg i) j _ e
   have h6:=wU (f.getD i [])<|g.getD j [];rw[ex]at h3 h6;rw[ey]at h4 h6;refine⟨_,mO t 5 6,Vt.weak (az<|iE t (aB t c2 (ac (br (lT t 2 rfl) (bB (aa t 3)<|aa t 5) hix)<|ac (aB t c3 (ac (aa t 4)<|ac (aa t 6) af) ⟨x,y,rfl,h3,h4,(λp hp q hq=>rg (by decide) (ha x (List.mem_of_getElem? hx) p hp)<|hb y (List.mem_of_getElem? hy) q hq),rfl⟩) af) ⟨_,_,rfl,by lia,by lia,rfl⟩)<|MJ (j:=i+j) t 2 rfl (bB (aa t 3)<|aa t 5) ?_) ?_⟩;·rw[ai];exact Ep (by lia) (by lia)<|by lia
   ·rw[m3,List.map_set,ex,ey];exact .keep<|.keep<|.keep<|.keep<|.keep<|.forget<|.forget .nil
  ·rw[n4,ai];rfl
 ·rw[n4,ai]
 ·refine fJ 2 rfl<|az<|bj<|Vp.eq (aB t c1 (ac (aa t 2) af) ⟨lN f g f.length,rfl,by rw[ue];lia,rfl⟩) ?_;rw[et]
def ds:Vc->(Nat->Nat->Int)->Int|[],_=>0|p::r,φ=>p.2*φ (p.1.getD 0 0).toNat (p.1.getD 1 0).toNat+ds r φ
def VW(b:Bd):Prop:=(b=[]\/∃ys a,b=ys++[a]/\a≠[])/\∀r∈b,Xc r
def D5(n i:Nat)(h:Nat->Int):((List.range n).map h).getD i 0=if i<n then h i else 0:=by rw[List.getD_eq_getElem?_getD,List.getElem?_map];by_cases e:i<n;rw[ax e,List.getElem?_range e];rfl;rw[av e,List.getElem?_eq_none<|by simpa using e];rfl
def D6(n i:Nat)(h:Nat->bR):((List.range n).map h).getD i []=if i<n then h i else []:=by rw[List.getD_eq_getElem?_getD,List.getElem?_map];by_cases e:i<n;rw[ax e,List.getElem?_range e];rfl;rw[av e,List.getElem?_eq_none<|by simpa using e];rfl
def rT{xs:Bd}(h:∀r∈xs,Xc r):VW (gV xs):=⟨Iy xs,λr hr=>h r<|Hk hr⟩
def Xc.nil:Xc []:=.inl rfl
def VW.row(h:VW b)(k:Nat):Xc (b.getD k []):=by rcases uq k with e |e;rw[e];exact .nil;exact h.2 _ e
def Hc(f g:bR)(i:Nat):(si f g).getD i 0=f.getD i 0+g.getD i 0:=by unfold si;rw[Ar,D5];by_cases h:i<max f.length g.length;rw[ax h];rw[av h,AK<|by lia,AK<|by lia];rfl
def CH(f g:bR):Xc (si f g):=N8 _
def xh(f g:Bd):VW (lM f g):=rT λr hr=>by obtain⟨k,_,rfl⟩:=List.mem_map.mp hr;exact CH _ _
def Fz(f g:bR)(ψ:Nat->Int):rs (si f g) ψ=rs f ψ+rs g ψ:=by rw[jK (si f g) (max f.length g.length) ψ<|AE f g,jK f (max f.length g.length) ψ<|by lia,jK g (max f.length g.length) ψ<|by lia,<-tR];exact fj _ λi _=>by rw[Hc,Int.add_mul]
def Cv(c:Int)(h:Nat->Int):∀n,gc n (λi=>c*h i)=c*gc n h|0=>by simp[gc]|n+1=>by rw[gc,Cv c h n,gc,Int.mul_add]
theorem IU(f g:bR)(i:Nat)(acc:bR)(ψ:Nat->Int):∀j,i+j<=acc.length->rs (wr f g i acc j) ψ=rs acc ψ+gc j (λa=>f.getD i 0*(g.getD a 0*ψ (i+a)))
 |0,_=>by simp[wr,gc]
 |j+1,h=>by
  rw[wr,IS _ _ _ _<|by rw[rh];lia,IU f g i acc ψ j<|by lia,gc];have e:(wr f g i acc j).getD (i+j) 0+f.getD i 0*g.getD j 0-(wr f g i acc j).getD (i+j) 0=f.getD i 0*g.getD j 0:=by lia
  rw[e,Int.mul_assoc];lia
def Lz(n:Nat)(ψ:Nat->Int):rs (List.replicate n 0) ψ=0:=by
 have h:∀i,(List.replicate n 0).getD i 0=([]:bR).getD i 0:=λi=>by rw[List.getD_eq_getElem?_getD,List.getElem?_replicate];split<;>simp
 rw[IW h];rfl
def FA(f g:bR)(ψ:Nat->Int):∀i,i<=f.length->rs (sE f g i) ψ=gc i (λj=>f.getD j 0*rs g (λa=>ψ<|j+a))|0,_=>by rw[sE];exact Lz _ _|i+1,h=>by rw[sE,IU _ _ _ _ _ _<|by rw[xl];lia,FA f g ψ i<|by lia,gc,Cv,jK g g.length _<|ao _]
def IR(f g:bR)(ψ:Nat->Int):rs (ji f g) ψ=rs f (λi=>rs g λa=>ψ<|i+a):=by unfold ji;rw[IW<|Ar _,FA f g ψ f.length<|ao _,jK f f.length _<|ao _]
def GH(b:Bd)(φ:Nat->Nat->Int):bs (gV b) φ=bs b φ:=by rw[qB (gV b) b.length φ<|uN b,qB b b.length φ<|ao _];exact fj _ λk _=>by rw[DV]
theorem GJ(f g:Bd)(j:Nat)(acc:Bd)(φ:Nat->Nat->Int):∀k,j+k<=acc.length->bs (m3 f g j acc k) φ=bs acc φ+gc k (λc=>rs (ji (f.getD j [])<|g.getD c []) λi=>φ i<|j+c)|0,_=>by simp[m3,gc]|k+1,h=>by rw[m3,Ky _ _ _ _<|by rw[um];lia,GJ f g j acc φ k<|by lia,gc,Fz];lia
def MS(φ:Nat->Nat->Int)(n:Nat):bs (List.replicate n []) φ=0:=by induction n generalizing φ with|zero=>rfl|succ n ih=>rw[bf,bs,ih];rfl
theorem GI(f g:Bd)(φ:Nat->Nat->Int):∀j,j<=f.length->bs (lN f g j) φ=gc j (λa=>gc g.length λc=>rs (ji (f.getD a [])<|g.getD c []) λi=>φ i<|a+c)|0,_=>by rw[lN];exact MS _ _|j+1,h=>by rw[lN,GJ _ _ _ _ _ _<|by rw[ue];lia,GI f g φ j<|by lia,gc]
def Fy(f:bR)(h:Nat->Nat->Int):∀n,rs f (λi=>gc n λc=>h i c)=gc n (λc=>rs f λi=>h i c)|0=>A9 _ (λ_=>rfl) f|n+1=>by show rs f (λi=>gc n (λc=>h i c)+h i n)=_;rw[LA,Fy f h n,gc]
def ya(f g:Bd)(φ:Nat->Nat->Int):bs (jj f g) φ=bs f (λi j=>bs g λa c=>φ (i+a)<|j+c):=by unfold jj;split;rename_i h;rcases h with h |h;subst h;rfl;subst h;exact(wD f (λi j=>bs [] λa c=>φ (i+a)<|j+c) λ_ _=>rfl).symm;rw[GH,GI f g φ f.length<|ao _,qB f f.length _<|ao _];refine fj _ λj _=>?_;have e:(λi:Nat=>bs g λa c=>φ (i+a)<|j+c)=λi=>gc g.length (λc=>rs (g.getD c []) λa=>φ (i+a)<|j+c):=funext λi=>qB g g.length _<|ao _;rw[e,Fy];exact fj _ λc _=>IR _ _ _
def UF(n:Nat)(b:Bd):Prop:=b.length<=n/\∀k,(b.getD k []).length<=n
def As(f g:Bd):VW (jj f g):=by
 unfold jj;split;exact⟨.inl rfl,λ_ h=>(nomatch h)⟩;refine rT ?_;have h1:∀j(acc:Bd),(∀r∈acc,Xc r)->∀k,∀r∈m3 f g j acc k,Xc r:=by intro j acc ha k;induction k with|zero=>exact ha|succ k ih=>intro r hr;rw[m3]at hr;rcases Ql hr with h |h;exact ih r h;rw[h];exact CH _ _
 have h2:∀j,∀r∈lN f g j,Xc r:=by intro j;induction j with|zero=>intro r hr;rw[lN]at hr;rw[(List.mem_replicate.mp hr).2];exact .nil|succ j ih=>exact h1 j _ ih _
 exact h2 _
def Pc{n:Nat}(hb:VW b)(h:∀i k,n<=i\/n<=k->Dg b i k=0):UF n b:=by
 have hr:∀k,(b.getD k []).length<=n:=λk=>by rcases hb.row k with e |⟨ys,a,e,ha⟩;rw[e];exact bO _;rcases Nat.lt_or_ge n (b.getD k []).length with z |z;rw[e,ag,eB]at z;have:=h ys.length k<|.inl (by lia);unfold Dg at this;rw[e,List.getD_eq_getElem?_getD,List.getElem?_append_right<|ao _,Ur]at this;exact absurd this ha;exact z
 refine⟨?_,hr⟩;rcases hb.1 with e |⟨ys,r,e,hn⟩;rw[e];exact bO _;rcases Nat.lt_or_ge n b.length with z |z;have hk:b.getD ys.length []=r:=by rw[e,List.getD_eq_getElem?_getD,List.getElem?_append_right<|ao _,Ur];rfl
 have zDH:=hb.row ys.length;rw[hk]at zDH;rcases zDH with w |⟨zs,a,w,ha⟩;exact absurd w hn;rw[e,ag,eB]at z;have:=h zs.length ys.length<|.inr (by lia);unfold Dg at this;rw[hk,w,List.getD_eq_getElem?_getD,List.getElem?_append_right<|ao _,Ur]at this;exact absurd this ha;exact z
end My
namespace My
open PySem PySem.W L2 L2.EV PyProof.Rows
variable {H:Hp}{X:Cx}{pos:Pos}
variable {K:eZ}
def Yg:Str:="0123456789"
def yh(w:bI):Prop:=w≠[]/\(∀c∈w,48<=c/\c<=57)/\w.length<=12/\(w.head?=some 48->w=[48])
def WN(w:bI):Prop:=yh w\/w=[120]\/w=[121]
def Pd:∀c:Nat,48<=c->c<=57->(!(Builtin.Str.occurrences Yg (S [c]) 0 Yg.length 1).isEmpty)=true:=λc h1 h2=>by
 have:∀c:Nat,c<58->48<=c->(!(Builtin.Str.occurrences Yg (S [c]) 0 Yg.length 1).isEmpty)=true:=by decide
 exact this c (by lia) h1
def PM:∀c:Nat,48<=c->c<=57->al c=true:=λc h1 h2=>by
 have:∀c:Nat,c<58->48<=c->al c=true:=by decide
 exact this c (by lia) h1
def T3:al 120=true:=rfl
def T2:al 121=true:=rfl
def WN.lt(h:WN w):∀c∈w,c<128:=by rcases h with h |rfl |rfl;intro c hc;have:=h.2.1 c hc;lia;intro c hc;simp at hc;lia;intro c hc;simp at hc;lia
def WN.al(h:WN w):∀c∈w,al c=true:=by rcases h with h |rfl |rfl;intro c hc;have:=h.2.1 c hc;exact PM c this.1 this.2;intro c hc;simp at hc;subst hc;exact T3;intro c hc;simp at hc;subst hc;exact T2
def WN.len(h:WN w):w.length<=12:=by rcases h with h |rfl |rfl;exact h.2.2.1;simp;simp
def KU{n:Nat}(h:n<=20000):n<=sizeLine:=aJ h<|cM rfl
def Wh{cs:bI}(h:cs.length<=20000):(S cs).length<=sizeLine:=by rw[ce];exact KU h
def AX:List bI:=[[120],[121],[110,111,116],[97,110,100],[111,114],[115,111,109,101],[97,108,108]]
def WD(w:bI):Prop:=yh w\/w∈AX
def WN.v(h:WN w):WD w:=by rcases h with h |h |h;exact .inl h;exact .inr (by rw[h];decide);exact .inr<|by rw[h];decide
def Im:∀w∈AX,(∀c∈w,c<128)/\w≠[]/\w.length<=12:=by decide
def Qx:∀w∈AX,∀c∈w,al c=true:=by decide
def WD.lt(h:WD w):∀c∈w,c<128:=by rcases h with h |h;exact WN.lt<|.inl h;exact(Im w h).1
def WD.al(h:WD w):∀c∈w,al c=true:=by rcases h with h |h;exact WN.al<|.inl h;exact Qx w h
def WD.ne(h:WD w):w≠[]:=by rcases h with h |h;exact h.1;exact(Im w h).2.1
def WD.len(h:WD w):w.length<=12:=by rcases h with h |h;exact h.2.2.1;exact(Im w h).2.2
def EF(u:bI):Bool:=match u with |[]=>false |c::_=>decide<|48<=c/\c<=57
def kx(ds:aM)(d:D):Prop:=∃u:bI,ds=[.str<|S u]/\(∀c∈u,c<128)/\u.length<=20000/\d=.bl (EF u)
def zf:∀ds d,kx ds d->ds.length=1:=by rintro _ _ ⟨a,rfl,_⟩;rfl
def xJ:∀c:Nat,c<128->(!(Builtin.Str.occurrences Yg (S [c]) 0 Yg.length 1).isEmpty)=decide (48<=c/\c<=57):=by decide
def lj(ds:aM)(d:D):Prop:=∃pre w post:bI,ds=[.str<|S<|pre++w++post,.int pre.length]/\(∀c∈w,al c=true)/\(∀c,post.head?=some c->al c=false)/\(pre++w++post).length<=20000/\d=.int ((pre.length:Int)+(w.length:Int))
def xz:∀ds d,lj ds d->ds.length=2:=by rintro _ _ ⟨a,b,c,rfl,_⟩;rfl
def iY(ds:aM)(d:D):Prop:=∃w:bI,ds=[.str<|S w]/\WD w/\d=.VH
def qk:∀ds d,iY ds d->ds.length=1:=by rintro _ _ ⟨a,rfl,_⟩;rfl
def E2:PyData:=.tuple [.str "x",.str "y",.str "not",.str "and",.str "or",.str "some",.str "all"]
def mW{U:cE}{v:Int}[WR X](t:At X N sc)(i:Nat)(hr:U[i]?=some (.val<|.int n))(h:Vp X U e (.int m))(hv:v=n+m)(hi:N[i]?=some x:=by rfl)(hx:ml sc x=true:=by rfl):VN X U (.AugAssign (.Name x pos') .Add e pos) (.nx<|U.set i<|.val<|.int v):=by subst hv;exact IM t i hr h hi hx
def Dp(h:cG P w K mg base k qH mB X)(gF:∃tk,mg "FIGURES"=some (.str Yg tk)):Go X qH mB kx:=by
 rintro ds r ⟨u,rfl,hu,hl,rfl⟩;have t:=h.at';have gF':∃tk,X.mg "FIGURES"=some (.str Yg tk):=by rw[h.V3];exact gF
 have e0:("":Str)=S []:=rfl;cases u with
 |nil=>exact az<|bj<|Vp.eq (rq (v:=false) (Ez (r:=false) t (aa t 0 rfl).p Vo.p (gO<|dF hu) (gO<|by decide)<|by rw[e0];decide) λz=>nomatch z) rfl
 |cons c cs=>
  have hq:(!(S (c::cs)==("":Str)))=true:=by
   have hn:S (c::cs)≠S []:=λe=>by have:=fG e;cases this
   rw[e0];simpa using hn
  exact az<|bj<|Vp.eq (rq (Ez t (aa t 0).p Vo.p (gO<|dF hu) (gO<|by decide) hq) λ_=>Bz (c7 (aa t 0) ah (Wh hl)<|by rw[eQ];exact dJ rfl) (qq t gF')<|xJ c<|hu c<|by simp)<|by rw[DM];rfl
def B7(h:cG P w K mg base k oY kU X)(Vw:mg "len"=none):Go X oY kU lj:=by
 rintro ds r ⟨pre,u,post,rfl,hu,hp,hz,rfl⟩;have t:=h.at';haveI:=h.VR;have b1:=h.bt Vw;refine au (bg t 2<|aa t 1)<|Hu t (λi:Nat=>[.val<|.str<|S<|pre++u++post,.val<|.int pre.length,.val<|.int<|pre.length+i]) (λi=>i<=u.length) (λi=>i=u.length) (λi=>u.length-i) 0 (bO _) (λi hi=>?_) (λi hi=>?_);by_cases e:i<u.length;obtain⟨u1,c,u2,rfl,rfl⟩:∃u1 c u2,u=u1++c::u2/\i=u1.length:=⟨u.take i,u[i],u.drop<|i+1,by simp,by simp;lia⟩;refine .inr ⟨?_,.inr ⟨u1.length+1,?_,by simp,by simp;lia⟩⟩;refine Vr.eq (fN (io (aa t 2)<|dX t b1 (aa t 0)<|Wh hz) λ_=>fM<|jN<|c7 (c:=c) (aa t 0) (aa t 2) (Wh hz) ?_) ?_;have:=sX (pre:=pre++u1) (post:=u2++post) (c:=c);simpa using this;rw[ce,show(⟨#[c]⟩:Str)=S [c]from rfl,HJ,hu c<|by simp,DO,bV];simp;lia;exact az<|mW t 2 rfl ah (by simp;lia);have hi':i=u.length:=by lia
 subst hi';refine .inl ⟨?_,rfl⟩;cases post with|nil=>exact Vr.eq (fN (io (aa t 2)<|dX t b1 (aa t 0)<|Wh hz) λz=>by rw[ce,bV]at z;simp at z) (by rw[ce,DO,aZ];simp)|cons c post=>refine Vr.eq (fN (io (aa t 2)<|dX t b1 (aa t 0)<|Wh hz) λ_=>fM<|jN<|c7 (c:=c) (aa t 0) (aa t 2) (Wh hz) ?_) ?_;have:=sX (pre:=pre++u) (post:=post) (c:=c);simpa using this;rw[show(⟨#[c]⟩:Str)=S [c]from rfl,HJ,hp c rfl,tJ]
 subst hi;exact az<|bj<|aa t 2
def K9(h:yh w):([PyData.str "x",.str "y",.str "not",.str "and",.str "or",.str "some",.str "all"].any λy=>PyData.eqv y<|.str<|S w)=false:=by
 obtain⟨c,cs,rfl⟩:∃c cs,w=c::cs:=by cases w with|nil=>exact absurd rfl h.1|cons c cs=>exact⟨c,cs,rfl⟩
 have hc:=h.2.1 c (by simp);have ne:∀d ds,57<d->(S (d::ds)==S (c::cs))=false:=λd ds hd=>by rw[bF];intro e;have:=fG e;cases this;lia
 show((("x":Str)==S (c::cs))||((("y":Str)==S (c::cs))||((("not":Str)==S (c::cs))||((("and":Str)==S (c::cs))||((("or":Str)==S (c::cs))||((("some":Str)==S (c::cs))||((("all":Str)==S (c::cs))||false)))))))=false;rw[show("x":Str)=S [120]by decide,show("y":Str)=S [121]by decide,show("not":Str)=S [110,111,116]by decide,show("and":Str)=S [97,110,100]by decide,show("or":Str)=S [111,114]by decide,show("some":Str)=S [115,111,109,101]by decide,show("all":Str)=S [97,108,108]by decide,ne _ _<|by lia,ne _ _<|by lia,ne _ _<|by lia,ne _ _<|by lia,ne _ _<|by lia,ne _ _<|by lia,ne _ _<|by lia];rfl
def Qw:∀u∈AX,([PyData.str "x",.str "y",.str "not",.str "and",.str "or",.str "some",.str "all"].any λy=>PyData.eqv y<|.str<|S u)=true:=by decide
def sV(h:cG P w K mg base k eO dB X)(Xk:mg "all"=none)(Vw:mg "len"=none)(gW:Ul mg K "WORDS" E2)(gF:∃tk,mg "FIGURES"=some (.str Yg tk)):∀ds d,iY ds d->Vt X (Fd eO ds) (aW dB) (.rt d)\/(d=.VH/\∃W1,Vt X (Fd eO ds) (aW dB)<|.nx W1):=by
 rintro ds r ⟨u,rfl,hu,rfl⟩;have t:=h.at';let⟨l,gm,gk⟩:=gW;have gm':X.mg "WORDS"=some (.ref l):=by rw[h.V3];exact gm
 have gk':GP X.K (.ref l) E2:=by rw[h.k'];exact gk
 have gF':∃tk,X.mg "FIGURES"=some (.str Yg tk):=by rw[h.V3];exact gF
 have b1:=h.bt Xk;have b2:=h.bt Vw;have hz:=Wh<|aJ hu.len (by decide);have cw:PyData.canLayAll0 [PyData.str "x",.str "y",.str "not",.str "and",.str "or",.str "some",.str "all"]=true:=by decide
 have ok:=dF hu.lt;have lt:=hu.lt;rcases hu with hn |hx;refine .inr ⟨rfl,[.val<|.str<|S u],?_⟩;refine au (cj (xQ t (aa t 0).p (qv t gm' gk') (de ok) (cL _) cw<|K9 hn) bQ)<|az<|cj ?_ bQ;obtain⟨c,cs,rfl⟩:∃c cs,u=c::cs:=by cases u with|nil=>exact absurd rfl hn.1|cons c cs=>exact⟨c,cs,rfl⟩
 refine Vr.eq (BB (u:=false) (v:=false) (Vr.eq (lU<|fM<|xP (bs:=(S<|c::cs).cps.toList.map λ_=>true) t b1<|VD.toQ<|VD.eq (jt (rs:=(S<|c::cs).cps.toList.map λ_=>D.bl true) t ["run","sign"] (Hy rfl) (ED (aa t 0)<|KI lt) (by unfold KY;rw[ai,eQ];exact Aw<|by have:=hn.2.2.1;lia) λX' cx=>?_) ?_) ?_) (λ_=>Vr.eq (gf (dX t b2 (aa t 0) hz) ah) ?_) λ_ _=>?_) rfl;exact VX.gen (λc=>D.str ⟨#[c]⟩) _ (λx=>[.val<|.str<|S<|c::cs,.val<|.str ⟨#[x]⟩]) _ _ (λx hx=>cD cx.at' 1) (λx hx y hy=>cD cx.at' 1) λx hx=>Bz (aa cx.at' 1 rfl) (qq cx.at'<|by rwa[cx.V3])<|by rw[eQ]at hx;exact Pd x (hn.2.1 x hx).1 (hn.2.1 x hx).2
 rw[dP];rfl;simp;rw[ce,aZ];have:=hn.2.2.1;lia;refine Vr.eq (fN (cK t (c7 (aa t 0) ah hz<|by rw[eQ];exact dJ rfl) Vo (dF λx hx=>lt x<|by simp at hx;simp[hx])) λz=>EB t (aa t 0).p Vo.p (gO ok) (gO<|by decide) (r:=false) ?_) (by simp);have z0:c=48:=by rw[bV,show("0":Str)=S [48]by decide]at z;have:=fG z;cases this;rfl
 subst z0;have:=hn.2.2.2 rfl;rw[this];decide;exact .inl<|dC (dA (xQ t (aa t 0).p (qv t gm' gk') (de ok) (cL _) cw<|Qw u hx)<|az Oj)
def T7(c:Nat)(post:bI):Prop:=(c≠60/\c≠62/\c≠33)\/((c=60\/c=62\/c=33)/\post.head?≠some 61)
def iX(ds:aM)(d:D):Prop:=∃pre post:bI,(∃u,ds=[.str<|S<|pre++u++post,.int pre.length]/\WD u/\(∀c,post.head?=some c->al c=false)/\(pre++u++post).length<=20000/\d=.str (S u))\/(∃c,ds=[.str<|S<|pre++c::post,.int pre.length]/\al c=false/\(∀x∈c::post,x<128)/\T7 c post/\(pre++c::post).length<=20000/\d=.str (S [c]))\/∃c,ds=[.str<|S<|pre++c::61::post,.int pre.length]/\(c=60\/c=62\/c=33)/\(pre++c::61::post).length<=20000/\d=.str (S [c,61])
def Bm:∀ds d,iX ds d->ds.length=2:=by rintro _ _ ⟨a,b,⟨c,rfl,_⟩ |⟨c,rfl,_⟩ |⟨c,rfl,_⟩⟩<;>rfl
def P2:PyData:=.tuple [.str "<=",.str ">=",.str "!="]
def Pw{c:Nat}(h1:c≠60)(h2:c≠62)(h3:c≠33):([PyData.str "<=",.str ">=",.str "!="].any λy=>PyData.eqv y<|.str<|S<|c::cs)=false:=by
 have ne:∀d ds,d≠c->(S (d::ds)==S (c::cs))=false:=λd ds hd=>by rw[bF];intro e;have:=fG e;cases this;exact hd rfl
 show((("<=":Str)==S (c::cs))||(((">=":Str)==S (c::cs))||((("!=":Str)==S (c::cs))||false)))=false;rw[show("<=":Str)=S [60,61]by decide,show(">=":Str)=S [62,61]by decide,show("!=":Str)=S [33,61]by decide,ne _ _<|eF h1,ne _ _<|eF h2,ne _ _<|eF h3];rfl
def Pv(h:T7 c post):([PyData.str "<=",.str ">=",.str "!="].any λy=>PyData.eqv y<|.str<|S<|c::post.take 1)=false:=by
 rcases h with⟨h1,h2,h3⟩ |⟨h1,h2⟩;exact Pw h1 h2 h3;have key:∀ds:bI,ds≠[61]->(c=60\/c=62\/c=33)->([PyData.str "<=",.str ">=",.str "!="].any λy=>PyData.eqv y<|.str<|S<|c::ds)=false:=λds hd hc=>by
  have ne:∀d:Nat,(S [d,61]==S (c::ds))=false:=λd=>by rw[bF];intro e;have:=fG e;cases this;exact hd rfl
  show((("<=":Str)==S (c::ds))||(((">=":Str)==S (c::ds))||((("!=":Str)==S (c::ds))||false)))=false;rw[show("<=":Str)=S [60,61]by decide,show(">=":Str)=S [62,61]by decide,show("!=":Str)=S [33,61]by decide,ne,ne,ne];rfl
 refine key _ (λe=>h2 ?_) h1;cases post with
 |nil=>cases e
 |cons a b=>simp at e;rw[e];rfl
def PN:∀c:Nat,c=60\/c=62\/c=33->al c=false:=by intro c h;rcases h with rfl |rfl |rfl<;>decide
def ER(h:cG P w K mg base k lX jI X)(c1:Callee X "refuse_wrong_run" iY)(c2:Callee X "end_of_run" lj)(gD:Ul mg K "DOUBLE_SIGNS" P2):Go X lX jI iX:=by
 rintro ds r ⟨pre,post,⟨u,rfl,hu,hp,hz,rfl⟩ |⟨c,rfl,hc,ha,hsg,hz,rfl⟩ |⟨c,rfl,hc3,hz,rfl⟩⟩;have t:=h.at';haveI:=h.VR;obtain⟨c,cs,rfl⟩:∃c cs,u=c::cs:=by cases u with|nil=>exact absurd rfl hu.ne|cons c cs=>exact⟨c,cs,rfl⟩
 refine dC<|dA (Vr.eq (fM<|jN<|c7 (aa t 0) (aa t 1) (Wh hz) ?_)<|by rw[show(⟨#[c]⟩:Str)=S [c]from rfl,HJ];exact hu.al c<|by simp) ?_;have:=sX (pre:=pre) (post:=cs++post) (c:=c);simpa using this;refine au (bg t 2<|Vp.eq (oO (aa t 0) (aa t 1) (aB t c2 (ac (aa t 0)<|ac (aa t 1) af) ⟨pre,c::cs,post,rfl,hu.al,hp,hz,rfl⟩)<|Wh hz)<|by rw[NQ])<|au (A8<|aB t c1 (ac (aa t 2) af) ⟨_,rfl,hu,rfl⟩) (az<|bj<|aa t 2);have t:=h.at';haveI:=h.VR;let⟨l,gm,gk⟩:=gD;have gm':X.mg "DOUBLE_SIGNS"=some (.ref l):=by rwa[h.V3]
 have gk':GP X.K (.ref l) P2:=by rwa[h.k']
 refine au (cj (Vr.eq (fM<|jN<|c7 (aa t 0) (aa t 1) (Wh hz) sX)<|by rwa[show(⟨#[c]⟩:Str)=S [c]from rfl,HJ]) bQ)<|az<|bj<|sQ (xQ t (Vp.eq (oO (aa t 0) (aa t 1) (bB (aa t 1) ah)<|Wh hz)<|by rw[E3]).p (qv t gm' gk') (de<|dF ?_) (cL _) (by decide)<|Pv hsg)<|c7 (aa t 0) (aa t 1) (Wh hz) sX;refineλx hx=>ha x ?_;rcases bc.mp hx with rfl |hx;simp;exact aV _<|pT hx;have t:=h.at';haveI:=h.VR;let⟨l,gm,gk⟩:=gD;have gm':X.mg "DOUBLE_SIGNS"=some (.ref l):=by rw[h.V3];exact gm
 have gk':GP X.K (.ref l) P2:=by rw[h.k'];exact gk
 have hc:=PN c hc3;have ok:PyData.strOk (S [c,61])=true:=dF (by intro x hx;simp at hx;lia);have hin:([PyData.str "<=",.str ">=",.str "!="].any λy=>PyData.eqv y<|.str<|S [c,61])=true:=by rcases hc3 with rfl |rfl |rfl<;>decide
 exact au (cj (Vr.eq (fM<|jN<|c7 (aa t 0) (aa t 1) (Wh hz) sX)<|by rwa[show(⟨#[c]⟩:Str)=S [c]from rfl,HJ]) bQ)<|az<|bj<|sP (xQ t (Vp.eq (oO (aa t 0) (aa t 1) (bB (aa t 1) ah)<|Wh hz)<|by rw[E3];rfl).p (qv t gm' gk') (de ok) (cL _) (by decide) hin)<|Vp.eq (oO (aa t 0) (aa t 1) (bB (aa t 1) ah)<|Wh hz)<|by rw[E3];rfl
def ay(ts:List bI):aM:=ts.map λu=>D.str<|S u
def NN:al 32=false:=rfl
def km(o c:bI):List bI->Int|[]=>0|u::ts=>km o c ts+(b2i (decide<|S u=S o)-b2i (decide<|S u=S c))
def n9(o c u:bI):∀ts,km o c (ts++[u])=km o c ts+(b2i (decide<|S u=S o)-b2i (decide<|S u=S c))|[]=>by simp[km]|v::ts=>by show km o c (ts++[u])+_=km o c ts+_+_;rw[n9 o c u ts];lia
def kc(ds:aM)(d:D):Prop:=∃(ts:List bI)(o c:bI),ds=[.lst<|ay ts,.str<|S o,.str<|S c]/\(∀u∈ts,∀x∈u,x<128)/\(∀x∈o,x<128)/\(∀x∈c,x<128)/\(∀i,i<=ts.length->km o c (ts.take i)<=20)/\d=.VH
def vU:∀ds d,kc ds d->ds.length=3:=by rintro _ _ ⟨a,b,c,rfl,_⟩;rfl
def Ab(h:cG P w K mg base k gL fR X)(gM:∃tk,mg "MOST_OPEN"=some (.int 20 tk)):∀ds d,kc ds d->Vt X (Fd gL ds) (aW fR) (.rt d)\/(d=.VH/\∃W1,Vt X (Fd gL ds) (aW fR)<|.nx W1):=by
 rintro ds r ⟨ts,o,c,rfl,ha,ho,hc,hd,rfl⟩;have t:=h.at';haveI:=h.VR;have Ye:∃tk,X.mg "MOST_OPEN"=some (.int 20 tk):=by rw[h.V3];exact gM
 refine .inr ⟨rfl,[.val<|.lst<|ay ts,.val<|.str<|S o,.val<|.str<|S c,.val<|.int<|km o c ts,.un],?_⟩;show Vt X [.val<|.lst<|ay ts,.val<|.str<|S o,.val<|.str<|S c,.un,.un] _ _;refine au (bg t 3 ah)<|az<|mC t (qz<|aa t 0)<|VU.Wf (λi=>[.val<|.lst<|ay ts,.val<|.str<|S o,.val<|.str<|S c,.val<|.int<|km o c<|ts.take i,.un]) (λj d e=>?_) rfl ?_;unfold ay at e;rw[List.getElem?_map]at e;cases e2:ts[j]? with
 |none=>rw[e2]at e;cases e
 |some u=>
  rw[e2]at e;cases e;have hj:=(List.getElem?_eq_some_iff.mp e2).1;have hu:∀x∈u,x<128:=ha u<|List.mem_of_getElem? e2;have et:km o c (ts.take<|j+1)=km o c (ts.take j)+(b2i (decide<|S u=S o)-b2i (decide<|S u=S c)):=by rw[tF,e2];exact n9 o c u _
  refine⟨_,bq t 4,Vt.weak (au (mW t 3 rfl (By (qx t (aa t 4) (aa t 1) (dF hu)<|dF ho)<|qx t (aa t 4) (aa t 2) (dF hu)<|dF hc) et)<|az<|cj (Vr.eq (gf (aa t 3)<|hJ t Ye) ?_) bQ)<|.keep<|.keep<|.keep<|.keep<|.forget .nil⟩;have:=hd (j+1) (by lia);rw[aZ];lia
 show _=_;unfold ay;rw[ai,bW]
def HD(ts:cn):Str:=ts.headD ""
def bE(toks:cn)(ds:aM)(s:Int×aM)(d:D)(s':Int×aM):Prop:=∃n:Nat,ds=[]/\s.1=n/\d=.str (HD<|toks.drop n)/\s'=s
def xw:∀ts ds s d s',bE ts ds s d s'->ds.length+1=1:=by rintro _ _ _ _ _ ⟨a,rfl,_⟩;rfl
def bu(toks:cn)(ds:aM)(s:Int×aM)(d:D)(s':Int×aM):Prop:=∃n:Nat,ds=[]/\s.1=n/\d=.str (HD<|toks.drop n)/\s'=((n:Int)+1,s.2)
def xr:∀ts ds s d s',bu ts ds s d s'->ds.length+1=1:=by rintro _ _ _ _ _ ⟨a,rfl,_⟩;rfl
def nv(toks:cn)(ds:aM)(s:Int×aM)(d:D)(s':Int×aM):Prop:=∃n:Nat,ds=[]/\s.1=n/\toks.length<=n/\d=.VH/\s'=s
def vT:∀ts ds s d s',nv ts ds s d s'->ds.length+1=1:=by rintro _ _ _ _ _ ⟨a,rfl,_⟩;rfl
def sz{n:Nat}(h:n<10000):n<sizeLine:=yn h<|by decide
def z7(h:cG P w K mg base k oX kT X)(Vw:mg "len"=none):HK X oX kT bE:=by
 rintro r ok ds ⟨i,xs⟩ d s' ⟨n,rfl,hn,rfl,rfl⟩;have t:=h.at';have b1:=h.bt Vw;have Wi:i=(n:Int):=hn;subst Wi;refine .inl ?_;show Wq (Vv r) X [.val<|.adr r.p] _ _ _ _;refine cA<|wM ?_;have hl:((r.toks.map D.str).length:Int)=(r.toks.length:Nat):=by rw[ai]
 by_cases e:n<r.toks.length;refine Pg (VC.eq (Fk (ua t ok 0 rfl)<|Bw t b1<|t9 t ok 0 rfl) ?_)<|Vz.eq (Pf (t9 t ok 0 rfl) (ua t ok 0 rfl)<|dJ<|by rw[List.getElem?_map,List.getElem?_eq_getElem e];rfl) ?_;rw[hl,bV];show(n:Int)<_;lia;rw[cY e];rfl;refine Ph (VC.eq (Fk (ua t ok 0 rfl)<|Bw t b1<|t9 t ok 0 rfl) ?_)<|Vz.eq (Vp.z Vo) ?_;rw[hl,aZ];show¬((n:Int)<_);lia;rw[nJ<|by lia];rfl
def zy(h:cG P w K mg base k oV kR X)(c1:Vq X "next_token" bE):HK X oV kR bu:=by rintro r ok ds ⟨i,xs⟩ d s' ⟨n,rfl,hn,rfl,rfl⟩;have t:=h.at';haveI:=h.VR;have Wi:i=(n:Int):=hn;subst Wi;refine .inl ?_;show Wq (Vv r) X [.val<|.adr r.p,.un] _ _ _ _;exact bo (gN t 1<|b0 t ok c1 (bb (Vp.z<|aa t 0)<|VL.z af) ⟨n,rfl,rfl,rfl,rfl⟩)<|bo (LD t ok 0 rfl ah)<|cA<|wM<|Vp.z<|aa t 1
def xV(h:cG P w K mg base k iK gH X)(Vw:mg "len"=none):HK X iK gH nv:=by rintro r ok ds ⟨i,xs⟩ d s' ⟨n,rfl,hn,hl,rfl,rfl⟩;have t:=h.at';have b1:=h.bt Vw;have Wi:i=(n:Int):=hn;subst Wi;refine .inr ⟨rfl,[.val<|.adr r.p],?_⟩;show Wq (Vv r) X [.val<|.adr r.p] _ _ _ _;refine cA<|lA (VC.eq (Fk (ua t ok 0 rfl)<|Bw t b1<|t9 t ok 0 rfl) ?_) pU;rw[ai,aZ];show¬((n:Int)<_);lia
abbrev TK:=List bI
inductive Tr
 |leaf (u:bI)
 |pow (t:Tr) (d:Nat)
 |neg (t:Tr)
 |mul (a b:Tr)
 |add (a b:Tr)
 |sub (a b:Tr)
def gE:Tr->TK
 |.leaf u=>[u]|.pow t d=>gE t++[[94,48+d]]
 |.neg t=>gE t++[[109,105,110,117,115]]|.mul a b=>gE a++(gE b++[[42]])
 |.add a b=>gE a++(gE b++[[43]])|.sub a b=>gE a++(gE b++[[45]])
def rM(u:bI):Bool:=!u.isEmpty&&u.all (λc=>decide<|48<=c/\c<=57)&&decide (u.length<=12)&&(decide (u=[48])||decide (u.head?≠some 48))
def uf(u:bI):rM u=true↔yh u:=by unfold rM yh;simp;constructor;rintro⟨⟨⟨a,b⟩,c⟩,d⟩;refine⟨a,b,c,λh=>?_⟩;rcases d with d |d;exact d;exact absurd h d;rintro⟨a,b,c,d⟩;refine⟨⟨⟨a,b⟩,c⟩,?_⟩;by_cases h:u.head?=some 48;exact .inl<|d h;exact .inr h
def H0(u:bI):Bool:=rM u||(decide (u=[120])||decide (u=[121]))
def wF(u:bI):H0 u=true↔WN u:=by unfold H0 WN;rw[yy,yy,uf,bV,bV]
def bw(T:TK)(i:Nat):bI:=T.getD i []
def xK:List bI:=[[48],[49],[50],[51],[52],[53],[54],[55],[56],[57]]
def Qf(u:bI):Bool:=decide<|u∈xK
def dg(u:bI):Nat:=u.headD 0-48
def Bv:∀u∈xK,u=[48+dg u]/\dg u<=9:=by decide
abbrev PR:=Nat->Option Tr×Nat
def jb(sum:PR)(T:TK)(a:Nat):Option Tr×Nat:=
 if H0 (bw T a)then(some<|.leaf<|bw T a,a+1)
 else if bw T a=[40]then match sum (a+1)with
  |(some t,e)=>if bw T e=[41]then(some t,e+1)else(none,a)
  |(none,_)=>(none,a)
 else(none,a)
def u8(sum:PR)(T:TK)(a:Nat):Option Tr×Nat:=match jb sum T a with
 |(some t,e)=>if bw T e=[94]then(if Qf (bw T<|e+1)then(some<|.pow t<|dg<|bw T<|e+1,e+2)else(none,a))else(some t,e)
 |(none,_)=>(none,a)
def mY(T:TK)(a:Nat):Nat:=((T.drop a).takeWhile λu=>decide<|u=[45]).length
def ng(m:Nat)(t:Tr):Tr:=if m%2=1 then .neg t else t
def lS(sum:PR)(T:TK)(a:Nat):Option Tr×Nat:=match u8 sum T (a+mY T a)with
 |(some t,e)=>if 20<mY T a then(none,a+mY T a)else(some<|ng (mY T a) t,e)
 |(none,_)=>(none,a+mY T a)
def oM(sum:PR)(T:TK)(a0:Nat):Nat->Tr->Nat->Option Tr×Nat
 |0,t,e=>(some t,e)
 |f+1,t,e=>if bw T e=[42]then
   match lS sum T (e+1)with
   |(some m,e')=>oM sum T a0 f (.mul t m) e'
   |(none,_)=>(none,a0)
  else(some t,e)
def xH(sum:PR)(T:TK)(a:Nat):Option Tr×Nat:=match lS sum T a with|(some t,e)=>oM sum T a T.length t e|(none,e)=>(none,e)
def oK(sum:PR)(T:TK)(a0:Nat):Nat->Tr->Nat->Option Tr×Nat
 |0,t,e=>(some t,e)
 |f+1,t,e=>if bw T e=[43]\/bw T e=[45]then
   match xH sum T (e+1)with
   |(some m,e')=>oK sum T a0 f (if bw T e=[45]then .sub t m else .add t m) e'
   |(none,_)=>(none,a0)
  else(some t,e)
def J0(sum:PR)(T:TK)(a:Nat):Option Tr×Nat:=match xH sum T a with|(some t,e)=>oK sum T a T.length t e|(none,e)=>(none,e)
def g(T:TK):Nat->PR
 |0=>λa=>(none,a)
 |n+1=>J0 (g T n) T
def S2(u:bI):Prop:=H0 u=true\/u∈[[40],[41],[42],[43],[45],[94]]
def dp(T:TK)(a:Nat):Int:=km [40] [41]<|T.take a
structure XA(T:TK)(a:Nat)(t:Tr)(e:Nat):Prop where
 lt:a<e
 le:e<=T.length
 good:∀i,a<=i->i<e->S2 (bw T i)
 WQ:dp T e=dp T a
 W2:(gE t).length<=2*(e-a)
def fU{i:Nat}(h:bw T i≠[]):i<T.length:=Qm λz=>h<|by unfold bw;rw[List.getD_eq_getElem?_getD,List.getElem?_eq_none<|by lia];rfl
def BI{T:TK}{i:Nat}(h:i<T.length):dp T (i+1)=dp T i+(b2i (decide<|S (bw T i)=S [40])-b2i (decide<|S (bw T i)=S [41])):=by
 unfold dp;have e:T.take (i+1)=T.take i++[bw T i]:=by unfold bw;rw[jF,List.getElem?_eq_getElem h,List.getD_eq_getElem?_getD,List.getElem?_eq_getElem h];rfl
 rw[e,n9]
def fv{T:TK}{i:Nat}(h:i<T.length)(h1:bw T i≠[40])(h2:bw T i≠[41]):dp T (i+1)=dp T i:=by rw[BI h,aj λz=>h1<|fG z,aj λz=>h2<|fG z];lia
def wB{i:Nat}(h:bw T i=[40]):dp T (i+1)=dp T i+1:=by rw[BI<|fU<|by rw[h];simp,h,ar rfl,aj λz=>by have:=fG z;cases this];rfl
def MK{i:Nat}(h:bw T i=[41]):dp T (i+1)=dp T i-1:=by rw[BI<|fU<|by rw[h];simp,h,ar rfl,aj λz=>by have:=fG z;cases this];rfl
def EX{u:bI}{c:Nat}(h:H0 u=true)(hc:c<48):u≠[c]:=λe=>by rw[wF]at h;subst e;rcases h with h |h |h;have:=h.2.1 c (by simp);lia;cases h;lia;cases h;lia
def GM:H0 []=false:=rfl
def XA.one(h:H0 (bw T a)=true):XA T a (.leaf<|bw T a) (a+1):=by
 have hl:=fU λz=>by rw[z]at h;rw[GM]at h;cases h
 refine⟨by lia,hl,λi h1 h2=>?_,fv hl (EX h<|by decide)<|EX h<|by decide,?_⟩;have:i=a:=by lia
 subst this;exact .inl h;show 1<=2*(a+1-a);lia
section
variable {sum:PR}
theorem ye{a:Nat}{e:Nat}(hs:∀a t e,sum a=(some t,e)->XA T a t e){t:Tr}(h:jb sum T a=(some t,e)):XA T a t e:=by unfold jb at h;split at h;rename_i z;cases h;exact .one z;split at h;rename_i z;split at h;rename_i t' e' zBH;split at h;rename_i y;cases h;have A:=hs _ _ _ zBH;have l1:=A.lt;refine⟨by lia,fU<|by rw[y];simp,λi h1 h2=>?_,?_,?_⟩;by_cases q:i=a;subst q;exact .inr (by rw[z];simp);by_cases q2:i=e';subst q2;exact .inr (by rw[y];simp);exact A.good i (by lia) (by lia);rw[MK y,A.WQ,wB z];lia;have:=A.W2;lia;cases h;cases h;cases h
theorem GO{a:Nat}{e:Nat}(hs:∀a t e,sum a=(some t,e)->XA T a t e){t:Tr}(h:u8 sum T a=(some t,e)):XA T a t e:=by
 unfold u8 at h;split at h;rename_i t' e' hA;have A:=ye hs hA;split at h;rename_i y;split at h;rename_i z;cases h;have z':bw T (e'+1)∈xK:=cg z;have hz:H0 (bw T<|e'+1)=true:=by
  have:∀u∈xK,H0 u=true:=by decide
  exact this _ z'
 have F:=XA.one hz;have l1:=A.lt;refine⟨by lia,F.le,λi h1 h2=>?_,?_,?_⟩;by_cases q:i<e';exact A.good i h1 q;by_cases q2:i=e';subst q2;exact .inr (by rw[y];simp);have:i=e'+1:=by lia
 subst this;exact .inl hz;rw[show e'+2=e'+1+1 from rfl,F.WQ,fv (fU<|by rw[y];simp) (by rw[y];simp)<|by rw[y];simp,A.WQ];have:=A.W2;show(gE t'++[_]).length<=_;rw[ag];simp;lia;cases h;cases h;exact A;cases h
def xn(T:TK)(a:Nat):∀j,j<mY T a->bw T (a+j)=[45]:=by
 unfold mY;intro j hj;have e:=List.takeWhile_append_dropWhile (p:=λu=>decide<|u=[45]) (l:=T.drop a);generalize hA:(T.drop a).takeWhile (λu=>decide<|u=[45])=A at hj e;have hp:∀x∈A,x=[45]:=λx hx=>by
  rw[<-hA]at hx;have:∀(l:TK),∀x∈l.takeWhile (λu=>decide<|u=[45]),x=[45]:=λl=>by induction l with|nil=>intro x hx;exact nomatch hx|cons y l ih=>intro x hx;rw[Vn]at hx;split at hx;rename_i q;rcases bc.mp hx with rfl |hx;exact cg q;exact ih x hx;exact nomatch hx
  exact this _ x hx
 unfold bw;rw[List.getD_eq_getElem?_getD,<-List.getElem?_drop,<-e,List.getElem?_append_left hj,List.getElem?_eq_getElem hj];exact hp _<|fE hj
def Bl(T:TK)(a:Nat):bw T (a+mY T a)≠[45]:=by unfold mY bw;rw[List.getD_eq_getElem?_getD,<-List.getElem?_drop];generalize T.drop a=l;induction l with|nil=>simp|cons y l ih=>rw[Vn];split;rwa[bY,List.getElem?_cons_succ];rename_i q;simp at q;simpa using q
def xo(T:TK)(a:Nat):∀j,j<=mY T a->dp T (a+j)=dp T a|0,_=>rfl|j+1,h=>by have e:=xn T a j (by lia);rw[<-Nat.add_assoc,fv (fU<|by rw[e];simp) (by rw[e];simp)<|by rw[e];simp];exact xo T a j<|by lia
theorem lh{a:Nat}{e:Nat}(hs:∀a t e,sum a=(some t,e)->XA T a t e){t:Tr}(h:lS sum T a=(some t,e)):XA T a t e:=by unfold lS at h;split at h;rename_i t' e' hA;have A:=GO hs hA;split at h;cases h;cases h;have l1:=A.lt;refine⟨by lia,A.le,λi h1 h2=>?_,by rw[A.WQ,xo T a _<|ao _],?_⟩;by_cases q:i<a+mY T a;have:=xn T a (i-a) (by lia);rw[show a+(i-a)=i by lia]at this;exact .inr (by rw[this];simp);exact A.good i (by lia) h2;have f:=A.W2;unfold ng;split;rename_i q;show(gE t'++[_]).length<=_;rw[ag];simp;lia;lia;cases h
theorem wL{a:Nat}(hs:∀a t e,sum a=(some t,e)->XA T a t e):∀(f:Nat)(t0:Tr)(e0:Nat)(t:Tr)(e:Nat),XA T a t0 e0->oM sum T a0 f t0 e0=(some t,e)->XA T a t e
 |0,t0,e0,t,e,A,h=>by cases h;exact A
 |f+1,t0,e0,t,e,A,h=>by unfold oM at h;split at h;rename_i y;split at h;rename_i m e' hF;have F:=lh hs hF;have l1:=A.lt;have l2:=F.lt;refine wL hs f _ _ t e ⟨by lia,F.le,λi h1 h2=>?_,?_,?_⟩ h;by_cases q:i<e0;exact A.good i h1 q;by_cases q2:i=e0;subst q2;exact .inr (by rw[y];simp);exact F.good i (by lia) h2;rw[F.WQ,fv (fU<|by rw[y];simp) (by rw[y];simp)<|by rw[y];simp,A.WQ];have:=A.W2;have:=F.W2;show(gE t0++(gE m++[_])).length<=_;rw[ag,ag];simp;lia;cases h;cases h;exact A
def oQ{a:Nat}{e:Nat}(hs:∀a t e,sum a=(some t,e)->XA T a t e){t:Tr}(h:xH sum T a=(some t,e)):XA T a t e:=by unfold xH at h;split at h;rename_i t' e' hF;exact wL hs _ _ _ _ _ (lh hs hF) h;cases h
theorem wK{a:Nat}(hs:∀a t e,sum a=(some t,e)->XA T a t e):∀(f:Nat)(t0:Tr)(e0:Nat)(t:Tr)(e:Nat),XA T a t0 e0->oK sum T a0 f t0 e0=(some t,e)->XA T a t e
 |0,t0,e0,t,e,A,h=>by cases h;exact A
 |f+1,t0,e0,t,e,A,h=>by
  unfold oK at h;split at h;rename_i y;split at h;rename_i m e' hF;have F:=oQ hs hF;have l1:=A.lt;have l2:=F.lt;have ny:bw T e0≠[]:=by rcases y with y |y<;>rw[y]<;>simp
  have n1:bw T e0≠[40]:=by rcases y with y |y<;>rw[y]<;>simp
  have n2:bw T e0≠[41]:=by rcases y with y |y<;>rw[y]<;>simp
  refine wK hs f _ _ t e ⟨by lia,F.le,λi h1 h2=>?_,?_,?_⟩ h;by_cases q:i<e0;exact A.good i h1 q;by_cases q2:i=e0;subst q2;rcases y with y |y<;>exact .inr (by rw[y];simp);exact F.good i (by lia) h2;rw[F.WQ,fv (fU ny) n1 n2,A.WQ];have:=A.W2;have:=F.W2;have e1:(gE (if bw T e0=[45]then Tr.sub t0 m else Tr.add t0 m)).length=(gE t0).length+((gE m).length+1):=by split;show(gE t0++(gE m++[_])).length=_;simp;show(gE t0++(gE m++[_])).length=_;simp
  rw[e1];lia;cases h;cases h;exact A
def PP{a:Nat}{e:Nat}(hs:∀a t e,sum a=(some t,e)->XA T a t e){t:Tr}(h:J0 sum T a=(some t,e)):XA T a t e:=by unfold J0 at h;split at h;rename_i t' e' hF;exact wK hs _ _ _ _ _ (oQ hs hF) h;cases h
end
def fV(T:TK):∀(n a:Nat)(t:Tr)(e:Nat),g T n a=(some t,e)->XA T a t e
 |0,a,t,e,h=>by cases h
 |n+1,a,t,e,h=>PP (fV T n) h
section
variable {SS:LS}{s s1 s':SS.ds}
def Bx(ha:Vz SS X U a (.str z) s s1)(hb:Vz SS X U b (.str w) s1 s')(hz:z.length+w.length<=sizeLine):Vz SS X U (.BinOp a .Add b pos) (.str<|z++w) s s':=λB F H Y Q c l k q=>.mk λon st I=>pH sF aU aU on st Y H Q I (G0 ha hb l k λx y F' H' c' x' r' rx ry=>by cases rx;cases ry;exact⟨z,w,rfl,rfl,hz,q _ F' H' c' x' r'<|.str _⟩)
def Gq{r:Bool}(t:At X N sc)(ha:Vp X U a d)(hb:Vp X U b (.lst xs))(sp:(gw d).canLay0=true)(sd:(gw d).depth<=62)(sq:PyData.canLayAll0 (VA xs)=true)(he:(!(VA xs).any λy=>PyData.eqv y<|gw d)=r)(hm:behindInMarks .NotIn b=false:=by rfl):Vr X U (.Compare a [.NotIn] [b] pos) r:=.of (gr (Om t sp sd sq) aU aU hm) λB F H Y Q k q=>AY (Vp.p ha) (Vp.p hb) k λx y F' H' x' rx ry=>⟨rx,ry,r,by rw[he],q F' H' x'⟩
end
def qX{ts:List bI}(h:∀u∈ts,∀x∈u,x<128):PyData.canLayAll0 (VA<|ay ts)=true:=(Fn.all (n:=1) λx hx=>by obtain⟨u,hu,rfl⟩:=List.mem_map.mp hx;exact⟨de<|dF<|h u hu,by simp[gw,PyData.depth],by simp[gw,PyData.eqv]⟩).1
def sm(ts:List bI):cn:=ts.map S
def Qn{st:Stmt}{SS:LS}{s a b:SS.ds}(h:V0 SS X U st o s a)(e:a=b):V0 SS X U st o s b:=e▸h
def K5{st:List Stmt}{SS:LS}{s a b:SS.ds}(h:Wq SS X U st o s a)(e:a=b):Wq SS X U st o s b:=e▸h
def WB.ix{SS:LS}(R:Nat->cE)(T:Nat->SS.ds)(n:Nat)(h:∀i,i<n->VC SS X (R i) cd true (T i) (T i)/\Wq SS X (R i) body (.nx<|R<|i+1) (T i) (T<|i+1))(hn:VC SS X (R n) cd false (T n) (T n)):∀(k i:Nat),i+k=n->WB SS X cd body k (R i) (T i) (R n) (T n)
 |0,i,e=>by
  have e':i=n:=by lia
  subst e';exact .stop hn
 |k+1,i,e=>.step (h i<|by lia).1 (h i<|by lia).2<|WB.ix R T n h hn k (i+1)<|by lia
def Ak{U W1:cE}{SS:LS}{s s':SS.ds}(t:At X N sc)(R:Nat->cE)(T:Nat->SS.ds)(n:Nat)(h:∀i,i<n->VC SS X (R i) cd true (T i) (T i)/\Wq SS X (R i) body (.nx<|R<|i+1) (T i) (T<|i+1))(hn:VC SS X (R n) cd false (T n) (T n))(e1:R 0=U)(e2:T 0=s)(e3:R n=W1)(e4:T n=s'):V0 SS X U (.While cd body [] pos) (.nx W1) s s':=by subst e1;subst e2;subst e3;subst e4;exact nL t ⟨n,WB.ix R T n h hn n 0<|by lia⟩
def JY{ts:cn}(h:∀x∈ts,PyData.strOk x=true)(n:Nat):PyData.strOk (HD<|ts.drop n)=true:=by cases e:ts.drop n with|nil=>decide|cons a b=>exact h a<|Cj<|by rw[e];simp
def Q6(w:Str):((VA [D.str "+",.str "-"]).any λy=>PyData.eqv y<|gw<|.str w)=(decide (w="+")||decide (w="-")):=PJ "+" "-" w
def mJ{z:Str}{b:Bool}{U:cE}(t:At X N sc)(ok:gn X.K r)(c2:Vq X "next_token" bE)(ho:∀x∈r.toks,PyData.strOk x=true)(hr:U[0]?=some (.val<|.adr r.p))(hz:PyData.strOk z=true)(hb:decide (HD (r.toks.drop n)=z)=b)(hN:N[0]?=some ("reader":Str):=by rfl)(hv:fS sc ("reader":Str)=true:=by rfl)(hx:cU ("reader":Str)=true:=by rfl)(hg:sc.names.lookup ("next_token":Str)=some .globalImplicit:=by rfl):VC (Vv r) X U (.Compare (.Call (.Name "next_token" p) [.Name "reader" py] [] pos) [.Eq] [.Constant (.str z) j p2] pos') b ((n:Int),xs) ((n:Int),xs):=VC.eq (Qy t (b0 t ok c2 (bb (Vp.z<|aa t 0 hr hN hv hx)<|VL.z af) ⟨n,rfl,rfl,rfl,rfl⟩ hg) (Vp.z Vo) (gO<|JY ho n) (gO hz) rfl)<|by rw[<-hb];exact jv _ _
def gb{U:cE}(t:At X N sc)(ok:gn X.K r)(c3:Vq X "take_token" bu)(hr:U[0]?=some (.val<|.adr r.p))(hN:N[0]?=some ("reader":Str):=by rfl)(hv:fS sc ("reader":Str)=true:=by rfl)(hx:cU ("reader":Str)=true:=by rfl)(hg:sc.names.lookup ("take_token":Str)=some .globalImplicit:=by rfl):Vz (Vv r) X U (.Call (.Name "take_token" p) [.Name "reader" py] [] pos) (.str<|HD<|r.toks.drop n) ((n:Int),xs) (((n+1:Nat):Int),xs):=b0 t ok c3 (bb (Vp.z<|aa t 0 hr hN hv hx)<|VL.z af) ⟨n,rfl,rfl,rfl,by rw[M8];rfl⟩ hg
def Nq{b:Bool}{U:cE}(t:At X N sc)(ok:gn X.K r)(c2:Vq X "next_token" bE)(ho:∀x∈r.toks,PyData.strOk x=true)(hr:U[0]?=some (.val<|.adr r.p))(hb:(decide (HD (r.toks.drop n)="+")||decide (HD (r.toks.drop n)="-"))=b)(hN:N[0]?=some ("reader":Str):=by rfl)(hv:fS sc ("reader":Str)=true:=by rfl)(hx:cU ("reader":Str)=true:=by rfl)(hg:sc.names.lookup ("next_token":Str)=some .globalImplicit:=by rfl):VC (Vv r) X U (.Compare (.Call (.Name "next_token" p) [.Name "reader" py] [] pos) [.In] [.Tuple [.Constant (.str "+") j p2,.Constant (.str "-") j2 p3] kk p4] pos') b ((n:Int),xs) ((n:Int),xs):=M9 t (b0 t ok c2 (bb (Vp.z<|aa t 0 hr hN hv hx)<|VL.z af) ⟨n,rfl,rfl,rfl,rfl⟩ hg) (Vp.z<|aC<|ac Vo<|ac Vo af) (de<|JY ho n) (cL _) (by decide)<|by rwa[Q6]
def jW(ts:List bI)(u:bI):((VA<|ay ts).any λy=>PyData.eqv y<|gw<|.str<|S u)=decide (u∈ts):=by
 induction ts with
 |nil=>rfl
 |cons v ts ih=>
  show((S v==S u)||((VA<|ay ts).any λy=>PyData.eqv y<|gw<|.str<|S u))=_;rw[ih];by_cases h:v=u;subst h;simp;have:(S v==S u)=false:=by rw[bF];exactλe=>h<|fG e
  rw[this,gj];have h':¬u=v:=λz=>h z.symm;simp[h']
structure W7(T:TK):Prop where
 lt:∀u∈T,∀c∈u,c<128
 dig:∀u∈T,EF u=rM u
 len:∀u∈T,u.length<=20
 many:T.length<=20000
 deep:∀i,i<=T.length->dp T i<=20
def q0{a:Nat}:bw T a∈T\/bw T a=[]:=by unfold bw;rw[List.getD_eq_getElem?_getD];cases e:T[a]? with|none=>exact .inr rfl|some u=>exact .inl<|List.mem_of_getElem? e
def W7.c(h:W7 T)(a:Nat):∀c∈bw T a,c<128:=by rcases q0 with z |z;exact h.lt _ z;rw[z];exactλc hc=>nomatch hc
def W7.d(h:W7 T)(a:Nat):EF (bw T a)=rM (bw T a):=by rcases q0 with z |z;exact h.dig _ z;rw[z];rfl
def W7.l(h:W7 T)(a:Nat):(bw T a).length<=20:=by rcases q0 with z |z;exact h.len _ z;rw[z];decide
def W7.so(h:W7 T):∀x∈sm T,PyData.strOk x=true:=λx hx=>by obtain⟨u,hu,rfl⟩:=List.mem_map.mp hx;exact dF<|h.lt u hu
def fL(T:TK)(a:Nat):HD ((sm T).drop a)=S (bw T a):=by
 unfold HD sm bw;rw[<-pL,List.getD_eq_getElem?_getD];have:T[a]?=(T.drop a)[0]?:=by rw[List.getElem?_drop,Nat.add_zero]
 rw[this];cases T.drop a with|nil=>show("":Str)=S [];decide|cons u us=>rfl
def lC{n:Nat}(h:n<=100000):n<sizeLine:=bM h<|by decide
def CZ(G:TK->Nat->PR)(n:Nat)(toks:cn)(ds:aM)(s:Int×aM)(d:D)(s':Int×aM):Prop:=∃(T:TK)(a:Nat)(t:Tr)(e:Nat),ds=[]/\toks=sm T/\W7 T/\s.1=(a:Int)/\dp T a+n=21/\s.2.length<=2*a/\G T n a=(some t,e)/\d=.VH/\s'=((e:Int),s.2++ay (gE t))
def RZ(G:TK->Nat->PR)(n:Nat)(toks:cn)(ds:aM)(s:Int×aM):Prop:=∃(T:TK)(a:Nat),ds=[]/\toks=sm T/\W7 T/\s.1=(a:Int)/\dp T a+n=21/\s.2.length<=2*a/\(G T n a).1=none
def CZ.len{G:TK->Nat->PR}:∀ts ds s d s',CZ G n ts ds s d s'->ds.length+1=1:=by rintro _ _ _ _ _ ⟨_,_,_,_,rfl,_⟩;rfl
def RZ.len{G:TK->Nat->PR}:∀ts ds s,RZ G n ts ds s->ds.length+1=1:=by rintro _ _ _ ⟨_,_,rfl,_⟩;rfl
def GA(T:TK):Nat->PR
 |0=>λa=>(none,a)
 |n+1=>jb (g T n) T
def GW(T:TK):Nat->PR
 |0=>λa=>(none,a)
 |n+1=>u8 (g T n) T
def GF(T:TK):Nat->PR
 |0=>λa=>(none,a)
 |n+1=>lS (g T n) T
def GP(T:TK):Nat->PR
 |0=>λa=>(none,a)
 |n+1=>xH (g T n) T
def cf(toks:cn)(ds:aM)(s:Int×aM)(d:D)(s':Int×aM):Prop:=∃(T:TK)(a:Nat)(ts:TK),(ds=[.lst<|ay ts]\/ds=[.tup<|ay ts])/\toks=sm T/\W7 T/\s.1=(a:Int)/\(∀u∈ts,∀x∈u,x<128)/\bw T a∈ts/\d=.str (S<|bw T a)/\s'=(((a+1:Nat):Int),s.2)
def vS:∀ts ds s d s',cf ts ds s d s'->ds.length+1=2:=by rintro _ _ _ _ _ ⟨a,b,c,rfl |rfl,_⟩<;>rfl
def eT(toks:cn)(ds:aM)(s:Int×aM):Prop:=∃(T:TK)(a:Nat)(ts:TK),(ds=[.lst<|ay ts]\/ds=[.tup<|ay ts])/\toks=sm T/\W7 T/\s.1=(a:Int)/\(∀u∈ts,∀x∈u,x<128)/\bw T a∉ts
def uX:∀ts ds s,eT ts ds s->ds.length+1=2:=by rintro _ _ _ ⟨a,b,c,rfl |rfl,_⟩<;>rfl
def m5(toks:cn)(ds:aM)(s:Int×aM):Prop:=∃n:Nat,ds=[]/\s.1=n/\n<toks.length
def uY:∀ts ds s,m5 ts ds s->ds.length+1=1:=by rintro _ _ _ ⟨a,rfl,_⟩;rfl
def xU(h:cG P w K mg base k iJ gG X)(c1:Vq X "take_token" bu):HK X iJ gG cf:=by
 rintro r ok ds ⟨i,xs⟩ d s' ⟨T,a,ts,Ww,er,hT,hn,V1,hu,rfl,rfl⟩;have t:=h.at';haveI:=h.VR;have Wi:i=a:=hn;subst Wi;have nin:(!(VA<|ay ts).any λy=>PyData.eqv y<|gw<|.str<|S<|bw T a)=false:=by rw[jW,ar hu];rfl
 refine .inl ?_;rcases Ww with rfl |rfl;exact bo (gN t 2<|Vz.eq (gb t ok c1 rfl)<|by rw[er,fL])<|bo (lA (Vr.z<|Gq t (aa t 2) (aa t 1) (de<|dF<|hT.c a) (cL _) (qX V1) nin) pU)<|cA<|wM<|Vp.z<|aa t 2;exact bo (gN t 2<|Vz.eq (gb t ok c1 rfl)<|by rw[er,fL])<|bo (lA (Vr.z<|BE t (aa t 2) (aa t 1) (de<|dF<|hT.c a) (cL _) (qX V1) nin) pU)<|cA<|wM<|Vp.z<|aa t 2
def xX(h:cG P w K mg base k iJ gG X)(c1:Vq X "take_token" bu)(O:OwnCls "NoText" C vB vN mg base):yk X iJ gG C eT:=by
 rintro r ok ds ⟨i,xs⟩ ⟨T,a,ts,Ww,er,hT,hn,V1,hu⟩;have t:=h.at';haveI:=h.VR;have O':OwnCls "NoText" C vB vN X.mg X.base:=by rw[h.V3,h.WA];exact O
 have Wi:i=a:=hn;subst Wi;have nin:(!(VA<|ay ts).any λy=>PyData.eqv y<|gw<|.str<|S<|bw T a)=true:=by rw[jW,aj hu];rfl
 rcases Ww with rfl |rfl;exact bU t (gN t 2<|Vz.eq (gb t ok c1 rfl)<|by rw[er,fL])<|aY<|pV t (Vr.z<|Gq t (aa t 2) (aa t 1) (de<|dF<|hT.c a) (cL _) (qX V1) nin)<|aY<|X1.z<|jV t O' Vo;exact bU t (gN t 2<|Vz.eq (gb t ok c1 rfl)<|by rw[er,fL])<|aY<|pV t (Vr.z<|BE t (aa t 2) (aa t 1) (de<|dF<|hT.c a) (cL _) (qX V1) nin)<|aY<|X1.z<|jV t O' Vo
def xY(h:cG P w K mg base k iK gH X)(Vw:mg "len"=none)(O:OwnCls "NoText" C vB vN mg base):yk X iK gH C m5:=by
 rintro r ok ds ⟨i,xs⟩ ⟨n,rfl,hn,hl⟩;have t:=h.at';have O':OwnCls "NoText" C vB vN X.mg X.base:=by rw[h.V3,h.WA];exact O
 have b1:=h.bt Vw;have Wi:i=n:=hn;subst Wi;refine aY<|pV t (VC.eq (Fk (ua t ok 0 rfl)<|Bw t b1<|t9 t ok 0 rfl) ?_)<|aY<|X1.z<|jV t O' Vo;rw[ai,bV];lia
def M0:("(":Str)=S [40]:=rfl
def R4:(")":Str)=S [41]:=rfl
def MZ:("*":Str)=S [42]:=rfl
def R5:("+":Str)=S [43]:=rfl
def HI:("-":Str)=S [45]:=rfl
def MY:("^":Str)=S [94]:=rfl
def Ua:("x":Str)=S [120]:=rfl
def T8:("y":Str)=S [121]:=rfl
def fB(u v:bI):decide (S u=S v)=decide (u=v):=by by_cases h:u=v;rw[h];simp;rw[aj h,aj λz=>h<|fG z]
def GL(t:At X N sc)(hT:W7 T)(c4:EV.Callee X "is_number" kx)(hx:Vp X U ex (.str<|S<|bw T a))(hy:Vp X U ey (.str<|S<|bw T a))(hp:Pl ex:=by intro _ _;rfl)(hg:sc.names.lookup ("is_number":Str)=some .globalImplicit:=by rfl):Vr X U (.BoolOp .Or [.Call (.Name "is_number" p1) [ex] [] p2,.Compare ey [.In] [.Tuple [.Constant (.str "x") i p3,.Constant (.str "y") j p4] k0 p5] p6] p7) (H0<|bw T a):=by refine Vr.eq (eM (fM<|aB t c4 (ac hx af hp) ⟨bw T a,rfl,hT.c a,by have:=hT.l a;lia,rfl⟩ hg) λ_=>Po t hy<|dF<|hT.c a) ?_;rw[hT.d,Ua,T8,fB,fB];rfl
def BS(h:cG P w K mg base k kr i9 X)(c1:Vq X "take_token" bu)(c2:Vq X "read_sum" (CZ g n))(c3:Vq X "take_one_of" cf)(c4:EV.Callee X "is_number" kx):HK X kr i9 (CZ GA<|n+1):=by rintro r ok ds ⟨i,xs⟩ d s' ⟨T,a,tr,e,rfl,er,hT,hn,hd,hl,hG,rfl,rfl⟩;have t:=h.at';haveI:=h.VR;have Wi:i=a:=hn;subst Wi;have Yo:xs.length<=2*a:=hl;have ae:=(ye (fV T n) hG).le;have tm:=hT.many;refine .inr ⟨rfl,[.val<|.adr r.p,.val<|.str<|S<|bw T a],?_⟩;refine bo (gN t 1<|Vz.eq (gb t ok c1 rfl)<|by rw[er,fL]) ?_;have VY:jb (g T n) T a=(some tr,e):=hG;unfold jb at VY;split at VY;rename_i z;injection VY with h1 h2;injection h1 with h1;subst h1;subst h2;refine cA<|lA (Vr.z<|Vr.eq (cK t (aa t 1) Vo<|dF<|hT.c a)<|by rw[M0,fB];exact aj<|EX z<|by decide)<|cA<|sv (Vr.z<|Vr.eq (GL t hT c4 (aa t 1)<|aa t 1) z)<|cA<|kZ t ok 0 rfl (Vp.z<|aa t 1)<|lC (by show xs.length<=100000;lia);split at VY;rename_i z;split at VY;rename_i t' e' hs;split at VY;rename_i y;injection VY with h1 h2;injection h1 with h1;subst h1;subst h2;have dp1:=wB z;refine cA<|sv (Vr.z<|Vr.eq (cK t (aa t 1) Vo<|dF<|hT.c a)<|by rw[M0,fB];exact ar z)<|bo (cz<|b0 t ok c2 (bb (Vp.z<|aa t 0)<|VL.z af) ⟨T,a+1,t',e',rfl,er,hT,rfl,by lia,by show xs.length<=2*(a+1);lia,hs,rfl,rfl⟩)<|cA<|cz<|b0 t ok c3 (bb (Vp.z<|aa t 0)<|bb (Vp.z<|aC<|ac Vo af)<|VL.z af) ⟨T,e',[[41]],.inr<|by rw[R4];rfl,er,hT,rfl,(by decide),by rw[y];simp,rfl,rfl⟩;cases VY;cases VY;cases VY
def BW(h:cG P w K mg base k kr i9 X)(c1:Vq X "take_token" bu)(c2:Vq X "read_sum" (CZ g n))(x2:di X "read_sum" C (RZ g n))(x3:di X "take_one_of" C eT)(c4:EV.Callee X "is_number" kx)(O:OwnCls "NoText" C vB vN mg base):yk X kr i9 C (RZ GA<|n+1):=by
 rintro r ok ds ⟨i,xs⟩ ⟨T,a,rfl,er,hT,hn,hd,hl,hG⟩;have t:=h.at';haveI:=h.VR;have O':OwnCls "NoText" C vB vN X.mg X.base:=by rw[h.V3,h.WA];exact O
 have Wi:i=a:=hn;subst Wi;have Yo:xs.length<=2*a:=hl;refine bU t (gN t 1<|Vz.eq (gb t ok c1 rfl)<|by rw[er,fL]) ?_;have VY:(jb (g T n) T a).1=none:=hG;unfold jb at VY;by_cases z:H0 (bw T a)=true;rw[ax z]at VY;cases VY;rw[av z]at VY;by_cases y:bw T a=[40];have dp1:=wB y;refine aY<|pV t (Vr.z<|Vr.eq (cK t (aa t 1) Vo<|dF<|hT.c a)<|by rw[M0,fB];exact ar y) ?_;rw[ax y]at VY;cases hs:g T n (a+1)with|mk o e'=>rw[hs]at VY;cases o with|none=>exact aY (fK<|ft t ok x2 (bb (Vp.z<|aa t 0)<|VL.z af) ⟨T,a+1,rfl,er,hT,rfl,by lia,by show xs.length<=2*(a+1);lia,by rw[hs]⟩)|some t'=>by_cases q:bw T e'=[41];simp only[ax q]at VY;cases VY;exact bU t (cz<|b0 t ok c2 (bb (Vp.z<|aa t 0)<|VL.z af) ⟨T,a+1,t',e',rfl,er,hT,rfl,by lia,by show xs.length<=2*(a+1);lia,hs,rfl,rfl⟩)<|aY<|fK<|ft t ok x3 (bb (Vp.z<|aa t 0)<|bb (Vp.z<|aC<|ac Vo af)<|VL.z af) ⟨T,e',[[41]],.inr<|by rw[R4];rfl,er,hT,rfl,(by decide),by simpa using q⟩
 exact aY<|wP t (Vr.z<|Vr.eq (cK t (aa t 1) Vo<|dF<|hT.c a)<|by rw[M0,fB];exact aj y)<|aY<|wP t (Vr.z<|Vr.eq (GL t hT c4 (aa t 1)<|aa t 1)<|by simpa using z)<|aY<|X1.z<|jV t O' Vo
def Gh:KY Yg=ay xK:=by unfold KY ay;rw[show Yg.cps.toList=[48,49,50,51,52,53,54,55,56,57]by decide];rfl
theorem z6{n:Nat}(h:cG P w K mg base k jx ig X)(XI:mg "list"=none)(c1:Vq X "read_atom" (CZ GA<|n+1))(c2:Vq X "next_token" bE)(c3:Vq X "take_token" bu)(c4:Vq X "take_one_of" cf)(gF:∃tk,mg "FIGURES"=some (.str Yg tk)):HK X jx ig (CZ GW<|n+1):=by
 rintro r ok ds ⟨i,xs⟩ d s' ⟨T,a,tr,e,rfl,er,hT,hn,hd,hl,hG,rfl,rfl⟩;have t:=h.at';haveI:=h.VR;have b1:=h.bt XI;have gF':∃tk,X.mg "FIGURES"=some (.str Yg tk):=by rw[h.V3];exact gF
 have ho:∀x∈r.toks,PyData.strOk x=true:=by rw[er];exact hT.so
 have Wi:i=a:=hn;subst Wi;have Yo:xs.length<=2*a:=hl;have tm:=hT.many;refine .inr ⟨rfl,[.val<|.adr r.p],?_⟩;have VY:u8 (g T n) T a=(some tr,e):=hG;unfold u8 at VY;split at VY;rename_i t' e' hs;have A:=ye (fV T n) hs;have al:=A.lt;have ae:=A.le;have fw:=A.W2;refine bo (cz<|b0 t ok c1 (bb (Vp.z<|aa t 0)<|VL.z af) ⟨T,a,t',e',rfl,er,hT,rfl,hd,hl,hs,rfl,rfl⟩) ?_;split at VY;rename_i y;split at VY;rename_i z;injection VY with h1 h2;injection h1 with h1;subst h1;subst h2;have z':bw T (e'+1)∈xK:=cg z;let⟨zu,zd⟩:=Bv _ z';refine cA<|sv (mJ t ok c2 ho rfl (by decide)<|by rw[er,fL,MY,fB];exact ar y)<|bo (cz<|gb t ok c3 rfl)<|cA ?_;refine Qn (kZ t ok 0 rfl (Vz.eq (Bx (Vp.z Vo) (b0 t ok c4 (bb (Vp.z<|aa t 0)<|bb (Vp.z<|Vp.eq (VD.V5<|C8 t b1 (qq t gF')<|by decide)<|by rw[Gh])<|VL.z af) ⟨T,e'+1,xK,.inl rfl,er,hT,rfl,(by decide),z',rfl,rfl⟩)<|by rw[ce,show("^":Str).length=1 by decide];exact aJ (show 1+(bw T<|e'+1).length<=100 by have:=hT.l<|e'+1;lia)<|by decide) (show D.str (("^":Str)++S (bw T<|e'+1))=.str (S [94,48+dg (bw T<|e'+1)])by rw[MY,pK];congr 2;exact aL (List.cons 94) zu))<|lC<|by unfold ay;rw[ag,ai];lia)<|je rfl ?_;show xs++ay (gE t')++[_]=xs++ay (gE t'++[_]);unfold ay;rw[aE,aO];rfl;cases VY;rename_i y;injection VY with h1 h2;injection h1 with h1;subst h1;subst h2;exact cA<|lA (mJ t ok c2 ho rfl (by decide)<|by rw[er,fL,MY,fB];exact aj y) pU;cases VY
def z9{n:Nat}(h:cG P w K mg base k jx ig X)(XI:mg "list"=none)(c1:Vq X "read_atom" (CZ GA<|n+1))(x1:di X "read_atom" C (RZ GA<|n+1))(c2:Vq X "next_token" bE)(c3:Vq X "take_token" bu)(x4:di X "take_one_of" C eT)(gF:∃tk,mg "FIGURES"=some (.str Yg tk)):yk X jx ig C (RZ GW<|n+1):=by
 rintro r ok ds ⟨i,xs⟩ ⟨T,a,rfl,er,hT,hn,hd,hl,hG⟩;have t:=h.at';haveI:=h.VR;have b1:=h.bt XI;have gF':∃tk,X.mg "FIGURES"=some (.str Yg tk):=by rw[h.V3];exact gF
 have ho:∀x∈r.toks,PyData.strOk x=true:=by rw[er];exact hT.so
 have Wi:i=a:=hn;subst Wi;have VY:(u8 (g T n) T a).1=none:=hG;unfold u8 at VY;cases hs:jb (g T n) T a with|mk o e'=>rw[hs]at VY;cases o with|none=>exact aY (fK<|ft t ok x1 (bb (Vp.z<|aa t 0)<|VL.z af) ⟨T,a,rfl,er,hT,rfl,hd,hl,by show(jb (g T n) T a).1=none;rw[hs]⟩)|some t'=>refine bU t (cz<|b0 t ok c1 (bb (Vp.z<|aa t 0)<|VL.z af) ⟨T,a,t',e',rfl,er,hT,rfl,hd,hl,hs,rfl,rfl⟩) ?_;by_cases y:bw T e'=[94];simp only[ax y]at VY;by_cases z:Qf (bw T<|e'+1)=true;simp only[ax z]at VY;cases VY;have z':bw T (e'+1)∉xK:=λq=>z<|ar q;exact aY<|pV t (mJ t ok c2 ho rfl (by decide)<|by rw[er,fL,MY,fB];exact ar y)<|bU t (cz<|gb t ok c3 rfl)<|aY<|fK<|uJ t (LF t ok 0 rfl)<|Ib t (Vp.z Vo)<|ft t ok x4 (bb (Vp.z<|aa t 0)<|bb (Vp.z<|Vp.eq (VD.V5<|C8 t b1 (qq t gF')<|by decide)<|by rw[Gh])<|VL.z af) ⟨T,e'+1,xK,.inl rfl,er,hT,rfl,(by decide),z'⟩;simp only[av y]at VY;cases VY
theorem xW{n:Nat}(h:cG P w K mg base k iN gJ X)(c1:Vq X "read_power" (CZ GW<|n+1))(c2:Vq X "next_token" bE)(c3:Vq X "take_token" bu)(gM:∃tk,mg "MOST_MINUSES"=some (.int 20 tk)):HK X iN gJ (CZ GF<|n+1):=by
 rintro r ok ds ⟨i,xs⟩ d s' ⟨T,a,tr,e,rfl,er,hT,hn,hd,hl,hG,rfl,rfl⟩;have t:=h.at';haveI:=h.VR;have Ye:∃tk,X.mg "MOST_MINUSES"=some (.int 20 tk):=by rw[h.V3];exact gM
 have ho:∀x∈r.toks,PyData.strOk x=true:=by rw[er];exact hT.so
 have Wi:i=(a:Int):=hn;subst Wi;have Yo:xs.length<=2*a:=hl;have tm:=hT.many;have VY:lS (g T n) T a=(some tr,e):=hG;unfold lS at VY;have mis:=xn T a;have zBC:=Bl T a;have mdp:=xo T a (mY T a)<|ao _;generalize mY T a=m at*;refine .inr ⟨rfl,[.val<|.adr r.p,.val<|.int m],?_⟩;refine bo (VN.z<|bg t 1 ah)<|bo (Ak t (λi=>[.val<|.adr r.p,.val<|.int i]) (λi=>(((a+i:Nat):Int),xs)) m (λi hi=>?_) ?_ rfl rfl rfl rfl) ?_;exact⟨mJ t ok c2 ho rfl (by decide)<|by rw[er,fL,HI,fB];exact ar<|mis i hi,bo (cz<|gb t ok c3 rfl)<|cA<|VN.z<|mW t 1 rfl ah<|by lia⟩;exact mJ t ok c2 ho rfl (by decide) (by rw[er,fL,HI,fB];exact aj zBC);split at VY;rename_i t' e' hs;have A:=GO (fV T n) hs;have al:=A.lt;have ae:=A.le;have fw:=A.W2;split at VY;cases VY;rename_i y;injection VY with h1 h2;injection h1 with h1;subst h1;subst h2;refine bo (VN.z<|cj (Vr.eq (gf (aa t 1)<|hJ t Ye)<|aj<|by lia) bQ)<|bo (cz<|b0 t ok c1 (bb (Vp.z<|aa t 0)<|VL.z af) ⟨T,a+m,t',e',rfl,er,hT,rfl,by rwa[mdp],by show xs.length<=2*(a+m);lia,hs,rfl,rfl⟩) ?_;unfold ng;by_cases q:m%2=1;rw[ax q];refine K5 (cA<|sv (Vr.z<|Vr.eq (Kf<|Vp.eq (Gk (aa t 1) ah) rfl)<|by show(!decide ((m:Int)%2 ^ 1=0))=true;rw[aj<|by lia];rfl)<|cA<|kZ t ok 0 rfl (Vp.z Vo)<|lC<|by show(xs++ay (gE t')).length<=100000;unfold ay;rw[ag,ai];lia)<|je rfl ?_;show xs++ay (gE t')++[.str "minus"]=xs++ay (gE t'++[[109,105,110,117,115]]);rw[show("minus":Str)=S [109,105,110,117,115]by decide];unfold ay;rw[aE,aO];rfl;rw[av q];exact cA<|lA (Vr.z<|Vr.eq (Kf<|Vp.eq (Gk (aa t 1) ah) rfl)<|by show(!decide ((m:Int)%2 ^ 1=0))=false;rw[ar<|by lia];rfl) pU;cases VY
def x9{n:Nat}(h:cG P w K mg base k iN gJ X)(x1:di X "read_power" C (RZ GW<|n+1))(c2:Vq X "next_token" bE)(c3:Vq X "take_token" bu)(gM:∃tk,mg "MOST_MINUSES"=some (.int 20 tk))(O:OwnCls "NoText" C vB vN mg base):yk X iN gJ C (RZ GF<|n+1):=by
 rintro r ok ds ⟨i,xs⟩ ⟨T,a,rfl,er,hT,hn,hd,hl,hG⟩;have t:=h.at';haveI:=h.VR;have O':OwnCls "NoText" C vB vN X.mg X.base:=by rw[h.V3,h.WA];exact O
 have Ye:∃tk,X.mg "MOST_MINUSES"=some (.int 20 tk):=by rw[h.V3];exact gM
 have ho:∀x∈r.toks,PyData.strOk x=true:=by rw[er];exact hT.so
 have Wi:i=(a:Int):=hn;subst Wi;have Yo:xs.length<=2*a:=hl;have VY:(lS (g T n) T a).1=none:=hG;unfold lS at VY;have mis:=xn T a;have zBC:=Bl T a;have mdp:=xo T a (mY T a)<|ao _;generalize mY T a=m at*;refine bU t (VN.z<|bg t 1 ah)<|bU t (Ak t (λi=>[.val<|.adr r.p,.val<|.int i]) (λi=>(((a+i:Nat):Int),xs)) m (λi hi=>?_) ?_ rfl rfl rfl rfl) ?_;exact⟨mJ t ok c2 ho rfl (by decide)<|by rw[er,fL,HI,fB];exact ar<|mis i hi,bo (cz<|gb t ok c3 rfl)<|cA<|VN.z<|mW t 1 rfl ah<|by lia⟩;exact mJ t ok c2 ho rfl (by decide) (by rw[er,fL,HI,fB];exact aj zBC);by_cases y:20<m;exact aY<|X1.z<|Am t (Vr.eq (gf (aa t 1)<|hJ t Ye)<|ar<|by lia)<|mo<|jV t O' Vo;refine bU t (VN.z<|cj (Vr.eq (gf (aa t 1)<|hJ t Ye)<|aj<|by lia) bQ) ?_;cases hs:u8 (g T n) T (a+m)with|mk o e'=>rw[hs]at VY;cases o with|none=>exact aY (fK<|ft t ok x1 (bb (Vp.z<|aa t 0)<|VL.z af) ⟨T,a+m,rfl,er,hT,rfl,by rwa[mdp],by show xs.length<=2*(a+m);lia,by show(u8 (g T n) T<|a+m).1=none;rw[hs]⟩)|some t'=>simp only[av y]at VY;cases VY
theorem FG(hT:W7 T)(h1:∀e xs,VC (Vv r) X R cd (decide<|bw T e=[42]) (((e:Nat):Int),xs) ((e:Int),xs))(h2:∀e xs m e',bw T e=[42]->lS (g T n) T (e+1)=(some m,e')->dp T e+(n+1:Nat)=21->xs.length<=2*e->Wq (Vv r) X R body (.nx R) (((e:Nat):Int),xs) ((e':Int),xs++ay (gE m++[[42]]))):∀(f:Nat)(t0:Tr)(e0:Nat)(xs:aM)(t:Tr)(e a:Nat),XA T a t0 e0->T.length<=e0+f->dp T a+(n+1:Nat)=21->xs.length<=2*a->oM (g T n) T a0 f t0 e0=(some t,e)->∃k,WB (Vv r) X cd body k R ((e0:Int),xs++ay (gE t0)) R ((e:Int),xs++ay (gE t))
 |0,t0,e0,xs,t,e,a,A,hf,hd,hx,hG=>by injection hG with q1 q2;injection q1 with q1;subst q1;subst q2;refine⟨0,.stop<|VC.eq (h1 e0 _) (aj λz=>?_)⟩;have:=fU (by rw[z];simp);lia
 |f+1,t0,e0,xs,t,e,a,A,hf,hd,hx,hG=>by
  unfold oM at hG;split at hG;rename_i y;split at hG;rename_i m e' hF;have l1:=A.lt;have l2:=(lh (fV T n) hF).lt;have fa:=A.W2;have ln:(xs++ay (gE t0)).length<=2*e0:=by unfold ay;rw[ag,ai];lia
  let⟨k,run⟩:=FG hT h1 h2 f (.mul t0 m) e' xs t e a (wL (a0:=a0) (fV T n) 1 t0 e0 _ _ A<|by unfold oM;rw[ax y,hF];rfl) (by lia) hd hx hG;refine⟨k+1,.step (VC.eq (h1 e0 _)<|ar y) (h2 e0 _ m e' y hF (by rwa[A.WQ]) ln) ?_⟩;have ex:xs++ay (gE t0)++ay (gE m++[[42]])=xs++ay (gE<|.mul t0 m):=by show _=xs++ay (gE t0++(gE m++[[42]]));unfold ay;rw[aE (l₁:=gE t0),aO]
  rwa[ex];cases hG;rename_i y;injection hG with q1 q2;injection q1 with q1;subst q1;subst q2;exact⟨0,.stop<|VC.eq (h1 e0 _)<|aj y⟩
theorem CD(hT:W7 T)(h1:∀e xs,VC (Vv r) X R cd (decide<|bw T e=[42]) (((e:Nat):Int),xs) ((e:Int),xs))(h2:∀e xs m e',bw T e=[42]->lS (g T n) T (e+1)=(some m,e')->dp T e+(n+1:Nat)=21->xs.length<=2*e->Wq (Vv r) X R body (.nx R) (((e:Nat):Int),xs) ((e':Int),xs++ay (gE m++[[42]])))(h3:∀e xs,bw T e=[42]->(lS (g T n) T<|e+1).1=none->dp T e+(n+1:Nat)=21->xs.length<=2*e->Dy (Vv r) X R body C (((e:Nat):Int),xs)):∀(f:Nat)(t0:Tr)(e0:Nat)(xs:aM)(a:Nat),XA T a t0 e0->dp T a+(n+1:Nat)=21->xs.length<=2*a->(oM (g T n) T a0 f t0 e0).1=none->∃k,kM (Vv r) X cd body C k R ((e0:Int),xs++ay (gE t0))
 |0,t0,e0,xs,a,A,hd,hx,hG=>by cases hG
 |f+1,t0,e0,xs,a,A,hd,hx,hG=>by
  unfold oM at hG;by_cases y:bw T e0=[42];rw[ax y]at hG;have l1:=A.lt;have fa:=A.W2;have ln:(xs++ay (gE t0)).length<=2*e0:=by unfold ay;rw[ag,ai];lia
  cases hF:lS (g T n) T (e0+1)with
  |mk o e'=>
   rw[hF]at hG;cases o with
   |none=>exact⟨0,.here (VC.eq (h1 e0 _)<|ar y)<|h3 e0 _ y (by rw[hF]) (by rwa[A.WQ]) ln⟩
   |some m=>
    let⟨k,run⟩:=CD hT h1 h2 h3 f (.mul t0 m) e' xs a (wL (a0:=a0) (fV T n) 1 t0 e0 _ _ A<|by unfold oM;rw[ax y,hF];rfl) hd hx hG;refine⟨k+1,.next (VC.eq (h1 e0 _)<|ar y) (h2 e0 _ m e' y hF (by rwa[A.WQ]) ln) ?_⟩;have ex:xs++ay (gE t0)++ay (gE m++[[42]])=xs++ay (gE<|.mul t0 m):=by show _=xs++ay (gE t0++(gE m++[[42]]));unfold ay;rw[aE (l₁:=gE t0),aO]
    rwa[ex]
  rw[av y]at hG;cases hG
def Nf{u:bI}{t0 m:Tr}(y:u=[43]\/u=[45]):gE (if u=[45]then .sub t0 m else .add t0 m)=gE t0++(gE m++[u]):=by rcases y with rfl |rfl;rw[av<|by decide];rfl;rw[ax rfl];rfl
theorem Fv(hT:W7 T)(h1:∀e xs,VC (Vv r) X R cd ((decide<|bw T e=[43]\/bw T e=[45])) (((e:Nat):Int),xs) ((e:Int),xs))(h2:∀e xs m e',(bw T e=[43]\/bw T e=[45])->xH (g T n) T (e+1)=(some m,e')->dp T e+(n+1:Nat)=21->xs.length<=2*e->Wq (Vv r) X R body (.nx R) (((e:Nat):Int),xs) ((e':Int),xs++ay (gE m++[bw T e]))):∀(f:Nat)(t0:Tr)(e0:Nat)(xs:aM)(t:Tr)(e a:Nat),XA T a t0 e0->T.length<=e0+f->dp T a+(n+1:Nat)=21->xs.length<=2*a->oK (g T n) T a0 f t0 e0=(some t,e)->∃k,WB (Vv r) X cd body k R ((e0:Int),xs++ay (gE t0)) R ((e:Int),xs++ay (gE t))
 |0,t0,e0,xs,t,e,a,A,hf,hd,hx,hG=>by injection hG with q1 q2;injection q1 with q1;subst q1;subst q2;refine⟨0,.stop<|VC.eq (h1 e0 _) (aj λz=>?_)⟩;have:=fU (by rcases z with z |z<;>rw[z]<;>simp);lia
 |f+1,t0,e0,xs,t,e,a,A,hf,hd,hx,hG=>by
  unfold oK at hG;split at hG;rename_i y;split at hG;rename_i m e' hF;have l1:=A.lt;have l2:=(oQ (fV T n) hF).lt;have fa:=A.W2;have ln:(xs++ay (gE t0)).length<=2*e0:=by unfold ay;rw[ag,ai];lia
  obtain⟨k,run⟩:=Fv hT h1 h2 f (if bw T e0=[45]then .sub t0 m else .add t0 m) e' xs t e a (wK (a0:=a0) (fV T n) 1 t0 e0 _ _ A<|by unfold oK;rw[ax y,hF];rfl) (by lia) hd hx hG;refine⟨k+1,.step (VC.eq (h1 e0 _)<|ar y) (h2 e0 _ m e' y hF (by rwa[A.WQ]) ln) ?_⟩;have ex:xs++ay (gE t0)++ay (gE m++[bw T e0])=xs++ay (gE (if bw T e0=[45]then .sub t0 m else .add t0 m)):=by rw[Nf y];unfold ay;rw[aE (l₁:=gE t0),aO]
  rwa[ex];cases hG;rename_i y;injection hG with q1 q2;injection q1 with q1;subst q1;subst q2;exact⟨0,.stop<|VC.eq (h1 e0 _)<|aj y⟩
theorem Cw(hT:W7 T)(h1:∀e xs,VC (Vv r) X R cd ((decide<|bw T e=[43]\/bw T e=[45])) (((e:Nat):Int),xs) ((e:Int),xs))(h2:∀e xs m e',(bw T e=[43]\/bw T e=[45])->xH (g T n) T (e+1)=(some m,e')->dp T e+(n+1:Nat)=21->xs.length<=2*e->Wq (Vv r) X R body (.nx R) (((e:Nat):Int),xs) ((e':Int),xs++ay (gE m++[bw T e])))(h3:∀e xs,(bw T e=[43]\/bw T e=[45])->(xH (g T n) T<|e+1).1=none->dp T e+(n+1:Nat)=21->xs.length<=2*e->Dy (Vv r) X R body C (((e:Nat):Int),xs)):∀(f:Nat)(t0:Tr)(e0:Nat)(xs:aM)(a:Nat),XA T a t0 e0->dp T a+(n+1:Nat)=21->xs.length<=2*a->(oK (g T n) T a0 f t0 e0).1=none->∃k,kM (Vv r) X cd body C k R ((e0:Int),xs++ay (gE t0))
 |0,t0,e0,xs,a,A,hd,hx,hG=>by cases hG
 |f+1,t0,e0,xs,a,A,hd,hx,hG=>by
  unfold oK at hG;by_cases y:bw T e0=[43]\/bw T e0=[45];rw[ax y]at hG;have l1:=A.lt;have fa:=A.W2;have ln:(xs++ay (gE t0)).length<=2*e0:=by unfold ay;rw[ag,ai];lia
  cases hF:xH (g T n) T (e0+1)with
  |mk o e'=>
   rw[hF]at hG;cases o with
   |none=>exact⟨0,.here (VC.eq (h1 e0 _)<|ar y)<|h3 e0 _ y (by rw[hF]) (by rwa[A.WQ]) ln⟩
   |some m=>
    obtain⟨k,run⟩:=Cw hT h1 h2 h3 f (if bw T e0=[45]then .sub t0 m else .add t0 m) e' xs a (wK (a0:=a0) (fV T n) 1 t0 e0 _ _ A<|by unfold oK;rw[ax y,hF];rfl) hd hx hG;refine⟨k+1,.next (VC.eq (h1 e0 _)<|ar y) (h2 e0 _ m e' y hF (by rwa[A.WQ]) ln) ?_⟩;have ex:xs++ay (gE t0)++ay (gE m++[bw T e0])=xs++ay (gE (if bw T e0=[45]then .sub t0 m else .add t0 m)):=by rw[Nf y];unfold ay;rw[aE (l₁:=gE t0),aO]
    rwa[ex]
  rw[av y]at hG;cases hG
theorem v6{n:Nat}(h:cG P w K mg base k hU ge X)(c1:Vq X "read_factor" (CZ GF<|n+1))(c2:Vq X "next_token" bE)(c3:Vq X "take_token" bu):HK X hU ge (CZ GP<|n+1):=by
 rintro r ok ds ⟨i,xs⟩ d s' ⟨T,a,tr,e,rfl,er,hT,hn,hd,hl,hG,rfl,rfl⟩;have t:=h.at';haveI:=h.VR;have ho:∀x∈r.toks,PyData.strOk x=true:=by rw[er];exact hT.so
 have Wi:i=a:=hn;subst Wi;have tm:=hT.many;refine .inr ⟨rfl,[.val<|.adr r.p],?_⟩;have VY:xH (g T n) T a=(some tr,e):=hG;unfold xH at VY;split at VY;rename_i t' e' hs;refine bo (cz<|b0 t ok c1 (bb (Vp.z<|aa t 0)<|VL.z af) ⟨T,a,t',e',rfl,er,hT,rfl,hd,hl,hs,rfl,rfl⟩)<|cA<|nL t<|FG hT (λe xs=>mJ t ok c2 ho rfl (by decide)<|by rw[er,fL,MZ,fB]) (λe xs m e' y hF Zy ln=>?_) T.length t' e' xs tr e a (lh (fV T n) hs) (by lia) hd hl VY;have F:=lh (fV T n) hF;have fe:=F.le;have ff:=F.W2;have yl:=fU (by rw[y];simp);refine bo (cz<|gb t ok c3 rfl)<|bo (cz<|b0 t ok c1 (bb (Vp.z<|aa t 0)<|VL.z af) ⟨T,e+1,m,e',rfl,er,hT,rfl,by rwa[fv yl (by rw[y];simp)<|by rw[y];simp],by show xs.length<=2*(e+1);lia,hF,rfl,rfl⟩)<|cA<|Qn (kZ t ok 0 rfl (Vp.z Vo)<|lC<|by show(xs++ay (gE m)).length<=100000;unfold ay;rw[ag,ai];lia) ?_;refine je rfl ?_;rw[MZ];unfold ay;rw[aE,aO];rfl;cases VY
theorem v8{n:Nat}(h:cG P w K mg base k hU ge X)(c1:Vq X "read_factor" (CZ GF<|n+1))(x1:di X "read_factor" C (RZ GF<|n+1))(c2:Vq X "next_token" bE)(c3:Vq X "take_token" bu):yk X hU ge C (RZ GP<|n+1):=by
 rintro r ok ds ⟨i,xs⟩ ⟨T,a,rfl,er,hT,hn,hd,hl,hG⟩;have t:=h.at';haveI:=h.VR;have ho:∀x∈r.toks,PyData.strOk x=true:=by rw[er];exact hT.so
 have Wi:i=a:=hn;subst Wi;have tm:=hT.many;have VY:(xH (g T n) T a).1=none:=hG;unfold xH at VY;cases hs:lS (g T n) T a with|mk o e'=>rw[hs]at VY;cases o with|none=>exact aY (fK<|ft t ok x1 (bb (Vp.z<|aa t 0)<|VL.z af) ⟨T,a,rfl,er,hT,rfl,hd,hl,by show(lS (g T n) T a).1=none;rw[hs]⟩)|some t'=>refine bU t (cz<|b0 t ok c1 (bb (Vp.z<|aa t 0)<|VL.z af) ⟨T,a,t',e',rfl,er,hT,rfl,hd,hl,hs,rfl,rfl⟩)<|aY<|nM t<|CD hT (λe xs=>mJ t ok c2 ho rfl (by decide)<|by rw[er,fL,MZ,fB]) (λe xs m e' y hF Zy ln=>?_) (λe xs y hF Zy ln=>?_) T.length t' e' xs a (lh (fV T n) hs) hd hl VY;have F:=lh (fV T n) hF;have fe:=F.le;have ff:=F.W2;have yl:=fU (by rw[y];simp);refine bo (cz<|gb t ok c3 rfl)<|bo (cz<|b0 t ok c1 (bb (Vp.z<|aa t 0)<|VL.z af) ⟨T,e+1,m,e',rfl,er,hT,rfl,by rwa[fv yl (by rw[y];simp)<|by rw[y];simp],by show xs.length<=2*(e+1);lia,hF,rfl,rfl⟩)<|cA<|Qn (kZ t ok 0 rfl (Vp.z Vo)<|lC<|by show(xs++ay (gE m)).length<=100000;unfold ay;rw[ag,ai];lia) ?_;refine je rfl ?_;rw[MZ];unfold ay;rw[aE,aO];rfl;exact bU t (cz<|gb t ok c3 rfl)<|aY<|fK<|ft t ok x1 (bb (Vp.z<|aa t 0)<|VL.z af) ⟨T,e+1,rfl,er,hT,rfl,by rwa[fv (fU<|by rw[y];simp) (by rw[y];simp)<|by rw[y];simp],by show xs.length<=2*(e+1);lia,hF⟩
def Jv(p q:Prop)[Decidable p][Decidable q]:(decide p||decide q)=decide (p\/q):=by by_cases h:p<;>by_cases h2:q<;>simp[h,h2]
def Dj{n:Nat}(h:cG P w K mg base k lY jJ X)(c1:Vq X "read_product" (CZ GP<|n+1))(c2:Vq X "next_token" bE)(c3:Vq X "take_token" bu):HK X lY jJ (CZ g<|n+1):=by
 rintro r ok ds ⟨i,xs⟩ d s' ⟨T,a,tr,e,rfl,er,hT,hn,hd,hl,hG,rfl,rfl⟩;have t:=h.at';haveI:=h.VR;have ho:∀x∈r.toks,PyData.strOk x=true:=by rw[er];exact hT.so
 have Wi:i=a:=hn;subst Wi;have tm:=hT.many;refine .inr ⟨rfl,[.val<|.adr r.p,.un],?_⟩;have VY:J0 (g T n) T a=(some tr,e):=hG;unfold J0 at VY;split at VY;rename_i t' e' hs;refine bo (cz<|b0 t ok c1 (bb (Vp.z<|aa t 0)<|VL.z af) ⟨T,a,t',e',rfl,er,hT,rfl,hd,hl,hs,rfl,rfl⟩)<|cA<|nL t<|Fv hT (λe xs=>Nq t ok c2 ho rfl<|by rw[er,fL,R5,HI,fB,fB,Jv]) (λe xs m e' y hF Zy ln=>?_) T.length t' e' xs tr e a (oQ (fV T n) hs) (by lia) hd hl VY;have F:=oQ (fV T n) hF;have fe:=F.le;have ff:=F.W2;have yl:=fU (by rcases y with y |y<;>rw[y]<;>simp);refine Wq.weak (bo (gN t 1<|Vz.eq (gb t ok c3 rfl)<|by rw[er,fL])<|bo (cz<|b0 t ok c1 (bb (Vp.z<|aa t 0)<|VL.z af) ⟨T,e+1,m,e',rfl,er,hT,rfl,by rwa[fv yl (by rcases y with y |y<;>rw[y]<;>simp)<|by rcases y with y |y<;>rw[y]<;>simp],by show xs.length<=2*(e+1);lia,hF,rfl,rfl⟩)<|cA<|Qn (kZ t ok 0 rfl (Vp.z<|aa t 1)<|lC<|by show(xs++ay (gE m)).length<=100000;unfold ay;rw[ag,ai];lia) ?_)<|.keep<|.forget .nil;refine je rfl ?_;unfold ay;rw[aE,aO];rfl;cases VY
def Dl{n:Nat}(h:cG P w K mg base k lY jJ X)(c1:Vq X "read_product" (CZ GP<|n+1))(x1:di X "read_product" C (RZ GP<|n+1))(c2:Vq X "next_token" bE)(c3:Vq X "take_token" bu):yk X lY jJ C (RZ g<|n+1):=by
 rintro r ok ds ⟨i,xs⟩ ⟨T,a,rfl,er,hT,hn,hd,hl,hG⟩;have t:=h.at';haveI:=h.VR;have ho:∀x∈r.toks,PyData.strOk x=true:=by rw[er];exact hT.so
 have Wi:i=a:=hn;subst Wi;have tm:=hT.many;have VY:(J0 (g T n) T a).1=none:=hG;unfold J0 at VY;cases hs:xH (g T n) T a with|mk o e'=>rw[hs]at VY;cases o with|none=>exact aY (fK<|ft t ok x1 (bb (Vp.z<|aa t 0)<|VL.z af) ⟨T,a,rfl,er,hT,rfl,hd,hl,by show(xH (g T n) T a).1=none;rw[hs]⟩)|some t'=>refine bU t (cz<|b0 t ok c1 (bb (Vp.z<|aa t 0)<|VL.z af) ⟨T,a,t',e',rfl,er,hT,rfl,hd,hl,hs,rfl,rfl⟩)<|aY<|nM t<|Cw hT (λe xs=>Nq t ok c2 ho rfl<|by rw[er,fL,R5,HI,fB,fB,Jv]) (λe xs m e' y hF Zy ln=>?_) (λe xs y hF Zy ln=>?_) T.length t' e' xs a (oQ (fV T n) hs) hd hl VY;have F:=oQ (fV T n) hF;have fe:=F.le;have ff:=F.W2;have yl:=fU (by rcases y with y |y<;>rw[y]<;>simp);refine Wq.weak (bo (gN t 1<|Vz.eq (gb t ok c3 rfl)<|by rw[er,fL])<|bo (cz<|b0 t ok c1 (bb (Vp.z<|aa t 0)<|VL.z af) ⟨T,e+1,m,e',rfl,er,hT,rfl,by rwa[fv yl (by rcases y with y |y<;>rw[y]<;>simp)<|by rcases y with y |y<;>rw[y]<;>simp],by show xs.length<=2*(e+1);lia,hF,rfl,rfl⟩)<|cA<|Qn (kZ t ok 0 rfl (Vp.z<|aa t 1)<|lC<|by show(xs++ay (gE m)).length<=100000;unfold ay;rw[ag,ai];lia) ?_)<|.keep<|.forget .nil;refine je rfl ?_;unfold ay;rw[aE,aO];rfl;exact bU t (gN t 1<|Vz.eq (gb t ok c3 rfl)<|by rw[er,fL])<|aY<|fK<|ft t ok x1 (bb (Vp.z<|aa t 0)<|VL.z af) ⟨T,e+1,rfl,er,hT,rfl,by rwa[fv (fU<|by rcases y with y |y<;>rw[y]<;>simp) (by rcases y with y |y<;>rw[y]<;>simp)<|by rcases y with y |y<;>rw[y]<;>simp],by show xs.length<=2*(e+1);lia,hF⟩
def IQ(u:bI):Bool:=!u.all (λc=>decide<|48<=c/\c<=57)||(decide (12<u.length)||(decide (u.head?=some 48)&& !decide (u=[48])))
def Lw{u:bI}(hu:u≠[])(h:¬yh u):IQ u=true:=by
 have hn:rM u=false:=by cases e:rM u with|false=>rfl|true=>exact absurd ((uf u).mp e) h
 unfold rM at hn;unfold IQ;have e0:u.isEmpty=false:=by simpa using hu
 rw[e0]at hn;generalize u.all (λc=>decide<|48<=c/\c<=57)=A at*;have e1:decide (12<u.length)= !decide (u.length<=12):=by by_cases q:u.length<=12<;>simp[q]<;>lia
 have e2:decide (u.head?≠some 48)= !decide (u.head?=some 48):=by by_cases q:u.head?=some 48<;>simp[q]
 rw[e1];rw[e2]at hn;generalize decide (u.length<=12)=B at*;generalize decide (u.head?=some 48)=E at*;generalize decide (u=[48])=G at*;revert hn;cases A<;>cases B<;>cases E<;>cases G<;>decide
def GZ(u:bI):([PyData.str "x",.str "y",.str "not",.str "and",.str "or",.str "some",.str "all"].any λy=>PyData.eqv y<|.str<|S u)=decide (u∈AX):=by
 have e:[PyData.str "x",.str "y",.str "not",.str "and",.str "or",.str "some",.str "all"]=VA (ay AX):=by unfold ay AX;simp only[bp,rS,VA,gw];rw[show("x":Str)=S [120]by decide,show("y":Str)=S [121]by decide,show("not":Str)=S [110,111,116]by decide,show("and":Str)=S [97,110,100]by decide,show("or":Str)=S [111,114]by decide,show("some":Str)=S [115,111,109,101]by decide,show("all":Str)=S [97,108,108]by decide]
 rw[e];exact jW AX u
def iV(ds:aM):Prop:=∃u:bI,ds=[.str<|S u]/\u≠[]/\(∀c∈u,c<128)/\u.length<=20000/\¬WD u
def pN:∀ds,iV ds->ds.length=1:=by rintro _ ⟨a,rfl,_⟩;rfl
def oR(ds:aM):Prop:=∃pre u post:bI,ds=[.str<|S<|pre++u++post,.int pre.length]/\u≠[]/\(∀c∈u,al c=true)/\(∀c∈u,c<128)/\(∀c,post.head?=some c->al c=false)/\(pre++u++post).length<=20000/\¬WD u
def y9:∀ds,oR ds->ds.length=2:=by rintro _ ⟨a,b,c,rfl,_⟩;rfl
inductive LT:bI->bI->TK->Prop where
 |sp {cs:bI}:LT [32] cs []
 |run {u cs:bI}:WD u->(∀c,cs.head?=some c->al c=false)->LT u cs [u]
 |sign {c:Nat} {cs:bI}:al c=false->c≠32->T7 c cs->LT [c] cs [[c]]
 |dbl {c:Nat} {cs:bI}:(c=60\/c=62\/c=33)->LT [c,61] cs [[c,61]]
inductive Lx:bI->TK->Prop where
 |nil:Lx [] []
 |turn {p cs:bI} {ts us:TK}:LT p cs ts->Lx cs us->Lx (p++cs) (ts++us)
inductive ZY:bI->Prop where
 |bad {u cs:bI}:u≠[]->(∀c∈u,al c=true)->(∀c,cs.head?=some c->al c=false)->¬WD u->ZY (u++cs)
 |turn {p cs:bI} {ts:TK}:LT p cs ts->ZY cs->ZY (p++cs)
def LT.ne(h:LT p cs ts):p≠[]/\ts.length<=p.length/\(∀u∈ts,u=p):=by
 cases h with
 |sp=>exact⟨by simp,by simp,λu hu=>nomatch hu⟩|run h _=>exact⟨h.ne,by have:=List.length_pos_iff.mpr h.ne;simp;lia,λu hu=>by simpa using hu⟩
 |sign=>exact⟨by simp,by simp,λu hu=>by simpa using hu⟩|dbl=>exact⟨by simp,by simp,λu hu=>by simpa using hu⟩
def Lx.len(h:Lx cs ts):ts.length<=cs.length:=by induction h with|nil=>simp|turn l _ ih=>have:=l.ne.2.1;simp;lia
def Lf(cs:bI):∃u r,cs=u++r/\(∀c∈u,al c=true)/\(∀c,r.head?=some c->al c=false):=by induction cs with|nil=>exact⟨[],[],rfl,(λc h=>nomatch h),λc h=>nomatch h⟩|cons c cs ih=>by_cases h:al c=true;let⟨u,r,e,h1,h2⟩:=ih;refine⟨c::u,r,by rw[e];rfl,λd hd=>?_,h2⟩;rcases bc.mp hd with rfl |hd;exact h;exact h1 d hd;exact⟨[],c::cs,rfl,(λc h=>nomatch h),λd hd=>by cases hd;simpa using h⟩
theorem Nr:∀(n:Nat)(cs:bI),cs.length<=n->(∃ts,Lx cs ts)\/ZY cs
 |_,[],_=>.inl ⟨[],.nil⟩|0,c::cs,h=>by simp at h
 |n+1,c::cs,h=>by
  have go:∀{p r:bI}{ts:TK},c::cs=p++r->LT p r ts->(∃ts,Lx (c::cs) ts)\/ZY (c::cs):=λ{p r ts}e l=>by have hp:=List.length_pos_iff.mpr l.ne.1;have hl:=aL List.length e;rw[ag]at hl;rcases Nr n r (by simp at hl h;lia)with⟨us,q⟩ |q;exact .inl ⟨_,by rw[e];exact .turn l q⟩;exact .inr<|by rw[e];exact .turn l q
  by_cases ha:al c=true;let⟨u,r,e,h1,h2⟩:=Lf cs;have al1:∀d∈c::u,al d=true:=λd hd=>by rcases bc.mp hd with rfl |hd;exact ha;exact h1 d hd
  by_cases hr:WD (c::u);exact go (by rw[e];rfl)<|.run hr h2;exact .inr (by rw[e];exact .bad (by simp) al1 h2 hr);have ha':al c=false:=by simpa using ha
  by_cases h0:c=32;subst h0;exact go rfl .sp;by_cases hd:(c=60\/c=62\/c=33)/\cs.head?=some 61;obtain⟨r,er⟩:∃r,cs=61::r:=by
   cases cs with
   |nil=>cases hd.2
   |cons x r=>have:=hd.2;simp at this;subst this;exact⟨r,rfl⟩
  exact go (by rw[er];rfl)<|.dbl hd.1;refine go rfl<|.sign ha' h0 ?_;by_cases q:c=60\/c=62\/c=33;exact .inr ⟨q,λz=>hd ⟨q,z⟩⟩;exact .inl ⟨λz=>q<|.inl z,λz=>q<|.inr<|.inl z,λz=>q<|.inr<|.inr z⟩
def mP(ds:aM)(d:D):Prop:=∃(cs:bI)(ts:TK),ds=[.str<|S cs]/\Lx cs ts/\(∀c∈cs,c<128)/\cs.length<=20000/\d=.lst (ay ts)
def za:∀ds d,mP ds d->ds.length=1:=by rintro _ _ ⟨a,b,rfl,_⟩;rfl
def qE(ds:aM):Prop:=∃cs:bI,ds=[.str<|S cs]/\ZY cs/\(∀c∈cs,c<128)/\cs.length<=20000
def xp:∀ds,qE ds->ds.length=1:=by rintro _ ⟨a,rfl,_⟩;rfl
def uI(WJ:List Stmt)(i:Nat):Expr×List Stmt:=match WJ[i]? with|some (.While c b _ _)=>(c,b)|_=>(.Constant .none 0 ⟨0,0,0,0⟩,[])
def rQ(h:cG P w K mg base k eO dB X)(Xk:mg "all"=none)(Vw:mg "len"=none)(gW:Ul mg K "WORDS" E2)(gF:∃tk,mg "FIGURES"=some (.str Yg tk))(O:OwnCls "NoText" C vB vN mg base):P1 X eO dB C iV:=by
 rintro ds ⟨u,rfl,Xo,lt,hl,hr⟩;have t:=h.at';have O':OwnCls "NoText" C vB vN X.mg X.base:=by rw[h.V3,h.WA];exact O
 let⟨l,gm,gk⟩:=gW;have gm':X.mg "WORDS"=some (.ref l):=by rw[h.V3];exact gm
 have gk':=gk;rw[<-h.k']at gk';have gF':∃tk,X.mg "FIGURES"=some (.str Yg tk):=by rw[h.V3];exact gF
 have b1:=h.bt Xk;have b2:=h.bt Vw;have hz:=Wh hl;have cw:PyData.canLayAll0 [PyData.str "x",.str "y",.str "not",.str "and",.str "or",.str "some",.str "all"]=true:=by decide
 have ok:=dF lt;have rb:=Lw Xo λz=>hr<|.inl z;refine bU t (VN.z<|cj (xQ t (aa t 0).p (qv t gm' gk') (de ok) (cL _) cw<|(GZ u).trans (aj λz=>hr<|.inr z)) bQ)<|aY<|X1.z<|Am t ?_<|mo<|jV t O' Vo;obtain⟨c,cs,rfl⟩:∃c cs,u=c::cs:=by cases u with|nil=>exact absurd rfl Xo|cons c cs=>exact⟨c,cs,rfl⟩
 refine Vr.eq (BB (lU<|fM<|xP (bs:=(c::cs).map λx=>decide<|48<=x/\x<=57) t b1<|VD.toQ<|VD.eq (jt (rs:=(S<|c::cs).cps.toList.map λx=>D.bl<|decide<|48<=x/\x<=57) t ["run","sign"] (Hy rfl) (ED (aa t 0)<|KI lt) (by unfold KY;rw[ai,eQ];exact bM hl<|by decide) λX' cx=>?_) ?_) (λ_=>gf (dX t b2 (aa t 0) hz) ah) λ_ _=>fN (cK t (c7 (aa t 0) ah hz<|by rw[eQ];exact dJ rfl) Vo (dF λx hx=>lt x<|by simp at hx;simp[hx])) λz=>EB t (aa t 0).p Vo.p (gO ok) (gO<|by decide) (r:=!decide (c::cs=[48])) ?_) ?_;exact VX.gen (λc=>D.str ⟨#[c]⟩) _ (λx=>[.val<|.str<|S<|c::cs,.val<|.str ⟨#[x]⟩]) _ _ (λx hx=>cD cx.at' 1) (λx hx y hy=>cD cx.at' 1) λx hx=>Bz (aa cx.at' 1 rfl) (qq cx.at'<|by rwa[cx.V3])<|by rw[eQ]at hx;exact xJ x<|lt x hx
 rw[eQ,dP];rfl;show(!(S (c::cs)==("0":Str)))=_;rw[show("0":Str)=S [48]by decide];by_cases q:c::cs=[48];rw[q];simp;rw[aj q,bF.mpr λz=>q<|fG z];rw[<-rb];have ea:((c::cs).map λx=>decide<|48<=x/\x<=57).all id=(c::cs).all λx=>decide (48<=x/\x<=57):=by rw[yr];rfl
 rw[ea,ce];congr 2;simp;lia;congr 1;rw[show(⟨#[c]⟩:Str)=S [c]from rfl,show("0":Str)=S [48]by decide,fB];simp
def Dk(h:cG P w K mg base k lX jI X)(x1:j9 X "refuse_wrong_run" C iV)(c2:EV.Callee X "end_of_run" lj):P1 X lX jI C oR:=by
 rintro ds ⟨pre,u,post,rfl,Xo,hu,lt,hp,hz,hr⟩;have t:=h.at';haveI:=h.VR;obtain⟨c,cs,rfl⟩:∃c cs,u=c::cs:=by cases u with|nil=>exact absurd rfl Xo|cons c cs=>exact⟨c,cs,rfl⟩
 refine aY<|pV t (Vr.z<|Vr.eq (fM<|jN<|c7 (aa t 0) (aa t 1) (Wh hz) ?_)<|by rw[show(⟨#[c]⟩:Str)=S [c]from rfl,HJ];exact hu c<|by simp)<|bU t (VN.z<|bg t 2<|Vp.eq (oO (aa t 0) (aa t 1) (aB t c2 (ac (aa t 0)<|ac (aa t 1) af) ⟨pre,c::cs,post,rfl,hu,hp,hz,rfl⟩)<|Wh hz)<|by rw[NQ])<|aY<|X1.z<|DR<|sx t x1 (ac (aa t 2) af) ⟨_,rfl,by simp,lt,by rw[ag,ag]at hz;lia,hr⟩;have:=sX (pre:=pre) (post:=cs++post) (c:=c);simpa using this
def tQ{cs:bI}(t:At X fO (aq cb))(b1:kN X (aq cb) "len" (.builtin "len"))(hz:cs.length<=20000)(pre:bI)(done:TK):Vr X [.val<|.str<|S cs,.own<|ay done,.val<|.int pre.length] (uI (aW cb) 1).1 (decide<|pre.length<cs.length):=Vr.eq (io (aa t 2)<|dX t b1 (aa t 0)<|Wh hz)<|by rw[ce];simp
def Cr{pre:bI}{done:TK}[WR X](t:At X fO (aq cb))(b1:kN X (aq cb) "len" (.builtin "len"))(c1:EV.Callee X "token_at" iX)(l:LT p Xp ts)(ha:∀c∈pre++(p++Xp),c<128)(hz:(pre++(p++Xp)).length<=20000)(hd:done.length<=20000):Vt X [.val<|.str<|S<|pre++(p++Xp),.own<|ay done,.val<|.int pre.length] (uI (aW cb) 1).2 (.nx [.val<|.str<|S<|pre++(p++Xp),.own<|ay<|done++ts,.val<|.int (pre++p).length]):=by
 cases l with
 |sp=>refine Vt.eq (az<|dA (Vr.eq (cK t (c7 (aa t 0) (aa t 2) (Wh hz) sX) Vo<|by decide) rfl)<|az<|mW t 2 (v:=((pre++[32]).length:Nat)) rfl ah<|by simp) ?_;rw[aX];rfl
 |run hu hp=>
  obtain⟨c,u',rfl⟩:∃c u',p=c::u':=by cases p with|nil=>exact absurd rfl hu.ne|cons c cs=>exact⟨c,cs,rfl⟩
  have hc:=hu.al c (by simp);have hc2:S [c]≠S [32]:=λe=>by have:=fG e;cases this;rw[NN]at hc;cases hc
  have ZC:me (S<|pre++((c::u')++Xp)).cps.toList pre.length=some c:=sX;refine az<|cj (Vr.eq (cK t (c7 (aa t 0) (aa t 2) (Wh hz) ZC) Vo (dF λx hx=>hu.lt x<|by simp at hx;simp[hx]))<|by rwa[aZ,show(" ":Str)=S [32]by decide]) ?_;refine au (gz t 1 rfl (aB t c1 (ac (aa t 0)<|ac (aa t 2) af) ⟨pre,Xp,.inl ⟨c::u',by rw[aO],hu,hp,by rwa[aO],rfl⟩⟩)<|by unfold ay;rw[ai];exact bM hd<|by decide)<|az<|VN.eq (mW t 2 (v:=((pre++(c::u')).length:Nat)) rfl (dX t b1 (br (lT t 1 rfl) (kF ah)<|Cd<|.inl rfl)<|Wh<|aJ hu.len<|by decide)<|by rw[ce];simp) ?_;unfold ay;simp
 |@sign c _ hc h0 hsg=>
  have hc2:S [c]≠S [32]:=λe=>by have:=fG e;cases this;exact h0 rfl
  have V1:∀x∈c::Xp,x<128:=λx hx=>ha x<|aF _ hx;refine az<|cj (Vr.eq (cK t (c7 (aa t 0) (aa t 2) (Wh hz) sX) Vo (dF λx hx=>V1 x<|by simp at hx;simp[hx]))<|by rwa[aZ,show(" ":Str)=S [32]by decide]) ?_;refine au (gz t 1 rfl (aB t c1 (ac (aa t 0)<|ac (aa t 2) af) ⟨pre,Xp,.inr<|.inl ⟨c,rfl,hc,V1,hsg,hz,rfl⟩⟩)<|by unfold ay;rw[ai];exact bM hd<|by decide)<|az<|VN.eq (mW t 2 (v:=((pre++[c]).length:Nat)) rfl (dX t b1 (br (lT t 1 rfl) (kF ah)<|Cd<|.inl rfl)<|Wh<|by simp)<|by rw[ce];simp) ?_;unfold ay;simp
 |@dbl c _ hc3=>
  have hc2:S [c]≠S [32]:=λe=>by have:=fG e;cases this;lia
  have V1:∀x∈c::61::Xp,x<128:=λx hx=>ha x<|aF _ hx;refine az<|cj (Vr.eq (cK t (c7 (aa t 0) (aa t 2) (Wh hz) sX) Vo (dF λx hx=>V1 x<|by simp at hx;simp[hx]))<|by rwa[aZ,show(" ":Str)=S [32]by decide]) ?_;refine au (gz t 1 rfl (aB t c1 (ac (aa t 0)<|ac (aa t 2) af) ⟨pre,Xp,.inr<|.inr ⟨c,rfl,hc3,hz,rfl⟩⟩)<|by unfold ay;rw[ai];exact bM hd<|by decide)<|az<|VN.eq (mW t 2 (v:=((pre++[c,61]).length:Nat)) rfl (dX t b1 (br (lT t 1 rfl) (kF ah)<|Cd<|.inl rfl)<|Wh<|by simp)<|by rw[ce];simp) ?_;unfold ay;simp
def Lc{cs:bI}{bP:bI}[WR X](t:At X fO (aq cb))(b1:kN X (aq cb) "len" (.builtin "len"))(c1:EV.Callee X "token_at" iX)(ha:∀c∈cs,c<128)(hz:cs.length<=20000)(hl:Lx bP us):∀(pre:bI)(done:TK),cs=pre++bP->done.length<=pre.length->∃m,Wv X (uI (aW cb) 1).1 (uI (aW cb) 1).2 m [.val<|.str<|S cs,.own<|ay done,.val<|.int pre.length] (.nx [.val<|.str<|S cs,.own<|ay<|done++us,.val<|.int cs.length]):=by induction hl with|nil=>intro pre done e hd;rw[aX]at e;subst e;exact⟨0,by rw[aX];exact .stop<|Vr.eq (tQ t b1 hz cs done)<|aj<|by lia⟩|@turn p r ts us l _ ih=>intro pre done e hd;have lp:=List.length_pos_iff.mpr l.ne.1;have lt2:=l.ne.2.1;subst e;let⟨m,run⟩:=ih (pre++p) (done++ts) (by rw[aO]) (by simp;lia);rw[aO]at run;exact⟨m+1,.step (Vr.eq (tQ t b1 hz pre done)<|ar<|by simp;lia) (Cr t b1 c1 l ha hz<|by rw[ag]at hz;lia) run⟩
def Dn(h:cG P w K mg base k fO cb X)(Vw:mg "len"=none)(c1:EV.Callee X "token_at" iX):Go X fO cb mP:=by rintro ds r ⟨cs,ts,rfl,hl,ha,hz,rfl⟩;have t:=h.at';haveI:=h.VR;have b1:=h.bt Vw;exact au (wn t 1 2 (bK af) ah<|by decide)<|au (gp t<|Lc t b1 c1 ha hz hl [] [] rfl<|ao _)<|fJ 1 rfl<|az<|bj<|aa t 1
def Iz{cs:bI}{bP:bI}[WR X](t:At X fO (aq cb))(b1:kN X (aq cb) "len" (.builtin "len"))(c1:EV.Callee X "token_at" iX)(x1:j9 X "token_at" C oR)(ha:∀c∈cs,c<128)(hz:cs.length<=20000)(hl:ZY bP):∀(pre:bI)(done:TK),cs=pre++bP->done.length<=pre.length->∃m,kM LS0 X (uI (aW cb) 1).1 (uI (aW cb) 1).2 C m [.val<|.str<|S cs,.own<|ay done,.val<|.int pre.length] ():=by
 induction hl with
 |@bad u r Xo hu hb hr=>
  intro pre done e hd;subst e;have lp:=List.length_pos_iff.mpr Xo;obtain⟨c,u',rfl⟩:∃c u',u=c::u':=by cases u with|nil=>exact absurd rfl Xo|cons c cs=>exact⟨c,cs,rfl⟩
  have hc:=hu c (by simp);have V1:∀x∈c::u',x<128:=λx hx=>ha x<|aF _<|fH _ hx;have hc2:S [c]≠S [32]:=λe=>by have:=fG e;cases this;rw[NN]at hc;cases hc
  have ZC:me (S<|pre++((c::u')++r)).cps.toList pre.length=some c:=sX;refine⟨0,.here (Vr.z<|Vr.eq (tQ t b1 hz pre done)<|ar<|by simp)<|aY<|wP t (Vr.z<|Vr.eq (cK t (c7 (aa t 0) (aa t 2) (Wh hz) ZC) Vo (dF λx hx=>V1 x<|by simp at hx;simp[hx]))<|by rwa[aZ,show(" ":Str)=S [32]by decide])<|aY<|fK<|uJ t (Jt t 1 rfl)<|XvE.z<|sx t x1 (ac (aa t 0)<|ac (aa t 2) af) ⟨pre,c::u',r,by rw[aO],by simp,hu,V1,hb,by rwa[aO],hr⟩⟩
 |@turn p r ts l _ ih=>intro pre done e hd;have lp:=List.length_pos_iff.mpr l.ne.1;have lt2:=l.ne.2.1;subst e;let⟨m,run⟩:=ih (pre++p) (done++ts) (by rw[aO]) (by simp;lia);exact⟨m+1,.next (Vr.z<|Vr.eq (tQ t b1 hz pre done)<|ar<|by simp;lia) (Vt.z<|Cr t b1 c1 l ha hz<|by rw[ag]at hz;lia) run⟩
def BU(h:cG P w K mg base k fO cb X)(Vw:mg "len"=none)(c1:EV.Callee X "token_at" iX)(x1:j9 X "token_at" C oR):P1 X fO cb C qE:=by rintro ds ⟨cs,rfl,hl,ha,hz⟩;have t:=h.at';haveI:=h.VR;have b1:=h.bt Vw;exact bU t (VN.z<|wn t 1 2 (bK af) ah<|by decide)<|aY<|nM t<|Iz t b1 c1 x1 ha hz hl [] [] rfl<|ao _
section
variable {ds:aM}
def C9(t:At X N sc){C:aM->D->Prop}(h:EV.Callee X x C)(ha:E6 X q U (e::es) ds xs W9)(hC:C ds d)(hg:sw sc x:=by rfl)(Wb:pE x:=by rfl):V4 X q U (.Call (.Name x p) (e::es) [] pos) d xs W9:=λB F0 H Y Q us l k w=>.mk λon s I=>by let⟨f,fd,ps,kk,F,Yn,hm,hk,hb⟩:=h;have pz:iB jd X E0:=qf;refine j7 F Yn (dI t hg) hm hk hb .nil pz nU Wb (ha.1.1 _ _) (Yf.any ha.1.2) on s Y H Q I (ha.2 B F0 H Y _ us l k λvs F1 H1 u1 x1 r1 rv=>?_);have k1:=k.XM l x1;refine⟨F1,ds,d,k1.sub,by rwa[aX],hC,λv F2 H2 x2 YW=>w v F2 H2 u1 (x1.tM (l.ff k)<|x2.toM<|k1.sh _ _ aI) (r1.mono x2.sf) YW⟩
end
def XvG.z{S:LS}{s:S.ds}(h:XvG X U WJ C W1):Dy S X U WJ C s:=λE hp B F H Y c l k on w I hE=>h E hp B F H Y k on w I λv w' ⟨WF,H1,s1,F',H',i,o,sf,th⟩=>hE v w' ⟨WF,H1,s1,W1,F',H',c,i,by rwa[Vy.same l.st],sf,th⟩
def WE.ix{xs:aM}(R:Nat->cE)(n:Nat)(h:∀i d,i<n->xs[i]?=some d->∃Wp,XD X (R i) tg d Wp/\Vt X Wp body (.nx<|R<|i+1))(hn:∃d Wp,xs[n]?=some d/\XD X (R n) tg d Wp/\E1 X true Wp body C W1):∀(k i:Nat),i+k=n->WE X tg body C W1 (xs.drop i) (R i)
 |0,i,e=>by
  have e':i=n:=by lia
  subst e';let⟨d,Wp,e2,g,b⟩:=hn;let⟨hj,eu⟩:=List.getElem?_eq_some_iff.mp e2;rw[cY hj,eu];exact .here g b
 |k+1,i,e=>by
  let⟨d,Wp,e2,_⟩:=hn;have hl:=(List.getElem?_eq_some_iff.mp e2).1;have hi:i<xs.length:=by lia
  let⟨WP,g,b⟩:=h i xs[i] (by lia)<|List.getElem?_eq_getElem hi;rw[cY hi];exact .next g b (WE.ix R n h ⟨d,Wp,e2,‹_›⟩ k (i+1)<|by lia)
def m6(ds:aM):Prop:=∃(ts:List bI)(o c:bI),ds=[.lst<|ay ts,.str<|S o,.str<|S c]/\(∀u∈ts,∀x∈u,x<128)/\(∀x∈o,x<128)/\(∀x∈c,x<128)/\¬(∀i,i<=ts.length->km o c (ts.take i)<=20)
def uZ:∀ds,m6 ds->ds.length=3:=by rintro _ ⟨a,b,c,rfl,_⟩;rfl
def Rm{p:Nat->Prop}:∀(n:Nat),p n->∃m,p m/\∀i,i<m->¬p i:=λn=>by induction n using Nat.strongRecOn with|_ n ih=>intro h;by_cases q:∃i,i<n/\p i;let⟨i,hi,hp⟩:=q;exact ih i hi hp;exact⟨n,h,λi hi hp=>q ⟨i,hi,hp⟩⟩
def pj(ts:List bI):Prop:=(∀i,i<=ts.length->km [40] [41] (ts.take i)<=20)/\∀i,i<=ts.length->km [91] [93] (ts.take i)<=20
def Lx.w(h:Lx cs ts):(∀c∈cs,c<128)->∀u∈ts,(∀c∈u,c<128)/\EF u=rM u/\u.length<=20:=by
 induction h with
 |nil=>intro _ u hu;exact nomatch hu
 |@turn p cs ts us l _ ih=>
  intro ha u hu;rcases bS.mp hu with hu |hu;have e:=l.ne.2.2 u hu;subst e;refine⟨λc hc=>ha c<|fH _ hc,?_⟩;have nd:∀{c:Nat}{q:bI},c<128->al c=false->EF (c::q)=rM (c::q):=λ{c q}h1 h2=>by
   have z:¬(48<=c/\c<=57):=λz=>by
    have:∀c,48<=c->c<=57->al c=true:=by
     intro c a b;have:c=48\/c=49\/c=50\/c=51\/c=52\/c=53\/c=54\/c=55\/c=56\/c=57:=by lia
     rcases this with rfl |rfl |rfl |rfl |rfl |rfl |rfl |rfl |rfl |rfl<;>decide
    rw[this c z.1 z.2]at h2;cases h2
   unfold EF rM;simp[z]
  cases l with
  |sp=>exact nomatch hu
  |run hr _=>
   refine⟨?_,aJ hr.len<|by decide⟩;rcases hr with hr |hr;rw[(uf u).mpr hr];obtain⟨c,u',rfl⟩:∃c u',u=c::u':=by cases u with|nil=>exact absurd rfl hr.1|cons c cs=>exact⟨c,cs,rfl⟩
   exact ar<|hr.2.1 c (by simp);have:∀u∈AX,EF u=rM u:=by decide
   exact this u hr
  |@sign c _ hc _ _=>exact⟨nd (ha c<|by simp) hc,by simp⟩|@dbl c _ hc=>exact⟨nd (ha c<|by simp) (by rcases hc with rfl |rfl |rfl<;>decide),by simp⟩
  exact ih (λc hc=>ha c<|aF _ hc) u hu
def Lx.ok(h:Lx cs ts)(ha:∀c∈cs,c<128)(hl:cs.length<=20000)(hd:pj ts):W7 ts:=⟨λu hu=>(h.w ha u hu).1,λu hu=>(h.w ha u hu).2.1,λu hu=>(h.w ha u hu).2.2,aJ h.len hl,hd.1⟩
def mQ(ds:aM)(toks:cn):Prop:=∃(cs:bI)(ts:List bI)(m:Nat),ds=[.str<|S cs,.int m]/\Lx cs ts/\(∀c∈cs,c<128)/\cs.length<=m/\m<=2000/\pj ts/\toks=sm ts
def ze:∀ds ts,mQ ds ts->ds.length=2:=by rintro _ _ ⟨a,b,c,rfl,_⟩;rfl
def R7(d:D)(m:Nat):Prop:=(Pk d=true/\JU d=false)\/∃cs:bI,d=.str (S cs)/\(∀c∈cs,c<128)/\cs.length<=20000/\(m<cs.length\/ZY cs\/∃ts,Lx cs ts/\¬pj ts)
def qF(ds:aM):Prop:=∃(d:D)(m:Nat),ds=[d,.int m]/\m<=2000/\R7 d m
def xq:∀ds,qF ds->ds.length=2:=by rintro _ ⟨a,b,rfl,_⟩;rfl
theorem xZ(h:cG P w K mg base k gL fR X)(gM:∃tk,mg "MOST_OPEN"=some (.int 20 tk))(O:OwnCls "NoText" C vB vN mg base):P1 X gL fR C m6:=by
 rintro ds ⟨ts,o,c,rfl,ha,ho,hc,hd⟩;have t:=h.at';haveI:=h.VR;have O':OwnCls "NoText" C vB vN X.mg X.base:=by rw[h.V3,h.WA];exact O
 have Ye:∃tk,X.mg "MOST_OPEN"=some (.int 20 tk):=by rw[h.V3];exact gM
 obtain⟨m,hm,hm2⟩:∃m,(m<=ts.length/\20<km o c (ts.take m))/\∀i,i<m->¬(i<=ts.length/\20<km o c (ts.take i)):=by
  obtain⟨m,q⟩:=Classical.not_forall.mp hd;have q2:m<=ts.length/\20<km o c (ts.take m):=by by_cases z:m<=ts.length;exact⟨z,by by_cases z2:20<km o c (ts.take m);exact z2;exact absurd (λ_=>by lia) q⟩;exact absurd (λy=>absurd y z) q
  exact Rm m q2
 have hm0:m≠0:=λe=>by subst e;have:=hm.2;rw[P8]at this;exact absurd this<|by show¬(20<(0:Int));decide
 obtain⟨n,rfl⟩:∃n,m=n+1:=⟨m-1,by lia⟩;have step:∀j d,(ay ts)[j]?=some d->∃u:bI,d=.str (S u)/\(∀x∈u,x<128)/\j<ts.length/\km o c (ts.take<|j+1)=km o c (ts.take j)+(b2i (decide<|S u=S o)-b2i (decide<|S u=S c)):=λj d e=>by
  unfold ay at e;rw[List.getElem?_map]at e;cases e2:ts[j]? with
  |none=>rw[e2]at e;cases e
  |some u=>rw[e2]at e;cases e;exact⟨u,rfl,ha u<|List.mem_of_getElem? e2,(List.getElem?_eq_some_iff.mp e2).1,by rw[tF,e2];exact n9 o c u _⟩
 have V1:n<(ay ts).length:=by unfold ay;rw[ai];lia
 obtain⟨u0,e0,hu0,hj0,et0⟩:=step n (ay ts)[n]<|List.getElem?_eq_getElem V1;refine XvG.z (W1:=[.val<|.lst<|ay ts,.val<|.str<|S o,.val<|.str<|S c,.val<|.int<|km o c<|ts.take<|n+1,.val (ay ts)[n]])<|Ig t (bg t 3 ah)<|Ih<|N1 t (qz<|aa t 0)<|WE.ix (λi=>[.val<|.lst<|ay ts,.val<|.str<|S o,.val<|.str<|S c,.val<|.int<|km o c<|ts.take i,.un]) n (λj d hj e=>?_) ⟨_,_,List.getElem?_eq_getElem V1,bq t 4,?_⟩ n 0 (by lia);obtain⟨u,rfl,hu,hj2,et⟩:=step j d e;refine⟨_,bq t 4,Vt.weak (au (mW t 3 rfl (By (qx t (aa t 4) (aa t 1) (dF hu)<|dF ho)<|qx t (aa t 4) (aa t 2) (dF hu)<|dF hc) et)<|az<|cj (Vr.eq (gf (aa t 3)<|hJ t Ye) ?_) bQ)<|.keep<|.keep<|.keep<|.keep<|.forget .nil⟩;have:=hm2 (j+1) (by lia);rw[aZ];exactλz=>this ⟨by lia,by lia⟩;rw[e0];refine K8 t (mW t 3 rfl (By (qx t (aa t 4) (aa t 1) (dF hu0)<|dF ho)<|qx t (aa t 4) (aa t 2) (dF hu0)<|dF hc) et0)<|mo<|Am t (Vr.eq (gf (aa t 3)<|hJ t Ye)<|ar<|by have:=hm.2;lia)<|mo<|jV t O' Vo
def B1(h:cG P w K mg base k kq i8 X)(VB:mg "isinstance"=none)(Yj:mg "str"=none)(Vw:mg "len"=none)(c1:EV.Callee X "tokens_of" mP)(c2:EV.Callee X "refuse_deep" kc)(M:Ud X "Reader" C):∀ds ts,mQ ds ts->DA X (Fd kq ds) (aW i8) ts:=by rintro ds r ⟨cs,ts,m,rfl,hl,ha,hm,hz,hd,rfl⟩;have t:=h.at';haveI:=h.VR;have b1:=h.bt VB;have b2:=h.bt Yj;have b3:=h.bt Vw;have ht:∀u∈ts,∀c∈u,c<128:=λu hu=>(hl.w ha u hu).1;refine uz (cj (Vr.eq (eM (u:=false) (Vr.eq (lU<|fM<|uv t b1 b2 (aa t 0) rfl) rfl) λ_=>gf (dX t b3 (aa t 0)<|Wh<|by lia)<|aa t 1) ?_) bQ) ?_;rw[ce,gj,aZ];lia;refine uz (bg t 2<|aB t c1 (ac (aa t 0) af) ⟨cs,ts,rfl,hl,ha,by lia,rfl⟩)<|uz (A8<|aB t c2 (ac (aa t 2)<|ac Vo<|ac Vo af) ⟨ts,[40],[41],rfl,ht,by simp,by simp,hd.1,rfl⟩) ?_;refine uz (A8<|aB t c2 (ac (aa t 2)<|ac Vo<|ac Vo af) ⟨ts,[91],[93],rfl,ht,by simp,by simp,hd.2,rfl⟩)<|Kg t M (Vp.eq (aa t 2) ?_);unfold ay sm;rw[dP];rfl
def BV(h:cG P w K mg base k kq i8 X)(VB:mg "isinstance"=none)(Yj:mg "str"=none)(Vw:mg "len"=none)(c1:EV.Callee X "tokens_of" mP)(x1:j9 X "tokens_of" C qE)(c2:EV.Callee X "refuse_deep" kc)(x2:j9 X "refuse_deep" C m6)(O:OwnCls "NoText" C vB vN mg base):P1 X kq i8 C qF:=by
 rintro ds ⟨d,m,rfl,hm,hd⟩;have t:=h.at';haveI:=h.VR;have O':OwnCls "NoText" C vB vN X.mg X.base:=by rw[h.V3,h.WA];exact O
 have b1:=h.bt VB;have b2:=h.bt Yj;have b3:=h.bt Vw;rcases hd with⟨hp,hs⟩ |⟨cs,rfl,ha,hz,hd⟩;exact aY<|X1.z<|Am t (Vr.eq (eM (u:=true) (v:=false) (Vr.eq (lU<|fM<|uv t b1 b2 (aa t 0 rfl) hp)<|by rw[hs];exact rfl) λz=>nomatch z) rfl)<|mo<|jV t O' Vo;by_cases q:m<cs.length;exact aY<|X1.z<|Am t (Vr.eq (eM (u:=false) (Vr.eq (lU<|fM<|uv t b1 b2 (aa t 0) rfl) rfl) λ_=>gf (dX t b3 (aa t 0)<|Wh hz)<|aa t 1)<|by rw[ce,gj,E9];lia)<|mo<|jV t O' Vo;refine bU t (VN.z<|cj (Vr.eq (eM (u:=false) (Vr.eq (lU<|fM<|uv t b1 b2 (aa t 0) rfl) rfl) λ_=>gf (dX t b3 (aa t 0)<|Wh hz)<|aa t 1)<|by rw[ce,gj,aZ];lia) bQ) ?_;rcases hd with hd |hd |⟨ts,hl,hd⟩;exact absurd hd q;exact aY<|X1.z<|Ii<|sx t x1 (ac (aa t 0) af) ⟨cs,rfl,hd,ha,hz⟩;have ht:∀u∈ts,∀c∈u,c<128:=λu hu=>(hl.w ha u hu).1;refine bU t (VN.z<|bg t 2<|aB t c1 (ac (aa t 0) af) ⟨cs,ts,rfl,hl,ha,hz,rfl⟩) ?_;by_cases q1:∀i,i<=ts.length->km [40] [41] (ts.take i)<=20;exact bU t (VN.z<|A8<|aB t c2 (ac (aa t 2)<|ac Vo<|ac Vo af) ⟨ts,[40],[41],rfl,ht,by simp,by simp,q1,rfl⟩)<|aY (X1.z<|DR<|sx t x2 (ac (aa t 2)<|ac Vo<|ac Vo af) ⟨ts,[91],[93],rfl,ht,by simp,by simp,λz=>hd ⟨q1,z⟩⟩);exact aY<|X1.z<|DR<|sx t x2 (ac (aa t 2)<|ac Vo<|ac Vo af) ⟨ts,[40],[41],rfl,ht,by simp,by simp,q1⟩
def Hg(u:bI):Int:=((PySem.NumText.digitsVal u:Nat):Int)
def NL(u:bI):Bd:=if u=[120]then [[0,1]]else if u=[121]then [[],[1]]else if Hg u=0 then []else [[Hg u]]
def vq(ds:aM)(d:D):Prop:=∃u,ds=[.str<|S u]/\WN u/\d=bz (NL u)
def CW:∀ds d,vq ds d->ds.length=1:=by rintro _ _ ⟨a,rfl,_⟩;rfl
def CM(h:yh u):PySem.intText? (S u)=some (Hg u):=by have:=PySem.intText_digits (by rw[eQ];exact h.2.1) (by rw[eQ];exact h.1) (by rw[ce];have:=h.2.2.1;lia);rwa[eQ]at this
def HH(h:cG P w K mg base k vo q9 X)(Wl:mg "int"=none):Go X vo q9 vq:=by
 rintro ds r ⟨u,rfl,hu,rfl⟩;have t:=h.at';haveI:=h.VR;have b1:=h.bt Wl;have ok:=dF hu.lt;have e1:decide (S u=("x":Str))=decide (u=[120]):=bG.mpr ⟨λe=>fG<|by rw[e];decide,λe=>by rw[e];decide⟩;have e2:decide (S u=("y":Str))=decide (u=[121]):=bG.mpr ⟨λe=>fG<|by rw[e];decide,λe=>by rw[e];decide⟩;refine ip (Vr.eq (cK t (aa t 0) Vo ok) e1) (λv=>az<|bj<|Vp.eq (aC<|ac (aC<|ac ah<|ac ah af) af) ?_) λv=>?_;rw[bV]at v;subst v;rfl;rw[aZ]at v;refine ip (Vr.eq (cK t (aa t 0) Vo ok) e2) (λv'=>az<|bj<|Vp.eq (aC<|ac (aC af)<|ac (aC<|ac ah af) af) ?_) λv'=>?_;rw[bV]at v';subst v';rfl;rw[aZ]at v';have hn:yh u:=by rcases hu with hh |hh |hh;exact hh;exact absurd hh v;exact absurd hh v'
 refine au (bg t 1<|wu t b1 (aa t 0) (CM hn)<|by rw[ce];have:=hn.2.2.1;lia)<|az<|bj ?_;unfold NL;rw[av v,av v'];by_cases e:Hg u=0;rw[ax e];exact sQ (Vr.eq (vc (aa t 1) ah)<|by rw[e];rfl)<|aC af;rw[av e];exact sP (Vr.eq (vc (aa t 1) ah)<|by rw[aj e];rfl)<|aC<|ac (aC<|ac (aa t 1) af) af
def vO(b:Bd):Nat->Bd|0=>[[1]]|i+1=>jj (vO b i) b
def NR(b:Bd)(m:Nat):Prop:=(∀i,i<m->Xy 100 (vO b i)/\PZ (vO b i))/\Xy 100 b/\PZ b
def jS(ds:aM)(d:D):Prop:=∃(b:Bd)(m:Nat),ds=[bz b,.int m]/\m<=9/\NR b m/\d=bz (vO b m)
def sM:∀ds d,jS ds d->ds.length=2:=by rintro _ _ ⟨a,b,rfl,_⟩;rfl
def vg(h:cG P w K mg base k jP ii X)(VJ:mg "range"=none)(c1:EV.Callee X "board_times" ke):Go X jP ii jS:=by
 rintro ds r ⟨b,m,rfl,hm,hb,rfl⟩;have t:=h.at';haveI:=h.VR;have b1:=h.bt VJ;refine au (bg t 2<|aC<|ac (aC<|ac ah af) af)<|au (mC t (jO t b1 (aa t 1) (by lia)<|by lia)<|VU.Wf (W1:=[.val<|bz b,.val<|.int m,.val<|bz<|vO b m,.un]) (λi=>[.val<|bz b,.val<|.int m,.val<|bz<|vO b i,.un]) (λj d e=>?_) rfl ?_)<|az<|bj<|aa t 2;have hj:j<m:=by have:=(List.getElem?_eq_some_iff.mp e).1;simpa[fu]using this
 exact⟨_,bq t 3,Vt.weak (az<|bg t 2<|aB t c1 (ac (aa t 2)<|ac (aa t 0) af) ⟨vO b j,b,rfl,(hb.1 j hj).1,hb.2.1,(hb.1 j hj).2,hb.2.2,rfl⟩)<|.keep<|.keep<|.keep<|.forget .nil⟩;simp[fu]
inductive WC:bI->List Bd->List Bd->Prop where
 |atom {u:bI} {st:List Bd}:WN u->WC u st (st++[NL u])
 |add {st:List Bd} {a b:Bd}:Xy 1000 a->Xy 1000 b->WC [43] (st++[a]++[b]) (st++[lM a b])
 |sub {st:List Bd} {a b:Bd}:Xy 1000 a->Xy 1000 b->WC [45] (st++[a]++[b]) (st++[lM a<|ug b])
 |mul {st:List Bd} {a b:Bd}:Xy 100 a->Xy 100 b->PZ a->PZ b->WC [42] (st++[a]++[b]) (st++[jj a b])
 |neg {st:List Bd} {b:Bd}:Xy 1000 b->WC [109,105,110,117,115] (st++[b]) (st++[lM []<|ug b])
 |pow {st:List Bd} {b:Bd} {d:Nat}:NR b d->d<=9->WC [94,48+d] (st++[b]) (st++[vO b d])
def oh(d0:D)(xs xs':aM):Prop:=∃(u:bI)(pre:aM)(st Wk:List Bd),d0=.str (S u)/\WC u st Wk/\pre.length+st.length<10000/\xs=pre++st.map bz/\xs'=pre++Wk.map bz
def UW:Xy 1000 []:=⟨by decide,λr h=>nomatch h⟩
def Uw(w:Str):((VA [D.str "+",.str "-",.str "*"]).any λy=>PyData.eqv y<|gw<|.str w)=(decide (w="+")||(decide (w="-")||decide (w="*"))):=by show((("+":Str)==w)||((("-":Str)==w)||((("*":Str)==w)||false)))=_;rw[jv,jv,jv,DN,bG.mpr<|Cm,bG.mpr (show("-":Str)=w↔w="-"from Cm),bG.mpr (show("*":Str)=w↔w="*"from Cm)]
def IP(h:WN u):∃c cs,u=c::cs/\((48<=c/\c<=57)\/(c=120/\cs=[])\/(c=121/\cs=[])):=by
 rcases h with h |rfl |rfl;cases u with|nil=>exact absurd rfl h.1|cons c cs=>exact⟨c,cs,rfl,.inl<|h.2.1 c<|by simp⟩
 exact⟨_,_,rfl,.inr<|.inl ⟨rfl,rfl⟩⟩;exact⟨_,_,rfl,.inr<|.inr ⟨rfl,rfl⟩⟩
def y6{u:bI}{z:Str}(hz:z=S v)(h:u≠v):decide (S u=z)=false:=aj λe=>h<|fG<|e.trans hz
def zp:("+":Str)=S [43]:=rfl
def zm:("-":Str)=S [45]:=rfl
def zt:("*":Str)=S [42]:=rfl
def zn:("minus":Str)=S [109,105,110,117,115]:=rfl
def zc:("^":Str)=S [94]:=rfl
def Qd{st:Stmt}{b:aM}(h:pP X q U st o s a)(e:a=b):pP X q U st o s b:=e▸h
theorem uD(h:cG P w K mg base k V9 ie X)(Wl:mg "int"=none)(c1:EV.Callee X "board_times" ke)(c2:EV.Callee X "board_minus" kg)(c3:EV.Callee X "board_plus" ll)(c4:EV.Callee X "power_of_board" jS)(c5:EV.Callee X "atom_of" vq):∀q d0 xs xs',oh d0 xs xs'->∃W1,XT X q (.val d0::.val (.adr q)::List.replicate (V9.length-2) Sl.un) (aW ie) (.nx W1) xs xs':=by
 rintro q d0 xs xs' ⟨u,pre,st,Wk,rfl,hs,hl,rfl,rfl⟩;have t:=h.at';haveI:=h.VR;have b1:=h.bt Wl;have cw:PyData.canLayAll0 (VA [D.str "+",.str "-",.str "*"])=true:=by decide
 cases hs with
 |atom hu=>
  obtain⟨c,cs,rfl,hc⟩:=IP hu;have f1:c≠43/\c≠45/\c≠42/\c≠109/\c≠94:=by lia
  have ok:=dF hu.lt;have i1:(decide (S (c::cs)=("+":Str))||(decide (S (c::cs)=("-":Str))||decide (S (c::cs)=("*":Str))))=false:=by rw[y6 zp (by intro e;cases e;exact f1.1 rfl),y6 zm (by intro e;cases e;exact f1.2.1 rfl),y6 zt<|by intro e;cases e;exact f1.2.2.1 rfl];rfl
  refine⟨[.val<|.str<|S<|c::cs,.val<|.adr q,.un,.un],c6<|gZ (Vr.l<|iy t (aa t 0) (aC<|ac Vo<|ac Vo<|ac Vo af) (de ok) (cL _) cw<|by rwa[Uw])<|c6<|gZ (Vr.l<|Vr.eq (cK t (aa t 0) Vo ok)<|y6 zn<|by intro e;cases e;exact f1.2.2.2.1 rfl)<|c6<|gZ (Vr.l<|Vr.eq (cK t (c7 (aa t 0) ah (Wh<|by have:=hu.len;lia)<|by rw[eQ];exact dJ rfl) Vo (dF λx hx=>hu.lt x<|by simp at hx;simp[hx]))<|y6 zc<|by intro e;cases e;exact f1.2.2.2.2 rfl)<|c6<|Qd (gK t 1 rfl (Vp.em<|aB t c5 (ac (aa t 0) af) ⟨_,rfl,hu,rfl⟩)<|by rw[ag,ai];exact sz hl)<|by rw[aE,<-aO];rfl⟩
 |@add s0 a b ha hb=>refine⟨[.val<|.str<|S [43],.val<|.adr q,.val<|bz b,.val<|bz a],c6<|lQ (Vr.l<|iy t (aa t 0) (aC<|ac Vo<|ac Vo<|ac Vo af) (de<|by decide) (cL _) cw rfl)<|fA (gX t 2<|fF t 1 rfl (xs':=pre++(s0++[a]).map bz)<|by simp)<|fA (gX t 3<|fF t 1 rfl (xs':=pre++s0.map bz)<|by simp)<|c6<|gZ (Vr.l<|Vr.eq (cK t (aa t 0) Vo<|by decide) rfl)<|c6<|Qd (gK t 1 rfl (Vp.em<|sP (Vr.eq (cK t (aa t 0) Vo<|by decide) rfl)<|aB t c3 (ac (aa t 3)<|ac (aa t 2) af) ⟨a,b,rfl,ha,hb,rfl⟩)<|by rw[ag,ai];exact sz<|by simp at hl;lia)<|by rw[aE,<-aO];rfl⟩|@sub s0 a b ha hb=>refine⟨[.val<|.str<|S [45],.val<|.adr q,.val<|bz b,.val<|bz a],c6<|lQ (Vr.l<|iy t (aa t 0) (aC<|ac Vo<|ac Vo<|ac Vo af) (de<|by decide) (cL _) cw rfl)<|fA (gX t 2<|fF t 1 rfl (xs':=pre++(s0++[a]).map bz)<|by simp)<|fA (gX t 3<|fF t 1 rfl (xs':=pre++s0.map bz)<|by simp)<|c6<|gZ (Vr.l<|Vr.eq (cK t (aa t 0) Vo<|by decide) rfl)<|c6<|Qd (gK t 1 rfl (Vp.em<|sQ (Vr.eq (cK t (aa t 0) Vo<|by decide) rfl)<|aB t c2 (ac (aa t 3)<|ac (aa t 2) af) ⟨a,b,rfl,ha,hb,rfl⟩)<|by rw[ag,ai];exact sz<|by simp at hl;lia)<|by rw[aE,<-aO];rfl⟩
 |@mul s0 a b ha hb hu hv=>refine⟨[.val<|.str<|S [42],.val<|.adr q,.val<|bz b,.val<|bz a],c6<|lQ (Vr.l<|iy t (aa t 0) (aC<|ac Vo<|ac Vo<|ac Vo af) (de<|by decide) (cL _) cw rfl)<|fA (gX t 2<|fF t 1 rfl (xs':=pre++(s0++[a]).map bz)<|by simp)<|fA (gX t 3<|fF t 1 rfl (xs':=pre++s0.map bz)<|by simp)<|c6<|lQ (Vr.l<|Vr.eq (cK t (aa t 0) Vo<|by decide) rfl)<|c6<|Qd (gK t 1 rfl (Vp.em<|aB t c1 (ac (aa t 3)<|ac (aa t 2) af) ⟨a,b,rfl,ha,hb,hu,hv,rfl⟩)<|by rw[ag,ai];exact sz<|by simp at hl;lia)<|by rw[aE,<-aO];rfl⟩|@neg s0 b hb=>refine⟨[.val<|.str<|S [109,105,110,117,115],.val<|.adr q,.un,.un],c6<|gZ (Vr.l<|iy t (aa t 0) (aC<|ac Vo<|ac Vo<|ac Vo af) (de<|by decide) (cL _) cw rfl)<|c6<|lQ (Vr.l<|Vr.eq (cK t (aa t 0) Vo<|by decide) rfl)<|c6<|Qd (gK t 1 rfl (C9 t c2 (jw (Vp.em<|aC af)<|jw (fF t 1 rfl (xs':=pre++s0.map bz)<|by simp)<|VL.am af) ⟨[],b,rfl,UW,hb,rfl⟩)<|by rw[ag,ai];exact sz<|by simp at hl;lia)<|by rw[aE,<-aO];rfl⟩
 |@pow s0 b d hb hd=>
  have ok:PyData.strOk (S [94,48+d])=true:=dF λx hx=>by simp at hx;lia
  have i1:(decide (S [94,48+d]=("+":Str))||(decide (S [94,48+d]=("-":Str))||decide (S [94,48+d]=("*":Str))))=false:=by rw[y6 zp (by intro e;cases e),y6 zm (by intro e;cases e),y6 zt<|by intro e;cases e];rfl
  have zBM:PySem.intText? (S [48+d])=some (d:Int):=by
   have:∀d:Nat,d<10->PySem.intText? (S [48+d])=some (d:Int):=by decide
   exact this d<|by lia
  refine⟨[.val<|.str<|S [94,48+d],.val<|.adr q,.un,.un],c6<|gZ (Vr.l<|iy t (aa t 0) (aC<|ac Vo<|ac Vo<|ac Vo af) (de ok) (cL _) cw<|by rwa[Uw])<|c6<|gZ (Vr.l<|Vr.eq (cK t (aa t 0) Vo ok)<|y6 zn<|by intro e;cases e)<|c6<|lQ (Vr.l<|Vr.eq (cK t (c7 (aa t 0) ah (Wh<|by simp)<|by rw[eQ];exact dJ rfl) Vo<|by decide) rfl)<|c6<|Qd (gK t 1 rfl (C9 t c4 (jw (fF t 1 rfl (xs':=pre++s0.map bz)<|by simp)<|VL.am<|ac (wu t b1 (c7 (aa t 0) ah (Wh<|by simp)<|by rw[eQ];exact dJ rfl) zBM<|by show(S [48+d]).length<=640;rw[ce];simp) af) ⟨b,d,rfl,hd,hb,rfl⟩)<|by rw[ag,ai];exact sz<|by simp at hl;lia)<|by rw[aE,<-aO];rfl⟩
inductive Runs:List bI->List Bd->List Bd->Prop where
 |nil {a:List Bd}:Runs [] a a
 |cons {u:bI} {us:List bI} {a b c:List Bd}:WC u a b->Runs us b c->Runs (u::us) a c
def Runs.app{us vs:List bI}{a b c:List Bd}(h:Runs us a b)(g:Runs vs b c):Runs (us++vs) a c:=by induction h with|nil=>exact g|cons s _ ih=>exact .cons s<|ih g
def WC.len{a b:List Bd}(h:WC u a b):b.length<=a.length+1:=by cases h<;>simp<;>lia
def uU(n:Nat):bI:=(Nat.toDigits 10 n).map Char.toNat
def OO(n:Nat):(toString ((n:Nat):Int):Str)=S (uU n):=by rw[T9 (toString (n:Int):Str)];congr 1;exact PySem.W.KIN.signs_num n
def J7{n:Nat}:∀c∈uU n,48<=c/\c<=57:=λc hc=>by obtain⟨d,hd,rfl⟩:=List.mem_map.mp hc;have:=Nat.isDigit_of_mem_toDigits (by decide) (by decide) hd;simp only[Char.isDigit,dS,bV]at this;exact⟨this.1,this.2⟩
def Rl{n:Nat}(h:n<10 ^ 12):((n:Nat):Int).natAbs.log2<1920:=by rw[gv];by_cases h0:n=0;subst h0;decide;exact(Nat.log2_lt h0).mpr<|yn h<|by decide
def FN(n:Nat):uU n≠[]:=λe=>by exact Nat.toDigits_ne_nil<|List.map_eq_nil_iff.mp e
def BX(f g:Bd)(φ:Nat->Nat->Int):bs (lM f g) φ=bs f φ+bs g φ:=by unfold lM;rw[GH,qB _ (max f.length g.length) φ<|by simp,qB f (max f.length g.length) φ<|by lia,qB g (max f.length g.length) φ<|by lia,<-tR];refine fj _ λk hk=>?_;rw[D6,ax hk,Fz]
def IT:∀(f:bR)(ψ:Nat->Int),rs (f.map λx=>-x) ψ=-rs f ψ|[],ψ=>rfl|a::f,ψ=>by show-a*ψ 0+rs (f.map λx=>-x) _=-(a*ψ 0+rs f _);rw[IT f,Int.neg_mul];lia
def BY:∀(g:Bd)(φ:Nat->Nat->Int),bs (ug g) φ=-bs g φ|[],φ=>rfl|r::g,φ=>by show rs (r.map λx=>-x) _+bs (ug g) _=-(rs r _+bs g _);rw[IT,BY g];lia
def RJ(φ:Nat->Nat->Int):bs [[0,1]] φ=1*φ 1 0:=by simp[bs,rs]
def RI(φ:Nat->Nat->Int):bs [[],[1]] φ=1*φ 0 1:=by simp[bs,rs]
def TF:VW [[0,1]]:=⟨.inr ⟨[],[0,1],rfl,by decide⟩,λr hr=>by rw[bZ.mp hr];exact .inr ⟨[0],1,rfl,by decide⟩⟩
def TC:VW [[],[1]]:=⟨.inr ⟨[[]],[1],rfl,by decide⟩,λr hr=>by rcases bc.mp hr with rfl |hr;exact .inl rfl;rw[bZ.mp hr];exact .inr ⟨[],1,rfl,by decide⟩⟩
def TH(n:Int):VW (if n=0 then []else [[n]]):=by split;exact⟨.inl rfl,λr hr=>nomatch hr⟩;rename_i h;exact⟨.inr ⟨[],[n],rfl,by simp⟩,λr hr=>by rw[bZ.mp hr];exact .inr ⟨[],n,rfl,h⟩⟩
def RK(n:Int)(φ:Nat->Nat->Int):bs (if n=0 then []else [[n]]) φ=n*φ 0 0:=by split;rename_i h;rw[h];simp[bs];simp[bs,rs]
def FH(B:Bd):∀p,VW (vO B p)|0=>⟨.inr ⟨[],[1],rfl,by decide⟩,λr hr=>by rw[bZ.mp hr];exact .inr ⟨[],1,rfl,by decide⟩⟩|p+1=>As _ _
def NB(M:Nat)(b:Bd):Prop:=∀(c:Nat)(φ:Nat->Nat->Int),(∀i k,(φ i k).natAbs<=c)->(bs b φ).natAbs<=c*M
def SB(n:Nat)(b:Bd):Prop:=∀φ ψ:Nat->Nat->Int,(∀i k,i<n->k<n->φ i k=ψ i k)->bs b φ=bs b ψ
def NB.up{N:Nat}(h:NB M b)(e:M<=N):NB N b:=λc φ q=>aJ (h c φ q)<|cO c e
def SB.up{m:Nat}(h:SB n b)(e:n<=m):SB m b:=λφ ψ q=>h φ ψ λi k hi hk=>q i k (by lia)<|by lia
def NB.plus{g:Bd}(hf:NB M f)(hg:NB N g):NB (M+N) (lM f g):=λc φ q=>by have h1:=hf c φ q;have h2:=hg c φ q;rw[BX,Nat.mul_add];lia
def SB.plus{g:Bd}(hf:SB n f)(hg:SB n g):SB n (lM f g):=λφ ψ q=>by rw[BX,BX,hf φ ψ q,hg φ ψ q]
def NB.neg(hf:NB M f):NB M (ug f):=λc φ q=>by rw[BY,Int.natAbs_neg];exact hf c φ q
def SB.neg(hf:SB n f):SB n (ug f):=λφ ψ q=>by rw[BY,BY,hf φ ψ q]
def NB.times{g:Bd}(hf:NB M f)(hg:NB N g):NB (M*N) (jj f g):=λc φ q=>by rw[ya];have:=hf (c*N) _ λi j=>hg c (λa b=>φ (i+a)<|j+b) λa b=>q _ _;rwa[HV M N,<-Nat.mul_assoc]
def SB.times{n m:Nat}{g:Bd}(hf:SB (n+1) f)(hg:SB (m+1) g):SB (n+m+1) (jj f g):=λφ ψ q=>by rw[ya,ya];exact hf _ _ λi k hi hk=>hg _ _ λa c ha hc=>q _ _ (by lia)<|by lia
def RL(φ:Nat->Nat->Int):bs [[1]] φ=1*φ 0 0:=by simp[bs,rs]
def JD{n:Int}(h:∀φ,bs b φ=n*φ i k):NB n.natAbs b:=λc φ q=>by rw[h,Int.natAbs_mul,HV c];exact cO _<|q i k
def IJ{n:Int}{m:Nat}(h:∀φ,bs b φ=n*φ i k)(hi:i<m)(hk:k<m):SB m b:=λφ ψ q=>by rw[h,h,q i k hi hk]
def NB.pow(hf:NB M f):∀i,NB (M ^ i) (vO f i)|0=>(JD RL).up (ao 1)|i+1=>by rw[HU];exact(NB.pow hf i).times hf
def SB.pow{n:Nat}(hf:SB (n+1) f):∀i,SB (i*n+1) (vO f i)|0=>IJ RL (by lia) (by lia)|i+1=>by rw[nF];exact(SB.pow hf i).times hf
def SB.fit(h:SB n b)(hb:VW b):UF n b:=Pc hb λi k q=>by rw[<-EM,h (v5 i k) (λ_ _=>0) λa c ha hc=>by unfold v5;rw[av<|by lia]];exact wD b _ λ_ _=>rfl
def SB.sm{m:Nat}(h:SB n b)(hb:VW b)(e:n<m):Xy m b:=by have f:=h.fit hb;refine⟨by have:=f.1;lia,λr hr=>?_⟩;obtain⟨k,hk,rfl⟩:=rK hr;have:=f.2 k;rw[List.getD_eq_getElem?_getD,List.getElem?_eq_getElem hk]at this;exact bM this e
def NB.lim(h:NB M b)(e:M<2 ^ 1000):PZ b:=λr hr y hy=>by
 obtain⟨k,hk,rfl⟩:=rK hr;obtain⟨i,hi,rfl⟩:=rK hy;have:=h 1 (v5 i k) λa c=>by unfold v5;split<;>decide
 rw[EM]at this;unfold Dg at this;rw[List.getD_eq_getElem?_getD,List.getD_eq_getElem?_getD,List.getElem?_eq_getElem hk]at this;simp only[KQ]at this;rw[List.getElem?_eq_getElem hi]at this;simp only[KQ]at this;lia
inductive Tl
 |leaf (u:bI)
 |pow (t:Tl) (d:Nat)
 |bin (k:Nat) (a b:Tl)
def cl:Tr->Tl
 |.leaf u=>.leaf u|.pow t d=>.pow (cl t) d
 |.neg t=>.bin 2 (.leaf [48]) (cl t)|.mul a b=>.bin 0 (cl a)<|cl b
 |.add a b=>.bin 1 (cl a) (cl b)|.sub a b=>.bin 2 (cl a)<|cl b
def Fe(k:Nat):Str:=if k=0 then "product"else if k=1 then "more"else "less"
def DJ:Tl->D
 |.leaf u=>.tup [.str "leaf",.str<|S u]|.pow t d=>.tup [.str "power",DJ t,.int d]
 |.bin k a b=>.tup [.str<|Fe k,DJ a,DJ b]
def yv(s:Nat):Nat->Nat|0=>1|i+1=>min (10 ^ 40)<|yv s i*s
def dD:Tl->Nat×Nat
 |.leaf u=>if u=[120]\/u=[121]then(1,1)else(0,max 1<|PySem.NumText.digitsVal u)
 |.pow t d=>((dD t).1*max 1 d,max (dD t).2<|yv (dD t).2 d)|.bin k a b=>if k=0 then((dD a).1+(dD b).1,min (10 ^ 40)<|(dD a).2*(dD b).2)else(max (dD a).1 (dD b).1,(dD a).2+(dD b).2)
def dT:Tl->Nat
 |.leaf _=>1|.pow t _=>dT t+1
 |.bin _ a b=>max (dT a) (dT b)+1
def K1:Tl->Prop
 |.leaf u=>WN u|.pow t d=>K1 t/\d<=9
 |.bin k a b=>k<=2/\K1 a/\K1 b
def Uz:∀t,1<=dT t
 |.leaf _=>ao _|.pow t _=>dN<|bO _
 |.bin _ _ _=>dN<|bO _
theorem Qg:∀t,1<=(dD t).2
 |.leaf u=>by unfold dD;split;exact ao _;exact M4 _ _|.pow t d=>by have:=Qg t;show 1<=max (dD t).2 _;lia
 |.bin k a b=>by have h1:=Qg a;have:=tE h1<|Qg b;unfold dD;split;show 1<=min (10 ^ 40) ((dD a).2*(dD b).2);lia;show 1<=(dD a).2+(dD b).2;lia
def M1(t:Tl):Prop:=(dD t).1<=9/\(dD t).2<=10 ^ 30
def EN{t:Tl}(h:M1 (.pow t d)):M1 t:=by have h1:(dD t).1*max 1 d<=9:=h.1;have h2:max (dD t).2 (yv (dD t).2 d)<=10 ^ 30:=h.2;have:(dD t).1*1<=(dD t).1*max 1 d:=cO _ (by lia);exact⟨by lia,by lia⟩
theorem iA{a b:Tl}(h:M1 (.bin k a b)):M1 a/\M1 b:=by have q1:=Qg a;unfold M1 dD at h;by_cases e:k=0;rw[ax e]at h;have h1:=h.1;have h2:=h.2;have h3:(dD a).2*1<=(dD a).2*(dD b).2:=cO _<|Qg b;have h4:1*(dD b).2<=(dD a).2*(dD b).2:=Vg _ q1;exact⟨⟨by lia,by lia⟩,by lia,by lia⟩;rw[av e]at h;exact⟨⟨by lia,by lia⟩,by lia,by lia⟩
theorem Je{s:Nat}(h:1<=s):∀d,yv s d<=10 ^ 30->yv s d=s ^ d/\∀i,i<=d->s ^ i<=10 ^ 30
 |0,_=>⟨rfl,λi hi=>by rw[show i=0 by lia,Nat.pow_zero];decide⟩
 |d+1,hd=>by
  have e:yv s (d+1)=min (10 ^ 40) (yv s d*s):=rfl;rw[e]at hd;have h3:yv s d*1<=yv s d*s:=cO _ h;let⟨h1,h2⟩:=Je h d (by lia);have e2:yv s (d+1)=s ^ (d+1):=by rw[e,show s ^ (d+1)=s ^ d*s from HU ..,<-h1];lia
  refine⟨e2,λi hi=>?_⟩;by_cases q:i<=d;exact h2 i q;rwa[show i=d+1 by lia,<-e2,e]
def Sx:10 ^ 30<2 ^ 1000:=ba (show 10 ^ 30<2 ^ 100 by decide)<|eU (by decide)<|by decide
def YK(t:Tr):Prop:=∃B,VW B/\SB ((dD<|cl t).1+1) B/\NB (dD<|cl t).2 B/\∀Xr,Runs (gE t) Xr<|Xr++[B]
def Mt(h:WN u):YK (.leaf u):=by have hs:∀Xr,Runs [u] Xr (Xr++[NL u]):=λXr=>.cons (.atom h) .nil;refine⟨NL u,?_,?_,?_,hs⟩;unfold NL;split;exact TF;split;exact TC;exact TH _;show SB ((dD<|.leaf u).1+1) _;unfold NL dD;by_cases q1:u=[120];rw[ax q1,ax<|.inl q1];exact IJ RJ (by decide) (by decide);by_cases q2:u=[121];rw[av q1,ax q2,ax<|.inr q2];exact IJ RI (by decide) (by decide);rw[av q1,av q2,av λz=>z.elim q1 q2];exact IJ (RK _) (Nat.zero_lt_succ _)<|Nat.zero_lt_succ _;show NB (dD<|.leaf u).2 _;unfold NL dD;by_cases q1:u=[120];rw[ax q1,ax<|.inl q1];exact JD RJ;by_cases q2:u=[121];rw[av q1,ax q2,ax<|.inr q2];exact JD RI;rw[av q1,av q2,av λz=>z.elim q1 q2];exact(JD<|RK _).up<|by unfold Hg;rw[gv];exact pC _ _
theorem su:∀t:Tr,K1 (cl t)->M1 (cl t)->YK t
 |.leaf u,l,_=>Mt l|.pow t d,l,h=>by obtain⟨B,Zu,sB,nB,rB⟩:=su t l.1<|EN h;have h9:=(EN h).1;have h2:max (dD<|cl t).2 (yv (dD<|cl t).2 d)<=10 ^ 30:=h.2;have hp:=Je (Qg<|cl t) d (by lia);have hd:=l.2;refine⟨vO B d,FH B d,?_,?_,λXr=>(rB Xr).app<|.cons (.pow ⟨λi hi=>⟨(sB.pow i).sm (FH B i) ?_,(nB.pow i).lim<|bM (hp.2 i<|by lia) Sx⟩,sB.sm Zu<|by lia,nB.lim<|bM (EN h).2 Sx⟩ hd) .nil⟩;refine(sB.pow d).up ?_;show d*(dD<|cl t).1+1<=(dD<|cl t).1*max 1 d+1;rw[HV d];have:=cO (dD<|cl t).1<|pC 1 d;lia;refine(nB.pow d).up ?_;show _<=max (dD<|cl t).2 (yv (dD<|cl t).2 d);rw[hp.1];exact pC _ _;have:i*(dD<|cl t).1<=9*9:=tE (by lia) h9;lia
 |.neg t,l,h=>by
  obtain⟨B,Zu,sB,nB,rB⟩:=su t l.2.2 (iA h).2;have h9:=(iA h).2.1;have e0:∀φ,bs [] φ=0*φ 0 0:=λφ=>by simp[bs]
  refine⟨lM []<|ug B,xh _ _,?_,?_,λXr=>(rB Xr).app<|.cons (.neg<|sB.sm Zu<|by lia) .nil⟩;exact(SB.plus (IJ e0 (by lia)<|by lia) sB.neg).up (by show _<=max 0 (dD<|cl t).1+1;lia);exact(NB.plus (JD e0) nB.neg).up<|by show 0+_<=1+(dD<|cl t).2;lia
 |.mul a b,l,h=>by obtain⟨A,okA,sA,nA,rA⟩:=su a l.2.1 (iA h).1;obtain⟨B,Zu,sB,nB,rB⟩:=su b l.2.2 (iA h).2;have h8:=(iA h).1.1;have h9:=(iA h).2.1;have hm:min (10 ^ 40) ((dD<|cl a).2*(dD<|cl b).2)<=10 ^ 30:=h.2;refine⟨jj A B,As _ _,SB.times sA sB,(NB.times nA nB).up ?_,λXr=>(rA Xr).app<|(rB<|Xr++[A]).app<|.cons (.mul (sA.sm okA<|by lia) (sB.sm Zu<|by lia) (nA.lim<|bM (iA h).1.2 Sx)<|nB.lim<|bM (iA h).2.2 Sx) .nil⟩;show _<=min (10 ^ 40) ((dD<|cl a).2*(dD<|cl b).2);lia
 |.add a b,l,h=>by obtain⟨A,okA,sA,nA,rA⟩:=su a l.2.1 (iA h).1;obtain⟨B,Zu,sB,nB,rB⟩:=su b l.2.2 (iA h).2;have h8:=(iA h).1.1;have h9:=(iA h).2.1;exact⟨lM A B,xh _ _,SB.plus (sA.up<|dN<|M4 _ _)<|sB.up<|dN<|pC _ _,NB.plus nA nB,λXr=>(rA Xr).app<|(rB<|Xr++[A]).app<|.cons (.add (sA.sm okA<|by lia)<|sB.sm Zu<|by lia) .nil⟩
 |.sub a b,l,h=>by obtain⟨A,okA,sA,nA,rA⟩:=su a l.2.1 (iA h).1;obtain⟨B,Zu,sB,nB,rB⟩:=su b l.2.2 (iA h).2;have h8:=(iA h).1.1;have h9:=(iA h).2.1;exact⟨lM A<|ug B,xh _ _,SB.plus (sA.up<|dN<|M4 _ _)<|sB.neg.up<|dN<|pC _ _,NB.plus nA nB.neg,λXr=>(rA Xr).app<|(rB<|Xr++[A]).app<|.cons (.sub (sA.sm okA<|by lia)<|sB.sm Zu<|by lia) .nil⟩
structure A2(c a:Nat)(t:Tr)(e:Nat):Prop where
 lv:K1 (cl t)
 dt:2*dT (cl t)<=e-a+c
 lt:a<e
section
variable {sum:PR}
def MW{a:Nat}{e:Nat}(hs:∀a t e,sum a=(some t,e)->A2 2 a t e){t:Tr}(h:jb sum T a=(some t,e)):A2 1 a t e:=by unfold jb at h;split at h;rename_i z;cases h;exact⟨(wF _).mp z,by show 2*1<=_;lia,by lia⟩;split at h;split at h;rename_i t' e' zBH;split at h;cases h;have A:=hs _ _ _ zBH;have l1:=A.lt;have l2:=A.dt;exact⟨A.lv,by lia,by lia⟩;cases h;cases h;cases h
def PQ{a:Nat}{e:Nat}(hs:∀a t e,sum a=(some t,e)->A2 2 a t e){t:Tr}(h:u8 sum T a=(some t,e)):A2 1 a t e:=by unfold u8 at h;split at h;rename_i t' e' hA;have A:=MW hs hA;have l1:=A.lt;have l2:=A.dt;split at h;split at h;rename_i z;cases h;exact⟨⟨A.lv,(Bv _<|cg z).2⟩,by show 2*(dT (cl t')+1)<=_;lia,by lia⟩;cases h;cases h;exact A;cases h
def QX:WN [48]:=(wF _).mp rfl
theorem KF{a:Nat}{e:Nat}(hs:∀a t e,sum a=(some t,e)->A2 2 a t e){t:Tr}(h:lS sum T a=(some t,e)):A2 2 a t e:=by unfold lS at h;split at h;rename_i t' e' hA;have A:=PQ hs hA;have l2:=A.dt;split at h;cases h;cases h;unfold ng;have d1:=Uz<|cl t';split;rename_i q;refine⟨⟨ao _,QX,A.lv⟩,?_,by lia⟩;show 2*(max 1 (dT<|cl t')+1)<=_;lia;exact⟨A.lv,by lia,by lia⟩;cases h
theorem KE{a:Nat}(hs:∀a t e,sum a=(some t,e)->A2 2 a t e):∀(f:Nat)(t0:Tr)(e0:Nat)(t:Tr)(e:Nat),A2 2 a t0 e0->oM sum T a0 f t0 e0=(some t,e)->A2 2 a t e
 |0,t0,e0,t,e,A,h=>by cases h;exact A
 |f+1,t0,e0,t,e,A,h=>by unfold oM at h;split at h;split at h;rename_i m e' hF;have F:=KF hs hF;have l1:=A.lt;have l2:=F.lt;have l3:=A.dt;have l4:=F.dt;exact KE hs f (.mul t0 m) e' t e ⟨⟨bO _,A.lv,F.lv⟩,by show 2*(max _ _+1)<=_;lia,by lia⟩ h;cases h;cases h;exact A
def NO{a:Nat}{e:Nat}(hs:∀a t e,sum a=(some t,e)->A2 2 a t e){t:Tr}(h:xH sum T a=(some t,e)):A2 2 a t e:=by unfold xH at h;split at h;rename_i t' e' hF;exact KE hs _ _ _ _ _ (KF hs hF) h;cases h
theorem KD{a:Nat}(hs:∀a t e,sum a=(some t,e)->A2 2 a t e):∀(f:Nat)(t0:Tr)(e0:Nat)(t:Tr)(e:Nat),A2 2 a t0 e0->oK sum T a0 f t0 e0=(some t,e)->A2 2 a t e
 |0,t0,e0,t,e,A,h=>by cases h;exact A
 |f+1,t0,e0,t,e,A,h=>by unfold oK at h;split at h;split at h;rename_i m e' hF;have F:=NO hs hF;have l1:=A.lt;have l2:=F.lt;have l3:=A.dt;have l4:=F.dt;refine KD hs f _ _ t e ⟨?_,?_,by lia⟩ h;split;exact⟨ao _,A.lv,F.lv⟩;exact⟨by decide,A.lv,F.lv⟩;split;show 2*(max _ _+1)<=_;lia;show 2*(max _ _+1)<=_;lia;cases h;cases h;exact A
def RU{a:Nat}{e:Nat}(hs:∀a t e,sum a=(some t,e)->A2 2 a t e){t:Tr}(h:J0 sum T a=(some t,e)):A2 2 a t e:=by unfold J0 at h;split at h;rename_i t' e' hF;exact KD hs _ _ _ _ _ (NO hs hF) h;cases h
end
def RV(T:TK):∀(n a:Nat)(t:Tr)(e:Nat),g T n a=(some t,e)->A2 2 a t e
 |0,a,t,e,h=>by cases h
 |n+1,a,t,e,h=>RU (RV T n) h
def NI{u:bI}{z:Str}(hz:z=S v):decide (S u=z)=decide (u=v):=bG.mpr ⟨λe=>fG<|e.trans hz,λe=>by rw[e,hz]⟩
def JC{u:bI}{z:Str}(hz:z=S v):(!(S u==z))= !decide (u=v):=by rw[hz];by_cases q:u=v;subst q;simp;rw[aj q,bF.mpr λe=>q<|fG e]
def iz(t:At X N sc)(ha:Vp X U a (.str<|S u))(hb:Vp X U b (.str z))(hu:∀c∈u,c<128)(hz:z=S v)(hv:∀c∈v,c<128:=by decide):Vr X U (.Compare a [.Eq] [b] pos) (decide<|u=v):=Vr.eq (cK t ha hb (dF hu)<|by rw[hz];exact dF hv)<|NI hz
def xN(t:At X N sc)(ha:Vp X U a (.str<|S u))(hb:Vp X U b (.str z))(hu:∀c∈u,c<128)(hz:z=S v)(hv:∀c∈v,c<128:=by decide):Vp X U (.Compare a [.Eq] [b] pos) (.bl<|decide<|u=v):=Vp.eq (qx t ha hb (dF hu)<|by rw[hz];exact dF hv)<|by rw[NI hz]
def qy(t:At X N sc)(ha:Vp X U a (.str<|S u))(hb:Vp X U b (.str z))(hu:∀c∈u,c<128)(hz:z=S v)(hv:∀c∈v,c<128:=by decide):Vr X U (.Compare a [.NotEq] [b] pos) (!decide (u=v)):=EB t ha.p hb.p (gO<|dF hu) (gO<|by rw[hz];exact dF hv)<|JC hz
def EA(t:At X N sc)(ha:Vp X U a (.str<|S u))(hb:Vp X U b (.str z))(hu:∀c∈u,c<128)(hz:z=S v)(hv:∀c∈v,c<128:=by decide):Vp X U (.Compare a [.NotEq] [b] pos) (.bl (!decide (u=v))):=Ez t ha.p hb.p (gO<|dF hu) (gO<|by rw[hz];exact dF hv)<|JC hz
def NY:("":Str)=S []:=rfl
def NZ:("0":Str)=S [48]:=rfl
def DP:(" ":Str)=S [32]:=rfl
def NS:("x":Str)=S [120]:=rfl
def SI:("y":Str)=S [121]:=rfl
def SK:("(":Str)=S [40]:=rfl
def SL:(")":Str)=S [41]:=rfl
def im(ds:aM)(d:D):Prop:=∃u:bI,ds=[.str<|S u]/\(∀c∈u,c<128)/\u.length<=20000/\d=.bl (rM u)
def sN:∀ds d,im ds d->ds.length=1:=by rintro _ _ ⟨_,rfl,_⟩;rfl
def eY(ds:aM)(d:D):Prop:=∃(T:TK)(i:Nat),ds=[.lst<|ay T,.int i]/\d=.str (S<|bw T i)
def zj:∀ds d,eY ds d->ds.length=2:=by rintro _ _ ⟨_,_,rfl,_⟩;rfl
def dq(o c:bI)(T:TK)(a:Nat):Int:=km o c<|T.take a
def wz{T:TK}{i:Nat}(h:i<T.length):dq o c T (i+1)=dq o c T i+(b2i (decide<|S (bw T i)=S o)-b2i (decide<|S (bw T i)=S c)):=by
 unfold dq;have e:T.take (i+1)=T.take i++[bw T i]:=by unfold bw;rw[jF,List.getElem?_eq_getElem h,List.getD_eq_getElem?_getD,List.getElem?_eq_getElem h];rfl
 rw[e,n9]
def Jz(o c:bI)(T:TK):Nat->Int|0=>0|i+1=>max (Jz o c T i)<|dq o c T<|i+1
theorem sG(o c:bI)(T:TK)(n:Int)(hn:0<=n):∀i,Jz o c T i<=n↔∀j,j<=i->dq o c T j<=n|0=>⟨λ_ j hj=>by rwa[show j=0 by lia],λ_=>hn⟩|i+1=>by have ih:=sG o c T n hn i;show max (Jz o c T i) (dq o c T<|i+1)<=n↔_;constructor;intro h j hj;by_cases q:j<=i;exact ih.mp (by lia) j q;rw[show j=i+1 by lia];lia;intro h;have h1:=ih.mpr λj hj=>h j (by lia);have h2:=h (i+1)<|ao _;lia
def qR(ds:aM)(d:D):Prop:=∃(T:TK)(o c:bI),ds=[.lst<|ay T,.str<|S o,.str<|S c]/\(∀u∈T,∀c∈u,c<128)/\(∀x∈o,x<128)/\(∀x∈c,x<128)/\d=.int (Jz o c T T.length)
def zi:∀ds d,qR ds d->ds.length=3:=by rintro _ _ ⟨_,_,_,rfl,_⟩;rfl
def aQ(T:TK):(ay T).length=T.length:=by unfold ay;rw[ai]
def mq{T:TK}{i:Nat}(h:i<T.length):me (ay T) (i:Int)=some (.str<|S<|bw T i):=dJ<|by unfold ay bw;rw[List.getElem?_map,List.getElem?_eq_getElem h,List.getD_eq_getElem?_getD,List.getElem?_eq_getElem h];rfl
def qZ{T:TK}{i:Nat}(h:T.length<=i):bw T i=[]:=by unfold bw;rw[List.getD_eq_getElem?_getD,List.getElem?_eq_none h];rfl
def vj(h:cG P w K mg base k jR ik X)(Vw:mg "len"=none)(Xk:mg "all"=none):Go X jR ik im:=by
 rintro ds d ⟨u,rfl,lt,hl,rfl⟩;have t:=h.at';haveI:=h.VR;have b1:=h.bt Xk;have b2:=h.bt Vw;have hz:=Wh hl;have e0:(decide (u=[])||(decide (12<u.length)|| !u.all λc=>decide<|48<=c/\c<=57))= !(!u.isEmpty&&u.all (λc=>decide<|48<=c/\c<=57)&&decide (u.length<=12)):=by
  have a1:decide (u=[])=u.isEmpty:=by cases u<;>simp
  have a2:decide (12<u.length)= !decide (u.length<=12):=by by_cases q:u.length<=12<;>simp[q]<;>lia
  rw[a1,a2];cases u.isEmpty<;>cases u.all (λc=>decide<|48<=c/\c<=57)<;>cases decide (u.length<=12)<;>rfl
 refine ip (Vr.eq (BB (iz t (aa t 0) Vo lt NY) (λ_=>Vr.eq (gf (dX t b2 (aa t 0) hz) ah) ?_) λ_ _=>Vr.eq (lU<|fM<|xP (bs:=u.map λx=>decide<|48<=x/\x<=57) t b1<|VD.toQ<|VD.eq (jt (rs:=(S u).cps.toList.map λx=>D.bl<|decide<|48<=x/\x<=57) t ["_law_mark_here","_law_sign"] (Hy rfl) (ED (aa t 0)<|KI lt) (by unfold KY;rw[ai,eQ];exact bM hl<|by decide) λX' cx=>?_) ?_) ?_) e0) (λv=>az<|bj<|Vp.eq uy ?_) λv=>az<|bj ?_;rw[ce];simp;lia;exact VX.gen (λc=>D.str ⟨#[c]⟩) _ (λx=>[.val<|.str<|S u,.val<|.str ⟨#[x]⟩]) _ _ (λx hx=>cD cx.at' 1) (λx hx y hy=>cD cx.at' 1) λx hx=>Bz (aa cx.at' 1 rfl) Vo<|by rw[eQ]at hx;exact xJ x<|lt x hx
 rw[eQ,dP];rfl;rw[yr];rfl;unfold rM;cases q:(!u.isEmpty&&u.all (λc=>decide<|48<=c/\c<=57)&&decide (u.length<=12))with
 |true=>rw[q]at v;cases v
 |false=>rfl
 have q:(!u.isEmpty&&u.all (λc=>decide<|48<=c/\c<=57)&&decide (u.length<=12))=true:=by cases q:(!u.isEmpty&&u.all (λc=>decide<|48<=c/\c<=57)&&decide (u.length<=12))with|true=>rfl|false=>rw[q]at v;cases v
 obtain⟨c,cs,rfl⟩:∃c cs,u=c::cs:=by
  cases u with
  |nil=>cases q
  |cons c cs=>exact⟨c,cs,rfl⟩
 refine Vp.eq (Ey (xN t (aa t 0) Vo lt NZ) λ_=>EA t (c7 (aa t 0) ah hz<|by rw[eQ];exact dJ rfl) Vo (λx hx=>lt x<|by simp at hx;simp[hx]) NZ) ?_;unfold rM;rw[q,DM];congr 2;by_cases y:c=48<;>simp[y]
def Du(h:cG P w K mg base k qM mH X)(Vw:mg "len"=none):Go X qM mH eY:=by rintro ds d ⟨T,i,rfl,rfl⟩;have t:=h.at';haveI:=h.VR;have b2:=h.bt Vw;refine ip (Vr.eq (io (aa t 1)<|eC t b2<|Vp.ql<|aa t 0) ?_) (λv=>az<|bj<|br (Vp.ql<|aa t 0) (aa t 1)<|mq<|cg v) λv=>az<|bj<|Vp.eq Vo ?_;rw[aQ];simp only[bG];lia;rw[qZ<|by have:=gu v;lia,NY]
def Dt(h:cG P w K mg base k qL mG X)(Wl:mg "int"=none)(Xj:mg "max"=none):Go X qL mG qR:=by
 rintro ds d ⟨T,o,c,rfl,lt,ho,hcc,rfl⟩;have t:=h.at';haveI:=h.VR;have b1:=h.bt Wl;have b2:=h.bt Xj;refine au (bg t 3 ah)<|au (bg t 4 ah)<|au (mC t (qz<|aa t 0)<|VU.Wf (λi=>[.val<|.lst<|ay T,.val<|.str<|S o,.val<|.str<|S c,.val<|.int<|dq o c T i,.val<|.int<|Jz o c T i,.un]) (λj d e=>?_) rfl<|by rw[aQ])<|az<|bj<|aa t 4;have hj:j<T.length:=by have:=(List.getElem?_eq_some_iff.mp e).1;rwa[aQ]at this
 have ed:d=.str (S<|bw T j):=by have:=mq hj;rw[dJ e]at this;injection this
 subst ed;have hc:∀c∈bw T j,c<128:=by rcases q0 with z |z;exact lt _ z;rw[z];exactλc hc=>nomatch hc
 have et:dq o c T (j+1)=dq o c T j+(if decide (bw T j=o)then 1 else 0)-(if decide (bw T j=c)then 1 else 0):=by
  have bi:∀b:Bool,b2i b=if b then 1 else 0:=λb=>by cases b<;>rfl
  rw[wz hj,fB,fB,bi,bi];lia
 refine⟨_,bq t 5,Vt.weak (au (bg t 3<|Vp.eq (jM (bB (aa t 3)<|oN t b1<|xN t (aa t 5) (aa t 1) hc rfl ho)<|oN t b1<|xN t (aa t 5) (aa t 2) hc rfl hcc)<|aL D.int et.symm)<|az<|bg t 4<|lc t b2 (aa t 4)<|aa t 3)<|.keep<|.keep<|.keep<|.keep<|.keep<|.forget .nil⟩
def SG:Str:="abcdefghijklmnopqrstuvwxyz0123456789"
def lo(c:Nat):Bool:=decide<|(97<=c/\c<=122)\/(48<=c/\c<=57)
def uh:∀c:Nat,c<128->(!(Builtin.Str.occurrences SG (S [c]) 0 SG.length 1).isEmpty)=lo c:=by decide
def Px:TK:=[[60,61],[62,61],[33,61]]
def RC:([D.str "<=",.str ">=",.str "!="]:aM)=ay Px:=by rw[show("<=":Str)=S [60,61]by decide,show(">=":Str)=S [62,61]by decide,show("!=":Str)=S [33,61]by decide];rfl
inductive LM:bI->bI->TK->Prop where
 |sp {cs:bI}:LM [32] cs []
 |run {u cs:bI}:u≠[]->(∀c∈u,lo c=true)->(∀c,cs.head?=some c->lo c=false)->LM u cs [u]
 |dbl {c:Nat} {cs:bI}:(c=60\/c=62\/c=33)->LM [c,61] cs [[c,61]]
 |one {c:Nat} {cs:bI}:lo c=false->c≠32->¬((c=60\/c=62\/c=33)/\cs.head?=some 61)->LM [c] cs [[c]]
inductive Mk:bI->TK->Prop where
 |nil:Mk [] []
 |turn {p cs:bI} {ts us:TK}:LM p cs ts->Mk cs us->Mk (p++cs) (ts++us)
def LM.ne(h:LM p cs ts):p≠[]/\ts.length<=(p.filter λc=>decide<|c≠32).length/\(∀u∈ts,u=p):=by
 cases h with
 |sp=>exact⟨by simp,by simp,λu hu=>nomatch hu⟩
 |run h h2 _=>
  refine⟨h,?_,λu hu=>by simpa using hu⟩;obtain⟨c,u',rfl⟩:∃c u',p=c::u':=by cases p with|nil=>exact absurd rfl h|cons c cs=>exact⟨c,cs,rfl⟩
  have hc:c≠32:=λe=>by have:=h2 c (by simp);rw[e]at this;exact absurd this<|by decide
  simp[kz,hc]
 |@dbl c _ hc=>
  have:c≠32:=by lia
  exact⟨by simp,by simp[kz,this],λu hu=>by simpa using hu⟩
 |@one c _ _ hc _=>exact⟨by simp,by simp[kz,hc],λu hu=>by simpa using hu⟩
def ND(p:bI):(p.filter λc=>decide<|c≠32).length<=p.length:=oq _ _
def Mk.nb(h:Mk cs T):T.length<=(cs.filter λc=>decide<|c≠32).length:=by induction h with|nil=>simp|turn l _ ih=>have:=l.ne.2.1;rw[tG,ag,ag];lia
def Mk.mem(h:Mk cs T):∀u∈T,u≠[]/\(∀c∈u,c∈cs)/\u.length<=cs.length:=by induction h with|nil=>intro u hu;exact nomatch hu|@turn p cs ts us l _ ih=>intro u hu;rcases bS.mp hu with hu |hu;have e:=l.ne.2.2 u hu;subst e;exact⟨l.ne.1,λc hc=>fH _ hc,by simp⟩;have:=ih u hu;exact⟨this.1,λc hc=>aF _<|this.2.1 c hc,by rw[ag];lia⟩
def Le(cs:bI):∃u r,cs=u++r/\(∀c∈u,lo c=true)/\(∀c,r.head?=some c->lo c=false):=by induction cs with|nil=>exact⟨[],[],rfl,(λc h=>nomatch h),λc h=>nomatch h⟩|cons c cs ih=>by_cases h:lo c=true;let⟨u,r,e,h1,h2⟩:=ih;refine⟨c::u,r,by rw[e];rfl,λd hd=>?_,h2⟩;rcases bc.mp hd with rfl |hd;exact h;exact h1 d hd;exact⟨[],c::cs,rfl,(λc h=>nomatch h),λd hd=>by cases hd;simpa using h⟩
theorem Ei:∀(n:Nat)(cs:bI),cs.length<=n->∃T,Mk cs T
 |_,[],_=>⟨[],.nil⟩|0,c::cs,h=>by simp at h
 |n+1,c::cs,h=>by
  have go:∀{p r:bI}{ts:TK},c::cs=p++r->LM p r ts->∃T,Mk (c::cs) T:=λ{p r ts}e l=>by have hp:=List.length_pos_iff.mpr l.ne.1;have hl:=aL List.length e;rw[ag]at hl;let⟨us,q⟩:=Ei n r (by simp at hl h;lia);exact⟨_,by rw[e];exact .turn l q⟩
  by_cases ha:lo c=true;let⟨u,r,e,h1,h2⟩:=Le cs;exact go (p:=c::u) (by rw[e];rfl)<|.run (by simp) (λd hd=>by rcases bc.mp hd with rfl |hd;exact ha;exact h1 d hd) h2
  have ha':lo c=false:=by simpa using ha
  by_cases h0:c=32;subst h0;exact go rfl .sp;by_cases hd:(c=60\/c=62\/c=33)/\cs.head?=some 61;obtain⟨r,er⟩:∃r,cs=61::r:=by
   cases cs with
   |nil=>cases hd.2
   |cons x r=>have:=hd.2;simp at this;subst this;exact⟨r,rfl⟩
  exact go (by rw[er];rfl)<|.dbl hd.1;exact go rfl<|.one ha' h0 hd
def RT:∀c:Nat,c<128->lo c=true->al c=true:=by decide
def RS:∀c:Nat,c<128->al c=true->lo c=false->65<=c/\c<=90:=by decide
def Nt{c:Nat}(hc:c<128)(h:al c=false):lo c=false:=by cases e:lo c with|false=>rfl|true=>rw[RT c hc e]at h;cases h
def Fx(h:WD u):∀c∈u,lo c=true:=by
 rcases h with h |h;exactλc hc=>ar<|.inr<|h.2.1 c hc;have:∀u∈AX,∀c∈u,lo c=true:=by decide
 exact this u h
def NA{cs:bI}(ha:∀c∈cs,c<128)(h:∀c,cs.head?=some c->al c=false):∀c,cs.head?=some c->lo c=false:=λc e=>Nt (ha c<|List.mem_of_mem_head?<|by rw[e];rfl)<|h c e
def LT.lm(h:LT p cs ts)(ha:∀c∈p++cs,c<128):LM p cs ts:=by
 cases h with
 |sp=>exact .sp|run h1 h2=>exact .run h1.ne (Fx h1)<|NA (λc hc=>ha c<|aF _ hc) h2
 |@sign c _ h1 h2 h3=>refine .one (Nt (ha c<|by simp) h1) h2 λz=>?_;rcases h3 with h3 |h3;rcases z.1 with z |z |z;exact h3.1 z;exact h3.2.1 z;exact h3.2.2 z;exact h3.2 z.2
 |dbl h=>exact .dbl h
def Lx.mk(h:Lx cs T):(∀c∈cs,c<128)->Mk cs T:=by
 induction h with
 |nil=>exactλ_=>.nil
 |turn l _ ih=>exactλha=>.turn (l.lm ha) (ih λc hc=>ha c<|aF _ hc)
def Mk.up(h:Mk cs T):∀c∈cs,65<=c->c<=90->[c]∈T:=by
 induction h with
 |nil=>intro c hc;exact nomatch hc
 |@turn p cs ts us l _ ih=>
  intro c hc h1 h2;rcases bS.mp hc with hc |hc;cases l with
  |sp=>simp at hc;lia|run _ h3 _=>have:=cg<|h3 c hc;lia
  |dbl h3=>simp at hc;lia|one _ _ _=>simp at hc;subst hc;simp
  exact aF _<|ih c hc h1 h2
def Qc:TK:=[[40],[41],[42],[43],[45],[94],[91],[93],[60],[61],[62],[60,61],[62,61],[33,61]]
def IC(u:bI):Prop:=WD u\/u∈Qc
def ZY.mk(h:ZY cs):(∀c∈cs,c<128)->∃T,Mk cs T/\∃u∈T,¬IC u:=by
 induction h with
 |@bad u cs h1 h2 h3 h4=>
  intro ha;by_cases q:∀c∈u,lo c=true;let⟨T,hT⟩:=Ei cs.length cs<|ao _;refine⟨[u]++T,.turn (.run h1 q<|NA (λc hc=>ha c<|aF _ hc) h3) hT,u,by simp,λz=>?_⟩;rcases z with z |z;exact h4 z;have:∀u∈Qc,∃c∈u,lo c=false:=by decide
  let⟨c,hc,e⟩:=this u z;rw[q c hc]at e;cases e;let⟨T,hT⟩:=Ei (u++cs).length (u++cs)<|ao _;let⟨c,q⟩:=Classical.not_forall.mp q;have hc:=Qm λz=>q λy=>absurd y z;have e:lo c=false:=by cases e:lo c with|false=>rfl|true=>exact absurd (λ_=>e) q
  have up:=RS c (ha c<|fH _ hc) (h2 c hc) e;refine⟨T,hT,[c],hT.up c (fH _ hc) up.1 up.2,λz=>?_⟩;rcases z with z |z;have:=Fx z c (by simp);rw[this]at e;cases e;have:∀c<91,65<=c->[c]∉Qc:=by decide
  exact this c (by lia) up.1 z
 |@turn p cs ts l _ ih=>intro ha;let⟨T,hT,u,hu,hn⟩:=ih λc hc=>ha c<|aF _ hc;exact⟨ts++T,.turn (l.lm ha) hT,u,aF _ hu,hn⟩
def pA(ds:aM)(d:D):Prop:=∃(cs:bI)(T:TK),ds=[.str<|S cs]/\Mk cs T/\(∀c∈cs,c<128)/\cs.length<=20000/\d=.lst (ay T)
def xC:∀ds d,pA ds d->ds.length=1:=by rintro _ _ ⟨_,_,rfl,_⟩;rfl
def U3(WJ:List Stmt)(i:Nat):Expr:=match WJ[i]? with|some (.If _ _ [.If c _ _ _] _)=>c|_=>.Constant .none 0 ⟨0,0,0,0⟩
def Il(R:Nat->cE)(n:Nat)(h:∀i,i<n->Vr X (R i) c true/\Vt X (R i) body (.nx<|R<|i+1))(hn:Vr X (R n) c false):∀(k i:Nat),i+k=n->Wv X c body k (R i) (.nx<|R n)
 |0,i,e=>by
  have e':i=n:=by lia
  subst e';exact .stop hn
 |k+1,i,e=>.step (h i<|by lia).1 (h i<|by lia).2<|Il R n h hn k (i+1)<|by lia
def R3{pre r:bI}{i j:Int}{n:Nat}(hi:i=(pre.length:Nat))(hj:j=((pre.length+n:Nat):Int)):Txt.slice (S<|pre++r) (some i) (some j)=S (r.take n):=by rw[hi,hj,uB (by lia)<|by rw[ce];simp,eQ,List.drop_left,Nat.add_sub_cancel_left];rfl
theorem L7{pre:bI}{done:TK}[WR X](t:At X jy (aq cV))(b1:kN X (aq cV) "len" (.builtin "len")){x:Sl}(l:LM p Xp ts)(ha:∀c∈pre++(p++Xp),c<128)(hz:(pre++(p++Xp)).length<=20000)(hd:done.length<=20000):Vt X [.val<|.str<|S<|pre++(p++Xp),.own<|ay done,.val<|.int pre.length,.val<|.str SG,x] (uI (aW cV) 3).2 (.nx [.val<|.str<|S<|pre++(p++Xp),.own<|ay<|done++ts,.val<|.int (pre++p).length,.val<|.str SG,.val<|.int (pre++p).length]):=by
 obtain⟨c,p',rfl⟩:∃c p',p=c::p':=by cases p with|nil=>exact absurd rfl l.ne.1|cons c cs=>exact⟨c,cs,rfl⟩
 have hs:=Wh hz;have hc:=ha c (by simp);have ZC:me (S<|pre++((c::p')++Xp)).cps.toList pre.length=some c:=sX;have el:(((pre++(c::p')).length:Nat):Int)=((pre.length+(c::p').length:Nat):Int):=by rw[ag]
 have tail:∀{WJ:List Stmt},WJ=(uI (aW cV) 3).2.drop 2->Vt X [.val<|.str<|S<|pre++((c::p')++Xp),.own<|ay done,.val<|.int pre.length,.val<|.str SG,.val<|.int (pre++(c::p')).length] WJ (.nx [.val<|.str<|S<|pre++((c::p')++Xp),.own<|ay<|done++ts,.val<|.int (pre++(c::p')).length,.val<|.str SG,.val<|.int (pre++(c::p')).length]):=by
  rintro _ rfl;by_cases h0:c=32;have ets:ts=[]:=by
   subst h0;cases l with
   |sp=>rfl|run _ h2 _=>exact absurd (h2 32<|by simp)<|by decide
   |dbl h=>lia|one _ h _=>exact absurd rfl h
  subst ets;rw[aX];exact au (cj (Vr.eq (qy t (c7 (aa t 0) (aa t 2) hs ZC) Vo (λx hx=>by simp at hx;lia) DP)<|by rw[h0];rfl) bQ)<|az<|bg t 2<|aa t 4;have ets:ts=[c::p']:=by
   cases l with
   |sp=>exact absurd rfl h0|run _ h2 _=>rfl
   |dbl h=>rfl|one _ h _=>rfl
  subst ets;refine au (W1:=[.val<|.str<|S<|pre++((c::p')++Xp),.own<|ay<|done++[c::p'],.val<|.int pre.length,.val<|.str SG,.val<|.int (pre++(c::p')).length]) (dA (Vr.eq (qy t (c7 (aa t 0) (aa t 2) hs ZC) Vo (λx hx=>by simp at hx;lia) DP)<|by rw[aj λz=>h0<|by cases z;rfl];rfl)<|az<|VN.eq (gz t 1 rfl (oO (aa t 0) (aa t 2) (aa t 4) hs)<|by rw[aQ];exact bM hd<|by decide) ?_)<|az<|bg t 2<|aa t 4;rw[R3 rfl el,List.take_left];unfold ay;simp
 refine au (bg t 4<|bB (aa t 2) ah) ?_;by_cases Zf:lo c=true;have hr:(∀d∈p',lo d=true)/\∀d,Xp.head?=some d->lo d=false:=by
  cases l with
  |sp=>exact absurd Zf (by decide)|run _ h2 h3=>exact⟨λd hd=>h2 d<|by simp[hd],h3⟩
  |dbl h=>rcases h with rfl |rfl |rfl<;>exact absurd Zf<|by decide
  |one h _ _=>rw[h]at Zf;cases Zf
 refine au (dA (Vr.eq (kG (c7 (aa t 0) (aa t 2) hs ZC) (aa t 3)<|uh c hc) Zf)<|az<|gp t ⟨p'.length,Il (λi=>[.val<|.str<|S<|pre++((c::p')++Xp),.own<|ay done,.val<|.int pre.length,.val<|.str SG,.val<|.int<|pre.length+1+i]) p'.length (λi hi=>?_) ?_ p'.length 0<|by lia⟩) ?_;obtain⟨u1,d,u2,rfl,rfl⟩:∃u1 d u2,p'=u1++d::u2/\i=u1.length:=⟨p'.take i,p'[i],p'.drop<|i+1,by simp,by simp;lia⟩;have Zy:d<128:=ha d (by simp);refine⟨Vr.eq (fN (io (aa t 4)<|dX t b1 (aa t 0) hs) λ_=>kG (c7 (aa t 0) (aa t 4) hs ?_) (aa t 3)<|uh d Zy) ?_,az<|VN.eq (bg t 4<|bB (aa t 4) ah) ?_⟩;have:=sX (pre:=pre++(c::u1)) (post:=u2++Xp) (c:=d);have e2:((pre++(c::u1)).length:Int)=pre.length+1+u1.length:=by rw[ag,bY];lia
 rw[e2]at this;simpa using this;rw[ce,hr.1 d<|by simp,DO,bV];simp;lia;show(Out.nx [_,_,_,_,.val<|.int<|pre.length+1+u1.length+1])=.nx [_,_,_,_,.val<|.int<|pre.length+1+((u1.length+1:Nat):Int)];rw[show pre.length+1+u1.length+1=pre.length+1+((u1.length+1:Nat):Int)by lia];cases Xp with
 |nil=>exact Vr.eq (fN (io (aa t 4)<|dX t b1 (aa t 0) hs) λz=>by rw[ce,bV]at z;simp at z;lia)<|by rw[ce,DO,aZ];simp;lia
 |cons d r=>
  refine Vr.eq (fN (io (aa t 4)<|dX t b1 (aa t 0) hs) λ_=>kG (c7 (aa t 0) (aa t 4) hs ?_) (aa t 3)<|uh d<|ha d<|by simp) ?_;have:=sX (pre:=pre++(c::p')) (post:=r) (c:=d);have e2:((pre++(c::p')).length:Int)=pre.length+1+p'.length:=by rw[ag,bY];lia
  rw[e2]at this;simpa using this;rw[hr.2 d rfl,tJ]
 have e2:pre.length+1+p'.length=((pre++(c::p')).length:Int):=by rw[ag,bY];lia
 rw[e2];exact tail rfl;have zDN:lo c=false:=by simpa using Zf
 have c2:Vr X [.val<|.str<|S<|pre++((c::p')++Xp),.own<|ay done,.val<|.int pre.length,.val<|.str SG,.val<|.int<|pre.length+1] (U3 (uI (aW cV) 3).2 1) (decide<|((c::p')++Xp).take 2∈Px):=iy t (Vp.eq (oO (aa t 0) (aa t 2) (bB (aa t 2) ah) hs)<|aL D.str<|R3 (n:=2) rfl<|by lia) (aC<|ac Vo<|ac Vo<|ac Vo af) (de (dF λx hx=>ha x<|aF _<|pT hx)) (cL _) (by decide) (by rw[RC];exact jW _ _);by_cases hb:((c::p')++Xp).take 2∈Px;have ep:p'=[61]:=by
  cases l with
  |sp=>exact absurd hb (by cases Xp<;>simp[Px])|run _ h2 _=>exact absurd (h2 c<|by simp) Zf
  |dbl h=>rfl|one _ _ h=>exfalso;apply h;cases Xp with|nil=>simp[Px]at hb|cons d r=>simp[Px]at hb;simp;lia
 subst ep;refine au (cj (Vr.eq (kG (c7 (aa t 0) (aa t 2) hs ZC) (aa t 3)<|uh c hc) zDN)<|az<|dA (Vr.eq c2<|ar hb)<|az<|bg t 4<|bB (aa t 2) ah) ?_;have e2:pre.length+2=((pre++[c,61]).length:Int):=by rw[ag];rfl
 rw[e2];exact tail rfl;have ep:p'=[]:=by
  cases l with
  |sp=>rfl|run _ h2 _=>exact absurd (h2 c<|by simp) Zf
  |dbl h=>exact absurd (by simp[Px];exact h) hb|one _ _ h=>rfl
 subst ep;refine au (cj (Vr.eq (kG (c7 (aa t 0) (aa t 2) hs ZC) (aa t 3)<|uh c hc) zDN)<|az<|cj (Vr.eq c2<|aj hb) bQ) ?_;have e2:pre.length+1=((pre++[c]).length:Int):=by rw[ag];rfl
 rw[e2];exact tail rfl
def OP{cs:bI}{bP:bI}[WR X](t:At X jy (aq cV))(b1:kN X (aq cV) "len" (.builtin "len"))(ha:∀c∈cs,c<128)(hz:cs.length<=20000)(hl:Mk bP us):∀(pre:bI)(done:TK)(x:Sl),cs=pre++bP->done.length<=pre.length->∃m y,Wv X (uI (aW cV) 3).1 (uI (aW cV) 3).2 m [.val<|.str<|S cs,.own<|ay done,.val<|.int pre.length,.val<|.str SG,x] (.nx [.val<|.str<|S cs,.own<|ay<|done++us,.val<|.int cs.length,.val<|.str SG,y]):=by have test:∀(pre:bI)(done:TK)(x:Sl),Vr X [.val<|.str<|S cs,.own<|ay done,.val<|.int pre.length,.val<|.str SG,x] (uI (aW cV) 3).1 (decide<|pre.length<cs.length):=λpre done x=>Vr.eq (io (aa t 2)<|dX t b1 (aa t 0)<|Wh hz) (by rw[ce];simp);induction hl with|nil=>intro pre done x e hd;rw[aX]at e;subst e;exact⟨0,x,by rw[aX];exact .stop<|Vr.eq (test cs done x)<|aj<|by lia⟩|@turn p r ts us l _ ih=>intro pre done x e hd;have lp:=List.length_pos_iff.mpr l.ne.1;have lt2:=l.ne.2.1;have lt3:=ND p;subst e;let⟨m,y,run⟩:=ih (pre++p) (done++ts) (.val<|.int (pre++p).length) (by rw[aO]) (by simp;lia);rw[aO]at run;exact⟨m+1,y,.step (Vr.eq (test pre done x)<|ar<|by simp;lia) (L7 t b1 l ha hz<|by rw[ag]at hz;lia) run⟩
def Cc(h:cG P w K mg base k jy cV X)(Vw:mg "len"=none):Go X jy cV pA:=by rintro ds r ⟨cs,T,rfl,hl,ha,hz,rfl⟩;have t:=h.at';haveI:=h.VR;have b1:=h.bt Vw;let⟨m,y,run⟩:=OP t b1 ha hz hl [] [] .un rfl<|ao _;exact au (jl t 1<|bK af)<|au (bg t 2 ah)<|au (bg t 3 Vo)<|au (gp t ⟨m,run⟩)<|fJ 1 rfl<|az<|bj<|aa t 1
def Ee:mj X (compareOp .NotIn) (λx y H Q=>∃i j,x=.str i/\y=.str j/\Q (.bl (!(!(Builtin.Str.occurrences j i 0 j.length 1).isEmpty))) H):=by intro on s Y H x y v u Q I rx ry h;obtain⟨i,j,rfl,rfl,q⟩:=h;obtain⟨t,rfl⟩:=rx;obtain⟨t',rfl⟩:=ry;exact P.notIn_str<|c8 I q rfl
def Gp{r:Bool}(ha:Vp X U a (.str z))(hb:Vp X U b (.str w))(hr:(!(Builtin.Str.occurrences w z 0 w.length 1).isEmpty)=r)(hm:behindInMarks .NotIn b=false:=by rfl):Vr X U (.Compare a [.NotIn] [b] pos) (!r):=.of (gr Ee aU aU hm) λB F H Y Q k q=>two ha hb k λx y F' H' x' rx ry=>by cases rx;cases ry;subst hr;exact⟨z,w,rfl,rfl,_,rfl,q F' H' x'⟩
structure Y9(T:TK):Prop where
 lt:∀u∈T,∀c∈u,c<128
 len:∀u∈T,u.length<=20000
 deep:∀i,i<=T.length->dp T i<=20
def Y9.c(h:Y9 T)(a:Nat):∀c∈bw T a,c<128:=by rcases q0 with z |z;exact h.lt _ z;rw[z];exactλc hc=>nomatch hc
def Y9.l(h:Y9 T)(a:Nat):(bw T a).length<=20000:=by rcases q0 with z |z;exact h.len _ z;rw[z];decide
def sj:Option Tr->D|none=>.VH|some t=>DJ<|cl t
def Bc(r:Option Tr×Nat):D:=.tup [sj r.1,.int r.2]
def LC(G:TK->Nat->PR)(n:Nat)(ds:aM)(d:D):Prop:=∃(T:TK)(a:Nat),ds=[.lst<|ay T,.int a]/\Y9 T/\dp T a+n=21/\d=Bc (G T n a)
def LC.len{G:TK->Nat->PR}:∀ds d,LC G n ds d->ds.length=2:=by rintro _ _ ⟨_,_,rfl,_⟩;rfl
def mZ(t:Tr):C1 (sj<|some t)=false:=by cases t<;>rfl
def Ic:([D.str "x",.str "y"]:aM)=ay [[120],[121]]:=by rw[NS,SI];rfl
def GX:("-":Str)=S [45]:=rfl
def NT:("^":Str)=S [94]:=rfl
def Qp:("*":Str)=S [42]:=rfl
def Qr:("+":Str)=S [43]:=rfl
def vi(h:cG P w K mg base k jQ ij X)(c1:EV.Callee X "_law_mark" eY)(c2:EV.Callee X "_law_is_number" im)(c3:EV.Callee X "_law_tree_sum" (LC g n)):Go X jQ ij (LC GA<|n+1):=by
 rintro ds d ⟨T,a,rfl,ok,hd,rfl⟩;have t:=h.at';haveI:=h.VR;have hc:=ok.c a;have cw:PyData.canLayAll0 (VA [D.str "x",.str "y"])=true:=by decide
 show Vt X [.val<|.lst<|ay T,.val<|.int a,.un,.un,.un] _ (.rt<|Bc<|jb (g T n) T a);refine au (bg t 2<|aB t c1 (ac (aa t 0)<|ac (aa t 1) af) ⟨T,a,rfl,rfl⟩)<|ip (u:=H0<|bw T a) (Vr.eq (eM (fM<|aB t c2 (ac (aa t 2) af) ⟨_,rfl,hc,ok.l a,rfl⟩) λ_=>iy (r:=decide<|bw T a∈[[120],[121]]) t (aa t 2) (aC<|ac Vo<|ac Vo af) (de<|dF hc) (cL _) cw<|by rw[Ic];exact jW _ _) ?_) (λv=>az<|bj<|Vp.eq (aC<|ac (aC<|ac Vo<|ac (aa t 2) af)<|ac (bB (aa t 1) ah) af) ?_) λv=>?_;congr 1;by_cases q1:bw T a=[120]<;>by_cases q2:bw T a=[121]<;>simp[q1,q2];unfold jb;rw[ax v];rfl;refine ip (qy t (aa t 2) Vo hc SK) (λv2=>az<|bj<|Vp.eq (aC<|ac eJ<|ac (aa t 1) af) ?_) λv2=>?_;unfold jb;rw[av<|by rw[v];exact aA,av<|by simpa using v2];rfl;have hp:bw T a=[40]:=by simpa using v2
 have e1:(a+1)=((a+1:Nat):Int):=by lia
 have eg:jb (g T n) T a=(match g T n (a+1)with |(some t,e)=>if bw T e=[41]then(some t,e+1)else(none,a) |(none,_)=>(none,a)):=by unfold jb;rw[av<|by rw[v];exact aA,ax hp]<;>rfl
 rw[eg];refine au (iE t (aB t c3 (ac (aa t 0)<|ac (Vp.eq (bB (aa t 1) ah)<|aL D.int e1) af) ⟨T,a+1,rfl,ok,by rw[wB hp];lia,rfl⟩)<|gs t<|bA (bq t 3)<|bA (bq t 4) e9) ?_;cases g T n (a+1)with
 |mk o e=>
  cases o with
  |none=>exact ip (Vr.eq (eM (v:=false) (Vr.eq (eV<|aa t 3 rfl) rfl) λz=>nomatch z) rfl) (λ_=>az<|bj<|aC<|ac eJ<|ac (aa t 1 rfl) af) λz=>nomatch z
  |some tr=>refine ip (Vr.eq (eM (Vr.eq (eV<|aa t 3)<|mZ tr) λ_=>qy t (aB t c1 (ac (aa t 0)<|ac (aa t 4) af) ⟨T,e,rfl,rfl⟩) Vo (ok.c e) SL)<|gj _) (λq=>az<|bj<|Vp.eq (aC<|ac eJ<|ac (aa t 1) af) ?_) λq=>az<|bj<|Vp.eq (aC<|ac (aa t 3)<|ac (bB (aa t 4) ah) af) ?_;show _=Bc (if bw T e=[41]then _ else _);rw[av<|by simpa using q];rfl;show _=Bc (if bw T e=[41]then _ else _);rw[ax<|by simpa using q];rfl
theorem Mq{c:Nat}:Qf [c]=decide (48<=c/\c<=57):=bG.mpr ⟨λh=>by
  have:∀u∈xK,48<=u.headD 0/\u.headD 0<=57:=by decide
  exact this _ h,λh=>by
  have:∀d,d<10->[48+d]∈xK:=by decide
  have:=this (c-48) (by lia);rwa[show 48+(c-48)=c by lia]at this⟩
theorem sW{n:Nat}(h:cG P w K mg base k iW fz X)(Vw:mg "len"=none)(Wl:mg "int"=none)(c1:EV.Callee X "_law_mark" eY)(c2:EV.Callee X "_law_tree_atom" (LC GA<|n+1)):Go X iW fz (LC GF<|n+1):=by
 rintro ds d ⟨T,a,rfl,ok,hd,rfl⟩;have t:=h.at';haveI:=h.VR;have b1:=h.bt Wl;have b2:=h.bt Vw;show Vt X [.val<|.lst<|ay T,.val<|.int a,.un,.un,.un,.un] _ (.rt<|Bc<|lS (g T n) T a);have hm:=xo T a _<|ao<|mY T a;refine au (bg t 2 ah)<|au (gp t ⟨mY T a,Il (λi=>[.val<|.lst<|ay T,.val<|.int ((a+i:Nat):Int),.val<|.int i,.un,.un,.un]) (mY T a) (λi hi=>⟨Vr.eq (iz t (aB t c1 (ac (aa t 0)<|ac (aa t 1) af) ⟨T,a+i,rfl,rfl⟩) Vo (ok.c _) GX)<|ar<|xn T a i hi,au (bg t 2<|bB (aa t 2) ah)<|az<|VN.eq (bg t 1<|bB (aa t 1) ah) ?_⟩) (Vr.eq (iz t (aB t c1 (ac (aa t 0)<|ac (aa t 1) af) ⟨T,a+mY T a,rfl,rfl⟩) Vo (ok.c _) GX)<|aj<|Bl T a) (mY T a) 0<|by lia⟩) ?_;show(Out.nx [_,.val<|.int<|((a+i:Nat):Int)+1,.val<|.int<|i+1,_,_,_])=.nx [_,.val<|.int ((a+(i+1):Nat):Int),.val<|.int ((i+1:Nat):Int),_,_,_];rw[show((a+i:Nat):Int)+1=((a+(i+1):Nat):Int)by lia,show i+1=((i+1:Nat):Int)by lia];unfold lS u8;generalize mY T a=m at hm;generalize hb:a+m=b at hm;refine au (iE t (aB t c2 (ac (aa t 0)<|ac (aa t 1) af) ⟨T,b,rfl,ok,by rwa[hm],rfl⟩)<|gs t<|bA (bq t 3)<|bA (bq t 4) e9) ?_;show Vt X [.val<|.lst<|ay T,.val<|.int b,.val<|.int m,.val<|sj (jb (g T n) T b).1,.val<|.int (jb (g T n) T b).2,.un] _ _;cases jb (g T n) T b with
 |mk o e=>
  cases o with
  |none=>exact ip (Vr.eq (eM (v:=false) (Vr.eq (eV<|aa t 3 rfl) rfl) λz=>nomatch z) rfl) (λ_=>az<|bj<|aC<|ac eJ<|ac (aa t 1 rfl) af) λz=>nomatch z
  |some tr=>
   have hc:=ok.c<|e+1;have he1:e+1=((e+1:Nat):Int):=by lia
   have he2:e+2=((e+2:Nat):Int):=by lia
   dsimp only;refine ip (u:=decide<|20<m) (Vr.eq (eM (Vr.eq (eV<|aa t 3)<|mZ tr) λ_=>gf (aa t 2) ah)<|by rw[gj];simp;lia) (λq=>az<|bj<|Vp.eq (aC<|ac eJ<|ac (aa t 1) af) ?_) λq=>?_;have q':=cg q;by_cases y:bw T e=[94];by_cases z:Qf (bw T<|e+1)=true;rw[ax y,ax z];show _=Bc (if 20<m then _ else _);rw[ax q'];rfl;rw[ax y,av z];rfl;rw[av y];show _=Bc (if 20<m then _ else _);rw[ax q'];rfl;have q':=gu q;have last:∀(t':Tr)(e':Nat)(x:Sl){WJ:List Stmt},WJ=(aW fz).drop 5->Vt X [.val<|.lst<|ay T,.val<|.int b,.val<|.int m,.val<|sj<|some t',.val<|.int e',x] WJ (.rt<|Bc (some<|ng m t',e')):=by rintro t' e' x _ rfl;by_cases o1:m%2=1;refine au (dA (Vr.eq (dM (bJ (aa t 2) ah) ah)<|ar<|by lia)<|az<|bg t 3<|aC<|ac Vo<|ac (aC<|ac Vo<|ac Vo af)<|ac (aa t 3) af)<|az<|bj<|Vp.eq (aC<|ac (aa t 3)<|ac (aa t 4) af) ?_;unfold ng;rw[ax o1,NZ];rfl;refine au (cj (Vr.eq (dM (bJ (aa t 2) ah) ah)<|aj<|by lia) bQ)<|az<|bj<|Vp.eq (aC<|ac (aa t 3)<|ac (aa t 4) af) ?_;unfold ng;rw[av o1];rfl
   by_cases y:bw T e=[94]
   skip
   by_cases z:Qf (bw T<|e+1)=true;rw[ax y,ax z];let⟨f1,f2⟩:=Bv _<|cg z;generalize dg (bw T<|e+1)=dd at f1 f2;have zBM:PySem.intText? (S [48+dd])=some (dd:Int):=by
    have:∀d:Nat,d<10->PySem.intText? (S [48+d])=some (d:Int):=by decide
    exact this dd<|by lia
   refine au (W1:=[.val<|.lst<|ay T,.val<|.int b,.val<|.int m,.val<|sj<|some<|.pow tr dd,.val<|.int ((e+2:Nat):Int),.val<|.str<|S<|bw T<|e+1]) (dA (Vr.eq (iz t (aB t c1 (ac (aa t 0)<|ac (aa t 4) af) ⟨T,e,rfl,rfl⟩) Vo (ok.c e) NT)<|ar y)<|au (bg t 5<|aB t c1 (ac (aa t 0)<|ac (Vp.eq (bB (aa t 4) ah)<|aL D.int he1) af) ⟨T,e+1,rfl,rfl⟩)<|au (cj (Vr.eq (eM (Vr.eq (vc (dX t b2 (aa t 5)<|by rw[f1];exact Wh<|by simp) ah) (b':=false) ?_) λ_=>Gp (r:=true) (aa t 5) Vo ?_) rfl) bQ)<|au (bg t 3<|aC<|ac Vo<|ac (aa t 3)<|ac (wu t b1 (aa t 5) (n:=(dd:Int)) ?_ ?_) af)<|az<|VN.eq (bg t 4<|bB (aa t 4) ah) ?_) ?_;rw[f1];rfl;rw[f1];exact(xJ (48+dd)<|by lia).trans<|ar (by lia);rw[f1];exact zBM;rw[f1,ce];simp;rw[<-he2];rfl;show Vt X _ _ (.rt<|Bc (if 20<m then(none,b)else(some<|ng m<|.pow tr dd,e+2)));rw[av q'];exact last (.pow tr dd) (e+2) _ rfl;have z':Qf (bw T<|e+1)=false:=by simpa using z
   rw[ax y,av z];refine dC<|dA (Vr.eq (iz t (aB t c1 (ac (aa t 0)<|ac (aa t 4) af) ⟨T,e,rfl,rfl⟩) Vo (ok.c e) NT)<|ar y)<|au (bg t 5<|aB t c1 (ac (aa t 0)<|ac (Vp.eq (bB (aa t 4) ah)<|aL D.int he1) af) ⟨T,e+1,rfl,rfl⟩)<|dC<|dA ?_<|az<|bj<|aC<|ac eJ<|ac (aa t 1) af;by_cases l1:(bw T<|e+1).length=1
   obtain⟨c,ec⟩:∃c,bw T (e+1)=[c]:=by
    match bw T (e+1),l1 with|[c],_=>exact⟨c,rfl⟩
   refine Vr.eq (eM (Vr.eq (vc (dX t b2 (aa t 5)<|Wh<|ok.l _) ah) (b':=false)<|by rw[ce,l1];rfl) λ_=>Gp (r:=false) (aa t 5) Vo ?_) rfl;rw[ec]at z' hc ⊢;rw[Mq]at z';exact(xJ c<|hc c<|by simp).trans z';exact Vr.eq (eM (u:=true) (v:=true) (Vr.eq (vc (dX t b2 (aa t 5 rfl)<|Wh<|ok.l _) ah)<|by rw[ce,aj<|by lia];rfl) λz=>nomatch z) rfl;rw[av y];show Vt X _ _ (.rt<|Bc (if 20<m then(none,b)else(some<|ng m tr,e)));rw[av q'];exact au (cj (Vr.eq (iz t (aB t c1 (ac (aa t 0)<|ac (aa t 4) af) ⟨T,e,rfl,rfl⟩) Vo (ok.c e) NT)<|aj y) bQ)<|last tr e _ rfl
def Q5:([D.str "+",.str "-"]:aM)=ay [[43],[45]]:=by rw[Qr,GX];rfl
def S3{e:Nat}(h:bw T e=[42]):e<T.length/\dp T (e+1)=dp T e:=⟨fU<|by rw[h];simp,fv (fU<|by rw[h];simp) (by rw[h];simp)<|by rw[h];simp⟩
def S1{e:Nat}(h:bw T e=[43]\/bw T e=[45]):e<T.length/\dp T (e+1)=dp T e:=by have l:=fU (by rcases h with h |h<;>rw[h]<;>simp);exact⟨l,fv l (by rcases h with h |h<;>rw[h]<;>simp)<|by rcases h with h |h<;>rw[h]<;>simp⟩
def LO{n:Nat}[WR X](t:At X il (aq cq))(c1:EV.Callee X "_law_mark" eY)(c2:EV.Callee X "_law_tree_factor" (LC GF<|n+1))(ok:Y9 T)(a:Nat):∀(f:Nat)(tr:Tr)(e:Nat)(x:Sl),T.length<=f+e->dp T e+((n+1:Nat):Int)=21->(∃Zo e' m y,oM (g T n) T a f tr e=(some Zo,e')/\Wv X (uI (aW cq) 1).1 (uI (aW cq) 1).2 m [.val<|.lst<|ay T,.val<|.int a,.val<|sj<|some tr,.val<|.int e,x] (.nx [.val<|.lst<|ay T,.val<|.int a,.val<|sj<|some Zo,.val<|.int e',y]))\/(oM (g T n) T a f tr e=(none,a)/\∃m,Wv X (uI (aW cq) 1).1 (uI (aW cq) 1).2 m [.val<|.lst<|ay T,.val<|.int a,.val<|sj<|some tr,.val<|.int e,x]<|.rt<|Bc (none,a)):=by
 have test:∀(tr:Tr)(e:Nat)(x:Sl),Vr X [.val<|.lst<|ay T,.val<|.int a,.val<|sj<|some tr,.val<|.int e,x] (uI (aW cq) 1).1 (decide<|bw T e=[42]):=λtr e x=>Vr.eq (fN (Vr.eq (ww<|aa t 2)<|by rw[mZ];rfl) λ_=>iz t (aB t c1 (ac (aa t 0)<|ac (aa t 3) af) ⟨T,e,rfl,rfl⟩) Vo (ok.c e) Qp)<|DM _;intro f;induction f with
 |zero=>exactλtr e x hf hd=>.inl ⟨tr,e,0,x,rfl,.stop<|Vr.eq (test tr e x)<|aj<|by rw[qZ<|by lia];simp⟩
 |succ f ih=>
  intro tr e x hf hd;by_cases y:bw T e=[42];have h2:=S3 y;have e1:e+1=((e+1:Nat):Int):=by lia
  have hc:GF T (n+1) (e+1)=lS (g T n) T (e+1):=rfl;have hdd:dp T (e+1)+((n+1:Nat):Int)=21:=by rwa[h2.2]
  cases q:lS (g T n) T (e+1)with
  |mk o e'=>
   have Yu:LC GF (n+1) [.lst<|ay T,.int ((e+1:Nat):Int)] (.tup [sj o,.int e']):=⟨T,e+1,rfl,ok,hdd,by rw[hc,q];rfl⟩;cases o with
   |none=>refine .inr ⟨?_,0,.ret (Vr.eq (test tr e x)<|ar y)<|au (iE t (aB t c2 (ac (aa t 0)<|ac (Vp.eq (bB (aa t 3) ah)<|aL D.int e1) af) Yu)<|gs t<|bA (bq t 4)<|bA (bq t 3) e9)<|dC<|dA (Vr.eq (eV<|aa t 4) rfl)<|az<|bj<|aC<|ac eJ<|ac (aa t 1) af⟩;unfold oM;rw[ax y,q]
   |some m=>
    have A:=lh (fV T n) q;have l1:=A.lt;have step:Vt X [.val<|.lst<|ay T,.val<|.int a,.val<|sj<|some tr,.val<|.int e,x] (uI (aW cq) 1).2 (.nx [.val<|.lst<|ay T,.val<|.int a,.val<|sj<|some<|.mul tr m,.val<|.int e',.val<|sj<|some m]):=au (iE t (aB t c2 (ac (aa t 0)<|ac (Vp.eq (bB (aa t 3) ah)<|aL D.int e1) af) Yu)<|gs t<|bA (bq t 4)<|bA (bq t 3) e9)<|au (cj (Vr.eq (eV<|aa t 4)<|mZ m) bQ)<|az<|bg t 2<|aC<|ac Vo<|ac (aa t 2)<|ac (aa t 4) af;have eg:oM (g T n) T a (f+1) tr e=oM (g T n) T a f (.mul tr m) e':=by show(if bw T e=[42]then _ else _)=_;rw[ax y,q]
    rw[eg];rcases ih (.mul tr m) e' (.val<|sj<|some m) (by lia) (by rwa[A.WQ,h2.2])with⟨Zo,e2,mm,y',h3,h4⟩ |⟨h3,mm,h4⟩;exact .inl ⟨Zo,e2,mm+1,y',h3,.step (Vr.eq (test tr e x)<|ar y) step h4⟩;exact .inr ⟨h3,mm+1,.step (Vr.eq (test tr e x)<|ar y) step h4⟩
  refine .inl ⟨tr,e,0,x,?_,.stop<|Vr.eq (test tr e x)<|aj y⟩;unfold oM;rw[av y]
def vh{n:Nat}(h:cG P w K mg base k il cq X)(c1:EV.Callee X "_law_mark" eY)(c2:EV.Callee X "_law_tree_factor" (LC GF<|n+1)):Go X il cq (LC GP<|n+1):=by rintro ds d ⟨T,a,rfl,ok,hd,rfl⟩;have t:=h.at';haveI:=h.VR;show Vt X [.val<|.lst<|ay T,.val<|.int a,.un,.un,.un] _ (.rt<|Bc<|xH (g T n) T a);unfold xH;cases q:lS (g T n) T a with|mk o e=>have Yu:LC GF (n+1) [.lst<|ay T,.int a] (.tup [sj o,.int e]):=⟨T,a,rfl,ok,hd,by show _=Bc (lS (g T n) T a);rw[q];rfl⟩;refine au (iE t (aB t c2 (ac (aa t 0)<|ac (aa t 1) af) Yu)<|gs t<|bA (bq t 2)<|bA (bq t 3) e9) ?_;cases o with|none=>refine au (gp t ⟨0,.stop<|Vr.eq (fN (v:=false) (Vr.eq (ww<|aa t 2 rfl) rfl) λz=>nomatch z) rfl⟩) (az<|bj<|aC<|ac (aa t 2 rfl)<|ac (aa t 3 rfl) af)|some tr=>show Vt X [.val<|.lst<|ay T,.val<|.int a,.val<|sj<|some tr,.val<|.int e,.un] _ (.rt<|Bc<|oM (g T n) T a T.length tr e);rcases LO t c1 c2 ok a T.length tr e .un (by lia) (by rwa[(lh (fV T n) q).WQ])with⟨Zo,e2,mm,y',h3,h4⟩ |⟨h3,mm,h4⟩;rw[h3];exact au (gp t ⟨mm,h4⟩)<|az<|bj<|aC<|ac (aa t 2)<|ac (aa t 3) af;rw[h3];exact dC<|gp t ⟨mm,h4⟩
def Lk{n:Nat}[WR X](t:At X iS (aq cp))(bi:kN X (aq cp) "int" (.type "int"))(c1:EV.Callee X "_law_mark" eY)(c2:EV.Callee X "_law_tree_prod" (LC GP<|n+1))(ok:Y9 T)(a:Nat):∀(f:Nat)(tr:Tr)(e:Nat)(x z:Sl),T.length<=f+e->dp T e+((n+1:Nat):Int)=21->(∃Zo e' m y v,oK (g T n) T a f tr e=(some Zo,e')/\Wv X (uI (aW cp) 1).1 (uI (aW cp) 1).2 m [.val<|.lst<|ay T,.val<|.int a,.val<|sj<|some tr,.val<|.int e,x,z] (.nx [.val<|.lst<|ay T,.val<|.int a,.val<|sj<|some Zo,.val<|.int e',y,v]))\/(oK (g T n) T a f tr e=(none,a)/\∃m,Wv X (uI (aW cp) 1).1 (uI (aW cp) 1).2 m [.val<|.lst<|ay T,.val<|.int a,.val<|sj<|some tr,.val<|.int e,x,z]<|.rt<|Bc (none,a)):=by
 have cw:PyData.canLayAll0 (VA [D.str "+",.str "-"])=true:=by decide
 have test:∀(tr:Tr)(e:Nat)(x z:Sl),Vr X [.val<|.lst<|ay T,.val<|.int a,.val<|sj<|some tr,.val<|.int e,x,z] (uI (aW cp) 1).1 (decide<|bw T e=[43]\/bw T e=[45]):=λtr e x z=>Vr.eq (fN (Vr.eq (ww<|aa t 2) (b':=true)<|by rw[mZ];rfl) λ_=>iy (r:=decide<|bw T e∈[[43],[45]]) t (aB t c1 (ac (aa t 0)<|ac (aa t 3) af) ⟨T,e,rfl,rfl⟩) (aC<|ac Vo<|ac Vo af) (de<|dF<|ok.c e) (cL _) cw<|by rw[Q5];exact jW _ _) (by rw[DM];simp);intro f;induction f with
 |zero=>exactλtr e x z hf hd=>.inl ⟨tr,e,0,x,z,rfl,.stop<|Vr.eq (test tr e x z)<|aj<|by rw[qZ<|by lia];simp⟩
 |succ f ih=>
  intro tr e x z hf hd;by_cases y:bw T e=[43]\/bw T e=[45];have h2:=S1 y;have e1:e+1=((e+1:Nat):Int):=by lia
  have hdd:dp T (e+1)+((n+1:Nat):Int)=21:=by rwa[h2.2]
  have wd:me ([.str "more",.str "less"]:aM) (if decide (bw T e=[45])=true then 1 else 0)=some (.str<|Fe (if bw T e=[45]then 2 else 1)):=by by_cases q:bw T e=[45];rw[ar q,ax rfl,ax q];rfl;rw[aj q,av aA,av q];rfl
  cases q:xH (g T n) T (e+1)with
  |mk o e'=>
   have Yu:LC GP (n+1) [.lst<|ay T,.int ((e+1:Nat):Int)] (.tup [sj o,.int e']):=⟨T,e+1,rfl,ok,hdd,by show _=Bc (xH (g T n) T<|e+1);rw[q];rfl⟩;cases o with
   |none=>refine .inr ⟨?_,0,.ret (Vr.eq (test tr e x z)<|ar y)<|au (bg t 4<|br (VD.toQ<|bK<|ac Vo<|ac Vo af) (oN t bi<|xN t (br (Vp.ql<|aa t 0) (aa t 3)<|mq h2.1) Vo (ok.c e) GX) wd)<|au (iE t (aB t c2 (ac (aa t 0)<|ac (Vp.eq (bB (aa t 3) ah)<|aL D.int e1) af) Yu)<|gs t<|bA (bq t 5)<|bA (bq t 3) e9)<|dC<|dA (Vr.eq (eV<|aa t 5) rfl)<|az<|bj<|aC<|ac eJ<|ac (aa t 1) af⟩;unfold oK;rw[ax y,q]
   |some m=>
    have A:=oQ (fV T n) q;have l1:=A.lt;have et:sj (some (if bw T e=[45]then Tr.sub tr m else Tr.add tr m))=.tup [.str<|Fe (if bw T e=[45]then 2 else 1),sj<|some tr,sj<|some m]:=by split<;>rfl
    have step:Vt X [.val<|.lst<|ay T,.val<|.int a,.val<|sj<|some tr,.val<|.int e,x,z] (uI (aW cp) 1).2 (.nx [.val<|.lst<|ay T,.val<|.int a,.val<|sj<|some (if bw T e=[45]then Tr.sub tr m else Tr.add tr m),.val<|.int e',.val<|.str<|Fe (if bw T e=[45]then 2 else 1),.val<|sj<|some m]):=by rw[et];exact au (bg t 4<|br (VD.toQ<|bK<|ac Vo<|ac Vo af) (oN t bi<|xN t (br (Vp.ql<|aa t 0) (aa t 3)<|mq h2.1) Vo (ok.c e) GX) wd)<|au (iE t (aB t c2 (ac (aa t 0)<|ac (Vp.eq (bB (aa t 3) ah)<|aL D.int e1) af) Yu)<|gs t<|bA (bq t 5)<|bA (bq t 3) e9)<|au (cj (Vr.eq (eV<|aa t 5)<|mZ m) bQ)<|az<|bg t 2<|aC<|ac (aa t 4)<|ac (aa t 2)<|ac (aa t 5) af
    have eg:oK (g T n) T a (f+1) tr e=oK (g T n) T a f (if bw T e=[45]then Tr.sub tr m else Tr.add tr m) e':=by show(if bw T e=[43]\/bw T e=[45]then _ else _)=_;rw[ax y,q]
    rw[eg];rcases ih (if bw T e=[45]then Tr.sub tr m else Tr.add tr m) e' (.val<|.str<|Fe (if bw T e=[45]then 2 else 1)) (.val<|sj<|some m) (by lia) (by rwa[A.WQ,h2.2])with⟨Zo,e2,mm,y',v',h3,h4⟩ |⟨h3,mm,h4⟩;exact .inl ⟨Zo,e2,mm+1,y',v',h3,.step (Vr.eq (test tr e x z)<|ar y) step h4⟩;exact .inr ⟨h3,mm+1,.step (Vr.eq (test tr e x z)<|ar y) step h4⟩
  refine .inl ⟨tr,e,0,x,z,?_,.stop<|Vr.eq (test tr e x z)<|aj y⟩;unfold oK;rw[av y]
def wc{n:Nat}(h:cG P w K mg base k iS cp X)(Wl:mg "int"=none)(c1:EV.Callee X "_law_mark" eY)(c2:EV.Callee X "_law_tree_prod" (LC GP<|n+1)):Go X iS cp (LC g<|n+1):=by rintro ds d ⟨T,a,rfl,ok,hd,rfl⟩;have t:=h.at';haveI:=h.VR;have bi:=h.bt Wl;show Vt X [.val<|.lst<|ay T,.val<|.int a,.un,.un,.un,.un] _ (.rt<|Bc<|J0 (g T n) T a);unfold J0;cases q:xH (g T n) T a with|mk o e=>have Yu:LC GP (n+1) [.lst<|ay T,.int a] (.tup [sj o,.int e]):=⟨T,a,rfl,ok,hd,by show _=Bc (xH (g T n) T a);rw[q];rfl⟩;refine au (iE t (aB t c2 (ac (aa t 0)<|ac (aa t 1) af) Yu)<|gs t<|bA (bq t 2)<|bA (bq t 3) e9) ?_;cases o with|none=>refine au (gp t ⟨0,.stop<|Vr.eq (fN (v:=false) (Vr.eq (ww<|aa t 2 rfl) rfl) λz=>nomatch z) rfl⟩) (az<|bj<|aC<|ac (aa t 2 rfl)<|ac (aa t 3 rfl) af)|some tr=>show Vt X [.val<|.lst<|ay T,.val<|.int a,.val<|sj<|some tr,.val<|.int e,.un,.un] _ (.rt<|Bc<|oK (g T n) T a T.length tr e);rcases Lk t bi c1 c2 ok a T.length tr e .un .un (by lia) (by rwa[(oQ (fV T n) q).WQ])with⟨Zo,e2,mm,y',v',h3,h4⟩ |⟨h3,mm,h4⟩;rw[h3];exact au (gp t ⟨mm,h4⟩)<|az<|bj<|aC<|ac (aa t 2)<|ac (aa t 3) af;rw[h3];exact dC<|gp t ⟨mm,h4⟩
theorem Kr:∀(n:Nat)(u:bI),u.length=n->(∀c∈u,48<=c/\c<=57)->PySem.NumText.digitsVal u<10 ^ n
 |0,u,e,_=>by have:u=[]:=mf.mp e;subst this;decide
 |n+1,u,e,h=>by
  have Xo:u≠[]:=λz=>by rw[z]at e;cases e
  have hl:u.dropLast.length=n:=by rw[Vi];lia
  have ih:=Kr n u.dropLast hl λc hc=>h c<|List.dropLast_subset _ hc;have hc:=h (u.getLast Xo)<|List.getLast_mem Xo;rw[<-(List.dropLast_concat_getLast Xo),PySem.NumText.digitsVal_snoc];have:10 ^ (n+1)=10 ^ n*10:=HU ..;lia
def ON(h:yh u):PySem.NumText.digitsVal u<10 ^ 12:=ba (Kr _ u rfl h.2.1)<|eU (by decide) h.2.2.1
def Jd(s:Nat):∀i,yv s i<=10 ^ 40|0=>by show 1<=10 ^ 40;decide|i+1=>Nat.min_le_left _ _
theorem B2:∀t,K1 t->(dD t).1<=9 ^ dT t/\(dD t).2<=10 ^ 40*2 ^ dT t
 |.leaf u,l=>by
  show(dD<|.leaf u).1<=9 ^ 1/\(dD<|.leaf u).2<=10 ^ 40*2 ^ 1;unfold dD;split;decide;rename_i q;refine⟨by lia,?_⟩;have:yh u:=by rcases l with z |z |z;exact z;exact absurd (.inl z) q;exact absurd (.inr z) q
  have:=ON this;lia
 |.pow t d,l=>by let⟨h1,h2⟩:=B2 t l.1;have hd:d<=9:=l.2;have h3:=Jd (dD t).2 d;refine⟨?_,?_⟩;show(dD t).1*max 1 d<=9 ^ (dT t+1);rw[HU];exact tE h1 (by lia);show max _ _<=10 ^ 40*2 ^ (dT t+1);have h4:10 ^ 40*1<=10 ^ 40*2 ^ dT t:=cO _<|Fb;lia|.bin k a b,l=>by let⟨h1,h2⟩:=B2 a l.2.1;let⟨h3,h4⟩:=B2 b l.2.2;show(dD<|.bin k a b).1<=9 ^ (max (dT a) (dT b)+1)/\(dD<|.bin k a b).2<=10 ^ 40*2 ^ (max (dT a) (dT b)+1);have p1:9 ^ dT a<=9 ^ max (dT a) (dT b):=eU (by decide) (by lia);have p2:9 ^ dT b<=9 ^ max (dT a) (dT b):=eU (by decide) (by lia);have p3:10 ^ 40*2 ^ dT a<=10 ^ 40*2 ^ max (dT a) (dT b):=cO _<|eU (by decide) (by lia);have p4:10 ^ 40*2 ^ dT b<=10 ^ 40*2 ^ max (dT a) (dT b):=cO _<|eU (by decide) (by lia);have h5:10 ^ 40*1<=10 ^ 40*2 ^ max (dT a) (dT b):=cO _<|Fb;unfold dD;split;exact⟨by lia,by lia⟩;exact⟨by lia,by lia⟩
def EO{t:Tl}(l:K1 t)(h:dT t<=520):(dD t).1<2 ^ 2000/\(dD t).2<2 ^ 2000:=by
 let⟨h1,h2⟩:=B2 t l;have q1:9 ^ dT t<=9 ^ 520:=eU (by decide) h;have q2:2 ^ dT t<=2 ^ 520:=eU (by decide) h;have q3:9 ^ 520<2 ^ 2000:=by decide
 have q4:10 ^ 40*2 ^ 520<2 ^ 2000:=by decide
 exact⟨bM (aJ h1 q1) q3,bM (aJ h2<|cO _ q2) q4⟩
def PB(t:Tl):D:=.tup [.int (dD t).1,.int (dD t).2]
def BC(n:Nat)(ds:aM)(d:D):Prop:=∃t:Tl,ds=[DJ t]/\K1 t/\dT t<=n/\dT t<=520/\d=PB t
def BC.len:∀ds d,BC n ds d->ds.length=1:=by rintro _ _ ⟨_,rfl,_⟩;rfl
def zAQ:decide (("power":Str)="leaf")=false/\(∀k,decide (Fe k="leaf")=false)/\∀k,decide (Fe k="power")=false:=by refine⟨by decide,λk=>?_,λk=>?_⟩;unfold Fe;split;decide;split<;>decide;unfold Fe;split;decide;split<;>decide
def Qu(k:Nat):decide (Fe k="product")=decide (k=0):=by unfold Fe;split;rename_i h;rw[h];decide;rename_i h;rw[aj h];split<;>decide
def Ik(k:Nat):PyData.strOk (Fe k)=true:=by unfold Fe;split;decide;split<;>decide
def JA(h:WN u)(q:¬u∈([[120],[121]]:TK)):yh u:=by rcases h with z |z |z;exact z;exact absurd (by rw[z];simp) q;exact absurd (by rw[z];simp) q
theorem Ai(h:cG P w K mg base k nq j6 X)(Xj:mg "max"=none)(zC8:mg "min"=none)(Wl:mg "int"=none)(VJ:mg "range"=none)(c1:EV.Callee X "_law_bounds" (BC n)):Go X nq j6 (BC<|n+1):=by
 rintro ds d ⟨tr,rfl,lv,hn,h2,rfl⟩;have t:=h.at';haveI:=h.VR;have b1:=h.bt Xj;have b2:=h.bt zC8;have b3:=h.bt Wl;have b4:=h.bt VJ;have cw:PyData.canLayAll0 (VA [D.str "x",.str "y"])=true:=by decide
 have p40:(10 ^ (40:Int).toNat)=((10 ^ 40:Nat):Int):=rfl;cases tr with
 |leaf u=>
  have hr:=lv;refine dC<|dA (Vr.eq (cK t (br (Vp.qt<|aa t 0) ah) Vo<|by decide) rfl) ?_;refine ip (iy t (br (Vp.qt<|aa t 0) ah) (aC<|ac Vo<|ac Vo af) (de<|dF hr.lt) (cL _) cw<|by rw[Ic];exact jW _ _) (λv=>az<|bj<|Vp.eq (aC<|ac ah<|ac ah af) ?_) λv=>az<|bj<|Vp.eq (aC<|ac ah<|ac (lc t b1 ah<|wu t b3 (br (Vp.qt<|aa t 0) ah) (CM<|JA hr<|gu v)<|by rw[ce];have:=(JA hr<|gu v).2.2.1;lia) af) ?_;have v':u=[120]\/u=[121]:=by simpa using cg v
  unfold PB dD;rw[ax v'];rfl;have v':¬(u=[120]\/u=[121]):=by simpa using gu v
  unfold PB dD;rw[av v'];unfold Hg;congr 3;congr 1;lia
 |pow tr d=>have hd:d<=9:=lv.2;have hdt:dT tr+1<=n+1:=hn;have zG4:dT tr+1<=520:=h2;let⟨z1,z2⟩:=EO lv.1 (by lia);show Vt X [.val<|.tup [.str "power",DJ tr,.int d],.un,.un,.un,.un] _ _;refine au (cj (Vr.eq (cK t (br (Vp.qt<|aa t 0) ah) Vo<|by decide) rfl) bQ)<|au (bg t 1<|aB t c1 (ac (br (Vp.qt<|aa t 0) ah) af) ⟨tr,rfl,lv.1,by lia,by lia,rfl⟩)<|dC<|dA (Vr.eq (cK t (br (Vp.qt<|aa t 0) ah) Vo<|by decide) rfl) ?_;refine au (bg t 2 ah)<|au (W1:=[.val<|.tup [.str "power",DJ tr,.int d],.val<|PB tr,.val<|.int<|yv (dD tr).2 d,.un,.un]) (mC t (jO t b4 (br (Vp.qt<|aa t 0) ah) (by lia)<|by lia)<|VU.Wf (λj=>[.val<|.tup [.str "power",DJ tr,.int d],.val<|PB tr,.val<|.int<|yv (dD tr).2 j,.un,.un]) (λj x e=>?_) rfl ?_)<|az<|bj<|Vp.eq (aC<|ac (js (br (Vp.qt<|aa t 1) ah) (lc t b1 ah<|br (Vp.qt<|aa t 0) ah)<|rg (k:=2000) (by decide) (by rw[gv];exact z1)<|bM (show(max 1 (d:Int)).natAbs<=9 by lia)<|by decide)<|ac (lc t b1 (br (Vp.qt<|aa t 1) ah)<|aa t 2) af) ?_;obtain⟨hj,rfl⟩:=nR e;refine⟨_,bq t 3,Vt.weak (az<|bg t 2<|Vp.eq (Gj t b2 (xL ah ah ⟨by decide,by decide,by decide⟩)<|js (aa t 2) (br (Vp.qt<|aa t 1) ah)<|rg (k:=2000) (by decide) (by rw[gv];exact bM (Jd _ j)<|by decide)<|by rw[gv];exact z2) ?_)<|.keep<|.keep<|.keep<|.forget<|.keep .nil⟩;rw[p40];show D.int (min ((10 ^ 40:Nat):Int)<|((yv (dD tr).2 j:Nat):Int)*(((dD tr).2:Nat):Int))=.int ((min (10 ^ 40) (yv (dD tr).2 j*(dD tr).2):Nat):Int);rw[<-M7];generalize yv (dD tr).2 j*(dD tr).2=z;congr 1;lia;simp[fu];show D.tup [.int<|((dD tr).1:Int)*max 1 (d:Int),.int<|max ((dD tr).2:Int) ((yv (dD tr).2 d:Nat):Int)]=.tup [.int (((dD tr).1*max 1 d:Nat):Int),.int ((max (dD tr).2 (yv (dD tr).2 d):Nat):Int)];rw[M7,show((max 1 d:Nat):Int)=max 1 (d:Int)by lia,show((max (dD tr).2 (yv (dD tr).2 d):Nat):Int)=max ((dD tr).2:Int) ((yv (dD tr).2 d:Nat):Int)by lia]
 |bin kk a b=>
  have hdt:max (dT a) (dT b)+1<=n+1:=hn;have zG4:max (dT a) (dT b)+1<=520:=h2;let⟨z1,z2⟩:=EO lv.2.1 (by lia);let⟨z3,z4⟩:=EO lv.2.2 (by lia);show Vt X [.val<|.tup [.str<|Fe kk,DJ a,DJ b],.un,.un,.un,.un] _ _;refine au (cj (Vr.eq (cK t (br (Vp.qt<|aa t 0) ah) Vo<|Ik kk)<|zAQ.2.1 kk) bQ)<|au (bg t 1<|aB t c1 (ac (br (Vp.qt<|aa t 0) ah) af) ⟨a,rfl,lv.2.1,by lia,by lia,rfl⟩)<|au (cj (Vr.eq (cK t (br (Vp.qt<|aa t 0) ah) Vo<|Ik kk)<|zAQ.2.2 kk) bQ)<|au (bg t 4<|aB t c1 (ac (br (Vp.qt<|aa t 0) ah) af) ⟨b,rfl,lv.2.2,by lia,by lia,rfl⟩) ?_;refine ip (Vr.eq (cK t (br (Vp.qt<|aa t 0) ah) Vo<|Ik kk)<|Qu kk) (λv=>az<|bj<|Vp.eq (aC<|ac (bB (br (Vp.qt<|aa t 1) ah)<|br (Vp.qt<|aa t 4) ah)<|ac (Gj t b2 (xL ah ah ⟨by decide,by decide,by decide⟩)<|js (br (Vp.qt<|aa t 1) ah) (br (Vp.qt<|aa t 4) ah)<|rg (k:=2000) (by decide) (by rw[gv];exact z2)<|by rw[gv];exact z4) af) ?_) λv=>az<|bj<|Vp.eq (aC<|ac (lc t b1 (br (Vp.qt<|aa t 1) ah)<|br (Vp.qt<|aa t 4) ah)<|ac (bB (br (Vp.qt<|aa t 1) ah)<|br (Vp.qt<|aa t 4) ah) af) ?_;have e:dD (.bin kk a b)=((dD a).1+(dD b).1,min (10 ^ 40)<|(dD a).2*(dD b).2):=by show(if _ then _ else _)=_;rw[ax<|cg v]
  unfold PB;rw[e,p40];show D.tup [.int<|((dD a).1:Int)+((dD b).1:Int),.int<|min ((10 ^ 40:Nat):Int)<|((dD a).2:Int)*((dD b).2:Int)]=.tup [.int (((dD a).1+(dD b).1:Nat):Int),.int ((min (10 ^ 40) ((dD a).2*(dD b).2):Nat):Int)];rw[<-M7,<-M8,show((min (10 ^ 40) ((dD a).2*(dD b).2):Nat):Int)=min ((10 ^ 40:Nat):Int) (((dD a).2*(dD b).2:Nat):Int)by generalize(dD a).2*(dD b).2=z;lia];have e:dD (.bin kk a b)=(max (dD a).1 (dD b).1,(dD a).2+(dD b).2):=by show(if _ then _ else _)=_;rw[av<|gu v]
  unfold PB;rw[e];show D.tup [.int<|max ((dD a).1:Int) ((dD b).1:Int),.int<|((dD a).2:Int)+((dD b).2:Int)]=.tup [.int ((max (dD a).1 (dD b).1:Nat):Int),.int (((dD a).2+(dD b).2:Nat):Int)];rw[<-M8,show((max (dD a).1 (dD b).1:Nat):Int)=max ((dD a).1:Int) ((dD b).1:Int)by lia]
def gS:bI:=[110,111,116]
def kD:TK:=[[110,111,116],[115,111,109,101],[97,108,108]]
def y0:TK:=[[120],[121]]
def Xh:TK:=[[97,110,100],[111,114]]
def V7:TK:=[[60],[61],[62],[60,61],[62,61],[33,61]]
inductive Sy
 |is (a b:Tr) (w:bI)
 |pre (h:TK) (s:Sy)
 |two (w:bI) (a b:Sy)
def C6:TK->bI
 |[u]=>u|u::v::_=>u++32::v
 |[]=>[]
def lu:Sy->TK
 |.is a b w=>gE a++(gE b++[w])|.pre h s=>lu s++[C6 h]
 |.two w a b=>lu a++(lu b++[w])
def rL(hs:List TK):TK:=(hs.map C6).reverse
def Bf(hs:List TK):(rL hs).length=hs.length:=by unfold rL;rw[fW,ai]
def uK(hs:List TK)(s:Sy):Sy:=hs.foldr Sy.pre s
def wk(s:Sy):∀hs,lu (uK hs s)=lu s++rL hs|[]=>(aX _).symm|h::hs=>by show lu (uK hs s)++[C6 h]=_;rw[wk s hs];simp[rL]
def Ww(T:TK):Nat->Nat->Option (List TK)×Nat|0,a=>(some [],a)|f+1,a=>if bw T a∈kD then if bw T a=gS then match Ww T f (a+1)with|(some hs,e)=>(some<|[gS]::hs,e)|(none,e)=>(none,e)else if bw T (a+1)∈y0 then match Ww T f (a+2)with|(some hs,e)=>(some<|[bw T a,bw T<|a+1]::hs,e)|(none,e)=>(none,e)else(none,a)else(some [],a)
abbrev YR:=Nat->Option Sy×Nat
def rO(T:TK)(a:Nat):Option Sy×Nat:=
 match g T 21 a with
 |(some t,m)=>if bw T m∈V7 then
   match g T 21 (m+1)with
   |(some u,e)=>(some<|.is t u<|bw T m,e)
   |(none,_)=>(none,a)
  else(none,a)
 |(none,_)=>(none,a)
def xI(rec:YR)(T:TK)(a:Nat):Option Sy×Nat:=
 match rec a with
 |(some s,m)=>if bw T m∈Xh then
   match rec (m+1)with
   |(some u,e)=>if bw T e=[93]then(some<|.two (bw T m) s u,e+1)else(none,a)
   |(none,_)=>(none,a)
  else(none,a)
 |(none,_)=>(none,a)
def AL(rec:YR)(T:TK)(a:Nat):Option Sy×Nat:=if bw T a=[91]then xI rec T (a+1)else rO T a
def Et(rec:YR)(T:TK)(a:Nat):Option Sy×Nat:=match Ww T T.length a with|(none,e)=>(none,e)|(some hs,a1)=>if 20<hs.length then(none,a1)else match AL rec T a1 with|(some s,e)=>(some<|uK hs s,e)|(none,_)=>(none,a1)
def gY(T:TK):Nat->YR
 |0=>λa=>(none,a)
 |n+1=>Et (gY T n) T
def dY:Sy->Nat
 |.is a b _=>max (dT<|cl a) (dT<|cl b)+1|.pre _ s=>dY s+1
 |.two _ a b=>max (dY a) (dY b)+1
def HdO(h:TK):Prop:=h=[gS]\/∃w l,h=[w,l]/\w∈kD/\w≠gS/\l∈y0
def KL:Sy->Prop
 |.is a b w=>K1 (cl a)/\K1 (cl b)/\w∈V7|.pre h s=>HdO h/\KL s
 |.two w a b=>w∈Xh/\KL a/\KL b
abbrev db(T:TK)(a:Nat):Int:=dq [91] [93] T a
def nY:Sy->Nat
 |.is _ _ _=>1|.pre _ s=>nY s+1
 |.two _ a b=>max (nY a) (nY b)+1
def WT(c:Nat):Bool:=decide<|c=91\/c=116\/c=109\/c=108
def pO(u:bI):Nat:=(u.filter WT).length
def hP(T:TK)(a:Nat):Nat:=((T.take a).map pO).sum
def uo{a e:Nat}(T:TK)(h:a<=e):hP T a<=hP T e:=by unfold hP;rw[show T.take e=T.take a++(T.drop a).take (e-a)by rw[<-List.take_add,Nat.add_sub_cancel' h],aE,df];lia
def cP(T:TK)(a:Nat):Nat:=((T.take a).map List.length).sum
def Ct{i:Nat}{W:TK}(h:bw T i∈W)(hW:[]∉W:=by decide):i<T.length:=fU λz=>hW<|z▸h
def rF{T:TK}{i:Nat}(h:i<T.length):cP T (i+1)=cP T i+(bw T i).length:=by unfold cP bw;rw[jF,List.getElem?_eq_getElem h,List.getD_eq_getElem?_getD,List.getElem?_eq_getElem h,aE,df];simp
def Gb{T:TK}{i:Nat}(h:i<T.length):hP T (i+1)=hP T i+pO (bw T i):=by unfold hP bw;rw[jF,List.getElem?_eq_getElem h,List.getD_eq_getElem?_getD,List.getElem?_eq_getElem h,aE,df];simp
def Gy{T:TK}{i:Nat}(h:i<T.length)(h1:bw T i≠[91])(h2:bw T i≠[93]):db T (i+1)=db T i:=by show dq _ _ T (i+1)=_;rw[wz h,aj λz=>h1<|fG z,aj λz=>h2<|fG z];show dq [91] [93] T i+(0-0)=dq [91] [93] T i;lia
def BK{i:Nat}(h:bw T i=[91]):db T (i+1)=db T i+1:=by show dq _ _ T (i+1)=_;rw[wz<|fU<|by rw[h];simp,h,ar rfl,aj λz=>by have:=fG z;cases this];rfl
def ML{i:Nat}(h:bw T i=[93]):db T (i+1)=db T i-1:=by show dq _ _ T (i+1)=_;rw[wz<|fU<|by rw[h];simp,h,ar rfl,aj λz=>by have:=fG z;cases this];rfl
def sr{i:Nat}{W:TK}(h:bw T i∈W)(hW:[]∉W/\[40]∉W/\[41]∉W/\[91]∉W/\[93]∉W):i<T.length/\dp T (i+1)=dp T i/\db T (i+1)=db T i/\cP T i+1<=cP T (i+1):=by have hl:=Ct h hW.1;have ne:bw T i≠[]:=λz=>hW.1<|z▸h;refine⟨hl,fv hl (λz=>hW.2.1<|z▸h) λz=>hW.2.2.1<|z▸h,Gy hl (λz=>hW.2.2.2.1<|z▸h) λz=>hW.2.2.2.2<|z▸h,?_⟩;rw[rF hl];have:=List.length_pos_iff.mpr ne;lia
def ID(h:S2 u):u≠[]/\u≠[91]/\u≠[93]/\IC u:=by rcases h with h |h;refine⟨(λz=>by subst z;rw[GM]at h;cases h),λz=>?_,λz=>?_,.inl ((wF u).mp h).v⟩;subst z;exact absurd h (by decide);subst z;exact absurd h (by decide);refine⟨?_,?_,?_,.inr ?_⟩;exact(show∀u∈([[40],[41],[42],[43],[45],[94]]:TK),u≠[]by decide) u h;exact(show∀u∈([[40],[41],[42],[43],[45],[94]]:TK),u≠[91]by decide) u h;exact(show∀u∈([[40],[41],[42],[43],[45],[94]]:TK),u≠[93]by decide) u h;exact(show∀u∈([[40],[41],[42],[43],[45],[94]]:TK),u∈Qc by decide) u h
def iv{T:TK}{a:Nat}:∀(n:Nat),a+n<=T.length->(∀i,a<=i->i<a+n->S2 (bw T i))->db T (a+n)=db T a/\cP T a+n<=cP T (a+n)
 |0,_,_=>⟨rfl,ao _⟩
 |n+1,h,q=>by
  have ih:=iv n (by lia) λi h1 h2=>q i h1 (by lia);have z:=ID<|q (a+n) (by lia) (by lia);have hl:a+n<T.length:=by lia
  have e2:=rF hl;have:=List.length_pos_iff.mpr z.1;rw[<-Nat.add_assoc];exact⟨(Gy hl z.2.1 z.2.2.1).trans ih.1,by lia⟩
structure DC(T:TK)(a:Nat)(s:Sy)(e:Nat):Prop where
 lt:a<e
 le:e<=T.length
 good:∀i,a<=i->i<e->IC (bw T i)
 WQ:dp T e=dp T a
 XO:db T e=db T a
 W2:(lu s).length<=2*(e-a)
 deep:2*dY s+cP T a<=cP T e+2
 nest:nY s+hP T a<=hP T e+1
 lv:KL s
structure Uk(T:TK)(a:Nat)(hs:List TK)(e:Nat):Prop where
 le:a<=e
 lt:a<=T.length->e<=T.length
 good:∀i,a<=i->i<e->IC (bw T i)
 WQ:dp T e=dp T a
 XO:db T e=db T a
 W2:hs.length<=e-a
 deep:2*hs.length+cP T a<=cP T e
 nest:hs.length+hP T a<=hP T e
 lv:∀h∈hs,HdO h
def Q4:[]∉kD/\[40]∉kD/\[41]∉kD/\[91]∉kD/\[93]∉kD:=by decide
def SV:[]∉y0/\[40]∉y0/\[41]∉y0/\[91]∉y0/\[93]∉y0:=by decide
def ZN:[]∉Xh/\[40]∉Xh/\[41]∉Xh/\[91]∉Xh/\[93]∉Xh:=by decide
def GC:[]∉V7/\[40]∉V7/\[41]∉V7/\[91]∉V7/\[93]∉V7:=by decide
def Q3:∀u∈kD,IC u/\3<=u.length/\1<=pO u:=by
 have:∀u∈kD,u∈AX/\3<=u.length/\1<=pO u:=by decide
 exactλu hu=>⟨.inl<|.inr (this u hu).1,(this u hu).2⟩
def SU:∀u∈y0,IC u:=by
 have:∀u∈y0,u∈AX:=by decide
 exactλu hu=>.inl<|.inr<|this u hu
def RQ:∀u∈Xh,IC u/\2<=u.length:=by
 have:∀u∈Xh,u∈AX/\2<=u.length:=by decide
 exactλu hu=>⟨.inl<|.inr (this u hu).1,(this u hu).2⟩
def RG:∀u∈V7,IC u:=by
 have:∀u∈V7,u∈Qc:=by decide
 exactλu hu=>.inr<|this u hu
theorem mL(T:TK):∀(f a:Nat)(hs:List TK)(e:Nat),Ww T f a=(some hs,e)->Uk T a hs e
 |0,a,hs,e,h=>by cases h;exact⟨ao _,id,(λi h1 h2=>by lia),rfl,rfl,bO _,by simp,by simp,λh hh=>nomatch hh⟩
 |f+1,a,hs,e,h=>by
  unfold Ww at h;by_cases q:bw T a∈kD;rw[ax q]at h;have fl:=sr q Q4;have py:=Q3 _ q;have c1:=rF fl.1;have n1:=Gb fl.1;by_cases q2:bw T a=gS;rw[ax q2]at h;cases hh:Ww T f (a+1)with
  |mk o e1=>
   rw[hh]at h;cases o with
   |none=>cases h
   |some X9=>injection h with h1 h2;injection h1 with h1;subst h1;subst h2;have A:=mL T f (a+1) X9 e1 hh;have l1:=A.le;refine⟨by lia,λz=>A.lt<|by lia,λi h1 h2=>?_,A.WQ.trans fl.2.1,A.XO.trans fl.2.2.1,?_,?_,?_,λx hx=>?_⟩;by_cases z:i=a;subst z;exact py.1;exact A.good i (by lia) h2;have:=A.W2;simp;lia;have:=A.deep;simp;lia;have:=A.nest;simp;lia;rcases bc.mp hx with rfl |hx;exact .inl rfl;exact A.lv x hx
  rw[av q2]at h;by_cases q3:bw T (a+1)∈y0;rw[ax q3]at h;have fl2:=sr q3 SV;cases hh:Ww T f (a+2)with
  |mk o e1=>
   rw[hh]at h;cases o with
   |none=>cases h
   |some X9=>injection h with h1 h2;injection h1 with h1;subst h1;subst h2;have A:=mL T f (a+2) X9 e1 hh;have l1:=A.le;have c2:cP T (a+1)+1<=cP T (a+2):=fl2.2.2.2;refine⟨by lia,λz=>A.lt<|by lia,λi h1 h2=>?_,A.WQ.trans<|fl2.2.1.trans fl.2.1,A.XO.trans<|fl2.2.2.1.trans fl.2.2.1,?_,?_,?_,λx hx=>?_⟩;by_cases z:i=a;subst z;exact py.1;by_cases z:i=a+1;subst z;exact SU _ q3;exact A.good i (by lia) h2;have:=A.W2;simp;lia;have:=A.deep;simp;lia;have:=A.nest;have n2:=uo T (show a+1<=a+2 by lia);simp;lia;rcases bc.mp hx with rfl |hx;exact .inr ⟨_,_,rfl,q,q2,q3⟩;exact A.lv x hx
  rw[av q3]at h;cases h;rw[av q]at h;cases h;exact⟨ao _,id,(λi h1 h2=>by lia),rfl,rfl,bO _,by simp,by simp,λh hh=>nomatch hh⟩
def Cu{a:Nat}{t:Tr}(h:g T 21 a=(some t,e)):XA T a t e/\A2 2 a t e/\db T e=db T a/\cP T a+(e-a)<=cP T e/\∀i,a<=i->i<e->IC (bw T i):=by have A:=fV T 21 a t e h;have l1:=A.lt;have:=iv (e-a) (by have:=A.le;lia) λi h1 h2=>A.good i h1 (by lia);rw[show a+(e-a)=e by lia]at this;exact⟨A,RV T 21 a t e h,this.1,this.2,λi h1 h2=>(ID<|A.good i h1 h2).2.2.2⟩
theorem rE{a:Nat}{s:Sy}(h:rO T a=(some s,e)):DC T a s e:=by
 unfold rO at h;cases h1:g T 21 a with
 |mk o m=>
  rw[h1]at h;cases o with
  |none=>cases h
  |some t=>
   dsimp only at h;by_cases q:bw T m∈V7;rw[ax q]at h;cases h2:g T 21 (m+1)with
   |mk o e1=>
    rw[h2]at h;cases o with
    |none=>cases h
    |some u=>injection h with e1 e2;injection e1 with e1;subst e1;subst e2;obtain⟨A,A',a3,a4,a5⟩:=Cu h1;obtain⟨B,B',b3,b4,b5⟩:=Cu h2;have fl:=sr q GC;have l1:=A.lt;have l2:=B.lt;refine⟨by lia,B.le,λi h1 h2=>?_,B.WQ.trans<|fl.2.1.trans A.WQ,b3.trans<|fl.2.2.1.trans a3,?_,?_,by show 1+hP T a<=_;have:=uo T (show a<=e1 by lia);lia,⟨A'.lv,B'.lv,q⟩⟩;by_cases z:i<m;exact a5 i h1 z;by_cases z:i=m;subst z;exact RG _ q;exact b5 i (by lia) h2;have:=A.W2;have:=B.W2;show(gE t++(gE u++[_])).length<=_;rw[ag,ag];simp;lia;have:=A'.dt;have:=B'.dt;show 2*(max (dT<|cl t) (dT<|cl u)+1)+_<=_;lia
   rw[av q]at h;cases h
theorem Js{a:Nat}{e:Nat}{rec:YR}(hr:∀a s e,rec a=(some s,e)->DC T a s e)(hb:bw T a=[91]){s:Sy}(h:xI rec T (a+1)=(some s,e)):DC T a s e:=by
 unfold xI at h;cases h1:rec (a+1)with
 |mk o m=>
  rw[h1]at h;cases o with
  |none=>cases h
  |some s1=>
   dsimp only at h;by_cases q:bw T m∈Xh;rw[ax q]at h;cases h2:rec (m+1)with
   |mk o e1=>
    rw[h2]at h;cases o with
    |none=>cases h
    |some u=>dsimp only at h;by_cases q2:bw T e1=[93];rw[ax q2]at h;injection h with e1 e2;injection e1 with e1;subst e1;subst e2;have A:=hr _ _ _ h1;have B:=hr _ _ _ h2;have fl:=sr q ZN;have l1:=A.lt;have l2:=B.lt;have ha:=fU (by rw[hb];simp);have he:=fU (by rw[q2];simp);have c1:=rF ha;have c2:=rF fl.1;have c3:=rF he;have c4:=(RQ _ q).2;rw[hb]at c1;rw[q2]at c3;simp at c1 c3;refine⟨by lia,he,λi h1 h2=>?_,?_,?_,?_,?_,?_,⟨q,A.lv,B.lv⟩⟩;by_cases z:i=a;subst z;rw[hb];exact .inr (by decide);by_cases z:i<m;exact A.good i (by lia) z;by_cases z:i=m;subst z;exact(RQ _ q).1;by_cases z:i=e1;subst z;rw[q2];exact .inr (by decide);exact B.good i (by lia) (by lia);rw[fv he (by rw[q2];simp)<|by rw[q2];simp,B.WQ,fl.2.1,A.WQ,fv ha (by rw[hb];simp)<|by rw[hb];simp];have h1:=ML q2;have h2:=BK hb;have h3:=A.XO;have h4:=B.XO;lia;have:=A.W2;have:=B.W2;show(lu s1++(lu u++[_])).length<=_;rw[ag,ag];simp;lia;have:=A.deep;have:=B.deep;show 2*(max (dY s1) (dY u)+1)+_<=_;lia;have n1:=Gb ha;rw[hb,show pO [91]=1 by decide]at n1;have:=A.nest;have:=B.nest;have:=uo T (show m<=e1+1 by lia);have:=uo T (show a+1<=m+1 by lia);have:=uo T (show e1<=e1+1 by lia);show max (nY s1) (nY u)+1+_<=_;lia;rw[av q2]at h;cases h
   rw[av q]at h;cases h
def Kz{a:Nat}{e:Nat}{rec:YR}(hr:∀a s e,rec a=(some s,e)->DC T a s e){s:Sy}(h:AL rec T a=(some s,e)):DC T a s e:=by unfold AL at h;by_cases q:bw T a=[91];rw[ax q]at h;exact Js hr q h;rw[av q]at h;exact rE h
def FQ(s:Sy):∀hs,nY (uK hs s)=nY s+hs.length|[]=>rfl|h::hs=>by show nY (uK hs s)+1=_;rw[FQ s hs];simp;lia
def Gz(s:Sy):∀hs,dY (uK hs s)=dY s+hs.length|[]=>rfl|h::hs=>by show dY (uK hs s)+1=_;rw[Gz s hs];simp;lia
def FV{s:Sy}(h:KL s):∀hs:List TK,(∀x∈hs,HdO x)->KL (uK hs s)|[],_=>h|x::hs,q=>⟨q x<|by simp,FV h hs λy hy=>q y<|by simp[hy]⟩
theorem Lq{a:Nat}{e:Nat}{rec:YR}(hr:∀a s e,rec a=(some s,e)->DC T a s e){s:Sy}(h:Et rec T a=(some s,e)):DC T a s e:=by
 unfold Et at h;cases h1:Ww T T.length a with
 |mk o a1=>
  rw[h1]at h;cases o with
  |none=>cases h
  |some hs=>
   dsimp only at h;by_cases q:20<hs.length;rw[ax q]at h;cases h;rw[av q]at h;cases h2:AL rec T a1 with
   |mk o e1=>
    rw[h2]at h;cases o with
    |none=>cases h
    |some s1=>injection h with e1 e2;injection e1 with e1;subst e1;subst e2;have A:=mL _ _ _ _ _ h1;have B:=Kz hr h2;have l1:=A.le;have l2:=B.lt;refine⟨by lia,B.le,λi h1 h2=>?_,B.WQ.trans A.WQ,B.XO.trans A.XO,?_,?_,by have:=A.nest;have:=B.nest;rw[FQ];lia,FV B.lv hs A.lv⟩;by_cases z:i<a1;exact A.good i h1 z;exact B.good i (by lia) h2;have:=A.W2;have:=B.W2;rw[wk,ag,Bf];lia;have:=A.deep;have:=B.deep;rw[Gz];lia
def uF(T:TK):∀(n a:Nat)(s:Sy)(e:Nat),gY T n a=(some s,e)->DC T a s e
 |0,a,s,e,h=>by cases h
 |n+1,a,s,e,h=>Lq (uF T n) h
abbrev Fm:=TK×bI
def Ed(T:TK):List Fm->Nat->TK->Option (Bool×Nat×List Fm×TK)|[],e,xs=>some (true,e,[],xs)|(p,w)::B,e,xs=>if w=[]then(if bw T e∈Xh then some (false,e+1,(p,bw T e)::B,xs)else none)else if bw T e=[93]then Ed T B (e+1) (xs++(w::p))else none
def MN(T:TK):Nat->List Fm->Nat->TK->Option (Nat×TK)
 |0,_,_,_=>none
 |f+1,B,a,xs=>match Ww T T.length a with
  |(none,_)=>none
  |(some hs,a1)=>if 20<hs.length then none else if bw T a1=[91]then MN T f ((rL hs,[])::B) (a1+1) xs else match rO T a1 with
    |(none,_)=>none
    |(some s,e)=>match Ed T B e (xs++(lu s++rL hs))with
     |none=>none|some (true,e',_,xs')=>some (e',xs')
     |some (false,e',B',xs')=>MN T f B' e' xs'
def KN(T:TK)(f:Nat)(B:List Fm)(e:Nat)(xs:TK):Option (Nat×TK):=match Ed T B e xs with
 |none=>none|some (true,e',_,xs')=>some (e',xs')
 |some (false,e',B',xs')=>MN T f B' e' xs'
theorem DB(T:TK):∀(B:List Fm)(e:Nat)(xs:TK)(e':Nat)(B':List Fm)(xs':TK),Ed T B e xs=some (false,e',B',xs')->e<e'
 |[],e,xs,e',B',xs',h=>by cases h
 |(p,w)::B,e,xs,e',B',xs',h=>by unfold Ed at h;split at h;split at h;cases h;lia;cases h;split at h;have:=DB T B (e+1) _ e' B' xs' h;lia;cases h
def IB{T:TK}{a:Nat}(h:T.length<=a):bw T a=[]:=qZ h
def Rs{T:TK}{a:Nat}(h:T.length<=a)(n:Nat):(g T n a).1=none:=by cases e:g T n a with|mk o x=>cases o with|none=>rfl|some t=>have A:=fV T n a t x e;have:=A.lt;have:=A.le;lia
def Me{T:TK}{a:Nat}(h:T.length<=a):∀f,Ww T f a=(some [],a)|0=>rfl|f+1=>by unfold Ww;rw[av<|by rw[IB h];decide]
def MQ{T:TK}{a:Nat}(h:T.length<=a):rO T a=(none,a):=by unfold rO;have:=Rs h 21;cases e:g T 21 a with|mk o x=>rw[e]at this;cases o with|none=>rfl|some t=>cases this
def yj{T:TK}{a:Nat}(h:T.length<=a)(B:List Fm)(xs:TK):∀f,MN T f B a xs=none|0=>rfl|f+1=>by unfold MN;rw[Me h];dsimp only;rw[av<|by simp,av<|by rw[IB h];decide,MQ h]
theorem Ch(T:TK):∀(f f':Nat)(B:List Fm)(a:Nat)(xs:TK),T.length<=f+a->T.length<=f'+a->MN T f B a xs=MN T f' B a xs
 |0,f',B,a,xs,h,_=>by rw[yj<|by lia,yj<|by lia]|f+1,0,B,a,xs,_,h=>by rw[yj<|by lia,yj<|by lia]
 |f+1,f'+1,B,a,xs,h,h'=>by unfold MN;cases e1:Ww T T.length a with|mk o a1=>cases o with|none=>rfl|some hs=>have l1:=(mL _ _ _ _ _ e1).le;dsimp only;by_cases q:20<hs.length;rw[ax q,ax q];rw[av q,av q];by_cases q2:bw T a1=[91];rw[ax q2,ax q2];exact Ch T f f' _ _ _ (by lia) (by lia);rw[av q2,av q2];cases e2:rO T a1 with|mk o e=>cases o with|none=>rfl|some s=>have l2:=(rE e2).lt;dsimp only;cases e3:Ed T B e (xs++(lu s++rL hs))with|none=>rfl|some z=>obtain⟨b,e',B',xs'⟩:=z;cases b with|true=>rfl|false=>have l3:=DB _ _ _ _ _ _ _ e3;exact Ch T f f' _ _ _ (by lia)<|by lia
def GT(T:TK)(f f':Nat)(B:List Fm)(e:Nat)(xs:TK)(h:T.length<=f+e)(h':T.length<=f'+e):KN T f B e xs=KN T f' B e xs:=by unfold KN;cases e3:Ed T B e xs with|none=>rfl|some z=>let⟨b,e',B',xs'⟩:=z;cases b with|true=>rfl|false=>have l3:=DB _ _ _ _ _ _ _ e3;exact Ch T f f' _ _ _ (by lia)<|by lia
theorem GS(T:TK)(hd:∀a,db T a<=20):∀(n a:Nat)(B:List Fm)(xs:TK)(f:Nat),db T a+n=21->T.length<=f+a->MN T f B a xs=match gY T n a with
  |(some s,e)=>KN T f B e<|xs++lu s
  |(none,_)=>none
 |0,a,B,xs,f,h,_=>absurd (hd a)<|by lia
 |n+1,a,B,xs,0,h,hf=>by
  rw[yj<|by lia]
  cases e:gY T (n+1) a with
  |mk o x=>
   cases o with
   |none=>rfl
   |some s=>have A:=uF _ _ _ _ _ e;have:=A.lt;have:=A.le;lia
 |n+1,a,B,xs,f+1,h,hf=>by
  show MN T (f+1) B a xs=match Et (gY T n) T a with
   |(some s,e)=>KN T (f+1) B e<|xs++lu s
   |(none,_)=>none
  unfold MN Et
  cases e1:Ww T T.length a with
  |mk o a1=>
   cases o with
   |none=>rfl
   |some hs=>
    have A:=mL _ _ _ _ _ e1
    have l1:=A.le
    have lb:=A.XO
    dsimp only
    by_cases q:20<hs.length
    rw[ax q,ax q]
    rw[av q,av q]
    unfold AL
    by_cases q2:bw T a1=[91]
    rw[ax q2,ax q2]
    have b1:=BK q2
    rw[GS T hd n (a1+1) _ xs f (by lia)<|by lia]
    unfold xI
    cases e2:gY T n (a1+1)with
    |mk o m=>
     cases o with
     |none=>rfl
     |some s1=>
      have A1:=uF _ _ _ _ _ e2
      have l2:=A1.lt
      have b2:=A1.XO
      dsimp only
      have ek:KN T f ((rL hs,[])::B) m (xs++lu s1)=if bw T m∈Xh then MN T f ((rL hs,bw T m)::B) (m+1) (xs++lu s1)else none:=by
       unfold KN Ed
       rw[ax rfl]
       by_cases z:bw T m∈Xh
       rw[ax z,ax z]
       rw[av z,av z]
      rw[ek]
      by_cases q3:bw T m∈Xh
      rw[ax q3,ax q3]
      have fl:=sr q3 ZN
      rw[GS T hd n (m+1) _ _ f (by lia)<|by lia]
      cases e3:gY T n (m+1)with
      |mk o e=>
       cases o with
       |none=>rfl
       |some s2=>
        have l3:=(uF _ _ _ _ _ e3).lt
        have nw:bw T m≠[]:=λz=>ZN.1<|z▸q3
        dsimp only
        have ek2:KN T f ((rL hs,bw T m)::B) e (xs++lu s1++lu s2)=if bw T e=[93]then KN T f B (e+1) (xs++lu s1++lu s2++(bw T m::rL hs))else none:=by
         unfold KN
         rw[Ed,av nw]
         by_cases z:bw T e=[93]
         rw[ax z,ax z]
         rw[av z,av z]
        rw[ek2]
        by_cases q4:bw T e=[93]
        rw[ax q4,ax q4]
        dsimp only
        rw[GT T f (f+1) B (e+1) _ (by lia)<|by lia,wk]
        congr 1
        simp[lu]
        rw[av q4,av q4]
      rw[av q3,av q3]
    rw[av q2,av q2]
    cases e2:rO T a1 with
    |mk o e=>
     cases o with
     |none=>rfl
     |some s=>
      have l2:=(rE e2).lt
      show KN T f B e (xs++(lu s++rL hs))=KN T (f+1) B e (xs++lu (uK hs s))
      rw[wk]
      exact GT T f (f+1) B e _ (by lia)<|by lia
def T1(u v z w:Str):([PyData.str u,.str v,.str z].any λy=>PyData.eqv y<|.str w)=(decide (w=u)||(decide (w=v)||decide (w=z))):=by show((u==w)||((v==w)||((z==w)||false)))=_;rw[jv,jv,jv,DN,bG.mpr<|Cm,bG.mpr (show v=w↔w=v from Cm),bG.mpr (show z=w↔w=z from Cm)]
def AW:("not":Str)=S gS:=rfl
def SN:(" ":Str)=S [32]:=rfl
def Iu:[D.tup [D.str "x",.str "y"]]=[D.tup<|ay y0]:=by rw[show("x":Str)=S [120]by decide,show("y":Str)=S [121]by decide];rfl
def Ot(u:bI):(decide (S u=("not":Str))||(decide (S u=("some":Str))||decide (S u=("all":Str))))=decide (u∈kD):=by rw[show("not":Str)=S [110,111,116]by decide,show("some":Str)=S [115,111,109,101]by decide,show("all":Str)=S [97,108,108]by decide,fB,fB,fB];by_cases q1:u=[110,111,116]<;>by_cases q2:u=[115,111,109,101]<;>by_cases q3:u=[97,108,108]<;>simp[kD,q1,q2,q3]
def sH{U:cE}{n:Nat}(t:At X N sc)(ok:gn X.K r)(c2:Vq X "next_token" bE)(er:r.toks=sm T)(hT:W7 T)(hr:U[0]?=some (.val<|.adr r.p))(hN:N[0]?=some ("reader":Str):=by rfl)(hv:fS sc ("reader":Str)=true:=by rfl)(hx:cU ("reader":Str)=true:=by rfl)(hg:sc.names.lookup ("next_token":Str)=some .globalImplicit:=by rfl):VC (Vv r) X U (.Compare (.Call (.Name "next_token" p) [.Name "reader" py] [] pos) [.In] [.Tuple [.Constant (.str "not") j p2,.Constant (.str "some") j2 p3,.Constant (.str "all") j3 p5] kk p4] pos') (decide<|bw T n∈kD) ((n:Int),xs) ((n:Int),xs):=M9 t (b0 t ok c2 (bb (Vp.z<|aa t 0 hr hN hv hx)<|VL.z af) ⟨n,rfl,rfl,rfl,rfl⟩ hg) (Vp.z<|aC<|ac Vo<|ac Vo<|ac Vo af) (de<|JY (by rw[er];exact hT.so) n) (cL _) (by decide)<|(T1 "not" "some" "all" _).trans<|by rw[er,fL];exact Ot _
def fm(toks:cn)(ds:aM)(s:Int×aM)(d:D)(s':Int×aM):Prop:=∃(T:TK)(a:Nat)(hs:List TK)(e:Nat),ds=[]/\toks=sm T/\W7 T/\s.1=(a:Int)/\Ww T T.length a=(some hs,e)/\hs.length<=20/\d=.lst (ay<|rL hs)/\s'=((e:Int),s.2)
def ui:∀ts ds s d s',fm ts ds s d s'->ds.length+1=1:=by rintro _ _ _ _ _ ⟨_,_,_,_,rfl,_⟩;rfl
def gB(toks:cn)(ds:aM)(s:Int×aM):Prop:=∃(T:TK)(a:Nat),ds=[]/\toks=sm T/\W7 T/\s.1=(a:Int)/\((Ww T T.length a).1=none\/∃hs e,Ww T T.length a=(some hs,e)/\20<hs.length)
def sL:∀ts ds s,gB ts ds s->ds.length+1=1:=by rintro _ _ _ ⟨_,_,rfl,_⟩;rfl
abbrev pfC:Expr×List Stmt:=uI (aW cH) 1
def Jn{a:Nat}{acc:TK}[WR X](t:At X dy (aq cH))(ok:gn X.K r)(c3:Vq X "take_token" bu)(er:r.toks=sm T)(hl:acc.length<=20000)(q:bw T a=gS):Wq (Vv r) X [.val<|.adr r.p,.own<|ay acc,.un] pfC.2 (.nx [.val<|.adr r.p,.own<|ay<|acc++[gS],.un]) ((a:Int),xs) (((a+1:Nat):Int),xs):=by refine Wq.weak (bo (gN t 2<|Vz.eq (gb t ok c3 rfl)<|by rw[er,fL,q])<|bo (lA (Vr.z<|Vr.eq (qy t (aa t 2) Vo (by decide) AW)<|by simp) pU)<|cA<|VN.z<|gz t 1 rfl (aa t 2)<|lC<|by rw[aQ];lia) ?_;rw[show ay (acc++[gS])=ay acc++[.str<|S gS]from aE];exact .keep<|.keep<|.forget .nil
def Nm{a:Nat}{acc:TK}[WR X](t:At X dy (aq cH))(ok:gn X.K r)(c3:Vq X "take_token" bu)(c4:Vq X "take_one_of" cf)(er:r.toks=sm T)(hT:W7 T)(hl:acc.length<=20000)(q:bw T a≠gS)(q3:bw T (a+1)∈y0):Wq (Vv r) X [.val<|.adr r.p,.own<|ay acc,.un] pfC.2 (.nx [.val<|.adr r.p,.own<|ay<|acc++[C6 [bw T a,bw T<|a+1]],.un]) ((a:Int),xs) (((a+2:Nat):Int),xs):=by have l1:=hT.l a;have l2:=hT.l<|a+1;refine Wq.weak (bo (gN t 2<|Vz.eq (gb t ok c3 rfl)<|by rw[er,fL])<|bo (sv (Vr.z<|Vr.eq (qy t (aa t 2) Vo (hT.c a) AW)<|by simp[q])<|cA<|K4 t 2 rfl (Bx (Vp.z Vo) (b0 t ok c4 (bb (Vp.z<|aa t 0)<|VL.z<|ac (aC<|ac Vo<|ac Vo af) af) ⟨T,a+1,y0,.inr Iu,er,hT,rfl,(by decide),q3,rfl,rfl⟩) ?_) ?_)<|cA<|VN.z<|gz t 1 rfl (aa t 2)<|lC<|by rw[aQ];lia) ?_;rw[SN,ce,ce];exact aJ (show[32].length+(bw T<|a+1).length<=100 by simp;lia) (by decide);rw[SN,pK,ce,ce];exact aJ (show(bw T a).length+([32]++bw T (a+1)).length<=100 by simp;lia) (by decide);rw[show ay (acc++[C6 [bw T a,bw T<|a+1]])=ay acc++[.str<|S<|C6 [bw T a,bw T<|a+1]]from aE,show S (C6 [bw T a,bw T<|a+1])=S (bw T a)++((" ":Str)++S (bw T<|a+1))by rw[SN,pK,pK];rfl];exact .keep<|.keep<|.forget .nil
theorem Bi[WR X](t:At X dy (aq cH))(ok:gn X.K r)(c2:Vq X "next_token" bE)(c3:Vq X "take_token" bu)(c4:Vq X "take_one_of" cf)(er:r.toks=sm T)(hT:W7 T):∀(f a:Nat)(acc:TK)(hs:List TK)(e:Nat),T.length<=f+a->acc.length<=a->Ww T f a=(some hs,e)->∃m,WB (Vv r) X pfC.1 pfC.2 m [.val<|.adr r.p,.own<|ay acc,.un] ((a:Int),xs) [.val<|.adr r.p,.own<|ay<|acc++hs.map C6,.un] ((e:Int),xs)
 |0,a,acc,hs,e,hf,hl,h=>by cases h;rw[rS,aX];exact⟨0,.stop<|VC.eq (sH t ok c2 er hT rfl)<|by rw[qZ<|by lia];rfl⟩
 |f+1,a,acc,hs,e,hf,hl,h=>by
  have tm:=hT.many;unfold Ww at h;by_cases q:bw T a∈kD;have al:=Ct q;rw[ax q]at h;by_cases q2:bw T a=gS;rw[ax q2]at h;cases hh:Ww T f (a+1)with
  |mk o e1=>
   rw[hh]at h;cases o with
   |none=>cases h
   |some X9=>injection h with h1 h2;injection h1 with h1;subst h1;subst h2;obtain⟨m,ih⟩:=Bi t ok c2 c3 c4 er hT f (a+1) (acc++[gS]) X9 e1 (by lia) (by simp;lia) hh;rw[show acc++List.map C6 ([gS]::X9)=acc++[gS]++X9.map C6 by simp[C6]];exact⟨m+1,.step (VC.eq (sH t ok c2 er hT rfl)<|ar q) (Jn t ok c3 er (by lia) q2) ih⟩
  rw[av q2]at h;by_cases q3:bw T (a+1)∈y0;rw[ax q3]at h;cases hh:Ww T f (a+2)with
  |mk o e1=>
   rw[hh]at h;cases o with
   |none=>cases h
   |some X9=>injection h with h1 h2;injection h1 with h1;subst h1;subst h2;obtain⟨m,ih⟩:=Bi t ok c2 c3 c4 er hT f (a+2) (acc++[C6 [bw T a,bw T<|a+1]]) X9 e1 (by lia) (by simp;lia) hh;rw[show acc++List.map C6 ([bw T a,bw T<|a+1]::X9)=acc++[C6 [bw T a,bw T<|a+1]]++X9.map C6 by simp];exact⟨m+1,.step (VC.eq (sH t ok c2 er hT rfl)<|ar q) (Nm t ok c3 c4 er hT (by lia) q2 q3) ih⟩
  rw[av q3]at h;cases h;rw[av q]at h;cases h;rw[rS,aX];exact⟨0,.stop<|VC.eq (sH t ok c2 er hT rfl)<|aj q⟩
theorem Bg[WR X](t:At X dy (aq cH))(ok:gn X.K r)(c2:Vq X "next_token" bE)(c3:Vq X "take_token" bu)(c4:Vq X "take_one_of" cf)(x4:di X "take_one_of" C eT)(er:r.toks=sm T)(hT:W7 T):∀(f a:Nat)(acc:TK),T.length<=f+a->acc.length<=a->(Ww T f a).1=none->∃m,kM (Vv r) X pfC.1 pfC.2 C m [.val<|.adr r.p,.own<|ay acc,.un] ((a:Int),xs)
 |0,a,acc,hf,hl,h=>by cases h
 |f+1,a,acc,hf,hl,h=>by
  have tm:=hT.many;unfold Ww at h;by_cases q:bw T a∈kD;have al:=Ct q;rw[ax q]at h;by_cases q2:bw T a=gS;rw[ax q2]at h;have hh:(Ww T f<|a+1).1=none:=by cases hh:Ww T f (a+1)with|mk o e1=>rw[hh]at h;cases o with|none=>rfl|some z=>cases h
  obtain⟨m,ih⟩:=Bg t ok c2 c3 c4 x4 er hT f (a+1) (acc++[gS]) (by lia) (by simp;lia) hh;exact⟨m+1,.next (VC.eq (sH t ok c2 er hT rfl)<|ar q) (Jn t ok c3 er (by lia) q2) ih⟩;rw[av q2]at h;by_cases q3:bw T (a+1)∈y0;rw[ax q3]at h;have hh:(Ww T f<|a+2).1=none:=by cases hh:Ww T f (a+2)with|mk o e1=>rw[hh]at h;cases o with|none=>rfl|some z=>cases h
  obtain⟨m,ih⟩:=Bg t ok c2 c3 c4 x4 er hT f (a+2) (acc++[C6 [bw T a,bw T<|a+1]]) (by lia) (by simp;lia) hh;exact⟨m+1,.next (VC.eq (sH t ok c2 er hT rfl)<|ar q) (Nm t ok c3 c4 er hT (by lia) q2 q3) ih⟩;refine⟨0,.here (VC.eq (sH t ok c2 er hT rfl)<|ar q) ?_⟩;exact bU t (gN t 2<|Vz.eq (gb t ok c3 rfl)<|by rw[er,fL])<|aY<|pV t (Vr.z<|Vr.eq (qy t (aa t 2) Vo (hT.c a) AW)<|by simp[q2])<|aY<|N0 t 2 rfl<|Ib t (Vp.z Vo)<|ft t ok x4 (bb (Vp.z<|aa t 0)<|VL.z<|ac (aC<|ac Vo<|ac Vo af) af) ⟨T,a+1,y0,.inr Iu,er,hT,rfl,(by decide),q3⟩;rw[av q]at h;cases h
def ve(h:cG P w K mg base k dy cH X)(Vw:mg "len"=none)(c2:Vq X "next_token" bE)(c3:Vq X "take_token" bu)(c4:Vq X "take_one_of" cf)(gM:∃tk,mg "MOST_PREFIXES"=some (.int 20 tk)):HK X dy cH fm:=by
 rintro r ok ds ⟨i,xs⟩ d s' ⟨T,a,hs,e,rfl,er,hT,hn,hh,hl,rfl,rfl⟩;have t:=h.at';haveI:=h.VR;have b1:=h.bt Vw;have Ye:∃tk,X.mg "MOST_PREFIXES"=some (.int 20 tk):=by rw[h.V3];exact gM
 have Wi:i=a:=hn;subst Wi;refine .inl ?_;have run:=Bi t ok c2 c3 c4 er hT (xs:=xs) T.length a [] hs e (by lia) (by simp) hh;rw[yw]at run;refine bo (VN.z<|jl t 1<|bK af)<|bo (nL t run)<|bo (VN.z<|cj (Vr.eq (gf (eC t b1<|lT t 1 rfl)<|hJ t Ye) ?_) bQ)<|cA<|VN.z<|bj<|Vp.eq (Gr (lT t 1 rfl)<|kF ah).V5 ?_;rw[aQ,ai,aZ];lia;show D.lst (List.map _ _).reverse=D.lst (List.map _ _);rw[<-KS];rfl
def vf(h:cG P w K mg base k dy cH X)(Vw:mg "len"=none)(c2:Vq X "next_token" bE)(c3:Vq X "take_token" bu)(c4:Vq X "take_one_of" cf)(x4:di X "take_one_of" C eT)(gM:∃tk,mg "MOST_PREFIXES"=some (.int 20 tk))(O:OwnCls "NoText" C vB vN mg base):yk X dy cH C gB:=by
 rintro r ok ds ⟨i,xs⟩ ⟨T,a,rfl,er,hT,hn,hh⟩;have t:=h.at';haveI:=h.VR;have O':OwnCls "NoText" C vB vN X.mg X.base:=by rw[h.V3,h.WA];exact O
 have b1:=h.bt Vw;have Ye:∃tk,X.mg "MOST_PREFIXES"=some (.int 20 tk):=by rw[h.V3];exact gM
 have Wi:i=a:=hn;subst Wi;refine bU t (VN.z<|jl t 1<|bK af) ?_;rcases hh with hh |⟨hs,e,hh,hl⟩;exact aY<|nM t<|Bg t ok c2 c3 c4 x4 er hT T.length a [] (by lia) (by simp) hh;have run:=Bi t ok c2 c3 c4 er hT (xs:=xs) T.length a [] hs e (by lia) (by simp) hh;rw[yw]at run;exact bU t (nL t run)<|aY<|X1.z<|Am t (Vr.eq (gf (eC t b1<|lT t 1 rfl)<|hJ t Ye)<|by rw[aQ,ai,E9];lia)<|mo<|jV t O' Vo
def E4(X:Cx):Prop:=∀{U:cE}{p p' pos:Pos},Vp X U (.Call (.Name "list" p) [.Name "COMPARISONS" p'] [] pos)<|.lst<|ay V7
def fc(toks:cn)(ds:aM)(s:Int×aM)(d:D)(s':Int×aM):Prop:=∃(T:TK)(a:Nat)(y:Sy)(e:Nat),ds=[]/\toks=sm T/\W7 T/\s.1=(a:Int)/\dp T a=0/\s.2.length<=2*a/\rO T a=(some y,e)/\d=.VH/\s'=((e:Int),s.2++ay (lu y))
def rN:∀ts ds s d s',fc ts ds s d s'->ds.length+1=1:=by rintro _ _ _ _ _ ⟨_,_,_,_,rfl,_⟩;rfl
def gQ(toks:cn)(ds:aM)(s:Int×aM):Prop:=∃(T:TK)(a:Nat),ds=[]/\toks=sm T/\W7 T/\s.1=(a:Int)/\dp T a=0/\s.2.length<=2*a/\(rO T a).1=none
def qj:∀ts ds s,gQ ts ds s->ds.length+1=1:=by rintro _ _ _ ⟨_,_,rfl,_⟩;rfl
theorem sT(h:cG P w K mg base k fP e8 X)(c1:Vq X "read_sum" (CZ g 21))(c4:Vq X "take_one_of" cf)(hL:E4 X):HK X fP e8 fc:=by
 rintro r ok ds ⟨i,xs⟩ d s' ⟨T,a,y,e,rfl,er,hT,hn,hd,hl,hG,rfl,rfl⟩;have t:=h.at';haveI:=h.VR;have Wi:i=a:=hn;subst Wi;have Yo:xs.length<=2*a:=hl;have tm:=hT.many;unfold rO at hG;cases h1:g T 21 a with
 |mk o m=>
  rw[h1]at hG;cases o with
  |none=>cases hG
  |some t1=>
   dsimp only at hG;by_cases q:bw T m∈V7;rw[ax q]at hG;cases h2:g T 21 (m+1)with
   |mk o e1=>
    rw[h2]at hG;cases o with
    |none=>cases hG
    |some t2=>injection hG with e1 e2;injection e1 with e1;subst e1;subst e2;have A:=fV _ _ _ _ _ h1;have B:=fV _ _ _ _ _ h2;have fl:=sr q GC;have l1:=A.lt;have l3:=B.le;have f1:=A.W2;have f2:=B.W2;have d1:=A.WQ;refine .inr ⟨rfl,[.val<|.adr r.p,.val<|.str<|S<|bw T m],?_⟩;refine bo (cz<|b0 t ok c1 (bb (Vp.z<|aa t 0)<|VL.z af) ⟨T,a,t1,m,rfl,er,hT,rfl,by lia,Yo,h1,rfl,rfl⟩)<|bo (gN t 1<|b0 t ok c4 (bb (Vp.z<|aa t 0)<|VL.z<|ac hL af) ⟨T,m,V7,.inl rfl,er,hT,rfl,(by decide),q,rfl,rfl⟩) ?_;refine bo (cz<|b0 t ok c1 (bb (Vp.z<|aa t 0)<|VL.z af) ⟨T,m+1,t2,e1,rfl,er,hT,rfl,by lia,?_,h2,rfl,rfl⟩)<|K5 (cA<|kZ t ok 0 rfl (Vp.z<|aa t 1)<|lC ?_) ?_;rw[ag,aQ];lia;rw[ag,ag,aQ,aQ];lia;refine je rfl ?_;show xs++ay (gE t1)++ay (gE t2)++[D.str<|S<|bw T m]=xs++ay (gE t1++(gE t2++[bw T m]));simp[ay]
   rw[av q]at hG;cases hG
def sU(h:cG P w K mg base k fP e8 X)(c1:Vq X "read_sum" (CZ g 21))(x1:di X "read_sum" C (RZ g 21))(c4:Vq X "take_one_of" cf)(x4:di X "take_one_of" C eT)(hL:E4 X):yk X fP e8 C gQ:=by
 rintro r ok ds ⟨i,xs⟩ ⟨T,a,rfl,er,hT,hn,hd,hl,hG⟩;have t:=h.at';haveI:=h.VR;have Wi:i=a:=hn;subst Wi;have Yo:xs.length<=2*a:=hl;unfold rO at hG;cases h1:g T 21 a with
 |mk o m=>
  rw[h1]at hG;cases o with
  |none=>exact aY<|fK<|ft t ok x1 (bb (Vp.z<|aa t 0)<|VL.z af) ⟨T,a,rfl,er,hT,rfl,by lia,Yo,by rw[h1]⟩
  |some t1=>
   dsimp only at hG;have A:=fV _ _ _ _ _ h1;have l1:=A.lt;have f1:=A.W2;have d1:=A.WQ;refine bU t (cz<|b0 t ok c1 (bb (Vp.z<|aa t 0)<|VL.z af) ⟨T,a,t1,m,rfl,er,hT,rfl,by lia,Yo,h1,rfl,rfl⟩) ?_;by_cases q:bw T m∈V7;rw[ax q]at hG;have fl:=sr q GC;cases h2:g T 21 (m+1)with
   |mk o e1=>
    rw[h2]at hG;cases o with
    |some t2=>cases hG
    |none=>refine bU t (gN t 1<|b0 t ok c4 (bb (Vp.z<|aa t 0)<|VL.z<|ac hL af) ⟨T,m,V7,.inl rfl,er,hT,rfl,(by decide),q,rfl,rfl⟩)<|aY<|fK<|ft t ok x1 (bb (Vp.z<|aa t 0)<|VL.z af) ⟨T,m+1,rfl,er,hT,rfl,by lia,?_,by rw[h2]⟩;rw[ag,aQ];lia
   exact aY<|DQ<|ft t ok x4 (bb (Vp.z<|aa t 0)<|VL.z<|ac hL af) ⟨T,m,V7,.inl rfl,er,hT,rfl,(by decide),q⟩
def Rv(f:Fm):D:=.tup [.lst<|ay f.1,.str<|S f.2]
def jC(B:List Fm):aM:=(B.map Rv).reverse
def kj(f:Fm)(B:List Fm):jC (f::B)=jC B++[Rv f]:=by simp[jC]
def Gd(B:List Fm):(jC B).length=B.length:=by simp[jC]
structure ZP(f:Fm):Prop where
 lt:∀u∈f.1,∀c∈u,c<128
 wd:f.2=[]\/f.2∈Xh
def ZP.wl{f:Fm}(h:ZP f):∀c∈f.2,c<128:=by rcases h.wd with z |z;rw[z];exactλc hc=>nomatch hc;exact(show∀u∈Xh,∀c∈u,c<128 by decide) _ z
def Jo(B:List Fm):Nat:=(B.map λf=>f.1.length+1).sum
def lx(f:Fm)(B:List Fm):Jo (f::B)=f.1.length+1+Jo B:=rfl
def CJ(B:List Fm):B.length<=Jo B:=by induction B with|nil=>exact ao _|cons f B ih=>rw[lx];simp;lia
def Fn.tk{us:TK}(h:∀u∈us,∀c∈u,c<128):Fn 2 (.lst<|ay us):=Fn.lst λy hy=>by obtain⟨u,hu,rfl⟩:=List.mem_map.mp hy;exact⟨de<|dF<|h u hu,by simp[gw,PyData.depth],by simp[gw,PyData.eqv]⟩
def Ru{f:Fm}(h:ZP f):Fn 3 (Rv f):=Fn.tup λx hx=>by simp at hx;rcases hx with rfl |rfl;exact Fn.tk h.lt;exact⟨de<|dF h.wl,by simp[gw,PyData.depth],by simp[gw,PyData.eqv]⟩
def Eu{B:List Fm}(h:∀f∈B,ZP f):SeqAt.shaped (PyData.list<|VA<|jC B)=true:=(Fn.lst λx hx=>by unfold jC at hx;rw[pD]at hx;obtain⟨f,hf,rfl⟩:=List.mem_map.mp hx;exact Ru<|h f hf).sh<|by decide
def FP(xs:aM)(x:D):true= !(xs++[x]).isEmpty:=by cases xs<;>rfl
def Iv:[D.tup [D.str "]"]]=[D.tup<|ay [[93]]]:=by rw[show("]":Str)=S [93]by decide];rfl
def Iw:[D.tup [D.str "and",.str "or"]]=[D.tup<|ay Xh]:=by rw[show("and":Str)=S [97,110,100]by decide,show("or":Str)=S [111,114]by decide];rfl
def Zk(T:TK)(B:List Fm)(e:Nat)(st:TK):Prop:=W7 T/\(∀f∈B,ZP f)/\st.length+Jo B<=2*e/\e<=T.length
def hV(toks:cn)(s:Int×aM)(xs:aM)(d:D)(s':Int×aM)(xs':aM):Prop:=∃(T:TK)(B:List Fm)(e:Nat)(st:TK)(b:Bool)(e':Nat)(B':List Fm)(Wk:TK),toks=sm T/\Zk T B e st/\s=((e:Int),ay st)/\xs=jC B/\Ed T B e st=some (b,e',B',Wk)/\d=.bl b/\s'=((e':Int),ay Wk)/\xs'=jC B'
def lW(toks:cn)(s:Int×aM)(xs:aM):Prop:=∃(T:TK)(B:List Fm)(e:Nat)(st:TK),toks=sm T/\Zk T B e st/\s=((e:Int),ay st)/\xs=jC B/\Ed T B e st=none
def Zk.zA5{st:TK}{B:List Fm}(h:Zk T ((p,w)::B) e st)(q:bw T e=[93]):Zk T B (e+1) (st++(w::p)):=by let⟨h1,h2,h3,h4⟩:=h;rw[lx]at h3;have:e<T.length:=fU (by rw[q];simp);exact⟨h1,λf hf=>h2 f<|by simp[hf],by simp at h3 ⊢;lia,by lia⟩
abbrev edC:Expr×List Stmt:=uI (aW dn) 0
def Gu{st:TK}[WR X](t:At X VF (aq dn))(ok:gn X.K r)(hq:iQ (Vv r) q)(c4:Vq X "take_one_of" cf)(er:r.toks=sm T){B:List Fm}(I:Zk T ((p,w)::B) e st)(hw:w≠[])(hz:bw T e=[93]):Wq ((Vv r).lst q) X [.val<|.adr r.p,.val<|.adr q,.un,.un] edC.2 (.nx [.val<|.adr r.p,.val<|.adr q,.un,.un]) (((e:Int),ay st),jC<|(p,w)::B) ((((e+1:Nat):Int),ay<|st++(w::p)),jC B):=by let⟨h1,h2,h3,h4⟩:=I;have tm:=h1.many;rw[lx]at h3;have h3':st.length+(p.length+1+Jo B)<=2*e:=h3;refine Wq.weak (bo (wj t (V4.zl hq<|fF t 1 rfl<|kj (p,w) B)<|mO t 2 3)<|bo (lA (Vr.z<|Vr.eq (iz t (aa t 3) Vo (h2 (p,w)<|by simp).wl NY)<|aj hw) pU)<|bo (V0.l hq<|cz<|b0 t ok c4 (bb (Vp.z<|aa t 0)<|VL.z<|ac (aC<|ac Vo af) af) ⟨T,e,[[93]],.inr Iv,er,h1,rfl,(by decide),by rw[hz];simp,rfl,rfl⟩)<|bo (V0.l hq<|kZ t ok 0 rfl (Vp.z<|aa t 3)<|lC ?_)<|K5 (cA<|V0.l hq<|re t ok 0 rfl (Vp.z<|aa t 2)<|nH<|lC ?_) ?_)<|.keep<|.keep<|.forget<|.forget .nil;rw[aQ];lia;rw[ag,aQ,aQ,eB];lia;refine je (je rfl ?_) rfl;simp[ay]
theorem Kn[WR X](t:At X VF (aq dn))(ok:gn X.K r)(hq:iQ (Vv r) q)(c4:Vq X "take_one_of" cf)(er:r.toks=sm T):∀(B:List Fm)(e:Nat)(st:TK)(b:Bool)(e':Nat)(B':List Fm)(Wk:TK),Zk T B e st->Ed T B e st=some (b,e',B',Wk)->∃m,yf ((Vv r).lst q) X edC.1 edC.2 m [.val<|.adr r.p,.val<|.adr q,.un,.un] (((e:Int),ay st),jC B) (if b then .nx [.val<|.adr r.p,.val<|.adr q,.un,.un]else .rt<|.bl false) (((e':Int),ay Wk),jC B')
 |[],e,st,b,e',B',Wk,I,h=>by cases h;exact⟨0,.stop<|X2.zl hq<|AZ t 1 rfl (Eu I.2.1) rfl⟩
 |(p,w)::B,e,st,b,e',B',Wk,I,h=>by unfold Ed at h;have Zc:VC ((Vv r).lst q) X [.val<|.adr r.p,.val<|.adr q,.un,.un] edC.1 true ((e,ay st),jC<|(p,w)::B) ((e,ay st),jC<|(p,w)::B):=X2.zl hq<|AZ t 1 rfl (Eu I.2.1) (by rw[kj];exact FP _ _);by_cases hw:w=[];rw[ax hw]at h;by_cases hz:bw T e∈Xh;rw[ax hz]at h;cases h;subst hw;have h3:=I.2.2.1;have h4:=I.1.many;have h5:=I.2.2.2;have h6:=CJ<|(p,[])::B;rw[bY]at h6;refine⟨0,.ret Zc<|bo (wj t (V4.zl hq<|fF t 1 rfl<|kj (p,[]) B)<|mO t 2 3)<|H9<|sv (Vr.z<|Vr.eq (iz t (aa t 3 rfl) Vo (λc hc=>nomatch hc) NY) rfl)<|bo (GV hq t 1 rfl (Vz.l hq<|Pe<|bb (Vp.z<|aa t 2 rfl)<|bb (b0 t ok c4 (bb (Vp.z<|aa t 0 rfl)<|VL.z<|ac (aC<|ac Vo<|ac Vo af) af) ⟨T,e,Xh,.inr Iw,er,I.1,rfl,(by decide),hz,rfl,rfl⟩)<|VL.z af)<|lC<|by rw[Gd];lia)<|K5 (cA<|VN.z<|bj uy) ?_⟩;refine je rfl ?_;rw[kj];rfl;rw[av hz]at h;cases h;rw[av hw]at h;by_cases hz:bw T e=[93];rw[ax hz]at h;obtain⟨m,ih⟩:=Kn t ok hq c4 er B (e+1) (st++(w::p)) b e' B' Wk (I.zA5 hz) h;exact⟨m+1,.step Zc (Gu t ok hq c4 er I hw hz) ih⟩;rw[av hz]at h;cases h
theorem Gv[WR X](t:At X VF (aq dn))(ok:gn X.K r)(hq:iQ (Vv r) q)(c4:Vq X "take_one_of" cf)(x4:di X "take_one_of" C eT)(er:r.toks=sm T):∀(B:List Fm)(e:Nat)(st:TK),Zk T B e st->Ed T B e st=none->∃m,kM ((Vv r).lst q) X edC.1 edC.2 C m [.val<|.adr r.p,.val<|.adr q,.un,.un] (((e:Int),ay st),jC B)
 |[],e,st,I,h=>by cases h
 |(p,w)::B,e,st,I,h=>by unfold Ed at h;have Zc:VC ((Vv r).lst q) X [.val<|.adr r.p,.val<|.adr q,.un,.un] edC.1 true ((e,ay st),jC<|(p,w)::B) ((e,ay st),jC<|(p,w)::B):=X2.zl hq<|AZ t 1 rfl (Eu I.2.1) (by rw[kj];exact FP _ _);by_cases hw:w=[];rw[ax hw]at h;by_cases hz:bw T e∈Xh;rw[ax hz]at h;cases h;subst hw;refine⟨0,.here Zc<|bU t (wj t (V4.zl hq<|fF t 1 rfl<|kj (p,[]) B)<|mO t 2 3)<|aY<|pV t (Vr.z<|Vr.eq (iz t (aa t 3 rfl) Vo (λc hc=>nomatch hc) NY) rfl)<|aY<|fK<|uJ t (Hm hq t 1 rfl)<|W6.l hq<|K6 t (Vp.z<|aa t 2 rfl)<|ft t ok x4 (bb (Vp.z<|aa t 0 rfl)<|VL.z<|ac (aC<|ac Vo<|ac Vo af) af) ⟨T,e,Xh,.inr Iw,er,I.1,rfl,(by decide),hz⟩⟩;rw[av hw]at h;by_cases hz:bw T e=[93];rw[ax hz]at h;obtain⟨m,ih⟩:=Gv t ok hq c4 x4 er B (e+1) (st++(w::p)) (I.zA5 hz) h;exact⟨m+1,.next Zc (Gu t ok hq c4 er I hw hz) ih⟩;exact⟨0,.here Zc<|bU t (wj t (V4.zl hq<|fF t 1 rfl<|kj (p,w) B)<|mO t 2 3)<|bU t (lA (Vr.z<|Vr.eq (iz t (aa t 3) Vo (I.2.1 (p,w)<|by simp).wl NY)<|aj hw) pU)<|aY<|Xx.l hq<|fK<|ft t ok x4 (bb (Vp.z<|aa t 0)<|VL.z<|ac (aC<|ac Vo af) af) ⟨T,e,[[93]],.inr Iv,er,I.1,rfl,(by decide),by simpa using hz⟩⟩
def wb(h:cG P w K mg base k VF dn X)(c4:Vq X "take_one_of" cf):∀(r:m7)(q:Addr),gn X.K r->iQ (Vv r) q->∀s xs d s' xs',hV r.toks s xs d s' xs'->Wq ((Vv r).lst q) X (.val (.adr r.p)::.val (.adr q)::List.replicate (VF.length-2) Sl.un) (aW dn) (.rt d) (s,xs) (s',xs'):=by rintro r q ok hq s xs d s' xs' ⟨T,B,e,st,b,e',B',Wk,er,I,rfl,rfl,hE,rfl,rfl,rfl⟩;have t:=h.at';haveI:=h.VR;have run:=Kn t ok hq c4 er B e st b e' B' Wk I hE;cases b with|true=>exact bo (Aj t run) (cA<|VN.z<|bj uy)|false=>exact H9<|Aj t run
def v7(h:cG P w K mg base k VF dn X)(c4:Vq X "take_one_of" cf)(x4:di X "take_one_of" C eT):∀(r:m7)(q:Addr),gn X.K r->iQ (Vv r) q->∀s xs,lW r.toks s xs->Dy ((Vv r).lst q) X (.val (.adr r.p)::.val (.adr q)::List.replicate (VF.length-2) Sl.un) (aW dn) C (s,xs):=by rintro r q ok hq s xs ⟨T,B,e,st,er,I,rfl,rfl,hE⟩;have t:=h.at';haveI:=h.VR;exact aY<|nM t<|Gv t ok hq c4 x4 er B e st I hE
theorem GU(T:TK):∀(B:List Fm)(e:Nat)(xs:TK)(e':Nat)(B':List Fm)(xs':TK),Ed T B e xs=some (true,e',B',xs')->B'=[]
 |[],e,xs,e',B',xs',h=>by cases h;rfl
 |(p,w)::B,e,xs,e',B',xs',h=>by unfold Ed at h;split at h;split at h<;>cases h;split at h;exact GU T B (e+1) _ e' B' xs' h;cases h
theorem E7(T:TK):∀(B:List Fm)(e:Nat)(st:TK)(b:Bool)(e':Nat)(B':List Fm)(Wk:TK),Zk T B e st->Ed T B e st=some (b,e',B',Wk)->Zk T B' e' Wk/\dp T e'=dp T e
 |[],e,st,b,e',B',Wk,I,h=>by cases h;exact⟨I,rfl⟩
 |(p,w)::B,e,st,b,e',B',Wk,I,h=>by unfold Ed at h;by_cases hw:w=[];rw[ax hw]at h;by_cases hz:bw T e∈Xh;rw[ax hz]at h;cases h;have fl:=sr hz ZN;let⟨h1,h2,h3,h4⟩:=I;rw[lx]at h3;refine⟨⟨h1,λf hf=>?_,by rw[lx];simp at h3 ⊢;lia,fl.1⟩,fl.2.1⟩;rcases bc.mp hf with rfl |hf;exact⟨(h2 (p,w)<|by simp).lt,.inr hz⟩;exact h2 f (by simp[hf]);rw[av hz]at h;cases h;rw[av hw]at h;by_cases hz:bw T e=[93];rw[ax hz]at h;have ih:=E7 T B (e+1) _ b e' B' Wk (I.zA5 hz) h;exact⟨ih.1,ih.2.trans<|fv (fU<|by rw[hz];simp) (by rw[hz];simp)<|by rw[hz];simp⟩;rw[av hz]at h;cases h
def HdO.lt(q:HdO h):∀c∈C6 h,c<128:=by
 have p1:∀w∈kD,∀c∈w,c<128:=by decide
 have p2:∀w∈y0,∀c∈w,c<128:=by decide
 rcases q with rfl |⟨w,l,rfl,h1,h2,h3⟩;decide;intro c hc;have YA:c∈w++32::l:=hc;rcases bS.mp YA with z |z;exact p1 w h1 c z;rcases bc.mp z with rfl |z;decide;exact p2 l h3 c z
def Ov{hs:List TK}(h:∀x∈hs,HdO x):∀u∈rL hs,∀c∈u,c<128:=λu hu=>by unfold rL at hu;rw[pD]at hu;obtain⟨x,hx,rfl⟩:=List.mem_map.mp hu;exact(h x hx).lt
def MI(T:TK)(B:List Fm)(a:Nat)(st:TK):Prop:=Zk T B a st/\dp T a=0
def MI.opened{st:TK}{B:List Fm}(I:MI T B a st){hs:List TK}(A:Uk T a hs a1)(q:bw T a1=[91]):MI T ((rL hs,[])::B) (a1+1) st:=by let⟨⟨h1,h2,h3,h4⟩,h5⟩:=I;have hl:=fU (by rw[q];simp);have l1:=A.le;have l2:=A.W2;refine⟨⟨h1,λf hf=>?_,by rw[lx,Bf];lia,hl⟩,?_⟩;rcases bc.mp hf with rfl |hf;exact⟨Ov A.lv,.inl rfl⟩;exact h2 f hf;rw[fv hl (by rw[q];simp)<|by rw[q];simp,A.WQ,h5]
def MI.cmp{st:TK}{B:List Fm}(I:MI T B a st){hs:List TK}(A:Uk T a hs a1){y:Sy}(h:rO T a1=(some y,e)):Zk T B e (st++(lu y++rL hs))/\dp T e=0:=by let⟨⟨h1,h2,h3,h4⟩,h5⟩:=I;have C:=rE h;have l1:=A.le;have l2:=A.W2;have l3:=C.lt;have l4:=C.W2;refine⟨⟨h1,h2,?_,C.le⟩,by rw[C.WQ,A.WQ,h5]⟩;rw[ag,ag,Bf];lia
def li(toks:cn)(ds:aM)(s:Int×aM)(d:D)(s':Int×aM):Prop:=∃(T:TK)(y:Sy)(e:Nat),ds=[]/\toks=sm T/\W7 T/\(∀a,db T a<=20)/\s=((0:Int),[])/\gY T 21 0=(some y,e)/\d=.VH/\s'=((e:Int),ay<|lu y)
def xt:∀ts ds s d s',li ts ds s d s'->ds.length+1=1:=by rintro _ _ _ _ _ ⟨_,_,_,rfl,_⟩;rfl
def oS(toks:cn)(ds:aM)(s:Int×aM):Prop:=∃T:TK,ds=[]/\toks=sm T/\W7 T/\(∀a,db T a<=20)/\s=((0:Int),[])/\(gY T 21 0).1=none
def vQ:∀ts ds s,oS ts ds s->ds.length+1=1:=by rintro _ _ _ ⟨_,rfl,_⟩;rfl
abbrev ZS:Expr×List Stmt:=uI (aW dW) 1
def wN:("[":Str)=S [91]:=rfl
def kY(t:At X fx (aq dW)){SS:LS}{s:SS.ds}{x y z:Sl}:VC SS X [x,y,.val<|.bl b,z] ZS.1 (!b) s s:=Vr.z<|Vr.eq (lU<|fM<|aa t 2) rfl
def FB{st:TK}[WR X](t:At X fx (aq dW))(ok:gn X.K r)(c1:Vq X "read_prefixes" fm)(c2:Vq X "next_token" bE)(c3:Vq X "take_token" bu)(er:r.toks=sm T){B:List Fm}(I:MI T B a st){hs:List TK}(hh:Ww T T.length a=(some hs,a1))(hl:hs.length<=20)(q:bw T a1=[91]):Wq (Vv r) X [.val<|.adr r.p,.own<|jC B,.val<|.bl false,.un] ZS.2 (.nx [.val<|.adr r.p,.own<|jC<|(rL hs,[])::B,.val<|.bl false,.un]) ((a:Int),ay st) (((a1+1:Nat):Int),ay st):=by have hT:=I.1.1;have tm:=hT.many;have h3:=I.1.2.2.1;have h4:=I.1.2.2.2;have h5:=CJ B;refine Wq.weak (bo (gN t 3<|b0 t ok c1 (bb (Vp.z<|aa t 0)<|VL.z af) ⟨T,a,hs,a1,rfl,er,hT,rfl,hh,hl,rfl,rfl⟩)<|cA<|sv (mJ t ok c2 (by rw[er];exact hT.so) rfl (by decide)<|by rw[er,fL,wN,fB];exact ar q)<|bo (cz<|gb t ok c3 rfl)<|cA<|VN.z<|gz t 1 rfl (aC<|ac (aa t 3)<|ac Vo af)<|lC<|by rw[Gd];lia) ?_;rw[kj,show Rv (rL hs,[])=.tup [.lst<|ay<|rL hs,.str ""]by unfold Rv;rw[NY]];exact .keep<|.keep<|.keep<|.forget .nil
theorem D0[WR X](t:At X fx (aq dW))(ok:gn X.K r)(c1:Vq X "read_prefixes" fm)(c2:Vq X "next_token" bE)(c3:Vq X "take_token" bu)(c4:Vq X "read_comparison" fc)(c5:Wr X "saying_ended" hV)(er:r.toks=sm T):∀(f:Nat)(B:List Fm)(a:Nat)(st:TK)(e:Nat)(Wk:TK),T.length<f+a->MI T B a st->MN T f B a st=some (e,Wk)->∃m,WB (Vv r) X ZS.1 ZS.2 m [.val<|.adr r.p,.own<|jC B,.val<|.bl false,.un] ((a:Int),ay st) [.val<|.adr r.p,.own [],.val<|.bl true,.un] ((e:Int),ay Wk)
 |0,B,a,st,e,Wk,hf,I,h=>by cases h
 |f+1,B,a,st,e,Wk,hf,I,h=>by
  have hT:=I.1.1;have tm:=hT.many;unfold MN at h;cases hh:Ww T T.length a with
  |mk o a1=>
   rw[hh]at h;cases o with
   |none=>cases h
   |some hs=>
    dsimp only at h;have A:=mL _ _ _ _ _ hh;have l1:=A.le;by_cases q:20<hs.length;rw[ax q]at h;cases h;rw[av q]at h;by_cases q2:bw T a1=[91];rw[ax q2]at h;obtain⟨m,ih⟩:=D0 t ok c1 c2 c3 c4 c5 er f _ (a1+1) st e Wk (by lia) (I.opened A q2) h;exact⟨m+1,.step (kY t) (FB t ok c1 c2 c3 er I hh (by lia) q2) ih⟩;rw[av q2]at h;cases h2:rO T a1 with
    |mk o e1=>
     rw[h2]at h;cases o with
     |none=>cases h
     |some y=>
      dsimp only at h;obtain⟨I2,d2⟩:=I.cmp A h2;have l2:=(rE h2).lt;have h3:=I.1.2.2.1;have i3:=I2.2.2.1;have i4:=I2.2.2.2;have dz:dp T a1=0:=by rw[A.WQ,I.2]
      have eq1:ay st++ay (lu y)++ay (rL hs)=ay (st++(lu y++rL hs)):=by simp[ay]
      have turn:∀{b:Bool}{e':Nat}{B':List Fm}{xs':TK},Ed T B e1 (st++(lu y++rL hs))=some (b,e',B',xs')->Wq (Vv r) X [.val<|.adr r.p,.own<|jC B,.val<|.bl false,.un] ZS.2 (.nx [.val<|.adr r.p,.own<|jC B',.val<|.bl b,.un]) (a,ay st) (e',ay xs'):=λ{b e' B' xs'}hE=>by refine Wq.weak (bo (gN t 3<|b0 t ok c1 (bb (Vp.z<|aa t 0)<|VL.z af) ⟨T,a,hs,a1,rfl,er,hT,rfl,hh,by lia,rfl,rfl⟩)<|cA<|lA (mJ t ok c2 (by rw[er];exact hT.so) rfl (by decide)<|by rw[er,fL,wN,fB];exact aj q2)<|bo (cz<|b0 t ok c4 (bb (Vp.z<|aa t 0)<|VL.z af) ⟨T,a1,y,e1,rfl,er,hT,rfl,dz,?_,h2,rfl,rfl⟩)<|bo (re t ok 0 rfl (Vp.z<|aa t 3)<|nH<|lC ?_)<|cA<|Al t ok c5 1 2 (aa t 0) rfl ⟨T,B,e1,st++(lu y++rL hs),b,e',B',xs',er,I2,je rfl eq1,rfl,hE,rfl,rfl,rfl⟩)  (.keep<|.keep<|.keep<|.forget .nil);show(ay st).length<=_;rw[aQ];lia;show(ay st++ay (lu y)).length+(ay<|rL hs).length<=_;rw[ag,aQ,aQ,aQ];rw[ag,ag]at i3;lia
      cases hE:Ed T B e1 (st++(lu y++rL hs))with
      |none=>rw[hE]at h;cases h
      |some z=>
       obtain⟨b,e',B',xs'⟩:=z;rw[hE]at h;cases b with
       |true=>cases h;have:=GU _ _ _ _ _ _ _ hE;subst this;exact⟨1,.step (kY t) (turn hE)<|.stop<|kY t⟩
       |false=>have l5:=DB _ _ _ _ _ _ _ hE;have I3:=E7 _ _ _ _ _ _ _ _ I2 hE;obtain⟨m,ih⟩:=D0 t ok c1 c2 c3 c4 c5 er f B' e' xs' e Wk (by lia) ⟨I3.1,by rw[I3.2,d2]⟩ h;exact⟨m+1,.step (kY t) (turn hE) ih⟩
theorem Ba[WR X](t:At X fx (aq dW))(ok:gn X.K r)(c1:Vq X "read_prefixes" fm)(x1:di X "read_prefixes" C gB)(c2:Vq X "next_token" bE)(c3:Vq X "take_token" bu)(c4:Vq X "read_comparison" fc)(x4:di X "read_comparison" C gQ)(c5:Wr X "saying_ended" hV)(x5:rG X "saying_ended" C lW)(er:r.toks=sm T):∀(f:Nat) (B:List Fm) (a:Nat) (st:TK),T.length<f+a->MI T B a st->MN T f B a st=none ->∃m,kM (Vv r) X ZS.1 ZS.2 C m [.val<|.adr r.p,.own<|jC B,.val<|.bl false,.un] ((a:Int),ay st)
 |0,B,a,st,hf,I,h=>absurd I.1.2.2.2<|by lia
 |f+1,B,a,st,hf,I,h=>by
  have hT:=I.1.1;have tm:=hT.many;unfold MN at h;have zAP:gB r.toks [] (a,ay st)->∃m,kM (Vv r) X ZS.1 ZS.2 C m [.val<|.adr r.p,.own<|jC B,.val<|.bl false,.un] (a,ay st):=fun z=>⟨0,.here (kY t)<|aY<|DQ<|ft t ok x1 (bb (Vp.z<|aa t 0)<|VL.z af) z⟩;cases hh:Ww T T.length a with
  |mk o a1=>
   rw[hh] at h;cases o with
   |none=>exact zAP ⟨T,a,rfl,er,hT,rfl,.inl<|by rw[hh]⟩
   |some hs=>
    dsimp only at h;have A:=mL _ _ _ _ _ hh;have l1:=A.le;by_cases q:20<hs.length;exact zAP ⟨T,a,rfl,er,hT,rfl,.inr ⟨hs,a1,hh,q⟩⟩;rw[av q] at h;by_cases q2:bw T a1=[91];rw[ax q2] at h;obtain⟨m,ih⟩:=Ba t ok c1 x1 c2 c3 c4 x4 c5 x5 er f _ (a1+1) st (by lia) (I.opened A q2) h;exact⟨m+1,.next (kY t) (FB t ok c1 c2 c3 er I hh (by lia) q2) ih⟩;rw[av q2] at h;have h3:=I.1.2.2.1;have dz:dp T a1=0:=by rw[A.WQ,I.2]
    have lz:((a1,ay st):Int×aM).2.length<=2*a1:=by rw[aQ];lia
    have first:V0 (Vv r) X [.val<|.adr r.p,.own<|jC B,.val<|.bl false,.un] (match ZS.2 with | st::_=>st | []=>.Pass ⟨0,0,0,0⟩) (.nx [.val<|.adr r.p,.own<|jC B,.val<|.bl false,.val<|.lst<|ay<|rL hs]) (a,ay st) (a1,ay st):=gN t 3<|b0 t ok c1 (bb (Vp.z<|aa t 0)<|VL.z af) ⟨T,a,hs,a1,rfl,er,hT,rfl,hh,by lia,rfl,rfl⟩
    cases h2:rO T a1 with
    |mk o e1=>
     rw[h2] at h;cases o with
     |none=>exact⟨0,.here (kY t)<|bU t first (aY<|wP t (mJ t ok c2 (by rw[er];exact hT.so) rfl (by decide)<|by rw[er,fL,wN,fB];exact aj q2)<|aY<|fK<|ft t ok x4 (bb (Vp.z<|aa t 0)<|VL.z af) ⟨T,a1,rfl,er,hT,rfl,dz,lz,by rw[h2]⟩)⟩
     |some y=>
      dsimp only at h;obtain⟨I2,d2⟩:=I.cmp A h2;have l2:=(rE h2).lt;have i3:=I2.2.2.1;have i4:=I2.2.2.2;have eq1:ay st++ay (lu y)++ay (rL hs)=ay (st++(lu y++rL hs)):=by simp[ay]
      have bd:(((e1,ay st++ay (lu y)):Int×aM).2.length+(ay<|rL hs).length)<=100000:=by rw[ag,aQ,aQ,aQ];rw[ag,ag] at i3;lia
      cases hE:Ed T B e1 (st++(lu y++rL hs)) with
      |none=>exact⟨0,.here (kY t)<|bU t first (aY<|wP t (mJ t ok c2 (by rw[er];exact hT.so) rfl (by decide)<|by rw[er,fL,wN,fB];exact aj q2)<|bU t (cz<|b0 t ok c4 (bb (Vp.z<|aa t 0)<|VL.z af) ⟨T,a1,y,e1,rfl,er,hT,rfl,dz,lz,h2,rfl,rfl⟩)<|bU t (re t ok 0 rfl (Vp.z<|aa t 3)<|nH<|lC bd)<|aY<|DQ<|GY t ok x5 1 (aa t 0) rfl ⟨T,B,e1,st++(lu y++rL hs),er,I2,je rfl eq1,rfl,hE⟩)⟩
      |some z=>
       obtain⟨b,e',B',xs'⟩:=z;rw[hE] at h;cases b with
       |true=>cases h
       |false=>have l5:=DB _ _ _ _ _ _ _ hE;have I3:=E7 _ _ _ _ _ _ _ _ I2 hE;obtain⟨m,ih⟩:=Ba t ok c1 x1 c2 c3 c4 x4 c5 x5 er f B' e' xs' (by lia) ⟨I3.1,by rw[I3.2,d2]⟩ h;refine⟨m+1,.next (kY t) (Wq.weak (bo first (cA<|lA (mJ t ok c2 (by rw[er];exact hT.so) rfl (by decide)<|by rw[er,fL,wN,fB];exact aj q2)<|bo (cz<|b0 t ok c4 (bb (Vp.z<|aa t 0)<|VL.z af) ⟨T,a1,y,e1,rfl,er,hT,rfl,dz,lz,h2,rfl,rfl⟩)<|bo (re t ok 0 rfl (Vp.z<|aa t 3)<|nH<|lC bd)<|cA<|Al t ok c5 1 2 (aa t 0) rfl ⟨T,B,e1,st++(lu y++rL hs),false,e',B',xs',er,I2,je rfl eq1,rfl,hE,rfl,rfl,rfl⟩))<|.keep<|.keep<|.keep<|.forget .nil) ih⟩
def Uy(hT:W7 T):MI T [] 0 []:=⟨⟨hT,(λf hf=>nomatch hf),ao _,bO _⟩,rfl⟩
def zz(h:cG P w K mg base k fx dW X)(c1:Vq X "read_prefixes" fm)(c2:Vq X "next_token" bE)(c3:Vq X "take_token" bu)(c4:Vq X "read_comparison" fc)(c5:Wr X "saying_ended" hV):HK X fx dW li:=by rintro r ok ds s d s' ⟨T,y,e,rfl,er,hT,hb,rfl,hG,rfl,rfl⟩;have t:=h.at';haveI:=h.VR;have hM:=GS T hb 21 0 [] [] (T.length+1) rfl (by lia);rw[hG]at hM;have hM':MN T (T.length+1) [] 0 []=some (e,lu y):=hM;refine .inr ⟨rfl,[.val<|.adr r.p,.own [],.val<|.bl true,.un],?_⟩;exact bo (VN.z<|wn t 1 2 (bK af) uy<|by decide)<|cA<|nL t<|D0 t ok c1 c2 c3 c4 c5 er (T.length+1) [] 0 [] e (lu y) (by lia) (Uy hT) hM'
def z8(h:cG P w K mg base k fx dW X)(c1:Vq X "read_prefixes" fm)(x1:di X "read_prefixes" C gB)(c2:Vq X "next_token" bE)(c3:Vq X "take_token" bu)(c4:Vq X "read_comparison" fc)(x4:di X "read_comparison" C gQ)(c5:Wr X "saying_ended" hV)(x5:rG X "saying_ended" C lW):yk X fx dW C oS:=by
 rintro r ok ds s ⟨T,rfl,er,hT,hb,rfl,hG⟩;have t:=h.at';haveI:=h.VR;have hM':MN T (T.length+1) [] 0 []=none:=by rw[GS T hb 21 0 [] [] (T.length+1) rfl<|by lia];cases hg:gY T 21 0 with|mk o x=>rw[hg]at hG;cases o with|none=>rfl|some z=>cases hG
 exact bU t (VN.z<|wn t 1 2 (bK af) uy<|by decide)<|aY<|nM t<|Ba t ok c1 x1 c2 c3 c4 x4 c5 x5 er (T.length+1) [] 0 [] (by lia) (Uy hT) hM'
inductive UD where
 |neg |qu (a x:Bool)
def qw(a:Bool):bI:=if a then [115,111,109,101]else [97,108,108]
def lw(x:Bool):bI:=if x then [120]else [121]
def QP:UD->bI|.neg=>gS|.qu a x=>qw a++32::lw x
def aw(a:Bool):bI:=if a then [97,110,100]else [111,114]
def IF(p:UD):∀c∈QP p,c<128:=by cases p with|neg=>decide|qu a x=>cases a<;>cases x<;>decide
def RP(a:Bool):∀c∈aw a,c<128:=by cases a<;>decide
def ku(K:eZ):Nat->aM->D->Prop
 |0,_,_=>False|1,ds,r=>∃i,ds=[.int i]/\r=.int i
 |_+2,ds,r=>∃(l:Addr)(ns:bR),ds=[.adr l]/\Xd K l ns/\ns.length<1000/\r=cZ ns
def sk:∀n ds d,ku K n ds d->ds.length=1
 |0,_,_,h=>h.elim|1,_,_,⟨_,h,_⟩=>by rw[h];rfl
 |_+2,_,_,⟨_,_,h,_⟩=>by rw[h];rfl
def B5(h:cG P w K mg base k ko i7 X)(VB:mg "isinstance"=none)(VQ:mg "tuple"=none):Go X ko i7 (ku K 1):=by rintro ds d ⟨i,rfl,rfl⟩;have t:=h.at';haveI:=h.VR;have b1:=h.bt VB;have b2:=h.bt VQ;exact az<|bj<|sQ (fM<|sO t b1 b2 (aa t 0) rfl)<|aa t 0
def B4(h:cG P w K mg base k ko i7 X)(VB:mg "isinstance"=none)(VQ:mg "tuple"=none)(c1:EV.Callee X "told_anew" (ku K 1)):Go X ko i7 (ku K 2):=by
 rintro ds d ⟨l,ns,rfl,g,hl,rfl⟩;have t:=h.at';haveI:=h.VR;have b1:=h.bt VB;have b2:=h.bt VQ;have g':Xd X.K l ns:=by rw[h.k'];exact g
 refine az<|bj<|sP (fM<|Mx t g' b1 b2 (aa t 0) rfl)<|Vp.eq (jr t b2<|VD.toQ (jt t ["thing","part"] (Hy rfl) (Ry (aa t 0) g') (by rw[ai,tD];lia) λX' cx=>VX.all (λd=>[.val<|.adr l,.val d]) (λd=>d) (ns.map D.int) _ (λd hd=>cD cx.at' 1) (λd hd e he=>cD cx.at' 1) λd hd=>aB cx.at' (cx.callee c1) (ac (aa cx.at' 1 rfl) af) ?_)) (by rw[List.map_id']);obtain⟨i,_,rfl⟩:=List.mem_map.mp hd;exact⟨i,rfl,rfl⟩
def OS:List (bI×Addr)->bI->Option Addr|[],_=>none|(a,l)::ts,u=>if a=u then some l else OS ts u
def uk(ls:List (bI×Addr)):List (Str×Addr):=ls.map λp=>(S p.1,p.2)
def Iq:∀(ls:List (bI×Addr))(u:bI),valueAt (u6<|uk ls) (Sum.inr<|S u)=(OS ls u).map Value.ref|[],u=>rfl|(a,l)::ls,u=>by show((((Sum.inr (S a):nt),Value.ref l)::u6 (uk ls)).find? λkv=>kv.1=(Sum.inr (S u):nt)).map (·.2)=(if a=u then some l else OS ls u).map Value.ref;by_cases e:a=u;subst e;rw[ax rfl,List.find?_cons_of_pos<|by simp];rfl;have ne:¬(Sum.inr (S a):nt)=Sum.inr (S u):=λz=>e<|fG<|Vf z;rw[av e,List.find?_cons_of_neg<|by simpa using ne];exact Iq ls u
def XN:List (bI×bR):=[([60],[-1]),([61],[0]),([62],[1]),([60,61],[-1,0]),([62,61],[0,1]),([33,61],[-1,1])]
structure Sc(P:Program)(w:World)(K:eZ)(q:Addr)(ls:List (bI×Addr))(ep:Nat):Prop where
 WI:Ci P w K q (uk ls) ep
 keys:ls.map (·.1)=V7
 at':∀p∈XN,∃l,OS ls p.1=some l/\Xd K l p.2
theorem CT:∀(ls:List (bI×Addr))(u:bI),u∉ls.map (·.1)->OS ls u=none|[],_,_=>rfl|(a,l)::ls,u,h=>by show(if a=u then some l else OS ls u)=none;rw[av λe=>h<|by simp[e],CT ls u λz=>h<|by simp at z ⊢;exact .inr z]
def U2(b:Bd)(ns:bR):D:=.tup [.str "is",bz b,cZ ns]
def UP(a:Bool)(x y:D):D:=.tup [.str<|S<|aw a,x,y]
def Ux(x:D):D:=.tup [.str "not",x]
def UZ(a l:Bool)(x:D):D:=.tup [.str<|S<|qw a,.str<|S<|lw l,x]
inductive Wn:bI->aM->aM->Prop where
 |term {u:bI} {pre:aM} {st Wk:List Bd}:WC u st Wk->Wn u (pre++st.map bz) (pre++Wk.map bz)
 |cmp {p:bI×bR} {pre:aM} {a b:Bd}:p∈XN->Xy 1000 a->Xy 1000 b->Wn p.1 (pre++[bz a]++[bz b]) (pre++[U2 (lM a<|ug b) p.2])
 |two {pre:aM} {x y:D} {a:Bool}:Wn (aw a) (pre++[x]++[y]) (pre++[UP a x y])
 |neg {pre:aM} {x:D}:Wn gS (pre++[x]) (pre++[Ux x])
 |qu {pre:aM} {x:D} {a l:Bool}:Wn (QP<|.qu a l) (pre++[x]) (pre++[UZ a l x])
def vL(d0:D)(xs xs':aM):Prop:=∃u,d0=.str (S u)/\Wn u xs xs'/\xs.length<10000
def WC.hd{st Wk:List Bd}(h:WC u st Wk):(∃c cs,u=c::cs/\c≠115/\c≠97/\c≠110/\c≠111/\c≠60/\c≠61/\c≠62/\c≠33)/\∀c∈u,c<128:=by
 cases h with
 |atom hu=>obtain⟨c,cs,rfl,hc⟩:=IP hu;exact⟨⟨c,cs,rfl,by lia⟩,hu.lt⟩
 |add _ _=>exact⟨⟨_,_,rfl,by decide⟩,by decide⟩|sub _ _=>exact⟨⟨_,_,rfl,by decide⟩,by decide⟩
 |mul _ _ _=>exact⟨⟨_,_,rfl,by decide⟩,by decide⟩|neg _=>exact⟨⟨_,_,rfl,by decide⟩,by decide⟩
 |pow _ hd=>exact⟨⟨_,_,rfl,by decide⟩,λc hc=>by simp at hc;lia⟩
def Nd{c d:Nat}{ds:bI}(h:c≠d):Txt.startswith (S<|c::cs) (S<|d::ds)=false:=by
 have:Builtin.Str.subAt (S<|c::cs) (S<|d::ds) 0=false:=by rw[StrLaws.subAt_eq,ce,eQ,eQ,tH,bF];exactλe=>h (List.cons.inj e).1
 unfold Txt.startswith;rw[this,tJ]
def SO:("some ":Str)=S [115,111,109,101,32]:=rfl
def SR:("all ":Str)=S [97,108,108,32]:=rfl
def SQ:("and":Str)=S (aw true):=rfl
def UM:("or":Str)=S (aw false):=rfl
def GN(u:bI):((VA [D.str "and",.str "or"]).any λy=>PyData.eqv y<|gw<|.str<|S u)=(decide (u=aw true)||decide (u=aw false)):=by refine(PJ "and" "or"<|S u).trans ?_;rw[SQ,UM,bG.mpr<|⟨fG,λe=>by rw[e]⟩,bG.mpr<|⟨fG,λe=>by rw[e]⟩]
def Pz(a l:Bool):KO (S<|QP<|.qu a l) " ":=by cases a<;>cases l<;>exact⟨by decide,by decide,by decide,by decide,by decide⟩
def MO(a l:Bool):(vd (S<|QP<|.qu a l) " ").map D.str=[.str<|S<|qw a,.str<|S<|lw l]:=by
 have:vd (S<|QP<|.qu a l) " "=[S<|qw a,S<|lw l]:=by cases a<;>cases l<;>decide
 rw[this];rfl
theorem B3{ls:List (bI×Addr)}(h:cG P w K mg base k WZ mz X)(c1:EV.Callee X "board_minus" kg)(c2:EV.Callee X "told_anew" (ku K 2))(c3:WH X "take_term_step" oh)(gq:mg "COMPARISONS"=some (.ref q'))(g:Sc P w K q' ls ep):∀q d0 xs xs',vL d0 xs xs'->∃W1,XT X q (.val d0::.val (.adr q)::List.replicate (WZ.length-2) Sl.un) (aW mz) (.nx W1) xs xs':=by
 rintro q d0 xs xs' ⟨u,rfl,hs,hz⟩;have t:=h.at';haveI:=h.VR;have gq':X.mg "COMPARISONS"=some (.ref q'):=by rw[h.V3];exact gq
 have g':Ci X.prog X.w X.K q' (uk ls) ep:=by obtain⟨_,e1,e2,e3,_⟩:=h;rw[e1,e2,e3];exact g.WI
 have no:∀v,v∉V7->(valueAt (u6<|uk ls)<|Sum.inr<|S v).isSome=false:=λv hv=>by rw[Iq,CT ls v<|by rwa[g.keys]];rfl
 have cw:PyData.canLayAll0 (VA [D.str "and",.str "or"])=true:=by decide
 cases hs with
 |@term _ pre st Wk hs=>obtain⟨⟨c,cs,rfl,h1,h2,h3,h4,h5,h6,h7,h8⟩,V1⟩:=hs.hd;have ok:=dF V1;refine⟨_,c6<|gZ (Vr.l<|xR t g' (aa t 0) gq'<|no _ ?_)<|c6<|gZ (Vr.l<|iy t (aa t 0) (aC<|ac Vo<|ac Vo af) (de ok) (cL _) cw ?_)<|c6<|gZ (Vr.l<|Vr.eq (cK t (aa t 0) Vo ok)<|y6 AW ?_)<|c6<|gZ (Vr.l<|eM (u:=false) (fM<|rk (aa t 0) Vo ?_) λ_=>fM<|rk (aa t 0) Vo ?_)<|c6<|JH t c3 1 rfl (aa t 0) ⟨_,pre,st,Wk,rfl,hs,?_,rfl,rfl⟩⟩;simp[V7];lia;rw[GN];simp[aw];lia;intro e;cases e;exact h3 rfl;rw[SO];exact Nd h1;rw[SR];exact Nd h2;simpa using hz
 |@cmp p pre a b hp ha hb=>
  obtain⟨l,hl,gl⟩:=g.at' p hp;have e1:valueAt (u6<|uk ls) (Sum.inr<|S p.1)=some (.ref l):=by rw[Iq,hl];rfl
  refine⟨_,c6<|lQ (Vr.l<|xR t g' (aa t 0) gq'<|by rw[e1];rfl)<|fA (gX t 2<|fF t 1 rfl rfl)<|fA (gX t 3<|fF t 1 rfl rfl)<|c6<|gK t 1 rfl (Vp.em<|aC<|ac Vo<|ac (aB t c1 (ac (aa t 3)<|ac (aa t 2) af) ⟨a,b,rfl,ha,hb,rfl⟩)<|ac (aB t c2 (ac (Pm t g' (aa t 0) gq' e1) af) ⟨l,p.2,rfl,gl,(show∀p∈XN,p.2.length<1000 by decide) p hp,rfl⟩) af)<|sz<|by simp at hz;lia⟩
 |@two pre x y a=>refine⟨_,c6<|gZ (Vr.l<|xR t g' (aa t 0) gq'<|no _<|by cases a<;>decide)<|c6<|lQ (Vr.l<|iy t (aa t 0) (aC<|ac Vo<|ac Vo af) (de<|dF<|RP a) (cL _) cw<|by rw[GN];cases a<;>decide)<|fA (gX t 2<|fF t 1 rfl rfl)<|fA (gX t 3<|fF t 1 rfl rfl)<|c6<|gK t 1 rfl (Vp.em<|aC<|ac (aa t 0)<|ac (aa t 3)<|ac (aa t 2) af)<|sz<|by simp at hz;lia⟩|@neg pre x=>refine⟨_,c6<|gZ (Vr.l<|xR t g' (aa t 0) gq'<|no _<|by decide)<|c6<|gZ (Vr.l<|iy t (aa t 0) (aC<|ac Vo<|ac Vo af) (de<|by decide) (cL _) cw<|by rw[GN];decide)<|c6<|lQ (Vr.l<|Vr.eq (cK t (aa t 0) Vo<|by decide) rfl)<|c6<|gK t 1 rfl (Kk<|jw (Vp.em Vo)<|jw (fF t 1 rfl rfl)<|VL.am af)<|sz<|by simp at hz;lia⟩
 |@qu pre x a l=>refine⟨_,c6<|gZ (Vr.l<|xR t g' (aa t 0) gq'<|no _<|by cases a<;>cases l<;>decide)<|c6<|gZ (Vr.l<|iy t (aa t 0) (aC<|ac Vo<|ac Vo af) (de<|dF<|IF _) (cL _) cw<|by rw[GN];cases a<;>cases l<;>decide)<|c6<|gZ (Vr.l<|Vr.eq (cK t (aa t 0) Vo<|dF<|IF _)<|by cases a<;>cases l<;>decide)<|c6<|lQ (Vr.l<|Vr.eq (eM (fM<|rk (aa t 0) Vo rfl) λ_=>fM<|rk (aa t 0) Vo rfl)<|by cases a<;>cases l<;>decide)<|fA (VN.m<|iE t (Vp.eq (VD.V5<|Ki (aa t 0) Vo<|Pz a l)<|by rw[MO])<|Pq t<|bA (bq t 4)<|bA (bq t 5) e9)<|c6<|gK t 1 rfl (Kk<|jw (Vp.em<|aa t 4)<|jw (Vp.em<|aa t 5)<|jw (fF t 1 rfl rfl)<|VL.am af)<|sz<|by simp at hz;lia⟩
section
variable {ls:List (bI×Addr)}
def CU(t:At X N sc)(bl:kN X sc "list" (.type "list"))(gq:X.mg "COMPARISONS"=some (.ref q))(g:Ci X.prog X.w X.K q (uk ls) ep)(hk:ls.map (·.1)=V7)(hg:sc.names.lookup ("COMPARISONS":Str)=some .globalImplicit):E4 X:=λ{U p p' pos}=>by
 have h:=VD.V5 (Kj (U:=U) (p:=p) (py:=p') (pos:=pos) t g bl gq (by
  have:(uk ls).length=(ls.map (·.1)).length:=by simp[uk]
  rw[this,hk];decide) hg rfl)
 refine Vp.eq h ?_;have:(uk ls).map (λp=>D.str p.1)=ay (ls.map (·.1)):=by simp[uk,ay]
 rw[this,hk]
end
inductive Wo:TK->aM->aM->Prop where
 |nil {a:aM}:Wo [] a a
 |cons {u:bI} {us:TK} {a b c:aM}:Wn u a b->Wo us b c->Wo (u::us) a c
def Wo.app(h:Wo us a b)(g:Wo vs b c):Wo (us++vs) a c:=by induction h with|nil=>exact g|cons s _ ih=>exact .cons s<|ih g
def Wo.term{a b:List Bd}(pre:aM)(h:Runs us a b):Wo us (pre++a.map bz) (pre++b.map bz):=by induction h with|nil=>exact .nil|cons s _ ih=>exact .cons (.term s) ih
def Wn.len(h:Wn u a b):b.length<=a.length+1:=by cases h with|term s=>have:=s.len;simp;lia|_=>simp<;>lia
def Wo.ix(h:Wo us a c):∃f:Nat->aM,f 0=a/\f us.length=c/\∀i(hi:i<us.length),Wn us[i] (f i) (f<|i+1)/\(f i).length<=a.length+i:=by induction h with|@nil a=>exact⟨λ_=>a,rfl,rfl,λi hi=>nomatch hi⟩|@cons u us a b c s r ih=>let⟨f,f0,f1,f2⟩:=ih;refine⟨λi=>match i with |0=>a |j+1=>f j,rfl,f1,λi hi=>?_⟩;cases i with|zero=>exact⟨by show Wn u a (f 0);rwa[f0],by simp⟩|succ j=>have:=f2 j (by simpa using hi);exact⟨this.1,by have l:=s.len;have:=this.2;show(f j).length<=_;lia⟩
def Oh(w:bI):bR:=((XN.find? λp=>decide<|p.1=w).map (·.2)).getD []
def TD:Sy->D->Prop
 |.is _ _ w,d=>∃B,d=.tup [.str "is",bz B,cZ<|Oh w]|.pre h s,d=>∃d',TD s d'/\d=.tup (ay h++[d'])
 |.two w a b,d=>∃d1 d2,TD a d1/\TD b d2/\d=.tup [.str<|S w,d1,d2]
def Qk:Sy->Prop
 |.is a b _=>M1 (cl a)/\M1 (cl b)|.pre _ s=>Qk s
 |.two _ a b=>Qk a/\Qk b
def MP{w:bI}(h:w∈V7):(w,Oh w)∈XN:=(show∀w∈V7,(w,Oh w)∈XN by decide) w h
theorem Ly:∀y:Sy,KL y->Qk y->∃d,TD y d/\∀W,Wo (lu y) W (W++[d])
 |.is a b w,l,h=>by let⟨A,okA,sA,nA,rA⟩:=su a l.1 h.1;let⟨B,Zu,sB,nB,rB⟩:=su b l.2.1 h.2;have h8:=h.1.1;have h9:=h.2.1;refine⟨_,⟨lM A<|ug B,rfl⟩,λW=>?_⟩;have r1:=Wo.term W<|rA [];have r2:=Wo.term (W++[bz A])<|rB [];rw[rS,aX]at r1 r2;exact r1.app<|r2.app<|.cons (Wn.cmp (MP l.2.2) (sA.sm okA<|by lia)<|sB.sm Zu<|by lia) .nil
 |.pre x s,l,h=>by
  let⟨d,td,r⟩:=Ly s l.2 h;refine⟨_,⟨d,td,rfl⟩,λW=>(r W).app ?_⟩;rcases l.1 with rfl |⟨w,v,rfl,h1,h2,h3⟩;have:=Wn.neg (pre:=W) (x:=d);unfold Ux at this;rw[AW]at this;exact .cons this .nil;obtain⟨a,rfl⟩:∃a,w=qw a:=by
   have:∀w∈kD,w≠gS->w=qw true\/w=qw false:=by decide
   rcases this w h1 h2 with z |z;exact⟨true,z⟩;exact⟨false,z⟩
  obtain⟨c,rfl⟩:∃c,v=lw c:=by
   have:∀w∈y0,w=lw true\/w=lw false:=by decide
   rcases this v h3 with z |z;exact⟨true,z⟩;exact⟨false,z⟩
  exact .cons (Wn.qu) .nil
 |.two w a b,l,h=>by
  let⟨d1,t1,r1⟩:=Ly a l.2.1 h.1;let⟨d2,t2,r2⟩:=Ly b l.2.2 h.2;refine⟨_,⟨d1,d2,t1,t2,rfl⟩,λW=>(r1 W).app<|(r2<|W++[d1]).app ?_⟩;obtain⟨c,rfl⟩:∃c,w=aw c:=by
   have:∀w∈Xh,w=aw true\/w=aw false:=by decide
   rcases this w l.1 with z |z;exact⟨true,z⟩;exact⟨false,z⟩
  exact .cons (Wn.two) .nil
def EH(h:pj T)(a:Nat):db T a<=20:=by
 by_cases q:a<=T.length;exact h.2 a q;have e:T.take a=T.take T.length:=by rw[dO<|by lia,bW]
 show km _ _ (T.take a)<=20;rw[e];exact h.2 _<|ao _
def iP(ds:aM)(d:D):Prop:=∃(cs:bI)(T:TK)(y:Sy),ds=[.str<|S cs]/\Lx cs T/\(∀c∈cs,c<128)/\cs.length<=2000/\pj T/\gY T 21 0=(some y,T.length)/\Wo (lu y) [] [d]
def pI:∀ds d,iP ds d->ds.length=1:=by rintro _ _ ⟨a,b,c,rfl,_⟩;rfl
def fT(ds:aM):Prop:=∃d:D,ds=[d]/\(R7 d 2000\/∃(cs:bI)(T:TK),d=.str (S cs)/\Lx cs T/\(∀c∈cs,c<128)/\cs.length<=2000/\pj T/\∀y,gY T 21 0≠(some y,T.length))
def nW:∀ds,fT ds->ds.length=1:=by rintro _ ⟨a,rfl,_⟩;rfl
def Ac(h:cG P w K mg base k iM gI X)(c1:WG X "reader_of" mQ)(c2:Vq X "read_steps" li)(c3:Vq X "refuse_more" nv)(c4:WH X "take_step" vL)(gM:∃tk,mg "MOST_SIGNS"=some (.int 2000 tk)):Go X iM gI iP:=by
 rintro ds dr ⟨cs,T,y,rfl,hl,ha,hz,hd,hG,hr⟩;have t:=h.at';haveI:=h.VR;have Ye:∃tk,X.mg "MOST_SIGNS"=some (.int 2000 tk):=by rw[h.V3];exact gM
 obtain⟨f,f0,f1,f2⟩:=hr.ix;have hs:(lu y).length<10000:=by have:=(uF T 21 0 y T.length hG).W2;have:=hl.len;lia
 show Vt X [.val<|.str<|S cs,.un,.un,.un] _ _;refine MF t 1 c1 (ac (aa t 0)<|ac (hJ t Ye) af) ⟨cs,T,2000,rfl,hl,ha,hz,by decide,hd,rfl⟩ λr ok et=>⟨((T.length:Nat),ay<|lu y),?_⟩;show Wq (Vv r) X [.val<|.str<|S cs,.val<|.adr r.p,.un,.un] _ _ ((0:Int),([]:aM)) ((T.length:Nat),ay<|lu y);refine bo (cz<|b0 t ok c2 (bb (Vp.z<|aa t 1)<|VL.z af) ⟨T,y,T.length,rfl,et,hl.ok ha (by lia) hd,EH hd,rfl,hG,rfl,rfl⟩) ?_;refine bo (cz<|b0 t ok c3 (bb (Vp.z<|aa t 1)<|VL.z af) ⟨T.length,rfl,rfl,by rw[et];unfold sm;rw[ai];exact ao _,rfl,rfl⟩) ?_;refine bo (VN.z<|jl t 2<|bK af)<|bo (Wp:=[.val<|.str<|S cs,.val<|.adr r.p,.own [dr],.un]) (H8 t ok 1 rfl<|VU.Wf (λi=>[.val<|.str<|S cs,.val<|.adr r.p,.own<|f i,.un]) (λj d e=>?_) (by rw[f0];rfl) ?_)<|cA<|wM<|Vp.z<|br (lT t 2 rfl) ah;have e':(ay<|lu y)[j]?=some d:=e;unfold ay at e';rw[List.getElem?_map]at e';cases e2:(lu y)[j]? with
 |none=>rw[e2]at e';cases e'
 |some u=>rw[e2]at e';cases e';obtain⟨hj,eu⟩:=List.getElem?_eq_some_iff.mp e2;have f3:=f2 j hj;rw[eu]at f3;refine⟨_,bq t 3,Vt.weak (az<|IK t c4 2 rfl (aa t 3) ⟨u,rfl,f3.1,by have:=f3.2;simp at this;lia⟩)<|.keep<|.keep<|.keep<|.forget .nil⟩
 show _=_;have:((((T.length:Nat):Int),ay<|lu y):Int×aM).2.length=(lu y).length:=aQ _;rw[this,f1]
def x8(h:cG P w K mg base k iM gI X)(c1:WG X "reader_of" mQ)(x1:j9 X "reader_of" C qF)(c2:Vq X "read_steps" li)(x2:di X "read_steps" C oS)(x3:di X "refuse_more" C m5)(gM:∃tk,mg "MOST_SIGNS"=some (.int 2000 tk)):P1 X iM gI C fT:=by
 rintro ds ⟨d,rfl,hd⟩;have t:=h.at';haveI:=h.VR;have Ye:∃tk,X.mg "MOST_SIGNS"=some (.int 2000 tk):=by rw[h.V3];exact gM
 show Dy LS0 X [.val d,.un,.un,.un] _ _ _;rcases hd with hd |⟨cs,T,rfl,hl,ha,hz,hd,hG⟩;exact aY<|X1.z<|Ii<|sx t x1 (ac (aa t 0)<|ac (hJ t Ye) af) ⟨d,2000,rfl,by decide,hd⟩;have hT:=hl.ok ha (by lia) hd;refine K7 t 1 c1 (ac (aa t 0)<|ac (hJ t Ye) af) ⟨cs,T,2000,rfl,hl,ha,hz,by decide,hd,rfl⟩ λr ok et=>?_;show Dy (Vv r) X [.val<|.str<|S cs,.val<|.adr r.p,.un,.un] _ _ ((0:Int),([]:aM));cases e:gY T 21 0 with
 |mk o en=>
  cases o with
  |none=>exact aY<|fK<|ft t ok x2 (bb (Vp.z<|aa t 1)<|VL.z af) ⟨T,rfl,et,hT,EH hd,rfl,by rw[e]⟩
  |some y=>
   have V1:en<T.length:=by have:=(uF T 21 0 y en e).le;have:en≠T.length:=λz=>hG y (by rw[e,z]);lia
   exact bU t (cz<|b0 t ok c2 (bb (Vp.z<|aa t 1)<|VL.z af) ⟨T,y,en,rfl,et,hT,EH hd,rfl,e,rfl,rfl⟩)<|aY (fK<|ft t ok x3 (bb (Vp.z<|aa t 1)<|VL.z af) ⟨en,rfl,rfl,by rw[et];unfold sm;rw[ai];exact V1⟩)
def Au:Sy->D
 |.is a b w=>.tup [.str "is",DJ<|cl a,DJ<|cl b,.str<|S w]|.pre h s=>.tup<|ay h++[Au s]
 |.two w a b=>.tup [.str<|S w,Au a,Au b]
def OB:Option Sy->D|none=>.VH|some s=>Au s
def Nj(r:Option Sy×Nat):D:=.tup [OB r.1,.int r.2]
def xE(s:Sy):C1 (OB<|some s)=false:=by cases s<;>rfl
def LY(n:Nat)(ds:aM)(d:D):Prop:=∃(T:TK)(a:Nat),ds=[.lst<|ay T,.int a]/\Y9 T/\((∀a,db T a<=20)/\T.length<=20000)/\dp T a=0/\db T a+n=21/\d=Nj (gY T n a)
def LY.len:∀ds d,LY n ds d->ds.length=2:=by rintro _ _ ⟨_,_,rfl,_⟩;rfl
def LP(n:Nat)(ds:aM)(d:D):Prop:=∃(T:TK)(a:Nat),ds=[.lst<|ay T,.int a]/\Y9 T/\((∀a,db T a<=20)/\T.length<=20000)/\dp T a=0/\db T a+n=21/\d=Nj (xI (gY T n) T a)
def LP.len:∀ds d,LP n ds d->ds.length=2:=by rintro _ _ ⟨_,_,rfl,_⟩;rfl
def NM:([D.str "and",.str "or"]:aM)=ay Xh:=by rw[show("and":Str)=S [97,110,100]by decide,show("or":Str)=S [111,114]by decide];rfl
def Ie:([D.str "x",.str "y"]:aM)=ay y0:=Ic
def LN:([D.str "not",.str "some",.str "all"]:aM)=ay kD:=by rw[show("not":Str)=S [110,111,116]by decide,show("some":Str)=S [115,111,109,101]by decide,show("all":Str)=S [97,108,108]by decide];rfl
def GD:([D.str "<",.str "=",.str ">",.str "<=",.str ">=",.str "!="]:aM)=ay V7:=by rw[show("<":Str)=S [60]by decide,show("=":Str)=S [61]by decide,show(">":Str)=S [62]by decide,show("<=":Str)=S [60,61]by decide,show(">=":Str)=S [62,61]by decide,show("!=":Str)=S [33,61]by decide];rfl
def Ia:("]":Str)=S [93]:=rfl
def Bu(a:Nat):(a:Int)+1=((a+1:Nat):Int):=by lia
def rC(t:At X N sc)(ha:Vp X U a (.str<|S u))(hb:Vp X U b (.tup xs))(hu:∀c∈u,c<128)(hx:xs=ay W)(hW:∀v∈W,∀c∈v,c<128:=by decide)(hm:behindInMarks .NotIn b=false:=by rfl):Vr X U (.Compare a [.NotIn] [b] pos) (!decide (u∈W)):=by subst hx;exact BE t ha hb (de<|dF hu) (cL _) (qX hW) (by rw[jW]) hm
def Ds(h:cG P w K mg base k qK mF X)(c1:EV.Callee X "_law_saying" (LY n))(c2:EV.Callee X "_law_mark" eY):Go X qK mF (LP n):=by
 rintro ds d ⟨T,a,rfl,ok,hb,hp,hd,rfl⟩;have t:=h.at';haveI:=h.VR;unfold xI;cases e1:gY T n a with
 |mk o m=>
  refine au (iE t (d:=Nj (o,m)) (aB t c1 (ac (aa t 0)<|ac (aa t 1) af) ⟨T,a,rfl,ok,hb,hp,hd,by rw[e1]⟩)<|gs t<|bA (bq t 2)<|bA (bq t 3) e9) ?_;cases o with
  |none=>exact ip (Vr.eq (eM (v:=false) (Vr.eq (eV<|aa t 2 rfl) rfl) λz=>nomatch z) rfl) (λ_=>az<|bj<|aC<|ac eJ<|ac (aa t 1 rfl) af) λz=>nomatch z
  |some s=>
   dsimp only;refine ip (Vr.eq (eM (Vr.eq (eV<|aa t 2)<|xE s) λ_=>rC t (aB t c2 (ac (aa t 0)<|ac (aa t 3) af) ⟨T,m,rfl,rfl⟩) (aC<|ac Vo<|ac Vo af) (ok.c m) NM)<|gj _) (λq=>az<|bj<|Vp.eq (aC<|ac eJ<|ac (aa t 1) af) ?_) λq=>?_;rw[av<|by simpa using q];rfl;have q':bw T m∈Xh:=by simpa using q
   have A:=uF _ _ _ _ _ e1;have fl:=sr q' ZN;rw[ax q'];cases e2:gY T n (m+1)with
   |mk o e=>
    refine au (iE t (d:=Nj (o,e)) (aB t c1 (ac (aa t 0)<|ac (Vp.eq (bB (aa t 3) ah)<|aL D.int<|Bu m) af) ⟨T,m+1,rfl,ok,hb,by rw[fl.2.1,A.WQ,hp],by rw[fl.2.2.1,A.XO,hd],by rw[e2]⟩)<|gs t<|bA (bq t 4)<|bA (bq t 5) e9) ?_;cases o with
    |none=>exact ip (Vr.eq (eM (v:=false) (Vr.eq (eV<|aa t 4 rfl) rfl) λz=>nomatch z) rfl) (λ_=>az<|bj<|aC<|ac eJ<|ac (aa t 1 rfl) af) λz=>nomatch z
    |some s2=>dsimp only;refine ip (Vr.eq (eM (Vr.eq (eV<|aa t 4)<|xE s2) λ_=>qy t (aB t c2 (ac (aa t 0)<|ac (aa t 5) af) ⟨T,e,rfl,rfl⟩) Vo (ok.c e) Ia)<|gj _) (λq=>az<|bj<|Vp.eq (aC<|ac eJ<|ac (aa t 1) af) ?_) λq=>az<|bj<|Vp.eq (aC<|ac (aC<|ac (br (Vp.ql<|aa t 0) (aa t 3)<|mq fl.1)<|ac (aa t 2)<|ac (aa t 4) af)<|ac (bB (aa t 5) ah) af) ?_;rw[av<|by simpa using q];rfl;rw[ax<|by simpa using q,Bu];rfl
def hT(h:TK):D:=.tup<|ay h
abbrev hdC:Expr×List Stmt:=uI (aW du) 1
theorem Ku{T:TK}{a n:Nat}(h:a+n<=T.length):EV.cutD (ay T) (some (a:Int)) (some ((a+n:Nat):Int))=ay ((T.drop a).take n):=by
 have:∀xs,a+n<=xs.length->EV.cutD xs (some a) (some ((a+n:Nat):Int))=(xs.drop a).take n:=λxs hx=>by
  unfold EV.cutD;have e1:HT.VI xs.length 0 (some a)=a:=by unfold HT.VI;simp;rw[av<|by lia];lia
  have e2:HT.VI xs.length xs.length (some ((a+n:Nat):Int))=a+n:=by unfold HT.VI;simp;rw[av<|by lia];lia
  rw[e1,e2,show a+n-a=n by lia]
 rw[this _<|by rwa[aQ]];unfold ay;rw[<-pL,<-DL]
def U5{T:TK}{a:Nat}(h:a<T.length):(T.drop a).take 1=[bw T a]:=by rw[cY h];unfold bw;rw[List.getD_eq_getElem?_getD,List.getElem?_eq_getElem h];rfl
def U4{T:TK}{a:Nat}(h:a+1<T.length):(T.drop a).take 2=[bw T a,bw T<|a+1]:=by rw[cY<|by lia,cY h];unfold bw;rw[List.getD_eq_getElem?_getD,List.getD_eq_getElem?_getD,List.getElem?_eq_getElem h,List.getElem?_eq_getElem<|by lia];rfl
abbrev sR(T:TK)(a:Nat)(H:Sl)(x:Sl):cE:=[.val<|.lst<|ay T,.val<|.int a,H,x,.un,.un,.un,.un,.un,.un,.un]
def O8[WR X](t:At X iO (aq du))(bi:kN X (aq du) "int" (.type "int"))(bt:kN X (aq du) "tuple" (.type "tuple"))(c1:EV.Callee X "_law_mark" eY)(ok:Y9 T)(tm:T.length<=20000):∀(f a:Nat)(acc:List TK)(x:Sl),T.length<=f+a->acc.length<=a->(∃hs e m y,Ww T f a=(some hs,e)/\Wv X hdC.1 hdC.2 m (sR T a (.own<|acc.map hT) x) (.nx<|sR T e (.own<|(acc++hs).map hT) y))\/(∃e m,Ww T f a=(none,e)/\Wv X hdC.1 hdC.2 m (sR T a (.own<|acc.map hT) x) (.rt<|Nj (none,e))):=by
 have test:∀a(H x:Sl),Vr X (sR T a H x) hdC.1 (decide<|bw T a∈kD):=λa H x=>iy t (aB t c1 (ac (aa t 0)<|ac (aa t 1) af) ⟨T,a,rfl,rfl⟩) (aC<|ac Vo<|ac Vo<|ac Vo af) (de<|dF<|ok.c a) (cL _) (by decide) (by rw[LN];exact jW _ _);intro f;induction f with
 |zero=>exactλa acc x hf ha=>.inl ⟨[],a,0,x,rfl,by rw[aX];exact .stop<|Vr.eq (test a _ x)<|by rw[qZ<|by lia];rfl⟩
 |succ f ih=>
  intro a acc x hf ha;unfold Ww;by_cases q:bw T a∈kD;have al:=Ct q;rw[ax q];have Zc:=Vr.eq (test a (.own<|acc.map hT) x)<|ar q;have hz:(acc.map hT).length<sizeLine:=lC (by rw[ai];lia);have mk1:∀{U:cE},U[0]?=some (.val<|.lst<|ay T)->U[1]?=some (.val<|.int a)->∀{p1 p2 p3:Pos},Vp X U (.Subscript (.Name "_law_marks_here" p1) (.Name "_law_at" p2) p3) (.str<|S<|bw T a):=λ{U}h1 h2{p1 p2 p3}=>br (Vp.ql<|aa t 0 h1) (aa t 1 h2)<|mq al;by_cases q2:bw T a=gS;rw[ax q2];have e1:(1:Int)+(if(!decide (bw T a=gS))then 1 else 0)=1:=by rw[q2];decide
  have step:Vt X (sR T a (.own<|acc.map hT) x) hdC.2 (.nx<|sR T (a+1) (.own<|(acc++[[gS]]).map hT)<|.val<|.int 1):=by refine au (bg t 3<|Vp.eq (bB ah<|oN t bi<|EA t (mk1 rfl rfl) Vo (ok.c a) AW)<|aL D.int e1)<|au (gz t 2 rfl (Vp.eq (jr t bt<|VD.toQ<|fZ (Vp.ql<|aa t 0 rfl) (c9<|aa t 1 rfl)<|c9<|Vp.eq (bB (aa t 1 rfl)<|aa t 3 rfl)<|aL D.int<|Bu a) (show D.tup _=hT [gS]by rw[Ku<|by lia,U5 al,q2];rfl)) hz)<|au (cj (Vr.eq (fN (v:=false) (Vr.eq (dM (aa t 3 rfl) ah) rfl) λz=>nomatch z) rfl) bQ)<|az<|VN.eq (bg t 1<|Vp.eq (bB (aa t 1 rfl)<|aa t 3 rfl)<|aL D.int<|Bu a) ?_;rw[aE];rfl
  rcases ih (a+1) (acc++[[gS]]) (.val<|.int 1) (by lia) (by simp;lia)with⟨hs,e,m,y,h3,h4⟩ |⟨e,m,h3,h4⟩;exact .inl ⟨[gS]::hs,e,m+1,y,by rw[h3],.step Zc step<|by rw[aO]at h4;exact h4⟩;exact .inr ⟨e,m+1,by rw[h3],.step Zc step h4⟩;rw[av q2];have e1:(1:Int)+(if(!decide (bw T a=gS))then 1 else 0)=2:=by rw[aj q2];decide
  have e2:a+2=((a+2:Nat):Int):=by lia
  have zCY:VN X (sR T a (.own<|acc.map hT) x) (match hdC.2 with |st::_=>st |[]=>.Pass ⟨0,0,0,0⟩) (.nx<|sR T a (.own<|acc.map hT)<|.val<|.int 2):=bg t 3<|Vp.eq (bB ah<|oN t bi<|EA t (mk1 rfl rfl) Vo (ok.c a) AW)<|aL D.int e1;by_cases q3:bw T (a+1)∈y0;have al2:=Ct q3;rw[ax q3];have step:Vt X (sR T a (.own<|acc.map hT) x) hdC.2 (.nx<|sR T (a+2) (.own<|(acc++[[bw T a,bw T<|a+1]]).map hT)<|.val<|.int 2):=by refine au zCY<|au (gz t 2 rfl (Vp.eq (jr t bt<|VD.toQ<|fZ (Vp.ql<|aa t 0) (c9<|aa t 1)<|c9<|Vp.eq (bB (aa t 1)<|aa t 3)<|aL D.int e2) (show D.tup _=hT [bw T a,bw T<|a+1]by rw[Ku<|by lia,U4 al2];rfl)) hz)<|au (cj (Vr.eq (fN (Vr.eq (dM (aa t 3) ah) rfl) λ_=>rC t (aB t c1 (ac (aa t 0)<|ac (Vp.eq (bB (aa t 1) ah)<|aL D.int<|Bu a) af) ⟨T,a+1,rfl,rfl⟩) (aC<|ac Vo<|ac Vo af) (ok.c<|a+1) Ie)<|by rw[ar q3];rfl) bQ)<|az<|VN.eq (bg t 1<|Vp.eq (bB (aa t 1)<|aa t 3)<|aL D.int e2) ?_;rw[aE];rfl
  rcases ih (a+2) (acc++[[bw T a,bw T<|a+1]]) (.val<|.int 2) (by lia) (by simp;lia)with⟨hs,e,m,y,h3,h4⟩ |⟨e,m,h3,h4⟩;exact .inl ⟨_::hs,e,m+1,y,by rw[h3],.step Zc step<|by rw[aO]at h4;exact h4⟩;exact .inr ⟨e,m+1,by rw[h3],.step Zc step h4⟩;rw[av q3];refine .inr ⟨a,0,rfl,.ret Zc<|au zCY<|au (gz t 2 rfl (jr t bt<|VD.toQ<|fZ (Vp.ql<|aa t 0) (c9<|aa t 1)<|c9<|Vp.eq (bB (aa t 1)<|aa t 3)<|aL D.int e2) hz)<|dC<|dA (Vr.eq (fN (Vr.eq (dM (aa t 3) ah) rfl) λ_=>rC t (aB t c1 (ac (aa t 0)<|ac (Vp.eq (bB (aa t 1) ah)<|aL D.int<|Bu a) af) ⟨T,a+1,rfl,rfl⟩) (aC<|ac Vo<|ac Vo af) (ok.c<|a+1) Ie)<|by rw[aj q3];rfl)<|az<|bj<|aC<|ac eJ<|ac (aa t 1) af⟩;rw[av q];exact .inl ⟨[],a,0,x,rfl,by rw[aX];exact .stop<|Vr.eq (test a _ x)<|aj q⟩
def Ij(s:Sy)(hs:List TK):hs.reverse.foldl (λs h=>Sy.pre h s) s=uK hs s:=by unfold uK;rw[List.foldl_reverse]
def IE{X:Cx}[WR X](t:At X iO (aq du)){T:TK}{a:Nat}{hs:List TK}(hh:∀h∈hs,HdO h)(o:Option Sy)(en:Nat)(x c d e f:Sl):Vt X [.val<|.lst<|ay T,.val<|.int a,.own<|hs.map hT,x,.val<|OB o,.val<|.int en,c,d,e,f,.un] ((aW du).drop 4) (.rt<|Nj (match o with |some s=>(some<|uK hs s,en) |none=>(none,a))):=by
 cases o with
 |none=>exact dC<|dA (Vr.eq (eV<|aa t 4) rfl)<|az<|bj<|aC<|ac eJ<|ac (aa t 1) af
 |some s=>
  refine au (cj (Vr.eq (eV<|aa t 4)<|xE s) bQ)<|au (W1:=[.val<|.lst<|ay T,.val<|.int a,.own<|hs.map hT,x,.val<|Au<|uK hs s,.val<|.int en,c,d,e,f,.un]) (mC t (qz<|VD.V5<|Gr (lT t 2 rfl)<|kF ah)<|VU.Wf (λj=>[.val<|.lst<|ay T,.val<|.int a,.own<|hs.map hT,x,.val<|Au<|(hs.reverse.take j).foldl (λs h=>Sy.pre h s) s,.val<|.int en,c,d,e,f,.un]) (λj y ej=>?_) rfl ?_) (az<|bj<|aC<|ac (aa t 4)<|ac (aa t 5) af);rw[<-KS,List.getElem?_map]at ej;cases e2:hs.reverse[j]? with
  |none=>rw[e2]at ej;cases ej
  |some h=>
   rw[e2]at ej;cases ej;have hm:=hh h<|pD.mp<|List.mem_of_getElem? e2;have ne:ay h≠[]:=by rcases hm with rfl |⟨w,l,rfl,_⟩;exactλz=>nomatch z;exactλz=>nomatch z
   have hl:(ay h).length<=2:=by rcases hm with rfl |⟨w,l,rfl,_⟩;decide;show 2<=2;decide
   refine⟨_,bq t 10,Vt.weak (az<|bg t 4<|MC (aa t 10 rfl) (aC<|ac (aa t 4 rfl) af) ne (λz=>nomatch z)<|aJ (show _+1<=100 by lia)<|by decide) ?_⟩;rw[show hs.reverse.take (j+1)=hs.reverse.take j++[h]by rw[jF,e2];rfl,List.foldl_append];exact .keep<|.keep<|.keep<|.keep<|.keep<|.keep<|.keep<|.keep<|.keep<|.keep<|.forget .nil
  rw[<-KS,ai,bW,Ij]
def Ag(h:cG P w K mg base k iO du X)(Vw:mg "len"=none)(Wl:mg "int"=none)(VQ:mg "tuple"=none)(c1:EV.Callee X "_law_mark" eY)(c2:EV.Callee X "_law_pair" (LP n))(c3:EV.Callee X "_law_tree_sum" (LC g 21)):Go X iO du (LY<|n+1):=by
 rintro ds d ⟨T,a,rfl,ok,hb,hp,hd,rfl⟩;have t:=h.at';haveI:=h.VR;have b1:=h.bt Vw;have b2:=h.bt Wl;have b3:=h.bt VQ;show Vt X (sR T a .un .un) _ (.rt<|Nj<|Et (gY T n) T a);refine au (jl t 2<|bK af) ?_;show Vt X (sR T a (.own<|([]:List TK).map hT) .un) _ _;unfold Et;rcases O8 t b2 b3 c1 ok hb.2 T.length a [] .un (by lia) (by simp)with⟨hs,a1,m,y,h3,h4⟩ |⟨e,m,h3,h4⟩;rw[h3];rw[yw]at h4;have A:=mL _ _ _ _ _ h3;refine au (gp t ⟨m,h4⟩) ?_;dsimp only;refine ip (Vr.eq (gf (eC t b1<|lT t 2 rfl) ah)<|by rw[ai]) (λv=>az<|bj<|Vp.eq (aC<|ac eJ<|ac (aa t 1) af) ?_) λv=>?_;rw[ax<|by have:=cg v;lia];rfl;rw[av<|by have:=gu v;lia];have hp1:dp T a1=0:=by rw[A.WQ,hp]
 have hd1:db T a1+((n+1:Nat):Int)=21:=by rw[A.XO];exact hd
 unfold AL;by_cases q:bw T a1=[91];rw[ax q];have hl:a1<T.length:=fU (by rw[q];simp);cases e2:xI (gY T n) T (a1+1)with|mk o en=>refine au (dA (Vr.eq (iz t (aB t c1 (ac (aa t 0)<|ac (aa t 1) af) ⟨T,a1,rfl,rfl⟩) Vo (ok.c a1) wN)<|ar q)<|az<|iE t (d:=Nj (o,en)) (aB t c2 (ac (aa t 0)<|ac (Vp.eq (bB (aa t 1) ah)<|aL D.int<|Bu a1) af) ⟨T,a1+1,rfl,ok,hb,by rw[fv hl (by rw[q];simp)<|by rw[q];simp,hp1],by rw[BK q];lia,by rw[e2]⟩)<|gs t<|bA (bq t 4)<|bA (bq t 5) e9) ?_;have:=IE t (T:=T) (a:=a1) A.lv o en y .un .un .un .un;cases o with|none=>exact this|some s=>exact this
 rw[av q];unfold rO;have tq:Vr X (sR T a1 (.own<|hs.map hT) y) (match(aW du).drop 3 with |.If c _ _ _::_=>c |_=>.Constant .none 0 ⟨0,0,0,0⟩) false:=Vr.eq (iz t (aB t c1 (ac (aa t 0)<|ac (aa t 1) af) ⟨T,a1,rfl,rfl⟩) Vo (ok.c a1) wN)<|aj q;cases e2:g T 21 a1 with
 |mk o m1=>
  have Yu:LC g 21 [.lst<|ay T,.int a1] (.tup [sj o,.int m1]):=⟨T,a1,rfl,ok,by lia,by rw[e2];rfl⟩;cases o with
  |none=>refine dC<|cj tq<|au (iE t (aB t c3 (ac (aa t 0 rfl)<|ac (aa t 1 rfl) af) Yu)<|gs t<|bA (bq t 6)<|bA (bq t 7) e9)<|au (bg t 8<|aB t c1 (ac (aa t 0 rfl)<|ac (aa t 7 rfl) af) ⟨T,m1,rfl,rfl⟩)<|dC<|dA (Vr.eq (eM (v:=false) (Vr.eq (eV<|aa t 6 rfl) rfl) λz=>nomatch z) rfl)<|az<|bj<|aC<|ac eJ<|ac (aa t 1 rfl) af
  |some t1=>
   have B:=fV _ _ _ _ _ e2;dsimp only;by_cases q2:bw T m1∈V7;rw[ax q2];cases e3:g T 21 (m1+1)with|mk o2 e5=>have zEJ:LC g 21 [.lst<|ay T,.int ((m1+1:Nat):Int)] (.tup [sj o2,.int e5]):=⟨T,m1+1,rfl,ok,by rw[(sr q2 GC).2.1,B.WQ];lia,by rw[e3];rfl⟩;cases o2 with|none=>refine dC (cj tq<|au (iE t (aB t c3 (ac (aa t 0)<|ac (aa t 1) af) Yu)<|gs t<|bA (bq t 6)<|bA (bq t 7) e9)<|au (bg t 8<|aB t c1 (ac (aa t 0)<|ac (aa t 7) af) ⟨T,m1,rfl,rfl⟩)<|au (cj (Vr.eq (eM (Vr.eq (eV<|aa t 6)<|mZ t1) λ_=>rC t (aa t 8) (aC<|ac Vo<|ac Vo<|ac Vo<|ac Vo<|ac Vo<|ac Vo af) (ok.c m1) GD)<|by rw[ar q2];rfl) bQ)<|au (iE t (aB t c3 (ac (aa t 0)<|ac (Vp.eq (bB (aa t 7) ah)<|aL D.int<|Bu m1) af) zEJ)<|gs t<|bA (bq t 9)<|bA (bq t 5) e9)<|au (bg t 4<|aC<|ac Vo<|ac (aa t 6)<|ac (aa t 9)<|ac (aa t 8) af)<|dC<|dA (Vr.eq (eV<|aa t 9) rfl)<|az<|bj<|aC<|ac eJ<|ac (aa t 1) af)|some t2=>dsimp only;exact au (cj tq<|au (iE t (aB t c3 (ac (aa t 0)<|ac (aa t 1) af) Yu)<|gs t<|bA (bq t 6)<|bA (bq t 7) e9)<|au (bg t 8<|aB t c1 (ac (aa t 0)<|ac (aa t 7) af) ⟨T,m1,rfl,rfl⟩)<|au (cj (Vr.eq (eM (Vr.eq (eV<|aa t 6)<|mZ t1) λ_=>rC t (aa t 8) (aC<|ac Vo<|ac Vo<|ac Vo<|ac Vo<|ac Vo<|ac Vo af) (ok.c m1) GD)<|by rw[ar q2];rfl) bQ)<|au (iE t (aB t c3 (ac (aa t 0)<|ac (Vp.eq (bB (aa t 7) ah)<|aL D.int<|Bu m1) af) zEJ)<|gs t<|bA (bq t 9)<|bA (bq t 5) e9)<|au (bg t 4<|aC<|ac Vo<|ac (aa t 6)<|ac (aa t 9)<|ac (aa t 8) af)<|az<|cj (Vr.eq (eV<|aa t 9)<|mZ t2) bQ)<|IE t A.lv (some<|.is t1 t2<|bw T m1) e5 y _ _ _ _
   rw[av q2];refine dC<|cj tq<|au (iE t (aB t c3 (ac (aa t 0)<|ac (aa t 1) af) Yu)<|gs t<|bA (bq t 6)<|bA (bq t 7) e9)<|au (bg t 8<|aB t c1 (ac (aa t 0)<|ac (aa t 7) af) ⟨T,m1,rfl,rfl⟩)<|dC<|dA (Vr.eq (eM (Vr.eq (eV<|aa t 6)<|mZ t1) λ_=>rC t (aa t 8) (aC<|ac Vo<|ac Vo<|ac Vo<|ac Vo<|ac Vo<|ac Vo af) (ok.c m1) GD)<|by rw[aj q2];rfl)<|az<|bj<|aC<|ac eJ<|ac (aa t 1) af
 rw[h3];exact dC<|gp t ⟨m,h4⟩
def VX.Zg{α:Type}(gd fd:α->D)(b:α->Bool)(R:α->cE):∀(xs:List α)(U:cE),(∀x∈xs,Xz X U tg (gd x)<|R x)->(∀x∈xs,∀y∈xs,Xz X (R x) tg (gd y)<|R y)->(∀x∈xs,Vr X (R x) c<|b x)->(∀x∈xs,b x=true->Vp X (R x) elt (fd x))->VX X tg elt [c] (xs.map gd) U ((xs.filter b).map fd)|[],U,_,_,_,_=>.nil|x::xs,U,h1,h2,h3,h4=>by have ih:=VX.Zg gd fd b R xs (R x) (λe he=>h2 x (by simp) e<|by simp[he]) (λa ha e he=>h2 a (by simp[ha]) e<|by simp[he]) (λe he=>h3 e<|by simp[he]) λe he=>h4 e (by simp[he]);have t3:=h3 x (by simp);rw[bp,kz];cases q:b x with|true=>rw[q]at t3;rw[ax rfl,bp];exact .take (h1 x<|by simp) (.inr ⟨c,rfl,t3⟩) (h4 x (by simp) q) ih|false=>rw[q]at t3;rw[av aA];exact .skip (h1 x<|by simp) rfl t3 ih
def HY(T:TK):TK:=T.filter λu=>lo<|u.headD 0
def Lv(u:bI):Bool:=rM u||decide (u∈AX)
def Lu(u:bI):Lv u=true↔WD u:=by unfold Lv WD;rw[yy,uf,E9]
def v4(cs:bI)(T:TK):Option Sy:=if(HY T).all Lv=false then none else if 2000<cs.length\/20<Jz [40] [41] T T.length\/20<Jz [91] [93] T T.length then none else match gY T 21 0 with
  |(some y,e)=>if e=T.length then some y else none
  |(none,_)=>none
def tz(ds:aM)(d:D):Prop:=∃(cs:bI)(T:TK),ds=[.str<|S cs]/\Mk cs T/\(∀c∈cs,c<128)/\cs.length<=20000/\d=OB (v4 cs T)
def Bq:∀ds d,tz ds d->ds.length=1:=by rintro _ _ ⟨_,_,rfl,_⟩;rfl
def Mk.lt(h:Mk cs T)(ha:∀c∈cs,c<128):∀u∈T,∀c∈u,c<128:=λu hu c hc=>ha c<|(h.mem u hu).2.1 c hc
def Qv:([D.str "x",.str "y",.str "not",.str "and",.str "or",.str "some",.str "all"]:aM)=ay AX:=by rw[NS,SI,show("not":Str)=S [110,111,116]by decide,show("and":Str)=S [97,110,100]by decide,show("or":Str)=S [111,114]by decide,show("some":Str)=S [115,111,109,101]by decide,show("all":Str)=S [97,108,108]by decide];rfl
def Ps{T:TK}(h:∀j,j<=T.length->dq o c T j<=20)(a:Nat):dq o c T a<=20:=by
 by_cases q:a<=T.length;exact h a q;have e:T.take a=T.take T.length:=by rw[dO<|by lia,bW]
 unfold dq;rw[e];exact h _<|ao _
theorem EU(h:cG P w K mg base k tu oG X)(Xk:mg "all"=none)(Vw:mg "len"=none)(c1:EV.Callee X "_law_marks" pA)(c4:EV.Callee X "_law_saying" (LY 21))(c3:EV.Callee X "_law_open" qR)(c2:EV.Callee X "_law_is_number" im):Go X tu oG tz:=by
 rintro ds d ⟨cs,T,rfl,hm,ha,hz,rfl⟩;have t:=h.at';haveI:=h.VR;have b1:=h.bt Vw;have b2:=h.bt Xk;have lt:=hm.lt ha;have hT:T.length<=20000:=by have:=hm.nb;have:=ND cs;lia
 have hl:∀u∈T,u.length<=20000:=λu hu=>by have:=(hm.mem u hu).2.2;lia
 have cw:PyData.canLayAll0 (VA<|ay AX)=true:=qX (by decide);have rm:∀u∈HY T,u∈T:=λu hu=>(List.mem_filter.mp hu).1;have rl:(HY T).length<=20000:=aJ (oq _ _) hT;refine au (bg t 1<|aB t c1 (ac (aa t 0) af) ⟨cs,T,rfl,hm,ha,hz,rfl⟩)<|au (bg t 2<|Vp.eq (VD.V5<|bK<|ac Vo<|ac Vo<|ac Vo<|ac Vo<|ac Vo<|ac Vo<|ac Vo af)<|aL D.lst Qv) ?_;refine au (Ay (rs:=ay<|HY T) t 3 ["_law_text_here","_law_marks_here","_law_words","_law_runs","_law_found","_law_end","_law_mark_here"] (Hy rfl) (qz<|aa t 1) (by rw[aQ];exact lC<|by lia) λX' cx=>?_)<|fJ 3 rfl ?_;exact VX.Zg (λu=>D.str<|S u) (λu=>D.str<|S u) (λu=>lo<|u.headD 0) (λu=>[.val<|.str<|S cs,.val<|.lst<|ay T,.val<|.lst<|ay AX,.un,.un,.un,.val<|.str<|S u]) T _ (λx hx=>cD cx.at' 6) (λx hx y hy=>cD cx.at' 6) (λu hu=>by
  obtain⟨c,u',rfl⟩:∃c u',u=c::u':=by cases u with|nil=>exact absurd rfl (hm.mem _ hu).1|cons c cs=>exact⟨c,cs,rfl⟩
  exact kG (c7 (aa cx.at' 6 rfl) ah (Wh (hl _ hu)) (by rw[eQ];exact dJ rfl)) Vo (uh c (lt _ hu c (by simp)))) λu hu _=>aa cx.at' 6 rfl
 have eal:((HY T).map Lv).all id=(HY T).all Lv:=by rw[yr];rfl
 refine ip (lU<|Vr.eq (fM<|xP t b2<|VD.toQ<|VD.eq (jt (rs:=(HY T).map λu=>D.bl<|Lv u) t ["_law_text_here","_law_marks_here","_law_words","_law_runs","_law_found","_law_end","_law_mark_here"] (Hy rfl) (qz<|aa t 3) (by rw[aQ];exact lC<|by lia) λX' cx=>?_)<|by rw[dP];rfl) eal) (λv=>az<|bj<|Vp.eq eJ ?_) λv=>?_;exact VX.gen (λu=>D.str<|S u) (λu=>D.bl<|Lv u) (λu=>[.val<|.str<|S cs,.val<|.lst<|ay T,.val<|.lst<|ay AX,.val<|.lst<|ay<|HY T,.un,.un,.val<|.str<|S u]) (HY T) _ (λx hx=>cD cx.at' 6) (λx hx y hy=>cD cx.at' 6) λu hu=>Ey (aB cx.at' (cx.callee c2) (ac (aa cx.at' 6 rfl) af) ⟨u,rfl,lt u<|rm u hu,hl u<|rm u hu,rfl⟩) λ_=>Pn cx.at' (aa cx.at' 6 rfl) (Vp.ql<|aa cx.at' 2 rfl) (de<|dF<|lt u<|rm u hu) (cL _) cw<|jW _ _;unfold v4;rw[ax<|by simpa using v];rfl;have v1:(HY T).all Lv≠false:=by simpa using v
 refine ip (u:=decide (2000<cs.length)||(decide (20<Jz [40] [41] T T.length)||decide (20<Jz [91] [93] T T.length))) (Vr.eq (BB (gf (dX t b1 (aa t 0)<|Wh hz) ah) (λ_=>gf (aB t c3 (ac (aa t 1)<|ac Vo<|ac Vo af) ⟨T,[40],[41],by rw[SK,SL],lt,by decide,by decide,rfl⟩) ah) λ_ _=>gf (aB t c3 (ac (aa t 1)<|ac Vo<|ac Vo af) ⟨T,[91],[93],by rw[wN,Ia],lt,by decide,by decide,rfl⟩) ah) ?_) (λv=>az<|bj<|Vp.eq eJ ?_) λv=>?_;rw[ce];congr 1;simp;lia;unfold v4;rw[av v1,ax<|by simpa[or_assoc]using v];rfl;have v2:¬(2000<cs.length\/20<Jz [40] [41] T T.length\/20<Jz [91] [93] T T.length):=by intro z;simp at v;rcases z with z |z |z;lia;have:=v.2.1;lia;have:=v.2.2;lia
 have ok:Y9 T:=⟨lt,hl,(sG [40] [41] T 20 (by decide) T.length).mp<|by lia⟩;have okb:∀a,db T a<=20:=Ps<|(sG [91] [93] T 20 (by decide) T.length).mp (by lia);refine au (iE t (aB t c4 (ac (aa t 1)<|ac ah af) ⟨T,0,rfl,ok,⟨okb,hT⟩,rfl,rfl,rfl⟩)<|gs t<|bA (bq t 4)<|bA (bq t 5) e9) ?_;unfold v4;rw[av v1,av v2];show Vt X [.val<|.str<|S cs,.val<|.lst<|ay T,.val<|.lst<|ay AX,.val<|.lst<|ay<|HY T,.val<|OB (gY T 21 0).1,.val<|.int (gY T 21 0).2] _ _;cases gY T 21 0 with
 |mk o e=>
  cases o with
  |none=>exact ip (Vr.eq (eM (v:=false) (Vr.eq (eV<|aa t 4 rfl) rfl) λz=>nomatch z) rfl) (λ_=>az<|bj eJ) λz=>nomatch z
  |some y=>refine ip (u:=!decide (e=T.length)) (Vr.eq (eM (Vr.eq (eV<|aa t 4)<|xE y) λ_=>vc (aa t 5)<|eC t b1<|Vp.ql<|aa t 1) ?_) (λq=>az<|bj<|Vp.eq eJ ?_) λq=>az<|bj<|Vp.eq (aa t 4) ?_;rw[gj,aQ];congr 1;simp only[bG];lia;show _=OB (if e=T.length then _ else _);rw[av<|by simpa using q];rfl;show _=OB (if e=T.length then _ else _);rw[ax<|by simpa using q]
def Dx{y:Sy}(h:gY T 21 0=(some y,T.length)):∀u∈T,IC u:=λu hu=>by obtain⟨i,hi,rfl⟩:=rK hu;have:=(uF T 21 0 y T.length h).good i (bO _) hi;unfold bw at this;rwa[List.getD_eq_getElem?_getD,List.getElem?_eq_getElem hi]at this
def Mf{T:TK}(h:∀u∈T,IC u):(HY T).all Lv=true:=List.all_eq_true.mpr λu hu=>by
 let⟨h1,h2⟩:=List.mem_filter.mp hu;rcases h u h1 with z |z;exact(Lu u).mpr z;have:∀u∈Qc,lo (u.headD 0)=false:=by decide
 rw[this u z]at h2;cases h2
def Da{T:TK}{y:Sy}(h:v4 cs T=some y):cs.length<=2000/\pj T/\gY T 21 0=(some y,T.length):=by unfold v4 at h;split at h;cases h;split at h;cases h;rename_i q;split at h;rename_i y' e eg;split at h;rename_i ee;subst ee;injection h with h;subst h;exact⟨by lia,⟨(sG [40] [41] T 20 (by decide) T.length).mp<|by lia,(sG [91] [93] T 20 (by decide) T.length).mp<|by lia⟩,eg⟩;cases h;cases h
def Ko{T:TK}(h:v4 cs T=none)(hl:cs.length<=2000)(hd:pj T)(y:Sy):gY T 21 0≠(some y,T.length):=λe=>by unfold v4 at h;rw[av<|by rw[Mf<|Dx e];simp,av<|by have:=(sG [40] [41] T 20 (by decide) T.length).mpr hd.1;have:=(sG [91] [93] T 20 (by decide) T.length).mpr hd.2;lia,e]at h;dsimp only at h;rw[ax rfl]at h;cases h
def LM.ch(h:LM p cs ts):(ts.map List.length).sum<=(p.filter λc=>decide<|c≠32).length:=by
 cases h with
 |sp=>simp
 |run h h2 _=>
  have:p.filter (λc=>decide<|c≠32)=p:=List.filter_eq_self.mpr λc hc=>by have:=h2 c hc;by_cases z:c=32;rw[z]at this;exact absurd this (by decide);simpa using z
  rw[this];simp
 |@dbl c _ hc=>
  have:c≠32:=by lia
  simp[kz,this]
 |@one c _ _ hc _=>simp[kz,hc]
def LM.WT(h:LM p cs ts):(ts.map pO).sum<=(p.filter WT).length:=by
 cases h with
 |sp=>simp|run h h2 _=>simp[pO]
 |dbl hc=>simp[pO]|one _ hc _=>simp[pO]
def Mk.WT(h:Mk cs T):hP T T.length<=(cs.filter My.WT).length:=by unfold hP;rw[bW];induction h with|nil=>simp|turn l _ ih=>have:=l.WT;rw[tG,ag,aE,df];lia
def Mk.ch(h:Mk cs T):cP T T.length<=(cs.filter λc=>decide<|c≠32).length:=by unfold cP;rw[bW];induction h with|nil=>simp|turn l _ ih=>have:=l.ch;rw[tG,ag,aE,df];lia
def Pr{cs:bI}(ha:∀c∈cs,c<128)(hl:cs.length<=20000):∃T,Mk cs T/\((v4 cs T=none/\fT [.str<|S cs])\/∃y,v4 cs T=some y/\KL y/\2*dY y<=cP T T.length+2/\nY y<=hP T T.length+1/\(Qk y->∃d,TD y d/\iP [.str<|S cs] d)):=by
 rcases Nr cs.length cs (ao _)with⟨T,hT⟩ |hb;have hm:=hT.mk ha;refine⟨T,hm,?_⟩;cases e:v4 cs T with|none=>refine .inl ⟨rfl,.str<|S cs,rfl,?_⟩;by_cases q:2000<cs.length;exact .inl<|.inr ⟨cs,rfl,ha,hl,.inl q⟩;by_cases q2:pj T;exact .inr ⟨cs,T,rfl,hT,ha,by lia,q2,Ko e (by lia) q2⟩;exact .inl (.inr ⟨cs,rfl,ha,hl,.inr<|.inr ⟨T,hT,q2⟩⟩)|some y=>let⟨h1,h2,h3⟩:=Da e;have A:=uF T 21 0 y T.length h3;refine .inr ⟨y,rfl,A.lv,by have:=A.deep;lia,by have:=A.nest;lia,λhb=>?_⟩;let⟨d,td,r⟩:=Ly y A.lv hb;exact⟨d,td,cs,T,y,rfl,hT,ha,h1,h2,h3,r []⟩
 let⟨T,hm,u,hu,hn⟩:=hb.mk ha;refine⟨T,hm,.inl ⟨?_,.str<|S cs,rfl,.inl<|.inr ⟨cs,rfl,ha,hl,.inr<|.inl hb⟩⟩⟩;cases e:v4 cs T with|none=>rfl|some y=>exact absurd (Dx (Da e).2.2 u hu) hn
def Cy:Sy->Bool
 |.is a b _=>decide (max (dD<|cl a).1 (dD<|cl b).1<9)&&decide (max (dD<|cl a).2 (dD<|cl b).2<10 ^ 29)|.pre _ s=>Cy s
 |.two _ a b=>Cy a&&Cy b
theorem Fu:∀y,Cy y=true->Qk y
 |.is a b w,h=>by have:=Bool.and_eq_true_iff.mp h;have h1:=cg this.1;have h2:=cg this.2;exact⟨⟨by lia,by lia⟩,⟨by lia,by lia⟩⟩|.pre h s,q=>Fu s q
 |.two w a b,h=>by have:=Bool.and_eq_true_iff.mp h;exact⟨Fu a this.1,Fu b this.2⟩
def KW:Sy->D
 |.is _ _ w=>cZ (Oh w)|.pre h s=>.tup<|ay h++[KW s]
 |.two w a b=>.tup [.str<|S w,KW a,KW b]
def SC(n:Nat)(ds:aM)(d:D):Prop:=∃y:Sy,ds=[Au y]/\KL y/\dY y<=n/\dY y<=520/\d=.bl (Cy y)
def SC.len:∀ds d,SC n ds d->ds.length=1:=by rintro _ _ ⟨_,rfl,_⟩;rfl
def PD(y:Sy)(d:D):Prop:=d=Au y\/TD y d
def HC(n:Nat)(ds:aM)(r:D):Prop:=∃(y:Sy)(d:D),ds=[d]/\KL y/\PD y d/\nY y<=n/\r=KW y
def HC.len:∀ds d,HC n ds d->ds.length=1:=by rintro _ _ ⟨_,_,rfl,_⟩;rfl
def U6:∀y,1<=dY y
 |.is _ _ _=>dN (bO _)|.pre _ _=>dN<|bO _
 |.two _ _ _=>dN<|bO _
def U0:∀y,1<=nY y
 |.is _ _ _=>ao _|.pre _ _=>dN<|bO _
 |.two _ _ _=>dN<|bO _
def PD.tup{y:Sy}(h:PD y d):F8 d=true/\Pk d=true:=by
 rcases h with rfl |h;cases y<;>exact⟨rfl,rfl⟩;cases y with
 |is a b w=>obtain⟨B,rfl⟩:=h;exact⟨rfl,rfl⟩
 |pre x s=>obtain⟨d',_,rfl⟩:=h;exact⟨rfl,rfl⟩
 |two w a b=>obtain⟨d1,d2,_,_,rfl⟩:=h;exact⟨rfl,rfl⟩
def PD.pre{s:Sy}(q:PD (.pre h s) d):∃d',PD s d'/\d=.tup (ay h++[d']):=by rcases q with rfl |⟨d',t,rfl⟩;exact⟨Au s,.inl rfl,rfl⟩;exact⟨d',.inr t,rfl⟩
def PD.two{a b:Sy}(q:PD (.two w a b) d):∃d1 d2,PD a d1/\PD b d2/\d=.tup [.str<|S w,d1,d2]:=by rcases q with rfl |⟨d1,d2,t1,t2,rfl⟩;exact⟨Au a,Au b,.inl rfl,.inl rfl,rfl⟩;exact⟨d1,d2,.inr t1,.inr t2,rfl⟩
abbrev Pt:=bI ⊕ (D×D)
def pg:Pt->D|.inl u=>.str (S u)|.inr p=>p.1
def pf:Pt->D|.inl u=>.str (S u)|.inr p=>p.2
def Qs:("is":Str)=S [105,115]:=rfl
def AI{u:bI}(h:u∈kD\/u∈Xh):u≠[105,115]/\∀c∈u,c<128:=by rcases h with h |h;exact(show∀u∈kD,u≠[105,115]/\∀c∈u,c<128 by decide) u h;exact(show∀u∈Xh,u≠[105,115]/\∀c∈u,c<128 by decide) u h
def JZ:gS∈kD:=by decide
def OZ:List (Str×D):=XN.map λp=>(S p.1,cZ p.2)
theorem JJ(w:bI):∀l:List (bI×bR),Nu (l.map λp=>(S p.1,cZ p.2)) (S w)=((l.find? λp=>decide<|p.1=w).map (·.2)).map cZ|[]=>rfl|p::l=>by have ih:=JJ w l;unfold Nu at ih ⊢;rw[bp,List.find?_cons,List.find?_cons,fB];cases decide (p.1=w)with|true=>rfl|false=>exact ih
def TL{w:bI}(h:w∈V7):Nu OZ (S w)=some (cZ<|Oh w):=by unfold OZ;rw[JJ,(show∀w∈V7,((XN.find? λp=>decide<|p.1=w).map (·.2))=some (Oh w)by decide) w h];rfl
theorem B9(h:cG P w K mg base k pc jn X)(Xk:mg "all"=none)(Xj:mg "max"=none)(VB:mg "isinstance"=none)(VQ:mg "tuple"=none)(c1:EV.Callee X "_law_bounds" (BC n))(c2:EV.Callee X "_law_small" (SC n)):Go X pc jn (SC<|n+1):=by
 rintro ds d ⟨y,rfl,lv,hn,h2,rfl⟩;have t:=h.at';haveI:=h.VR;have b1:=h.bt Xj;have b2:=h.bt Xk;have p29:(10 ^ (29:Int).toNat)=((10 ^ 29:Nat):Int):=rfl;have bP:∀u(ps:List (bI ⊕ Sy)),(u∈kD\/u∈Xh)->Au y=.tup (.str (S u)::ps.map (Sum.elim (λv=>D.str<|S v) Au))->(∀s,Sum.inr s∈ps->SC n [Au s] (.bl<|Cy s))->ps.length<=2->Cy y=(ps.filter<|Sum.isRight).all (Sum.elim (λ_=>true) Cy)->Vt X [.val<|Au y,.un] (aW jn) (.rt<|.bl<|Cy y):=λu ps hu e hs hl es=>by
  rw[e];refine au (cj (Vr.eq (iz t (br (Vp.qt<|aa t 0) ah<|dJ rfl) Vo (AI hu).2 Qs)<|aj (AI hu).1) bQ)<|az<|bj<|Vp.eq (xP t b2<|VD.toQ<|VD.eq (jt (rs:=(ps.filter Sum.isRight).map λp=>D.bl<|Sum.elim (λ_=>true) Cy p) t ["_law_found","_law_bounds_here","_law_part"] (Hy rfl) (BH<|Vp.eq (MB (aa t 0) (c9 ah) eL)<|aL D.tup<|TZ _ _) (by rw[ai];exact lC<|by lia) λX' cx=>?_)<|by rw[dP];rfl) ?_;exact VX.Zg (Sum.elim (λv=>D.str<|S v) Au) (λp=>D.bl<|Sum.elim (λ_=>true) Cy p) Sum.isRight (λp=>[.val<|.tup<|.str (S u)::ps.map (Sum.elim (λv=>D.str<|S v) Au),.un,.val<|Sum.elim (λv=>D.str<|S v) Au p]) ps _ (λx hx=>cD cx.at' 2) (λx hx y hy=>cD cx.at' 2) (λx hx=>by
   cases x with|inl v=>exact Vr.eq (fM (uu cx.at' (kL (by rwa[cx.V3,h.V3])) (kL (by rwa[cx.V3,h.V3])) (aa cx.at' 2 rfl) rfl)) rfl|inr s=>have hp:=PD.tup (y:=s) (.inl rfl);exact Vr.eq (fM (uu cx.at' (kL (by rwa[cx.V3,h.V3])) (kL (by rwa[cx.V3,h.V3])) (aa cx.at' 2 rfl) hp.2)) hp.1) λx hx hb=>by
   cases x with
   |inl v=>cases hb
   |inr s=>exact aB cx.at' (cx.callee c2) (ac (aa cx.at' 2 rfl) af)<|hs s hx
  rw[es,yr];rfl
 cases y with
 |is a b w=>have Wi:max (dT<|cl a) (dT<|cl b)+1<=n+1:=hn;have h2':max (dT<|cl a) (dT<|cl b)+1<=520:=h2;show Vt X [.val<|.tup [.str "is",DJ<|cl a,DJ<|cl b,.str<|S w],.un] _ _;refine dC<|dA (Vr.eq (cK t (br (Vp.qt<|aa t 0) ah) Vo<|by decide) rfl)<|au (bg t 1<|VD.V5<|bK<|ac (aB t c1 (ac (br (Vp.qt<|aa t 0) ah) af) ⟨cl a,rfl,lv.1,by lia,by lia,rfl⟩)<|ac (aB t c1 (ac (br (Vp.qt<|aa t 0) ah) af) ⟨cl b,rfl,lv.2.1,by lia,by lia,rfl⟩) af)<|az<|bj<|Vp.eq (rq (NG (lc t b1 (br (Vp.qt<|br (Vp.ql<|aa t 1) ah rfl) ah)<|br (Vp.qt<|br (Vp.ql<|aa t 1) ah rfl) ah) ah) λ_=>NG (lc t b1 (br (Vp.qt<|br (Vp.ql<|aa t 1) ah rfl) ah)<|br (Vp.qt<|br (Vp.ql<|aa t 1) ah rfl) ah)<|Vp.eq (xL ah ah ⟨by decide,by decide,by decide⟩)<|aL D.int p29) ?_;unfold Cy;congr 2;simp only[bG];lia;simp only[bG];lia|pre x s=>have Wi:dY s+1<=n+1:=hn;have h2':dY s+1<=520:=h2;have hs:SC n [Au s] (.bl<|Cy s):=⟨s,rfl,lv.2,by lia,by lia,rfl⟩;rcases lv.1 with rfl |⟨u,l,rfl,h1,_,h3⟩;exact bP gS [.inr s] (.inl JZ) rfl (λs' q=>by simp at q;subst q;exact hs) (by simp) (by simp[Cy]);exact bP u [.inl l,.inr s] (.inl h1) rfl (λs' q=>by simp at q;subst q;exact hs) (by simp)<|by simp[Cy]
 |two u a b=>have Wi:max (dY a) (dY b)+1<=n+1:=hn;have h2':max (dY a) (dY b)+1<=520:=h2;refine bP u [.inr a,.inr b] (.inr lv.1) rfl (λs' q=>?_) (by simp) (by simp[Cy]);simp at q;rcases q with rfl |rfl;exact⟨s',rfl,lv.2.1,by lia,by lia,rfl⟩;exact⟨s',rfl,lv.2.2,by lia,by lia,rfl⟩
def Ca(h:cG P w K mg base k pe jo X)(VQ:mg "tuple"=none)(Vw:mg "len"=none)(VB:mg "isinstance"=none)(c2:EV.Callee X "_law_shape" (HC n)):Go X pe jo (HC<|n+1):=by
 rintro ds r ⟨y,d,rfl,lv,pd,hn,rfl⟩;have t:=h.at';haveI:=h.VR;have b1:=h.bt VQ;have b2:=h.bt Vw;have bP:∀u ps,(u∈kD\/u∈Xh)->(∀p,Sum.inr p∈ps->HC n [p.1] p.2/\F8 p.1=true/\Pk p.1=true)->ps.length<=2->Vt X [.val<|.tup<|(.inl u::ps).map pg,.un] (aW jo) (.rt<|.tup<|(.inl u::ps).map pf):=λu ps hu hs hl=>by
  refine au (cj (Vr.eq (iz t (br (Vp.qt<|aa t 0) ah<|dJ rfl) Vo (AI hu).2 Qs)<|aj (AI hu).1) bQ)<|az<|bj<|jr t b1<|VD.toQ (jt t ["_law_saying_here","_law_signs","_law_part"] (Hy rfl) (BH<|aa t 0) (by rw[ai];exact lC<|by simp;lia) λX' cx=>?_);exact VX.gen pg pf (λp=>[.val<|.tup<|(.inl u::ps).map pg,.un,.val<|pg p]) (.inl u::ps) _ (λx hx=>cD cx.at' 2) (λx hx y hy=>cD cx.at' 2) λx hx=>by
   cases x with
   |inl v=>exact sQ (Vr.eq (fM<|uu cx.at' (kL<|by rwa[cx.V3,h.V3]) (kL<|by rwa[cx.V3,h.V3]) (aa cx.at' 2 rfl) rfl) rfl)<|aa cx.at' 2 rfl
   |inr p=>
    have hm:Sum.inr p∈ps:=by simpa using hx
    obtain⟨q1,q2,q3⟩:=hs p hm;exact sP (Vr.eq (fM<|uu cx.at' (kL<|by rwa[cx.V3,h.V3]) (kL<|by rwa[cx.V3,h.V3]) (aa cx.at' 2 rfl) q3) q2)<|aB cx.at' (cx.callee c2) (ac (aa cx.at' 2 rfl) af) q1
 cases y with
 |is a b w=>
  have hw:=lv.2.2;have ek:([("<",cZ [-1]),("=",cZ [0]),(">",cZ [1]),("<=",cZ [-1,0]),(">=",cZ [0,1]),("!=",cZ [-1,1])]:List (Str×D))=OZ:=by rw[show("<":Str)=S [60]by decide,show("=":Str)=S [61]by decide,show(">":Str)=S [62]by decide,show("<=":Str)=S [60,61]by decide,show(">=":Str)=S [62,61]by decide,show("!=":Str)=S [33,61]by decide];rfl
  have nd:(([("<",cZ [-1]),("=",cZ [0]),(">",cZ [1]),("<=",cZ [-1,0]),(">=",cZ [0,1]),("!=",cZ [-1,1])]:List (Str×D)).map (·.1)).Nodup:=by decide
  rcases pd with rfl |⟨B,rfl⟩;show Vt X [.val<|.tup [.str "is",DJ<|cl a,DJ<|cl b,.str<|S w],.un] _ _;refine dC<|dA (Vr.eq (cK t (br (Vp.qt<|aa t 0 rfl) ah) Vo<|by decide) rfl)<|C7 (hρ:=by show 1<2;decide) t 1 (.cons Vo (aC<|ac (kF ah) af)<|.cons Vo (aC<|ac ah af)<|.cons Vo (aC<|ac ah af)<|.cons Vo (aC<|ac (kF ah)<|ac ah af)<|.cons Vo (aC<|ac ah<|ac ah af)<|.cons Vo (aC<|ac (kF ah)<|ac ah af) .nil) nd (λq=>Vr.eq (dM (eC t b2<|Vp.qt<|aa t 0 rfl) ah) rfl) (λ_=>⟨λq=>br (Vp.qt<|aa t 0 rfl) ah,?_⟩) λz=>nomatch z;exact(aL (λz=>Nu z<|S w) ek).trans<|TL hw;show Vt X [.val<|.tup [.str "is",bz B,cZ<|Oh w],.un] _ _;exact dC<|dA (Vr.eq (cK t (br (Vp.qt<|aa t 0 rfl) ah) Vo<|by decide) rfl)<|C7 (hρ:=by show 1<2;decide) (k:=S w) t 1 (.cons Vo (aC<|ac (kF ah) af)<|.cons Vo (aC<|ac ah af)<|.cons Vo (aC<|ac ah af)<|.cons Vo (aC<|ac (kF ah)<|ac ah af)<|.cons Vo (aC<|ac ah<|ac ah af)<|.cons Vo (aC<|ac (kF ah)<|ac ah af) .nil) nd (λq=>Vr.eq (dM (eC t b2<|Vp.qt<|aa t 0 rfl) ah) rfl) (λz=>nomatch z) λ_ q=>br (Vp.qt<|aa t 0 rfl) ah
 |pre x s=>obtain⟨d',pd',rfl⟩:=pd.pre;have Wi:nY s+1<=n+1:=hn;have hs:HC n [d'] (KW s)/\F8 d'=true/\Pk d'=true:=⟨⟨s,d',rfl,lv.2,pd',by lia,rfl⟩,pd'.tup⟩;rcases lv.1 with rfl |⟨u,l,rfl,h1,_,h3⟩;exact bP gS [.inr (d',KW s)] (.inl JZ) (λp q=>by simp at q;subst q;exact hs) (by simp);exact bP u [.inl l,.inr (d',KW s)] (.inl h1) (λp q=>by simp at q;subst q;exact hs)<|by simp
 |two u a b=>obtain⟨d1,d2,p1,p2,rfl⟩:=pd.two;have Wi:max (nY a) (nY b)+1<=n+1:=hn;refine bP u [.inr (d1,KW a),.inr (d2,KW b)] (.inr lv.1) (λp q=>?_) (by simp);simp at q;rcases q with rfl |rfl;exact⟨⟨a,d1,rfl,lv.2.1,p1,by lia,rfl⟩,p1.tup⟩;exact⟨⟨b,d2,rfl,lv.2.2,p2,by lia,rfl⟩,p2.tup⟩
abbrev QZ:D:=.tup [.str "refused",.bl true]
abbrev S0(b:D):D:=.tup [.str "told",b]
def jz(ds:aM)(d:D):Prop:=(fT ds/\d=QZ)\/∃b,iP ds b/\d=S0 b
def nZ:∀ds d,jz ds d->ds.length=1:=by rintro ds d (⟨h,_⟩ |⟨b,h,_⟩);exact nW ds h;exact pI ds b h
structure GR(K:eZ)(mg:tK)(C:Addr)(y:Str):Prop where
 ex:∃D,mg y=some (.ref D)/\kitOne K (.ref C) (.ref D)=some false
def lq(ds:aM)(d:D):Prop:=∃cs:bI,ds=[.str<|S cs]/\(∀c∈cs,c<128)/\cs.length<=20000/\(cs.filter λc=>decide<|c≠32).length<=1010/\(cs.filter WT).length<=50/\d=.bl true
def xB:∀ds d,lq ds d->ds.length=1:=by rintro _ _ ⟨_,rfl,_⟩;rfl
def Ev{z:Str}(n:Nat)(h:PyData.strOk z=true):Fn n (.str z):=⟨de h,by simp[gw,PyData.depth],by simp[gw,PyData.eqv]⟩
def Fn.up{m:Nat}(h:Fn n d)(e:n<=m):Fn m d:=⟨h.1,aJ h.2.1 e,h.2.2⟩
def Xs:Fn 2 QZ:=Fn.tup λx hx=>by simp at hx;rcases hx with rfl |rfl;exact Ev 1 (by decide);exact Fn.bl true
theorem Ge:∀y:Sy,KL y->Fn (nY y+1) (KW y)
 |.is a b w,l=>J4 _|.pre h s,l=>Fn.tup λx hx=>by rcases bS.mp hx with z |z;obtain⟨u,hu,rfl⟩:=List.mem_map.mp z;refine Ev _<|dF ?_;rcases l.1 with rfl |⟨w,v,rfl,h1,_,h3⟩;rw[bZ.mp hu];decide;simp at hu;rcases hu with rfl |rfl;exact(AI<|.inl h1).2;exact(show∀u∈y0,∀c∈u,c<128 by decide) _ h3;rw[bZ.mp z];exact Ge s l.2
 |.two w a b,l=>Fn.tup λx hx=>by have i2:=Ge b l.2.2;simp at hx;rcases hx with rfl |rfl |rfl;exact Ev _<|dF (AI<|.inr l.1).2;exact(Ge a l.2.1).up (by show nY a+1<=max (nY a) (nY b)+1;lia);exact i2.up<|by show nY b+1<=max (nY a) (nY b)+1;lia
def yb(h:cG P w K mg base k l6 jp X)(VB:mg "isinstance"=none)(WL:mg "ValueError"=none)(xc:rR K C)(nT:mg "NoText"=some (.ref C))(qT:kitOne K (.ref C) (.ref C)=some true)(qV:kitOne K (.ref C) (.type "ValueError")=some true)(k1:GR K mg C "NoKind")(k2:GR K mg C "NoLine")(k3:GR K mg C "NoRow")(cW:EV.Callee X "read_saying" iP)(cX:j9 X "read_saying" C fT)(O:OwnCls "StackError" Dc vB vN mg base)(hm:mroIn K C (.ref Dc)=some true):Go X l6 jp jz:=by
 intro ds d hc
 obtain⟨x,rfl⟩:∃x,ds=[x]:=by
  match ds,(nZ ds d hc)with|[x],_=>exact⟨x,rfl⟩
 have t:=h.at';haveI:=h.VR;have O':OwnCls "StackError" Dc vB vN X.mg X.base:=by rw[h.V3,h.WA];exact O
 have b1:=h.bt VB;have b2:=h.bt WL;have xc':rR X.K C:=by rw[h.k'];exact xc
 have nT':X.mg "NoText"=some (.ref C):=by rw[h.V3];exact nT
 have qT':kitOne X.K (.ref C) (.ref C)=some true:=by rw[h.k'];exact qT
 have qV':kitOne X.K (.ref C) (.type "ValueError")=some true:=by rw[h.k'];exact qV
 have hm':mroIn X.K C (.ref Dc)=some true:=by rw[h.k'];exact hm
 have kn:∀{y:Str},GR K mg C y->∃D,X.mg y=some (.ref D)/\kitOne X.K (.ref C) (.ref D)=some false:=λ{y}z=>by rw[h.V3,h.k'];exact z.ex
 obtain⟨D1,a1,q1⟩:=kn k1;obtain⟨D2,a2,q2⟩:=kn k2;obtain⟨D3,a3,q3⟩:=kn k3;show Vt X [.val x,.un,.un,.un,.un] _ _;refine au (bg t 1 eJ)<|au (bg t 2 eJ) ?_;show Vt X [.val x,.val .VH,.val .VH,.un,.un] _ _;rcases hc with⟨hr,rfl⟩ |⟨b,hr,rfl⟩;refine au (W1:=[.val x,.val<|.exc C,.val .VH,.un,.un]) (Lr t h.Xr 3 (mo<|Ii<|sx t cX (ac (aa t 0) af) hr) O' hm' (λea=>az<|Qq (t.WT ea) (λx=>h.VR.fn x) 1<|Vp.soft<|NU (t.WT ea) 3 rfl) (ho:=λea B F E q=>q))<|au (cj (Vr.eq (eV<|aa t 1) rfl) bQ) ?_;refine au (bg t 4 (Ey (Mu t b1 xc' (.cons a1<|.cons a2<|.cons a3 .nil) (aa t 1) λD hD=>by simp at hD;rcases hD with rfl |rfl |rfl;exact q1;exact q2;exact q3) λ_=>Gi<|Mw t b1 xc' b2 (aa t 1) qV')) ?_
 exact az<|bj<|aC<|ac Vo<|ac (Vp.eq (rq (Mv t b1 xc' nT' (aa t 1) qT') λ_=>Gi (r:=false)<|aa t 4) rfl) af;exact au (QW t<|az<|bg t 2<|aB t cW (ac (aa t 0) af) hr)<|dC (dA (Vr.eq (eV<|aa t 1) rfl)<|az<|bj<|aC<|ac Vo<|ac (aa t 2) af)
def Cb(h:cG P w K mg base k ph kX X)(c1:EV.Callee X "_law_due" tz)(c2:EV.Callee X "_law_refused" jz)(c3:EV.Callee X "_law_small" (SC 508))(c4:EV.Callee X "_law_shape" (HC 52)):Go X ph kX lq:=by
 rintro ds d ⟨cs,rfl,ha,hl,hnb,hho,rfl⟩;have t:=h.at';haveI:=h.VR;obtain⟨T,hm,hd⟩:=Pr ha hl;have hT:=hm.ch;have hH:=hm.WT;show Vt X [.val<|.str<|S cs,.un,.un,.un] _ _;refine au (bg t 1<|aB t c1 (ac (aa t 0) af) ⟨cs,T,rfl,hm,ha,hl,rfl⟩) ?_;rcases hd with⟨e,hr⟩ |⟨y,e,lv,hd2,hn,hc⟩;rw[e];exact dC<|dA (Vr.eq (eV<|aa t 1) rfl)<|az<|bj<|BA t (Vp.p<|aB t c2 (ac (aa t 0) af)<|.inl ⟨hr,rfl⟩) (Vp.p<|aC<|ac Vo<|ac uy af) (Xs.sh<|by decide) (Xs.sh<|by decide) Xs.2.2;rw[e];refine au (cj (Vr.eq (eV<|aa t 1)<|xE y) bQ)<|ip (lU<|fM<|aB t c3 (ac (aa t 1) af) ⟨y,rfl,lv,by lia,by lia,rfl⟩) (λv=>az<|bj uy) λv=>?_;have hs:Cy y=true:=by simpa using v
 obtain⟨d,td,hr⟩:=hc<|Fu y hs;refine au (iE t (aB t c2 (ac (aa t 0) af)<|.inr ⟨d,hr,rfl⟩)<|gs t<|bA (bq t 2)<|bA (bq t 3) e9) ?_;have fn:=Ge y lv;exact az<|bj<|Vp.eq (rq (Vp.eq (qx t (aa t 2) Vo (by decide)<|by decide)<|by rw[ar rfl]) λ_=>BA t (Vp.p<|aB t c4 (ac (aa t 3) af) ⟨y,d,rfl,lv,.inr td,by lia,rfl⟩) (Vp.p<|aB t c4 (ac (aa t 1) af) ⟨y,Au y,rfl,lv,.inl rfl,by lia,rfl⟩) (fn.sh<|by lia) (fn.sh<|by lia) fn.2.2) rfl
def eD(a b:TK):ay (a++b)=ay a++ay b:=aE
abbrev iL(ns:bR):aM:=ns.map D.int
abbrev Dr:=TK×bR
def eo(ns:bR):Int:=ns.getLast?.getD 0
def Qe(x:Int):Nat:=([0,0,0,1,0,2]:bI).getD (x / 2160%6).toNat 0
def Nw(x:Int):bI:=([[120],[121],uU (x / 6%30).toNat]:TK).getD (x%3).toNat []
def PH(deep:Nat)(sm:bR->Dr)(xs:bR):Dr:=if 0<deep/\eo xs%6=5 then([[40]]++(sm xs.dropLast).1++[[41]],(sm xs.dropLast).2)else([Nw<|eo xs],xs.dropLast)
def Nl(x:Int)(tk:TK):TK:=if x / 180%4=1 then tk++[[94],uU (x / 720%3).toNat]else tk
def Ew(deep:Nat)(sm:bR->Dr)(xs:bR):Dr:=(List.replicate (Qe<|eo xs) [45]++Nl (eo xs) (PH deep sm xs).1,(PH deep sm xs).2)
def Rh(x:Int):bI:=([[43],[45],[42]]:TK).getD (x%3).toNat []
def sC(XZ:bR->Dr)(o:Dr):Nat->Dr|0=>o|j+1=>((sC XZ o j).1++[Rh<|eo (sC XZ o j).2]++(XZ (sC XZ o j).2.dropLast).1,(XZ (sC XZ o j).2.dropLast).2)
def QR(XZ:bR->Dr)(xs:bR):Dr:=sC XZ ((XZ xs).1,(XZ xs).2.dropLast) (eo (XZ xs).2%3).toNat
def mi:Nat->bR->Dr
 |0=>Ew 0 λxs=>([],xs)
 |n+1=>Ew (n+1)<|QR<|mi n
def DK(n:Nat):bR->Dr:=QR<|mi n
def UA(x:Int):bI:=V7.getD (x / 12%6).toNat []
def UB(x:Int):bI:=Xh.getD (x%2).toNat []
def Sq(x:Int):bI:=([[115,111,109,101],[97,108,108]]:TK).getD (x%2).toNat []
def Ss(x:Int):bI:=([[120],[121]]:TK).getD (x / 6%2).toNat []
def RF(x:Int)(xs:bR):Dr:=((DK 1 (DK 0 xs).2).1++[UA x]++(if x / 6%2=0 then [[48]]else(DK 0 xs).1),(DK 1 (DK 0 xs).2).2)
def yu:Nat->bR->Dr|0,xs=>RF (eo xs) xs.dropLast|d+1,xs=>if eo xs%6=0 then RF (eo xs) xs.dropLast else if eo xs%6=1 then([gS]++(yu d xs.dropLast).1,(yu d xs.dropLast).2)else if eo xs%6<4 then([[91]]++(yu d xs.dropLast).1++[UB<|eo xs]++(yu d (yu d xs.dropLast).2).1++[[93]],(yu d (yu d xs.dropLast).2).2)else([Sq<|eo xs,Ss<|eo xs]++(yu d xs.dropLast).1,(yu d xs.dropLast).2)
abbrev NP(u:bI):Prop:=u≠[]/\∀c∈u,c<128
def cT(tk:TK):Nat:=(tk.map List.length).sum
def Rr(tk:TK):Nat:=(tk.map pO).sum
structure OT(c h:Nat)(tk:TK):Prop where
 ok:∀u∈tk,NP u
 ch:cT tk<=c
 ho:Rr tk<=h
def OT.nil:OT 0 0 []:=⟨(λu hu=>nomatch hu),ao _,ao _⟩
def OT.app(x:OT c h a)(y:OT c' h' b):OT (c+c') (h+h') (a++b):=by refine⟨λu hu=>(bS.mp hu).elim (x.ok u)<|y.ok u,?_,?_⟩;have:=x.ch;have:=y.ch;unfold cT at*;rw[aE,df];lia;have:=x.ho;have:=y.ho;unfold Rr at*;rw[aE,df];lia
def OT.up{c' h':Nat}(x:OT c h a)(e:c<=c')(e':h<=h'):OT c' h' a:=⟨x.ok,aJ x.ch e,aJ x.ho e'⟩
def OT.one{c h:Nat}(h1:NP u)(h2:u.length<=c)(h3:pO u<=h):OT c h [u]:=⟨λv hv=>by rw[bZ.mp hv];exact h1,by simpa[cT]using h2,by simpa[Rr]using h3⟩
def OT.mem{c h:Nat}{W:TK}{u:bI}(hW:∀u∈W,(u≠[]/\∀c∈u,c<128)/\u.length<=c/\pO u<=h)(hu:u∈W):OT c h [u]:=.one (hW u hu).1 (hW u hu).2.1 (hW u hu).2.2
def OT.rep(h1:NP u):∀n,OT (n*u.length) (n*pO u) (List.replicate n u)|0=>by rw[HR,HR];exact .nil|n+1=>by rw[bf,nF,nF,yo,yo<|n*pO u];exact(OT.one h1 (ao _)<|ao _).app<|OT.rep h1 n
def OT.len(x:OT c h tk):tk.length<=c:=by refine aJ ?_ x.ch;have:=x.ok;clear x;unfold cT;induction tk with|nil=>exact ao _|cons u tk ih=>have h1:=List.length_pos_iff.mpr (this u<|by simp).1;have:=ih λv hv=>this v (by simp[hv]);simp;lia
def xD{W:TK}{n:Nat}(h:n<W.length):W.getD n []∈W:=by rw[List.getD_eq_getElem?_getD,List.getElem?_eq_getElem h];exact fE h
def JB{n k:Nat}(hk:0<k)(h:n<10 ^ k):(uU n).length<=k/\1<=(uU n).length:=by constructor;unfold uU;rw[ai];exact(Nat.length_toDigits_le_iff (by decide) hk).mpr h;exact List.length_pos_iff.mpr<|FN n
def F9(n:Nat):pO (uU n)=0:=by unfold pO;rw[mf,yp];intro c hc;have:=J7 c hc;simp[WT];lia
def Nb(n:Nat):NP (uU n):=⟨FN n,λc hc=>by have:=J7 c hc;lia⟩
def Nv(x:Int):OT 2 0 [Nw x]:=by
 unfold Nw;have h3:(x%3).toNat<3:=by lia
 have:(x%3).toNat=0\/(x%3).toNat=1\/(x%3).toNat=2:=by lia
 rcases this with z |z |z<;>rw[z];exact OT.one (u:=[120]) (by decide) (by decide) (by decide);exact OT.one (u:=[121]) (by decide) (by decide) (by decide);exact .one (Nb _) (JB (by decide)<|by lia).1<|iZ<|F9 _
def FS(x:Int):Qe x<=2:=by have:=(show∀n,n<6->([0,0,0,1,0,2]:bI).getD n 0<=2 by decide) (x / 2160%6).toNat (by lia);exact this
theorem J9{deep:Nat}{sm:bR->Dr}(h:0<deep->∀xs,OT c 0 (sm xs).1)(xs:bR):OT ((if 0<deep then c else 0)+6) 0 (Ew deep sm xs).1:=by
 unfold Ew;have a1:OT ((if 0<deep then c else 0)+2) 0 (PH deep sm xs).1:=by unfold PH;by_cases q:0<deep/\eo xs%6=5;rw[ax q,ax q.1];exact(((OT.one (by decide) (c:=1) (by decide) (h:=0)<|by decide).app<|h q.1 _).app<|OT.one (by decide) (c:=1) (by decide) (h:=0)<|by decide).up (by lia) (by decide);rw[av q];exact(Nv _).up (by lia)<|ao _
 have a2:OT ((if 0<deep then c else 0)+4) 0 (Nl (eo xs) (PH deep sm xs).1):=by unfold Nl;by_cases q:eo xs / 180%4=1;rw[ax q];refine(a1.app<|(OT.one (by decide) (c:=1) (by decide) (h:=0)<|by decide).app<|OT.one (Nb _) (c:=1) (JB (by decide)<|by lia).1<|iZ<|F9 _).up (by lia) (by decide);rw[av q];exact a1.up (by lia)<|ao _
 have:=FS<|eo xs;exact((OT.rep (by decide)<|Qe<|eo xs).app a2).up (by simp;lia)<|by simp[pO,WT]
def Ra(x:Int):OT 1 0 [Rh x]:=.mem (by decide)<|xD<|by show _<3;lia
def A5{XZ:bR->Dr}(h:∀xs,OT c 0 (XZ xs).1){o:Dr}(ho:OT c 0 o.1):∀j,OT (c+j*(c+1)) 0 (sC XZ o j).1|0=>ho.up (by lia) (ao _)|j+1=>by exact(((A5 h ho j).app<|Ra _).app<|h _).up (by rw[nF];lia)<|by decide
def Ng{XZ:bR->Dr}(h:∀xs,OT c 0 (XZ xs).1)(xs:bR):OT (3*c+2) 0 (QR XZ xs).1:=by have:=A5 h (o:=((XZ xs).1,(XZ xs).2.dropLast)) (h xs) (eo (XZ xs).2%3).toNat;refine this.up ?_<|ao _;have:(eo (XZ xs).2%3).toNat*(c+1)<=2*(c+1):=Vg _ (by lia);lia
def NF(xs:bR):OT 6 0 (mi 0 xs).1:=J9 (deep:=0) (c:=0) (λz=>absurd z<|by decide) xs
def Fw(xs:bR):OT 20 0 (DK 0 xs).1:=Ng NF xs
def NE(xs:bR):OT 26 0 (mi 1 xs).1:=J9 (deep:=1) (λ_=>Fw) xs
def Nh(xs:bR):OT 80 0 (DK 1 xs).1:=Ng NE xs
def Ka{n:Nat}(h:n=0\/n=1)(xs:bR):OT 26 0 (mi n xs).1:=by rcases h with rfl |rfl;exact(NF xs).up (by decide) (by decide);exact NE xs
def NJ(x:Int)(xs:bR):OT 102 0 (RF x xs).1:=by refine(((Nh _).app<|OT.mem (c:=2) (h:=0) (by decide)<|xD<|by show _<6;lia).app (c':=20) (h':=0) ?_).up (by decide) (by decide);split;exact(OT.one (by decide) (by decide)<|by decide);exact Fw _
def wC:Nat->Nat|0=>102|d+1=>2*wC d+5
def wH:Nat->Nat|0=>0|d+1=>2*wH d+2
theorem Co:∀(d:Nat)(xs:bR),OT (wC d) (wH d) (yu d xs).1
 |0,xs=>NJ _ _
 |d+1,xs=>by
  have ih:=Co d;have hc:102<=2*wC d+5:=by
   have:∀d,102<=wC d:=λd=>by induction d with |zero=>exact ao _ |succ d ih=>show 102<=2*wC d+5;lia
   have:=this d;lia
  unfold yu wC wH;split;exact(NJ _ _).up hc (by lia);split;exact((OT.one (by decide) (c:=3) (by decide) (h:=1)<|by decide).app<|ih _).up (by lia) (by lia);split;exact(((((OT.one (by decide) (c:=1) (by decide) (h:=1)<|by decide).app<|ih _).app<|OT.mem (c:=3) (h:=0) (by decide)<|xD<|by show _<2;lia).app<|ih _).app<|OT.one (by decide) (c:=1) (by decide) (h:=0)<|by decide).up (by lia) (by lia);exact(((OT.mem (c:=4) (h:=2) (by decide)<|xD<|by show _<2;lia).app<|OT.mem (c:=1) (h:=0) (by decide)<|xD<|by show _<2;lia).app<|ih _).up (by lia)<|by lia
def La{d:Nat}(h:d<=3)(xs:bR):OT 851 14 (yu d xs).1:=by
 have:d=0\/d=1\/d=2\/d=3:=by lia
 rcases this with rfl |rfl |rfl |rfl;exact(Co 0 xs).up (by decide) (by decide);exact(Co 1 xs).up (by decide) (by decide);exact(Co 2 xs).up (by decide) (by decide);exact(Co 3 xs).up (by decide)<|by decide
def ky(ds xs:aM)(d:D)(xs':aM):Prop:=∃ns:bR,ds=[]/\xs=iL ns/\d=.int (eo ns)/\xs'=iL ns.dropLast
def zh:∀ds xs d xs',ky ds xs d xs'->ds.length+1=1:=by rintro _ _ _ _ ⟨_,rfl,_⟩;rfl
def CF(f:bR->Dr)(n:Nat)(ds xs:aM)(d:D)(xs':aM):Prop:=∃ns:bR,ds=[.int n]/\xs=iL ns/\d=.lst (ay (f ns).1)/\xs'=iL (f ns).2
def CF.len{f:bR->Dr}:∀ds xs d xs',CF f n ds xs d xs'->ds.length+1=2:=by rintro _ _ _ _ ⟨_,rfl,_⟩;rfl
abbrev nD(n:Nat):=CF (mi n) n
abbrev l8(n:Nat):=CF (DK n) n
def pJ(n:Nat):∀ds xs d xs',nD n ds xs d xs'->ds.length+1=2:=CF.len
def uj(n:Nat):∀ds xs d xs',l8 n ds xs d xs'->ds.length+1=2:=CF.len
def hZ(n:Nat)(ds xs:aM)(d:D)(xs':aM):Prop:=∃(m:Nat)(ns:bR),ds=[.int m]/\m+1<=n/\m<=3/\xs=iL ns/\d=.lst (ay (yu m ns).1)/\xs'=iL (yu m ns).2
def nX(n:Nat):∀ds xs d xs',hZ n ds xs d xs'->ds.length+1=2:=by rintro _ _ _ _ ⟨_,_,rfl,_⟩;rfl
def Nz(ns:bR):ns=[]\/∃m i,ns=m++[i]:=by cases h:ns.getLast? with|none=>exact .inl (List.getLast?_eq_none_iff.mp h)|some y=>let⟨ys,e⟩:=List.getLast?_eq_some_iff.mp h;exact .inr ⟨ys,y,e⟩
def Dw{xs:aM}{i:Int}{n:Nat}(hx:xs=ay W)(hi:i=(n:Int))(h:n<W.length):me xs i=some (.str<|S<|W.getD n []):=by subst hx;subst hi;exact mq h
def AA(m:Nat):(List.replicate m [D.str "-"]).flatten=ay (List.replicate m [45]):=by rw[show("-":Str)=S [45]by decide];induction m with|zero=>rfl|succ m ih=>rw[bf,cB,ih,bf];rfl
def Rk(x:Int):me (([0,0,0,1,0,2]:bR).map D.int) (x / 2160%6)=some (.int<|Qe x):=by
 unfold Qe;have e:x / 2160%6=(((x / 2160%6).toNat:Nat):Int):=by lia
 have h:(x / 2160%6).toNat<6:=by lia
 rw[e,bv];generalize(x / 2160%6).toNat=n at h;have:n=0\/n=1\/n=2\/n=3\/n=4\/n=5:=by lia
 rcases this with rfl |rfl |rfl |rfl |rfl |rfl<;>rfl
def Rj{st:Stmt}{o':Out}(h:pP X q U st o s s')(e:o=o'):pP X q U st o' s s':=e▸h
def wR{a:Nat}(h:a<=20000:=by simp;lia):a<=sizeLine:=aJ h<|cM rfl
def BZ(h:cG P w K mg base k qJ mE X):Sb X qJ mE ky:=by rintro q ds xs d xs' ⟨ns,rfl,rfl,rfl,rfl⟩;have t:=h.at';haveI:=h.VR;show XT X q [.val<|.Xi q] _ _ _ _;rcases Nz ns with rfl |⟨m,i,rfl⟩;exact FU<|lQ (Cs t 0 rfl rfl rfl)<|c6<|uW<|Vp.em ah;refine fA (gZ (Cs t 0 rfl rfl<|by cases m<;>rfl) CS)<|c6<|uW<|Pp t 0 rfl ?_;rw[Ck];show iL (m++[i])=iL m++[.int<|eo<|m++[i]];unfold eo iL;rw[List.getLast?_concat,aE];rfl
theorem qD{n:Nat}(h:cG P w K mg base k nj iF X)(hn:n=0\/n=1)(Yj:mg "str"=none)(c1:VV X "_law_pick" ky)(c2:∀m,n=m+1->VV X "_law_sum" (l8 m)):Sb X nj iF (nD n):=by
 rintro q ds xs d xs' ⟨ns,rfl,rfl,rfl,rfl⟩;have t:=h.at';haveI:=h.VR;have b1:=h.bt Yj;show XT X q [.val<|.Xi q,.val<|.int n,.un,.un] _ _ _ _;have ef:mi n=Ew n (match n with |0=>λxs=>([],xs) |m+1=>QR<|mi m):=by cases n<;>rfl
 refine fA (gX t 2<|j8 t c1 (VL.am<|ac (aa t 0) af) ⟨ns,rfl,rfl,rfl,rfl⟩) ?_;have nu:∀{U:cE}{a:Expr}{p1 p2:Pos}{i:Int},Vp X U a (.int i)->0<=i->i<1000->Pl a->Vp X U (.Call (.Name "str" p1) [a] [] p2) (.str<|S<|uU i.toNat):=λ{U a p1 p2 i}ha h0 h1 hp=>by
  have e:i=((i.toNat:Nat):Int):=by lia
  rw[e]at ha;exact Vp.eq (Mr t b1 ha (Rl<|by lia) hp)<|by rw[OO]
 generalize hx:eo ns=x;have el:me [D.str "x",.str "y",.str<|S<|uU (x / 6%30).toNat] (x%3)=some (.str<|S<|Nw x):=by unfold Nw;refine Dw ?_ (by lia) (by show _<3;lia);rw[NS,SI];rfl
 refine fA (VN.m<|bg t 3<|VD.V5<|bK<|ac (br (VD.toQ<|bK<|ac Vo<|ac Vo<|ac (nu (bJ (iR t (aa t 2) ah) ah) (by lia) (by lia)<|by intro _ _;rfl) af) (bJ (aa t 2) ah) el) af) ?_;show XT X q [.val<|.Xi q,.val<|.int n,.val<|.int x,.val<|.lst<|ay [Nw x]] _ _ _ _;have mid:∃a:Dr,mi n ns=(List.replicate (Qe x) [45]++Nl x a.1,a.2)/\OT 22 0 a.1/\pP X q [.val<|.Xi q,.val<|.int n,.val<|.int x,.val<|.lst<|ay [Nw x]] (match(aW iF).drop 2 with |st::_=>st |[]=>.Pass ⟨0,0,0,0⟩) (.nx [.val<|.Xi q,.val<|.int n,.val<|.int x,.val<|.lst<|ay a.1]) (iL ns.dropLast) (iL a.2):=by
  by_cases hc:0<n/\x%6=5;obtain⟨m,rfl⟩:∃m,n=m+1:=⟨n-1,by lia⟩;have hm:m=0:=by lia
  subst hm;have so:=Fw ns.dropLast;have sl:=so.len;refine⟨([[40]]++(DK 0 ns.dropLast).1++[[41]],(DK 0 ns.dropLast).2),?_,((((OT.one (by decide) (c:=1) (by decide) (h:=0)<|by decide).app so).app<|OT.one (by decide) (c:=1) (by decide) (h:=0)<|by decide).up (by decide)<|by decide),?_⟩;rw[ef];unfold Ew PH;rw[hx,ax ⟨by decide,hc.2⟩];rfl;refine lQ (Vr.l<|Vr.eq (fN (gf (aa t 1) ah) λ_=>dM (bJ (aa t 2) ah) ah)<|by rw[ar hc.2];rfl)<|c6<|Rj (gX t 3<|kK (kK (Vp.em<|VD.V5<|bK<|ac Vo af) (j8 t (c2 0 rfl) (VL.am<|ac (aa t 0)<|ac (Vp.eq (jM (aa t 1) ah) rfl) af) ⟨ns.dropLast,rfl,rfl,rfl,rfl⟩) ?_) (Vp.em<|VD.V5<|bK<|ac Vo af) ?_) ?_;rw[aQ];exact wR;rw[ag,aQ];exact wR;rw[eD,eD,show("(":Str)=S [40]by decide,show(")":Str)=S [41]by decide];rfl;refine⟨([Nw x],ns.dropLast),?_,(Nv x).up (by decide)<|by decide,gZ (Vr.l<|Vr.eq (fN (gf (aa t 1) ah) λ_=>dM (bJ (aa t 2) ah) ah) ?_) CS⟩;rw[ef];unfold Ew PH;rw[hx,av hc];by_cases z:0<n;rw[aj λy=>hc ⟨z,y⟩,tJ];rw[aj (show¬(0:Int)<n by lia),Bool.false_and]
 obtain⟨a,e1,oa,st⟩:=mid;refine fA st ?_;rw[e1];have al:=oa.len;obtain⟨tk,ys⟩:=a;dsimp only at al ⊢;refine Vt.m ?_;have pl:(Nl x tk).length<=24:=by unfold Nl;split;simp;lia;lia
 refine au (W1:=[.val<|.Xi q,.val<|.int n,.val<|.int x,.val<|.lst<|ay<|Nl x tk]) ?_<|az<|bj<|Vp.eq (VD.V5<|kJ (VD.V5<|BG (VD.V5<|bK<|ac Vo af) (br (VD.toQ<|bK<|ac ah<|ac ah<|ac ah<|ac ah<|ac ah<|ac ah af) (bJ (iR t (aa t 2) ah) ah)<|Rk x) (by lia) (by have:=FS x;lia)<|by rw[bv];exact wR<|by have:=FS x;simp;lia) (aa t 3)<|by rw[bv,AA,aQ,aQ];exact wR<|by have:=FS x;simp;lia) ?_;unfold Nl;by_cases hc:x / 180%4=1;rw[ax hc];refine dA (Vr.eq (dM (bJ (iR t (aa t 2) ah) ah) ah)<|ar hc)<|au (W1:=[.val<|.Xi q,.val<|.int n,.val<|.int x,.own<|ay<|tk++[[94],uU (x / 720%3).toNat]]) (VN.eq (jl t 3<|kJ (aa t 3) (VD.V5<|bK<|ac Vo<|ac (nu (bJ (iR t (aa t 2) ah) ah) (by lia) (by lia)<|by intro _ _;rfl) af)<|by rw[aQ];exact wR) ?_)<|fJ 3 rfl bQ;rw[show("^":Str)=S [94]by decide,eD];rfl;rw[av hc];exact cj (Vr.eq (dM (bJ (iR t (aa t 2) ah) ah) ah)<|aj hc) bQ;rw[bv,AA,<-eD]
def Sr{st:Stmt}{d':D}(h:pP X q U st (.rt d) s s')(e:d=d'):pP X q U st (.rt d') s s':=e▸h
def Rc:([D.str "+",.str "-",.str "*"]:aM)=ay [[43],[45],[42]]:=by rw[Qr,GX,Qp];rfl
def QV:([D.str "some",.str "all"]:aM)=ay [[115,111,109,101],[97,108,108]]:=by rw[show("some":Str)=S [115,111,109,101]by decide,show("all":Str)=S [97,108,108]by decide];rfl
def IH{n:Nat}{j:Nat}(hn:n=0\/n=1){o:Dr}(ho:OT 26 0 o.1)(hj:j<=2):(sC (mi n) o j).1.length<=80:=by have:=(A5 (Ka hn) ho j).len;lia
theorem vJ{n:Nat}(h:cG P w K mg base k tf oF X)(hn:n=0\/n=1)(VJ:mg "range"=none)(c2:VV X "_law_factor" (nD n))(c1:VV X "_law_pick" ky):Sb X tf oF (l8 n):=by rintro q ds xs d xs' ⟨ns,rfl,rfl,rfl,rfl⟩;have t:=h.at';haveI:=h.VR;have b1:=h.bt VJ;unfold DK QR;have ho:=Ka hn ns;refine fA (gX t 2<|j8 t c2 (VL.am<|ac (aa t 0)<|ac (aa t 1) af) ⟨ns,rfl,rfl,rfl,rfl⟩) ?_;generalize mi n ns=o at ho;refine fA (OQ t (EE t b1 (Gs (j8 t c1 (VL.am<|ac (aa t 0) af) ⟨o.2,rfl,rfl,rfl,rfl⟩) ah<|by decide) (by lia)<|by lia)<|WS.Wf (λj=>[.val<|.Xi q,.val<|.int n,.val<|.lst<|ay (sC (mi n) (o.1,o.2.dropLast) j).1,.un]) (λj=>iL (sC (mi n) (o.1,o.2.dropLast) j).2) (λj d e=>?_) rfl rfl (by rw[show(fu 0 (eo o.2%3).toNat).length=(eo o.2%3).toNat by simp[fu]]) rfl) ?_;obtain⟨hj,rfl⟩:=nR e;have hl:=IH hn (o:=(o.1,o.2.dropLast)) ho (j:=j) (by lia);rw[show sC (mi n) (o.1,o.2.dropLast) (j+1)=((sC (mi n) (o.1,o.2.dropLast) j).1++[Rh<|eo (sC (mi n) (o.1,o.2.dropLast) j).2]++(mi n (sC (mi n) (o.1,o.2.dropLast) j).2.dropLast).1,(mi n (sC (mi n) (o.1,o.2.dropLast) j).2.dropLast).2)from rfl];generalize sC (mi n) (o.1,o.2.dropLast) j=u at hl;have fl:=(Ka hn u.2.dropLast).len;have ea:me [D.str "+",.str "-",.str "*"] (eo u.2%3)=some (.str<|S<|Rh<|eo u.2):=Dw Rc (by lia) (by show _<3;lia);refine⟨_,bq t 3,XT.weak (c6<|Rj (gX t 2<|kK (kK (Vp.em<|aa t 2) (Kl<|jw (Km (Vp.em<|VD.V5<|bK<|ac Vo<|ac Vo<|ac Vo af) (Gs (j8 t c1 (VL.am<|ac (aa t 0) af) ⟨u.2,rfl,rfl,rfl,rfl⟩) ah<|by decide) ea)<|VL.am af) ?_) (j8 t c2 (VL.am<|ac (aa t 0)<|ac (aa t 1) af) ⟨u.2.dropLast,rfl,rfl,rfl,rfl⟩) ?_) (show _=Out.nx [.val<|.Xi q,.val<|.int n,.val<|.lst<|ay<|u.1++[Rh<|eo u.2]++(mi n u.2.dropLast).1,.val<|.int j]by rw[eD,eD];rfl))<|.keep<|.keep<|.keep<|.forget .nil⟩;rw[aQ];exact wR;rw[ag,aQ,aQ];exact wR;rw[show(fu 0 (eo o.2%3).toNat).length=(eo o.2%3).toNat by simp[fu]];exact Vt.m<|az<|bj<|aa t 2
theorem v9(h:cG P w K mg base k lZ jm X)(c1:VV X "_law_pick" ky)(n:Nat)(c3:VV X "_law_written" (hZ n))(c20:VV X "_law_sum" (l8 0))(c21:VV X "_law_sum" (l8 1)):Sb X lZ jm (hZ<|n+1):=by
 rintro q ds xs d xs' ⟨m,ns,rfl,hm,hm3,rfl,rfl,rfl⟩;have t:=h.at';haveI:=h.VR;refine fA (gX t 2<|j8 t c1 (VL.am<|ac (aa t 0) af) ⟨ns,rfl,rfl,rfl,rfl⟩) ?_;by_cases h0:m=0\/eo ns%6=0;have e:yu m ns=RF (eo ns) ns.dropLast:=by cases m with|zero=>rfl|succ m=>rcases h0 with z |z;cases z;rw[yu,ax z]
 rw[e];generalize eo ns=x at h0;have l1:=(Nh (DK 0 ns.dropLast).2).len;have e1:me ([.lst<|ay [[48]],.lst<|ay (DK 0 ns.dropLast).1]:aM) (x / 6%2)=some (.lst<|ay (if x / 6%2=0 then [[48]]else(DK 0 ns.dropLast).1)):=by by_cases z:x / 6%2=0;rw[ax z,z];rfl;rw[av z,show x / 6%2=1 by lia];rfl
 have e2:me [D.str "<",.str "=",.str ">",.str "<=",.str ">=",.str "!="] (x / 12%6)=some (.str<|S<|UA x):=Dw GD (by lia) (by show _<6;lia);have l2:(if x / 6%2=0 then [[48]]else(DK 0 ns.dropLast).1).length<=20:=by split;decide;exact(Fw ns.dropLast).len
 refine FU<|lQ (Vr.l<|Vr.eq (eM (dM (aa t 1) ah) λ_=>dM (bJ (aa t 2) ah) ah) ?_)<|fA (gX t 3<|Km (Kl<|jw (Vp.em<|Vp.eq (VD.V5<|bK<|ac Vo af)<|by rw[NZ];rfl)<|jw (j8 t c20 (VL.am<|ac (aa t 0)<|ac ah af) ⟨ns.dropLast,rfl,rfl,rfl,rfl⟩)<|VL.am af) (Vp.em<|bJ (iR t (aa t 2) ah) ah) e1)<|c6<|Sr (uW<|kK (kK (j8 t c21 (VL.am<|ac (aa t 0)<|ac ah af) ⟨(DK 0 ns.dropLast).2,rfl,rfl,rfl,rfl⟩) (Vp.em<|VD.V5<|bK<|ac (br (VD.toQ<|bK<|ac Vo<|ac Vo<|ac Vo<|ac Vo<|ac Vo<|ac Vo af) (bJ (iR t (aa t 2) ah) ah) e2) af) ?_) (Vp.em<|aa t 3) ?_) ?_;rcases h0 with z |z;subst z;rfl;rw[ar z,Bool.or_true];rw[aQ];exact wR;rw[ag,aQ,aQ];exact wR;unfold RF;rw[eD,eD];rfl;obtain⟨m,rfl⟩:∃r,m=r+1:=⟨m-1,by lia⟩;have hx:¬eo ns%6=0:=λz=>h0<|.inr z;have call:∀(ms:bR)(U:cE),U[0]?=some (.val<|.Xi q)->U[1]?=some (.val<|.int ((m+1:Nat):Int))->∀{p1 p2 p4 p5 p6 p7:Pos}{j:Nat},V4 X q U (.Call (.Name "_law_written" p1) [.Name "_law_state" p2,.BinOp (.Name "_law_deep" p4) .Sub (.Constant (.int 1) j p5) p6] [] p7) (.lst<|ay (yu m ms).1) (iL ms) (iL (yu m ms).2):=λms U r0 r1{p1 p2 p4 p5 p6 p7 j}=>j8 t c3 (VL.am<|ac (aa t 0 r0)<|ac (Vp.eq (jM (aa t 1 r1) ah)<|by rw[show((m+1:Nat):Int)-1=(m:Nat)by lia]) af) ⟨m,ms,rfl,by lia,by lia,rfl,rfl,rfl⟩;refine fA (gZ (Vr.l<|Vr.eq (eM (dM (aa t 1) ah) λ_=>dM (bJ (aa t 2) ah) ah)<|by rw[aj hx,aj<|by lia];rfl) CS) ?_;have l1:=(La (d:=m) (by lia) ns.dropLast).len;have l2:=(La (d:=m) (by lia) (yu m ns.dropLast).2).len;rw[yu,av hx];generalize hpx:eo ns=x at hx;by_cases h1:x%6=1;rw[ax h1];refine FU<|lQ (Vr.l<|Vr.eq (dM (bJ (aa t 2) ah) ah)<|ar h1)<|c6<|Sr (uW<|kK (Vp.em<|VD.V5<|bK<|ac Vo af) (call ns.dropLast _ rfl rfl) ?_) ?_;rw[aQ];exact wR;rw[AW,eD];rfl;rw[av h1];refine fA (gZ (Vr.l<|Vr.eq (dM (bJ (aa t 2) ah) ah)<|aj h1) CS) ?_;by_cases h4:x%6<4;rw[ax h4];have e1:me [D.str "and",.str "or"] (x%2)=some (.str<|S<|UB x):=Dw NM (by lia) (by show _<2;lia);refine FU<|lQ (Vr.l<|Vr.eq (io (bJ (aa t 2) ah) ah)<|ar h4)<|fA (gX t 4<|kK (kK (Vp.em<|VD.V5<|bK<|ac Vo af) (call ns.dropLast _ rfl rfl) ?_) (Vp.em<|VD.V5<|bK<|ac (br (VD.toQ<|bK<|ac Vo<|ac Vo af) (bJ (aa t 2) ah) e1) af) ?_)<|c6<|Sr (uW<|kK (kK (Vp.em<|aa t 4) (call (yu m ns.dropLast).2 _ rfl rfl) ?_) (Vp.em<|VD.V5<|bK<|ac Vo af) ?_) ?_;rw[aQ];exact wR;rw[ag,aQ];exact wR;rw[ag,ag,aQ,aQ];exact wR;rw[ag,ag,ag,aQ,aQ];exact wR;rw[eD,eD,eD,eD,wN,Ia];rfl;rw[av h4];refine fA (gZ (Vr.l<|Vr.eq (io (bJ (aa t 2) ah) ah)<|aj h4) CS) ?_;have e1:me [D.str "some",.str "all"] (x%2)=some (.str<|S<|Sq x):=Dw QV (by lia) (by show _<2;lia);have lt2:x / 6%2=0\/x / 6%2=1:=by lia
 have e3:("xy":Str)=S [120,121]:=by decide
 refine c6<|Sr (uW<|kK (Vp.em<|VD.V5<|bK<|ac (br (VD.toQ<|bK<|ac Vo<|ac Vo af) (bJ (aa t 2) ah) e1)<|ac (c7 (c:=if x / 6%2=0 then 120 else 121) Vo (bJ (iR t (aa t 2) ah) ah) ?_ ?_) af) (call ns.dropLast _ rfl rfl) ?_) ?_;rw[e3];exact Wh (by decide);rw[e3,eQ];rcases lt2 with z |z<;>rw[z]<;>rfl;rw[aQ];exact wR;rw[eD];have:S (Ss x)=⟨#[if x / 6%2=0 then 120 else 121]⟩:=by unfold Ss;rcases lt2 with z |z<;>rw[z]<;>rfl
 show D.lst ([.str<|S<|Sq x,.str _]++_)=D.lst ([.str<|S<|Sq x,.str<|S<|Ss x]++_);rw[this]
def wT(tk:TK):Nat:=(tk.map λu=>u.length+3).sum
def Io(a b:TK):wT (a++b)=wT a+wT b:=by unfold wT;rw[aE,df]
def Ff(u:bI)(b:TK):wT (u::b)=u.length+3+wT b:=rfl
def N4(tk:TK):3*tk.length<=wT tk:=by induction tk with|nil=>simp[wT]|cons u tk ih=>rw[Ff,bY];lia
def Su(xs:bR):bI:=([[32],[],[],[32,32]]:TK).getD (xs.getD 0 0%4).toNat []
def MT(xs:bR)(k:Nat):bI:=([[],[32],[],[32,32,32]]:TK).getD (xs.getD (k%18) 0 / 4%4).toNat []
def Sm(xs:bR):bI:=([[],[32],[],[]]:TK).getD (xs.getD 0 0 / 16%4).toNat []
def rn(u:bI):Bool:=lo<|u.headD 0
def Fs(tk:TK)(xs:bR)(k:Nat):bI:=if MT xs k=[]/\rn (tk.getD k [])=true/\rn (tk.getD (k-1) [])=true then [32]else MT xs k
def HZ(tk:TK)(xs:bR):Nat->bI|0=>Su xs|k+1=>HZ tk xs k++(if 0<k then Fs tk xs k else [])++tk.getD k []
def ul(tk:TK)(xs:bR):bI:=HZ tk xs tk.length++Sm xs
def Jj{n:Nat}{α:Type}(a b c d z:α)(h:n<4)(P:α->Prop)(ha:P a)(hb:P b)(hc:P c)(hd:P d):P (([a,b,c,d]:List α).getD n z):=by
 match n,h with
 |0,_=>exact ha|1,_=>exact hb
 |2,_=>exact hc|3,_=>exact hd
 |n+4,h=>lia
def T0{i:Int}(a b c d:Str)(a' b' c' d':bI)(ea:a=S a')(eb:b=S b')(ec:c=S c')(ed:d=S d')(h0:0<=i)(h1:i<4):me ([.str a,.str b,.str c,.str d]:aM) i=some (.str<|S<|([a',b',c',d']:TK).getD i.toNat []):=by
 obtain⟨n,rfl⟩:=mh h0;have:n<4:=by lia
 rw[bv]
 match n,this with
 |0,_=>rw[ea];rfl|1,_=>rw[eb];rfl
 |2,_=>rw[ec];rfl|3,_=>rw[ed];rfl
 |n+4,h=>lia
def Bk(u:bI):Prop:=(∀c∈u,c=32)/\u.length<=3
def Wz:Bk []/\Bk [32]/\Bk [32,32]/\Bk [32,32,32]:=⟨⟨by decide,by decide⟩,⟨by decide,by decide⟩,⟨by decide,by decide⟩,⟨by decide,by decide⟩⟩
def JL(xs:bR):Bk (Su xs)/\(Su xs).length<=2:=Jj _ _ _ _ _ (by lia) (λu=>Bk u/\u.length<=2) ⟨Wz.2.1,by decide⟩ ⟨Wz.1,by decide⟩ ⟨Wz.1,by decide⟩ ⟨Wz.2.2.1,by decide⟩
def NK(xs:bR)(k:Nat):Bk (MT xs k):=Jj _ _ _ _ _ (by lia) Bk Wz.1 Wz.2.1 Wz.1 Wz.2.2.2
def Fl(xs:bR):Bk (Sm xs)/\(Sm xs).length<=1:=Jj _ _ _ _ _ (by lia) (λu=>Bk u/\u.length<=1) ⟨Wz.1,by decide⟩ ⟨Wz.2.1,by decide⟩ ⟨Wz.1,by decide⟩ ⟨Wz.1,by decide⟩
def Fq(tk:TK)(xs:bR)(k:Nat):Bk (Fs tk xs k):=by unfold Fs;split;exact Wz.2.1;exact NK xs k
def Na(h:NP u):∃c cs,u=c::cs/\(!(Builtin.Str.occurrences SG (S [c]) 0 SG.length 1).isEmpty)=rn u:=by cases u with|nil=>exact absurd rfl h.1|cons c cs=>exact⟨c,cs,rfl,uh c<|h.2 c<|by simp⟩
def A0{tk:TK}{j:Nat}(h:j<tk.length):wT (tk.take<|j+1)=wT (tk.take j)+(tk.getD j []).length+3:=by rw[tF,List.getElem?_eq_getElem h,Io,List.getD_eq_getElem?_getD,List.getElem?_eq_getElem h];show _+(tk[j].length+3+0)=_+tk[j].length+3;lia
def Fo(tk:TK)(j:Nat):wT (tk.take j)<=wT tk:=by have:=Io (tk.take j)<|tk.drop j;rw[oo]at this;lia
theorem Br(tk:TK)(xs:bR):∀j,j<=tk.length->(HZ tk xs j).length<=2+wT (tk.take j)|0,_=>by rw[P8];exact(JL xs).2|j+1,h=>by have a:=Br tk xs j (by lia);have b:=(Fq tk xs j).2;rw[A0<|by lia];unfold HZ;rw[ag,ag];split;lia;simp;lia
theorem Nx{tk:TK}(hq:∀u∈tk,NP u)(xs:bR):∀j,j<=tk.length->∀c∈HZ tk xs j,c<128|0,_,c,hc=>by rw[(JL xs).1.1 c hc];decide|j+1,h,c,hc=>by rcases bS.mp hc with hc |hc;rcases bS.mp hc with hc |hc;exact Nx hq xs j (by lia) c hc;split at hc;rw[(Fq tk xs j).1 c hc];decide;cases hc;rw[List.getD_eq_getElem?_getD,List.getElem?_eq_getElem<|by lia]at hc;exact(hq _<|fE _).2 c hc
def Ma{tk:TK}(hq:∀u∈tk,NP u)(xs:bR):∀c∈ul tk xs,c<128:=λc hc=>by rcases bS.mp hc with hc |hc;exact Nx hq xs tk.length (ao _) c hc;rw[(Fl xs).1.1 c hc];decide
def JR(tk:TK)(xs:bR):(ul tk xs).length<=wT tk+3:=by have a:=Br tk xs tk.length<|ao _;have b:=(Fl xs).2;rw[bW]at a;unfold ul;rw[ag];lia
def MR(u:bI)(b:TK):cT (u::b)=u.length+cT b:=rfl
def fb(p:Nat->Bool)(cs:bI):Nat:=(cs.filter p).length
def kE(p:Nat->Bool)(a b:bI):fb p (a++b)=fb p a+fb p b:=by unfold fb;rw[tG,ag]
def J8{p:Nat->Bool}(hp:p 32=false)(h:Bk u):fb p u=0:=by unfold fb;rw[mf,yp];exactλc hc=>by rw[h.1 c hc,hp];exact aA
theorem Ny{p:Nat->Bool}(hp:p 32=false)(tk:TK)(xs:bR):∀j,j<=tk.length->fb p (HZ tk xs j)<=((tk.take j).map<|fb p).sum
 |0,_=>by show fb p (Su xs)<=_;rw[J8 hp (JL xs).1];exact bO _
 |j+1,h=>by
  have a:=Ny hp tk xs j (by lia);have hj:j<tk.length:=by lia
  have e:((tk.take<|j+1).map<|fb p).sum=((tk.take j).map<|fb p).sum+fb p (tk.getD j []):=by rw[tF,List.getElem?_eq_getElem hj,aE,df,List.getD_eq_getElem?_getD,List.getElem?_eq_getElem hj];simp
  rw[e];unfold HZ;rw[kE,kE];have:fb p (if 0<j then Fs tk xs j else [])=0:=by split;exact J8 hp<|Fq tk xs j;rfl
  lia
def FX{p:Nat->Bool}(hp:p 32=false)(tk:TK)(xs:bR):fb p (ul tk xs)<=(tk.map<|fb p).sum:=by have a:=Ny hp tk xs tk.length<|ao _;rw[bW]at a;unfold ul;rw[kE,J8 hp (Fl xs).1];lia
def L6(c:Nat):Bool:=decide<|c≠32
def TY(tk:TK):(tk.map<|fb L6).sum<=cT tk:=by unfold cT;induction tk with|nil=>exact ao _|cons u b ih=>have:fb L6 u<=u.length:=oq _ _;simp;lia
def SX(tk:TK):wT tk=cT tk+3*tk.length:=by induction tk with|nil=>rfl|cons u b ih=>rw[Ff,MR,ih,bY];lia
def nC(ds:aM)(d:D):Prop:=∃(tk:TK)(xs:bR),ds=[.lst<|ay tk,ja xs]/\xs.length=18/\(∀u∈tk,NP u)/\wT tk<=4100/\d=.str (S<|ul tk xs)
def vY:∀ds d,nC ds d->ds.length=2:=by rintro _ _ ⟨_,_,rfl,_⟩;rfl
theorem Ah(h:cG P w K mg base k ni j0 X)(VJ:mg "range"=none)(Vw:mg "len"=none):Go X ni j0 nC:=by
 rintro ds d ⟨tk,xs,rfl,hl,hq,hw,rfl⟩;have t:=h.at';haveI:=h.VR;have b1:=h.bt VJ;have b2:=h.bt Vw;have htl:tk.length<=1366:=by have:=N4 tk;lia
 have z0:("":Str)=S []:=rfl;have z1:(" ":Str)=S [32]:=rfl;have z2:("  ":Str)=S [32,32]:=rfl;have z3:("   ":Str)=S [32,32,32]:=rfl;have hv:∀n:Nat,n<18->me (xs.map D.int) n=some (.int<|xs.getD n 0):=λn hn=>yd (by lia);refine au (bg t 2 Vo)<|au (bg t 3<|br (VD.toQ<|bK<|ac Vo<|ac Vo<|ac Vo<|ac Vo af) (bJ (br (Vp.ql<|aa t 1) ah<|hv 0<|by lia) ah)<|T0 _ _ _ _ _ _ _ _ z1 z0 z0 z2 (by lia)<|by lia) ?_;refine au (W1:=[.val<|.lst<|ay tk,.val<|ja xs,.val<|.str SG,.val<|.str<|S<|HZ tk xs tk.length,.un,.un]) (mC t (jO t b1 (eC t b2<|Vp.ql<|aa t 0) (by rw[aQ];lia)<|by rw[aQ];lia)<|VU.Wf (λj=>[.val<|.lst<|ay tk,.val<|ja xs,.val<|.str SG,.val<|.str<|S<|HZ tk xs j,.un,.un]) (λj d e=>?_) rfl ?_)<|az<|bj<|Vp.eq (oP (w:=S<|Sm xs) (aa t 3) (br (VD.toQ<|bK<|ac Vo<|ac Vo<|ac Vo<|ac Vo af) (bJ (iR t (br (Vp.ql<|aa t 1) ah<|hv 0<|by lia) ah) ah)<|T0 _ _ _ _ _ _ _ _ z0 z1 z0 z0 (by lia)<|by lia) ?_) (by rw[pK];rfl);obtain⟨hj,rfl⟩:=nR e;rw[bv,aQ]at hj;have hg:tk.getD j []=tk[j]:=by rw[List.getD_eq_getElem?_getD,List.getElem?_eq_getElem hj];rfl
 have hQ:=hq tk[j]<|fE hj;have hta:∀i:Nat,(hi:i<tk.length)->me (ay tk) i=some (.str<|S tk[i]):=λi hi=>dJ (by unfold ay;rw[List.getElem?_map,List.getElem?_eq_getElem hi];rfl);have hjl:=Br tk xs j (by lia);have hjw:=Fo tk<|j+1;rw[A0 hj]at hjw;have sp3:=(Fq tk xs j).2;refine⟨_,bq t 4,Vt.weak (Wp:=[.val<|.lst<|ay tk,.val<|ja xs,.val<|.str SG,.val<|.str<|S<|HZ tk xs<|j+1,.val<|.int j,.un]) (au (W1:=[.val<|.lst<|ay tk,.val<|ja xs,.val<|.str SG,.val<|.str<|S<|HZ tk xs j++(if 0<j then Fs tk xs j else []),.val<|.int j,.un]) ?_<|az<|VN.eq (bg t 3<|oP (aa t 3) (br (Vp.ql<|aa t 0) (aa t 4)<|hta j hj) ?_) ?_)<|.keep<|.keep<|.keep<|.keep<|.forget<|.keep .nil⟩;by_cases h0:0<j;rw[ax h0];have hj1:j-1<tk.length:=by lia
 have hg1:tk.getD (j-1) []=tk[j-1]:=by rw[List.getD_eq_getElem?_getD,List.getElem?_eq_getElem hj1];rfl
 obtain⟨c,cs,ec,oc⟩:=Na hQ;obtain⟨c1,cs1,ec1,oc1⟩:=Na<|hq tk[j-1]<|fE hj1;have hl1:(S tk[j]).length<=sizeLine:=by rw[ce];rw[hg]at hjw;exact KU<|by lia
 have hl2:(S tk[j-1]).length<=sizeLine:=by rw[ce];have:=Fo tk<|j-1+1;rw[A0 hj1,hg1]at this;exact KU<|by lia
 have zGO:j%18=((j%18:Nat):Int):=by lia
 have hbk:=dF λc hc=>by rw[(NK xs j).1 c hc];decide
 have e0:decide (S (MT xs j)=("":Str))=decide (MT xs j=[]):=bG.mpr ⟨λe=>fG<|e.trans z0,λe=>by rw[e,z0]⟩;have ejm:j-1=((j-1:Nat):Int):=by lia
 refine dA (Vr.eq (gf (aa t 4) ah)<|by rw[bV];lia)<|Vt.weak (au (bg t 5<|br (VD.toQ<|bK<|ac Vo<|ac Vo<|ac Vo<|ac Vo af) (bJ (iR t (br (Vp.ql<|aa t 1) (Vp.eq (bJ (aa t 4) (eC t b2<|Vp.ql<|aa t 1)<|by rw[ai,hl];decide)<|by rw[ai,hl];exact aL D.int zGO)<|hv (j%18)<|by lia) ah) ah)<|T0 _ _ _ _ _ _ _ _ z0 z1 z0 z3 (by lia)<|by lia)<|au (W1:=[.val<|.lst<|ay tk,.val<|ja xs,.val<|.str SG,.val<|.str<|S<|HZ tk xs j,.val<|.int j,.val<|.str<|S<|Fs tk xs j]) ?_<|az<|VN.eq (bg t 3<|oP (aa t 3) (aa t 5)<|by rw[ce,ce];exact KU<|by lia)<|by rw[pK];rfl)<|.keep<|.keep<|.keep<|.keep<|.keep<|.forget .nil;have zCQ:(decide (MT xs j=[])&&(rn tk[j]&&rn tk[j-1]))=decide (MT xs j=[]/\rn (tk.getD j [])=true/\rn (tk.getD (j-1) [])=true):=by rw[hg,hg1];by_cases y:MT xs j=[]<;>cases rn tk[j]<;>cases rn tk[j-1]<;>simp[y]
 unfold Fs;by_cases hc:MT xs j=[]/\rn (tk.getD j [])=true/\rn (tk.getD (j-1) [])=true;rw[ax hc];exact dA (Vr.eq (BF (Vr.eq (cK t (aa t 5) Vo hbk) e0) (λ_=>kG (c7 (br (Vp.ql<|aa t 0) (aa t 4)<|hta j hj) ah hl1<|by rw[eQ,ec];exact dJ rfl) (aa t 2) oc) λ_ _=>kG (c7 (br (Vp.ql<|aa t 0) (Vp.eq (jM (aa t 4) ah)<|aL D.int ejm)<|hta (j-1) hj1) ah hl2<|by rw[eQ,ec1];exact dJ rfl) (aa t 2) oc1)<|by rw[zCQ,ar hc])<|az<|VN.eq (bg t 5 Vo) (by rw[z1];rfl);rw[av hc];exact cj (Vr.eq (BF (Vr.eq (cK t (aa t 5) Vo hbk) e0) (λ_=>kG (c7 (br (Vp.ql<|aa t 0) (aa t 4)<|hta j hj) ah hl1<|by rw[eQ,ec];exact dJ rfl) (aa t 2) oc) λ_ _=>kG (c7 (br (Vp.ql<|aa t 0) (Vp.eq (jM (aa t 4) ah)<|aL D.int ejm)<|hta (j-1) hj1) ah hl2<|by rw[eQ,ec1];exact dJ rfl) (aa t 2) oc1)<|by rw[zCQ,aj hc]) bQ;rw[av h0,aX];exact cj (Vr.eq (gf (aa t 4) ah)<|by rw[aZ];lia) bQ;rw[ce,ce,ag];rw[hg]at hjw;have:(if 0<j then Fs tk xs j else []).length<=3:=by split;exact sp3;simp
 exact KU (by lia);rw[pK,<-hg];rfl;have e:(fu 0 ((ay tk).length:Int).toNat).length=tk.length:=by rw[aQ];simp[fu]
 rw[e];have a:=Br tk xs tk.length<|ao _;have b:=(Fl xs).2;rw[bW]at a;rw[ce,ce];exact KU<|by lia
def uw{lo hi:Option Expr}{l h:Option Int}(ha:Vp X U a (.str z))(hl:EV.YK X U lo l)(hh:EV.YK X U hi h)(hz:z.length<=sizeLine):Vp X U (.Subscript a (.Slice lo hi none p2) pos) (.str<|Txt.slice z l h):=.of (qc II aU CG CG) λB F H Y Q k q=>ha B F H Y _ k λv F1 H1 x1 r1=>hl B F1 H1 Y _ (k.ext x1) λF2 H2 x2=>hh B F2 H2 Y _ (k.ext<|x1.t x2) λF3 H3 x3=>by cases r1;exact⟨z,rfl,hz,q _ F3 H3 (x1.t<|x2.t x3)<|.str _⟩
def QT(u:Option Int)(n:Nat):Builtin.Str.strSliceIndices none u 1 n=Builtin.Str.strSliceIndices (some 0) u 1 n:=by unfold Builtin.Str.strSliceIndices;simp;rw[show max 0 (min 0 (n:Int))=0 by lia]
def QS(l:Option Int)(n:Nat):Builtin.Str.strSliceIndices l none 1 n=Builtin.Str.strSliceIndices l (some (n:Int)) 1 n:=by unfold Builtin.Str.strSliceIndices;simp only[show(1:Int)>0 by decide,HN,show¬((n:Int)<0)by lia,HP];rw[show max 0 (min (n:Int) n)=n by lia]
def KH{n:Nat}:Txt.slice (S cs) none (some (n:Int))=S (cs.take n):=by
 have e:Txt.slice (S cs) none (some n)=Txt.slice (S cs) (some ((0:Nat):Int)) (some n):=by unfold Txt.slice;rw[QT];rfl
 rw[e,uB (bO _)<|bO _,eQ,tH,HS];rfl
def Cg{cs:bI}{n:Nat}(h:n<=cs.length):Txt.slice (S cs) (some (n:Int)) none=S (cs.drop n):=by
 have e:Txt.slice (S cs) (some n) none=Txt.slice (S cs) (some n) (some ((S cs).length:Int)):=by unfold Txt.slice;rw[QS]
 rw[e,uB (by rwa[ce])<|by rwa[ce],eQ,ce,dO<|by rw[bX];lia];rfl
def smA:TK:=[[55],[48],[48,55],[120],[121],[122],[120,121],[43],[45],[42],[94],[40],[41],[110,111,116],[97,110,100],[111,114],[115,111,109,101],[97,108,108]]
def zA3:TK:=[[60],[61],[62],[60,61],[62,61],[33,61],[91],[93],[33],[61,61],[60,62],[78,111,116],[110,111,116,120],[123],[50,121]]
def ZR:TK:=smA++zA3
def Of:([.str "7",.str "0",.str "07",.str "x",.str "y",.str "z",.str "xy",.str "+",.str "-",.str "*",.str "^",.str "(",.str ")",.str "not",.str "and",.str "or",.str "some",.str "all"]:aM)=ay smA:=by have e:(["7","0","07","x","y","z","xy","+","-","*","^","(",")","not","and","or","some","all"]:cn)=smA.map S:=rfl;show(["7","0","07","x","y","z","xy","+","-","*","^","(",")","not","and","or","some","all"]:cn).map D.str=_;rw[e,dP];rfl
def Ll:([.str "<",.str "=",.str ">",.str "<=",.str ">=",.str "!=",.str "[",.str "]",.str "!",.str "==",.str "<>",.str "Not",.str "notx",.str "{",.str "2y"]:aM)=ay zA3:=by have e:(["<","=",">","<=",">=","!=","[","]","!","==","<>","Not","notx","{","2y"]:cn)=zA3.map S:=rfl;show(["<","=",">","<=",">=","!=","[","]","!","==","<>","Not","notx","{","2y"]:cn).map D.str=_;rw[e,dP];rfl
def Oe{u:bI}(h:u∈ZR):OT 4 2 [u]:=.mem (by decide) h
def spS(tk:TK)(a:Nat)(m:bI)(w:Int):TK:=if w=0 then tk.take a++tk.drop (a+1)else if w=1 then tk.take a++[m]++tk.drop a else tk.take a++[m]++tk.drop (a+1)
def aS(tk:TK)(x:Int):Nat:=(x%((tk.length:Int)+1)).toNat
def mS(x:Int):bI:=ZR.getD (x%33).toNat []
def IG(tk:TK)(xs:bR):Nat->TK|0=>tk|k+1=>spS (IG tk xs k) (aS (IG tk xs k)<|xs.getD (1+3*k) 0) (mS<|xs.getD (2+3*k) 0)<|xs.getD (3+3*k) 0%3
def Qb(tk:TK)(xs:bR):TK:=IG tk xs<|1+(xs.getD 0 0%3).toNat
def OR(x:Int):mS x∈ZR:=by
 have h:(x%33).toNat<ZR.length:=by show _<33;lia
 unfold mS;rw[List.getD_eq_getElem?_getD,List.getElem?_eq_getElem h];exact fE h
def OT.td{a b:Nat}(x:OT c h tk)(e:a<=b):OT c h (tk.take a++tk.drop b):=by
 have key:∀f:bI->Nat,((tk.take a).map f).sum+((tk.drop b).map f).sum<=(tk.map f).sum:=λf=>by
  have e1:((tk.take a).map f).sum+((tk.drop a).map f).sum=(tk.map f).sum:=by rw[<-df,<-aE,oo]
  have e2:(((tk.drop a).take<|b-a).map f).sum+(((tk.drop a).drop<|b-a).map f).sum=((tk.drop a).map f).sum:=by rw[<-df,<-aE,oo]
  rw[List.drop_drop,show a+(b-a)=b by lia]at e2;lia
 refine⟨λu hu=>?_,?_,?_⟩;rcases bS.mp hu with z |z;exact x.ok u<|pT z;exact x.ok u<|Cj z;have:=x.ch;have:=key List.length;unfold cT at*;rw[aE,df];lia;have:=x.ho;have:=key pO;unfold Rr at*;rw[aE,df];lia
def OT.ins{a b:TK}(x:OT c h (a++b))(y:OT c' h' [m]):OT (c+c') (h+h') (a++[m]++b):=by have z:=x.app y;refine⟨λu hu=>z.ok u (by simp at hu ⊢;rcases hu with q |q |q<;>simp[q]),?_,?_⟩;have:=z.ch;unfold cT at*;simp at*;lia;have:=z.ho;unfold Rr at*;simp at*;lia
def Oc(x:OT c h tk)(hm:OT 4 2 [m]):OT (c+4) (h+2) (spS tk a m w):=by unfold spS;split;exact(x.td<|by lia).up (by lia) (by lia);split;exact(x.td<|ao _).ins hm;exact(x.td<|by lia).ins hm
def DZ(x:OT c h tk)(xs:bR):∀k,OT (c+4*k) (h+2*k) (IG tk xs k)|0=>x|k+1=>(Oc (DZ x xs k)<|Oe<|OR _).up (by lia)<|by lia
def Od(x:OT c h tk)(xs:bR):OT (c+12) (h+6) (Qb tk xs):=(DZ x xs _).up (by lia)<|by lia
def nz(ds:aM)(d:D):Prop:=∃(tk:TK)(xs:bR),ds=[.lst<|ay tk,ja xs]/\xs.length=10/\OT 851 14 tk/\d=.lst (ay<|Qb tk xs)
def vX:∀ds d,nz ds d->ds.length=2:=by rintro _ _ ⟨_,_,rfl,_⟩;rfl
theorem Af(h:cG P w K mg base k nh jZ X)(VJ:mg "range"=none)(Vw:mg "len"=none)(XI:mg "list"=none):Go X nh jZ nz:=by
 rintro ds d ⟨tk,xs,rfl,hl,hq,rfl⟩;have t:=h.at';haveI:=h.VR;have b1:=h.bt VJ;have b2:=h.bt Vw;have b3:=h.bt XI;have hv:∀n:Nat,n<10->me (xs.map D.int) n=some (.int<|xs.getD n 0):=λn hn=>yd (by lia);show Vt X [.val<|.lst<|ay tk,.val<|ja xs,.un,.un,.un,.un,.un,.un] _ _;refine au (bg t 2<|Vp.eq (VD.V5<|bK<|ac Vo<|ac Vo<|ac Vo<|ac Vo<|ac Vo<|ac Vo<|ac Vo<|ac Vo<|ac Vo<|ac Vo<|ac Vo<|ac Vo<|ac Vo<|ac Vo<|ac Vo<|ac Vo<|ac Vo<|ac Vo af)<|aL D.lst Of)<|au (bg (d:=.lst<|ay ZR) t 2<|Vp.eq (VD.V5<|kJ (aa t 2) (Vp.eq (VD.V5<|bK<|ac Vo<|ac Vo<|ac Vo<|ac Vo<|ac Vo<|ac Vo<|ac Vo<|ac Vo<|ac Vo<|ac Vo<|ac Vo<|ac Vo<|ac Vo<|ac Vo<|ac Vo af)<|aL D.lst Ll)<|by decide)<|by rw[<-eD];rfl) ?_;refine au (jl t 3<|MG t b3<|Vp.ql<|aa t 0)<|fJ 3 rfl ?_;have er:1+xs.getD 0 0%3=((1+(xs.getD 0 0%3).toNat:Nat):Int):=by lia
 refine au (W1:=[.val<|.lst<|ay tk,.val<|ja xs,.val<|.lst<|ay ZR,.val<|.lst<|ay<|Qb tk xs,.un,.un,.un,.un]) (mC t (jO t b1 (Vp.eq (bB ah<|bJ (br (Vp.ql<|aa t 1) ah<|hv 0<|by lia) ah)<|aL D.int er) (by lia)<|by lia)<|VU.Wf (λj=>[.val<|.lst<|ay tk,.val<|ja xs,.val<|.lst<|ay ZR,.val<|.lst<|ay<|IG tk xs j,.un,.un,.un,.un]) (λj x e=>?_) rfl ?_)<|az<|bj<|aa t 3;obtain⟨hj,rfl⟩:=nR e;have hj3:j<3:=by lia
 have hfl:(IG tk xs j).length<=863:=aJ (DZ hq xs j).len (by lia);rw[show IG tk xs (j+1)=spS (IG tk xs j) (aS (IG tk xs j)<|xs.getD (1+3*j) 0) (mS<|xs.getD (2+3*j) 0) (xs.getD (3+3*j) 0%3)from rfl];generalize IG tk xs j=f at hfl;have ix:∀n:Nat,n<4->n+3*j=((n+3*j:Nat):Int):=λn hn=>by lia
 have ea:xs.getD (1+3*j) 0%(f.length+1)=((aS f (xs.getD (1+3*j) 0):Nat):Int):=by unfold aS;rw[kO<|jg _<|by lia]
 have al:aS f (xs.getD (1+3*j) 0)<=f.length:=by have:=tI (xs.getD (1+3*j) 0) (show 0<(f.length:Int)+1 by lia);lia
 have em:me (ay ZR) (xs.getD (2+3*j) 0%33)=some (.str<|S<|mS<|xs.getD (2+3*j) 0):=by
  have h28:(xs.getD (2+3*j) 0%33).toNat<ZR.length:=by show _<33;lia
  have:=mq h28;rwa[kO<|jg _<|by decide]at this
 generalize aS f (xs.getD (1+3*j) 0)=a at ea al;generalize mS (xs.getD (2+3*j) 0)=m at em;have e1:a+1=((a+1:Nat):Int):=by lia
 have c1:EV.cutD (ay f) none (some a)=ay (f.take a):=by rw[RD<|by rw[aQ];exact al];unfold ay;rw[DL]
 have c2:EV.cutD (ay f) (some a) none=ay (f.drop a):=by rw[BL];unfold ay;rw[pL]
 have c3:EV.cutD (ay f) (some<|a+1) none=ay (f.drop<|a+1):=by rw[e1,BL];unfold ay;rw[pL]
 have l1:(f.take a).length<=900:=by rw[dR];lia
 have l2:(f.drop a).length<=900:=by rw[bX];lia
 have l3:(f.drop<|a+1).length<=900:=by rw[bX];lia
 generalize hwy:xs.getD (3+3*j) 0%3=wy;refine⟨_,bq t 4,Vt.weak (Wp:=[.val<|.lst<|ay tk,.val<|ja xs,.val<|.lst<|ay ZR,.val<|.lst<|ay<|spS f a m wy,.val<|.int j,.val<|.int a,.val<|.str<|S m,.val<|.int wy]) (au (bg t 5<|Vp.eq (bJ (br (Vp.ql<|aa t 1) (Vp.eq (bB ah<|js ah (aa t 4)<|lP (by decide)<|by decide)<|aL D.int<|ix 1<|by decide)<|hv (1+3*j)<|by lia) (bB (eC t b2<|Vp.ql<|aa t 3) ah)<|by rw[aQ];lia)<|by rw[aQ,ea])<|au (bg t 6<|br (Vp.ql<|aa t 2) (bJ (br (Vp.ql<|aa t 1) (Vp.eq (bB ah<|js ah (aa t 4)<|lP (by decide)<|by decide)<|aL D.int<|ix 2<|by decide)<|hv (2+3*j)<|by lia)<|eC t b2<|Vp.ql<|aa t 2) em)<|au (bg t 7<|Vp.eq (bJ (br (Vp.ql<|aa t 1) (Vp.eq (bB ah<|js ah (aa t 4)<|lP (by decide)<|by decide)<|aL D.int<|ix 3<|by decide)<|hv (3+3*j)<|by lia) ah)<|by rw[hwy])<|az ?_)<|.keep<|.keep<|.keep<|.keep<|.forget<|.forget<|.forget<|.forget .nil⟩;by_cases w0:wy=0;refine dA (Vr.eq (dM (aa t 7) ah)<|ar w0)<|au (jl t 3<|VD.eq (kJ (Vp.eq (VD.V5<|fZ (Vp.ql<|aa t 3) eL<|c9<|aa t 5)<|aL D.lst c1) (Vp.eq (VD.V5<|fZ (Vp.ql<|aa t 3) (c9<|bB (aa t 5) ah) eL)<|aL D.lst c3)<|by rw[aQ,aQ];exact wR<|by lia)<|by rw[<-eD])<|fJ 3 rfl ?_;unfold spS;rw[ax w0];exact bQ;by_cases w1:wy=1;refine cj (Vr.eq (dM (aa t 7) ah)<|aj w0)<|az<|dA (Vr.eq (dM (aa t 7) ah)<|ar w1)<|au (jl t 3<|VD.eq (kJ (VD.V5<|kJ (Vp.eq (VD.V5<|fZ (Vp.ql<|aa t 3) eL<|c9<|aa t 5)<|aL D.lst c1) (VD.V5<|bK<|ac (aa t 6) af)<|by rw[aQ];exact wR) (Vp.eq (VD.V5<|fZ (Vp.ql<|aa t 3) (c9<|aa t 5) eL)<|aL D.lst c2)<|by rw[ag,aQ,aQ];exact wR) (show _=ay (f.take a++[m]++f.drop a)by rw[eD,eD];rfl))<|fJ 3 rfl ?_;unfold spS;rw[av w0,ax w1];exact bQ;refine cj (Vr.eq (dM (aa t 7) ah)<|aj w0)<|az<|cj (Vr.eq (dM (aa t 7) ah)<|aj w1)<|au (jl t 3<|VD.eq (kJ (VD.V5<|kJ (Vp.eq (VD.V5<|fZ (Vp.ql<|aa t 3) eL<|c9<|aa t 5)<|aL D.lst c1) (VD.V5<|bK<|ac (aa t 6) af)<|by rw[aQ];exact wR) (Vp.eq (VD.V5<|fZ (Vp.ql<|aa t 3) (c9<|bB (aa t 5) ah) eL)<|aL D.lst c3)<|by rw[ag,aQ,aQ];exact wR) (show _=ay (f.take a++[m]++f.drop (a+1))by rw[eD,eD];rfl))<|fJ 3 rfl ?_;unfold spS;rw[av w0,av w1];exact bQ;have e:(fu 0 ((1+(xs.getD 0 0%3).toNat:Nat):Int).toNat).length=1+(xs.getD 0 0%3).toNat:=by rw[bv];simp only[fu,ai,gU,HS]
 rw[e];rfl
theorem GB{xs:bR}{n a b:Nat}(h:xs.length=n)(ha:a<=b)(hb:b<=n):(og xs (some (a:Int))<|some (b:Int)).length=b-a:=by
 unfold og;have e1:HT.VI xs.length 0 (some (a:Int))=a:=by simp only[HT.VI];split<;>lia
 have e2:HT.VI xs.length xs.length (some (b:Int))=b:=by simp only[HT.VI];split<;>lia
 rw[dR,bX,e1,e2,h];lia
def Kt{xs:bR}{n:Nat}:EV.cutD (xs.map D.int) (some (n:Int)) none=(xs.drop n).map D.int:=by rw[BL,pL]
def rp(m:Nat)(W:TK):TK:=(List.replicate m W).flatten
def QY{xs:aM}(e:xs=ay W)(m:Nat):(List.replicate m xs).flatten=ay (rp m W):=by subst e;unfold rp;induction m with|zero=>rfl|succ m ih=>rw[bf,cB,ih,bf,cB,eD]
def OT.rp(x:OT c h W):∀m,OT (m*c) (m*h) (My.rp m W)|0=>by rw[HR,HR];exact .nil|m+1=>by unfold My.rp;rw[bf,cB,nF,nF,yo,yo<|m*h];exact x.app<|OT.rp x m
def Eh(xs:bR):Nat:=(xs.getD 2 0%31).toNat
def Tk:TK:=[[115,111,109,101],[120]]
def x0W:TK:=[[120],[61],[48]]
def Sz:TK:=[[97,110,100],[120],[61],[48],[93]]
def b3(tk:TK)(m:Nat):List TK:=[rp m [gS]++tk,rp m Tk++tk,rp m [[91]]++tk++rp m [[93]]]
def b4(tk:TK)(m:Nat):List TK:=b3 tk m++[rp m [[40]]++[[120]]++rp m [[41]]++[[61],[48]]]++[rp m [[91]]++x0W++rp m Sz]
def HX(tk:TK)(xs:bR):TK:=if xs.getD 1 0%7<4 then Qb tk (og xs (some 2)<|some 12)else if xs.getD 1 0%7=4 then(b4 tk<|Eh xs).getD (xs.getD 3 0%5).toNat []else tk
theorem RO{m:Nat}(h:OT 851 14 tk)(hm:m<=30):∀T∈b4 tk m,OT 1001 44 T:=by have o1:=(OT.one (u:=gS) (by decide) (c:=3) (by decide) (h:=1)<|by decide).rp m;have o2:=((OT.one (u:=[115,111,109,101]) (by decide) (c:=4) (by decide) (h:=1)<|by decide).app<|OT.one (u:=[120]) (by decide) (c:=1) (by decide) (h:=0)<|by decide).rp m;have o3:=(OT.one (u:=[91]) (by decide) (c:=1) (by decide) (h:=1)<|by decide).rp m;have o4:=(OT.one (u:=[93]) (by decide) (c:=1) (by decide) (h:=0)<|by decide).rp m;have o5:=(OT.one (u:=[40]) (by decide) (c:=1) (by decide) (h:=0)<|by decide).rp m;have o6:=(OT.one (u:=[41]) (by decide) (c:=1) (by decide) (h:=0)<|by decide).rp m;have o7:OT 3 0 x0W:=⟨by decide,by decide,by decide⟩;have o9:OT 1 0 [[120]]:=⟨by decide,by decide,by decide⟩;have oA:OT 2 0 [[61],[48]]:=⟨by decide,by decide,by decide⟩;intro T hT;simp only[b4,b3,bS,bc,List.not_mem_nil,or_false]at hT;rcases hT with((rfl |rfl |rfl) |rfl) |rfl;exact(o1.app h).up (by lia) (by lia);exact(o2.app h).up (by lia) (by lia);exact((o3.app h).app o4).up (by lia) (by lia);exact(((o5.app o9).app o6).app oA).up (by lia) (by lia);exact((o3.app o7).app<|(show OT 7 0 Sz from⟨by decide,by decide,by decide⟩).rp m).up (by lia)<|by lia
def KC(tk:TK)(m:Nat):(b4 tk m).length=5:=rfl
def DW(h:OT 851 14 tk)(xs:bR):OT 1001 44 (HX tk xs):=by
 unfold HX;split;exact(Od h _).up (by decide) (by decide);split;refine RO h (m:=Eh xs) (by unfold Eh;lia) _ ?_;have hl:(xs.getD 3 0%5).toNat<(b4 tk<|Eh xs).length:=by rw[KC];lia
 rw[List.getD_eq_getElem?_getD,List.getElem?_eq_getElem hl];exact fE hl;exact h.up (by decide)<|by decide
def TxG(cs:bI):Prop:=(∀c∈cs,c<128)/\cs.length<=4100/\fb L6 cs<=1001/\fb WT cs<=44
def Ir(h:OT 1001 44 tk)(xs:bR):TxG (ul tk xs)/\wT tk<=4100:=by have hl:=h.len;have hw:=SX tk;have hc:=h.ch;have j1:=JR tk xs;have j2:=FX (p:=L6) (by decide) tk xs;have j3:=FX (p:=WT) (by decide) tk xs;have j4:=TY tk;have j5:(tk.map<|fb WT).sum<=44:=h.ho;exact⟨⟨Ma h.ok xs,by lia,by lia,by lia⟩,by lia⟩
def aT(cs:bI)(x:Int):Nat:=(x%((cs.length:Int)+1)).toNat
def ins(cs:bI)(a:Nat):bI:=cs.take a++[32]++cs.drop a
def Sv(cs:bI)(a:Nat):bI:=cs.take a++cs.drop (a+1)
def Eo(cs:bI):bI:=((List.range<|cs.length-2).map (·+1)).filter λk=>decide (cs.getD k 0=32)&&(lo (cs.getD (k-1) 0)&&lo (cs.getD (k+1) 0))
def a6(cs:bI)(xs:bR):Nat:=(Eo cs++[aT cs<|xs.getD 5 0]).getD (xs.getD 6 0%((Eo cs).length+1:Int)).toNat 0
def QA(cs:bI)(xs:bR):bI:=if xs.getD 1 0%7=5 then ins cs (aT cs<|xs.getD 5 0)else if xs.getD 1 0%7=6 then Sv cs (a6 cs xs)else cs
def RX(cs:bI):Prop:=(∀c∈cs,c<128)/\cs.length<=4200/\fb L6 cs<=1001/\fb WT cs<=44
def TxG.h(h:TxG cs):RX cs:=⟨h.1,by have:=h.2.1;lia,h.2.2⟩
def AN(p:Nat->Bool)(cs:bI)(a:Nat):fb p (cs.take a)+fb p (cs.drop a)=fb p cs:=by rw[<-kE,oo]
theorem Qz(h:TxG cs)(xs:bR):RX (QA cs xs):=by
 unfold QA;have mt:∀a,∀c∈cs.take a,c<128:=λa c hc=>h.1 c<|pT hc;have md:∀a,∀c∈cs.drop a,c<128:=λa c hc=>h.1 c<|Cj hc;split;unfold ins;generalize aT cs (xs.getD 5 0)=a;have f1:=AN L6 cs a;have f2:=AN WT cs a;have z1:fb L6 [32]=0:=by decide
 have z2:fb WT [32]=0:=by decide
 let⟨h1,h2,h3,h4⟩:=h;refine⟨λc hc=>?_,by simp;lia,by rw[kE,kE];lia,by rw[kE,kE];lia⟩;rcases bS.mp hc with hc |hc;rcases bS.mp hc with hc |hc;exact mt a c hc;rw[bZ.mp hc];decide;exact md a c hc;split;unfold Sv;generalize a6 cs xs=a;have f1:=AN L6 cs a;have f2:=AN WT cs a;have g1:=AN L6 (cs.drop a) 1;have g2:=AN WT (cs.drop a) 1;rw[List.drop_drop]at g1 g2;let⟨h1,h2,h3,h4⟩:=h;refine⟨λc hc=>(bS.mp hc).elim (mt a c)<|md (a+1) c,by simp;lia,by rw[kE];lia,by rw[kE];lia⟩;exact h.h
def RA(xs:bR):Nat:=(xs.getD 0 0%4).toNat
def Sn(xs:bR):TK:=(yu (RA xs)<|xs.drop 40).1
def SZ(xs:bR):bI:=ul (HX (Sn xs) xs)<|og xs (some 12)<|some 30
def qQ(ds:aM)(d:D):Prop:=∃c:Int,ds=[.int c]/\d=.str (S<|QA (SZ<|lO c 140)<|lO c 140)
def zg:∀ds d,qQ ds d->ds.length=1:=by rintro _ _ ⟨_,rfl,_⟩;rfl
def Ld(xs:bR):RX (QA (SZ xs) xs):=Qz (Ir (DW (La (by unfold RA;lia) _) xs) _).1 xs
def GQ{n:Nat}:Txt.slice (S cs) (some (n:Int)) none=S (cs.drop n):=by
 by_cases h:n<=cs.length;exact Cg h;have e:Txt.slice (S cs) (some (n:Int)) none=Txt.slice (S cs) (some ((cs.length:Nat):Int)) none:=by
  unfold Txt.slice;have:Builtin.Str.strSliceIndices (some (n:Int)) none 1 (S cs).length=Builtin.Str.strSliceIndices (some ((cs.length:Nat):Int)) none 1 (S cs).length:=by rw[ce];unfold Builtin.Str.strSliceIndices;simp only[show(1:Int)>0 by decide,HN,show¬((n:Int)<0)by lia,show¬(((cs.length:Nat):Int)<0)by lia,HP];rw[show max 0 (min (n:Int) (cs.length:Int))=max 0 (min ((cs.length:Nat):Int) (cs.length:Int))by lia]
  rw[this]
 rw[e,Cg<|ao _,List.drop_length,List.drop_of_length_le<|by lia]
def Kw{cs:bI}{k:Nat}(h:k<cs.length):me (S cs).cps.toList (k:Int)=some (cs.getD k 0):=by rw[eQ];exact dJ<|by rw[List.getElem?_eq_getElem h,List.getD_eq_getElem?_getD,List.getElem?_eq_getElem h];rfl
def U7(cs:bI)(h:cs.length<=4200):(S cs).length<=sizeLine:=Wh<|by lia
theorem JP(n:Nat):fu 1 ((n:Int)-1-1).toNat=((List.range<|n-2).map (·+1)).map λk:Nat=>D.int (k:Int):=by rw[dP,show((n:Int)-1-1).toNat=n-2 by lia];apply DH;intro i _;show D.int (1+i)=D.int ((i+1:Nat):Int);congr 1;lia
def SJ:("some":Str)=S [115,111,109,101]:=rfl
def SM:("and":Str)=S [97,110,100]:=rfl
def NX:("=":Str)=S [61]:=rfl
theorem Dq(h:cG P w K mg base k qI mD X)(VJ:mg "range"=none)(Vw:mg "len"=none)(cN:EV.Callee X "_law_numbers" jA)(cS:VV X "_law_written" (hZ 4))(cP:EV.Callee X "_law_spoilt" nz)(cJ:EV.Callee X "_law_joined" nC):Go X qI mD qQ:=by
 rintro ds d ⟨c,rfl,rfl⟩;have t:=h.at';haveI:=h.VR;have b1:=h.bt VJ;have bL:=h.bt Vw;refine au (bg t 1<|aB t cN (ac (aa t 0)<|ac ah af) ⟨c,140,rfl,by decide,rfl⟩) ?_;have hxl:(lO c 140).length=140:=uT _ _;generalize lO c 140=xs at hxl;have hv:∀n:Nat,n<140->me (xs.map D.int) n=some (.int<|xs.getD n 0):=λn hn=>yd (by lia);have er:xs.getD 0 0%4=((RA xs:Nat):Int):=by unfold RA;lia
 have c18:=GB (a:=12) (b:=30) hxl (by lia) (by lia);have so:OT 851 14 (Sn xs):=La (by lia) _;refine au (bg (d:=.lst<|ay<|Sn xs) t 2<|Kc t cS (VD.eq (fZ (Vp.ql<|aa t 1) (c9 ah) eL)<|Kt) (ac (Vp.eq (bJ (br (Vp.ql<|aa t 1) ah<|hv 0<|by lia) ah)<|by rw[er]) af) ⟨RA xs,xs.drop 40,rfl,by lia,by lia,rfl,rfl,rfl⟩) ?_;have tj:=Ir (DW so xs)<|og xs (some 12)<|some 30;have to:=DW so xs;unfold SZ;generalize Sn xs=tk at so tj to;refine au (bg t 3<|bJ (br (Vp.ql<|aa t 1) ah<|hv 1<|by lia) ah) ?_;generalize hwy:xs.getD 1 0%7=wy;have hm4:xs.getD 2 0%31=((Eh xs:Nat):Int):=by unfold Eh;lia
 have zBO:Eh xs<=30:=by lia
 have hol:=so.len;refine au (W1:=[.val<|.int c,.val<|ja xs,.val<|.lst<|ay (if wy<4 then Qb tk (og xs (some 2)<|some 12)else tk),.val<|.int wy,.un,.un,.un,.un,.un]) ?_ ?_;by_cases q:wy<4;rw[ax q];exact dA (Vr.eq (io (aa t 3) ah)<|ar q)<|az<|bg t 2<|aB t cP (ac (aa t 2)<|ac (Vp.eq (VD.V5<|fZ (Vp.ql<|aa t 1) (c9 ah)<|c9 ah)<|by rw[uA]) af) ⟨tk,og xs (some 2)<|some 12,rfl,GB (a:=2) (b:=12) hxl (by lia)<|by lia,so,rfl⟩;rw[av q];exact cj (Vr.eq (io (aa t 3) ah)<|aj q) bQ;refine au (W1:=[.val<|.int c,.val<|ja xs,.val<|.lst<|ay<|HX tk xs,.val<|.int wy,.un,.un,.un,.un,.un]) ?_ ?_;by_cases q:wy=4;have e0:HX tk xs=(b4 tk<|Eh xs).getD (xs.getD 3 0%5).toNat []:=by unfold HX;rw[hwy,av<|by lia,ax q]
 rw[e0,av<|by lia];refine dA (Vr.eq (dM (aa t 3) ah)<|ar q) ?_;have ea:me ((b4 tk<|Eh xs).map λW=>D.lst<|ay W) (xs.getD 3 0%5)=some (.lst<|ay<|(b4 tk<|Eh xs).getD (xs.getD 3 0%5).toNat []):=by
  have hl:(xs.getD 3 0%5).toNat<(b4 tk<|Eh xs).length:=by rw[KC];lia
  let⟨n,hn⟩:=mh<|jg (xs.getD 3 0) (show 5≠0 by decide);rw[hn,bv]at hl;rw[hn,bv];exact dJ<|by rw[List.getElem?_map,List.getElem?_eq_getElem hl,List.getD_eq_getElem?_getD,List.getElem?_eq_getElem hl];rfl
 refine Vt.weak (Wp:=[.val<|.int c,.val<|ja xs,.val<|.lst<|ay<|(b4 tk<|Eh xs).getD (xs.getD 3 0%5).toNat [],.val<|.int wy,.val<|.int<|Eh xs,.own ((b4 tk<|Eh xs).map λW=>D.lst<|ay W),.un,.un,.un]) (au (bg t 4<|Vp.eq (bJ (br (Vp.ql<|aa t 1) ah<|hv 2<|by lia) ah)<|by rw[hm4]) ?_)<|.keep<|.keep<|.keep<|.keep<|.forget<|.forget<|.keep<|.keep<|.keep .nil;generalize hmm:Eh xs=m at zBO;have rep:∀{U:cE}{e:Expr}{ls:aM}{p1 p2:Pos}(W:TK),U[4]?=some (.val<|.int m)->Vp X U e (.lst ls)->ls=ay W->W.length<=5->Vp X U (.BinOp e .Mult (.Name "_law_many" p1) p2) (.lst<|ay<|rp m W):=λW hr he hW hl=>Vp.eq (VD.V5<|BG he (aa t 4 hr) (by lia) (by lia)<|by rw[hW,aQ,bv];exact wR<|aJ (tE hl zBO)<|by decide) (by rw[bv,QY hW]);have rl:∀(W:TK),W.length<=5->(rp m W).length<=150:=λW hW=>by unfold rp;rw[List.length_flatten,List.map_replicate,List.sum_replicate_nat];exact aJ (tE zBO hW)<|by decide
 have cat:∀{U:cE}{a b:Expr}{p:Pos}{ZB V:TK},Vp X U a (.lst<|ay ZB)->Vp X U b (.lst<|ay V)->ZB.length+V.length<=2000->Vp X U (.BinOp a .Add b p) (.lst<|ay<|ZB++V):=λha hb hl=>Vp.eq (VD.V5<|kJ ha hb<|by rw[aQ,aQ];exact wR<|by lia) (by rw[eD]);have YE:∀{U:cE}{z:Str}{j:Nat}{p1 p2:Pos}u,z=S u->Vp X U (.List [.Constant (.str z) j p1] p2) (.lst<|ay [u]):=λu e=>Vp.eq (VD.V5<|bK<|ac Vo af) (by rw[e];rfl);have nm:∀{U:cE}{p:Pos},U[2]?=some (.val<|.lst<|ay tk)->Vp X U (.Name "_law_tokens" p) (.lst<|ay tk):=λhr=>aa t 2 hr;have r1:=rl [gS] (by decide);have r2:=rl Tk (by decide);have r3:=rl [[91]] (by decide);have r4:=rl [[93]] (by decide);have r5:=rl [[40]] (by decide);have r6:=rl [[41]] (by decide);have r7:=rl Sz (by decide);refine au (bg t 5<|VD.V5<|bK<|ac (cat (rep [gS] rfl (YE gS AW) rfl<|by decide) (nm rfl)<|by lia)<|ac (cat (rep Tk rfl (VD.V5<|bK<|ac Vo<|ac Vo af) (by rw[SJ,NS];rfl)<|by decide) (nm rfl)<|by lia)<|ac (cat (cat (rep [[91]] rfl (YE [91] wN) rfl<|by decide) (nm rfl)<|by lia) (rep [[93]] rfl (YE [93] Ia) rfl<|by decide)<|by rw[ag];lia) af)<|au (jl (xs:=(b3 tk m++[rp m [[40]]++[[120]]++rp m [[41]]++[[61],[48]]]).map λW=>D.lst<|ay W) t 5<|VD.eq (kJ (aa t 5 rfl) (VD.V5<|bK<|ac (cat (cat (cat (rep [[40]] rfl (YE [40] SK) rfl<|by decide) (YE [120] NS)<|by simp;lia) (rep [[41]] rfl (YE [41] SL) rfl<|by decide)<|by rw[ag];simp;lia) (Vp.eq (VD.V5<|bK<|ac Vo<|ac Vo af) (show _=D.lst (ay [[61],[48]])by rw[NX,NZ];rfl))<|by rw[ag,ag];simp;lia) af) (show 3+1<=sizeLine by decide))<|by rw[aE];rfl) ?_;exact au (gz t 5 rfl (cat (cat (rep [[91]] rfl (YE [91] wN) rfl<|by decide) (Vp.eq (VD.V5<|bK<|ac Vo<|ac Vo<|ac Vo af) (show _=D.lst (ay x0W)by rw[NS,NX,NZ];rfl))<|by rw[show x0W.length=3 from rfl];lia) (rep Sz rfl (VD.V5<|bK<|ac Vo<|ac Vo<|ac Vo<|ac Vo<|ac Vo af) (by rw[SM,NS,NX,NZ,Ia];rfl)<|by decide)<|by rw[ag,show x0W.length=3 from rfl];lia) (show 4<sizeLine by decide))<|az (bg t 2<|br (lT t 5 rfl) (bJ (br (Vp.ql<|aa t 1) ah<|hv 3<|by lia) ah)<|hmm▸ea);have e0:HX tk xs=if wy<4 then Qb tk (og xs (some 2)<|some 12)else tk:=by unfold HX;rw[hwy,av q]
 rw[e0];exact cj (Vr.eq (dM (aa t 3) ah)<|aj q) bQ;refine au (bg t 6<|aB t cJ (ac (aa t 2)<|ac (Vp.eq (VD.V5<|fZ (Vp.ql<|aa t 1) (c9 ah)<|c9 ah)<|by rw[uA]) af) ⟨HX tk xs,og xs (some 12)<|some 30,rfl,c18,to.ok,tj.2,rfl⟩) ?_;have tg:=tj.1;generalize ul (HX tk xs) (og xs (some 12)<|some 30)=cs at tg;have hz:(S cs).length<=sizeLine:=U7 cs (by have:=tg.2.1;lia);have hcl:=tg.2.1;have ea:xs.getD 5 0%((cs.length:Int)+1)=((aT cs (xs.getD 5 0):Nat):Int):=by unfold aT;rw[kO<|jg _<|by lia]
 refine au (bg t 7<|Vp.eq (bJ (br (Vp.ql<|aa t 1) ah<|hv 5<|by lia) (bB (dX t bL (aa t 6) hz) ah)<|by rw[ce];lia)<|by rw[ce,ea]) ?_;have al:aT cs (xs.getD 5 0)<=cs.length:=by have:=tI (xs.getD 5 0) (show(0:Int)<(cs.length:Int)+1 by lia);lia
 unfold QA a6;generalize aT cs (xs.getD 5 0)=a at ea al;rw[hwy];by_cases q5:wy=5;rw[ax q5];refine au (dA (Vr.eq (dM (aa t 3) ah)<|ar q5)<|az<|bg t 6<|Vp.eq (oP (oP (uw (aa t 6) eL (c9<|aa t 7) hz) Vo ?_) (uw (aa t 6) (c9<|aa t 7) eL hz) ?_) ?_)<|au (cj (Vr.eq (dM (aa t 3) ah)<|aj<|by lia) bQ)<|az<|bj<|aa t 6;rw[KH,DP,ce,ce,dR];exact KU (by simp;lia);rw[KH,Cg al,DP,pK,ce,ce,ag,dR,bX];exact KU (by simp;lia);rw[KH,Cg al,DP,pK,pK];rfl;rw[av q5];refine au (cj (Vr.eq (dM (aa t 3) ah)<|aj q5) bQ) ?_;by_cases q6:wy=6;rw[ax q6];refine au (W1:=[.val<|.int c,.val<|ja xs,.val<|.lst<|ay<|HX tk xs,.val<|.int wy,.un,.un,.val<|.str<|S<|Sv cs<|(Eo cs++[a]).getD (xs.getD 6 0%((Eo cs).length+1:Int)).toNat 0,.un,.un]) (dA (Vr.eq (dM (aa t 3) ah)<|ar q6)<|au (bg t 8 Vo)<|au (Ay (rs:=(Eo cs).map λk:Nat=>D.int (k:Int)) t 5 ["_law_cell_here","_law_xs","_law_tokens","_law_way","_law_many","_law_some","_law_text_here","_law_at","_law_signs","_law_k"] (Hy<|by decide) (Hv t b1 ah (jM (dX t bL (aa t 6) hz) ah)<|by rw[ce];lia) (by rw[ce,JP,ai,ai,gU];exact lC<|by lia) λX' cx=>?_)<|fJ 5 rfl ?_)<|az<|bj<|aa t 6;rw[ce,JP];have mem:∀k∈(List.range<|cs.length-2).map (·+1),1<=k/\k+1<cs.length:=λk hk=>by obtain⟨i,hi,rfl⟩:=List.mem_map.mp hk;have:=List.mem_range.mp hi;lia
 have YU:∀k,k<cs.length->cs.getD k 0<128:=λk hk=>tg.1 _ (by rw[List.getD_eq_getElem?_getD,List.getElem?_eq_getElem hk];exact fE hk);exact VX.Zg (λk:Nat=>D.int (k:Int)) (λk:Nat=>D.int (k:Int)) (λk=>decide (cs.getD k 0=32)&&(lo (cs.getD (k-1) 0)&&lo (cs.getD (k+1) 0))) (λk=>[.val<|.int c,.val<|ja xs,.val<|.lst<|ay<|HX tk xs,.val<|.int wy,.un,.un,.val<|.str<|S cs,.val<|.int a,.val<|.str SG,.val<|.int (k:Int)]) _ _ (λx hx=>cD cx.at' 9) (λx hx y hy=>cD cx.at' 9) (λk hk=>by let⟨k1,k2⟩:=mem k hk;exact BF (Vr.eq (iz cx.at' (c7 (aa cx.at' 6 rfl) (aa cx.at' 9 rfl) hz<|Kw<|by lia) Vo (by intro z hz;rw[bZ.mp hz];exact YU k<|by lia) DP)<|by simp) (λ_=>kG (c7 (aa cx.at' 6 rfl) (Vp.eq (jM (aa cx.at' 9 rfl) ah)<|aL D.int (show(k:Int)-1=((k-1:Nat):Int)by lia)) hz<|Kw<|by lia) (aa cx.at' 8 rfl)<|uh _<|YU _<|by lia) λ_ _=>kG (c7 (aa cx.at' 6 rfl) (Vp.eq (bB (aa cx.at' 9 rfl) ah)<|aL D.int (show(k:Int)+1=((k+1:Nat):Int)by lia)) hz<|Kw<|by lia) (aa cx.at' 8 rfl)<|uh _<|YU _<|by lia) λk hk _=>aa cx.at' 9 rfl
 have kl:(Eo cs).length<=4200:=by unfold Eo;exact aJ (oq _ _)<|by rw[ai,gU];lia
 have ei:me ((Eo cs++[a]).map λk:Nat=>D.int (k:Int)) (xs.getD 6 0%((Eo cs).length+1:Int))=some (.int ((Eo cs++[a]).getD (xs.getD 6 0%((Eo cs).length+1:Int)).toNat 0:Nat)):=by
  let⟨n,hn⟩:=mh<|jg (xs.getD 6 0) (show((Eo cs).length+1:Int)≠0 by lia);have:=tI (xs.getD 6 0) (show(0:Int)<(Eo cs).length+1 by lia);have hl:n<(Eo cs++[a]).length:=by rw[ag];simp;lia
  rw[hn,bv];exact dJ<|by rw[List.getElem?_map,List.getElem?_eq_getElem hl,List.getD_eq_getElem?_getD,List.getElem?_eq_getElem hl];rfl
 generalize Eo cs=ks at kl ei;refine au (bg t 7<|br (VD.toQ<|VD.eq (kJ (aa t 5) (VD.V5<|bK<|ac (aa t 7) af)<|by rw[ai];exact wR) (show _=(ks++[a]).map λk:Nat=>D.int (k:Int)by rw[aE];rfl)) (bJ (br (Vp.ql<|aa t 1) ah<|hv 6<|by lia) (Vp.eq (bB (eC t bL<|Vp.ql<|aa t 5) ah)<|by rw[ai])<|by lia) ei) ?_;generalize(ks++[a]).getD (xs.getD 6 0%(ks.length+1:Int)).toNat 0=a';refine Vt.weak (az<|bg t 6<|Vp.eq (oP (uw (aa t 6) eL (c9<|aa t 7) hz) (uw (aa t 6) (c9<|Vp.eq (bB (aa t 7) ah)<|aL D.int (show(a':Int)+1=((a'+1:Nat):Int)by lia)) eL hz) ?_) ?_)<|.keep<|.keep<|.keep<|.keep<|.keep<|.forget<|.keep<|.forget<|.forget .nil;rw[KH,GQ,ce,ce,dR,bX];exact KU (by lia);rw[KH,GQ,pK];rfl;rw[av q6];exact au (cj (Vr.eq (dM (aa t 3) ah)<|aj q6) bQ)<|az<|bj<|aa t 6
def AV(ds:aM)(d:D):Prop:=∃ns:bR,ds=[.XF ns]/\ns.length<=63/\d=.bl true
def L9:∀ds d,AV ds d->ds.length=1:=by rintro _ _ ⟨_,rfl,_⟩;rfl
def JM(ns:bR)(h:ns.length<=63):AV [.XF ns] (.bl true):=⟨ns,rfl,h,rfl⟩
def CB(h:RX cs):lq [.str<|S cs] (.bl true):=⟨cs,rfl,h.1,by have:=h.2.1;lia,aJ h.2.2.1<|by decide,aJ h.2.2.2<|by decide,rfl⟩
def UQ:aM:=[.VH,.int 7,.lst [.str "x = 0"],.tup [.str "x",.str "=",.str "0"],.bl true,.tup [.str "is",.tup [.tup [.int 1]],.tup [.int 0]]]
def QB(x:Int):∃d,me UQ (x%6)=some d/\fT [d]:=by
 obtain⟨n,hn⟩:=mh<|jg x (show(6:Int)≠0 by decide);have n6:n<6:=by lia
 have go:∀{d:D},Pk d=true->JU d=false->fT [d]:=λ{d}h1 h2=>⟨d,rfl,.inl<|.inl ⟨h1,h2⟩⟩;rw[hn]
 match n,n6 with
 |0,_=>exact⟨_,rfl,go rfl rfl⟩|1,_=>exact⟨_,rfl,go rfl rfl⟩
 |2,_=>exact⟨_,rfl,go rfl rfl⟩|3,_=>exact⟨_,rfl,go rfl rfl⟩
 |4,_=>exact⟨_,rfl,go rfl rfl⟩|5,_=>exact⟨_,rfl,go rfl rfl⟩
 |n+6,h=>lia
def Ni(p:Nat->Bool)(h:p 32=false)(n:Nat):fb p (List.replicate n 32)=0:=by unfold fb;rw[mf,yp];exactλc hc=>by rw[(List.mem_replicate.mp hc).2,h];decide
def Qo:("x = 0":Str)=S [120,32,61,32,48]:=by decide
theorem RN(h:cG P w K mg base k KJ w8 X)(cC:EV.Callee X "_law_cell" qS)(cN:EV.Callee X "_law_numbers" jA)(cT:EV.Callee X "_law_text" qQ)(cR:EV.Callee X "_law_right" lq)(cF:EV.Callee X "_law_refused" jz):Go X KJ w8 AV:=by
 rintro ds d ⟨ns,rfl,hn,rfl⟩;have t:=h.at';haveI:=h.VR;show Vt X [.val<|.XF ns,.un,.un,.un,.un] _ _;have hz:=Kv ns (some 1)<|some 6;refine au (mC t (ds:=((vI ns 0)::og ns (some 1) (some 6)).map D.int) (qz<|Vp.eq (VD.V5<|kJ (VD.V5<|bK<|ac (aB t cC (ac (aa t 0)<|ac ah af) ⟨ns,0,rfl,by decide,by decide,rfl⟩) af) (Vp.eq (VD.V5<|fZ (Vp.qs<|aa t 0) (c9 ah)<|c9 ah)<|by rw[uA]) ?_) rfl) (VU.same [.val<|.XF ns,.un,.un,.un,.un] _ λd hd=>?_)) ?_;have:=JK;simp;lia;obtain⟨c,_,rfl⟩:=List.mem_map.mp hd;exact⟨_,bq t 1,Vt.weak (az<|cj (Vr.eq (lU<|fM<|aB t cR (ac (aB t cT (ac (aa t 1) af) ⟨c,rfl,rfl⟩) af)<|CB<|Ld<|lO c 140) rfl) bQ)<|.keep<|.forget<|.keep<|.keep<|.keep .nil⟩;have hxl:(lO (vI ns 0) 2).length=2:=uT _ _;refine au (bg t 2<|br (Vp.ql<|aB t cN (ac (aB t cC (ac (aa t 0)<|ac ah af) ⟨ns,0,rfl,by decide,by decide,rfl⟩)<|ac ah af) ⟨vI ns 0,2,rfl,by decide,rfl⟩) ah<|yd (n:=1)<|by lia) ?_;generalize(lO (vI ns 0) 2).getD 1 0=x;let⟨d,hd,hr⟩:=QB x;have em:2001-x / 6%4-5=((1996-(x / 6%4).toNat:Nat):Int):=by lia
 generalize hmm:1996-(x / 6%4).toNat=m at em;have hm:m<=1996:=by lia
 have tx:RX ([120,32,61,32,48]++List.replicate m 32):=by refine⟨λc hc=>?_,by simp;lia,by rw[kE,Ni _<|by decide];decide,by rw[kE,Ni _<|by decide];decide⟩;rcases bS.mp hc with hc |hc;exact(show∀c∈[120,32,61,32,48],c<128 by decide) c hc;rw[(List.mem_replicate.mp hc).2];decide
 refine au (bg t 3<|br (VD.toQ<|bK<|ac eJ<|ac ah<|ac (VD.V5<|bK<|ac Vo af)<|ac (aC<|ac Vo<|ac Vo<|ac Vo af)<|ac uy<|ac (aC<|ac Vo<|ac (aC<|ac (aC<|ac ah af) af)<|ac (aC<|ac ah af) af) af) (bJ (aa t 2) ah) hd)<|au (bg t 4<|jM ah<|bJ (iR t (aa t 2) ah) ah) (az<|bj<|Vp.eq (rq (BA t (Vp.p<|aB t cF (ac (aa t 3) af)<|.inl ⟨hr,rfl⟩) (Vp.p<|aC<|ac Vo<|ac uy af) (Xs.sh<|by decide) (Xs.sh<|by decide) Xs.2.2) λ_=>aB t cR (ac (Vp.eq (oP Vo (Ms (Vp.eq Vo<|by rw[DP]) (Vp.eq (jM (aa t 4) ah)<|aL D.int em) (by decide)<|by lia) ?_) ?_) af)<|CB tx) rfl);rw[Qo,ce,ce];exact KU (by simp;lia);rw[Qo,pK];have:(List.replicate m [32]).flatten=List.replicate m 32:=by clear em hmm hm tx;induction m with|zero=>rfl|succ m ih=>rw[bf,cB,ih,bf];rfl
 rw[this]
abbrev KT(K:eZ)(l:Addr)(ns:bR):Prop:=∃(od:Option Addr)(its:Array Value)(n:Nat)(sl:Array (Option Value)),K.lookup l=some ⟨.type "tuple",od,.seq its n,sl⟩/\its.size<=sizeLine/\Vals (ns.map V.int) its.toList
def KT.g(h:KT K l ns):Xd K l ns:=let⟨od,its,n,sl,h1,h2,h3⟩:=h;⟨_,its,n,h1,rfl,rfl,h2,h3⟩
def KT.mk{l:Addr}{ns:bR}(h1:K.lookup l=some ⟨.type "tuple",od,.seq its n,sl⟩)(h2:its.size<=sizeLine)(h3:Vals (ns.map V.int) its.toList):KT K l ns:=⟨od,its,n,sl,h1,h2,h3⟩
inductive XR(p:Params)(K:eZ):List DictEntry->List (bI×bR)->List (bI×Addr)->Prop where
 |nil:XR p K [] [] []
 |cons {z:Str} {tk:Tok} {l:Addr} {u:bI} {ns:bR} {es:List DictEntry} {cs:List (bI×bR)} {ls:List (bI×Addr)}:z=S u->KT K l ns->XR p K es cs ls->XR p K (⟨PyData.keyHash p z,.str z tk,.ref l⟩::es) ((u,ns)::cs) ((u,l)::ls)
def XR.keys{p:Params}{es:List DictEntry}{cs:List (bI×bR)}{ls:List (bI×Addr)}(h:XR p K es cs ls):ls.map (·.1)=cs.map (·.1):=by induction h with|nil=>rfl|cons _ _ _ ih=>rw[bp,bp,ih]
def XR.at'{p:Params}{es:List DictEntry}{cs:List (bI×bR)}{ls:List (bI×Addr)}(h:XR p K es cs ls):(cs.map (·.1)).Nodup->∀q∈cs,∃l,OS ls q.1=some l/\Xd K l q.2:=by
 induction h with
 |nil=>exactλ_ _ z=>nomatch z
 |@cons z tk l u ns es cs ls _ hk _ ih=>intro nd q hq;rw[bp,gR]at nd;rcases bc.mp hq with rfl |hq;exact⟨l,by show(if u=u then _ else _)=_;rw[ax rfl],hk.g⟩;let⟨m,e1,e2⟩:=ih nd.2 q hq;have ne:u≠q.1:=λe=>nd.1<|e▸List.mem_map.mpr ⟨q,hq,rfl⟩;exact⟨m,by show(if u=q.1 then _ else _)=_;rw[av ne];exact e1,e2⟩
def FW:∀{ls:List (bI×Addr)},(ls.map (·.1)).Nodup->((u6<|uk ls).map (·.1)).Nodup|[],_=>.nil|(u,l)::ls,h=>by rw[bp,gR]at h;show(((Sum.inr (S u):nt))::(u6<|uk ls).map (·.1)).Nodup;rw[gR];refine⟨λz=>?_,FW h.2⟩;let⟨x,hx,e⟩:=List.mem_map.mp z;obtain⟨y,hy,rfl⟩:=List.mem_map.mp hx;obtain⟨v,hv,rfl⟩:=List.mem_map.mp hy;exact h.1<|List.mem_map.mpr ⟨v,hv,fG<|Vf e⟩
def XR.pairs{w:World}{es:List DictEntry}{cs:List (bI×bR)}{ls:List (bI×Addr)}(h:XR w.params K es cs ls):(∀e∈es,∃k,(la P w).is k e.key=true/\e.hash=(la P w).hash k)/\Pairs (la P w) es (u6<|uk ls):=by induction h with|nil=>exact⟨(λ_ z=>nomatch z),.nil⟩|@cons z tk l u ns es cs ls hz hk _ ih=>subst hz;refine⟨λe he=>?_,.cons (ly (S u) tk) rfl ih.2⟩;rcases bc.mp he with rfl |he;exact⟨Sum.inr<|S u,ly (S u) tk,rfl⟩;exact ih.1 e he
def ur{w:World}{q:Addr}{ls:List (bI×Addr)}(hq:(q==sysModules)=false)(e:K.lookup q=some ⟨.type "dict",none,.dict es ep,#[]⟩)(c:XR w.params K es.toList XN ls):Sc P w K q ls ep:=by
 have nd:(XN.map (·.1)).Nodup:=by decide
 refine⟨⟨hq,λh hk=>⟨_,es,hk _ _ e,⟨rfl,rfl,rfl⟩,rfl,λx hx=>?_,(c.pairs).2,FW<|by rw[c.keys];exact nd⟩⟩,c.keys,c.at' nd⟩;exact(c.pairs).1 x<|by simpa using hx
def Kp{T:TK}(h:∀i,i<=T.length->dp T i<=20)(a:Nat):dp T a<=20:=by
 by_cases q:a<=T.length;·exact h a q
 ·have e:T.take a=T.take T.length:=by rw[dO<|by lia,bW]
  unfold dp;rw[e];exact h _<|ao _
def W7.dpa(h:W7 T)(a:Nat):dp T a<=20:=Kp h.deep a
def Y9.dpa(h:Y9 T)(a:Nat):dp T a<=20:=Kp h.deep a
def EL{R:cn->aM->Int×aM->Prop}(h:DefX P w K mg base k N sc X)(F:dZ P w K mg base (E8 P w) j f fd ps (G6 K C R))(b:Bn K mg x f fd ps)(hj:j<=k:=by decide):di X x C R:=h.zIJ F hj b.m b.k b.b
def RM{ps:cn}{us:jh}(h:us.length=2)(k:∀a0 a1,bindArgs fd ⟨[a0,a1],[]⟩=pure (ps.zip [a0,a1])):bindArgs fd ⟨us,[]⟩=pure (ps.zip us):=match us,h with |[a0,a1],_=>k a0 a1
set_option maxHeartbeats 4000000 in
def all_mk{w:World}{l:PySem.W.OpenLaw}(ht:l.prog.given.tree=none)(X:K.In h)(G:h.Ns mainGlobals mg)(hfa:mg "law"=some (.ref fa))(d1:Kd K "without_end" jX f1 g1)(d2:Kd K "part_at" q8 f2 g2)(d3:Kd K "row_of" t7 f3 g3)(d4:Kd K "row_plus" oC f4 g4)(d5:Kd K "other_sign" kS f5 g5)(d6:Kd K "row_times" ki f6 g6)(d7:Kd K "board_of" oE f7 g7)(d8:Kd K "board_plus" kW f8 g8)(d9:Kd K "board_minus" jY f9 g9)(d10:Kd K "board_times" iD f10 g10)(d11:Kd K "told_anew" i7 f11 g11)(d12:Kd K "is_number" mB f12 g12)(d13:Kd K "end_of_run" kU f13 g13)(d14:Kd K "refuse_wrong_run" dB f14 g14)(d15:Kd K "token_at" jI f15 g15)(d16:Kd K "tokens_of" cb f16 g16)(d17:Kd K "refuse_deep" fR f17 g17)(d18:Kd K "reader_of" i8 f18 g18)(d19:Kd K "next_token" kT f19 g19)(d20:Kd K "take_token" kR f20 g20)(d21:Kd K "take_one_of" gG f21 g21)(d22:Kd K "refuse_more" gH f22 g22)(d23:Kd K "read_atom" i9 f23 g23)(d24:Kd K "read_power" ig f24 g24)(d25:Kd K "read_factor" gJ f25 g25)(d26:Kd K "read_product" ge f26 g26)(d27:Kd K "read_sum" jJ f27 g27)(d28:Kd K "atom_of" q9 f28 g28)(d29:Kd K "power_of_board" ii f29 g29)(d30:Kd K "take_term_step" ie f30 g30)(d31:Kd K "read_comparison" e8 f31 g31)(d32:Kd K "read_prefixes" cH f32 g32)(d33:Kd K "saying_ended" dn f33 g33)(d34:Kd K "read_steps" dW f34 g34)(d35:Kd K "take_step" mz f35 g35)(d36:Kd K "read_saying" gI f36 g36)(d37:Kd K "_law_cell" mI f37 g37)(d38:Kd K "_law_numbers" jq f38 g38)(d39:Kd K "_law_pick" mE f39 g39)(d40:Kd K "_law_factor" iF f40 g40)(d41:Kd K "_law_sum" oF f41 g41)(d42:Kd K "_law_written" jm f42 g42)(d43:Kd K "_law_joined" j0 f43 g43)(d44:Kd K "_law_marks" cV f44 g44)(d45:Kd K "_law_is_number" ik f45 g45)(d46:Kd K "_law_mark" mH f46 g46)(d47:Kd K "_law_open" mG f47 g47)(d48:Kd K "_law_tree_atom" ij f48 g48)(d49:Kd K "_law_tree_factor" fz f49 g49)(d50:Kd K "_law_tree_prod" cq f50 g50)(d51:Kd K "_law_tree_sum" cp f51 g51)(d52:Kd K "_law_bounds" j6 f52 g52)(d53:Kd K "_law_spoilt" jZ f53 g53)(d54:Kd K "_law_text" mD f54 g54)(d55:Kd K "_law_pair" mF f55 g55)(d56:Kd K "_law_saying" du f56 g56)(d57:Kd K "_law_due" oG f57 g57)(d58:Kd K "_law_small" jn f58 g58)(d59:Kd K "_law_shape" jo f59 g59)(d60:Kd K "_law_refused" jp f60 g60)(d61:Kd K "_law_right" kX f61 g61)(d62:Kd K "law" w8 f62 g62)(zA:nsIn K mainGlobals "len"=some none)(zB:nsIn K mainGlobals "tuple"=some none)(zC:nsIn K mainGlobals "max"=some none)(zD:nsIn K mainGlobals "range"=some none)(zE:nsIn K mainGlobals "enumerate"=some none)(zF:nsIn K mainGlobals "isinstance"=some none)(zG:nsIn K mainGlobals "all"=some none)(zH:nsIn K mainGlobals "str"=some none)(zI:nsIn K mainGlobals "list"=some none)(zJ:nsIn K mainGlobals "int"=some none)(zK:nsIn K mainGlobals "abs"=some none)(zL:nsIn K mainGlobals "min"=some none)(X7:nsIn K mainGlobals "ValueError"=some none)(zM:nsIn K mainGlobals "WORDS"=some (some<|.ref zN))(zO:K.lookup zN=some ⟨.type "tuple",zP,.seq zQ zR,zS⟩)(zT:ZZ K zQ.toList [.str "x",.str "y",.str "not",.str "and",.str "or",.str "some",.str "all"])(zU:nsIn K mainGlobals "DOUBLE_SIGNS"=some (some<|.ref zV))(zW:K.lookup zV=some ⟨.type "tuple",zX,.seq zY zZ,yA⟩)(yB:ZZ K zY.toList [.str "<=",.str ">=",.str "!="]){yC:List (bI×Addr)}(yD:nsIn K mainGlobals "COMPARISONS"=some (some<|.ref yE))(yF:K.lookup yE=some ⟨.type "dict",none,.dict yG yH,#[]⟩)(yI:(yE==sysModules)=false)(yJ:XR w.params K yG.toList XN yC)(yK:nsIn K mainGlobals "FIGURES"=some (some<|.str ("0123456789":Str) yL))(yM:nsIn K mainGlobals "MOST_OPEN"=some (some<|.int 20 yN))(yO:nsIn K mainGlobals "MOST_MINUSES"=some (some<|.int 20 yP))(yQ:nsIn K mainGlobals "MOST_PREFIXES"=some (some<|.int 20 yR))(yS:nsIn K mainGlobals "MOST_SIGNS"=some (some<|.int 2000 yT))(eR:nsIn K mainGlobals "Reader"=some (some<|.ref cR))(r1:makesIn K cR=true)(r2:findIn K (.ref cR) "__init__"=some (some<|.ref fI))(r3:isFn K (.ref fI)=true)(r4:keepIn K (.ref cR)=true)(r5:plainGet K cR Str.empty=true)(r6:hasDictIn K cR=true)(r7:plainOver K cR=true)(r8:findIn K (.ref cR) "__setattr__"=some (some<|.builtin "object.__setattr__"))(r9:findIn K (.ref cR) "tokens"=some none)(r10:findIn K (.ref cR) "done"=some none)(r11:findIn K (.ref cR) "steps"=some none)(lI:K.lookup fI=some ⟨ocI,odI,.func<|fnOf "__init__" "Reader.__init__" (ju iG) (aW iG) (aq iG) .none kVI dcI pmI anI cdI ctI,slI⟩)(cI:codeIn K cdI "Reader.__init__"=true)(kI:keepIn K (.ref fI)=true)(Yq:nsIn K mainGlobals "NoText"=some (some<|.ref VE))(q_NoText:excIn K VE vB vN=true)(Ya:nsIn K mainGlobals "StackError"=some (some<|.ref Wu))(q_StackError:excIn K Wu vB vN=true)(Zs:mroIn K VE (.ref Wu)=some true)(ZI:nsIn K mainGlobals "NoKind"=some (some<|.ref X5))(t_NoKind:kitOne K (.ref VE) (.ref X5)=some false)(ZH:nsIn K mainGlobals "NoLine"=some (some<|.ref X4))(t_NoLine:kitOne K (.ref VE) (.ref X4)=some false)(zAC:nsIn K mainGlobals "NoRow"=some (some<|.ref Ys))(t_NoRow:kitOne K (.ref VE) (.ref Ys)=some false)(t_T:kitOne K (.ref VE) (.ref VE)=some true)(t_V:kitOne K (.ref VE) (.type "ValueError")=some true)(x_NoText:rR K VE):∃fd:FuncData,(∀(s:Shared)(v:Value),BindsTo s fd ⟨[v],[]⟩ [("_law_script",v)])/\∀base:Heap,K.In base->base.Ns mainGlobals mg->dZ l.prog w K mg base jd 512 fa fd ["_law_script"] (G7 K AV):=by
 have e:=hfa.symm.trans<|bh X G d62.a;cases e;have yU:=ck X G zA;have yV:=ck X G zB;have yW:=ck X G zC;have yX:=ck X G zD;have yY:=ck X G zE;have yZ:=ck X G zF;have vA:=ck X G zG;have vC:=ck X G zH;have vD:=ck X G zI;have vE:=ck X G zJ;have vF:=ck X G zK;have vG:=ck X G zL;have WL:=ck X G X7;have b1:=d1.b2 X G pW;have b2:=d2.b3 X G wZ;have b3:=d3.b1 X G Ax;have b4:=d4.b2 X G vt;have b5:=d5.b1 X G rW;have b6:=d6.b2 X G tU;have b7:=d7.b1 X G vv;have b8:=d8.b2 X G rZ;have b9:=d9.b2 X G pZ;have b10:=d10.b2 X G pY;have b11:=d11.b1 X G ox;have b12:=d12.b1 X G tV;have b13:=d13.b2 X G rY;have b14:=d14.b1 X G iw;have b15:=d15.b2 X G pX;have b16:=d16.b1 X G oy;have b17:=d17.b3 X G lF;have b18:=d18.b2 X G oz;have Y4:=d19.b1 X G rX;have YB:=d20.b1 X G rV;have Y3:=d21.b2 X G lD;have b22:=d22.b1 X G lE;have b23:=d23.b1 X G oB;have b24:=d24.b1 X G mT;have b25:=d25.b1 X G lH;have b26:=d26.b1 X G kB;have b27:=d27.b1 X G kh;have b28:=d28.b1 X G w5;have b29:=d29.b2 X G mv;have b30:=d30.b2 X G mr;have b31:=d31.b1 X G iU;have b32:=d32.b1 X G jG;have b33:=d33.b2 X G kA;have b34:=d34.b1 X G mR;have b35:=d35.b2 X G tT;have b36:=d36.b1 X G lG;have b37:=d37.b2 X G t6;have b38:=d38.b2 X G pG;have b39:=d39.b1 X G tX;have b40:=d40.b2 X G lK;have b41:=d41.b2 X G p0;have b42:=d42.b2 X G kC;have b43:=d43.b2 X G qb;have b44:=d44.b1 X G sg;have b45:=d45.b1 X G my;have b46:=d46.b2 X G t5;have b47:=d47.b3 X G t4;have b48:=d48.b2 X G mx;have b49:=d49.b2 X G kP;have b50:=d50.b2 X G mw;have b51:=d51.b2 X G jH;have b52:=d52.b1 X G lL;have b53:=d53.b2 X G qa;have b54:=d54.b1 X G tW;have b55:=d55.b2 X G tY;have b56:=d56.b2 X G lJ;have b57:=d57.b1 X G vw;have b58:=d58.b1 X G mU;have b59:=d59.b1 X G mV;have b60:=d60.b1 X G pF;have b61:=d61.b1 X G se;obtain⟨_,_,kV,dc,pm,an,cd,ct,_,rfl,_,_⟩:=d62.F.ex;refine⟨fnOf "law" "law" (ju w8) (aW w8) (aq w8) .none kV dc pm an cd ct,λs v=>.of_eq rfl,λbase KB _=>?_⟩;have FI:=J3 (st:=iG) lI cI kI;have bdI:=FI.binds (ps:=["self","tokens"]) λ_ _ _ _ _ _ us hl=>RM hl λ_ _=>rfl;have okI:dZ l.prog w K mg base jd 1 _ _ _ (A4 cR):=Mj ht FI w6 ⟨r5,r6,r7,r8⟩ r9 r10 r11 rfl rfl rfl;have Wc:OwnCls "NoText" VE vB vN mg base:=FL KB (bh X G Yq) q_NoText;have Yc:OwnCls "StackError" Wu vB vN mg base:=FL KB (bh X G Ya) q_StackError;have f_X:=@Ml l.prog ht w K mg base;have XJ:=@Mm l.prog ht w K mg base;have zD8:=@J5 l.prog ht w K mg base;have f_:=@Rw l.prog ht w K mg base;have f_O:=@Pb l.prog ht w K mg base;have zHK:=@Mn l.prog ht w K mg base;have YZ:=@Pa l.prog ht w K mg base;have zD9:=@Mp l.prog ht w K mg base;have zHL:=@Mo l.prog ht w K mg base;have f_S:=@O9 l.prog ht w K mg base;have o1:=f_ (k:=0) d1.F pW vR λ_ Z=>Aa Z yU yV;have o2:=f_ (k:=0) d2.F wZ CV λ_ Z=>HG Z yU;have o3:=f_ (k:=1) d3.F Ax En λ_ Z=>KA Z  (Z.ca o1 b1);have o4:=f_ (k:=2) d4.F vt Bo λ_ Z=>ES Z yW yU yX (Z.ca o3 b3)<|Z.ca o2 b2;have o5:=f_ (k:=0) d5.F rW xu λ_ Z=>B6 Z yV;have o6:=f_ (k:=2) d6.F tU zb λ_ Z=>Do Z yY yU<|Z.ca o3 b3;have o7:=f_ (k:=1) d7.F vv Bp λ_ Z=>ET Z  (Z.ca o1 b1);have o8:=f_ (k:=3) d8.F rZ xA λ_ Z=>B8 Z yW yU yX (Z.ca o7 b7) (Z.ca o4 b4)<|Z.ca o2 b2;have o9:=f_ (k:=4) d9.F pZ vW λ_ Z=>Ae Z yV (Z.ca o8 b8)<|Z.ca o5 b5;have o10:=f_ (k:=3) d10.F pY vV λ_ Z=>Ad Z yY yU (Z.ca o7 b7) (Z.ca o4 b4)<|Z.ca o6 b6;have p11:=f_ (k:=0) d11.F ox (sk (K:=K) 1) λ_ Z=>B5 Z yZ yV;have o11:=f_ (k:=1) d11.F ox (sk (K:=K) 2) λ_ Z=>B4 Z yZ yV<|Z.ca p11 b11;have o12:=f_ (k:=0) d12.F tV zf λ_ Z=>Dp Z   ⟨yL,bh X G yK⟩;have o13:=f_ (k:=0) d13.F rY xz λ_ Z=>B7 Z yU;have o14:=f_O (k:=0) d14.F iw qk λ_ Z=>sV Z vA yU  ⟨zN,bh X G zM,.tup zO rfl rfl zT⟩ ⟨yL,bh X G yK⟩;have zFN:=f_X (k:=0) d14.F iw pN λ_ Z=>rQ Z vA yU ⟨zN,bh X G zM,.tup zO rfl rfl zT⟩ ⟨yL,bh X G yK⟩ Wc;have o15:=f_ (k:=1) d15.F pX Bm λ_ Z=>ER Z  (Z.ca o14 b14) (Z.ca o13 b13) ⟨zV,bh X G zU,.tup zW rfl rfl yB⟩;have xAt:=f_X (k:=1) d15.F pX y9 λ_ Z=>Dk Z (Z.caX zFN b14)<|Z.ca o13 b13;have o16:=f_ (k:=2) d16.F oy za λ_ Z=>Dn Z yU<|Z.ca o15 b15;have zFK:=f_X (k:=2) d16.F oy xp λ_ Z=>BU Z yU (Z.ca o15 b15)<|Z.caX xAt b15;have o17:=f_O (k:=0) d17.F lF vU λ_ Z=>Ab Z   ⟨yN,bh X G yM⟩;have zCL:=f_X (k:=0) d17.F lF uZ λ_ Z=>xZ Z ⟨yN,bh X G yM⟩ Wc;have o18:=zHK (k:=5) d18.F oz ze λ_ Z=>B1 Z yZ vC yU (Z.ca o16 b16) (Z.ca o17 b17)<|Z.mkR okI (by decide) ⟨r1,r2,r3,r4⟩ (bh X G eR) bdI ⟨r5,r6,r7,r8⟩ r9 r10 r11;have xRd:=f_X (k:=5) d18.F oz xq λ_ Z=>BV Z yZ vC yU (Z.ca o16 b16) (Z.caX zFK b16) (Z.ca o17 b17) (Z.caX zCL b17) Wc;have YX:=YZ (k:=0) d19.F rX xw λ_ Z=>z7 Z yU;have Yz:=YZ (k:=1) d20.F rV xr λ_ Z=>zy Z  (Z.V8 YX Y4);have o21:=YZ (k:=2) d21.F lD vS λ_ Z=>xU Z  (Z.V8 Yz YB);have Zm:=XJ (k:=2) d21.F lD uX λ_ Z=>xX Z (Z.V8 Yz YB) Wc;have o22:=YZ (k:=0) d22.F lE vT λ_ Z=>xV Z yU;have zCK:=XJ (k:=0) d22.F lE uY λ_ Z=>xY Z yU Wc;have qr:∀n,dZ l.prog w K mg base jd (5*n+5) f27 g27 ["reader"] (QQ K<|CZ g n)/\dZ l.prog w K mg base (E8 l.prog w) (5*n+5) f27 g27 ["reader"] (G6 K VE<|RZ g n):=λn=>by
  induction n with|zero=>exact⟨YZ (k:=4) d27.F kh CZ.len λ_ _ _ _ _ _ _ _ z=>by obtain⟨T,a,_,_,_,_,hT,_,hd,_⟩:=z;exact absurd (hT.dpa a)<|by lia,XJ (k:=4) d27.F kh RZ.len λ_ _ _ _ _ _ z=>by obtain⟨T,a,_,_,hT,_,hd,_⟩:=z;exact absurd (hT.dpa a)<|by lia⟩|succ n ih=>
  obtain⟨ih,ihx⟩:=ih;have o1:=YZ (k:=5*n+5) d23.F oB (CZ.len (G:=GA) (n:=n+1)) λ_ Z=>BS Z (Z.V8 Yz YB<|by lia) (Z.V8 ih b27<|by lia) (Z.V8 o21 Y3<|by lia)<|Z.ca o12 b12 (by lia);have x1:=XJ (k:=5*n+5) (C:=VE) d23.F oB (RZ.len (G:=GA) (n:=n+1)) λ_ Z=>BW Z (Z.V8 Yz YB<|by lia) (Z.V8 ih b27<|by lia) (EL Z ihx b27<|by lia) (EL Z Zm Y3<|by lia) (Z.ca o12 b12<|by lia) Wc;have o2:=YZ (k:=5*n+6) d24.F mT (CZ.len (G:=GW) (n:=n+1)) λ_ Z=>z6 Z vD (Z.V8 o1 b23<|by lia) (Z.V8 YX Y4<|by lia) (Z.V8 Yz YB<|by lia) (Z.V8 o21 Y3<|by lia) ⟨yL,bh X G yK⟩;have x2:=XJ (k:=5*n+6) (C:=VE) d24.F mT (RZ.len (G:=GW) (n:=n+1)) λ_ Z=>z9 Z vD (Z.V8 o1 b23<|by lia) (EL Z x1 b23<|by lia) (Z.V8 YX Y4<|by lia) (Z.V8 Yz YB<|by lia) (EL Z Zm Y3<|by lia) ⟨yL,bh X G yK⟩;have o3:=YZ (k:=5*n+7) d25.F lH (CZ.len (G:=GF) (n:=n+1)) λ_ Z=>xW Z (Z.V8 o2 b24<|by lia) (Z.V8 YX Y4<|by lia) (Z.V8 Yz YB<|by lia) ⟨yP,bh X G yO⟩;have x3:=XJ (k:=5*n+7) (C:=VE) d25.F lH (RZ.len (G:=GF) (n:=n+1)) λ_ Z=>x9 Z (EL Z x2 b24<|by lia) (Z.V8 YX Y4<|by lia) (Z.V8 Yz YB<|by lia) ⟨yP,bh X G yO⟩ Wc;have o4:=YZ (k:=5*n+8) d26.F kB (CZ.len (G:=My.GP) (n:=n+1)) λ_ Z=>v6 Z (Z.V8 o3 b25<|by lia) (Z.V8 YX Y4<|by lia)<|Z.V8 Yz YB (by lia);have x4:=XJ (k:=5*n+8) (C:=VE) d26.F kB (RZ.len (G:=My.GP) (n:=n+1)) λ_ Z=>v8 Z (Z.V8 o3 b25<|by lia) (EL Z x3 b25<|by lia) (Z.V8 YX Y4<|by lia)<|Z.V8 Yz YB (by lia);have o5:=YZ (k:=5*n+9) d27.F kh (CZ.len (G:=g) (n:=n+1)) λ_ Z=>Dj Z (Z.V8 o4 b26<|by lia) (Z.V8 YX Y4<|by lia)<|Z.V8 Yz YB (by lia);have x5:=XJ (k:=5*n+9) (C:=VE) d27.F kh (RZ.len (G:=g) (n:=n+1)) λ_ Z=>Dl Z (Z.V8 o4 b26<|by lia) (EL Z x4 b26<|by lia) (Z.V8 YX Y4<|by lia)<|Z.V8 Yz YB (by lia);rw[show 5*(n+1)+5=5*n+9+1 by lia];exact⟨o5,x5⟩
 obtain⟨o27,zFL⟩:=qr 21;have o28:=f_ (k:=0) d28.F w5 CW λ_ Z=>HH Z vE;have o29:=f_ (k:=4) d29.F mv sM λ_ Z=>vg Z yX<|Z.ca o10 b10;have o30:=zD9 (k:=5) d30.F mr rfl λ_ Z=>uD Z vE (Z.ca o10 b10) (Z.ca o9 b9) (Z.ca o8 b8) (Z.ca o29 b29)<|Z.ca o28 b28;have o31:=YZ (k:=110) d31.F iU rN λ_ Z=>sT Z  (Z.V8 o27 b27) (Z.V8 o21 Y3)<|CU Z.at' (kL<|by rw[Z.V3];exact vD) (by rw[Z.V3];exact bh X G yD) (by obtain⟨_,e1,e2,e3,_⟩:=Z;rw[e1,e2,e3];exact(ur (P:=l.prog) (w:=w) yI yF yJ).WI) (ur (P:=l.prog) (w:=w) yI yF yJ).keys rfl;have zFQ:=XJ (k:=110) d31.F iU qj λ_ Z=>sU Z (Z.V8 o27 b27) (EL Z zFL b27) (Z.V8 o21 Y3) (EL Z Zm Y3)<|CU Z.at' (kL<|by rw[Z.V3];exact vD) (by rw[Z.V3];exact bh X G yD) (by obtain⟨_,e1,e2,e3,_⟩:=Z;rw[e1,e2,e3];exact(ur (P:=l.prog) (w:=w) yI yF yJ).WI) (ur (P:=l.prog) (w:=w) yI yF yJ).keys rfl;have o32:=YZ (k:=3) d32.F jG ui λ_ Z=>ve Z yU (Z.V8 YX Y4) (Z.V8 Yz YB) (Z.V8 o21 Y3) ⟨yR,bh X G yQ⟩;have zFO:=XJ (k:=3) d32.F jG sL λ_ Z=>vf Z yU (Z.V8 YX Y4) (Z.V8 Yz YB) (Z.V8 o21 Y3) (EL Z Zm Y3) ⟨yR,bh X G yQ⟩ Wc;have o33:=zHL (k:=3) d33.F kA rfl λ_ Z=>wb Z  (Z.V8 o21 Y3);have zFP:=zD8 (k:=3) d33.F kA rfl λ_ Z=>v7 Z (Z.V8 o21 Y3)<|EL Z Zm Y3;have o34:=YZ (k:=111) d34.F mR xt λ_ Z=>zz Z  (Z.V8 o32 b32) (Z.V8 YX Y4) (Z.V8 Yz YB) (Z.V8 o31 b31)<|Z.zEM o33 b33;have zA1:=XJ (k:=111) d34.F mR vQ λ_ Z=>z8 Z (Z.V8 o32 b32) (EL Z zFO b32) (Z.V8 YX Y4) (Z.V8 Yz YB) (Z.V8 o31 b31) (EL Z zFQ b31) (Z.zEM o33 b33)<|Z.zEL zFP (by decide) b33.m b33.k b33.b;have o35:=zD9 (k:=6) d35.F tT rfl λ_ Z=>B3 Z  (Z.ca o9 b9) (Z.ca o11 b11) (Z.zEN o30 b30) (bh X G yD)<|ur yI yF yJ;have o36:=f_ (k:=112) d36.F lG pI λ_ Z=>Ac Z  (Z.zEK o18 b18) (Z.V8 o34 b34) (Z.V8 o22 b22) (Z.zEN o35 b35) ⟨yT,bh X G yS⟩;have zFM:=f_X (k:=112) d36.F lG nW λ_ Z=>x8 Z (Z.zEK o18 b18) (Z.caX xRd b18) (Z.V8 o34 b34) (EL Z zA1 b34) (EL Z zCK b22) ⟨yT,bh X G yS⟩;have o37:=f_ (k:=0) d37.F t6 zk λ_ Z=>Dv Z yU;have o38:=f_ (k:=0) d38.F pG u4 λ_ Z=>yc Z yX vF vE;have o39:=f_S (k:=0) d39.F tX zh λ_ Z=>BZ Z;have zHS:=f_S (k:=1) d40.F lK (pJ 0) λ_ Z=>qD Z (.inl rfl) vC (Z.Zi o39 b39) λm e=>nomatch e;have zED:=f_S (k:=2) d41.F p0 (uj 0) λ_ Z=>vJ Z (.inl rfl) yX (Z.Zi zHS b40)<|Z.Zi o39 b39;have zHR:=f_S (k:=3) d40.F lK (pJ 1) λ_ Z=>qD Z (.inr rfl) vC (Z.Zi o39 b39) (λm e=>by cases e;exact(Z.Zi zED b41));have zHQ:=f_S (k:=4) d41.F p0 (uj 1) λ_ Z=>vJ Z (.inr rfl) yX (Z.Zi zHR b40)<|Z.Zi o39 b39;have q42:∀n,dZ l.prog w K mg base jd (n+5) f42 g42 ["_law_state","_law_deep"] (L2.EV.spS K<|hZ n):=λn=>by induction n with |zero=>exact f_S d42.F kC (nX 0) (λ_ _ _ _ _ _ _ z=>by obtain⟨_,_,_,h,_⟩:=z;lia) |succ n ih=>exact f_S d42.F kC (nX<|n+1) λ_ Z=>v9 Z (Z.Zi o39 b39<|by lia) n (Z.Zi ih b42<|by lia) (Z.Zi zED b41<|by lia)<|Z.Zi zHQ b41<|by lia
 have o42:=q42 4;have o43:=f_ (k:=0) d43.F qb vY λ_ Z=>Ah Z yX yU;have o44:=f_ (k:=0) d44.F sg xC λ_ Z=>Cc Z yU;have o45:=f_ (k:=0) d45.F my sN λ_ Z=>vj Z yU vA;have o46:=f_ (k:=0) d46.F t5 zj λ_ Z=>Du Z yU;have o47:=f_ (k:=0) d47.F t4 zi λ_ Z=>Dt Z vE yW;have zFZ:∀n,dZ l.prog w K mg base jd (4*n+1) f51 g51 ["_law_marks_here","_law_at"] (G7 K<|LC g n):=λn=>by
  induction n with|zero=>exact f_ (k:=0) d51.F jH LC.len (λ_ _ _ _ z=>by obtain⟨T,a,_,ok,hd,_⟩:=z;exact absurd (ok.dpa a)<|by lia)|succ n ih=>
  have o1:=f_ (k:=4*n+1) d48.F mx (LC.len (G:=GA) (n:=n+1)) λ_ Z=>vi Z (Z.ca o46 b46<|by lia) (Z.ca o45 b45<|by lia)<|Z.ca ih b51 (by lia);have o2:=f_ (k:=4*n+2) d49.F kP (LC.len (G:=GF) (n:=n+1)) λ_ Z=>sW Z yU vE (Z.ca o46 b46<|by lia)<|Z.ca o1 b48 (by lia);have o3:=f_ (k:=4*n+3) d50.F mw (LC.len (G:=My.GP) (n:=n+1)) λ_ Z=>vh Z (Z.ca o46 b46<|by lia)<|Z.ca o2 b49 (by lia);have o4:=f_ (k:=4*n+4) d51.F jH (LC.len (G:=g) (n:=n+1)) λ_ Z=>wc Z vE (Z.ca o46 b46<|by lia)<|Z.ca o3 b50 (by lia);rw[show 4*(n+1)+1=4*n+4+1 by lia];exact o4
 have o51:=zFZ 21;have q52:∀n,dZ l.prog w K mg base jd (n+1) f52 g52 ["_law_tree"] (G7 K<|BC n):=λn=>by induction n with |zero=>exact f_ (k:=0) d52.F lL BC.len (λ_ _ _ _ z=>by obtain⟨t,_,_,hd,_⟩:=z;exact absurd (Uz t)<|by lia) |succ n ih=>rw[show n+1+1=n+1+1 by lia];exact f_ (k:=n+1) d52.F lL BC.len λ_ Z=>Ai Z yW vG vE yX<|Z.ca ih b52<|by lia
 have o52:=q52 508;have o53:=f_ (k:=0) d53.F qa vX λ_ Z=>Af Z yX yU vD;have o54:=f_ (k:=10) d54.F tW zg λ_ Z=>Dq Z yX yU (Z.ca o38 b38) (Z.Zi o42 b42) (Z.ca o53 b53)<|Z.ca o43 b43;have zF0:∀n,dZ l.prog w K mg base jd (2*n+85) f56 g56 ["_law_marks_here","_law_at"] (G7 K<|LY n):=λn=>by
  induction n with|zero=>exact f_ (k:=84) d56.F lJ LY.len (λ_ _ _ _ z=>by obtain⟨T,a,_,_,h,_,hd,_⟩:=z;exact absurd (h.1 a)<|by lia)|succ n ih=>
  have o1:=f_ (k:=2*n+85) d55.F tY (LP.len (n:=n)) λ_ Z=>Ds Z (Z.ca ih b56<|by lia)<|Z.ca o46 b46 (by lia);have o2:=f_ (k:=2*n+86) d56.F lJ (LY.len (n:=n+1)) λ_ Z=>Ag Z yU vE yV (Z.ca o46 b46<|by lia) (Z.ca o1 b55<|by lia)<|Z.ca o51 b51 (by lia);rw[show 2*(n+1)+85=2*n+86+1 by lia];exact o2
 have o56:=zF0 21;have o57:=f_ (k:=136) d57.F vw Bq λ_ Z=>EU Z vA yU (Z.ca o44 b44) (Z.ca o56 b56) (Z.ca o47 b47)<|Z.ca o45 b45;have q58:∀n,dZ l.prog w K mg base jd (n+2) f58 g58 ["_law_found"] (G7 K<|SC n):=λn=>by induction n with |zero=>exact f_ (k:=1) d58.F mU SC.len (λ_ _ _ _ z=>by obtain⟨y,_,_,hd,_⟩:=z;exact absurd (U6 y)<|by lia) |succ n ih=>rw[show n+1+2=n+2+1 by lia];exact f_ (k:=n+2) d58.F mU SC.len λ_ Z=>B9 Z vA yW yZ yV (Z.ca (q52 n) b52<|by lia)<|Z.ca ih b58<|by lia
 have o58:=q58 508;have q59:∀n,dZ l.prog w K mg base jd (n+1) f59 g59 ["_law_saying_here"] (G7 K<|HC n):=λn=>by induction n with |zero=>exact f_ (k:=0) d59.F mV HC.len (λ_ _ _ _ z=>by obtain⟨y,_,_,_,_,hd,_⟩:=z;exact absurd (U0 y)<|by lia) |succ n ih=>rw[show n+1+1=n+1+1 by lia];exact f_ (k:=n+1) d59.F mV HC.len λ_ Z=>Ca Z yV yU yZ<|Z.ca ih b59<|by lia
 have o59:=q59 52;have o60:=f_ (k:=113) d60.F pF nZ λ_ Z=>yb Z yZ WL x_NoText (bh X G Yq) t_T t_V ⟨⟨X5,bh X G ZI,t_NoKind⟩⟩ ⟨⟨X4,bh X G ZH,t_NoLine⟩⟩ ⟨⟨Ys,bh X G zAC,t_NoRow⟩⟩ (Z.ca o36 b36) (Z.caX zFM b36) Yc Zs;have o61:=f_ (k:=510) d61.F se xB λ_ Z=>Cb Z (Z.ca o57 b57) (Z.ca o60 b60) (Z.ca o58 b58)<|Z.ca o59 b59;exact f_ d62.F Oi L9 λ_ Z=>RN Z (Z.ca o37 b37) (Z.ca o38 b38) (Z.ca o54 b54) (Z.ca o61 b61)<|Z.ca o60 b60
def walk{q:Program}{l:PySem.W.OpenLaw}{XP:(Str->Option Value)->Heap->Prop}{YP:World->Heap->Prop}{d:DefRec}{K:Params->eZ}(hq:importsNone q=true)(hn:l.most=some 63)(hdf:d.params.defaults=[])(hY:∀(w:World)(h:Heap),YP w h->(K w.params).In h)(F:∀(w:World)(mg:tK)(fa:Addr)(h:Heap),(K w.params).In h->h.Ns mainGlobals mg->mg d.name=some (.ref fa)->∃fd:FuncData,(∀(s:Shared)(u:Value),BindsTo s fd ⟨[u],[]⟩ [("_law_script",u)])/\∀base:Heap,(K w.params).In base->base.Ns mainGlobals mg->dZ l.prog w (K w.params) mg base jd 512 fa fd ["_law_script"] (G7 (K w.params) AV)):PySem.W.WalkO q loose XP YP l.row.toRowW d [] (λf vs=>PySem.call f vs):=L2.Z1 (n:=63) (k:=512) (x:="_law_script") (CX:=λ_=>jd) (sp:=λw=>G7 (K w.params) AV) hq hn (by decide) hdf ⟨rfl,by decide,by decide⟩ hY F (λ_ H a ns hl hO hS=>⟨H,[.XF ns],.bl true,.refl _,.cons (.XF hS) .nil,JM ns hl,λv F' H' x r=>by cases r;rfl⟩) λ_ _ _ _ _ z=>z
end My
def PySem.W.Fast.tw3643104268844089461:PySem.Program:=PySem.Challenge.pw_planestacks_k35_texts_of_no_sayings
def PySem.W.Fast.te3643104268844089461:PySem.Challenge.pw_planestacks_k35_texts_of_no_sayings=PySem.W.Fast.tw3643104268844089461:=rfl
structure PySem.W.Fast:Prop where(tw14799822622724631679 te6453668318047573024 tw5624881937225959699 tw10094784455516795734 tw4166997703644469605 tw4370442010817393602 tw2774084573553466131 tw16159526500925633914 tw10058195842880524073 tw13605326121254249355 tw15614443381106308535 tw1273507857783441709 tw186552787368520027 tw7488893474064724452 tw8649672979816620732 tw8652654121093351233 tw10781250706974988484 tw16000983311221606224 tw14725153937699016324 tw8131719727716657436 tw7141376129976959018 tw9899710915691482141 tw12293199847848489807 tw5344235784103177377 tw1146820246311126537 tw15406773008780073139 tw3698782475491647725 tw1437275496968582552 tw13244239522544595347 tw8033786607698281653 tw1532323853643600381 tw2697541771607644091 tw347369693381888695 tw6824321071931506050 tw17194482249326650004 tw17095305450836959075 tw15222896703038956278 tw5593070715832265239 tw4672232259867099972 tw8006213179662119408 tw5684245509624344351 tw8128811516943508452 tw12103412702760241270 tw12860880084837472887 tw9393701824057876251 tw5419258251801907616 tw15704281624285306010 tw4438406630892901995 tw9710757710672940054 tw10633763586783105868 tw7266431469319588286 tw15883753550659117600 tw12712459559023762913 tw5812414176384605205 tw5462005205817201661 tw17115008661824014890 tw9864455488125729806 tw15718342431776367579 tw8843983184648793700 tw3253001927740291614 tw3867164595400786155 tw2738403282215923948 tw18332560138996736585 tw4001414232046133628 tw4170440674196504110 tw5394967165442845655 tw3221697232050759896 tw5822230832107614170 tw7555965623686000600 tw9248910698369727436 tw4144835236327045089 tw12315460251319573197 tw11239816120499698505 tw17561779511009018678 tw13915250621976521044 tw6660640460982030535 tw3568271153332104824 tw12193534893580366243 tw7779699049309119394 tw18202772303741044630 tw5241119716185803051 tw18375568891977160924 tw63212691368243665 tw10654389236307485229 tw2684558533561669121 tw11602984540943262456 tw6851007692256843505 tw18163900610370843341 tw7614776605013393867 tw5408738184653015015 tw7498567775829254315 tw8935847066074357952 tw13287551327129462709 tw13186448573598049664 tw2927901570330145731 tw3283144702903464112 tw10155895287743396914 tw15239525901388529719 tw3230781104033182292 tw15851320208160425126 tw17187722298584067567 tw6436987607476433666 tw11850425504496838863 tw7579244064948355645 tw8823585646999273918 tw14520191939232825240 tw13865198048732381670 tw12541273895512807133 tw10120183706868436132 tw430307834165864290 tw6664294984274893591 tw12304097387303788099 tw1884125973482543710 tw3399501125268837930 tw12873405635470557764 tw12763463461169010878 tw11949686387511845827 tw6714833965986096677 tw10920530124683876509 tw14106084179235144203 tw3362840892646914867 tw3310566021678286226 tw14057921834415434655 tw7376915831255877923 tw11286147466199971908 tw6198246909769655598 tw9455044018225374198 tw16877519367792079317 tw6481710912265297178 tw1867115196047442855 tw13631434413479475423 tw15535601300616785147 tw13749320935681139371 tw17589969193939681996 tw6194802536906016493 tw17373985957542011267 tw10006112703856758528 tw10591112476380719622 tw5719969046482597582 tw4175408163862181203 tw10078181900382010930 tw2078261126814311980 tw13027615835985931998 tw14352589322962444702 tw6790200317111112632 tw18345579467342408152 tw280480967161517509 tw3617749027790857397 tw4803843833073497552 tw986912311894086517:True)
open PySem PySem.W PyProof.Rows
set_option maxRecDepth 100000 in
set_option maxHeartbeats 0 in
theorem PySem.Challenge.cw_planestacks_k35_texts_of_no_sayings_holds : PySem.Challenge.rw_planestacks_k35_texts_of_no_sayings.Holds := by
 w_on; o_law; k_head; (case hw => w_witness2)
 k_fill
 refine My.walk (l := PySem.Challenge.rw_planestacks_k35_texts_of_no_sayings) (by decide +kernel) rfl rfl (fun w h Y => PySem.W.kIn_of Y) ?F
 case F =>
  intro w mg fa h KX G hmg
  refine' My.all_mk rfl KX G hmg ?_ ?_ ?_ ?_ ?_ ?_ ?_ ?_ ?_ ?_ ?_ ?_ ?_ ?_ ?_ ?_ ?_ ?_ ?_ ?_ ?_ ?_ ?_ ?_ ?_ ?_ ?_ ?_ ?_ ?_ ?_ ?_ ?_ ?_ ?_ ?_ ?_ ?_ ?_ ?_ ?_ ?_ ?_ ?_ ?_ ?_ ?_ ?_ ?_ ?_ ?_ ?_ ?_ ?_ ?_ ?_ ?_ ?_ ?_ ?_ ?_ ?_ ?_ ?_ ?_ ?_ ?_ ?_ ?_ ?_ ?_ ?_ ?_ ?_ ?_ ?_ ?_ ?gp_WORDS ?_ ?_ ?gp_DOUBLE_SIGNS ?_ ?_ ?gb_COMPARISONS ?gt_COMPARISONS ?_ ?_ ?_ ?_ ?_ ?_ ?_ ?_ ?_ ?_ ?_ ?_ ?_ ?_ ?_ ?_ ?_ ?_ ?_ ?_ ?_ ?q_NoText ?_ ?q_StackError ?_ ?_ ?t_NoKind ?_ ?t_NoLine ?_ ?t_NoRow ?t_T ?t_V ?x_NoText
  all_goals try refine' L2.EV.kd ?_ ?_ ?_ ?_
  all_goals try k_is
  (case q_NoText => k_exc)
  (case q_StackError => k_exc)
  (case t_NoKind => kit_is)
  (case t_NoLine => kit_is)
  (case t_NoRow => kit_is)
  (case t_T => kit_is)
  (case t_V => kit_is)
  (case x_NoText => refine' ⟨?x1, ?x2, ?x3, ?x4, ?x5⟩; (case x1 => k_is); (case x2 => k_is); (case x3 => k_is); (case x4 => k_is); (case x5 => k_is))
  (case gp_WORDS => refine' (.cons (.str _ _) (.cons (.str _ _) (.cons (.str _ _) (.cons (.str _ _) (.cons (.str _ _) (.cons (.str _ _) (.cons (.str _ _) .nil))))))))
  (case gp_DOUBLE_SIGNS => refine' (.cons (.str _ _) (.cons (.str _ _) (.cons (.str _ _) .nil))))
  (case gb_COMPARISONS => decide)
  (case gt_COMPARISONS => refine' (.cons (by decide +kernel) (My.KT.mk ?ha0 ?hb0 ?hc0) (.cons (by decide +kernel) (My.KT.mk ?ha1 ?hb1 ?hc1) (.cons (by decide +kernel) (My.KT.mk ?ha2 ?hb2 ?hc2) (.cons (by decide +kernel) (My.KT.mk ?ha3 ?hb3 ?hc3) (.cons (by decide +kernel) (My.KT.mk ?ha4 ?hb4 ?hc4) (.cons (by decide +kernel) (My.KT.mk ?ha5 ?hb5 ?hc5) .nil)))))); (case ha0 => k_is); (case hb0 => exact Nat.le_of_ble_eq_true rfl); (case hc0 => exact .cons ⟨_, rfl⟩ (.nil)); (case ha1 => k_is); (case hb1 => exact Nat.le_of_ble_eq_true rfl); (case hc1 => exact .cons ⟨_, rfl⟩ (.nil)); (case ha2 => k_is); (case hb2 => exact Nat.le_of_ble_eq_true rfl); (case hc2 => exact .cons ⟨_, rfl⟩ (.nil)); (case ha3 => k_is); (case hb3 => exact Nat.le_of_ble_eq_true rfl); (case hc3 => exact .cons ⟨_, rfl⟩ (.cons ⟨_, rfl⟩ (.nil))); (case ha4 => k_is); (case hb4 => exact Nat.le_of_ble_eq_true rfl); (case hc4 => exact .cons ⟨_, rfl⟩ (.cons ⟨_, rfl⟩ (.nil))); (case ha5 => k_is); (case hb5 => exact Nat.le_of_ble_eq_true rfl); (case hc5 => exact .cons ⟨_, rfl⟩ (.cons ⟨_, rfl⟩ (.nil))))
