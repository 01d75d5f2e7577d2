import PyProof.Rows.All
import Wide.All
import OpenK.AllK
import Wide.FinOn
import Lean
import PyProof.EqAt
import PyProof.EqKinds
import PyProof.TupleCall
import PySem.Challenge.RW_planestacks_k36_whole_sayings_shown_and
abbrev ac:=@List.length_append
abbrev ae:=@PySem.wpAny_bind
abbrev af:=@List.length_map
abbrev ah:=@List.getD_eq_getElem?_getD
abbrev ak:=@Nat.le_refl
abbrev ao:=@decide_eq_false
abbrev aq:=@if_neg
abbrev ar:=@PySem.Heap.get?_push_of_some
abbrev au:=@PySem.wpAny_pure
abbrev av:=@List.getElem?_set_ne
abbrev ax:=@List.append_assoc
abbrev ay:=@if_pos
abbrev az:=@List.getElem?_eq_some_iff
abbrev aB:=@decide_eq_true
abbrev aC:=@List.mem_cons
abbrev aD:=@List.getElem?_eq_getElem
abbrev aE:=@Bool.false_ne_true
abbrev aH:=@List.size_toArray
abbrev aI:=@List.getElem?_map
abbrev aL:=@Nat.le_trans
abbrev aM:=@List.mem_append
abbrev aO:=@PySem.Heap.get?_push_size
abbrev aQ:=@decide_eq_false_iff_not
abbrev aS:=@List.map_cons
abbrev aU:=@List.append_nil
abbrev aW:=@PySem.Heap.lt_size
abbrev aX:=@List.map_append
abbrev aY:=@List.mem_cons_of_mem
abbrev aZ:=@List.getElem?_eq_none
abbrev a5:=@List.length_cons
abbrev a6:=@List.mem_map
abbrev a7:=@List.mem_singleton
abbrev a9:=@List.getElem?_set_self
abbrev bc:=@List.eq_nil_of_length_eq_zero
abbrev be:=@List.getElem?_append_right
abbrev bf:=@Nat.lt_of_lt_of_le
abbrev bg:=@List.getElem?_append_left
abbrev bh:=@decide_eq_true_eq
abbrev bi:=@Nat.ne_of_lt
abbrev bj:=@beq_eq_false_iff_ne
abbrev bu:=@Nat.zero_le
abbrev bv:=@List.replicate_succ
abbrev bz:=@List.take_length
abbrev bA:=@List.mem_append_right
abbrev bB:=@Option.some.inj
abbrev bC:=@List.length_set
abbrev bJ:=@congrArg
abbrev bK:=@List.mem_cons_self
abbrev bL:=@List.length_singleton
abbrev bM:=@PySem.F.plainAttrs_list
abbrev bN:=@List.getElem?_set_self'
abbrev bO:=@List.length_pos_iff
abbrev bR:=@PySem.wpAny_holding
abbrev bV:=@PySem.W.mg_of
abbrev bX:=@PySem.wpAny_newObj_type
abbrev bZ:=@Array.length_toList
abbrev cj:=@decide_eq_decide
abbrev ck:=@List.drop_eq_getElem_cons
abbrev cn:=@PySem.W.mg_none_of
abbrev cq:=@PySem.W.kia_one
abbrev cv:=@List.length_take
abbrev cy:=@Option.some_ne_none
abbrev cz:=@List.eq_nil_or_concat
abbrev cD:=@List.map_map
abbrev cJ:=@List.mem_of_getElem?
abbrev cM:=@PySem.wpAny_callSpecial?_slot
abbrev cS:=@List.lookup_cons
abbrev cX:=@Nat.le_of_ble_eq_true
abbrev cY:=@List.concat_eq_append
abbrev c8:=@List.nodup_cons
abbrev c9:=@List.find?_cons
abbrev dg:=@List.mem_of_mem_take
abbrev dj:=@List.length_drop
abbrev dk:=@List.getElem?_replicate
abbrev dy:=@Int.toNat_natCast
abbrev dz:=@List.length_reverse
abbrev dF:=@List.take_append_drop
abbrev dL:=@Nat.lt_of_le_of_lt
abbrev dM:=@Bool.and_eq_true
abbrev dP:=@PyProof.Rows.subscriptTail_builtinR
abbrev dY:=@PySem.wpAny_call_entry
abbrev dZ:=@List.flatten_cons
abbrev eC:=@List.getElem?_range
abbrev eD:=@PySem.Heap.size_push
abbrev eY:=@List.take_of_length_le
abbrev eZ:=@Nat.lt_irrefl
abbrev e8:=@Nat.lt_succ_self
abbrev fh:=@List.length_replicate
abbrev fw:=@PySem.wpAny_field
abbrev fC:=@List.length_nil
abbrev fF:=@Prod.ext
abbrev fL:=@PyProof.Rows.slot_tuple_getitem
abbrev fU:=@PySem.mem_of_lookup
abbrev gd:=@PySem.wpAny_of_eq
abbrev gI:=@Nat.le_of_eq
abbrev gO:=@Int.natCast_add
abbrev il:=@PySem.wpAny_typeNameOfWhole_keyiter
abbrev im:=@PyProof.Rows.callWith_type1
abbrev io:=@Nat.lt_succ_of_lt
abbrev iq:=@PySem.Heap.get?_update_other
abbrev iF:=@PySem.wpAny_passesOwn
abbrev iG:=@PySem.wpAny_loadPart'
abbrev iH:=@PySem.F.slot_dict_keyiterator_next
abbrev i6:=@PySem.wpAny_standAt
abbrev je:=@Nat.lt_trans
abbrev jf:=@List.not_mem_nil
abbrev jg:=@List.mem_reverse
abbrev jh:=@PySem.wpAny_truthy_bool
abbrev jt:=@List.filterMap_cons
abbrev jP:=@PySem.wpAny_mono
abbrev jQ:=@PySem.sizeLine_eq
abbrev jR:=@PySem.F.type_list_append
abbrev jS:=@PySem.F.slot_list_append
abbrev jT:=@PySem.F.slot_tuple_iterator_next
abbrev jY:=@List.range_succ
abbrev lC:=@PySem.F.plainAttrs_str
abbrev lD:=@Nat.sub_self
abbrev lE:=@Nat.le_of_lt
abbrev lF:=@List.reverse_cons
abbrev lG:=@List.length_range
abbrev lH:=@List.drop_eq_nil_of_le
abbrev lJ:=@Int.zero_add
abbrev l7:=@PySem.tupleKind_room_in1
abbrev l9:=@PySem.F.type_list_pop
abbrev ma:=@PySem.F.slot_list_pop
abbrev me:=@Array.getElem?_toList
abbrev m3:=@List.drop_length
abbrev nh:=@PySem.SeqAt.canLay_of_shaped
abbrev ni:=@List.dropLast_concat
abbrev oI:=@List.forIn_cons
abbrev oJ:=@List.foldl_cons
abbrev pc:=@List.map_congr_left
abbrev pd:=@PySem.Heap.get?_update_self
abbrev pj:=@Nat.ne_of_gt
abbrev pP:=@PySem.strLen_append
abbrev qj:=@List.mem_range
abbrev qk:=@Int.emod_lt_of_pos
abbrev se:=@Classical.byContradiction
abbrev tf:=@Nat.add_assoc
abbrev t9:=@PySem.wpAny_pyIter_tuple
abbrev ua:=@PySem.wpAny_Call_Name_kw
abbrev ub:=@Nat.not_lt_of_le
abbrev uc:=@Nat.min_le_right
abbrev ud:=@List.take_append
abbrev ue:=@List.mem_flatMap
abbrev vY:=@beq_iff_eq
abbrev vZ:=@Nat.succ_mul
abbrev v4:=@List.dropWhile_sublist
abbrev v6:=@Int.emod_nonneg
abbrev v7:=@Bool.eq_iff_iff
abbrev y8:=@Nat.pow_le_pow_right
abbrev y9:=@List.take_zero
abbrev za:=@List.take_succ
abbrev zb:=@List.drop_zero
abbrev zj:=@PyProof.Rows.joinParts_cons
abbrev zk:=@eq_comm
abbrev AS:=@PySem.call_meets
abbrev AT:=@Nat.add_le_add_left
abbrev AU:=@List.getElem_of_mem
abbrev AV:=@List.flatMap_append
abbrev AW:=@Int.toNat_of_nonneg
abbrev AX:=@PySem.Calls.callWith_builtin
abbrev A0:=@PySem.wpAny_execs_nil
abbrev A1:=@List.cons.inj
abbrev A2:=@Int.mul_assoc
abbrev A3:=@Bool.or_false
abbrev B5:=@List.mem_replicate
abbrev Ee:=@PySem.wpAny_setField
abbrev Ef:=@PySem.wpAny_alloc
abbrev Eg:=@or_false
abbrev Eh:=@if_false
abbrev Ei:=@PySem.W.kitx_dict
abbrev Ej:=@Nat.lt_or_ge
abbrev Ek:=@List.foldl_append
abbrev Eo:=@List.replicate_append_replicate
abbrev GR:=@PySem.pairTrees_cons_walk
abbrev GS:=@Nat.succ_le_succ
abbrev GT:=@Nat.and_two_pow_sub_one_eq_mod
abbrev GU:=@List.map_reverse
abbrev GV:=@List.getElem_mem
abbrev GW:=@List.all_eq_true
abbrev G5:=@PySem.wpAny_attempt
abbrev G6:=@List.take_append_of_le_length
abbrev IZ:=@PySem.wpAny_getItem_heap
abbrev I0:=@PySem.pairTrees_nil_walk
abbrev I9:=@List.sum_append
abbrev Ja:=@List.of_mem_zip
abbrev Jb:=@PySem.Calls.Constant_str
abbrev JJ:=@if_true
abbrev LV:=@PySem.wpAny_typeOf
abbrev LW:=@PySem.wpAny_pyIter_list
abbrev LX:=@PySem.wpAny_dictEntries
abbrev LY:=@PySem.seqIndex_neg
abbrev LZ:=@PySem.dictDisplay_pairs
abbrev L0:=@PySem.codeAny_mono
abbrev L1:=@Nat.mul_le_mul
abbrev L3:=@List.drop_drop
abbrev L4:=@Bool.and_false
abbrev Mf:=@List.mem_or_eq_of_mem_set
abbrev Mg:=@List.getLast?_eq_some_iff
abbrev Mh:=@List.getLast?_eq_none_iff
abbrev Mi:=@PyProof.Rows.FormattedValue_plain
abbrev NO:=@PySem.wpAny_isInstance
abbrev NP:=@PySem.pairTrees_length
abbrev NQ:=@PySem.F.type_list_extend
abbrev NR:=@PySem.F.slot_list_extend
abbrev NS:=@PySem.Heap.DictOfH.new
abbrev NT:=@PySem.F.args_dict_keyiterator_next_1
abbrev N4:=@PySem.seqIndex_of
abbrev N5:=@PySem.F.entry_dict_keyiterator_next
abbrev Pg:=@PySem.wpAny_dictEpoch
abbrev Ph:=@PySem.W.cellsFrom_some
abbrev Pi:=@PySem.F.slot_str_split
abbrev Pj:=@Option.map_eq_some_iff
abbrev Pm:=@Nat.pow_succ
abbrev Pn:=@List.append_eq_nil_iff
abbrev Po:=@PySem.F.args_tuple_iterator_next_1
abbrev PH:=@PyProof.Rows.assignInOrder_cons
abbrev PJ:=@PyProof.Rows.Subscript_
abbrev PL:=@PySem.F.slot_dict_get
abbrev PM:=@List.filterMap_append
abbrev PN:=@List.dropLast_eq_take
abbrev PP:=@PySem.F.entry_tuple_iterator_next
abbrev Qb:=@PySem.typeIs_str
abbrev Qc:=@PySem.isSubtype_stop
abbrev Qd:=@Sum.inr.inj
abbrev Qe:=@List.replicate_succ'
abbrev Qf:=@List.mem_append_left
abbrev Qg:=@Int.mul_one
abbrev Qh:=@Int.mul_add
abbrev Qi:=@PySem.F.slot_range_iterator_next
abbrev Qj:=@PySem.Calls.Name_function_global
abbrev Qm:=@PySem.W.shaped_ints
abbrev Qn:=@Nat.mul_le_mul_left
local macro_rules | `(tactic| omega)=>`(tactic| lia)
set_option Elab.async false
set_option linter.all false
set_option maxRecDepth 100000
namespace L2
open PySem PySem.Spec PyProof.Rows
abbrev rX:=Sum Int Str
def xr:rX->Value->Bool
 |.inl k,v=>Value.isInt k v
 |.inr x,v=>Value.isStrOf x v
def OG(w:World):rX->Int
 |.inl k=>hashInt k
 |.inr x=>hashStr w x
theorem dD:∀{k:rX} {v:Value},xr k v=true->(∃i t,k=Sum.inl i/\v=Value.int i t)\/(∃x t,k=Sum.inr x/\v=Value.str x t)
 |.inl i,v,h=>by
  obtain⟨t,e⟩:=Value.isInt_shape (k:=i) (v:=v) h
  exact .inl ⟨i,t,rfl,e⟩
 |.inr x,v,h=>by
  obtain⟨t,e⟩:=Value.isStrOf_shape (x:=x) (v:=v) h
  exact .inr ⟨x,t,rfl,e⟩
theorem oX(x:Str)(t:Tok):xr (.inr x) (.str x t)=true:=by simp[xr,Value.isStrOf]
theorem K0(a b:Int):decide ((Sum.inl a:rX)=Sum.inl b)=(a==b):=by
 by_cases e:a=b
 ·subst e;simp
 ·have h:¬(Sum.inl a:rX)=Sum.inl b:=fun q=>e (Sum.inl.inj q)
  rw[ao h]
  exact(bj.mpr e).symm
theorem KW(a b:Str):decide ((Sum.inr a:rX)=Sum.inr b)=decide (a=b):=by
 by_cases e:a=b
 ·subst e;simp
 ·have h:¬(Sum.inr a:rX)=Sum.inr b:=fun q=>e (Qd q)
  rw[ao h,ao e]
theorem KZ(a:Int)(b:Str):decide ((Sum.inl a:rX)=Sum.inr b)=false:=ao (fun q=>nomatch q)
theorem KY(a:Str)(b:Int):decide ((Sum.inr a:rX)=Sum.inl b)=false:=ao (fun q=>nomatch q)
def gy(prog:Program)(w:World):PySem.KeyKind prog w rX where
 is:=xr
 hash:=OG w
 inj:=fun v a b ha hb=>by
  rcases dD ha with⟨i,t,rfl,rfl⟩ | ⟨x,t,rfl,rfl⟩
  ·rcases dD hb with⟨j,u,rfl,e⟩ | ⟨y,u,rfl,e⟩
   ·injection e with e1 _;rw[e1]
   ·exact nomatch e
  ·rcases dD hb with⟨j,u,rfl,e⟩ | ⟨y,u,rfl,e⟩
   ·exact nomatch e
   ·injection e with e1 _;rw[e1]
 byValue:=fun k v h=>by
  rcases dD h with⟨i,t,rfl,rfl⟩ | ⟨x,t,rfl,rfl⟩<;>rfl
 pyHash:=fun hv h=>by
  rcases dD hv with⟨i,t,rfl,rfl⟩ | ⟨x,t,rfl,rfl⟩
  ·exact wpAny_pyHash_int h
  ·exact wpAny_pyHash_str h
 eqBool:=fun hu hv h=>by
  rcases dD hu with⟨i,t,rfl,rfl⟩ | ⟨x,t,rfl,rfl⟩
  ·rcases dD hv with⟨j,u,rfl,rfl⟩ | ⟨y,u,rfl,rfl⟩
   ·rw[K0] at h;exact wpAny_eqBool_int h
   ·rw[KZ] at h;exact SeqAt.EqAt.int_str i t y u _ _ _ _ h
  ·rcases dD hv with⟨j,u,rfl,rfl⟩ | ⟨y,u,rfl,rfl⟩
   ·rw[KY] at h;exact SeqAt.EqAt.str_int x t j u _ _ _ _ h
   ·rw[KW] at h;exact wpAny_eqBool_str h
 «strs»:=fun k x t v h=>by
  rcases dD h with⟨i,u,rfl,e⟩ | ⟨y,u,rfl,e⟩
  ·exact nomatch e
  ·injection e with e1 _
   subst e1
   cases v<;>rfl
inductive V where
 |QO | bl (b:Bool) | int (i:Int) | str (x:Str) | UA (b:Array UInt8) | Wt (b:UInt64) | ref (a:Addr) | ty (n:String)
 deriving DecidableEq
def RelV:V->Value->Prop
 |.QO,u=>u=Value.none
 |.bl b,u=>u=Value.bool b
 |.int i,u=>∃t,u=Value.int i t
 |.str x,u=>∃t,u=Value.str x t
 |.UA b,u=>∃t,u=Value.bytes b t
 |.Wt b,u=>∃t,u=Value.float b t
 |.ref a,u=>u=Value.ref a
 |.ty n,u=>u=Value.type n
abbrev Vals:List V->List Value->Prop:=Paired RelV
theorem Vals.length(r:Vals xs us):xs.length=us.length:=Paired.length r
theorem Vals.get:∀{xs:List V} {us:List Value} {i:Nat} {x:V},Vals xs us->xs[i]?=some x->∃u,us[i]?=some u/\RelV x u
 |_,_,_,_,.nil,e=>by simp at e
 |_,_,0,_,.cons r _,e=>by simp at e;subst e;exact⟨_,rfl,r⟩
 |_,_,i+1,x,.cons _ t,e=>by
  obtain⟨u,h1,h2⟩:=Vals.get (i:=i) (x:=x) t (by simpa using e)
  exact⟨u,by simpa using h1,h2⟩
theorem Vals.set(r:RelV x u):∀{xs:List V} {us:List Value} (i:Nat),Vals xs us->Vals (xs.set i x) (us.set i u)
 |_,_,_,.nil=>.nil
 |_,_,0,.cons _ t=>.cons r t
 |_,_,i+1,.cons q t=>.cons q (Vals.set r i t)
theorem Vals.append:∀{xs ys:List V} {us ws:List Value},Vals xs us->Vals ys ws->Vals (xs++ys) (us++ws)
 |_,_,_,_,.nil,s=>s
 |_,_,_,_,.cons r t,s=>.cons r (Vals.append t s)
theorem Vals.take:∀{xs:List V} {us:List Value} (n:Nat),Vals xs us->Vals (xs.take n) (us.take n)
 |_,_,0,_=>.nil
 |_,_,_+1,.nil=>.nil
 |_,_,n+1,.cons r t=>.cons r (Vals.take n t)
theorem Vals.drop:∀{xs:List V} {us:List Value} (n:Nat),Vals xs us->Vals (xs.drop n) (us.drop n)
 |_,_,0,r=>r
 |_,_,_+1,.nil=>.nil
 |_,_,n+1,.cons _ t=>Vals.drop n t
def Uj:Option V->Option Value->Prop
 |some v,some u=>RelV v u
 |none,none=>True
 |_,_=>False
def KV{κ:Type}:List (κ×V)->List (κ×Value)->Prop:=Paired fun(p:κ×V) (q:κ×Value)=>p.1=q.1/\RelV p.2 q.2
def kV:rX->V
 |.inl i=>.int i
 |.inr x=>.str x
inductive HO where
 |lst (xs:List V)
 |tup (xs:List V)
 |dK (kvs:List (rX×V)) | dT (kvs:List (List rX×V))
 |set (S:Int->Bool) (n:Nat)
 |ins (C dx:Addr) (fs:List (Str×V))
 |own (x:Addr)
 |xd (fs:List (Str×V))
 |met (f x:Addr)
 |YB (lo hi:Int)
 |RH (o:Obj) (u:HO)
 |Vt (ps:Array Value)
 |ext (φ:Heap->Prop)
abbrev Hp:=Addr->Option HO
def cA(H:Hp)(a:Addr)(o:HO):Hp:=fun b=>if b=a then some o else H b
theorem aK:cA H a o a=some o:=by unfold cA;rw[ay rfl]
theorem aJ{a b:Addr}(h:b≠a):cA H a o b=H b:=by unfold cA;rw[aq h]
theorem xN{u:HO}:cA (cA H a o) a u=cA H a u:=by
 funext b;unfold cA;split<;>rfl
theorem dv{H:Hp}{a b:Addr}(h:H a=some o)(h':H b=none):a≠b:=by
 intro e;subst e;rw[h] at h';cases h'
section
variable (P:Program)(w:World)
def QC(H:Hp)(h:Heap)(a:Addr):HO->Prop
 |.lst xs=>xs.length<=sizeLine/\∃(its:List Value) (n:Nat),Vals xs its/\h.get? a=some { cls:=.type "list",data:=.seq its.toArray n }
 |.tup xs=>xs.length<=sizeLine/\∃its:List Value,Vals xs its/\IsTup h a its.toArray
 |.dK kvs=>kvs.length<=sizeLine/\(a==sysModules)=false/\∃vs,KV kvs vs/\h.DictOf (gy P w) a vs
 |.dT kvs=>kvs.length<=sizeLine/\(a==sysModules)=false/\∃xs:List (List rX×Addr×Value),
   Paired (fun(p:List rX×V) (q:List rX×Addr×Value)=>p.1=q.1/\H q.2.1=some (.tup (p.1.map kV))/\RelV p.2 q.2.2) kvs xs /\
   ∃o es ep,h.get? a=some o/\o.ExactDict/\o.data=.dict es ep/\es.toList=xs.map (entryOfKey (tupleKind (gy P w)))/\(xs.map (·.1)).Nodup
 |.set S n=>h.SetOf (intKind P w) a S n
 |.ins C dx fs=>H dx=some (.own a)/\fs.length<=1000/\dx≠a/\h.get? a=some (PySem.W.instObj C dx) /\
   ∃mA,h.Ns1 dx mA/\(∀f,Uj (fs.lookup f) (mA f))/\PySem.Within mA (fs.map (·.1))
 |.own _=>∃o,h.get? a=some o
 |.xd fs=>∃mA,h.Ns1 a mA/\∀f,Uj (fs.lookup f) (mA f)
 |.YB lo hi=>∃t u v,h.get? a=some { cls:=.type "range",data:=.fields #[.int lo t,.int hi u,.int 1 v] }
 |.RH o u=>h.get? a=some o/\QC H h a u
 |.Vt ps=>h.get? a=some { cls:=.none,data:=.fields ps }
 |.met f x=>h.get? a=some (PySem.W.methodObj (.ref f) (.ref x))
 |.ext φ=>φ h/\(∃o,h.get? a=some o)/\∀h1 h2:Heap,φ h1->(∀o,h1.get? a=some o->h2.get? a=some o)->φ h2
def SX(H:Hp)(h:Heap):Prop:=∀a o,H a=some o->QC P w H h a o
end
section
theorem QC.lt(x:QC P w H h a o):a<h.objs.size:=by
 cases o with
 |lst xs=>obtain⟨_,_,_,_,e⟩:=x;exact aW e
 |tup xs=>obtain⟨_,_,_,p⟩:=x;exact p.lt
 |dK kvs=>obtain⟨_,_,_,_,o,_,_,e,_⟩:=x;exact aW e
 |dT kvs=>obtain⟨_,_,_,_,o,_,_,e,_⟩:=x;exact aW e
 |set S n=>obtain⟨o,_,_,_,e,_⟩:=x;exact aW e
 |ins C dx fs=>obtain⟨_,_,_,e,_⟩:=x;exact aW e
 |own y=>obtain⟨_,e⟩:=x;exact aW e
 |xd fs=>obtain⟨_,⟨_,_,_,e,_⟩,_⟩:=x;exact aW e
 |YB lo hi=>obtain⟨_,_,_,e⟩:=x;exact aW e
 |RH ob u=>obtain⟨e,_⟩:=x;exact aW e
 |Vt ps=>exact aW (show h.get? a=some _ from x)
 |met f y=>exact aW (show h.get? a=some _ from x)
 |ext φ=>obtain⟨_,⟨_,e⟩,_⟩:=x;exact aW e
theorem Paired.Xo{α β:Type}{F G:α->β->Prop}:∀{l₁:List α} {l₂:List β},Paired F l₁ l₂->(∀a b,F a b->G a b)->Paired G l₁ l₂
 |_,_,.nil,_=>.nil
 |_,_,.cons r t,f=>.cons (f _ _ r) (Paired.Xo t f)
theorem QC.T8{H':Hp}{h':Heap}(x:QC P w H h a o)(k:∀b u,(b=a\/H b=some (.own a))->h.get? b=some u->h'.get? b=some u)(ho:∀b,H b=some (.own a)->H' b=some (.own a))(ht:∀b xs,H b=some (.tup xs)->H' b=some (.tup xs)):QC P w H' h' a o:=by
 induction o with
 |lst xs=>obtain⟨z,its,n,r,e⟩:=x;exact⟨z,its,n,r,k _ _ (.inl rfl) e⟩
 |tup xs=>obtain⟨z,its,r,ob,e,c⟩:=x;exact⟨z,its,r,ob,k _ _ (.inl rfl) e,c⟩
 |dK kvs=>obtain⟨z,y,vs,r,ob,es,ep,e,c⟩:=x;exact⟨z,y,vs,r,ob,es,ep,k _ _ (.inl rfl) e,c⟩
 |dT kvs=>
  obtain⟨z,y,xs,r,ob,es,ep,e,c⟩:=x
  exact⟨z,y,xs,Paired.Xo r fun p q z=>⟨z.1,ht _ _ z.2.1,z.2.2⟩,ob,es,ep,k _ _ (.inl rfl) e,c⟩
 |set S n=>obtain⟨ob,es,ep,t,e,c⟩:=x;exact⟨ob,es,ep,t,k _ _ (.inl rfl) e,c⟩
 |ins C dx fs=>
  obtain⟨d,z,ne,e,mA,⟨od,es,ep,e2,c⟩,r⟩:=x
  exact⟨ho _ d,z,ne,k _ _ (.inl rfl) e,mA,⟨od,es,ep,k _ _ (.inr d) e2,c⟩,r⟩
 |own y=>obtain⟨ob,e⟩:=x;exact⟨ob,k _ _ (.inl rfl) e⟩
 |xd fs=>obtain⟨mA,⟨od,es,ep,e,c⟩,r⟩:=x;exact⟨mA,⟨od,es,ep,k _ _ (.inl rfl) e,c⟩,r⟩
 |YB lo hi=>obtain⟨t,u,v,e⟩:=x;exact⟨t,u,v,k _ _ (.inl rfl) e⟩
 |RH ob u ih=>obtain⟨e,q⟩:=x;exact⟨k _ _ (.inl rfl) e,ih q⟩
 |Vt ps=>
  have e:h.get? a=some { cls:=.none,data:=.fields ps }:=x
  show h'.get? a=some { cls:=.none,data:=.fields ps }
  exact k a _ (.inl rfl) e
 |met f y=>
  have e:h.get? a=some (PySem.W.methodObj (.ref f) (.ref y)):=x
  show h'.get? a=some (PySem.W.methodObj (.ref f) (.ref y))
  exact k a _ (.inl rfl) e
 |ext φ=>obtain⟨p,⟨o,e⟩,st⟩:=x;exact⟨st _ _ p fun o q=>k _ _ (.inl rfl) q,⟨o,k _ _ (.inl rfl) e⟩,st⟩
theorem SX.lt{a:Addr}(x:SX P w H h)(e:H a=some o):a<h.objs.size:=(x a o e).lt
theorem SX.fresh{a:Addr}(x:SX P w H h)(e:h.objs.size<=a):H a=none:=by
 cases q:H a with
 |none=>rfl
 |some u=>exact absurd (bf (x.lt q) e) (eZ _)
theorem SX.kept{h':Heap}(x:SX P w H h)(k:∀b u,h.get? b=some u->h'.get? b=some u):SX P w H h':=fun a o e=>
 (x a o e).T8 (fun b u _ q=>k b u q) (fun _ q=>q) fun _ _ q=>q
theorem SX.laid{h':Heap}{a:Addr}(x:SX P w H h)(k:∀b u,h.get? b=some u->h'.get? b=some u)(hp:h.objs.size<=a)(new:QC P w (cA H a o) h' a o):SX P w (cA H a o) h':=fun b u e=>by
 have hn:=x.fresh hp
 by_cases hb:b=a
 ·subst hb;rw[aK] at e;cases e;exact new
 ·rw[aJ hb] at e
  exact(x b u e).T8 (fun c v _ q=>k c v q) (fun c q=>by rw[aJ (dv q hn)];exact q) fun c xs q=>by rw[aJ (dv q hn)];exact q
end
def Rd(H:Hp)(a:Addr)(u:HO):Prop:=H a=some u\/∃o,H a=some (.RH o u)
theorem Rd.ok(r:Rd H a u)(x:SX P w H h):QC P w H h a u:=by
 rcases r with r | ⟨o,r⟩
 ·exact x a u r
 ·obtain⟨_,q⟩:=x a _ r
  exact q
def N1:Option HO->Prop
 |some (.lst _)=>True
 |some (.dK _)=>True
 |some (.dT _)=>True
 |some (.set _ _)=>True
 |some (.ins _ _ _)=>True
 |some (.ext _)=>True
 |_=>False
section
theorem SX.write{h':Heap}{e:Addr}(ok:SX P w H h)(mu:N1 (H x))(he:e=x\/H e=some (.own x))(k:∀b u,b≠e->h.get? b=some u->h'.get? b=some u)(WO:∃u,h'.get? e=some u)(new:QC P w (cA H x o') h' x o'):SX P w (cA H x o') h':=fun b u q=>by
 have UE:∀c y,H c=some (.own y)->c≠x:=fun c y r z=>by subst z;rw[r] at mu;exact mu
 have Zi:∀c xs,H c=some (.tup xs)->c≠x:=fun c xs r z=>by subst z;rw[r] at mu;exact mu
 by_cases hb:b=x
 ·subst hb;rw[aK] at q;cases q;exact new
 ·rw[aJ hb] at q
  by_cases Wn:b=e
  ·have q':H b=some (.own x):=by
    rcases he with z | z
    ·exact absurd (Wn.trans z) hb
    ·rw[Wn];exact z
   rw[q] at q';cases q'
   obtain⟨v,hv⟩:=WO
   exact⟨v,by rw[Wn];exact hv⟩
  ·refine(ok b u q).T8 (fun c v hc r=>k c v ?_ r) (fun c r=>by rw[aJ (UE c b r)];exact r) fun c xs r=>by rw[aJ (Zi c xs r)];exact r
   rcases hc with rfl | hc
   ·exact Wn
   ·rintro rfl
    rcases he with z | z
    ·exact UE c b hc z
    ·rw[hc] at z;cases z;exact hb rfl
end
structure Un(fs ex:List Addr)(H H':Hp)(h h':Heap):Prop where
 keep:∀b o,h.get? b=some o->H b=none->b∉fs->b∉ex->h'.get? b=some o
 slot:∀b o,h.get? b=some o->H b=none->b∈fs->b∉ex->∃sl,h'.get? b=some { o with slots:=sl }
 free:∀b o,h.get? b=some o->H b=none->b∉ex->H' b=none
 there:∀b o,h.get? b=some o->b∉ex->∃o',h'.get? b=some o'
 Td:∀b xs,H b=some (.tup xs)->H' b=some (.tup xs)
 SF:∀b o u,H b=some (.RH o u)->H' b=some (.RH o u)
 Tf:∀b ps,H b=some (.Vt ps)->∃more,H' b=some (.Vt (ps++more))
section
theorem Un.any{b:Addr}(u:Un fs ex H H1 h h1)(q:h.get? b=some ob)(n:H b=none)(hx:b∉ex):∃sl,h1.get? b=some { ob with slots:=sl }:=by
 by_cases hb:b∈fs
 ·exact u.slot b ob q n hb hx
 ·exact⟨ob.slots,u.keep b ob q n hb hx⟩
theorem Un.kept{h:Heap}{h':Heap}(k:∀b u,h.get? b=some u->h'.get? b=some u):Un fs ex H H h h':=
 ⟨fun b ob q _ _ _=>k b ob q,fun b ob q _ _ _=>⟨ob.slots,k b ob q⟩,fun _ _ _ n _=>n,fun b ob q _=>⟨ob,k b ob q⟩,fun _ _ q=>q,fun _ _ _ q=>q,fun _ ps q=>⟨#[],by rw[q];simp⟩⟩
theorem Un.refl:Un fs ex H H h h:=Un.kept fun _ _ q=>q
theorem Un.laid{H:Hp}{h:Heap}{h':Heap}{a:Addr}(k:∀b u,h.get? b=some u->h'.get? b=some u)(hp:h.objs.size<=a)(hn:H a=none):Un fs ex H (cA H a o) h h' where
 keep:=fun b u q _ _ _=>k b u q
 slot:=fun b u q _ _ _=>⟨u.slots,k b u q⟩
 free:=fun b u q n _=>by rw[aJ (bi (bf (aW q) hp))];exact n
 there:=fun b u q _=>⟨u,k b u q⟩
 Td:=fun b xs q=>by rw[aJ (dv q hn)];exact q
 SF:=fun b u xs q=>by rw[aJ (dv q hn)];exact q
 Tf:=fun b ps q=>⟨#[],by rw[aJ (dv q hn),q];simp⟩
theorem Un.write{H:Hp}{h:Heap}{h':Heap}{e:Addr}(mu:N1 (H x))(he:e=x\/H e=some (.own x))(k:∀b u,b≠e->h.get? b=some u->h'.get? b=some u)(WO:∃u,h'.get? e=some u):Un fs ex H (cA H x o) h h':=by
 have hx:∀b,H b=none->b≠x:=fun b n z=>by subst z;rw[n] at mu;exact mu
 have hb:∀b,H b=none->b≠e:=fun b n z=>by
  subst z
  rcases he with r | r
  ·exact hx b n r
  ·rw[n] at r;cases r
 have hm:∀b u,H b=some u->¬N1 (some u)->b≠x:=fun b u q nm z=>by subst z;rw[q] at mu;exact nm mu
 refine⟨fun b u q n _ _=>k b u (hb b n) q,fun b u q n _ _=>⟨u.slots,k b u (hb b n) q⟩,fun b u q n _=>by rw[aJ (hx b n)];exact n,fun b u q _=>?_,
  fun b xs q=>by rw[aJ (hm b _ q fun z=>z)];exact q,fun b u xs q=>by rw[aJ (hm b _ q fun z=>z)];exact q,fun b ps q=>⟨#[],by rw[aJ (hm b _ q fun z=>z),q];simp⟩⟩
 by_cases Wn:b=e
 ·subst Wn;exact WO
 ·exact⟨u,k b u Wn q⟩
end
def NW(h:Heap)(H:Hp):List Addr:=(List.range h.objs.size).filter fun a=>(H a).isSome
def wp(h:Heap)(H:Hp):Heap:=PySem.W.hideAll h (NW h H)
theorem DW(h:Heap)(H:Hp):(wp h H).objs.size=h.objs.size:=PySem.W.hideAll_size _ _
theorem FR{h:Heap}{H:Hp}{b:Addr}(e:h.get? b=some o)(n:H b=none):(wp h H).get? b=some o:=
 PySem.W.hideAll_get _ e fun hm=>by
  have q:(H b).isSome=true:=(List.mem_filter.mp hm).2
  rw[n] at q;simp at q
theorem HX{b:Addr}(e:(wp h H).get? b=some o):h.get? b=some o/\H b=none:=by
 have e':h.get? b=some o:=PySem.W.of_hideAll (NW h H) e
 refine⟨e',?_⟩
 cases q:H b with
 |none=>rfl
 |some x=>
  have hm:b∈NW h H:=List.mem_filter.mpr ⟨qj.mpr (aW e'),by simp[q]⟩
  have z:(wp h H).get? b=none:=PySem.W.hideAll_none (NW h H) hm
  rw[z] at e;cases e
def IS(g h:Heap)(L:Addr):List (Addr×Obj):=(List.range h.objs.size).filterMap fun a=>if a=L\/(g.get? a).isSome=true then none else (h.get? a).map fun o=>(a,o)
def bS(g h:Heap)(L d:Addr):List (Addr×Obj):=(IS g h L).filter fun p=>decide (p.1≠d)
structure Mod(K:PySem.W.Frag)(mg:Str->Option Value)(base:Heap):Prop where
 Yd:K.In base
 glob:base.Ns mainGlobals mg
 blt:∃mb,base.Ns builtinsNs mb/\∀x:Str,x ≠ "__name__" -> mb x=bootBuiltins x
 nolimit:base.NoLimit
 seer:base.NoSeer
structure Cx where
 prog:Program
 w:World
 K:PySem.W.Frag
 mg:Str->Option Value
 base:Heap
 A:Around
 N:List Str
 s₀:Shared
 H₀:Hp
 env:Env
 outer:List Env
 stack:List Env
 ex:List Addr
 fn:Str->Bool
 calm:Bool
 pn:List (Addr×Obj)
 xe:Value->Shared->Prop
def jv(l:List Env):List Addr:=l.filterMap (·.frame)
abbrev Cx.fs(X:Cx):List Addr:=jv X.outer
def Nz(sc:Scope)(x:Str):Prop:=sc.names.lookup x=some .local\/sc.names.lookup x=some .cell\/sc.names.lookup x=some .free
def LO(sc:Scope)(x:Str):Prop:=sc.names.lookup x=some .local\/sc.names.lookup x=some .cell
def O8(env:Env)(h:Heap)(m:Str->Option Value)(x:Str)(u:Value):Prop:=
 (env.kindOf x=some .local/\m x=some u)\/((env.kindOf x=some .cell\/env.kindOf x=some .free)/\∃c,env.cells.lookup x=some c/\h.IsCell c (some u))
structure Cx.Ok(X:Cx):Prop where
 mod:Mod X.K X.mg X.base
 kind:X.env.scope.kind=.function
 glob:X.env.globals=mainGlobals
 blt:X.env.builtins=builtinsNs
 above:X.s₀.heap.objs.size<=X.env.locals
 inj:∀x y c,X.env.cells.lookup x=some c->X.env.cells.lookup y=some c->x=y
 has:∀x,(X.env.kindOf x=some .cell\/X.env.kindOf x=some .free)->∃c,X.env.cells.lookup x=some c
 X3:∀x c,X.fn x=true->X.env.cells.lookup x=some c->X.s₀.heap.objs.size<=c
 hd:X.calm=true->X.A.handled=none
 frames:X.A.frames=some X.stack
 S0:X.stack=X.outer\/(X.stack=X.env::X.outer/\X.env.frame=some X.env.locals)
 Ys:∀b∈X.ex,b≠X.env.locals/\∀x c,X.env.cells.lookup x=some c->c≠b
 bs:∀b o,X.base.get? b=some o->X.s₀.heap.get? b=some o/\X.H₀ b=none
 VO:X.base.objs.size<=X.s₀.heap.objs.size
 UY:∀b o,X.base.get? b=some o->b∉X.ex
 U8:∀b∈X.ex,b∉X.fs
 SU:X.s₀.heap.FunFrames X.base X.outer
 Ws:∀b∈X.fs,X.H₀ b=none
structure Inv(X:Cx)(pins:List (Addr×Obj))(σ:List (Option V))(H:Hp)(s:Shared):Prop where
 ok:X.Ok
 os:s.os=X.s₀.os
 bare:AllBare s.gens
 base:Un X.fs X.ex X.H₀ H X.s₀.heap s.heap
 loc:∃m,s.heap.Ns X.env.locals m/\∀(i:Nat) (x:Str) (v:V),X.N[i]?=some x->σ[i]?=some (some v)->Nz X.env.scope x->∃u,RelV v u/\O8 X.env s.heap m x u
 cell:∀x c,X.env.cells.lookup x=some c->∃v,s.heap.IsCell c v
 free:H X.env.locals=none
 RS:∀x c,X.env.cells.lookup x=some c->H c=none
 pin:∀p∈X.pn++pins,s.heap.get? p.1=some p.2/\H p.1=none/\p.1≠X.env.locals/\p.1∉X.fs/\∀v,p.2.data ≠ .cell v
 QG:SX X.prog X.w H s.heap
 len:σ.length=X.N.length
section
variable {σ:List (Option V)}
theorem Cx.Ok.Zl{b:Addr}{X:Cx}(ok:X.Ok)(e:X.base.get? b=some o):b∉X.fs:=fun hb=>by
 have:=(ok.SU.mem hb).1
 rw[e] at this;cases this
theorem Inv.bs(I:Inv X pins σ H s):∀b o,X.base.get? b=some o->s.heap.get? b=some o/\H b=none:=fun b o e=>
 ⟨I.base.keep b o (I.ok.bs b o e).1 (I.ok.bs b o e).2 (I.ok.Zl e) (I.ok.UY b o e),I.base.free b o (I.ok.bs b o e).1 (I.ok.bs b o e).2 (I.ok.UY b o e)⟩
theorem Inv.bk(I:Inv X pins σ H s):∀b o,X.base.get? b=some o->s.heap.get? b=some o:=fun b o e=>(I.bs b o e).1
theorem Inv.mod(I:Inv X pins σ H s):Mod X.K X.mg X.base:=I.ok.mod
theorem Inv.Se(I:Inv X pins σ H s):X.K.In s.heap:=I.ok.mod.Yd.keeps I.bk
theorem Inv.nolimit(I:Inv X pins σ H s):s.heap.NoLimit:=I.ok.mod.nolimit.keeps I.bk
theorem Inv.lt(I:Inv X pins σ H s):X.env.locals<s.heap.objs.size:=let ⟨_,hn,_⟩:=I.loc;hn.lt
theorem Inv.sz(I:Inv X pins σ H s):X.s₀.heap.objs.size<=s.heap.objs.size:=aL I.ok.above (lE I.lt)
theorem Inv.Zk{a:Addr}(I:Inv X pins σ H s)(h:s.heap.objs.size<=a):a∉X.fs:=fun hb=>by
 obtain⟨_,o,ho,_⟩:=I.ok.SU.mem hb
 exact absurd (bf (aW ho) (aL I.sz h)) (eZ _)
theorem Inv.Ww(I:Inv X pins σ H s):∀x c,X.env.cells.lookup x=some c->c≠X.env.locals:=fun x c e z=>by
 obtain⟨v,o,ho,hd⟩:=I.cell x c e
 obtain⟨m,⟨o',es,ep,We,Uv,_⟩,_⟩:=I.loc
 rw[z,We] at ho;cases ho;rw[Uv] at hd;cases hd
theorem Inv.SU(I:Inv X pins σ H s):s.heap.FunFrames X.base X.outer:=by
 have all:∀(l:List Env),(∀b∈jv l,b∈X.fs)->X.s₀.heap.FunFrames X.base l->s.heap.FunFrames X.base l:=by
  intro l
  induction l with
  |nil=>intro _ _;trivial
  |cons env r ih=>
   intro hs hl
   obtain⟨hk,⟨L,o,hf,hn,ho,hd⟩,hr⟩:=hl
   have hL:L∈X.fs:=hs L (by unfold jv;rw[jt,hf];exact bK)
   obtain⟨sl,e⟩:=I.base.slot L o ho (I.ok.Ws L hL) hL fun z=>I.ok.U8 L z hL
   exact⟨hk,⟨L,_,hf,hn,e,hd⟩,ih (fun b hb=>hs b (by unfold jv;rw[jt,hf];exact aY _ hb)) hr⟩
 exact all X.outer (fun _ hb=>hb) I.ok.SU
theorem Inv.stack(I:Inv X pins σ H s):s.heap.FunFrames X.base X.stack:=by
 rcases I.ok.S0 with e | ⟨e,hf⟩
 ·rw[e];exact I.SU
 ·rw[e]
  obtain⟨m,hn,_⟩:=I.loc
  refine .cons (by rw[I.ok.kind];decide) hf hn ?_ I.SU
  exact Heap.get?_none_of_le (aL I.ok.VO I.ok.above)
theorem Inv.T7(I:Inv X pins σ H s):∀b∈jv X.stack,b∈X.env.locals::X.fs:=fun b hb=>by
 rcases I.ok.S0 with e | ⟨e,hf⟩
 ·rw[e] at hb;exact aY _ hb
 ·rw[e] at hb
  unfold jv at hb
  rw[jt,hf] at hb
  exact hb
theorem Inv.Uq(I:Inv X pins σ H s):∀b∈jv X.stack,H b=none:=fun b hb=>by
 rcases aC.mp (I.T7 b hb) with e | hb
 ·rw[e];exact I.free
 ·obtain⟨_,o,ho,_⟩:=I.ok.SU.mem hb
  exact I.base.free b o ho (I.ok.Ws b hb) fun z=>I.ok.U8 b z hb
theorem Inv.step{t':Nat}{ch:List Addr}{H':Hp}{h':Heap}{g':Array GenState}{d':Drawn}(I:Inv X pins σ H s)(Vl:∀b∈ch,(b∈X.ex\/X.s₀.heap.objs.size<=b)/\b≠X.env.locals/\(∀x c,X.env.cells.lookup x=some c->c≠b)/\∀p∈X.pn++pins,p.1≠b)(keep:∀b o,b≠X.env.locals->b∉X.fs->b∉ch->s.heap.get? b=some o->H b=none->h'.get? b=some o)(slot:∀b o,b≠X.env.locals->b∈X.fs->b∉ch->s.heap.get? b=some o->H b=none->∃sl,h'.get? b=some { o with slots:=sl })(free:∀b o,b∉ch->s.heap.get? b=some o->H b=none->H' b=none)(there:∀b o,b∉ch->s.heap.get? b=some o->∃o',h'.get? b=some o')(Td:∀b xs,H b=some (.tup xs)->H' b=some (.tup xs))(SF:∀b o u,H b=some (.RH o u)->H' b=some (.RH o u))(Tf:∀b ps,H b=some (.Vt ps)->∃more,H' b=some (.Vt (ps++more)))(ns:∀m,s.heap.Ns X.env.locals m->h'.Ns X.env.locals m)(QG:SX X.prog X.w H' h')(hg:AllBare g'):
  Inv X pins σ H' { s with heap:=h',gens:=g',drawn:=d',toks:=t' }:=by
 have neL:∀b o,X.s₀.heap.get? b=some o->b≠X.env.locals:=fun b o e=>bi (bf (aW e) I.ok.above)
 have Yc:∀b o,X.s₀.heap.get? b=some o->b∉X.ex->b∉ch:=fun b o e hx hb=>by
  rcases(Vl b hb).1 with z | z
  ·exact hx z
  ·exact absurd (bf (aW e) z) (eZ _)
 have cellK:∀x c,X.env.cells.lookup x=some c->∀v,s.heap.IsCell c v->h'.IsCell c v:=fun x c e v ⟨o,ho,hd⟩=>by
  have Xn:c∉ch:=fun z=>(Vl c z).2.2.1 x c e rfl
  by_cases hc:c∈X.fs
  ·obtain⟨sl,q⟩:=slot c o (I.Ww x c e) hc Xn ho (I.RS x c e)
   exact⟨_,q,hd⟩
  ·exact⟨o,keep c o (I.Ww x c e) hc Xn ho (I.RS x c e),hd⟩
 refine⟨I.ok,I.os,hg,⟨fun b o e n hb hx=>?_,fun b o e n hb hx=>?_,fun b o e n hx=>?_,fun b o e hx=>?_,fun b xs e=>Td b xs (I.base.Td b xs e),fun b o xs e=>SF b o xs (I.base.SF b o xs e),fun b ps e=>?_⟩,?_,fun x c e=>?_,?_,fun x c e=>?_,fun p hp=>?_,QG,I.len⟩
 ·exact keep b o (neL b o e) hb (Yc b o e hx) (I.base.keep b o e n hb hx) (I.base.free b o e n hx)
 ·obtain⟨sl,e1⟩:=I.base.slot b o e n hb hx
  obtain⟨sl',e2⟩:=slot b _ (neL b o e) hb (Yc b o e hx) e1 (I.base.free b o e n hx)
  exact⟨sl',e2⟩
 ·obtain⟨o',e1⟩:=I.base.there b o e hx
  exact free b o' (Yc b o e hx) e1 (I.base.free b o e n hx)
 ·obtain⟨o',e1⟩:=I.base.there b o e hx
  exact there b o' (Yc b o e hx) e1
 ·obtain⟨m1,e1⟩:=I.base.Tf b ps e
  obtain⟨m2,e2⟩:=Tf b _ e1
  exact⟨m1++m2,by rw[e2,Array.append_assoc]⟩
 ·obtain⟨m,hn,hl⟩:=I.loc
  refine⟨m,ns m hn,fun i x v e1 e2 e3=>?_⟩
  obtain⟨u,r,l⟩:=hl i x v e1 e2 e3
  refine⟨u,r,?_⟩
  rcases l with l | ⟨k,c,e,z⟩
  ·exact .inl l
  ·exact .inr ⟨k,c,e,cellK x c e _ z⟩
 ·obtain⟨v,z⟩:=I.cell x c e
  exact⟨v,cellK x c e v z⟩
 ·obtain⟨m,⟨o,_,_,ho,_⟩,_⟩:=I.loc
  exact free _ o (fun z=>(Vl _ z).2.1 rfl) ho I.free
 ·obtain⟨v,o,ho,hd⟩:=I.cell x c e
  exact free c o (fun z=>(Vl c z).2.2.1 x c e rfl) ho (I.RS x c e)
 ·obtain⟨e,n,ne,nf,d⟩:=I.pin p hp
  have Xn:p.1∉ch:=fun z=>(Vl p.1 z).2.2.2 p hp rfl
  exact⟨keep p.1 p.2 ne nf Xn e n,free p.1 p.2 Xn e n,ne,nf,d⟩
theorem Inv.un{t':Nat}(I:Inv X pins σ H s)(u:Un X.fs [] H H' s.heap h')(QG:SX X.prog X.w H' h'):Inv X pins σ H' { s with heap:=h',toks:=t' }:=by
 obtain⟨m,⟨o,es,ep,ho,r⟩,_⟩:=id I.loc
 obtain⟨sl,hL⟩:=u.any ho I.free (by simp)
 exact I.step (g':=s.gens) (d':=s.drawn) (ch:=[]) (fun _ z=>nomatch z) (fun b o _ hb _ e n=>u.keep b o e n hb (by simp)) (fun b o _ hb _ e n=>u.slot b o e n hb (by simp)) (fun b o _ e n=>u.free b o e n (by simp)) (fun b o _ e=>u.there b o e (by simp)) u.Td u.SF u.Tf (fun m' hm=>by
  obtain⟨o',WU,ep',We,r'⟩:=hm
  rw[ho] at We;cases We
  exact⟨_,WU,ep',hL,r'⟩) QG I.bare
theorem Inv.call{t':Nat}{g':Array GenState}{d':Drawn}(I:Inv X pins σ H s)(u:Un (jv X.stack) ch H H' s.heap h')(QG:SX X.prog X.w H' h')(hg:AllBare g')(Vl:∀b∈ch,(b∈X.ex\/X.s₀.heap.objs.size<=b)/\b≠X.env.locals/\(∀x c,X.env.cells.lookup x=some c->c≠b)/\∀p∈X.pn++pins,p.1≠b):
  Inv X pins σ H' { s with heap:=h',gens:=g',drawn:=d',toks:=t' }:=by
 obtain⟨m,⟨o,es,ep,ho,r⟩,_⟩:=id I.loc
 obtain⟨sl,hL⟩:=u.any ho I.free fun z=>(Vl _ z).2.1 rfl
 exact I.step (ch:=ch) Vl (fun b o hL hb hc e n=>u.keep b o e n (fun z=>(aC.mp (I.T7 b z)).elim hL hb) hc) (fun b o _ _ hc e n=>u.any e n hc) (fun b o hc e n=>u.free b o e n hc) (fun b o hc e=>u.there b o e hc) u.Td u.SF u.Tf (fun m' hm=>by
  obtain⟨o',WU,ep',We,r'⟩:=hm
  rw[ho] at We;cases We
  exact⟨_,WU,ep',hL,r'⟩) QG hg
theorem Inv.turned{t':Nat}{it:Addr}{h':Heap}(I:Inv X pins σ H s)(k:∀b o,b≠it->s.heap.get? b=some o->h'.get? b=some o)(hn:H it=none)(hL:it≠X.env.locals)(h1:it∈X.ex\/X.s₀.heap.objs.size<=it)(h2:∀x c,X.env.cells.lookup x=some c->c≠it)(h3:∀p∈X.pn++pins,p.1≠it):Inv X pins σ H { s with heap:=h',toks:=t' }:=by
 have nit:∀b u,H b=some u->b≠it:=fun b u e z=>by rw[z,hn] at e;cases e
 refine I.step (g':=s.gens) (d':=s.drawn) (ch:=[it]) (fun b hb=>?_) (fun b o _ _ hc e _=>k b o (fun z=>hc (by simp[z])) e) (fun b o _ _ hc e _=>⟨o.slots,k b o (fun z=>hc (by simp[z])) e⟩) (fun _ _ _ _ n=>n)
  (fun b o hc e=>⟨o,k b o (fun z=>hc (by simp[z])) e⟩) (fun _ _ e=>e) (fun _ _ _ e=>e) (fun b ps e=>⟨#[],by rw[e];simp⟩) (fun m hm=>?_) (fun b u e=>?_) I.bare
 ·have e:b=it:=by simpa using hb
  subst e
  exact⟨h1,hL,h2,h3⟩
 ·obtain⟨o,es,ep,ho,r⟩:=hm
  exact⟨o,es,ep,k _ o (Ne.symm hL) ho,r⟩
 ·refine(I.QG b u e).T8 (fun c v hc q=>k c v ?_ q) (fun _ q=>q) fun _ _ q=>q
  rcases hc with z | z
  ·rw[z];exact nit b u e
  ·exact nit c _ z
theorem Inv.tok(I:Inv X pins σ H s)(t:Nat):Inv X pins σ H { s with toks:=t }:=I.un (h':=s.heap) (t':=t) Un.refl I.QG
theorem Inv.kept{t':Nat}{h':Heap}(I:Inv X pins σ H s)(k:∀b u,s.heap.get? b=some u->h'.get? b=some u):Inv X pins σ H { s with heap:=h',toks:=t' }:=I.un (Un.kept k) (I.QG.kept k)
theorem Inv.laid{a:Addr}{t':Nat}{h':Heap}(I:Inv X pins σ H s)(k:∀b u,s.heap.get? b=some u->h'.get? b=some u)(hp:s.heap.objs.size<=a)(new:QC X.prog X.w (cA H a o) h' a o):
  Inv X pins σ (cA H a o) { s with heap:=h',toks:=t' }:=I.un (Un.laid k hp (I.QG.fresh hp)) (I.QG.laid k hp new)
theorem Inv.write{e:Addr}{t':Nat}{h':Heap}(I:Inv X pins σ H s)(mu:N1 (H x))(he:e=x\/H e=some (.own x))(k:∀b u,b≠e->s.heap.get? b=some u->h'.get? b=some u)(WO:∃u,h'.get? e=some u)(new:QC X.prog X.w (cA H x o) h' x o):Inv X pins σ (cA H x o) { s with heap:=h',toks:=t' }:=I.un (Un.write mu he k WO) (I.QG.write mu he k WO new)
theorem Inv.Us{Q9:List (Addr×Obj)}(I:Inv X pins σ H s)(h:∀p∈Q9,s.heap.get? p.1=some p.2/\H p.1=none/\p.1≠X.env.locals/\p.1∉X.fs/\∀v,p.2.data ≠ .cell v):Inv X Q9 σ H s:=
 ⟨I.ok,I.os,I.bare,I.base,I.loc,I.cell,I.free,I.RS,fun p hp=>(aM.mp hp).elim (fun z=>I.pin p (Qf _ z)) (h p),I.QG,I.len⟩
theorem Ae{N:List Str}{i j:Nat}(hN:N.Nodup)(a:N[i]?=some x)(b:N[j]?=some x):i=j:=by
 obtain⟨h1,e1⟩:=az.mp a
 obtain⟨h2,e2⟩:=az.mp b
 exact(List.getElem_inj hN).mp (e1.trans e2.symm)
theorem w8{i:Nat}{Q:Unit->Shared->Prop}(I:Inv X pins σ H s)(hN:X.N.Nodup)(hi:X.N[i]?=some x)(hx:LO X.env.scope x)(r:RelV v u)(h:∀s',Inv X pins (σ.set i (some v)) H s'->(∃a,Heap.SameBut a s.heap s'.heap/\(a=X.env.locals\/X.env.cells.lookup x=some a))->Q () s')(hf:X.fn x=true\/X.env.scope.names.lookup x=some .local:=by first | exact .inl rfl | exact .inr rfl | assumption):wpAny M A (storeName X.env x u) Q E s:=by
 obtain⟨m,hn,hl⟩:=id I.loc
 have ZW:(X.env.scope.kind == .class||(X.env.scope.kind == .module&&X.env.locals != X.env.globals))=false:=by rw[I.ok.kind];rfl
 have hiσ:i<σ.length:=by rw[I.len];exact(az.mp hi).1
 have Ww:=I.Ww
 have tracked:∀{a:Addr} {h':Heap},(∃o,s.heap.get? a=some o/\H a=none)->Heap.SameBut a s.heap h'->SX X.prog X.w H h':=fun {a h'} ha hs b ob e=>by
  obtain⟨_,_,So⟩:=ha
  refine(I.QG b ob e).T8 (fun c w' hc q=>(hs.2 c ?_).trans q) (fun _ q=>q) fun _ _ q=>q
  rintro rfl
  rcases hc with rfl | hc
  ·rw[So] at e;cases e
  ·rw[So] at hc;cases hc
 rcases hx with hk | hk
 ·refine wpAny_storeName_local hk hn (fun h' SD hs=>?_) ZW
  obtain⟨oL,_,_,hoL,_⟩:=id hn
  refine h _ ⟨I.ok,I.os,I.bare,⟨fun b o e n hb hx=>?_,fun b o e n hb hx=>?_,I.base.free,fun b o e hx=>?_,I.base.Td,I.base.SF,I.base.Tf⟩,⟨_,SD,fun j y v' e1 e2 e3=>?_⟩,fun y c e=>?_,I.free,I.RS,fun p hp=>?_,tracked ⟨oL,hoL,I.free⟩ hs,by simpa using I.len⟩ ⟨_,hs,.inl rfl⟩
  ·exact(hs.2 b (bi (bf (aW e) I.ok.above))).trans (I.base.keep b o e n hb hx)
  ·obtain⟨sl,e1⟩:=I.base.slot b o e n hb hx
   exact⟨sl,(hs.2 b (bi (bf (aW e) I.ok.above))).trans e1⟩
  ·obtain⟨o',e1⟩:=I.base.there b o e hx
   exact⟨o',(hs.2 b (bi (bf (aW e) I.ok.above))).trans e1⟩
  ·by_cases hj:j=i
   ·subst hj
    rw[hi] at e1;cases e1
    rw[a9 hiσ] at e2
    cases e2
    exact⟨u,r,.inl ⟨hk,by simp⟩⟩
   ·rw[av (Ne.symm hj)] at e2
    obtain⟨u',r',q⟩:=hl j y v' e1 e2 e3
    refine⟨u',r',?_⟩
    rcases q with⟨k,e⟩ | ⟨k,c,e,z⟩
    ·refine .inl ⟨k,?_⟩
     have:y≠x:=fun e=>hj (Ae hN e1 (e ▸ hi))
     simp[this,e]
    ·exact .inr ⟨k,c,e,z.sameBut hs (Ww y c e)⟩
  ·obtain⟨w',z⟩:=I.cell y c e
   exact⟨w',z.sameBut hs (Ww y c e)⟩
  ·obtain⟨e,n,ne,nf,d⟩:=I.pin p hp
   exact⟨(hs.2 p.1 ne).trans e,n,ne,nf,d⟩
 ·have ZO:X.fn x=true:=by
   rcases hf with z | z
   ·exact z
   ·rw[z] at hk;cases hk
  obtain⟨c,hc⟩:=I.ok.has x (.inl hk)
  obtain⟨w',z⟩:=I.cell x c hc
  refine wpAny_storeName_cell I.ok.kind hk hc z (fun h' T5 hs=>?_)
  obtain⟨oc,hoc,ZC⟩:=id z
  refine h { s with heap:=h' } ⟨I.ok,I.os,I.bare,⟨fun b o e n hb hx=>?_,fun b o e n hb hx=>?_,I.base.free,fun b o e hx=>?_,I.base.Td,I.base.SF,I.base.Tf⟩,⟨m,hn.sameBut hs (Ne.symm (Ww x c hc)),fun j y v' e1 e2 e3=>?_⟩,fun y c' e=>?_,I.free,I.RS,fun p hp=>?_,tracked ⟨oc,hoc,I.RS x c hc⟩ hs,by simpa using I.len⟩ ⟨c,hs,.inr hc⟩
  ·exact(hs.2 b (bi (bf (aW e) (I.ok.X3 x c ZO hc)))).trans (I.base.keep b o e n hb hx)
  ·obtain⟨sl,e1⟩:=I.base.slot b o e n hb hx
   exact⟨sl,(hs.2 b (bi (bf (aW e) (I.ok.X3 x c ZO hc)))).trans e1⟩
  ·obtain⟨o',e1⟩:=I.base.there b o e hx
   exact⟨o',(hs.2 b (bi (bf (aW e) (I.ok.X3 x c ZO hc)))).trans e1⟩
  ·by_cases hj:j=i
   ·subst hj
    rw[hi] at e1;cases e1
    rw[a9 hiσ] at e2
    cases e2
    exact⟨u,r,.inr ⟨.inl hk,c,hc,T5⟩⟩
   ·rw[av (Ne.symm hj)] at e2
    obtain⟨u',r',q⟩:=hl j y v' e1 e2 e3
    refine⟨u',r',?_⟩
    rcases q with q | ⟨k,c',e,z'⟩
    ·exact .inl q
    ·refine .inr ⟨k,c',e,z'.sameBut hs ?_⟩
     rintro rfl
     exact hj (Ae hN e1 (I.ok.inj _ _ _ e hc ▸ hi))
  ·by_cases Yq:c'=c
   ·subst Yq;exact⟨_,T5⟩
   ·obtain⟨w2,z2⟩:=I.cell y c' e
    exact⟨w2,z2.sameBut hs Yq⟩
  ·obtain⟨e,n,ne,nf,d⟩:=I.pin p hp
   refine⟨(hs.2 p.1 ?_).trans e,n,ne,nf,d⟩
   intro q
   rw[q,hoc] at e
   have q':oc=p.2:=bB e
   exact d w' (by rw[<-q'];exact ZC)
theorem nn{i:Nat}{Q:Unit->Shared->Prop}(I:Inv X pins σ H s)(hN:X.N.Nodup)(hi:X.N[i]?=some x)(hx:LO X.env.scope x)(r:RelV v u)(h:∀s',Inv X pins (σ.set i (some v)) H s'->Q () s')(hf:X.fn x=true\/X.env.scope.names.lookup x=some .local:=by first | exact .inl rfl | exact .inr rfl | assumption):wpAny M A (storeName X.env x u) Q E s:=
 w8 I hN hi hx r (fun s' I' _=>h s' I') hf
theorem Inv.X2{s':Shared}(I:Inv X pins σ H s)(ho:s'.os=s.os)(u:Un (jv X.stack) ch H H' s.heap s'.heap)(QG:SX X.prog X.w H' s'.heap)(hg:AllBare s'.gens)(Vl:∀b∈ch,(b∈X.ex\/X.s₀.heap.objs.size<=b)/\b≠X.env.locals/\(∀x c,X.env.cells.lookup x=some c->c≠b)/\∀p∈X.pn++pins,p.1≠b):Inv X pins σ H' s':=by
 obtain⟨h',g',d',t',o'⟩:=s'
 have e:o'=s.os:=ho
 subst e
 exact I.call (g':=g') (t':=t') (d':=d') u QG hg Vl
end
abbrev XK:=Value->Option Addr->Hp->Prop
abbrev St:=List (Option V)
abbrev VK:=V->Hp->Prop
abbrev TE:=St->Hp->VK->Prop
abbrev TT:=St->Hp->(Bool->Hp->Prop)->Prop
abbrev TA:=St->Hp->(List V->Hp->Prop)->Prop
structure kx where
 nx:St->Hp->Prop
 rt:VK
 bk:St->Hp->Prop:=fun _ _=>False
 ct:St->Hp->Prop:=fun _ _=>False
abbrev TS:=kx->St->Hp->Prop
def EP(X:Cx)(pins:List (Addr×Obj))(σ:St)(Q:VK)(u:Value)(s':Shared):Prop:=∃v H',Inv X pins σ H' s'/\RelV v u/\Q v H'
def TP(X:Cx)(pins:List (Addr×Obj))(σ:St)(Q:Bool->Hp->Prop)(b:Bool)(s':Shared):Prop:=∃H',Inv X pins σ H' s'/\Q b H'
def AP(X:Cx)(pins:List (Addr×Obj))(σ:St)(Q:List V->Hp->Prop)(us:List Value)(s':Shared):Prop:=∃vs H',Inv X pins σ H' s'/\Vals vs us/\Q vs H'
def SP(X:Cx)(pins:List (Addr×Obj))(D:kx)(f:Flow)(s':Shared):Prop:=
 match f with
 |.next=>∃σ' H',Inv X pins σ' H' s'/\D.nx σ' H'
 |.brk=>∃σ' H',Inv X pins σ' H' s'/\D.bk σ' H'
 |.cont=>∃σ' H',Inv X pins σ' H' s'/\D.ct σ' H'
 |.ret u=>∃v σ' H',Inv X pins σ' H' s'/\RelV v u/\D.rt v H'
def PE(X:Cx)(e:Expr)(t:TE):Prop:=
 ∀(pins:List (Addr×Obj)) (s:Shared) (σ:St) (H:Hp) (Q:VK),Inv X pins σ H s->t σ H Q->wpAny (model X.prog X.w) X.A (eval e X.env) (EP X pins σ Q) X.xe s
def PT(X:Cx)(e:Expr)(t:TT):Prop:=
 ∀(pins:List (Addr×Obj)) (s:Shared) (σ:St) (H:Hp) (Q:Bool->Hp->Prop),Inv X pins σ H s->t σ H Q->wpAny (model X.prog X.w) X.A (isTrue e X.env (eval e X.env)) (TP X pins σ Q) X.xe s
def PW(X:Cx)(e:Expr)(t:TT):Prop:=
 ∀(whole:Sem Value) (pins:List (Addr×Obj)) (s:Shared) (σ:St) (H:Hp) (Q:Bool->Hp->Prop),Inv X pins σ H s->t σ H Q->wpAny (model X.prog X.w) X.A (isTrue e X.env whole) (TP X pins σ Q) X.xe s
def PA(X:Cx)(es:List Expr)(t:TA):Prop:=
 ∀(pos:Pos) (pins:List (Addr×Obj)) (s:Shared) (σ:St) (H:Hp) (Q:List V->Hp->Prop),Inv X pins σ H s->t σ H Q->wpAny (model X.prog X.w) X.A (spliced (backTo pos (starEach es X.env))) (AP X pins σ Q) X.xe s
def PS(X:Cx)(st:Stmt)(t:TS):Prop:=
 ∀(pins:List (Addr×Obj)) (s:Shared) (σ:St) (H:Hp) (D:kx),Inv X pins σ H s->t D σ H->wpAny (model X.prog X.w) X.A (exec st X.env) (SP X pins D) X.xe s
def Uk(X:Cx)(st:List Stmt)(t:TS):Prop:=
 ∀(pins:List (Addr×Obj)) (s:Shared) (σ:St) (H:Hp) (D:kx),Inv X pins σ H s->t D σ H->wpAny (model X.prog X.w) X.A (execs st X.env) (SP X pins D) X.xe s
theorem de{α:Type}{t:Sem α}{Q Q':α->Shared->Prop}(h:wpAny M A t Q E s)(hQ:∀a s,Q a s->Q' a s):wpAny M A t Q' E s:=jP h hQ fun _ _ x=>x
section
theorem Ql(ha:PE X a ta)(hb:PE X b tb){R:V->V->Hp->Prop}(I:Inv X pins σ H s)(h:ta σ H fun x H1=>tb σ H1 fun y H2=>R x y H2){α:Type}{Q:α->Shared->Prop}{f:Value->Value->Sem α}(hf:∀v u s2 x y H2,Inv X pins σ H2 s2->RelV x v->RelV y u->R x y H2->wpAny (model X.prog X.w) X.A (f v u) Q X.xe s2):
  wpAny (model X.prog X.w) X.A (eval a X.env) (fun v s₁=>wpAny (model X.prog X.w) X.A (eval b X.env) (fun u s₂=>wpAny (model X.prog X.w) X.A (f v u) Q X.xe s₂) X.xe s₁) X.xe s:=by
 refine de (ha pins s σ H _ I h) fun v s1 ⟨x,H1,I1,r1,q1⟩=>?_
 refine de (hb pins s1 σ H1 _ I1 q1) fun u s2 ⟨y,H2,I2,r2,q2⟩=>?_
 exact hf v u s2 x y H2 I2 r1 r2 q2
def Mr(i:Nat):TE:=fun σ H Q=>∃v,σ[i]?=some (some v)/\Q v H
def tC(v:V):TE:=fun _ H Q=>Q v H
theorem Km{i:Nat}{X:Cx}(hN:X.N[i]?=some x)(hv:Nz X.env.scope x)(hd:(x==("__debug__" : Str))=false:=by decide)(VE:(x==("__classdict__" : Str))=false:=by decide):PE X (.Name x pos) (Mr i):=by
 intro pins s σ H Q I h
 obtain⟨v,e,h⟩:=h
 obtain⟨m,hn,hl⟩:=I.loc
 obtain⟨u,r,l⟩:=hl i x v hN e hv
 have fin:EP X pins σ Q u s:=⟨v,H,I,r,h⟩
 rcases l with⟨hk,hm⟩ | ⟨hk,c,hc,Sq⟩
 ·exact wpAny_Name (wpAny_loadName_local I.ok.kind hk hn hm fin) hd
 ·rcases hk with hk | hk
  ·exact wpAny_Name (wpAny_loadName_cell I.ok.kind hk hc Sq fin) hd
  ·exact wpAny_Name (wpAny_loadName_free I.ok.kind hk hc Sq fin VE) hd
theorem Fo{i j pos}:PE X (.Constant (.int i) j pos) (tC (.int i)):=fun _ _ _ H _ I h=>wpAny_Constant_int ⟨.int i,H,I.tok _,⟨_,rfl⟩,h⟩
theorem MQ{b j pos}:PE X (.Constant (.bool b) j pos) (tC (.bl b)):=fun _ _ _ H _ I h=>Constant_bool ⟨.bl b,H,I,rfl,h⟩
theorem Bp{x j pos}:PE X (.Constant (.str x) j pos) (tC (.str x)):=fun _ _ _ H _ I h=>Jb ⟨.str x,H,I.tok _,⟨_,rfl⟩,h⟩
def Gl(X:Cx)(x:Str):Prop:=X.env.kindOf x=some .globalImplicit
theorem yo{Q:Value->Shared->Prop}(I:Inv X pins σ H s)(hg:Gl X x)(hm:X.mg x=some u)(h:Q u s)(hd:(x==("__debug__" : Str))=false:=by decide):wpAny (model X.prog X.w) X.A (eval (.Name x pos) X.env) Q E s:=
 Qj I.ok.kind hg (Calls.loadGlobal_global (by rw[I.ok.glob];exact I.mod.glob.keeps I.bk) hm h) hd
theorem sI{Q:Value->Shared->Prop}(I:Inv X pins σ H s)(hg:Gl X x)(hm:X.mg x=none)(hv:bootBuiltins x=some u)(h:Q u s)(hn:x ≠ "__name__" := by decide)(hd:(x==("__debug__" : Str))=false:=by decide):wpAny (model X.prog X.w) X.A (eval (.Name x pos) X.env) Q E s:=by
 obtain⟨mb,h1,h2⟩:=I.mod.blt
 exact Qj I.ok.kind hg (Calls.loadGlobal_builtin (by rw[I.ok.glob];exact I.mod.glob.keeps I.bk) hm (by rw[I.ok.blt];exact h1.keeps I.bk) ((h2 x hn).trans hv) h) hd
theorem uq(hg:Gl X x)(hm:X.mg x=some u)(r:RelV v u)(hd:(x==("__debug__" : Str))=false:=by decide):PE X (.Name x pos) (tC v):=
 fun _ _ _ H _ I h=>yo I hg hm ⟨v,H,I,r,h⟩ hd
theorem yd(hg:Gl X x)(hm:X.mg x=none)(hv:bootBuiltins x=some u)(r:RelV v u)(hn:x ≠ "__name__" := by decide)(hd:(x==("__debug__" : Str))=false:=by decide):PE X (.Name x pos) (tC v):=
 fun _ _ _ H _ I h=>sI I hg hm hv ⟨v,H,I,r,h⟩ hn hd
def PC(X:Cx)(op:CmpOp)(a b:Expr)(t:TE):Prop:=
 ∀(pins:List (Addr×Obj)) (s:Shared) (σ:St) (H:Hp) (Q:VK),Inv X pins σ H s->t σ H Q ->
  wpAny (model X.prog X.w) X.A (eval a X.env) (fun v s₁=>wpAny (model X.prog X.w) X.A (eval b X.env) (fun u s₂=>wpAny (model X.prog X.w) X.A (compareOp op v u) (EP X pins σ Q) X.xe s₂) X.xe s₁) X.xe s
theorem dH(b:Expr){op:CmpOp}(h:op ≠ .In)(h2:op ≠ .NotIn):behindInMarks op b=false:=by
 have e1:(op==CmpOp.In)=false:=by cases op<;>first | rfl | exact absurd rfl h
 have e2:(op==CmpOp.NotIn)=false:=by cases op<;>first | rfl | exact absurd rfl h2
 cases b<;>simp[behindInMarks,e1,e2]
def tB(t:TE):TT:=fun σ H Q=>t σ H fun x H1=>∃c,x=.bl c/\Q c H1
theorem OC{op:CmpOp}(h:PC X op a b t)(h1:behindInMarks op b=false:=by first | exact dH _ (by decide) (by decide) | rfl):PT X (.Compare a [op] [b] pos) (tB t):=by
 intro pins s σ H Q I hw
 refine wpAny_isTrue_Compare1 (de (h pins s σ H _ I hw) fun v s1 h1=>de h1 fun u s2 h2=>de h2 fun c s3 ⟨x,H1,I1,r1,q1⟩=>?_) h1
 obtain⟨d,rfl,q⟩:=q1
 cases r1
 exact jh ⟨H1,I1,q⟩
theorem Kg(h:PE X e t)(he:∀whole,isTrue e X.env whole=(do let v <-whole;standAt e.pos;holding [v] (truthy v)):=by intro _;rfl):PT X e (tB t):=by
 intro pins s σ H Q I hw
 refine isTrue_plain (de (h pins s σ H _ I hw) fun v s1 ⟨x,H1,I1,r1,q1⟩=>?_) (he _)
 obtain⟨d,rfl,q⟩:=q1
 cases r1
 exact jh ⟨H1,I1,q⟩
variable {tA Ya:TT}{bS:List Expr}
def Oq(t u:TT):TT:=fun σ H Q=>t σ H fun c H1=>if c=true then u σ H1 Q else Q false H1
def PY(t u:TT):TT:=fun σ H Q=>t σ H fun c H1=>if c=true then Q true H1 else u σ H1 Q
def Oh(t:TT):TT:=fun σ H Q=>t σ H fun c H1=>Q (!c) H1
theorem HG(ha:PT X a tA):PW X (.BoolOp .And [a] pos) tA:=by
 intro wh pins s σ H Q I h
 refine isTrue_and (de (ha pins s σ H Q I h) fun c s1 e=>?_)
 cases c with
 |true=>exact isTrue_and_nil e
 |false=>exact e
theorem Kf(ha:PT X a tA):PW X (.BoolOp .Or [a] pos) tA:=by
 intro wh pins s σ H Q I h
 refine isTrue_or (de (ha pins s σ H Q I h) fun c s1 e=>?_)
 cases c with
 |false=>exact isTrue_or_nil e
 |true=>exact e
theorem Fa(ha:PT X a tA)(hb:PW X (.BoolOp .And (b::bS) pos) Ya):PW X (.BoolOp .And (a::b::bS) pos) (Oq tA Ya):=by
 intro wh pins s σ H Q I h
 refine isTrue_and (de (ha pins s σ H _ I h) fun c s1 ⟨H1,I1,q1⟩=>?_)
 cases c with
 |true=>exact hb wh pins s1 σ H1 Q I1 q1
 |false=>exact⟨H1,I1,q1⟩
theorem Jn(ha:PT X a tA)(hb:PW X (.BoolOp .Or (b::bS) pos) Ya):PW X (.BoolOp .Or (a::b::bS) pos) (PY tA Ya):=by
 intro wh pins s σ H Q I h
 refine isTrue_or (de (ha pins s σ H _ I h) fun c s1 ⟨H1,I1,q1⟩=>?_)
 cases c with
 |true=>exact⟨H1,I1,q1⟩
 |false=>exact hb wh pins s1 σ H1 Q I1 q1
theorem Kh(ha:PT X a tA):PT X (.UnaryOp .Not a pos) (Oh tA):=by
 intro pins s σ H Q I h
 exact isTrue_not (ha pins s σ H (fun c H1=>Q (!c) H1) I h)
def MD(ta tb:TE):TE:=fun σ H Q=>ta σ H fun x H1=>∃c,x=.bl c/\if c=true then tb σ H1 Q else Q (.bl false) H1
theorem Kn{op}(h:PE X a t):PE X (.BoolOp op [a] pos) t:=fun pins s σ H Q I hw=>BoolOp_one (h pins s σ H Q I hw)
theorem Fp(ha:PE X a ta)(hb:PE X (.BoolOp .And (b::bS) pos) tb):PE X (.BoolOp .And (a::b::bS) pos) (MD ta tb):=by
 intro pins s σ H Q I h
 refine BoolOp_and (de (ha pins s σ H _ I h) fun v s1 ⟨x,H1,I1,r1,q1⟩=>?_)
 obtain⟨c,rfl,q1⟩:=q1
 cases r1
 refine jh ?_
 cases c with
 |true=>exact hb pins s1 σ H1 Q I1 q1
 |false=>exact⟨.bl false,H1,I1,rfl,q1⟩
def PZ(t:TT)(ta tb:TE):TE:=fun σ H Q=>t σ H fun c H1=>if c=true then ta σ H1 Q else tb σ H1 Q
theorem qU(hc:PT X c tA)(ha:PE X a ta)(hb:PE X b tb):PE X (.IfExp c a b pos) (PZ tA ta tb):=by
 intro pins s σ H Q I h
 refine wpAny_IfExp (de (hc pins s σ H _ I h) fun d s1 ⟨H1,I1,q1⟩=>?_)
 cases d with
 |true=>exact ha pins s1 σ H1 Q I1 q1
 |false=>exact hb pins s1 σ H1 Q I1 q1
end
def Q1(K:PySem.W.Frag)(H:Hp)(a:Addr)(xs:List V):Prop:=
 Rd H a (.lst xs) \/
  ∃(o:Obj) (its:Array Value) (n:Nat),K.lookup a=some o/\o.cls=.type "list" /\ o.dict=none/\o.data=.seq its n/\its.size<=sizeLine/\Vals xs its.toList
def RB(K:PySem.W.Frag)(H:Hp)(a:Addr)(xs:List V):Prop:=
 Rd H a (.tup xs) \/
  ∃(o:Obj) (its:Array Value) (n:Nat),K.lookup a=some o/\o.cls=.type "tuple" /\ o.data=.seq its n/\its.size<=sizeLine/\Vals xs its.toList
def OZ:Value->Option V
 |.none=>some .QO
 |.bool b=>some (.bl b)
 |.int i _=>some (.int i)
 |.str x _=>some (.str x)
 |.bytes b _=>some (.UA b)
 |.float b _=>some (.Wt b)
 |.ref a=>some (.ref a)
 |.type n=>some (.ty n)
 |_=>none
theorem RelV.abs(r:RelV x u):OZ u=some x:=by
 cases x with
 |QO=>cases r;rfl
 |bl _=>cases r;rfl
 |int _=>obtain⟨t,rfl⟩:=r;rfl
 |str _=>obtain⟨t,rfl⟩:=r;rfl
 |UA _=>obtain⟨t,rfl⟩:=r;rfl
 |Wt _=>obtain⟨t,rfl⟩:=r;rfl
 |ref _=>cases r;rfl
 |ty _=>cases r;rfl
theorem RelV.inj(r:RelV x u)(q:RelV y u):x=y:=bB (r.abs.symm.trans q.abs)
theorem Vals.inj:∀{xs ys:List V} {us:List Value},Vals xs us->Vals ys us->xs=ys
 |_,_,_,.nil,.nil=>rfl
 |_,_,_,.cons r t,.cons r' t'=>by rw[r.inj r',Vals.inj t t']
section
theorem Q1.of{K:PySem.W.Frag}{H:Hp}{a:Addr}(h:H a=some (.lst xs)):Q1 K H a xs:=.inl (.inl h)
theorem RB.of{K:PySem.W.Frag}{H:Hp}{a:Addr}(h:H a=some (.tup xs)):RB K H a xs:=.inl (.inl h)
theorem Inv.list(I:Inv X pins σ H s)(h:Q1 X.K H a xs):∃its:List Value,Vals xs its/\PlainL s.heap a its.toArray/\xs.length<=sizeLine:=by
 rcases h with h | ⟨o,its,n,hk,hc,hd,hs,hz,r⟩
 ·obtain⟨z,its,n,r,e⟩:=h.ok I.QG
  exact⟨its,r,⟨_,n,e,rfl,rfl,rfl⟩,z⟩
 ·refine⟨its.toList,r,⟨o,n,I.Se a o hk,hc,hd,by simpa using hs⟩,?_⟩
  have e:=r.length
  simp only[bZ] at e
  omega
theorem Inv.tuple(I:Inv X pins σ H s)(h:RB X.K H a xs):∃its:List Value,Vals xs its/\IsTup s.heap a its.toArray/\xs.length<=sizeLine:=by
 rcases h with h | ⟨o,its,n,hk,hc,hs,hz,r⟩
 ·obtain⟨z,its,r,p⟩:=h.ok I.QG
  exact⟨its,r,p,z⟩
 ·refine⟨its.toList,r,⟨o,I.Se a o hk,hc,n,by simpa using hs⟩,?_⟩
  have e:=r.length
  simp only[bZ] at e
  omega
theorem Inv.UZ(I:Inv X pins σ H s)(h:Q1 X.K H a xs)(h':Q1 X.K H a ys):xs=ys:=by
 obtain⟨its,r,⟨o,n,e,_,_,d⟩,_⟩:=I.list h
 obtain⟨its',r',⟨o',n',e',_,_,d'⟩,_⟩:=I.list h'
 rw[e] at e';cases e'
 rw[d] at d'
 injection d' with d1 _
 have:its=its':=by simpa using bJ Array.toList d1
 subst this
 exact r.inj r'
theorem Inv.Tp(I:Inv X pins σ H s)(h:RB X.K H a xs)(h':RB X.K H a ys):xs=ys:=by
 obtain⟨its,r,⟨o,e,_,n,d⟩,_⟩:=I.tuple h
 obtain⟨its',r',⟨o',e',_,n',d'⟩,_⟩:=I.tuple h'
 rw[e] at e';cases e'
 rw[d] at d'
 injection d' with d1 _
 have:its=its':=by simpa using bJ Array.toList d1
 subst this
 exact r.inj r'
end
abbrev Cx.Tc(X:Cx)(E:Value->Shared->Prop):Cx:={ X with xe:=E }
abbrev Cx.Tx(X:Cx):Cx:=X.Tc fun _ _=>False
theorem Cx.Ok.Tc{X:Cx}(ok:X.Ok)(E:Value->Shared->Prop):(X.Tc E).Ok:=
 ⟨ok.mod,ok.kind,ok.glob,ok.blt,ok.above,ok.inj,ok.has,ok.X3,ok.hd,ok.frames,ok.S0,ok.Ys,ok.bs,ok.VO,ok.UY,ok.U8,ok.SU,ok.Ws⟩
theorem Cx.Ok.RL{X:Cx}(ok:(X.Tc E).Ok):X.Ok:=
 ⟨ok.mod,ok.kind,ok.glob,ok.blt,ok.above,ok.inj,ok.has,ok.X3,ok.hd,ok.frames,ok.S0,ok.Ys,ok.bs,ok.VO,ok.UY,ok.U8,ok.SU,ok.Ws⟩
section
theorem Inv.Tc(I:Inv X pins σ H s)(E:Value->Shared->Prop):Inv (X.Tc E) pins σ H s:=⟨I.ok.Tc E,I.os,I.bare,I.base,I.loc,I.cell,I.free,I.RS,I.pin,I.QG,I.len⟩
theorem Inv.RL{X:Cx}(I:Inv (X.Tc E) pins σ H s):Inv X pins σ H s:=⟨I.ok.RL,I.os,I.bare,I.base,I.loc,I.cell,I.free,I.RS,I.pin,I.QG,I.len⟩
theorem SP.RL{D:kx}{X:Cx}{f:Flow}(h:SP (X.Tc E) pins D f s'):SP X pins D f s':=by
 cases f with
 |next=>obtain⟨σ',H',I,q⟩:=h;exact⟨σ',H',I.RL,q⟩
 |brk=>obtain⟨σ',H',I,q⟩:=h;exact⟨σ',H',I.RL,q⟩
 |cont=>obtain⟨σ',H',I,q⟩:=h;exact⟨σ',H',I.RL,q⟩
 |ret u=>obtain⟨v,σ',H',I,r,q⟩:=h;exact⟨v,σ',H',I.RL,r,q⟩
theorem Uk.Tx{st:List Stmt}{X:Cx}(h:Uk X.Tx st t):Uk X st t:=fun pins s σ H D I hw=>
 jP (h pins s σ H D (I.Tc _) hw) (fun _ _ q=>q.RL) fun _ _ z=>False.elim z
end
section
variable {st:Stmt}{bS:List Stmt}
def Mv:TS:=fun D σ H=>D.nx σ H
def Oe(t u:TS):TS:=fun D σ H=>t { D with nx:=u D } σ H
theorem HI:Uk X [] Mv:=fun _ _ σ H _ I h=>A0 ⟨σ,H,I,h⟩
theorem fm(h1:PS X st t)(h2:Uk X bS u):Uk X (st::bS) (Oe t u):=by
 intro pins s σ H D I h
 refine wpAny_execs_cons (de (h1 pins s σ H { D with nx:=u D } I h) fun f s1 q=>?_)
 cases f with
 |next=>
  obtain⟨σ',H',I',q⟩:=q
  exact h2 pins s1 σ' H' D I' q
 |ret v=>exact q
 |brk=>exact q
 |cont=>exact q
theorem kP(h1:PS X st t):Uk X [st] t:=by
 intro pins s σ H D I h
 refine wpAny_execs_cons (de (h1 pins s σ H D I h) fun f s1 q=>?_)
 cases f with
 |next=>exact A0 q
 |ret v=>exact q
 |brk=>exact q
 |cont=>exact q
theorem Inv.quiet(I:Inv X pins σ H s):interactive X.env=false:=by simp[interactive,I.ok.kind]
def Mx(te:TE):TS:=fun D σ H=>te σ H fun _ H1=>D.nx σ H1
theorem gY{pos:Pos}(he:PE X e te)(hs:swapsWith e none pos.line X.env=pure false:=by rfl):PS X (.Expr e pos) (Mx te):=by
 intro pins s σ H D I h
 exact wpAny_Expr_any (de (he pins s σ H _ I h) fun v s1 ⟨x,H1,I1,r1,q1⟩=>⟨σ,H1,I1,q1⟩) I.quiet hs
def Of(te:TE):TS:=fun D σ H=>te σ H D.rt
theorem pX(he:PE X e te):PS X (.Return (some e) pos) (Of te):=by
 intro pins s σ H D I h
 exact wpAny_Return_some (de (he pins s σ H _ I h) fun v s1 ⟨x,H1,I1,r1,q1⟩=>⟨x,σ,H1,I1,r1,q1⟩)
def Mt:TS:=fun D _ H=>D.rt .QO H
theorem HJ:PS X (.Return none pos) Mt:=fun _ _ σ H _ I h=>wpAny_Return_none ⟨.QO,σ,H,I,rfl,h⟩
def Ol(c:TT)(t u:TS):TS:=fun D σ H=>c σ H fun b H1=>if b=true then t D σ H1 else u D σ H1
theorem xi{tc:TT}(hc:PT X c tc)(ha:Uk X a t)(hb:Uk X b u):PS X (.If c a b pos) (Ol tc t u):=by
 intro pins s σ H D I h
 refine wpAny_If (de (hc pins s σ H _ I h) fun d s1 ⟨H1,I1,q1⟩=>?_)
 cases d with
 |true=>exact ha pins s1 σ H1 D I1 q1
 |false=>exact hb pins s1 σ H1 D I1 q1
end
abbrev TG:=V->St->Hp->(St->Hp->Prop)->Prop
abbrev IU:=List V->St->Hp->(St->Hp->Prop)->Prop
def PG(X:Cx)(target:Expr)(t:TG):Prop:=
 ∀(pins:List (Addr×Obj)) (s:Shared) (σ:St) (H:Hp) (v:V) (u:Value) (Q:St->Hp->Prop),Inv X pins σ H s->RelV v u->t v σ H Q ->
  wpAny (model X.prog X.w) X.A (assign target X.env u) (fun _ s'=>∃σ' H',Inv X pins σ' H' s'/\Q σ' H') X.xe s
def Mb(X:Cx)(ts:List Expr)(t:IU):Prop:=
 ∀(pins:List (Addr×Obj)) (s:Shared) (σ:St) (H:Hp) (vs:List V) (us:List Value) (Q:St->Hp->Prop),Inv X pins σ H s->Vals vs us->t vs σ H Q ->
  wpAny (model X.prog X.w) X.A (assignInOrder ((assignEach ts X.env).map (·.2)) us) (fun _ s'=>∃σ' H',Inv X pins σ' H' s'/\Q σ' H') X.xe s
abbrev Eb:=V->V->V->Hp->(Hp->Prop)->Prop
def IV(X:Cx)(t:Eb):Prop:=
 ∀(pins:List (Addr×Obj)) (s:Shared) (σ:St) (H:Hp) (o i v:V) (ov iv u:Value) (Q:Hp->Prop),Inv X pins σ H s->RelV o ov->RelV i iv->RelV v u->t o i v H Q ->
  wpAny (model X.prog X.w) X.A (setItem ov iv u) (fun _ s'=>∃H',Inv X pins σ H' s'/\Q H') X.xe s
abbrev NB:=V->V->Hp->VK->Prop
def Ma(X:Cx)(op:Operator)(t:NB):Prop:=
 ∀(pins:List (Addr×Obj)) (s:Shared) (σ:St) (H:Hp) (x y:V) (v u:Value) (Q:VK),Inv X pins σ H s->RelV x v->RelV y u->t x y H Q ->
  wpAny (model X.prog X.w) X.A (inplaceOp op v u) (EP X pins σ Q) X.xe s
section
def Jy(i:Nat):TG:=fun v σ H Q=>Q (σ.set i (some v)) H
theorem uo{i:Nat}{X:Cx}(hN:X.N.Nodup)(hi:X.N[i]?=some x)(hx:LO X.env.scope x)(hf:X.fn x=true\/X.env.scope.names.lookup x=some .local:=by first | exact .inl rfl | exact .inr rfl | assumption):PG X (.Name x pos) (Jy i):=by
 intro pins s σ H v u Q I r h
 exact wpAny_assign_Name (nn I hN hi hx r (fun s' I'=>⟨_,H,I',h⟩) hf)
def OQ:IU:=fun vs σ H Q=>vs=[]/\Q σ H
def M8(t:TG)(u:IU):IU:=fun vs σ H Q=>∃v r,vs=v::r/\t v σ H fun σ' H'=>u r σ' H' Q
theorem CG:Mb X [] OQ:=by
 intro pins s σ H vs us Q I r h
 obtain⟨e,h⟩:=h
 subst e
 cases r
 exact assignInOrder_nil ⟨σ,H,I,h⟩
theorem va{u:IU}(h1:PG X e t)(h2:Mb X es u)(hs:(assignEach (e::es) X.env).map (·.2)=assign e X.env::(assignEach es X.env).map (·.2):=by rfl):Mb X (e::es) (M8 t u):=by
 intro pins s σ H vs us Q I r h
 obtain⟨v,vr,e1,h⟩:=h
 subst e1
 cases r with
 |cons r rr=>
  rw[hs]
  refine PH (de (h1 pins s σ H _ _ _ I r h) fun _ s1 ⟨σ1,H1,I1,q1⟩=>?_)
  exact h2 pins s1 σ1 H1 _ _ Q I1 rr q1
def OO(K:PySem.W.Frag)(n:Nat)(t:IU):TG:=fun v σ H Q=>∃a xs,v=.ref a/\RB K H a xs/\xs.length=n/\t xs σ H Q
theorem Fk{n:Nat}{X:Cx}{t:IU}(hc:X.calm=true)(h:Mb X es t)(hn:(assignEach es X.env).length=n:=by rfl)(Vi:(assignEach es X.env).findIdx? (·.1)=none:=by rfl):PG X (.Tuple es k pos) (OO X.K n t):=by
 intro pins s σ H v u Q I r hw
 obtain⟨a,xs,e1,hq,hl,hw⟩:=hw
 subst e1
 cases r
 obtain⟨its,rv,ht,hz⟩:=I.tuple hq
 refine assign_Tuple_tuple (I.ok.hd hc) ht (by simp[hn,<-hl,rv.length]) Vi fun h' hx=>?_
 have I1:Inv X pins σ H { s with heap:=h' }:=I.kept (t':=s.toks) fun b o e=>hx b o (bi (aW e)) e
 exact h pins _ σ H xs _ Q I1 (by simpa using rv) hw
def OP(to ti:TE)(t:Eb):TG:=fun v σ H Q=>to σ H fun o H1=>ti σ H1 fun i H2=>t o i v H2 fun H3=>Q σ H3
theorem Fl{t:Eb}(ho:PE X o to)(hi:PE X i ti)(hs:IV X t)(ha:∀v,assign (.Subscript o i pos) X.env v=(do
   let ov <-holding [v] (eval o X.env)
   let iv <-holding [v,ov] (eval i X.env)
   standAt pos
   holding [v,ov,iv] (setItem ov iv v)
   release [v,ov,iv] []):=by intro _;rfl):PG X (.Subscript o i pos) (OP to ti t):=by
 intro pins s σ H v u Q I r h
 rw[ha]
 refine ae (bR (de (ho pins s σ H _ I h) fun ov s1 ⟨x,H1,I1,r1,q1⟩=>?_))
 refine ae (bR (de (hi pins s1 σ H1 _ I1 q1) fun iv s2 ⟨y,H2,I2,r2,q2⟩=>?_))
 refine ae (i6 (ae (bR (de (hs pins s2 σ H2 x y v ov iv u _ I2 r1 r2 r q2) fun _ s3 ⟨H3,I3,q3⟩=>?_))))
 exact wpAny_release ⟨σ,H3,I3,q3⟩
def MC(te:TE)(g:TG):TS:=fun D σ H=>te σ H fun x H1=>g x σ H1 D.nx
theorem Fe{pos:Pos}(he:PE X e te)(hg:PG X tg g)(hs:swapsWithSole [tg] e pos.line X.env=pure false:=by rfl)(hw:swappedStores [tg] e X.env=pure none:=by rfl)(h1:(assignEach [tg] X.env).map (·.2)=[assign tg X.env]:=by rfl):PS X (.Assign [tg] e pos) (MC te g):=by
 intro pins s σ H D I h
 refine wpAny_Assign_stores (de (he pins s σ H _ I h) fun v s1 ⟨x,H1,I1,r1,q1⟩=>?_) hs hw
 rw[h1]
 exact de (hg pins s1 σ H1 x v _ I1 r1 q1) fun _ s2 q=>q
theorem mw{i:Nat}{X:Cx}{pos:Pos}(hN:X.N.Nodup)(hi:X.N[i]?=some x)(hx:LO X.env.scope x)(he:PE X e te)(hs:swapsWith e (some (.Name x pos')) pos.line X.env=pure false:=by rfl)(hf:X.fn x=true\/X.env.scope.names.lookup x=some .local:=by first | exact .inl rfl | exact .inr rfl | assumption):
  PS X (.Assign [.Name x pos'] e pos) (MC te (Jy i)):=by
 intro pins s σ H D I h
 refine wpAny_Assign_Name (de (he pins s σ H _ I h) fun v s1 ⟨y,H1,I1,r1,q1⟩=>?_) hs
 exact nn I1 hN hi hx r1 (fun s2 I2=>⟨_,H1,I2,q1⟩) hf
def Og(i j:Nat)(ta:TA):TS:=fun D σ H=>ta σ H fun vs H1=>∃v w,vs=[v,w]/\D.nx ((σ.set i (some v)).set j (some w)) H1
theorem Fc{i j:Nat}{X:Cx}{pos:Pos}{kt k2 Vw}(hc:X.calm=true)(hN:X.N.Nodup)(hi:X.N[i]?=some x)(hj:X.N[j]?=some y)(WM:i≠j)(hx:X.env.scope.names.lookup x=some .local)(hy:X.env.scope.names.lookup y=some .local)(ha:PA X [a,b] ta)(hw:swappedStores [.Tuple [.Name x px,.Name y py] kt pt] (.Tuple [a,b] k2 Vw) X.env=pure (some [x,y]))(hs:swapsWithSole [.Tuple [.Name x px,.Name y py] kt pt] (.Tuple [a,b] k2 Vw) pos.line X.env=pure false:=by rfl):
  PS X (.Assign [.Tuple [.Name x px,.Name y py] kt pt] (.Tuple [a,b] k2 Vw) pos) (Og i j ta):=by
 intro pins s σ H D I h
 rw[exec_Assign_arm]
 refine ae (i6 ?_)
 rw[hs]
 refine ae (au ?_)
 rw[aq (by decide)]
 refine ae (Tuple_ (de (ha _ pins s σ H _ I h) fun us s1 ⟨vs,H1,I1,r1,q1⟩=>?_))
 obtain⟨v,w,e1,q1⟩:=q1
 subst e1
 obtain⟨u1,u2,rfl,rv,Sj⟩:∃u1 u2,us=[u1,u2]/\RelV v u1/\RelV w u2:=by
  cases r1 with
  |cons p q=>
   cases q with
   |cons p' q'=>
    cases q'
    exact⟨_,_,rfl,p,p'⟩
 refine bX ?_ (by show 2<=sizeLine;decide)
 have I2:Inv X pins σ H1 { s1 with heap:=s1.heap.push { cls:=.type "tuple",data:=.seq [u1,u2].toArray } }:=I1.kept (t':=s1.toks) fun b o e=>ar _ e
 rw[hw]
 refine ae (au ?_)
 show wpAny (model X.prog X.w) X.A (do rule "assign.swapped-stores";let items <-unpackItems (.ref s1.heap.objs.size) 2 none;assignInOrder [fun v=>bindName X.env y v,fun v=>bindName X.env x v] items.reverse;pure Flow.next) _ _ _
 refine ae (wpAny_rule (ae (unpackItems_tuple (items:=#[u1,u2]) (I.ok.hd hc) (IsTup.new s1.heap _) fun h' Vz=>?_)))
 have I3:=I2.kept (h':=h') (t':=s1.toks) fun b o e=>Vz b o (bi (aW e)) e
 show wpAny _ _ (assignInOrder [fun v=>bindName X.env y v,fun v=>bindName X.env x v] [u2,u1] >>= fun _=>pure Flow.next) _ _ _
 refine ae (PH (wpAny_bindName (nn I3 hN hj (.inl hy) Sj (fun s2 I4=>?_) (.inr hy))))
 refine PH (wpAny_bindName (nn I4 hN hi (.inl hx) rv (fun s3 I5=>assignInOrder_nil (au ?_)) (.inr hx)))
 rw[List.set_comm _ _ (Ne.symm WM)] at I5
 exact⟨_,H1,I5,q1⟩
def Op(i:Nat)(te:TE)(ti:NB):TS:=fun D σ H=>∃x,σ[i]?=some (some x)/\te σ H fun y H1=>ti x y H1 fun z H2=>D.nx (σ.set i (some z)) H2
theorem Bk{i:Nat}{X:Cx}{ti:NB}(hN:X.N.Nodup)(hi:X.N[i]?=some x)(hx:LO X.env.scope x)(he:PE X e te)(ho:Ma X op ti)(hf:X.fn x=true\/X.env.scope.names.lookup x=some .local:=by first | exact .inl rfl | exact .inr rfl | assumption):
  PS X (.AugAssign (.Name x pos') op e pos) (Op i te ti):=by
 intro pins s σ H D I h
 obtain⟨v,e1,h⟩:=h
 obtain⟨m,hn,hl⟩:=I.loc
 have vis:Nz X.env.scope x:=by rcases hx with k | k;exact .inl k;exact .inr (.inl k)
 obtain⟨u,r,l⟩:=hl i x v hi e1 vis
 refine wpAny_AugAssign_Name ?_
 have go:wpAny (model X.prog X.w) X.A (eval e X.env) (fun w s₂=>wpAny (model X.prog X.w) X.A (inplaceOp op u w) (fun r s₃=>wpAny (model X.prog X.w) X.A (storeName X.env x r) (fun _=>SP X pins D .next) X.xe s₃) X.xe s₂) X.xe s:=by
  refine de (he pins s σ H _ I h) fun w s1 ⟨y,H1,I1,r1,q1⟩=>?_
  refine de (ho pins s1 σ H1 v y u w _ I1 r r1 q1) fun z s2 ⟨zv,H2,I2,r2,q2⟩=>?_
  exact nn I2 hN hi hx r2 (fun s3 I3=>⟨_,H2,I3,q2⟩) hf
 rcases l with⟨hk,hm⟩ | ⟨hk,c,hc,Sq⟩
 ·exact wpAny_loadName_local I.ok.kind hk hn hm go
 ·rcases hk with hk | hk
  ·exact wpAny_loadName_cell I.ok.kind hk hc Sq go
  ·rcases hx with k | k
   ·have:X.env.scope.names.lookup x=some .free:=hk
    rw[k] at this;cases this
   ·have:X.env.scope.names.lookup x=some .free:=hk
    rw[k] at this;cases this
def MB(to ti te:TE)(Vs:V->V->Hp->VK->Prop)(X9:NB)(Vr:Eb):TS:=fun D σ H=>to σ H fun o H1=>ti σ H1 fun i H2=>Vs o i H2 fun x H3=>te σ H3 fun y H4=>X9 x y H4 fun z H5=>Vr o i z H5 fun H6=>D.nx σ H6
def NG(X:Cx)(t:V->V->Hp->VK->Prop):Prop:=
 ∀(pins:List (Addr×Obj)) (s:Shared) (σ:St) (H:Hp) (o i:V) (ov iv:Value) (Q:VK),Inv X pins σ H s->RelV o ov->RelV i iv->t o i H Q ->
  wpAny (model X.prog X.w) X.A (getItem ov iv) (EP X pins σ Q) X.xe s
theorem HK{Vs:V->V->Hp->VK->Prop}{X9:NB}{Vr:Eb}(ho:PE X o to)(hi:PE X i ti)(hg:NG X Vs)(he:PE X e te)(hp:Ma X op X9)(hs:IV X Vr)(ha:∀ov iv new,augStore i ov iv new=(do holding [new,ov,iv] (setItem ov iv new);release [new,ov,iv] [];pure .next):=by intros;rfl):PS X (.AugAssign (.Subscript o i W6) op e pos) (MB to ti te Vs X9 Vr):=by
 intro pins s σ H D I h
 refine wpAny_AugAssign_SubscriptAny (de (ho pins s σ H _ I h) fun ov s1 ⟨x1,H1,I1,r1,q1⟩=>?_) ha
 refine de (hi pins s1 σ H1 _ I1 q1) fun iv s2 ⟨x2,H2,I2,r2,q2⟩=>?_
 refine de (hg pins s2 σ H2 x1 x2 ov iv _ I2 r1 r2 q2) fun old s3 ⟨x3,H3,I3,r3,q3⟩=>?_
 refine de (he pins s3 σ H3 _ I3 q3) fun v s4 ⟨x4,H4,I4,r4,q4⟩=>?_
 refine de (hp pins s4 σ H4 x3 x4 old v _ I4 r3 r4 q4) fun new s5 ⟨x5,H5,I5,r5,q5⟩=>?_
 exact de (hs pins s5 σ H5 x1 x2 x5 ov iv new _ I5 r1 r2 r5 q5) fun _ s6 ⟨H6,I6,q6⟩=>⟨σ,H6,I6,q6⟩
end
section
def JU(c:TT)(tb:TS):TS:=fun D σ H=>∃W:Nat->St->Hp->Prop,(∃m,W m σ H)/\∀m σ H,W m σ H ->
 c σ H fun b H1=>if b=true then ∃N:St->Hp->Prop,(∀σ' H',N σ' H'->∃m',m'<m/\W m' σ' H')/\tb { D with nx:=N,ct:=N,bk:=D.nx } σ H1 else D.nx σ H1
theorem u6{X:Cx}{tc:TT}(hp:PassesOwn (model X.prog X.w) X.A X.env X.xe)(hc:PT X c tc)(hb:Uk X body tb):PS X (.While c body [] pos) (JU tc tb):=by
 intro pins s σ H D I h
 obtain⟨W,⟨m0,w0⟩,turn⟩:=h
 refine wpAny_While (codeAny_whileLoop (fun n s'=>∃σ' H',Inv X pins σ' H' s'/\W n σ' H') ?_ m0 ⟨σ,H,I,w0⟩)
 rintro n s1 ⟨σ1,H1,I1,w1⟩
 refine iF hp (de (hc pins s1 σ1 H1 _ I1 (turn n σ1 H1 w1)) fun b s2 ⟨H2,I2,q2⟩=>?_)
 cases b with
 |true=>
  obtain⟨N,hN,q2⟩:=q2
  rw[ay rfl]
  refine iF hp (de (hb pins s2 σ1 H2 _ I2 q2) fun f s3 q3=>?_)
  cases f with
  |next=>
   obtain⟨σ3,H3,I3,n3⟩:=q3
   obtain⟨m',hm,w3⟩:=hN σ3 H3 n3
   exact⟨m',hm,σ3,H3,I3,w3⟩
  |cont=>
   obtain⟨σ3,H3,I3,n3⟩:=q3
   obtain⟨m',hm,w3⟩:=hN σ3 H3 n3
   exact⟨m',hm,σ3,H3,I3,w3⟩
  |brk=>exact q3
  |ret v=>exact q3
 |false=>
  rw[aq aE]
  exact A0 ⟨σ1,H2,I2,q2⟩
end
structure It where
 go:Nat->Hp->Prop
 Yw:Nat->Hp->V->Hp->Prop
 stop:Nat->Hp->Prop
 Xx:Prop
def LQ(X:Cx):Prop:=∃(ea:Addr) (oe:Obj) (u:HO) (vs:Array Value),X.A.handled=some (.ref ea)/\X.H₀ ea=some (.RH oe u)/\oe.data=.fields vs/\vs[2]?=some .none
def rY(X:Cx)(pins:List (Addr×Obj))(H:Hp)(b:Addr):Prop:=
 H b=none/\b≠X.env.locals/\b∉X.fs/\(b∈X.ex\/X.s₀.heap.objs.size<=b)/\(∀x c,X.env.cells.lookup x=some c->c≠b)/\∀p∈X.pn++pins,p.1≠b
theorem Inv.Ue{H':Hp}{b:Addr}(I:Inv X pins σ H s)(hb:s.heap.objs.size<=b)(hn:H' b=none):rY X pins H' b:=by
 refine⟨hn,pj (bf I.lt hb),I.Zk hb,.inr (aL I.sz hb),fun x c e z=>?_,fun p hp z=>?_⟩
 ·obtain⟨v,q⟩:=I.cell x c e
  exact absurd (bf q.lt (by rw[z];exact hb)) (eZ _)
 ·exact absurd (bf (aW (I.pin p hp).1) (by rw[z];exact hb)) (eZ _)
structure wP(P:Program)(w:World)(K:PySem.W.Frag)(tg:Expr)(J:It)(fp:List Addr)(it:Addr)(tn:Nat->Heap->Prop):Prop where
 mem:it∈fp
 obj:∀i h,tn i h->∀b∈fp,∃o,h.get? b=some o/\∀v,o.data ≠ .cell v
 keep:∀i h h',tn i h->(∀b∈fp,∀o,h.get? b=some o->h'.get? b=some o)->tn i h'
 item:∀(X:Cx),X.prog=P->X.w=w->X.K=K->(X.calm=true\/(J.Xx/\LQ X))->∀(i:Nat) (pins:List (Addr×Obj)) (s:Shared) (σ:St) (H:Hp) (E:Value->Shared->Prop),Inv X pins σ H s->(∀b∈fp,rY X pins H b)->tn i s.heap->J.go i H ->
  wpAny (model P w) X.A (pyNext (.ref it)) (fun r s1=>∃u,r=some u /\
   wpAny (model P w) X.A (letOwnedTupleGo tg (.ref it) u) (fun _ s2=>∃x H',Inv X pins σ H' s2/\RelV x u/\J.Yw i H x H'/\tn (i+1) s2.heap/\∀b∈fp,H' b=none) E s1) E s
 done:∀(X:Cx),X.prog=P->X.w=w->X.K=K->(X.calm=true\/(J.Xx/\LQ X))->∀(i:Nat) (pins:List (Addr×Obj)) (s:Shared) (σ:St) (H:Hp) (E:Value->Shared->Prop),Inv X pins σ H s->(∀b∈fp,rY X pins H b)->tn i s.heap->J.stop i H ->
  wpAny (model P w) X.A (pyNext (.ref it)) (fun r s1=>r=none/\Inv X pins σ H s1) E s
 self:∀(A:Around) (i:Nat) (s:Shared) (Q:Value->Shared->Prop) (E:Value->Shared->Prop),tn i s.heap->Q (.ref it) s->wpAny (model P w) A (pyIter (.ref it)) Q E s
abbrev TI:=St->Hp->(It->Hp->Prop)->Prop
def NF(X:Cx)(pins:List (Addr×Obj))(σ:St)(tg:Expr)(R:It->Hp->Prop)(Ye:Value)(s2:Shared):Prop:=
 ∃(it:Addr) (fp:List Addr) (tn:Nat->Heap->Prop) (J:It) (H':Hp),Ye=.ref it/\Inv X pins σ H' s2/\wP X.prog X.w X.K tg J fp it tn/\tn 0 s2.heap/\(∀b∈fp,rY X pins H' b)/\R J H'
def PI(X:Cx)(tg iter:Expr)(wi:TI):Prop:=
 ∀(pins:List (Addr×Obj)) (s:Shared) (σ:St) (H:Hp) (R:It->Hp->Prop),Inv X pins σ H s->wi σ H R ->
  wpAny (model X.prog X.w) X.A (eval iter X.env) (fun v s1=>wpAny (model X.prog X.w) X.A (pyIter v) (NF X pins σ tg R) X.xe s1) X.xe s
theorem An{s:Shared}{it:Addr}{Q:Unit->Shared->Prop}(ho:s.heap.get? it=some o)(hc:o.cls=.type n)(hd:o.data=.fields vs)(hn:["enumerate", "zip", "dict_itemiterator", "dict_reverseitemiterator", "odict_iterator", "itertools.zip_longest", "itertools.pairwise"].contains n=false)(hQ:Q () s):wpAny M A (letOwnedTupleGo tg (.ref it) u) Q E s:=by
 unfold letOwnedTupleGo
 cases tg<;>first
  |exact au hQ
  |(cases u<;>first
    |exact au hQ
    |(refine ae (wpAny_load ho ?_);rw[hc,hd];show wpAny M A (if (["enumerate", "zip", "dict_itemiterator", "dict_reverseitemiterator", "odict_iterator", "itertools.zip_longest", "itertools.pairwise"].contains n&&vs[0]?==some (rawInt _))=true then _ else _) Q E s;rw[aq (by intro h;rw[hn,Bool.false_and] at h;cases h)];exact au hQ))
def Pb(K:PySem.W.Frag)(a:Addr):It:=
 ⟨fun i H=>∃xs x,Q1 K H a xs/\xs[i]?=some x,fun i H x H'=>H'=H/\∀xs,Q1 K H a xs->xs[i]?=some x,fun i H=>∃xs,Q1 K H a xs/\xs.length<=i,False⟩
def O9(K:PySem.W.Frag)(a:Addr):It:=
 ⟨fun i H=>∃xs x,RB K H a xs/\xs[i]?=some x,fun i H x H'=>H'=H/\∀xs,RB K H a xs->xs[i]?=some x,fun i H=>∃xs,RB K H a xs/\xs.length<=i,False⟩
def N2(lo:Int)(n:Nat):It:=⟨fun i _=>i<n,fun i H x H'=>H'=H/\x=.int (lo+i),fun i _=>n<=i,True⟩
theorem Dv{K:PySem.W.Frag}(a it:Addr):wP P w K tg (Pb K a) [it] it (fun i h=>h.IsListIter it a i) where
 mem:=by simp
 obj:=fun i h st b hb=>by
  have e:b=it:=by simpa using hb
  subst e
  obtain⟨o,e,c,d⟩:=st
  exact⟨o,e,fun v z=>by rw[d] at z;cases z⟩
 keep:=fun i h h' st k=>st.at fun o e=>k it (by simp) o e
 item:=by
  intro X hP hw hK hc i pins s σ H E I hf st hg
  subst hP hw hK
  replace hc:=hc.resolve_right fun z=>z.1
  obtain⟨xs,x,hq,hx⟩:=hg
  obtain⟨its,rv,p,hz⟩:=I.list hq
  obtain⟨u,hu,ru⟩:=rv.get hx
  obtain⟨f0,f1,f2,f3,f4,f5⟩:=hf it (by simp)
  refine wpAny_pyNext_list_item st p.isList (x:=u) (by simpa using hu) fun h' RM sb=>?_
  have I1:Inv X pins σ H { s with heap:=h' }:=I.turned (t':=s.toks) (fun b o hb e=>(sb.2 b hb).trans e) f0 f1 f3 f4 f5
  obtain⟨o,e,c,d⟩:=id RM
  exact⟨u,rfl,An (s:={ s with heap:=h' }) e c d (by decide) ⟨x,H,I1,ru,⟨rfl,fun ys hy=>by rw[I.UZ hy hq];exact hx⟩,RM,fun b hb=>(hf b hb).1⟩⟩
 done:=by
  intro X hP hw hK hc i pins s σ H E I hf st hg
  subst hP hw hK
  replace hc:=hc.resolve_right fun z=>z.1
  obtain⟨xs,hq,hx⟩:=hg
  obtain⟨its,rv,p,hz⟩:=I.list hq
  obtain⟨f0,f1,f2,f3,f4,f5⟩:=hf it (by simp)
  have hl:=rv.length
  exact wpAny_pyNext_list_end (I.ok.hd hc) st p.isList (by simp;omega) fun h' eb=>⟨rfl,I.turned (t':=s.toks) (fun b o hb e=>eb b o hb e) f0 f1 f3 f4 f5⟩
 self:=fun _ _ _ _ _ st h=>wpAny_pyIter_listiter st h
theorem A4{K:PySem.W.Frag}(a it:Addr):wP P w K tg (O9 K a) [it] it (fun i h=>h.IsTupleIter it a i) where
 mem:=by simp
 obj:=fun i h st b hb=>by
  have e:b=it:=by simpa using hb
  subst e
  obtain⟨o,e,c,d⟩:=st
  exact⟨o,e,fun v z=>by rw[d] at z;cases z⟩
 keep:=fun i h h' st k=>st.at fun o e=>k it (by simp) o e
 item:=by
  intro X hP hw hK hc i pins s σ H E I hf st hg
  subst hP hw hK
  replace hc:=hc.resolve_right fun z=>z.1
  obtain⟨xs,x,hq,hx⟩:=hg
  obtain⟨its,rv,p,hz⟩:=I.tuple hq
  obtain⟨u,hu,ru⟩:=rv.get hx
  obtain⟨f0,f1,f2,f3,f4,f5⟩:=hf it (by simp)
  refine wpAny_pyNext_tuple_item st (show s.heap.IsTuple a its.toArray from p) (x:=u) (by simpa using hu) fun h' RM sb=>?_
  have I1:Inv X pins σ H { s with heap:=h' }:=I.turned (t':=s.toks) (fun b o hb e=>(sb.2 b hb).trans e) f0 f1 f3 f4 f5
  obtain⟨o,e,c,d⟩:=id RM
  exact⟨u,rfl,An (s:={ s with heap:=h' }) e c d (by decide) ⟨x,H,I1,ru,⟨rfl,fun ys hy=>by rw[I.Tp hy hq];exact hx⟩,RM,fun b hb=>(hf b hb).1⟩⟩
 done:=by
  intro X hP hw hK hc i pins s σ H E I hf st hg
  subst hP hw hK
  replace hc:=hc.resolve_right fun z=>z.1
  obtain⟨xs,hq,hx⟩:=hg
  obtain⟨its,rv,p,hz⟩:=I.tuple hq
  obtain⟨f0,f1,f2,f3,f4,f5⟩:=hf it (by simp)
  have hl:=rv.length
  exact wpAny_pyNext_tuple_end (I.ok.hd hc) st (show s.heap.IsTuple a its.toArray from p) (by simp;omega) fun h' eb=>⟨rfl,I.turned (t':=s.toks) (fun b o hb e=>eb b o hb e) f0 f1 f3 f4 f5⟩
 self:=fun _ _ _ _ _ st h=>wpAny_pyIter_tupleiter st h
theorem wr:entryFor table "proto.unchain"=some Builtin.«proto.unchain»:=entryFor_of_tree (by kernel_rfl)
theorem pK{A:Around}{s:Shared}{step:Int}{Q:Option Value->Shared->Prop}(hh:A.handled=some (.ref ea))(he:s.heap.get? ea=some oe)(hd:oe.data=.fields vs)(h2:vs[2]?=some .none)(hit:IsRangeIter s.heap it x left step)(Xz:left<=0)(hQ:∀h',Heap.ExtBut it s.heap h'->Q none { s with heap:=h' }):wpAny (model prog w) A (pyNext (.ref it)) Q E s:=by
 have hT:s.TypeIs (.ref it) "range_iterator" := ⟨_,hit,rfl⟩
 unfold pyNext
 refine ae (G5 (cM (name:=Str.ofString "__next__") hT Qi (dY Qi hT F.entry_range_iterator_next ?_ (F.args_range_iterator_next_1 _))))
 show wpAny _ _ (field (.ref it) 0 >>= _) _ _ s
 refine ae (fw hit rfl (x:=rawInt x) rfl ?_)
 show wpAny _ _ (field (.ref it) 1 >>= _) _ _ s
 refine ae (fw hit rfl (x:=rawInt left) rfl ?_)
 show wpAny _ _ (field (.ref it) 2 >>= _) _ _ s
 refine ae (fw hit rfl (x:=rawInt step) rfl ?_)
 show wpAny _ _ (if left<=0 then _ else _) _ _ s
 rw[ay Xz]
 refine ae (wpAny_rule (ae ?_))
 show wpAny _ _ (newExc (.type "StopIteration") [] >>= _) _ _ _
 refine ae ?_
 simp only[newExc,newTuple]
 refine ae (bX ?_ (by size_fits))
 refine ae (m:=firstArgMember _ _) (gd (a:=Value.none) (by first | rfl | (simp only[firstArgMember];rfl)) ?_)
 refine bX ?_ (by size_fits)
 have QW:ea<s.heap.objs.size:=aW he
 simp only[raiseNew]
 refine ae (wpAny_handled ?_)
 rw[show A.in1.handled=some (.ref ea) from hh]
 dsimp only
 have ne:(Value.ref ea != Value.ref (s.heap.push { cls:=.type "tuple",data:=.seq ([]:List Value).toArray }).objs.size)=true:=by
  rw[eD]
  have:ea≠s.heap.objs.size+1:=bi (io QW)
  simp[this]
 rw[ay ne]
 have ZR:((s.heap.push { cls:=.type "tuple",data:=.seq ([]:List Value).toArray }).push { cls:=.type "StopIteration",data:=.fields (#[.ref s.heap.objs.size,.none,.none,.none,.bool false,Value.none]++ownMembersOf (.type "StopIteration") []) }).get? ea=some oe:=ar _ (ar _ he)
 refine ae (bR (wpAny_runValue (codeAny_builtin wr ?_)))
 unfold Builtin.«proto.unchain»
 dsimp only
 refine ae (fw ZR hd h2 ?_)
 rw[ay (by decide)]
 refine au ?_
 dsimp only
 refine ae ?_
 simp only[updateField]
 refine ae (wpAny_load (aO _ rfl) ?_)
 dsimp only
 rw[ay (by rw[Array.size_append];show 2<6+_;omega)]
 refine wpAny_update (aO _ rfl) ?_
 refine wpAny_throw ?_
 refine ae (NO (T := "StopIteration") (b:=true) ⟨_,pd _ (aO _ rfl) rfl,rfl⟩ Qc ?_)
 refine au (hQ _ fun b o hb q=>?_)
 have hb2:b<s.heap.objs.size:=aW q
 rw[iq _ _ (by rw[eD];exact pj (io hb2))]
 exact ar _ (ar _ q)
theorem A5{K:PySem.W.Frag}(it:Addr)(lo:Int)(n:Nat):wP P w K tg (N2 lo n) [it] it (fun i h=>IsRangeIter h it (lo+(i:Nat)*1) ((n:Int)-(i:Nat)) 1) where
 mem:=by simp
 obj:=fun i h st b hb=>by
  have e:b=it:=by simpa using hb
  subst e
  exact⟨_,st,fun v z=>by
   have z':Data.fields _=Data.cell v:=z
   cases z'⟩
 keep:=fun i h h' st k=>k it (by simp) _ st
 item:=by
  intro X hP hw hK hc i pins s σ H E I hf st hg
  subst hP hw hK
  obtain⟨f0,f1,f2,f3,f4,f5⟩:=hf it (by simp)
  refine wpAny_pyNext_range_item st (by have:i<n:=hg;omega) fun h' RM sb=>?_
  have I1:Inv X pins σ H { s with heap:=h',toks:=s.toks+1 }:=I.turned (fun b o hb e=>(sb.2 b hb).trans e) f0 f1 f3 f4 f5
  have e1:lo+(i:Nat)*1+1=lo+((i+1:Nat):Int)*1:=by omega
  have e2:(n:Int)-(i:Nat)-1=(n:Int)-((i+1:Nat):Int):=by omega
  rw[e1,e2] at RM
  refine⟨_,rfl,An (s:={ s with heap:=h',toks:=s.toks+1 }) (n := "range_iterator") RM rfl rfl (by decide) ⟨.int (lo+i),H,I1,⟨s.toks,?_⟩,⟨rfl,rfl⟩,RM,fun b hb=>(hf b hb).1⟩⟩
  rw[Qg]
 done:=by
  intro X hP hw hK hc i pins s σ H E I hf st hg
  subst hP hw hK
  obtain⟨f0,f1,f2,f3,f4,f5⟩:=hf it (by simp)
  rcases hc with hc | ⟨_,ea,oe,u,vs,k1,k2,k3,k4⟩
  rotate_left
  ·obtain⟨ho,_⟩:=(show QC X.prog X.w H s.heap ea (.RH oe u) from I.QG ea _ (I.base.SF ea oe u k2))
   exact pK k1 ho k3 k4 st (by have:n<=i:=hg;omega) fun h' eb=>⟨rfl,I.turned (t':=s.toks) (fun b o hb e=>eb b o hb e) f0 f1 f3 f4 f5⟩
  exact wpAny_pyNext_range_end (I.ok.hd hc) st (by have:n<=i:=hg;omega) fun h' eb=>⟨rfl,I.turned (t':=s.toks) (fun b o hb e=>eb b o hb e) f0 f1 f3 f4 f5⟩
 self:=fun _ _ _ _ _ st h=>wpAny_pyIter_rangeiter st h
section
def M5(K:PySem.W.Frag)(tl:TE):TI:=fun σ H R=>tl σ H fun x H1=>∃a,x=.ref a/\(∃xs,Q1 K H1 a xs)/\R (Pb K a) H1
def OJ(K:PySem.W.Frag)(tl:TE):TI:=fun σ H R=>tl σ H fun x H1=>∃a,x=.ref a/\(∃xs,RB K H1 a xs)/\R (O9 K a) H1
theorem CF(hl:PE X l tl):PI X tg l (M5 X.K tl):=by
 intro pins s σ H R I h
 refine de (hl pins s σ H _ I h) fun v s1 ⟨x,H1,I1,r1,q1⟩=>?_
 obtain⟨a,e,⟨xs,hq⟩,q⟩:=q1
 subst e
 cases r1
 obtain⟨its,rv,p,hz⟩:=I1.list hq
 refine LW p.isList ?_
 refine⟨s1.heap.objs.size,[s1.heap.objs.size],_,_,H1,rfl,I1.kept (t':=s1.toks) fun b o e=>ar _ e,Dv a _,⟨_,aO _ rfl,rfl,rfl⟩,fun b hb=>?_,q⟩
 have e:b=s1.heap.objs.size:=by simpa using hb
 subst e
 exact I1.Ue (ak _) (I1.QG.fresh (ak _))
theorem Fh(hl:PE X l tl):PI X tg l (OJ X.K tl):=by
 intro pins s σ H R I h
 refine de (hl pins s σ H _ I h) fun v s1 ⟨x,H1,I1,r1,q1⟩=>?_
 obtain⟨a,e,⟨xs,hq⟩,q⟩:=q1
 subst e
 cases r1
 obtain⟨its,rv,p,hz⟩:=I1.tuple hq
 refine t9 (show s1.heap.IsTuple a its.toArray from p) ?_
 refine⟨s1.heap.objs.size,[s1.heap.objs.size],_,_,H1,rfl,I1.kept (t':=s1.toks) fun b o e=>ar _ e,A4 a _,⟨_,aO _ rfl,rfl,rfl⟩,fun b hb=>?_,q⟩
 have e:b=s1.heap.objs.size:=by simpa using hb
 subst e
 exact I1.Ue (ak _) (I1.QG.fresh (ak _))
theorem E9{lo hi:Int}{tk:Nat}{R:It->Hp->Prop}(I:Inv X pins σ H s)(h1 : -(2 ^ 62)<=lo)(h2:lo<2 ^ 62)(h3 : -(2 ^ 62)<=hi)(h4:hi<2 ^ 62)(q:R (N2 lo (hi-lo).toNat) H):wpAny (model X.prog X.w) X.A (pyIter (.ref s.heap.objs.size)) (NF X pins σ tg R) E { s with heap:=s.heap.push { cls:=.type "range",data:=.fields #[.int lo t,.int hi u,.int 1 v] },toks:=tk }:=by
 refine wpAny_pyIter_range (IsRange.new ..) (small_one h1 h2 h3 h4) ?_
 have I1:Inv X pins σ H { s with heap:=s.heap.push { cls:=.type "range",data:=.fields #[.int lo t,.int hi u,.int 1 v] },toks:=tk }:=I.kept fun b o e=>ar _ e
 refine⟨(s.heap.push { cls:=.type "range",data:=.fields #[.int lo t,.int hi u,.int 1 v] }).objs.size,[(s.heap.push { cls:=.type "range",data:=.fields #[.int lo t,.int hi u,.int 1 v] }).objs.size],_,_,H,rfl,
  I1.kept (t':=tk) fun b o e=>ar _ e,A5 _ lo (hi-lo).toNat,?_,fun b hb=>?_,q⟩
 ·have e1:lo+((0:Nat):Int)*1=lo:=by simp
  have e2:(((hi-lo).toNat:Nat):Int)-((0:Nat):Int)=Builtin.Range.rangeSize lo hi 1:=by rw[rangeSize_one];split<;>omega
  show IsRangeIter _ _ (lo+((0:Nat):Int)*1) ((((hi-lo).toNat:Nat):Int)-((0:Nat):Int)) 1
  rw[e1,e2]
  exact aO _ rfl
 ·have e:b=(s.heap.push { cls:=.type "range",data:=.fields #[.int lo t,.int hi u,.int 1 v] }).objs.size:=by simpa using hb
  subst e
  exact I1.Ue (ak _) (I1.QG.fresh (ak _))
def M4(ta:TA):TI:=fun σ H R=>ta σ H fun vs H1=>∃j:Int,vs=[.int j]/\-(2 ^ 62)<=j/\j<2 ^ 62/\R (N2 0 j.toNat) H1
theorem DN(hg:Gl X "range")(hm:X.mg "range"=none)(ha:PA X [a] ta)(hs:starEach [a] X.env=[(false,eval a X.env)]:=by rfl):PI X tg (.Call (.Name "range" p) [a] [] pos) (M4 ta):=by
 intro pins s σ H R I h
 refine Call_ (sI I hg hm boot_range (im (de (ha pos pins s σ H _ I h) fun us s1 ⟨vs,H1,I1,r1,q1⟩=>?_) hs rfl))
 obtain⟨j,e,q1,q2,q⟩:=q1
 subst e
 cases r1 with
 |cons r rr=>
  cases rr
  obtain⟨t,rfl⟩:=r
  exact call_range_1 (E9 I1 (by omega) (by omega) q1 q2 (by simpa using q))
def Om(wi:TI)(g:TG)(tb:TS):TS:=fun D σ H=>wi σ H fun J H1=>∃W:Nat->Nat->St->Hp->Prop,(∃m,W 0 m σ H1)/\∀i m σ H,W i m σ H ->
 (J.stop i H/\D.nx σ H)\/(J.go i H/\∃N:St->Hp->Prop,(∀σ' H',N σ' H'->∃m',m'<m/\W (i+1) m' σ' H')/\∀x H',J.Yw i H x H'->g x σ H' fun σ2 H2=>tb { D with nx:=N,ct:=N,bk:=D.nx } σ2 H2)
def yc(fp:List Addr)(h:Heap):List (Addr×Obj):=fp.filterMap fun b=>(h.get? b).map fun o=>(b,o)
theorem my{fp:List Addr}{h:Heap}{b:Addr}(hb:b∈fp)(e:h.get? b=some o):(b,o)∈yc fp h:=List.mem_filterMap.mpr ⟨b,hb,by rw[e];rfl⟩
theorem DP{p:Addr×Obj}(hp:p∈yc fp h):p.1∈fp/\h.get? p.1=some p.2:=by
 obtain⟨b,hb,e⟩:=List.mem_filterMap.mp hp
 cases q:h.get? b with
 |none=>rw[q] at e;cases e
 |some o=>
  rw[q] at e
  have e':(b,o)=p:=bB e
  subst e'
  exact⟨hb,q⟩
theorem Inv.pinned{fp:List Addr}(I:Inv X pins σ H s)(hf:∀b∈fp,rY X pins H b)(ho:∀b∈fp,∃o,s.heap.get? b=some o/\∀v,o.data ≠ .cell v):Inv X (pins++yc fp s.heap) σ H s:=
 I.Us fun p hp=>(aM.mp hp).elim (fun z=>I.pin p (bA _ z)) fun z=>by
  obtain⟨hb,e⟩:=DP z
  obtain⟨f0,f1,f2,_⟩:=hf p.1 hb
  obtain⟨o,e',d⟩:=ho p.1 hb
  rw[e] at e';cases e'
  exact⟨e,f0,f1,f2,d⟩
theorem Inv.Si{pins pl:List (Addr×Obj)}(I:Inv X (pins++pl) σ H s):Inv X pins σ H s:=I.Us fun p hp=>I.pin p (bA _ (Qf _ hp))
theorem Fd{X:Cx}(hp:PassesOwn (model X.prog X.w) X.A X.env X.xe)(hc:X.calm=true)(hi:PI X tg iter wi)(hg:PG X tg g)(hb:Uk X body tb)(hs:∀x,foldedSetIterable iter X.env x=pure x:=by intro _;rfl):PS X (.For tg iter body [] pos) (Om wi g tb):=by
 intro pins s σ H D I h
 refine wpAny_For (de (hi pins s σ H _ I h) fun v s1 h1=>de h1 fun Ye s2 h2=>?_) hs
 obtain⟨it,fp,tn,J,H2,e,I2,T,st2,f2,W,⟨m0,w0⟩,turn⟩:=h2
 subst e
 have stat:∀{H':Hp},(∀b∈fp,H' b=none)->∀b∈fp,rY X pins H' b:=fun hn b hb=>⟨hn b hb,(f2 b hb).2⟩
 refine codeAny_forLoop_any (fun n s'=>∃i σ' H',Inv X pins σ' H' s'/\tn i s'.heap/\(∀b∈fp,H' b=none)/\W i n σ' H') ?_ m0 ⟨0,σ,H2,I2,st2,fun b hb=>(f2 b hb).1,w0⟩
 rintro n s3 ⟨i,σ3,H3,I3,st3,fr3,w3⟩
 rcases turn i n σ3 H3 w3 with⟨stop,qn⟩ | ⟨go,N,hN,step⟩
 ·refine iF hp (de (T.done X rfl rfl rfl (.inl hc) i pins s3 σ3 H3 X.xe I3 (stat fr3) st3 stop) fun r s4 ⟨hr,I4⟩=>?_)
  subst hr
  exact A0 ⟨σ3,H3,I4,qn⟩
 ·refine iF hp (de (T.item X rfl rfl rfl (.inl hc) i pins s3 σ3 H3 X.xe I3 (stat fr3) st3 go) fun r s4 ⟨u,hr,h4⟩=>?_)
  subst hr
  refine iF hp (de h4 fun _ s5 ⟨x,H5,I5,r5,y5,V1,Z7⟩=>?_)
  have I5':=I5.pinned (stat Z7) (T.obj _ _ V1)
  refine iF hp (de (hg _ s5 σ3 H5 x u _ I5' r5 (step x H5 y5)) fun _ s6 ⟨σ6,H6,I6,q6⟩=>?_)
  refine iF hp (de (hb _ s6 σ6 H6 _ I6 q6) fun f s7 q7=>?_)
  have again:∀{σ7:St} {H7:Hp},Inv X (pins++yc fp s5.heap) σ7 H7 s7->N σ7 H7->∃m,m<n/\∃i σ' H',Inv X pins σ' H' s7/\tn i s7.heap/\(∀b∈fp,H' b=none)/\W i m σ' H':=fun {σ7 H7} I7 n7=>by
   obtain⟨m',hm,w7⟩:=hN σ7 H7 n7
   refine⟨m',hm,i+1,σ7,H7,I7.Si,T.keep _ _ _ V1 fun b hb o e=>(I7.pin (b,o) (bA _ (bA _ (my hb e)))).1,fun b hb=>?_,w7⟩
   obtain⟨o,e,d⟩:=T.obj _ _ V1 b hb
   exact(I7.pin (b,o) (bA _ (bA _ (my hb e)))).2.1
  cases f with
  |next=>obtain⟨σ7,H7,I7,n7⟩:=q7;exact again I7 n7
  |cont=>obtain⟨σ7,H7,I7,n7⟩:=q7;exact again I7 n7
  |brk=>obtain⟨σ7,H7,I7,q7⟩:=q7;exact⟨σ7,H7,I7.Si,q7⟩
  |ret v=>obtain⟨x7,σ7,H7,I7,r7,q7⟩:=q7;exact⟨x7,σ7,H7,I7.Si,r7,q7⟩
end
abbrev R2:=V->V->Hp->VK->Prop
def nb(X:Cx)(f:Value->Value->Sem Value)(r:R2):Prop:=
 ∀(pins:List (Addr×Obj)) (s:Shared) (σ:St) (H:Hp) (x y:V) (v u:Value) (Q:VK),Inv X pins σ H s->RelV x v->RelV y u->r x y H Q ->
  wpAny (model X.prog X.w) X.A (f v u) (EP X pins σ Q) X.xe s
def O0(X:Cx)(f:Value->Sem Value)(r:V->Hp->VK->Prop):Prop:=
 ∀(pins:List (Addr×Obj)) (s:Shared) (σ:St) (H:Hp) (x:V) (v:Value) (Q:VK),Inv X pins σ H s->RelV x v->r x H Q ->
  wpAny (model X.prog X.w) X.A (f v) (EP X pins σ Q) X.xe s
def ic(X:Cx)(f:Value)(r:List V->Hp->VK->Prop):Prop:=
 ∀(pins:List (Addr×Obj)) (s:Shared) (σ:St) (H:Hp) (xs:List V) (us:List Value) (Q:VK),Inv X pins σ H s->Vals xs us->r xs H Q ->
  wpAny (model X.prog X.w) X.A (call f us) (EP X pins σ Q) X.xe s
def O1(X:Cx)(r:V->Hp->(Bool->Hp->Prop)->Prop):Prop:=
 ∀(pins:List (Addr×Obj)) (s:Shared) (σ:St) (H:Hp) (x:V) (v:Value) (Q:Bool->Hp->Prop),Inv X pins σ H s->RelV x v->r x H Q ->
  wpAny (model X.prog X.w) X.A (truthy v) (TP X pins σ Q) X.xe s
def NY(r:R2)(ta tb:TE):TE:=fun σ H Q=>ta σ H fun x H1=>tb σ H1 fun y H2=>r x y H2 Q
def PV(r:V->Hp->VK->Prop)(ta:TE):TE:=fun σ H Q=>ta σ H fun x H1=>r x H1 Q
def rI(C:Int->Int->Prop)(g:Int->Int->V):R2:=fun x y H Q=>∃i j,x=.int i/\y=.int j/\C i j/\Q (g i j) H
def G0(g:Int->Int->V):R2:=fun x y H Q=>∃i j,x=.int i/\y=.int j/\Q (g i j) H
def rU(g:Int->V):V->Hp->VK->Prop:=fun x H Q=>∃i,x=.int i/\Q (g i) H
section
theorem LI(ha:PE X a ta)(hb:PE X b tb){R:V->V->Hp->Prop}(I:Inv X pins σ H s)(h:ta σ H fun x H1=>tb σ H1 fun y H2=>R x y H2){f:Value->Value->Sem Value}(hf:∀v u s2 x y H2,Inv X pins σ H2 s2->RelV x v->RelV y u->R x y H2->wpAny (model X.prog X.w) X.A (f v u) Q X.xe s2):
  wpAny (model X.prog X.w) X.A (eval a X.env) (fun v s₁=>wpAny (model X.prog X.w) X.A (eval b X.env) (fun u s₂=>wpAny (model X.prog X.w) X.A (f v u) Q X.xe s₂) X.xe s₁) X.xe s:=by
 refine de (ha pins s σ H _ I h) fun v s1 ⟨x,H1,I1,r1,q1⟩=>?_
 refine de (hb pins s1 σ H1 _ I1 q1) fun u s2 ⟨y,H2,I2,r2,q2⟩=>?_
 exact hf v u s2 x y H2 I2 r1 r2 q2
theorem qT{r:R2}(ho:nb X (binaryOp op) r)(ha:PE X a ta)(hb:PE X b tb):PE X (.BinOp a op b pos) (NY r ta tb):=by
 intro pins s σ H Q I h
 exact wpAny_BinOp (LI ha hb I h fun v u s2 x y H2 I2 rx ry q=>ho pins s2 σ H2 x y v u Q I2 rx ry q)
theorem MP{op:UnaryOp}{r:V->Hp->VK->Prop}(ho:O0 X (unaryOp op) r)(ha:PE X a ta):PE X (.UnaryOp op a pos) (PV r ta):=by
 intro pins s σ H Q I h
 exact UnaryOp_ (de (ha pins s σ H _ I h) fun v s1 ⟨x,H1,I1,r1,q1⟩=>ho pins s1 σ H1 x v Q I1 r1 q1)
theorem MU{X:Cx}{f:Value->Value->Sem Value}{C:Int->Int->Prop}{g:Int->Int->Int}(rule:∀(i j:Int) (t u:Tok) (s:Shared) (Q:Value->Shared->Prop) (E:Value->Shared->Prop),C i j->Q (.int (g i j) s.toks) { s with toks:=s.toks+1 }->wpAny (model X.prog X.w) X.A (f (.int i t) (.int j u)) Q E s):
  nb X f (rI C fun i j=>.int (g i j)):=by
 intro pins s σ H x y v u Q I rx ry h
 obtain⟨i,j,rfl,rfl,hc,q⟩:=h
 obtain⟨t,rfl⟩:=rx
 obtain⟨t',rfl⟩:=ry
 exact rule i j t t' s _ _ hc ⟨.int (g i j),H,I.tok _,⟨_,rfl⟩,q⟩
theorem KC{X:Cx}{f:Value->Value->Sem Value}{g:Int->Int->Int}(rule:∀(i j:Int) (t u:Tok) (s:Shared) (Q:Value->Shared->Prop) (E:Value->Shared->Prop),Q (.int (g i j) s.toks) { s with toks:=s.toks+1 }->wpAny (model X.prog X.w) X.A (f (.int i t) (.int j u)) Q E s):
  nb X f (G0 fun i j=>.int (g i j)):=by
 intro pins s σ H x y v u Q I rx ry h
 obtain⟨i,j,rfl,rfl,q⟩:=h
 obtain⟨t,rfl⟩:=rx
 obtain⟨t',rfl⟩:=ry
 exact rule i j t t' s _ _ ⟨.int (g i j),H,I.tok _,⟨_,rfl⟩,q⟩
theorem KD{X:Cx}{f:Value->Value->Sem Value}{g:Int->Int->Bool}(rule:∀(i j:Int) (t u:Tok) (s:Shared) (Q:Value->Shared->Prop) (E:Value->Shared->Prop),Q (.bool (g i j)) s->wpAny (model X.prog X.w) X.A (f (.int i t) (.int j u)) Q E s):
  nb X f (G0 fun i j=>.bl (g i j)):=by
 intro pins s σ H x y v u Q I rx ry h
 obtain⟨i,j,rfl,rfl,q⟩:=h
 obtain⟨t,rfl⟩:=rx
 obtain⟨t',rfl⟩:=ry
 exact rule i j t t' s _ _ ⟨.bl (g i j),H,I,rfl,q⟩
def NM(i j:Int):Prop:=0<=j/\j<=1000000/\i.natAbs<2 ^ 64
theorem Kz:nb X (binaryOp .Add) (G0 fun i j=>.int (i+j)):=KC fun _ _ _ _ _ _ _ q=>add_int q
theorem Ks:nb X (binaryOp .Sub) (G0 fun i j=>.int (i-j)):=KC fun _ _ _ _ _ _ _ q=>sub_int q
theorem Kv:nb X (binaryOp .Mod) (rI (fun _ j=>0<j) fun i j=>.int (i%j)):=MU fun i j _ _ _ _ _ hc q=>by
 have h1:(0:Int)<j:=hc
 exact mod_int' (by omega) (by rw[Int.fmod_eq_emod_of_nonneg i (by omega)];exact q)
theorem Ku:nb X (binaryOp .Pow) (rI NM fun i j=>.int (i ^ j.toNat)):=MU fun _ _ _ _ _ _ _ hc q=>pow_int_small hc.1 hc.2.1 hc.2.2 q
theorem Ky:nb X (binaryOp .BitAnd) (G0 fun i j=>.int (Builtin.bitAnd i j)):=KC fun _ _ _ _ _ _ _ q=>and_int q
theorem PU{X:Cx}{f:Value->Sem Value}{g:Int->Int}(rule:∀(i:Int) (t:Tok) (s:Shared) (Q:Value->Shared->Prop) (E:Value->Shared->Prop),Q (.int (g i) s.toks) { s with toks:=s.toks+1 }->wpAny (model X.prog X.w) X.A (f (.int i t)) Q E s):
  O0 X f (rU fun i=>.int (g i)):=by
 intro pins s σ H x v Q I rx h
 obtain⟨i,rfl,q⟩:=h
 obtain⟨t,rfl⟩:=rx
 exact rule i t s _ _ ⟨.int (g i),H,I.tok _,⟨_,rfl⟩,q⟩
theorem JQ:O0 X (unaryOp .USub) (rU fun i=>.int (-i)):=PU fun _ _ _ _ _ q=>neg_int q
end
def MJ:V->V->Bool
 |.QO,.QO=>true | .QO,.int _=>true | .int _,.QO=>true | .QO,.bl _=>true | .bl _,.QO=>true | .QO,.str _=>true | .str _,.QO=>true
 |.int _,.int _=>true | .bl _,.bl _=>true | .str _,.str _=>true | .UA _,.UA _=>true
 |.int _,.str _=>true | .str _,.int _=>true | .bl _,.str _=>true | .str _,.bl _=>true
 |_,_=>false
def P2:R2:=fun x y H Q=>MJ x y=true/\Q (.bl (decide (x=y))) H
def P1:R2:=fun x y H Q=>MJ x y=true/\Q (.bl (!decide (x=y))) H
theorem yF{i:Int}:decide (V.int i=V.int j)=(i==j):=by
 rw[v7]
 simp
theorem Gq{i:Bool}:decide (V.bl i=V.bl j)=(i==j):=by
 rw[v7]
 simp
theorem Dc{i:Str}:decide (V.str i=V.str j)=(i==j):=by
 rw[v7]
 simp
theorem Dd{i j:Array UInt8}:decide (V.UA i=V.UA j)=(i.toList==j.toList):=by
 rw[v7]
 cases i
 cases j
 simp
section
theorem cH{Q:VK}{k':Bool}(I:Inv X pins σ H s)(q:Q (.bl k) H)(e:k=k'):EP X pins σ Q (.bool k') s:=by
 subst e
 exact⟨.bl k,H,I,rfl,q⟩
theorem MT:nb X (compareOp .Eq) P2:=by
 intro pins s σ H x y v u Q I rx ry h
 obtain⟨hs,q⟩:=h
 cases x with
 |QO=>
  cases rx
  cases y with
  |QO=>cases ry;exact PySem.EqNone.eq_none_none (cH I q (by simp))
  |bl j=>cases ry;exact PySem.EqNone.eq_none_bool (cH I q (by simp))
  |int j=>obtain⟨t',rfl⟩:=ry;exact PySem.EqNone.eq_none_int (cH I q (by simp))
  |str j=>obtain⟨t',rfl⟩:=ry;exact PySem.EqNone.eq_none_str (cH I q (by simp))
  |_=>exact absurd (show false=true from hs) aE
 |bl i=>
  cases rx
  cases y with
  |QO=>cases ry;exact PySem.EqNone.eq_bool_none (cH I q (by simp))
  |bl j=>cases ry;exact eq_bool (cH I q Gq)
  |str j=>obtain⟨t',rfl⟩:=ry;exact PySem.EqMixed.eq_bool_str (cH I q (by simp))
  |_=>exact absurd (show false=true from hs) aE
 |int i=>
  obtain⟨t,rfl⟩:=rx
  cases y with
  |QO=>cases ry;exact PySem.EqNone.eq_int_none (cH I q (by simp))
  |int j=>obtain⟨t',rfl⟩:=ry;exact eq_int (cH I q yF)
  |str j=>obtain⟨t',rfl⟩:=ry;exact PySem.EqMixed.eq_int_str (cH I q (by simp))
  |_=>exact absurd (show false=true from hs) aE
 |str i=>
  obtain⟨t,rfl⟩:=rx
  cases y with
  |QO=>cases ry;exact PySem.EqNone.eq_str_none (cH I q (by simp))
  |bl j=>cases ry;exact PySem.EqMixed.eq_str_bool (cH I q (by simp))
  |int j=>obtain⟨t',rfl⟩:=ry;exact PySem.EqMixed.eq_str_int (cH I q (by simp))
  |str j=>obtain⟨t',rfl⟩:=ry;exact eq_str (cH I q Dc)
  |_=>exact absurd (show false=true from hs) aE
 |UA i=>
  obtain⟨t,rfl⟩:=rx
  cases y with
  |UA j=>obtain⟨t',rfl⟩:=ry;exact PySem.W.eq_bytes (cH I q Dd)
  |_=>exact absurd (show false=true from hs) aE
 |_=>cases y<;>exact absurd (show false=true from hs) aE
theorem MR:nb X (compareOp .NotEq) P1:=by
 intro pins s σ H x y v u Q I rx ry h
 obtain⟨hs,q⟩:=h
 cases x with
 |QO=>
  cases rx
  cases y with
  |QO=>cases ry;exact PySem.EqNone.ne_none_none (cH I q (by simp))
  |bl j=>cases ry;exact PySem.EqNone.ne_none_bool (cH I q (by simp))
  |int j=>obtain⟨t',rfl⟩:=ry;exact PySem.EqNone.ne_none_int (cH I q (by simp))
  |str j=>obtain⟨t',rfl⟩:=ry;exact PySem.EqNone.ne_none_str (cH I q (by simp))
  |_=>exact absurd (show false=true from hs) aE
 |bl i=>
  cases rx
  cases y with
  |QO=>cases ry;exact PySem.EqNone.ne_bool_none (cH I q (by simp))
  |bl j=>cases ry;exact ne_bool (cH I q (bJ not Gq))
  |str j=>obtain⟨t',rfl⟩:=ry;exact PySem.EqMixed.ne_bool_str (cH I q (by simp))
  |_=>exact absurd (show false=true from hs) aE
 |int i=>
  obtain⟨t,rfl⟩:=rx
  cases y with
  |QO=>cases ry;exact PySem.EqNone.ne_int_none (cH I q (by simp))
  |int j=>obtain⟨t',rfl⟩:=ry;exact ne_int (cH I q (bJ not yF))
  |str j=>obtain⟨t',rfl⟩:=ry;exact PySem.EqMixed.ne_int_str (cH I q (by simp))
  |_=>exact absurd (show false=true from hs) aE
 |str i=>
  obtain⟨t,rfl⟩:=rx
  cases y with
  |QO=>cases ry;exact PySem.EqNone.ne_str_none (cH I q (by simp))
  |bl j=>cases ry;exact PySem.EqMixed.ne_str_bool (cH I q (by simp))
  |int j=>obtain⟨t',rfl⟩:=ry;exact PySem.EqMixed.ne_str_int (cH I q (by simp))
  |str j=>obtain⟨t',rfl⟩:=ry;exact ne_str (cH I q (bJ not Dc))
  |_=>exact absurd (show false=true from hs) aE
 |UA i=>
  obtain⟨t,rfl⟩:=rx
  cases y with
  |UA j=>obtain⟨t',rfl⟩:=ry;exact PySem.W.ne_bytes (cH I q (bJ not Dd))
  |_=>exact absurd (show false=true from hs) aE
 |_=>cases y<;>exact absurd (show false=true from hs) aE
theorem Jo:nb X (compareOp .Lt) (G0 fun i j=>.bl (decide (i<j))):=KD fun _ _ _ _ _ _ _ q=>lt_int q
theorem Jp:nb X (compareOp .Gt) (G0 fun i j=>.bl (decide (j<i))):=KD fun _ _ _ _ _ _ _ q=>gt_int q
theorem MS:nb X (compareOp .GtE) (G0 fun i j=>.bl (decide (j<=i))):=KD fun _ _ _ _ _ _ _ q=>ge_int q
theorem DO:nb X (compareOp .In) (fun x y H Q=>∃i j,x=.str i/\y=.str j/\Q (.bl (!(Builtin.Str.occurrences j i 0 j.length 1).isEmpty)) H):=by
 intro pins s σ H x y v u Q I rx ry h
 obtain⟨i,j,rfl,rfl,q⟩:=h
 obtain⟨t,rfl⟩:=rx
 obtain⟨t',rfl⟩:=ry
 exact in_str (cH I q rfl)
theorem OE(b:Expr){op:CmpOp}(h:op ≠ .In:=by decide)(h2:op ≠ .NotIn:=by decide):behindInMarks op b=false:=by
 have e1:(op==CmpOp.In)=false:=by cases op<;>first | rfl | exact absurd rfl h
 have e2:(op==CmpOp.NotIn)=false:=by cases op<;>first | rfl | exact absurd rfl h2
 cases b<;>simp[behindInMarks,e1,e2]
theorem ur{op:CmpOp}{r:R2}(ho:nb X (compareOp op) r)(ha:PE X a ta)(hb:PE X b tb)(hm:behindInMarks op b=false):PE X (.Compare a [op] [b] pos) (NY r ta tb):=by
 intro pins s σ H Q I h
 exact wpAny_Compare1 (LI ha hb I h fun v u s2 x y H2 I2 rx ry q=>ho pins s2 σ H2 x y v u Q I2 rx ry q) hm
def Ms(t:TE):TT:=fun σ H Q=>t σ H fun x H'=>∃k,x=.bl k/\Q k H'
theorem fP{op:CmpOp}{r:R2}(ho:nb X (compareOp op) r)(ha:PE X a ta)(hb:PE X b tb)(hm:behindInMarks op b=false):PT X (.Compare a [op] [b] pos) (Ms (NY r ta tb)):=by
 intro pins s σ H Q I h
 refine wpAny_isTrue_Compare1 (de (ha pins s σ H _ I h) fun v s1 ⟨x,H1,I1,r1,q1⟩=>de (hb pins s1 σ H1 _ I1 q1) fun u s2 ⟨y,H2,I2,r2,q2⟩=>
  de (ho pins s2 σ H2 x y v u _ I2 r1 r2 q2) fun c s3 ⟨z,H3,I3,r3,k,e,q3⟩=>?_) hm
 subst e
 cases r3
 exact jh ⟨H3,I3,q3⟩
def NA(K:PySem.W.Frag)(x:V)(H:Hp)(k:Bool):Prop:=
 match x with
 |.QO=>k=false
 |.bl b=>k=b
 |.int i=>k=(i != 0)
 |.str y=>y.length<=sizeLine/\k=((y.length:Int) != 0)
 |.UA y=>y.size<=sizeLine/\k=((y.size:Int) != 0)
 |.ref p=>(∃xs,Q1 K H p xs/\k = !xs.isEmpty)\/(∃xs,RB K H p xs/\k = !xs.isEmpty)\/∃kvs,H p=some (.dK kvs)/\k = !kvs.isEmpty
 |_=>False
theorem By{κ:Type}{kvs:List (κ×V)}{vs:List (κ×Value)}(r:KV kvs vs):(!vs.isEmpty) = !kvs.isEmpty:=by
 cases r<;>rfl
theorem vx(r:Vals xs its):(!its.toArray.isEmpty) = !xs.isEmpty:=by
 cases r<;>simp
theorem nO:(sizeLine:Nat)<2 ^ 63:=by rw[jQ];decide
theorem JT:O1 X (fun x H Q=>∃k,NA X.K x H k/\Q k H):=by
 intro pins s σ H x v Q I rx h
 obtain⟨k,e,q⟩:=h
 have hl:=nO
 have hs:sizeLine=16777216:=jQ
 cases x with
 |QO=>
  cases rx
  have e':k=false:=e
  subst e'
  exact truthy_none ⟨H,I,q⟩
 |bl b=>
  cases rx
  have e':k=b:=e
  subst e'
  exact jh ⟨H,I,q⟩
 |int i=>
  obtain⟨t,rfl⟩:=rx
  have e':k=(i != 0):=e
  subst e'
  exact PySem.P.truthy_int ⟨H,I,q⟩
 |str y=>
  obtain⟨t,rfl⟩:=rx
  obtain⟨hy,e'⟩:y.length<=sizeLine/\k=((y.length:Int) != 0):=e
  subst e'
  exact PySem.P.truthy_str (by omega) ⟨H,I.tok _,q⟩
 |UA y=>
  obtain⟨t,rfl⟩:=rx
  obtain⟨hy,e'⟩:y.size<=sizeLine/\k=((y.size:Int) != 0):=e
  subst e'
  exact PySem.W.truthy_bytes (by omega) ⟨H,I.tok _,q⟩
 |ref p=>
  cases rx
  have e':(∃xs,Q1 X.K H p xs/\k = !xs.isEmpty)\/(∃xs,RB X.K H p xs/\k = !xs.isEmpty)\/∃kvs,H p=some (.dK kvs)/\k = !kvs.isEmpty:=e
  rcases e' with⟨xs,hx,e'⟩ | ⟨xs,hx,e'⟩ | ⟨kvs,hx,e'⟩
  ·subst e'
   obtain⟨its,r,pl,hz⟩:=I.list hx
   have hlen:=r.length
   exact wpAny_truthy_list pl.isList (by simp only[aH];omega) ⟨H,I.tok _,by rw[vx r];exact q⟩
  ·subst e'
   obtain⟨its,r,pl,hz⟩:=I.tuple hx
   have hlen:=r.length
   exact truthy_tuple pl (by simp only[aH];omega) ⟨H,I.tok _,by rw[vx r];exact q⟩
  ·subst e'
   obtain⟨hz,hS,vs,r,m⟩:kvs.length<=sizeLine/\(p==sysModules)=false/\∃vs,KV kvs vs/\s.heap.DictOf (gy X.prog X.w) p vs:=I.QG p _ hx
   have hlen:kvs.length=vs.length:=Paired.length r
   exact wpAny_truthy_dict hS m (by omega) ⟨H,I.tok _,by rw[By r];exact q⟩
 |_=>exact(show False from e).elim
theorem Fb(ha:PE X a ta)(he:∀whole,isTrue a X.env whole=(do let v <-whole;standAt a.pos;holding [v] (truthy v))):
  PT X a (fun σ H Q=>ta σ H fun x H'=>∃k,NA X.K x H' k/\Q k H'):=by
 intro pins s σ H Q I h
 exact isTrue_plain (de (ha pins s σ H _ I h) fun v s1 ⟨x,H1,I1,r1,q1⟩=>JT pins s1 σ H1 x v Q I1 r1 q1) (he _)
theorem mx:nb X (binaryOp .Add) (fun x y H Q=>∃i j,x=.str i/\y=.str j/\i.length+j.length<=sizeLine/\Q (.str (i++j)) H):=by
 intro pins s σ H x y v u Q I rx ry h
 obtain⟨i,j,rfl,rfl,hz,q⟩:=h
 obtain⟨t,rfl⟩:=rx
 obtain⟨t',rfl⟩:=ry
 exact add_str (fun t' tk=>⟨.str (i++j),H,I.tok _,⟨_,rfl⟩,q⟩) hz
theorem tx:nb X (inplaceOp .Add) (fun x y H Q=>∃i j,x=.str i/\y=.str j/\i.length+j.length<=sizeLine/\Q (.str (i++j)) H):=by
 intro pins s σ H x y v u Q I rx ry h
 obtain⟨i,j,rfl,rfl,hz,q⟩:=h
 obtain⟨t,rfl⟩:=rx
 obtain⟨t',rfl⟩:=ry
 exact iadd_str (fun t' tk=>⟨.str (i++j),H,I.tok _,⟨_,rfl⟩,q⟩) hz
theorem j0(r:Vals [x] us):∃u,us=[u]/\RelV x u:=by
 cases r with
 |cons r1 r2=>cases r2;exact⟨_,rfl,r1⟩
theorem zx(r:Vals [x,y] us):∃u w',us=[u,w']/\RelV x u/\RelV y w':=by
 cases r with
 |cons r1 r2=>
  cases r2 with
  |cons r3 r4=>cases r4;exact⟨_,_,rfl,r1,r3⟩
theorem Gx:ic X (.builtin "abs") (fun xs H Q=>∃i,xs=[.int i]/\Q (.int (if i<0 then -i else i)) H):=by
 intro pins s σ H xs us Q I r h
 obtain⟨i,rfl,q⟩:=h
 obtain⟨u,rfl,t,rfl⟩:=j0 r
 exact call_abs_int fun u tk=>⟨.int (if i<0 then -i else i),H,I.tok _,⟨_,rfl⟩,q⟩
theorem D4{X:Cx}(hc:X.calm=true):ic X (.builtin "max") (fun xs H Q=>∃i j,xs=[.int i,.int j]/\Q (.int (if j > i then j else i)) H):=by
 intro pins s σ H xs us Q I r h
 obtain⟨i,j,rfl,q⟩:=h
 obtain⟨u,w',rfl,⟨t,rfl⟩,⟨t',rfl⟩⟩:=zx r
 refine max_two_ints (I.ok.hd hc) fun h' tk k=>⟨_,H,I.kept k,?_,q⟩
 by_cases hj:j > i
 ·rw[ay hj,ay hj];exact⟨_,rfl⟩
 ·rw[aq hj,aq hj];exact⟨_,rfl⟩
theorem D5:ic X (.type "int") (fun xs H Q=>(∃i,xs=[.int i]/\Q (.int i) H)\/∃k,xs=[.bl k]/\Q (.int (if k then 1 else 0)) H):=by
 intro pins s σ H xs us Q I r h
 rcases h with⟨i,rfl,q⟩ | ⟨k,rfl,q⟩
 ·obtain⟨u,rfl,t,rfl⟩:=j0 r
  exact call_int_int ⟨.int i,H,I,⟨_,rfl⟩,q⟩
 ·obtain⟨u,rfl,r1⟩:=j0 r
  cases r1
  exact call_int_bool ⟨.int (if k then 1 else 0),H,I.tok _,⟨_,rfl⟩,q⟩
theorem yJ:ic X (.type "str") (fun xs H Q=>∃i,xs=[.int i]/\i.natAbs.log2<1920/\Q (.str (toString i)) H):=by
 intro pins s σ H xs us Q I r h
 obtain⟨i,rfl,hz,q⟩:=h
 obtain⟨u,rfl,t,rfl⟩:=j0 r
 exact PySem.P.str_of_int hz ⟨.str _,H,I.tok _,⟨_,rfl⟩,q⟩
end
structure UK(h:Heap)(x dx C:Addr)(mA:Str->Option Value):Prop where
 obj:h.get? x=some (PySem.W.instObj C dx)
 ns:h.Ns1 dx mA
 ne:dx≠x
theorem DT{h:Heap}(n:h.Ns1 dx mA):∃od,h.get? dx=some od/\∀name,PySem.W.lookIn name od=some (mA name):=by
 obtain⟨o,es,ep,ho,hd,hk,_,hm⟩:=n
 refine⟨o,ho,fun name=>?_⟩
 have e:=hm name
 unfold nsFind findBy at e
 rw[<-Array.find?_toList] at e
 unfold PySem.W.lookIn
 rw[hd]
 dsimp only
 split
 ·rename_i y q
  rw[q] at e
  exact bJ some e
 ·rename_i q
  rw[q] at e
  have a:es.toList.any (·.refKey)=false:=by
   rw[List.any_eq_false]
   intro y hy
   obtain⟨z,t,ZK⟩:=hk y (Array.mem_toList_iff.mp hy)
   simp[DictEntry.refKey,ZK]
  have a':¬es.toList.any (·.refKey)=true:=by rw[a];exact aE
  rw[aq a']
  exact bJ some e
theorem UK.look(I:UK h x dx C mA):∃od,PySem.W.InstAt h x (PySem.W.instObj C dx) C (some od)/\∀name,PySem.W.lookIn name od=some (mA name):=
 let ⟨od,ho,hl⟩:=DT I.ns
 ⟨od,⟨I.obj,rfl,rfl,ho⟩,hl⟩
section
variable {K:PySem.W.Frag}
theorem Ii{Q:Value->Shared->Prop}{s:Shared}{name:Str}(X:K.In s.heap)(I:UK s.heap x dx C mA)(hg:PySem.W.plainGet K C name=true)(hh:PySem.W.hasDictIn K C=true)(ha:PySem.W.findIn K (.ref C) name=some none)(hv:mA name=some v)(Yg:PySem.W.handedIn v=true)(h:Q v { s with toks:=s.toks+1 }):
  wpAny (model prog w) A (getAttr (.ref x) name expr) Q E s:=by
 obtain⟨od,J,hl⟩:=I.look
 exact PySem.W.get_value X J (PySem.W.plainGet_of hg).1 (PySem.W.findObj_own hh ha rfl (by rw[hl,hv])) Yg h
theorem Hs{s:Shared}{name:Str}{Q:Unit->Shared->Prop}(X:K.In s.heap)(I:UK s.heap x dx C mA)(hs:PySem.W.findIn K (.ref C) "__setattr__"=some (some (.builtin "object.__setattr__")))(hp:PySem.W.plainOver K C=true)(ht:PySem.W.takerIn K C name=some none)(hh:PySem.W.hasDictIn K C=true)(hw:PySem.Within mA ns)(hsz:ns.length<=sizeLine)(h:∀h',UK h' x dx C (fun y=>if y=name then some v else mA y)->Heap.SameBut dx s.heap h'->Q () { s with heap:=h',toks:=s.toks+2 }):
  wpAny (model prog w) A (setAttr (.ref x) name v) Q E s:=by
 obtain⟨od,J,hl⟩:=I.look
 refine PySem.W.set_plain X J hs (PySem.W.osa_open (s:={ s with toks:=s.toks+1 }) (r:=none) X J hp ht fun b=>?_)
 obtain⟨cd,hc,Uv⟩:=PySem.W.any_some hh
 have hx:s.heap.get? x=some ⟨.ref C,some dx,.plain,#[]⟩:=I.obj
 refine ae (au (ae (ae (wpAny_loadPart hx (ae (PySem.W.Looks.here (s:={ s with toks:=s.toks+1 }) (PySem.W.looks_clsIn X hc) ?_))))))
 rw[Uv]
 refine au (a:=some dx) (ae (au (ae ?_)))
 refine wpAny_nsSet1 (s:={ s with toks:=s.toks+1 }) I.ns fun h' Yk UG=>?_
 obtain⟨oD,esD,epD,hoD,hdD,hcD⟩:=Yk.count (PySem.Within.cons name v hw)
 refine ae (wpAny_lookBehind hoD (by rw[hdD];exact pastItsLine_dict (aL hcD (by rw[a5];omega))) ?_)
 exact au (h _ ⟨(UG.2 _ (Ne.symm I.ne)).trans I.obj,Yk,I.ne⟩ UG)
theorem FB{A:Around}{s:Shared}{C:Addr}{R:Result->Shared->Prop}{kw:List (Str×Value)}(X:K.In s.heap)(hm:PySem.W.makesIn K C=true)(hi:PySem.W.findIn K (.ref C) "__init__"=some (some (.ref f)))(hf:PySem.W.typeIn K (.ref f)=some (.type "function"))(h:codeAny (model prog w) (A.under (.builtin "type.__call__" ⟨.ref C::vs,kw⟩)) (.call (.ref f) ⟨.ref (s.heap.objs.size+1)::vs,kw⟩) (PySem.W.InitBack (s.heap.objs.size+1) R)
   { s with heap:=(s.heap.push PySem.W.emptyDict).push (PySem.W.instObj C s.heap.objs.size) }):
  codeAny (model prog w) A (.call (.ref C) ⟨vs,kw⟩) R s:=by
 obtain⟨hh,g,d,t,os⟩:=s
 exact PySem.W.make_core (PySem.W.makes_of X hm) (PySem.W.looks_findIn X hi) (fun self=>PySem.W.bind_fn X self hf) (.inl rfl) h
end
def mv(f:Str)(v:V):List (Str×V)->List (Str×V)
 |[]=>[(f,v)]
 |(g,x)::r=>if g=f then (g,v)::r else (g,x)::mv f v r
theorem tu(f g:Str)(v:V):∀fs:List (Str×V),(mv f v fs).lookup g=if g=f then some v else fs.lookup g
 |[]=>by
  show List.lookup g [(f,v)]=_
  by_cases h:g=f
  ·have hb:(g==f)=true:=vY.mpr h
   simp only[List.lookup,hb,ay h]
  ·have hb:(g==f)=false:=bj.mpr h
   simp only[List.lookup,hb,aq h]
 |(k,x)::r=>by
  have ih:=tu f g v r
  rw[show mv f v ((k,x)::r)=(if k=f then (k,v)::r else (k,x)::mv f v r) from rfl]
  by_cases hk:k=f
  ·rw[ay hk]
   by_cases h:g=k
   ·have hb:(g==k)=true:=vY.mpr h
    simp only[List.lookup,hb,ay (h.trans hk)]
   ·have hb:(g==k)=false:=bj.mpr h
    simp only[List.lookup,hb,aq (fun e:g=f=>h (e.trans hk.symm))]
  ·rw[aq hk]
   by_cases h:g=k
   ·have hb:(g==k)=true:=vY.mpr h
    simp only[List.lookup,hb,aq (fun e:g=f=>hk (h.symm.trans e))]
   ·have hb:(g==k)=false:=bj.mpr h
    simp only[List.lookup,hb]
    exact ih
theorem sK(f:Str)(v:V):∀fs:List (Str×V),f∈(mv f v fs).map (·.1)/\∀g,g∈fs.map (·.1)->g∈(mv f v fs).map (·.1)
 |[]=>⟨by simp[mv],fun g h=>by simp at h⟩
 |(k,x)::r=>by
  obtain⟨i1,i2⟩:=sK f v r
  rw[show mv f v ((k,x)::r)=(if k=f then (k,v)::r else (k,x)::mv f v r) from rfl]
  by_cases hk:k=f
  ·rw[ay hk]
   subst hk
   exact⟨by simp,fun g h=>by simpa using h⟩
  ·rw[aq hk]
   refine⟨?_,fun g h=>?_⟩
   ·rw[aS]
    exact aY _ i1
   ·rw[aS] at h ⊢
    rcases aC.mp h with e | e
    ·exact aC.mpr (.inl e)
    ·exact aY _ (i2 g e)
theorem tw(f:Str)(v:V):∀fs:List (Str×V),(mv f v fs).length<=fs.length+1
 |[]=>by simp[mv]
 |(k,x)::r=>by
  have ih:=tw f v r
  rw[show mv f v ((k,x)::r)=(if k=f then (k,v)::r else (k,x)::mv f v r) from rfl]
  by_cases hk:k=f
  ·rw[ay hk,a5,a5];omega
  ·rw[aq hk,a5,a5];omega
theorem Uj.some_of{o:Option Value}(r:Uj (some v) o):∃u,o=some u/\RelV v u:=by
 cases o with
 |none=>exact(show False from r).elim
 |some u=>exact⟨u,rfl,r⟩
theorem DX(r:RelV v u):PySem.W.handedIn u=true:=by
 cases v with
 |QO=>cases(show u=Value.none from r);rfl
 |bl b=>cases(show u=Value.bool b from r);rfl
 |int i=>obtain⟨t,e⟩:=(show ∃t,u=Value.int i t from r);cases e;rfl
 |str x=>obtain⟨t,e⟩:=(show ∃t,u=Value.str x t from r);cases e;rfl
 |UA b=>obtain⟨t,e⟩:=(show ∃t,u=Value.bytes b t from r);cases e;rfl
 |Wt b=>obtain⟨t,e⟩:=(show ∃t,u=Value.float b t from r);cases e;rfl
 |ref a=>cases(show u=Value.ref a from r);rfl
 |ty n=>cases(show u=Value.type n from r);rfl
section
variable {fs S4:List (Str×V)}
theorem yq{a:Addr}(QG:SX P w H h)(e:H a=some (.ins C dx fs)):∃mA,UK h a dx C mA/\(∀f,Uj (fs.lookup f) (mA f))/\PySem.Within mA (fs.map (·.1))/\fs.length<=1000/\H dx=some (.own a):=by
 obtain⟨d,z,ne,ob,mA,n,r,q⟩:=(show QC P w H h a (.ins C dx fs) from QG a _ e)
 exact⟨mA,⟨ob,n,ne⟩,r,q,z,d⟩
end
structure US(K:PySem.W.Frag)(C:Addr):Prop where
 pg:PySem.W.plainGet K C Str.empty=true
 hd:PySem.W.hasDictIn K C=true
 po:PySem.W.plainOver K C=true
 sa:PySem.W.findIn K (.ref C) "__setattr__"=some (some (.builtin "object.__setattr__"))
theorem US.get{K:PySem.W.Frag}(c:US K C)(f:Str):PySem.W.plainGet K C f=true:=c.pg
def QK(K:PySem.W.Frag)(C:Addr)(f:Str):Prop:=PySem.W.findIn K (.ref C) f=some none
theorem QK.W7{K:PySem.W.Frag}(n:QK K C f):PySem.W.takerIn K C f=some none:=by
 unfold PySem.W.takerIn
 rw[show PySem.W.findIn K (.ref C) f=some none from n]
 rfl
section
variable {fs:List (Str×V)}
theorem vC{Q:Value->Shared->Prop}{a:Addr}(I:Inv X pins σ H s)(e:H a=some (.ins C dx fs))(c:US X.K C)(n:QK X.K C f)(l:fs.lookup f=some v)(h:∀u s',Inv X pins σ H s'->RelV v u->Q u s'):wpAny (model X.prog X.w) A (getAttr (.ref a) f b) Q E s:=by
 obtain⟨mA,O,r,_,_,_⟩:=yq I.QG e
 obtain⟨u,hu,ru⟩:=Uj.some_of (v:=v) (o:=mA f) (by rw[<-l];exact r f)
 exact Ii I.Se O (c.get f) c.hd n hu (DX ru) (h u _ (I.tok _) ru)
theorem uR{a:Addr}{Q:Unit->Shared->Prop}(I:Inv X pins σ H s)(e:H a=some (.ins C dx fs))(c:US X.K C)(n:QK X.K C f)(hl:fs.length<1000)(ry:RelV y u)(h:∀s',Inv X pins σ (cA H a (.ins C dx (mv f y fs))) s'->Q () s'):wpAny (model X.prog X.w) A (setAttr (.ref a) f u) Q E s:=by
 obtain⟨mA,O,r,wi,_,ho⟩:=yq I.QG e
 have hz:(fs.map (·.1)).length<=sizeLine:=by rw[af,jQ];omega
 refine Hs I.Se O c.sa c.po n.W7 c.hd wi hz fun h' O' sb=>h _ ?_
 have hd:∃o,h'.get? dx=some o:=let ⟨o,_,_,e',_⟩:=O'.ns;⟨o,e'⟩
 refine I.write (x:=a) (e:=dx) (by rw[e];exact True.intro) (.inr ho) (fun b q hb z=>(sb.2 b hb).trans z) hd ?_
 refine⟨by rw[aJ O.ne];exact ho,?_,O.ne,O'.obj,_,O'.ns,fun g=>?_,fun g hg=>?_⟩
 ·have:=tw f y fs;omega
 ·show Uj ((mv f y fs).lookup g) (if g=f then some u else mA g)
  rw[tu]
  by_cases q:g=f
  ·rw[ay q,ay q];exact ry
  ·rw[aq q,aq q];exact r g
 ·by_cases q:g=f
  ·rw[q];exact(sK f y fs).1
  ·refine(sK f y fs).2 g (wi g fun z=>hg ?_)
   show(if g=f then some u else mA g)=none
   rw[aq q];exact z
theorem Inv.made(I:Inv X pins σ H s):Inv X pins σ (cA (cA H s.heap.objs.size (.own (s.heap.objs.size+1))) (s.heap.objs.size+1) (.ins C s.heap.objs.size []))
  { s with heap:=(s.heap.push PySem.W.emptyDict).push (PySem.W.instObj C s.heap.objs.size) }:=by
 have e1:(s.heap.push PySem.W.emptyDict).get? s.heap.objs.size=some PySem.W.emptyDict:=aO s.heap rfl
 have e2:((s.heap.push PySem.W.emptyDict).push (PySem.W.instObj C s.heap.objs.size)).get? (s.heap.objs.size+1)=some (PySem.W.instObj C s.heap.objs.size):=by
  have:=aO (s.heap.push PySem.W.emptyDict) (o:=PySem.W.instObj C s.heap.objs.size) rfl
  rwa [eD] at this
 have e3:(s.heap.push PySem.W.emptyDict).Ns s.heap.objs.size (fun _=>none):=⟨PySem.W.emptyDict,#[],_,e1,rfl,(fun e he=>absurd he (by simp)),fun _=>rfl⟩
 have I1:=I.laid (a:=s.heap.objs.size) (o:=.own (s.heap.objs.size+1)) (h':=s.heap.push PySem.W.emptyDict) (t':=s.toks) (fun b u q=>ar _ q) (ak _) ⟨_,e1⟩
 refine I1.laid (a:=s.heap.objs.size+1) (o:=.ins C s.heap.objs.size []) (t':=s.toks) (fun b u q=>ar _ q) (gI (eD _ _)) ?_
 have ne:s.heap.objs.size≠s.heap.objs.size+1:=bi (e8 _)
 refine⟨by rw[aJ ne,aK],bu _,ne,e2,fun _=>none,(Heap.Ns1.of_empty e3).at fun o q=>ar _ q,fun _=>True.intro,fun y hy=>absurd rfl hy⟩
theorem IR{env:Env}(hb:attributeBase e f env (eval e env)=eval e env)(h:wpAny (model prog w) A (eval e env) (fun o s₁=>wpAny (model prog w) A (getAttr o f true) Q E s₁) E s):wpAny (model prog w) A (eval (.Attribute e f pos) env) Q E s:=
 Attribute_any_ h (by rw[arm_eval_Attribute,hb])
end
def On(K:PySem.W.Frag)(ta:TE)(f:Str):TE:=fun σ H Q=>ta σ H fun x H1=>∃a C dx fs v,x=.ref a/\H1 a=some (.ins C dx fs)/\US K C/\QK K C f/\fs.lookup f=some v/\Q v H1
def Os(K:PySem.W.Frag)(ta tv:TE)(f:Str):TS:=fun D σ H=>tv σ H fun y H1=>ta σ H1 fun x H2=>∃a C dx fs,x=.ref a/\H2 a=some (.ins C dx fs)/\US K C/\QK K C f/\fs.length<1000 /\
 D.nx σ (cA H2 a (.ins C dx (mv f y fs)))
def Pd(X:Cx)(op:Operator)(rd:V->V->Hp->VK->Prop):Prop:=
 ∀(pins:List (Addr×Obj)) (s:Shared) (σ:St) (H:Hp) (x y:V) (u v:Value) (Q:VK),Inv X pins σ H s->RelV x u->RelV y v->rd x y H Q->wpAny (model X.prog X.w) X.A (inplaceOp op u v) (EP X pins σ Q) X.xe s
def Hu(K:PySem.W.Frag)(ta tv:TE)(rd:V->V->Hp->VK->Prop)(f:Str):TS:=fun D σ H=>ta σ H fun x H1=>∃a C dx fs v,x=.ref a/\H1 a=some (.ins C dx fs)/\US K C/\QK K C f/\fs.lookup f=some v /\
 tv σ H1 fun y H2=>rd v y H2 fun z H3=>∃dx' S4,H3 a=some (.ins C dx' S4)/\S4.length<1000/\D.nx σ (cA H3 a (.ins C dx' (mv f z S4)))
section
theorem vc(he:PE X e ta)(hb:attributeBase e f X.env (eval e X.env)=eval e X.env):PE X (.Attribute e f pos) (On X.K ta f):=by
 intro pins s σ H Q I h
 refine IR hb (de (he pins s σ H _ I h) fun u s1 ⟨x,H1,I1,rx,a,C,dx,fs,v,ex,ea,c,n,l,q⟩=>?_)
 subst ex
 obtain rfl:u=Value.ref a:=rx
 exact vC I1 ea c n l fun u' s2 I2 ru=>⟨v,H1,I2,ru,q⟩
theorem Bj{pos:Pos}(ha:PE X o ta)(hv:PE X value tv)(hs:swapsWith value (some (.Attribute o f pos')) pos.line X.env=pure false):PS X (.Assign [.Attribute o f pos'] value pos) (Os X.K ta tv f):=by
 intro pins s σ H D I h
 refine plainObj_wpAny_Assign_Attribute (de (hv pins s σ H _ I h) fun u s1 ⟨y,H1,I1,ry,q⟩=>de (ha pins s1 σ H1 _ I1 q) fun ov s2 ⟨x,H2,I2,rx,a,C,dx,fs,ex,ea,c,n,l,q2⟩=>?_) hs
 subst ex
 obtain rfl:ov=Value.ref a:=rx
 exact uR I2 ea c n l ry fun s3 I3=>⟨σ,_,I3,q2⟩
theorem DI{rd:V->V->Hp->VK->Prop}(ha:PE X o ta)(hv:PE X value tv)(hop:Pd X op rd):PS X (.AugAssign (.Attribute o f W6) op value pos) (Hu X.K ta tv rd f):=by
 intro pins s σ H D I h
 refine wpAny_AugAssign_AttributeAny (de (ha pins s σ H _ I h) fun ov s1 ⟨x,H1,I1,rx,a,C,dx,fs,v,ex,ea,c,n,l,q⟩=>?_)
 subst ex
 obtain rfl:ov=Value.ref a:=rx
 refine vC I1 ea c n l fun u s2 I2 ru=>de (hv pins s2 σ H1 _ I2 q) fun w3 s3 ⟨y,H2,I3,ry,q3⟩=>de (hop pins s3 σ H2 v y u w3 _ I3 ru ry q3) fun w4 s4 ⟨z,H3,I4,rz,dx',S4,ea',l',q4⟩=>?_
 exact uR I4 ea' c n l' rz fun s5 I5=>⟨σ,_,I5,q4⟩
def OB:V->V->Hp->VK->Prop:=fun x y H Q=>∃i j,x=.int i/\y=.int j/\Q (.int (i+j)) H
end
section
inductive sW(K:PySem.W.Frag)(H:Hp):V->Value->Prop where
 |QO:sW K H .QO (.type "NoneType")
 |bl (x:Bool):sW K H (.bl x) (.type "bool")
 |int (i:Int):sW K H (.int i) (.type "int")
 |str (x:Str):sW K H (.str x) (.type "str")
 |Wt (x:UInt64):sW K H (.Wt x) (.type "float")
 |lst {a:Addr} {xs:List V} (e:H a=some (.lst xs)):sW K H (.ref a) (.type "list")
 |RH {a:Addr} {o:Obj} {xs:List V} (e:H a=some (.RH o (.lst xs))):sW K H (.ref a) (.type "list")
 |tup {a:Addr} {xs:List V} (e:H a=some (.tup xs)):sW K H (.ref a) (.type "tuple")
 |dK {a:Addr} {kvs:List (rX×V)} (e:H a=some (.dK kvs)):sW K H (.ref a) (.type "dict")
 |dT {a:Addr} {kvs:List (List rX×V)} (e:H a=some (.dT kvs)):sW K H (.ref a) (.type "dict")
 |ins {a C dx:Addr} {fs:List (Str×V)} (e:H a=some (.ins C dx fs)) (cl:US K C) (ha:PySem.W.findIn K (.ref C) "__class__"=some (some (.builtin "object.__class__")))
   (hn:PySem.W.specialIn K (.builtin "object.__class__") "__get__"=some (some (.builtin "getset_descriptor.__get__"))) (htk:PySem.W.takesIn K (.builtin "object.__class__")=some true)
   (hm:PySem.W.mroIn K C (.type "object")=some true):sW K H (.ref a) (.ref C)
theorem DU{Q:Value->Shared->Prop}{c:Value}(I:Inv X pins σ H s)(rx:RelV x u)(ty:sW X.K H x t)(e:PySem.W.kitOne X.K t c=some b)(h:∀tk,Q (.bool b) { s with toks:=tk }):
  wpAny (model X.prog X.w) A (call (.builtin "isinstance") [u,c]) Q E s:=by
 cases ty with
 |QO=>cases(show u=Value.none from rx);exact cq PySem.W.kitx_none I.Se True.intro e (fun z=>nomatch z) h
 |bl y=>cases(show u=Value.bool y from rx);exact cq PySem.W.kitx_bool I.Se True.intro e (fun z=>nomatch z) h
 |int i=>obtain⟨t,q⟩:=(show ∃t,u=Value.int i t from rx);cases q;exact cq PySem.W.kitx_int I.Se True.intro e (fun z=>nomatch z) h
 |str y=>obtain⟨t,q⟩:=(show ∃t,u=Value.str y t from rx);cases q;exact cq PySem.W.kitx_str I.Se True.intro e (fun z=>nomatch z) h
 |Wt y=>obtain⟨t,q⟩:=(show ∃t,u=Value.float y t from rx);cases q;exact cq PySem.W.kitx_float I.Se True.intro e (fun z=>nomatch z) h
 |@lst a xs ea=>
  cases(show u=Value.ref a from rx)
  obtain⟨_,_,n,_,h1⟩:=(show QC X.prog X.w H s.heap a (.lst xs) from I.QG a _ ea)
  exact cq PySem.W.kitx_list I.Se ⟨_,h1,rfl⟩ e (fun z=>nomatch z) h
 |@RH a ob xs ea=>
  cases(show u=Value.ref a from rx)
  obtain⟨_,_,_,n,_,h1⟩:=(show QC X.prog X.w H s.heap a (.RH ob (.lst xs)) from I.QG a _ ea)
  exact cq PySem.W.kitx_list I.Se ⟨_,h1,rfl⟩ e (fun z=>nomatch z) h
 |@tup a xs ea=>
  cases(show u=Value.ref a from rx)
  obtain⟨_,_,_,p⟩:=(show QC X.prog X.w H s.heap a (.tup xs) from I.QG a _ ea)
  obtain⟨o,h1,h2,_⟩:=p
  exact cq PySem.W.kitx_tuple I.Se ⟨o,h1,h2⟩ e (fun z=>nomatch z) h
 |@dK a kvs ea=>
  cases(show u=Value.ref a from rx)
  obtain⟨_,_,vs,_,p⟩:=(show QC X.prog X.w H s.heap a (.dK kvs) from I.QG a _ ea)
  obtain⟨o,es,ep,h1,h2,_⟩:=p
  exact cq Ei I.Se ⟨o,h1,h2.1⟩ e (fun z=>nomatch z) h
 |@dT a kvs ea=>
  cases(show u=Value.ref a from rx)
  obtain⟨_,_,xs,_,o,es,ep,h1,h2,_⟩:=(show QC X.prog X.w H s.heap a (.dT kvs) from I.QG a _ ea)
  exact cq Ei I.Se ⟨o,h1,h2.1⟩ e (fun z=>nomatch z) h
 |@ins a C dx fs ea cl ha hn htk hm=>
  cases(show u=Value.ref a from rx)
  obtain⟨mA,O,_⟩:=yq I.QG ea
  obtain⟨od,J,_⟩:=O.look
  exact cq (PySem.W.kitx_own (cl.get _) cl.hd ha hn htk hm) I.Se J e (fun z=>nomatch z) h
end
structure QR(k:Nat)(A:Around):Prop where
 hd:A.handled=none
 dp:A.depth+3*k+105<recursionLimit
 un:A.units+16*k+200<cLine
theorem QR.mono{j:Nat}(r:QR k A)(h:j<=k):QR j A:=⟨r.hd,by have:=r.dp;omega,by have:=r.un;omega⟩
theorem QR.deeper{k:Nat}(r:QR (k+1) A)(env:Env):QR k (A.deeper env):=
 ⟨r.hd,by have:=r.dp;show A.depth+1+3*k+105<_;omega,by have:=r.un;show A.units+3+16*k+200<_;omega⟩
theorem Bw{A:Around}{kw:List (Str×Value)}:(A.under (.builtin "type.__call__" ⟨.ref C::us,kw⟩)).depth=A.depth+1:=by
 first | rfl | simp[Around.under,Code.weight,Code.isCreation,Code.isGuard,Code.isCaller,Code.frames,Code.isFrame,guardIds]
theorem Bv{A:Around}{kw:List (Str×Value)}:(A.under (.builtin "type.__call__" ⟨.ref C::us,kw⟩)).units=A.units+1:=by
 first | rfl | simp[Around.under,Code.cUnits,Code.frames,Code.isFrame]
theorem QR.make{k:Nat}(r:QR (k+1) A)(C:Addr)(us:List Value)(kw:List (Str×Value)):QR k (A.under (.builtin "type.__call__" ⟨.ref C::us,kw⟩)):=
 ⟨r.hd,by have:=r.dp;rw[Bw];omega,by have:=r.un;rw[Bv];omega⟩
theorem QR.Ss(r:QR k A):A.depth+100<recursionLimit:=by have:=r.dp;omega
theorem QR.depth(r:QR k A):A.depth<recursionLimit:=by have:=r.dp;omega
theorem QR.units(r:QR k A):A.units+64<cLine:=by have:=r.un;omega
def Oi:TA:=fun _ H Q=>Q [] H
def Mz(ta:TE)(tr:TA):TA:=fun σ H Q=>ta σ H fun x H1=>tr σ H1 fun xs H2=>Q (x::xs) H2
section
theorem cO:PA X [] Oi:=fun _ _ _ _ H Q I h=>Calls.spliced_nil ⟨[],H,I,.nil,h⟩
theorem bo(ha:PE X e te)(hr:PA X es t)(hs:starEach (e::es) X.env=(false,eval e X.env)::starEach es X.env:=by rfl):PA X (e::es) (Mz te t):=by
 intro pos pins s σ H Q I h
 rw[hs]
 show wpAny _ _ (spliced ((false,eval e X.env)::backTo pos (starEach es X.env))) _ _ s
 refine Calls.spliced_cons (de (ha pins s σ H _ I h) fun u s1 ⟨x,H1,I1,r1,q1⟩=>?_)
 exact de (hr pos pins s1 σ H1 _ I1 q1) fun us s2 ⟨xs,H2,I2,r2,q2⟩=>⟨x::xs,H2,I2,.cons r1 r2,q2⟩
def Od(t:TA):TE:=fun σ H Q=>t σ H fun xs H1=>xs.length<=sizeLine/\∀p,H1 p=none->Q (.ref p) (cA H1 p (.tup xs))
def Oj(t:TA):TE:=fun σ H Q=>t σ H fun xs H1=>xs.length<=sizeLine/\∀p,H1 p=none->Q (.ref p) (cA H1 p (.lst xs))
theorem Bo{x1}(h:PA X es t):PE X (.Tuple es x1 pos) (Od t):=by
 intro pins s σ H Q I hq
 refine wpAny_Tuple_spliced (de (h pos pins s σ H _ I hq) fun us s1 ⟨xs,H1,I1,r,z,q⟩=>⟨by rw[<-r.length];exact z,?_⟩)
 have hf:H1 s1.heap.objs.size=none:=I1.QG.fresh (ak _)
 refine⟨.ref s1.heap.objs.size,cA H1 s1.heap.objs.size (.tup xs),I1.laid (t':=s1.toks) (fun b u e=>ar _ e) (ak _) ?_,rfl,q _ hf⟩
 exact⟨z,us,r,⟨_,aO _ rfl,rfl,_,rfl⟩⟩
theorem Fm(h:PA X es t):PE X (.List es pos) (Oj t):=by
 intro pins s σ H Q I hq
 refine wpAny_List_spliced (de (h pos pins s σ H _ I hq) fun us s1 ⟨xs,H1,I1,r,z,q⟩=>⟨by rw[<-r.length];exact z,?_⟩)
 have hf:H1 s1.heap.objs.size=none:=I1.QG.fresh (ak _)
 refine⟨.ref s1.heap.objs.size,cA H1 s1.heap.objs.size (.lst xs),I1.laid (t':=s1.toks) (fun b u e=>ar _ e) (ak _) ?_,rfl,q _ hf⟩
 exact⟨z,us,0,r,aO _ rfl⟩
end
abbrev Sp:=List V->Hp->VK->XK->Prop
abbrev Me:=List Env->Hp->Shared->XK->Value->Shared->Prop
structure Uo(P:Program)(w:World)(K:PySem.W.Frag)(mg:Str->Option Value)(base:Heap)(A:Around)(outer:List Env)(s:Shared)(H:Hp):Prop where
 frames:A.frames=some outer
 mod:Mod K mg base
 bs:∀b o,base.get? b=some o->s.heap.get? b=some o/\H b=none
 VO:base.objs.size<=s.heap.objs.size
 SU:s.heap.FunFrames base outer
 Ws:∀b∈jv outer,H b=none
 QG:SX P w H s.heap
 bare:AllBare s.gens
def CE(outer:List Env)(P:Program)(w:World)(H:Hp)(s:Shared)(Q:VK)(u:Value)(s':Shared):Prop:=
 ∃v H',s'.os=s.os/\AllBare s'.gens/\Un (jv outer) [] H H' s.heap s'.heap/\SX P w H' s'.heap/\RelV v u/\Q v H'
def CR(CX:Me)(outer:List Env)(P:Program)(w:World)(H:Hp)(s:Shared)(Q:VK)(E:XK)(r:Result)(s':Shared):Prop:=
 match r with
 |.ok (.ret u)=>CE outer P w H s Q u s'
 |.ok _=>False
 |.error e=>CX outer H s E e s'
structure dJ(P:Program)(w:World)(K:PySem.W.Frag)(mg:Str->Option Value)(base:Heap)(CX:Me)(k:Nat)(f:Addr)(fd:FuncData)(ps:List Str)(sp:Sp):Prop where
 len:∀vs H Q E,sp vs H Q E->vs.length=ps.length
 run:∀(A:Around) (outer:List Env) (s:Shared) (H:Hp) (args:Args) (us:List Value) (vs:List V) (Q:VK) (E:XK),QR k A->Uo P w K mg base A outer s H->BindsTo s fd args (ps.zip us)->Vals vs us->sp vs H Q E ->
  codeAny (model P w) A (.call (.ref f) args) (CR CX outer P w H s Q E) s
theorem Uo.make{K:PySem.W.Frag}{outer:List Env}(e:Uo P w K mg base A outer s H)(C:Addr)(us:List Value)(kw:List (Str×Value)):
  Uo P w K mg base (A.under (.builtin "type.__call__" ⟨.ref C::us,kw⟩)) outer s H:=⟨by first | exact e.frames | (simpa [Around.under,Code.envs,Code.isFrame,pushEnvs] using e.frames),e.mod,e.bs,e.VO,e.SU,e.Ws,e.QG,e.bare⟩
section
theorem Inv.XT(I:Inv X pins σ H s):Uo X.prog X.w X.K X.mg X.base X.A X.stack s H:=
 ⟨I.ok.frames,I.ok.mod,I.bs,aL I.ok.VO I.sz,I.stack,I.Uq,I.QG,I.bare⟩
theorem Inv.after(I:Inv X pins σ H s)(h:CE X.stack X.prog X.w H s Q u s'):EP X pins σ Q u s':=by
 obtain⟨v,H',os,bare,un,QG,r,q⟩:=h
 obtain⟨hh,g,d,t,os'⟩:=s'
 obtain rfl:os'=s.os:=os
 exact⟨v,H',I.call (h':=hh) (g':=g) (d':=d) (t':=t) (ch:=[]) un QG bare (fun b z=>absurd z (by simp)),r,q⟩
end
def MA(sp:Sp)(Uy:List V)(E:XK)(t:TA):TE:=fun σ H Q=>t σ H fun vs H1=>sp (vs++Uy) H1 Q E
def Mw(C:Addr)(sp:Sp)(Uy:List V)(E:XK)(t:TA):TE:=fun σ H Q=>t σ H fun vs H1=>∀x dx,H1 x=none->H1 dx=none->dx≠x ->
 sp (.ref x::(vs++Uy)) (cA (cA H1 dx (.own x)) x (.ins C dx [])) (fun v H2=>v=.QO/\Q (.ref x) H2) E
def Binds(K:PySem.W.Frag)(fd:FuncData)(ps:List Str)(ds:List Value):Prop:=
 ∀(s:Shared) (us:List Value),K.In s.heap->(us++ds).length=ps.length->BindsTo s fd ⟨us,[]⟩ (ps.zip (us++ds))
theorem Binds.all{K:PySem.W.Frag}{ps:List Str}(h:∀us:List Value,us.length=ps.length->bindArgs fd ⟨us,[]⟩=pure (ps.zip us)):Binds K fd ps []:=fun s us _ hl=>by
 rw[aU] at hl ⊢
 exact .of_eq (h us hl)
def gc(CX:Me)(X:Cx)(E:XK):Prop:=∀(pins:List (Addr×Obj)) (σ:St) (H:Hp) (s:Shared) (e:Value) (s':Shared),Inv X pins σ H s->CX X.stack H s E e s'->X.xe e s'
section
variable {ds:List Value}{E:XK}
theorem Kb{X:Cx}(F:dJ X.prog X.w X.K X.mg X.base CX k f fd ps sp)(hr:QR k X.A)(hb:Binds X.K fd ps ds)(hd:Vals Uy ds)(hx:gc CX X E)(I:Inv X pins σ H s)(r:Vals vs us)(h:sp (vs++Uy) H Q E):wpAny (model X.prog X.w) X.A (call (.ref f) us) (EP X pins σ Q) X.xe s:=by
 have r2:Vals (vs++Uy) (us++ds):=r.append hd
 have hl:(us++ds).length=ps.length:=by rw[<-r2.length];exact F.len _ _ _ _ h
 refine wpAny_call (L0 (F.run X.A X.stack s H ⟨us,[]⟩ (us++ds) (vs++Uy) Q E hr I.XT (hb s us I.Se hl) r2 h) fun r s' hq=>?_)
 cases r with
 |error e=>exact hx pins σ H s e s' I hq
 |ok fl=>
  cases fl with
  |ret u=>exact I.after hq
  |next=>exact False.elim hq
  |brk=>exact False.elim hq
  |cont=>exact False.elim hq
theorem iS{X:Cx}(F:dJ X.prog X.w X.K X.mg X.base CX k f fd ps sp)(hr:QR k X.A)(hg:Gl X x)(hm:X.mg x=some (.ref f))(hk:PySem.W.keepIn X.K (.ref f)=true)(hb:Binds X.K fd ps ds)(hd:Vals Uy ds)(hx:gc CX X E)(ha:PA X (e::es) t)(Rr:(x==("__debug__" : Str))=false:=by decide)(he:starEach (e::es) X.env=(false,eval e X.env)::starEach es X.env:=by rfl)(Sf:(backTo pos (starEach es X.env)).any (·.1)=false:=by rfl):
  PE X (.Call (.Name x p) (e::es) [] pos) (MA sp Uy E t):=by
 intro pins s σ H Q I h
 refine ua (yo I hg hm ?_ Rr)
 refine PySem.W.callWith_K (h₀:=X.base) I.ok.mod.Yd hk (de (ha pos pins s σ H _ I h) fun us s1 ⟨vs,H1,I1,r,q⟩=>⟨I1.Se,?_⟩) he Sf
 exact Kb F hr hb hd hx I1 r q
structure Mk(K:PySem.W.Frag)(C f:Addr):Prop where
 makes:PySem.W.makesIn K C=true
 init:PySem.W.findIn K (.ref C) "__init__"=some (some (.ref f))
 fn:PySem.W.isFn K (.ref f)=true
 kp:PySem.W.keepIn K (.ref C)=true
theorem EW{Q:VK}{X:Cx}(M:Mk X.K C f)(F:dJ X.prog X.w X.K X.mg X.base CX k f fd ps sp)(hr:QR (k+1) X.A)(hb:Binds X.K fd ps ds)(hd:Vals Uy ds)(hx:gc CX X E)(I:Inv X pins σ H s)(r:Vals vs us)(h:∀x dx,H x=none->H dx=none->dx≠x->sp (.ref x::(vs++Uy)) (cA (cA H dx (.own x)) x (.ins C dx [])) (fun v H2=>v=.QO/\Q (.ref x) H2) E):
  wpAny (model X.prog X.w) X.A (call (.ref C) us) (EP X pins σ Q) X.xe s:=by
 have hq:=h (s.heap.objs.size+1) s.heap.objs.size (I.QG.fresh (Nat.le_succ _)) (I.QG.fresh (ak _)) (bi (e8 _))
 have I2:=Inv.made (C:=C) I
 have r2:Vals (V.ref (s.heap.objs.size+1)::(vs++Uy)) (Value.ref (s.heap.objs.size+1)::(us++ds)):=.cons rfl (r.append hd)
 have hl:(Value.ref (s.heap.objs.size+1)::us++ds).length=ps.length:=by
  have e:=r2.length
  rw[F.len _ _ _ _ hq] at e
  exact e.symm
 refine wpAny_call (FB (f:=f) I.Se M.makes M.init (vY.mp M.fn) (L0 (F.run _ X.stack _ _ ⟨Value.ref (s.heap.objs.size+1)::us,[]⟩ (Value.ref (s.heap.objs.size+1)::(us++ds)) _ _ E (hr.make C us [])
  (I2.XT.make C us []) (hb _ (Value.ref (s.heap.objs.size+1)::us) I2.Se hl) r2 hq) fun r s' Xv=>?_))
 cases r with
 |error e=>exact hx pins σ _ _ e s' I2 Xv
 |ok fl=>
  cases fl with
  |ret u=>
   obtain⟨v,H',I3,rv,ev,q3⟩:=I2.after Xv
   subst ev
   exact⟨rv,⟨V.ref (s.heap.objs.size+1),H',I3,rfl,q3⟩⟩
  |next=>exact False.elim Xv
  |brk=>exact False.elim Xv
  |cont=>exact False.elim Xv
theorem HP{X:Cx}(M:Mk X.K C f)(F:dJ X.prog X.w X.K X.mg X.base CX k f fd ps sp)(hr:QR (k+1) X.A)(hg:Gl X x)(hm:X.mg x=some (.ref C))(hb:Binds X.K fd ps ds)(hd:Vals Uy ds)(hx:gc CX X E)(ha:PA X (e::es) t)(Rr:(x==("__debug__" : Str))=false:=by decide)(he:starEach (e::es) X.env=(false,eval e X.env)::starEach es X.env:=by rfl)(Sf:(backTo pos (starEach es X.env)).any (·.1)=false:=by rfl):
  PE X (.Call (.Name x p) (e::es) [] pos) (Mw C sp Uy E t):=by
 intro pins s σ H Q I h
 refine ua (yo I hg hm ?_ Rr)
 refine PySem.W.callWith_K (h₀:=X.base) I.ok.mod.Yd M.kp (de (ha pos pins s σ H _ I h) fun us s1 ⟨vs,H1,I1,r,q⟩=>⟨I1.Se,?_⟩) he Sf
 exact EW M F hr hb hd hx I1 r q
end
structure aR(N P:List Str)(sc:Scope):Prop where
 kind:sc.kind=.function
 co:sc.isCoroutine=false
 gen:sc.isGenerator=false
 nd:N.Nodup
 pre:N.take P.length=P
 par:∀x∈P,sc.names.lookup x=some .local\/sc.names.lookup x=some .cell
 V6:∀y∈sc.names,y.2 ≠ .free
theorem xB{kindOf:Str->Option NameKind}:∀{binds:List (Str×Value)} {m:Str->Option Value},(∀v,(x,v)∉binds)->bindL kindOf binds m x=m x
 |[],_,_=>rfl
 |(n,v)::r,m,h=>by
  unfold bindL
  rw[xB fun w hw=>h w (aY _ hw)]
  split
  ·have:x≠n:=by rintro rfl;exact h v bK
   simp[this]
  ·rfl
theorem xD{kindOf:Str->Option NameKind}:∀{binds:List (Str×Value)} {m:Str->Option Value},(∀v,(x,v)∉binds)->bindC kindOf binds m x=m x
 |[],_,_=>rfl
 |(n,v)::r,m,h=>by
  unfold bindC
  rw[xD fun w hw=>h w (aY _ hw)]
  split
  ·rfl
  ·have:x≠n:=by rintro rfl;exact h v bK
   simp[this]
theorem xC{kindOf:Str->Option NameKind}:∀{P:List Str} {vs:List Value} {i:Nat} {m:Str->Option Value},P.Nodup->P[i]?=some x->vs[i]?=some v->kindOf x=some .local ->
  bindL kindOf (P.zip vs) m x=some v
 |[],_,_,_,_,h,_,_=>by simp at h
 |_::_,[],_,_,_,_,h,_=>by simp at h
 |p::P,w::vs,0,m,nd,h1,h2,hk=>by
  simp at h1 h2;subst h1;subst h2
  show bindL kindOf ((p,w)::P.zip vs) m p=_
  unfold bindL
  rw[xB fun v hv=>(c8.mp nd).1 (Ja hv).1,ay hk]
  simp
 |p::P,w::vs,i+1,m,nd,h1,h2,hk=>by
  show bindL kindOf ((p,w)::P.zip vs) m x=_
  unfold bindL
  exact xC (i:=i) (c8.mp nd).2 (by simpa using h1) (by simpa using h2) hk
theorem xE{kindOf:Str->Option NameKind}:∀{P:List Str} {vs:List Value} {i:Nat} {m:Str->Option Value},P.Nodup->P[i]?=some x->vs[i]?=some v->kindOf x≠some .local ->
  bindC kindOf (P.zip vs) m x=some v
 |[],_,_,_,_,h,_,_=>by simp at h
 |_::_,[],_,_,_,_,h,_=>by simp at h
 |p::P,w::vs,0,m,nd,h1,h2,hk=>by
  simp at h1 h2;subst h1;subst h2
  show bindC kindOf ((p,w)::P.zip vs) m p=_
  unfold bindC
  rw[xD fun v hv=>(c8.mp nd).1 (Ja hv).1,aq hk]
  simp
 |p::P,w::vs,i+1,m,nd,h1,h2,hk=>by
  show bindC kindOf ((p,w)::P.zip vs) m x=_
  unfold bindC
  exact xE (i:=i) (c8.mp nd).2 (by simpa using h1) (by simpa using h2) hk
def start(N:List Str)(vs:List V):St:=vs.map some++List.replicate (N.length-vs.length) none
def qa(CX:Me)(P:Program)(w:World)(K:PySem.W.Frag)(mg:Str->Option Value)(base:Heap)(N:List Str)(qual:Str)(scope:Scope)(f:Addr)(cd:Value)(A:Around)(outer:List Env)(s:Shared)(H:Hp)(E:XK):Cx where
 prog:=P
 w:=w
 K:=K
 mg:=mg
 base:=base
 A:=A.deeper (envOfC qual scope s.heap.objs.size f cd)
 N:=N
 s₀:=s
 H₀:=H
 env:=envOfC qual scope s.heap.objs.size f cd
 outer:=outer
 stack:=envOfC qual scope s.heap.objs.size f cd::outer
 ex:=[]
 calm:=true
 fn:=fun _=>true
 pn:=[]
 xe:=fun e s'=>wpAny (model P w) (A.deeper (envOfC qual scope s.heap.objs.size f cd)) (leaving (envOfC qual scope s.heap.objs.size f cd) e) (fun _ T2=>CX outer H s E e T2) (fun e' T2=>CX outer H s E e' T2) s'
theorem AB{sc:Scope}{x:Str}(h:sc.names.lookup x=some .cell):∃c,(cellsFrom n sc.names []).lookup x=some c:=by
 have q:=Ph sc.names n [] (.inl h)
 exact Option.isSome_iff_exists.mp q
theorem DV{K:PySem.W.Frag}{A:Around}{vs:List V}{outer:List Env}{E:XK}(S:aR N ps scope)(hd:A.handled=none)(e0:Uo P w K mg base A outer s H)(hl:vs.length=ps.length)(r:Vals vs us)(x:InCallC s s.heap.objs.size (bindL (envOfC qual scope s.heap.objs.size f cd).kindOf (ps.zip us) fun _=>none) (cellsFrom (s.heap.objs.size+1) scope.names []) (bindC (envOfC qual scope s.heap.objs.size f cd).kindOf (ps.zip us) fun _=>none) s1):
  Inv (qa CX P w K mg base N qual scope f cd A outer s H E) [] (start N vs) H s1:=by
 have Sf:ps.length<=N.length:=by have:=bJ List.length S.pre;rw[cv] at this;omega
 obtain⟨h1,tk,rfl,hk⟩:=x.done
 have Xm:∀b:Addr,b∉(qa CX P w K mg base N qual scope f cd A outer s H E).ex:=fun b z=>absurd (show b∈([]:List Addr) from z) (by simp)
 refine⟨⟨e0.mod,S.kind,rfl,rfl,ak _,fun y z c h1 h2=>?_,fun y hy=>?_,fun y c _ h=>?_,fun _=>hd,Around.frames_deeper e0.frames,.inr ⟨rfl,rfl⟩,fun b z=>absurd z (Xm b),e0.bs,e0.VO,fun b _ _=>Xm b,fun b z=>absurd z (Xm b),e0.SU,e0.Ws⟩,
  rfl,e0.bare,Un.kept hk,⟨_,x.toInCall.ns,fun i y v h1 h2 h3=>?_⟩,fun y c h=>⟨_,x.cell y c h⟩,e0.QG.fresh (ak _),fun y c h=>?_,fun p hp=>absurd (show p∈([]:List (Addr×Obj)) from hp) (by simp),e0.QG.kept hk,?_⟩
 ·exact name_of_addr x.apart (fU h1) (fU h2)
 ·have hy:scope.names.lookup y=some .cell\/scope.names.lookup y=some .free:=hy
  rcases hy with hy | hy
  ·exact AB hy
  ·exact absurd rfl (S.V6 _ (fU hy))
 ·exact lE (x.above y c (fU h))
 ·have hi:i<vs.length:=by
   unfold start at h2
   by_cases hi:i<vs.length
   ·exact hi
   ·rw[be (by simpa using hi)] at h2
    rw[dk] at h2
    split at h2<;>cases h2
  have ha:vs[i]?=some v:=by
   unfold start at h2
   rw[bg (by simpa using hi),aI] at h2
   cases e:vs[i]? with
   |none=>rw[e] at h2;cases h2
   |some a=>rw[e] at h2;cases h2;rfl
  obtain⟨u,hu,rv⟩:=r.get ha
  have hp:ps[i]?=some y:=by
   rw[<-S.pre,List.getElem?_take_of_lt (by omega)];exact h1
  have ndP:ps.Nodup:=by rw[<-S.pre];exact S.nd.sublist (List.take_sublist _ _)
  refine⟨u,rv,?_⟩
  rcases S.par y (cJ hp) with k | k
  ·exact .inl ⟨k,xC ndP hp hu k⟩
  ·obtain⟨c,e⟩:=AB (n:=s.heap.objs.size+1) k
   refine .inr ⟨.inl k,c,e,?_⟩
   have q:=x.cell y c e
   rw[xE ndP hp hu (by show scope.names.lookup y≠_;rw[k];decide)] at q
   exact q
 ·exact e0.QG.fresh (lE (x.above y c (fU h)))
 ·unfold start
  show _=N.length
  rw[ac,af,fh]
  omega
theorem M9{K:PySem.W.Frag}{f:Addr}{name qual:Str}{body:List Stmt}{scope:Scope}{dV kV doc pm Q3 ct:Value}{an:Option Addr}{sp:Sp}{params:Arguments}(lk:K.lookup f=some ⟨oc,od,.func (PySem.W.fnOf name qual params body scope dV kV doc pm an Q3 ct),V5⟩)(VE:PySem.W.codeIn K Q3 qual=true)(S:aR N ps scope)(len:∀vs H Q E,sp vs H Q E->vs.length=ps.length)(U2:∀(A:Around) (outer:List Env) (s:Shared) (H:Hp) (vs:List V) (Q:VK) (E:XK),QR k (A.deeper (envOfC qual scope s.heap.objs.size f Q3))->sp vs H Q E ->
   ∃t,Uk (qa CX P w K mg base N qual scope f Q3 A outer s H E) body t/\t { nx:=fun _ H'=>Q .QO H',rt:=Q } (start N vs) H):
  dJ P w K mg base CX (k+1) f (PySem.W.fnOf name qual params body scope dV kV doc pm an Q3 ct) ps sp:=by
 refine⟨len,fun A outer s H args us vs Q E hr e0 hb r VS=>?_⟩
 have hl:=len _ _ _ _ VS
 have KX:K.In s.heap:=e0.mod.Yd.keeps fun b o e=>(e0.bs b o e).1
 have lim:s.heap.NoLimit:=e0.mod.nolimit.keeps fun b o e=>(e0.bs b o e).1
 have XA:∀y∈ps.zip us,scope.names.lookup y.1=some .local\/(scope.names.lookup y.1=some .cell/\((cellsFrom (s.heap.objs.size+1) scope.names []).lookup y.1).isSome=true):=fun⟨n,v⟩ hy=>by
  rcases S.par n (Ja hy).1 with q | q
  ·exact .inl q
  ·exact .inr ⟨q,Ph _ _ _ (.inl q)⟩
 refine codeAny_call_function hr.depth (KX _ _ lk) rfl S.co S.gen rfl (PySem.W.codeRec_of KX VE) (hb _ _ _ _ ?_)
 refine wpAny_newFunctionEnv_cells S.kind XA fun env he s1 x=>?_
 subst he
 refine⟨lim.keeps x.toInCall.keep,codeAny_func ?_⟩
 obtain⟨t,ht,hq⟩:=U2 A outer s H vs Q E (hr.deeper _) VS
 have I:Inv (qa CX P w K mg base N qual scope f Q3 A outer s H E) [] (start N vs) H s1:=DV S hr.hd e0 hl r x
 refine jP (ht [] s1 (start N vs) H _ I hq) (fun fl s' hs=>?_) fun e s' hs=>hs
 have fin:∀{σ':St} {H':Hp} {v:V} {u:Value},Inv (qa CX P w K mg base N qual scope f Q3 A outer s H E) [] σ' H' s'->RelV v u->Q v H'->CE outer P w H s Q u s':=
  fun {σ' H' v u} J rv q=>⟨v,H',J.os,J.bare,J.base,J.QG,rv,q⟩
 cases fl with
 |ret u=>
  obtain⟨v,σ',H',J,rv,q⟩:=hs
  exact fin J rv q
 |next=>
  obtain⟨σ',H',J,q⟩:=hs
  exact fin (v:=V.QO) (u:=Value.none) J rfl q
 |brk=>
  obtain⟨_,_,_,q⟩:=hs
  exact False.elim q
 |cont=>
  obtain⟨_,_,_,q⟩:=hs
  exact False.elim q
section
variable {id:String}{r:List V->Hp->VK->Prop}
def Pu(r:List V->Hp->VK->Prop)(t:TA):TE:=fun σ H Q=>t σ H fun vs H1=>r vs H1 Q
theorem j7(hc:ic X (.builtin id) r)(hg:Gl X x)(hm:X.mg x=none)(hv:bootBuiltins x=some (.builtin id))(ha:PA X (e::es) t)(hn:x ≠ "__name__" := by decide)(Rr:(x==("__debug__" : Str))=false:=by decide)(he:starEach (e::es) X.env=(false,eval e X.env)::starEach es X.env:=by rfl)(Sf:(backTo pos (starEach es X.env)).any (·.1)=false:=by rfl):PE X (.Call (.Name x p) (e::es) [] pos) (Pu r t):=by
 intro pins s σ H Q I h
 refine ua (sI I hg hm hv ?_ hn Rr)
 exact PyProof.Rows.callWith_builtin1 (de (ha pos pins s σ H _ I h) fun us s1 ⟨vs,H1,I1,r1,q1⟩=>hc pins s1 σ H1 vs us Q I1 r1 q1) he Sf
theorem lS(hc:ic X (.type T) r)(hg:Gl X x)(hm:X.mg x=none)(hv:bootBuiltins x=some (.type T))(ha:PA X (e::es) t)(hn:x ≠ "__name__" := by decide)(Rr:(x==("__debug__" : Str))=false:=by decide)(he:starEach (e::es) X.env=(false,eval e X.env)::starEach es X.env:=by rfl)(Sf:(backTo pos (starEach es X.env)).any (·.1)=false:=by rfl):PE X (.Call (.Name x p) (e::es) [] pos) (Pu r t):=by
 intro pins s σ H Q I h
 refine ua (sI I hg hm hv ?_ hn Rr)
 exact im (de (ha pos pins s σ H _ I h) fun us s1 ⟨vs,H1,I1,r1,q1⟩=>hc pins s1 σ H1 vs us Q I1 r1 q1) he Sf
end
end L2
namespace HT
open PySem PyProof.Rows
section
open PySem.SeqAt
open PySem.AutoSeq1 (wpAny_loadPart')
open PySem.MeetsSeq PySem.MeetsSeq2 PySem.MeetsSeq3
end
section
def QH(n d:Nat):Option Int->Nat
 |none=>d
 |some v=>if v<0 then (v+(n:Int)).toNat else min v.toNat n
theorem UU(n d:Nat):QH n d none=d:=rfl
theorem Vu(n d k:Nat):QH n d (some (k:Int))=min k n:=by
 show(if (k:Int)<0 then ((k:Int)+(n:Int)).toNat else min (k:Int).toNat n)=min k n
 rw[aq (by omega),dy]
theorem Ka(n d:Nat)(hd:d<=n)(o:Option Int):QH n d o<=n:=by
 cases o with
 |none=>exact hd
 |some v=>
  show(if v<0 then (v+(n:Int)).toNat else min v.toNat n)<=n
  by_cases hv:v<0
  ·rw[ay hv];omega
  ·rw[aq hv];exact uc _ _
theorem Di(v:Int)(n d:Nat):(if v<0 then max (v+(n:Int)) 0 else min v (n:Int))=((QH n d (some v):Nat):Int):=by
 show(if v<0 then max (v+(n:Int)) 0 else min v (n:Int))=(((if v<0 then (v+(n:Int)).toNat else min v.toNat n):Nat):Int)
 by_cases hv:v<0
 ·simp only[ay hv];omega
 ·simp only[aq hv];omega
theorem BY(lo hi:Option Int)(n:Nat):Builtin.Slice.sliceAdjust lo hi 1 (n:Int)=(((QH n 0 lo:Nat):Int),((QH n n hi:Nat):Int)):=by
 have h1:¬((1:Int)<0):=by omega
 unfold Builtin.Slice.sliceAdjust
 simp only[h1,Eh]
 refine fF ?_ ?_
 ·cases lo with
  |none=>rfl
  |some v=>exact Di v n 0
 ·cases hi with
  |none=>rfl
  |some v=>exact Di v n n
theorem Bm(i j:Nat):Builtin.Slice.slicePlaces (i:Int) (j:Int) 1=j-i:=by
 unfold Builtin.Slice.slicePlaces
 have h1:(1:Int) > 0:=by omega
 simp only[h1,JJ,Int.ediv_one]
 split<;>omega
theorem uQ{o:Option Int}{Q:Option Int->Shared->Prop}(p:IsPart v o)(h:Q o s):wpAny (model prog w) A (Builtin.Slice.slicePartIndex v) Q E s:=by
 cases p with
 |none=>exact slicePart_none h
 |int i t=>exact slicePart_int h
theorem lM{s:Shared}{lo hi:Option Int}{Q:Int×Int×Nat->Shared->Prop}(hs:s.heap.IsSliceOf sl vl vu .none)(pl:IsPart vl lo)(pu:IsPart vu hi)(h:Q (((QH n 0 lo:Nat):Int),1,QH n n hi-QH n 0 lo) s):wpAny (model prog w) A (Builtin.Slice.sliceApplied (.ref sl) (pure (n:Int))) Q E s:=by
 obtain⟨os,Vj,Yo,Wl⟩:=id hs
 unfold Builtin.Slice.sliceApplied Builtin.Slice.sliceFields
 refine ae (ae (fw Vj Wl (x:=vl) rfl (ae (fw Vj Wl (x:=vu) rfl (ae (fw Vj Wl (x:=.none) rfl (au ?_)))))))
 refine ae (slicePart_none ?_)
 show wpAny _ _ (if ((1:Int)==0)=true then _ else _) _ _ s
 rw[aq (by decide)]
 refine ae (uQ pl (ae (uQ pu (ae (au ?_)))))
 show wpAny _ _ (match Builtin.Slice.sliceAdjust lo hi 1 (n:Int) with | (lo,hi)=>pure (lo,(1:Int),Builtin.Slice.slicePlaces lo hi 1)) _ _ s
 rw[BY lo hi n]
 show wpAny _ _ (pure (((QH n 0 lo:Nat):Int),(1:Int),Builtin.Slice.slicePlaces ((QH n 0 lo:Nat):Int) ((QH n n hi:Nat):Int) 1)) _ _ s
 rw[Bm]
 exact au h
theorem Fg(xs:Array Value)(i k:Nat):((List.range k).filterMap fun(m:Nat)=>xs[((i:Int)+(m:Int)*1).toNat]?).toArray=((xs.toList.drop i).take k).toArray:=by
 have e:(fun(m:Nat)=>xs[((i:Int)+(m:Int)*1).toNat]?)=fun m=>xs[i+m]?:=by
  funext m
  have:((i:Int)+(m:Int)*1).toNat=i+m:=by omega
  rw[this]
 rw[e]
 have:=pick_run xs i k
 rw[List.filterMap_map] at this
 have e2:((fun x=>xs[x]?) ∘ fun x=>i+x)=fun m=>xs[i+m]?:=rfl
 rw[e2] at this
 rw[this]
theorem Sr{Q:Value->Shared->Prop}{s:Shared}{lo hi:Option Int}(ht:IsTup s.heap t items)(hs:s.heap.IsSliceOf sl vl vu .none)(pl:IsPart vl lo)(pu:IsPart vu hi)(hw:¬(QH items.size 0 lo=0/\QH items.size items.size hi=items.size))(h:Q (.ref s.heap.objs.size) { s with heap:=s.heap.push { cls:=.type "tuple",data:=.seq ((items.toList.drop (QH items.size 0 lo)).take (QH items.size items.size hi-QH items.size 0 lo)).toArray } })(hsz:items.size<=sizeLine):wpAny (model prog w) A (getItem (.ref t) (.ref sl)) Q E s:=by
 have Ut:sizeOk (.seq ((items.toList.drop (QH items.size 0 lo)).take (QH items.size items.size hi-QH items.size 0 lo)).toArray):=by
  show((items.toList.drop (QH items.size 0 lo)).take (QH items.size items.size hi-QH items.size 0 lo)).toArray.size<=sizeLine
  rw[aH,cv,dj,bZ]
  omega
 have hj:QH items.size items.size hi<=items.size:=Ka _ _ (ak _) hi
 obtain⟨os,Vj,Yo,Wl⟩:=id hs
 have Z1:s.TypeIs (.ref sl) "slice" := ⟨os,Vj,Yo⟩
 unfold getItem
 try with_reducible refine bR ?_
 first | refine ae (au ?_) | skip
 refine ae (wpAny_sequenceKey ht.typeIs (by decide) ?_)
 refine ae (cM (name:=Str.ofString "__getitem__") ht.typeIs fL
  (dY fL ht.typeIs entry_tuple_getitem ?_ (args_tuple_getitem _ _)))
 show wpAny _ _ (Builtin.Tuple.tupleItemsOf (.ref t) >>= _) _ _ s
 refine ae (tupleItemsOf_ ht ?_)
 refine ae (LV Z1 ?_)
 rw[ay (by decide)]
 refine ae (lM hs pl pu ?_)
 have S1:¬((((QH items.size 0 lo:Nat):Int)==0&&(1:Int)==1&&(QH items.size items.size hi-QH items.size 0 lo)==items.size)=true):=by
  intro q
  rw[dM,dM] at q
  have q1:((QH items.size 0 lo:Nat):Int)=0:=eq_of_beq q.1.1
  have q2:QH items.size items.size hi-QH items.size 0 lo=items.size:=eq_of_beq q.2
  exact hw ⟨by omega,by omega⟩
 show wpAny _ _ (if (((QH items.size 0 lo:Nat):Int)==0&&(1:Int)==1&&(QH items.size items.size hi-QH items.size 0 lo)==items.size)=true then _ else _) _ _ s
 rw[aq S1,Fg]
 first
  |exact ae (m:=Builtin.Tuple.tupleExact _) (bX (au ⟨_,rfl,au h⟩) Ut)
  |exact ae (m:=Builtin.Tuple.tupleExact _) (bX (ae (au (au ⟨_,rfl,au h⟩))) Ut)
  |exact ae (ae (m:=Builtin.Tuple.tupleExact _) (bX (au (au ⟨_,rfl,au h⟩)) Ut))
  |exact ae (ae (m:=Builtin.Tuple.tupleExact _) (bX (au ⟨_,rfl,au h⟩) Ut))
end
end HT
namespace L2
open PySem PySem.Spec PyProof.Rows
abbrev TO:=St->Hp->(Option Int->Hp->Prop)->Prop
def PO(X:Cx)(e:Option Expr)(t:TO):Prop:=
 ∀(pins:List (Addr×Obj)) (s:Shared) (σ:St) (H:Hp) (Q:Option Int->Hp->Prop),Inv X pins σ H s->t σ H Q ->
  wpAny (model X.prog X.w) X.A (evalPart e X.env) (fun u s'=>∃o H',Inv X pins σ H' s'/\IsPart u o/\Q o H') X.xe s
def He:TO:=fun _ H Q=>Q none H
def Mu(t:TE):TO:=fun σ H Q=>t σ H fun x H1=>∃i,x=.int i/\Q (some i) H1
section
variable {lo hi:Option Expr}{tl th:TO}
theorem HM:PO X none He:=by
 intro pins s σ H Q I h
 rw[evalPart_none]
 exact au ⟨none,H,I,.none,h⟩
theorem yb(h:PE X e te):PO X (some e) (Mu te):=by
 intro pins s σ H Q I hw
 rw[evalPart_some]
 refine de (h pins s σ H _ I hw) fun u s1 ⟨x,H1,I1,r1,q1⟩=>?_
 obtain⟨i,rfl,q⟩:=q1
 obtain⟨t,rfl⟩:=r1
 exact⟨some i,H1,I1,.int i t,q⟩
def NC(X:Cx)(r:V->Option Int->Option Int->Hp->VK->Prop):Prop:=
 ∀(pins:List (Addr×Obj)) (s:Shared) (σ:St) (H:Hp) (x:V) (v vl vu:Value) (lo hi:Option Int) (sl:Addr) (Q:VK),Inv X pins σ H s->RelV x v->s.heap.IsSliceOf sl vl vu .none->IsPart vl lo->IsPart vu hi->r x lo hi H Q ->
  ∃T id,typeLookup (.type T) "__getitem__"=pure (some (.builtin id))/\s.TypeIs v T/\wpAny (model X.prog X.w) X.A (getItem v (.ref sl)) (EP X pins σ Q) X.xe s
def PX(r:V->Option Int->Option Int->Hp->VK->Prop)(te:TE)(tl th:TO):TE:=fun σ H Q=>te σ H fun x H1=>tl σ H1 fun l H2=>th σ H2 fun u H3=>r x l u H3 Q
theorem qS{r:V->Option Int->Option Int->Hp->VK->Prop}(hr:NC X r)(he:PE X e te)(hl:PO X lo tl)(hu:PO X hi th):PE X (.Subscript e (.Slice lo hi none p2) pos) (PX r te tl th):=by
 intro pins s σ H Q I h
 refine PJ (de (he pins s σ H _ I h) fun v s1 ⟨x,H1,I1,r1,q1⟩=>?_)
 refine wpAny_Slice (de (hl pins s1 σ H1 _ I1 q1) fun vl s2 ⟨l,H2,I2,pl,q2⟩=>de (hu pins s2 σ H2 _ I2 q2) fun vu s3 ⟨u,H3,I3,pu,q3⟩=>?_)
 rw[evalPart_none]
 refine au ?_
 have I4:Inv X pins σ H3 { s3 with heap:=s3.heap.push { cls:=.type "slice",data:=.fields #[vl,vu,.none] } }:=I3.kept (t':=s3.toks) fun b ob q=>ar _ q
 obtain⟨T,id,hT,ht,hg⟩:=hr pins { s3 with heap:=s3.heap.push { cls:=.type "slice",data:=.fields #[vl,vu,.none] } } σ H3 x v vl vu l u s3.heap.objs.size Q I4 r1 (Heap.IsSliceOf.new ..) pl pu q3
 show wpAny (model X.prog X.w) X.A (subscriptTail e (.Slice lo hi none p2) v (.ref s3.heap.objs.size)) (EP X pins σ Q) X.xe { s3 with heap:=s3.heap.push { cls:=.type "slice",data:=.fields #[vl,vu,.none] } }
 exact tail_any (ops:=[.ref s3.heap.objs.size,v]) ht hT hg (by with_unfolding_all rfl)
def Az(xs:List V)(lo hi:Option Int):List V:=(xs.drop (HT.QH xs.length 0 lo)).take (HT.QH xs.length xs.length hi-HT.QH xs.length 0 lo)
theorem tz(xs:List V)(lo hi:Option Int):(Az xs lo hi).length<=xs.length:=by
 unfold Az
 rw[cv,dj]
 omega
def Ou(K:PySem.W.Frag):V->Option Int->Option Int->Hp->VK->Prop:=fun x lo hi H Q=>∃a xs,x=.ref a/\RB K H a xs /\
 ¬(HT.QH xs.length 0 lo=0/\HT.QH xs.length xs.length hi=xs.length)/\∀p,H p=none->Q (.ref p) (cA H p (.tup (Az xs lo hi)))
theorem J3:NC X (Ou X.K):=by
 intro pins s σ H x v vl vu lo hi sl Q I rx hs pl pu h
 obtain⟨a,xs,rfl,hx,hw,q⟩:=h
 cases rx
 obtain⟨its,r,ht,hz⟩:=I.tuple hx
 have hlen:its.toArray.size=xs.length:=by rw[aH];exact r.length.symm
 refine⟨"tuple",_,PyProof.Rows.slot_tuple_getitem.lookup,ht.typeIs,?_⟩
 refine HT.Sr ht hs pl pu (by rw[hlen];exact hw) ?_ (by rw[hlen];exact hz)
 rw[hlen]
 refine⟨.ref s.heap.objs.size,_,I.laid (t':=s.toks) (o:=.tup (Az xs lo hi)) (fun b ob q=>ar _ q) (ak _) ?_,rfl,q _ (I.QG.fresh (ak _))⟩
 exact⟨aL (tz xs lo hi) hz,_,(r.drop (HT.QH xs.length 0 lo)).take (HT.QH xs.length xs.length hi-HT.QH xs.length 0 lo),IsTup.new _ _⟩
end
def CU(n:Nat)(i:Int):Option Nat:=if 0<=i then (if i<n then some i.toNat else none) else if -(n:Int)<=i then some (i+n).toNat else none
def l8{α:Type}(xs:List α)(i:Int):Option α:=(CU xs.length i).bind fun j=>xs[j]?
theorem CT{i:Int}(h:CU n i=some j):seqIndex? i n=some j/\j<n/\-(n:Int)<=i/\i<n:=by
 unfold CU at h
 by_cases h0:0<=i
 ·rw[ay h0] at h
  by_cases h1:i<n
  ·rw[ay h1] at h
   have e:i.toNat=j:=bB h
   exact⟨by rw[N4 h0 h1,e],by omega,by omega,h1⟩
  ·rw[aq h1] at h;cases h
 ·rw[aq h0] at h
  by_cases h1 : -(n:Int)<=i
  ·rw[ay h1] at h
   have e:(i+n).toNat=j:=bB h
   exact⟨by rw[LY (by omega) h1,e],by omega,h1,by omega⟩
  ·rw[aq h1] at h;cases h
theorem uF{i:Int}{α:Type}{xs:List α}{v:α}(h:l8 xs i=some v):∃j,seqIndex? i xs.length=some j/\xs[j]?=some v/\j<xs.length/\-(xs.length:Int)<=i/\i<xs.length:=by
 unfold l8 at h
 cases e:CU xs.length i with
 |none=>rw[e] at h;cases h
 |some j=>
  rw[e] at h
  obtain⟨h1,h2,h3,h4⟩:=CT e
  exact⟨j,h1,h,h2,h3,h4⟩
theorem jN{j:Nat}{α:Type}{xs:List α}{v:α}(h:xs[j]?=some v):l8 xs (j:Int)=some v:=by
 have hj:j<xs.length:=(az.mp h).1
 have e:CU xs.length (j:Int)=some j:=by
  unfold CU
  rw[ay (by omega),ay (by omega)];simp
 unfold l8;rw[e];exact h
def iV(b:Expr):Prop:=∀o i,subscripted b false o i=operate [o,i] (getItem o i)
def LP(X:Cx)(r:R2):Prop:=
 ∀(value slice:Expr) (pins:List (Addr×Obj)) (s:Shared) (σ:St) (H:Hp) (x y:V) (v u:Value) (Q:VK),Inv X pins σ H s->RelV x v->RelV y u->r x y H Q ->
  subscripted slice false v u=operate [v,u] (getItem v u)->wpAny (model X.prog X.w) X.A (subscriptTail value slice v u) (EP X pins σ Q) X.xe s
def Mc(X:Cx)(id:String)(r:V->List V->Hp->VK->Prop):Prop:=
 ∀(pins:List (Addr×Obj)) (s:Shared) (σ:St) (H:Hp) (x:V) (xs:List V) (v:Value) (us:List Value) (Q:VK),Inv X pins σ H s->RelV x v->Vals xs us->r x xs H Q ->
  wpAny (model X.prog X.w) X.A (call (.builtin id) (v::us)) (EP X pins σ Q) X.xe s
section
theorem vb{r:R2}(hr:LP X r)(ha:PE X a ta)(hb:PE X b tb)(hs:iV b):PE X (.Subscript a b pos) (NY r ta tb):=by
 intro pins s σ H Q I h
 exact PJ (LI ha hb I h fun v u s2 x y H2 I2 rx ry q=>hr a b pins s2 σ H2 x y v u Q I2 rx ry q (hs _ _))
def MM(K:PySem.W.Frag):R2:=fun x y H Q=>∃p xs i v,x=.ref p/\y=.int i/\Q1 K H p xs/\l8 xs i=some v/\Q v H
def Oy(K:PySem.W.Frag):R2:=fun x y H Q=>∃p xs i v,x=.ref p/\y=.int i/\RB K H p xs/\l8 xs i=some v/\Q v H
def Oz:R2:=fun x y H Q=>∃z i c,x=.str z/\y=.int i/\z.length<=sizeLine/\l8 z.cps.toList i=some c/\Q (.str ⟨#[c]⟩) H
theorem CS:LP X (MM X.K):=by
 intro value slice pins s σ H x y v u Q I rx ry h hs
 obtain⟨p,xs,i,z,rfl,rfl,hq,he,q⟩:=h
 cases rx
 obtain⟨t,rfl⟩:=ry
 obtain⟨its,r,pl,hz⟩:=I.list hq
 obtain⟨j,h1,h2,h3,h4,h5⟩:=uF he
 obtain⟨w,ew,Sj⟩:=r.get h2
 have hl:=r.length
 have hn:=nO
 have fin:EP X pins σ Q w s:=⟨z,H,I,Sj,q⟩
 by_cases h0:0<=i
 ·have hj:i.toNat=j:=by
   rw[N4 h0 h5] at h1
   exact bB h1
  exact item_listR pl.isList h0 (by omega) (by rw[hj];simpa using ew) fin hs
 ·have hj:(i+(its.toArray.size:Int)).toNat=j:=by
   rw[LY (by omega) h4] at h1
   rw[aH,<-hl]
   exact bB h1
  exact dP (x:=w) pl.isList.typeIs slot_list_getitem.lookup
   (wpAny_getItem_list_neg (Q:=fun r s'=>r=w/\EP X pins σ Q r s') pl.isList (by omega) (by rw[aH]<;>omega) (by omega) (by rw[hj];simpa using ew) ⟨rfl,fin⟩) hs
theorem K1:LP X (Oy X.K):=by
 intro value slice pins s σ H x y v u Q I rx ry h hs
 obtain⟨p,xs,i,z,rfl,rfl,hq,he,q⟩:=h
 cases rx
 obtain⟨t,rfl⟩:=ry
 obtain⟨its,r,pl,hz⟩:=I.tuple hq
 obtain⟨j,h1,h2,h3,h4,h5⟩:=uF he
 obtain⟨w,ew,Sj⟩:=r.get h2
 have hl:=r.length
 have hn:=nO
 have fin:EP X pins σ Q w s:=⟨z,H,I,Sj,q⟩
 exact dP (x:=w) pl.typeIs slot_tuple_getitem.lookup
  (getItem_tuple (j:=j) (Q:=fun r s'=>r=w/\EP X pins σ Q r s') pl (by omega) (by omega) (by rw[aH,<-hl];exact h1) (by simpa using ew) ⟨rfl,fin⟩) hs
theorem K2:LP X Oz:=by
 intro value slice pins s σ H x y v u Q I rx ry h hs
 obtain⟨z,i,c,rfl,rfl,hz,he,q⟩:=h
 obtain⟨t,rfl⟩:=rx
 obtain⟨t',rfl⟩:=ry
 obtain⟨j,h1,h2,h3,h4,h5⟩:=uF he
 have hl:z.cps.toList.length=z.length:=by simp[Str.length]
 rw[hl] at h1 h4 h5
 have hn:=nO
 exact tail_any (Qb s z t) slot_str_getitem.lookup (getItem_str (c:=c) (by
  have e1:decide (i < -(2 ^ 63:Int))=false:=ao (by omega)
  have e2:decide (i ≥ 2 ^ 63)=false:=ao (by omega)
  rw[e1,e2,A3]) (by rw[h1];simpa using h2) ⟨.str ⟨#[c]⟩,H,I.tok _,⟨_,rfl⟩,q⟩) hs
theorem Bu(its:List Value)(n j:Nat)(u:Value):Obj.mapSeq (·.setIfInBounds j u) { cls:=.type "list",data:=.seq its.toArray n } = { cls:=.type "list",data:=.seq (its.set j u).toArray n }:=by
 simp[Obj.mapSeq]
theorem Inv.lst{p:Addr}(I:Inv X pins σ H s)(h:H p=some (.lst xs)):
  ∃(its:List Value) (n:Nat),Vals xs its/\s.heap.get? p=some { cls:=.type "list",data:=.seq its.toArray n }/\xs.length<=sizeLine:=by
 obtain⟨z,its,n,r,e⟩:=I.QG p _ h
 exact⟨its,n,r,e,z⟩
theorem Inv.V7{p:Addr}{its its':List Value}{f:Obj->Obj}(I:Inv X pins σ H s)(h:H p=some (.lst xs))(ho:s.heap.get? p=some { cls:=.type "list",data:=.seq its.toArray n })(hf:f { cls:=.type "list",data:=.seq its.toArray n } = { cls:=.type "list",data:=.seq its'.toArray n' })(r:Vals ys its')(hz:ys.length<=sizeLine)(t:Nat):
  Inv X pins σ (cA H p (.lst ys)) { s with heap:=s.heap.update p f,toks:=t }:=by
 have e:(s.heap.update p f).get? p=some { cls:=.type "list",data:=.seq its'.toArray n' }:=by
  rw[pd f ho (by rw[hf]<;>rfl),hf]
 refine I.write (x:=p) (e:=p) (by rw[h];trivial) (.inl rfl) (fun b u hb q=>(iq _ _ (Ne.symm hb)).trans q) ⟨_,e⟩ ?_
 exact⟨hz,its',n',r,e⟩
def MK:V->V->V->Hp->(Hp->Prop)->Prop:=fun o i v H Q=>∃p xs k j,o=.ref p/\i=.int k/\H p=some (.lst xs)/\CU xs.length k=some j/\Q (cA H p (.lst (xs.set j v)))
theorem zU:IV X MK:=by
 intro pins s σ H o i v ov iv u Q I ro ri rv h
 obtain⟨p,xs,k,j,rfl,rfl,hp,hj,q⟩:=h
 cases ro
 obtain⟨t,rfl⟩:=ri
 obtain⟨its,n,r,ho,hz⟩:=I.lst hp
 obtain⟨h1,h2,h3,h4⟩:=CT hj
 have hl:=r.length
 have hn:=nO
 have I':Inv X pins σ (cA H p (.lst (xs.set j v))) { s with heap:=s.heap.update p (Obj.mapSeq (·.setIfInBounds j u)) }:=
  I.V7 hp ho (Bu its n j u) (r.set rv j) (by rw[bC];exact hz) s.toks
 by_cases h0:0<=k
 ·have hk:k.toNat=j:=by
   rw[N4 h0 h4] at h1
   exact bB h1
  exact PySem.W.ki_setAt ho h0 (by omega) (by rw[aH,<-hl];exact h4) (by rw[hk];exact⟨_,I',q⟩)
 ·have hk:(k+(its.toArray.size:Int)).toNat=j:=by
   rw[LY (by omega) h3] at h1
   rw[aH,<-hl]
   exact bB h1
  exact PySem.W.ki_setBack ho (by omega) (by rw[aH,<-hl];exact h3) (by omega) (by rw[hk];exact⟨_,I',q⟩)
theorem xT(lo hi:Option Int)(n:Nat):(sliceBounds lo hi none n).1=((HT.QH n 0 lo:Nat):Int)/\(sliceBounds lo hi none n).2.1=((HT.QH n n hi:Nat):Int)/\(sliceBounds lo hi none n).2.2=1:=by
 refine⟨?_,?_,rfl⟩
 ·cases lo with
  |none=>simp[sliceBounds,HT.QH]
  |some i=>
   simp only[sliceBounds,HT.QH,Option.getD_none,show(1:Int) > 0 by decide,JJ]
   by_cases h:i<0
   ·simp only[h,JJ]<;>omega
   ·simp only[h,Eh]<;>omega
 ·cases hi with
  |none=>simp[sliceBounds,HT.QH]
  |some i=>
   simp only[sliceBounds,HT.QH,Option.getD_none,show(1:Int) > 0 by decide,JJ]
   by_cases h:i<0
   ·simp only[h,JJ]<;>omega
   ·simp only[h,Eh]<;>omega
theorem wa(its:List Value)(lo hi:Option Int):slicePick its.toArray lo hi none=((its.drop (HT.QH its.length 0 lo)).take (HT.QH its.length its.length hi-HT.QH its.length 0 lo)).toArray:=by
 obtain⟨h1,h2,h3⟩:=xT lo hi its.toArray.size
 unfold slicePick
 rw[h1,h2,h3]
 simp only[sliceRange_one,pick_run,aH]<;>rfl
def Ov(K:PySem.W.Frag):V->Option Int->Option Int->Hp->VK->Prop:=fun x lo hi H Q=>∃a xs,x=.ref a/\Q1 K H a xs/\∀p,H p=none->Q (.ref p) (cA H p (.lst (Az xs lo hi)))
theorem Ho:NC X (Ov X.K):=by
 intro pins s σ H x v vl vu lo hi sl Q I rx hs pl pu h
 obtain⟨a,xs,rfl,hx,q⟩:=h
 cases rx
 obtain⟨its,r,ht,hz⟩:=I.list hx
 have hlen:=r.length
 refine⟨"list",_,slot_list_getitem.lookup,ht.isList.typeIs,?_⟩
 refine wpAny_getItem_list_slice ht.isList hs pl pu .none (by simp) ?_ (by rw[aH]<;>omega)
 rw[wa,<-hlen]
 refine⟨.ref s.heap.objs.size,_,I.laid (t':=s.toks) (o:=.lst (Az xs lo hi)) (fun b ob q=>ar _ q) (ak _) ?_,rfl,q _ (I.QG.fresh (ak _))⟩
 exact⟨aL (tz xs lo hi) hz,_,0,(r.drop (HT.QH xs.length 0 lo)).take (HT.QH xs.length xs.length hi-HT.QH xs.length 0 lo),aO _ rfl⟩
theorem rQ:ic X (.builtin "len") (fun xs H Q=>∃p ys,xs=[.ref p]/\(Q1 X.K H p ys\/RB X.K H p ys)/\Q (.int ys.length) H):=by
 intro pins s σ H xs us Q I r h
 obtain⟨p,ys,rfl,hq,q⟩:=h
 obtain⟨u,rfl,rx⟩:=j0 r
 cases rx
 have hn:=nO
 rcases hq with hq | hq
 ·obtain⟨its,r',pl,hz⟩:=I.list hq
  have hlen:=r'.length
  exact Calls.call_len_list pl.isList (by simp only[aH]<;>omega) ⟨.int ys.length,H,I.tok _,⟨s.toks+1,by rw[aH,hlen]⟩,q⟩
 ·obtain⟨its,r',pl,hz⟩:=I.tuple hq
  have hlen:=r'.length
  exact len_tuple pl (by simp only[aH]<;>omega) ⟨.int ys.length,H,I.tok _,⟨s.toks+1,by rw[aH,hlen]⟩,q⟩
theorem yL:ic X (.builtin "len") (fun xs H Q=>∃z,xs=[.str z]/\z.length<=sizeLine/\Q (.int z.length) H):=by
 intro pins s σ H xs us Q I r h
 obtain⟨z,rfl,hz,q⟩:=h
 obtain⟨u,rfl,t,rfl⟩:=j0 r
 have hn:=nO
 exact len_str (by omega) ⟨.int z.length,H,I.tok _,⟨_,rfl⟩,q⟩
theorem yK:ic X (.type "list") (fun xs H Q=>∃p ys,xs=[.ref p]/\(Q1 X.K H p ys\/RB X.K H p ys)/\∀l,H l=none->Q (.ref l) (cA H l (.lst ys))):=by
 intro pins s σ H xs us Q I r h
 obtain⟨p,ys,rfl,hq,q⟩:=h
 obtain⟨u,rfl,rx⟩:=j0 r
 cases rx
 have fin:∀(its:List Value),Vals ys its->ys.length<=sizeLine->∀(h':Heap) (c':Nat),(∀b o',s.heap.get? b=some o'->h'.get? b=some o') ->
   h'.get? s.heap.objs.size=some { cls:=.type "list",dict:=none,data:=.seq its.toArray c',slots:=#[] }->EP X pins σ Q (.ref s.heap.objs.size) { s with heap:=h' }:=fun its r' hz h' c' kp e=>
  ⟨.ref s.heap.objs.size,_,I.laid (t':=s.toks) kp (ak _) (show QC X.prog X.w _ h' _ (.lst ys) from⟨hz,its,c',r',e⟩),rfl,q _ (I.QG.fresh (ak _))⟩
 rcases hq with hq | hq
 ·obtain⟨its,r',pl,hz⟩:=I.list hq
  have hlen:=r'.length
  obtain⟨o,ho,hc,n,hd⟩:=pl.isList
  exact call_list_seq p (.inl rfl) ho hc hd (fun h' c' kp e=>fin its r' hz h' c' kp e) (by simp only[aH]<;>omega)
 ·obtain⟨its,r',pl,hz⟩:=I.tuple hq
  have hlen:=r'.length
  obtain⟨o,ho,hc,n,hd⟩:=pl
  exact call_list_seq p (.inr rfl) ho hc hd (fun h' c' kp e=>fin its r' hz h' c' kp e) (by simp only[aH]<;>omega)
theorem wu:ic X (.type "tuple") (fun xs H Q=>∃p ys,xs=[.ref p]/\((Q1 X.K H p ys/\∀l,H l=none->Q (.ref l) (cA H l (.tup ys)))\/(RB X.K H p ys/\Q (.ref p) H))):=by
 intro pins s σ H xs us Q I r h
 obtain⟨p,ys,rfl,h⟩:=h
 obtain⟨u,rfl,rx⟩:=j0 r
 cases rx
 rcases h with⟨hq,q⟩ | ⟨hq,q⟩
 ·obtain⟨its,r',pl,hz⟩:=I.list hq
  have hlen:=r'.length
  refine call_tuple_list pl.isList (fun h' kp=>?_) (by simp only[aH]<;>omega)
  have I1:Inv X pins σ H { s with heap:=h' }:=I.kept (t':=s.toks) kp
  have I2:Inv X pins σ (cA H h'.objs.size (.tup ys)) { s with heap:=h'.push { cls:=.type "tuple",data:=.seq its.toArray } }:=
   I1.laid (t':=s.toks) (fun b o e=>ar _ e) (ak _) (show QC X.prog X.w _ _ _ (.tup ys) from⟨hz,its,r',IsTup.new _ _⟩)
  exact⟨.ref h'.objs.size,_,I2,rfl,q _ (I1.QG.fresh (ak _))⟩
 ·obtain⟨its,r',pl,hz⟩:=I.tuple hq
  exact call_tuple_same pl ⟨.ref p,H,I,rfl,q⟩
def Ob(K:PySem.W.Frag)(T:String)(x:V)(H:Hp):Prop:=match x with
 |.str _=>T="str"
 |.int _=>T="int"
 |.ref p=>(T="list" /\ ∃xs,Q1 K H p xs)\/(T="tuple" /\ ∃o,K.lookup p=some o/\o.cls=.type "tuple" /\ o.dict=none) \/
   (T="dict" /\ ((∃kvs,H p=some (.dK kvs))\/∃kvs,H p=some (.dT kvs)))\/(T="set" /\ ∃S n,H p=some (.set S n))
 |_=>False
theorem EA(I:Inv X pins σ H s)(r:RelV x v)(ty:Ob X.K T x H):
  s.TypeIs v T/\∀a,v=.ref a->∃ob,s.heap.get? a=some ob/\ob.dict=none:=by
 cases x with
 |str z=>
  obtain⟨t,rfl⟩:=r
  cases(show T="str" from ty)
  exact⟨Qb s z t,fun _ e=>nomatch e⟩
 |int i=>
  obtain⟨t,rfl⟩:=r
  cases(show T="int" from ty)
  exact⟨typeIs_int s i t,fun _ e=>nomatch e⟩
 |ref p=>
  cases r
  rcases ty with⟨rfl,xs,hq⟩ | ⟨rfl,o,hk,hc,hd⟩ | ⟨rfl,hk⟩ | ⟨rfl,S,n,hk⟩
  ·obtain⟨its,_,pl,_⟩:=I.list hq
   refine⟨pl.isList.typeIs,fun a e=>?_⟩
   cases e
   obtain⟨o,n,e,c,hd,_⟩:=pl
   exact⟨o,e,hd⟩
  ·refine⟨⟨o,I.Se p o hk,hc⟩,fun a e=>?_⟩
   cases e
   exact⟨o,I.Se _ o hk,hd⟩
  ·have z:∃o,s.heap.get? p=some o/\o.ExactDict:=by
    rcases hk with⟨kvs,hk⟩ | ⟨kvs,hk⟩
    ·obtain⟨_,_,_,_,o,_,_,e,ex,_⟩:=I.QG p _ hk
     exact⟨o,e,ex⟩
    ·obtain⟨_,_,_,_,o,_,_,e,ex,_⟩:=I.QG p _ hk
     exact⟨o,e,ex⟩
   obtain⟨o,e,ex⟩:=z
   refine⟨⟨o,e,ex.1⟩,fun a e2=>?_⟩
   cases e2
   exact⟨o,e,ex.2.1⟩
  ·obtain⟨o,_,_,_,e,ex,_⟩:=I.QG p _ hk
   refine⟨⟨o,e,ex.1⟩,fun a e2=>?_⟩
   cases e2
   exact⟨o,e,ex.2.1⟩
 |_=>exact False.elim ty
def Oo(K:PySem.W.Frag)(T:String)(r:V->List V->Hp->VK->Prop)(to:TE):TE:=fun σ H Q=>to σ H fun x H1=>Ob K T x H1/\r x [] H1 Q
def P0(K:PySem.W.Frag)(T:String)(r:V->List V->Hp->VK->Prop)(to:TE)(t:TA):TE:=fun σ H Q=>to σ H fun x H1=>Ob K T x H1/\t σ H1 fun xs H2=>r x xs H2 Q
variable {id:String}{r:V->List V->Hp->VK->Prop}
theorem vd{apos:Pos}{Qt:Pos}(pa:PlainAttrs T)(slot:Slot T name id)(Zs:typeOf (.builtin id)=pure (.type "method_descriptor"))(hm:Mc X id r)(ho:PE X o to)(Ry:attributeBase o name X.env (eval o X.env)=eval o X.env:=by rfl)(hline:(apos.endLine==Qt.line)=true:=by rfl):PE X (.Call (.Attribute o name apos) [] [] Qt) (Oo X.K T r to):=by
 intro pins s σ H Q I h
 refine wpAny_Call_method0_late Ry hline (de (ho pins s σ H _ I h) fun v s1 ⟨x,H1,I1,r1,ty,q1⟩=>?_)
 obtain⟨h1,h2⟩:=EA I1 r1 ty
 exact⟨T,id,pa,slot,Zs,h1,h2,AX rfl (PySem.evalArgs_none (hm pins s1 σ H1 x [] v [] Q I1 r1 .nil q1))⟩
theorem qV{apos:Pos}(pa:PlainAttrs T)(slot:Slot T name id)(Zs:typeOf (.builtin id)=pure (.type "method_descriptor"))(hm:Mc X id r)(ho:PE X o to)(ha:PA X (e::es) t)(Ry:attributeBase o name X.env (eval o X.env)=eval o X.env:=by rfl)(Rx:((backTo Qt (starEach (e::es) X.env)).all (fun x=>!x.1)&&(backToKw Qt (keywordEach [] X.env)).all (fun x=>x.1.isSome)
   && decide ((e::es).length+([]:List Keyword).length+(if ([]:List Keyword).isEmpty then 0 else 1)<30))=true:=by rfl)(hline:(apos.endLine==Qt.line)=true:=by rfl)(hs:starEach (e::es) X.env=(false,eval e X.env)::starEach es X.env:=by rfl)(Ud:(backTo Qt (starEach es X.env)).any (·.1)=false:=by rfl):
  PE X (.Call (.Attribute o name apos) (e::es) [] Qt) (P0 X.K T r to t):=by
 intro pins s σ H Q I h
 refine wpAny_Call_method_late Ry Rx hline rfl (de (ho pins s σ H _ I h) fun v s1 ⟨x,H1,I1,r1,ty,q1⟩=>?_)
 obtain⟨h1,h2⟩:=EA I1 r1 ty
 refine⟨T,id,pa,slot,Zs,h1,h2,?_⟩
 have hA:=ha Qt pins s1 σ H1 _ I1 q1
 rw[hs] at hA ⊢
 refine AX (by show(false||(backTo Qt (starEach es X.env)).any (·.1))=false;rw[Ud]<;>rfl) (Calls.evalArgs_plain ?_)
 exact de hA fun us s2 ⟨vs,H2,I2,r2,q2⟩=>hm pins s2 σ H2 x vs v us Q I2 r1 r2 q2
end
def O6(X:Cx)(id:String)(r:V->List V->Hp->VK->Prop):Prop:=
 ∀(pins:List (Addr×Obj)) (s:Shared) (σ:St) (H:Hp) (x:V) (xs:List V) (v:Value) (us:List Value) (Q:VK),Inv X pins σ H s->RelV x v->Vals xs us->r x xs H Q ->
  wpAny (model X.prog X.w) X.A (call (.builtin id) (v::us)) (EP X pins σ Q) X.xe s
theorem Vals.one:∀{x:V} {us:List Value},Vals [x] us->∃u,us=[u]/\RelV x u
 |_,_,.cons r .nil=>⟨_,rfl,r⟩
theorem Vals.zero:∀{us:List Value},Vals [] us->us=[]
 |_,.nil=>rfl
theorem Vals.dropLast(h:Vals xs us):Vals xs.dropLast us.dropLast:=by
 induction h with
 |nil=>exact .nil
 |cons r t ih=>
  cases t with
  |nil=>exact .nil
  |cons q t'=>exact .cons r ih
theorem Vals.reverse(h:Vals xs us):Vals xs.reverse us.reverse:=by
 induction h with
 |nil=>exact .nil
 |cons r t ih=>rw[lF,lF];exact Vals.append ih (.cons r .nil)
theorem Vals.rep(h:Vals xs us):∀k:Nat,Vals (List.replicate k xs).flatten (List.replicate k us).flatten
 |0=>.nil
 |k+1=>by
  rw[bv,bv,dZ,dZ]
  exact Vals.append h (Vals.rep h k)
theorem BI{α:Type}(l:List α):l.eraseIdx (l.length-1)=l.dropLast:=by
 induction l with
 |nil=>rfl
 |cons a r ih=>
  cases r with
  |nil=>rfl
  |cons b r=>
   have e:(a::b::r).length-1=((b::r).length-1)+1:=by
    have h1:(a::b::r).length=r.length+2:=rfl
    have h2:(b::r).length=r.length+1:=rfl
    omega
   rw[e,List.eraseIdx_cons_succ,ih]
   all_goals rfl
theorem xt(its:List Value):∀(k:Nat) (acc:List Value),
  List.foldl (fun x1 x2=>x1++x2) acc.toArray (List.replicate k its.toArray)=(acc++(List.replicate k its).flatten).toArray
 |0,acc=>by simp
 |k+1,acc=>by
  have e:acc.toArray++its.toArray=(acc++its).toArray:=by simp
  have e2:(acc++its)++(List.replicate k its).flatten=acc++(List.replicate (k+1) its).flatten:=by
   rw[bv,dZ,ax]
  rw[<-e2,<-xt its k (acc++its),<-e,bv,oJ]
section
theorem Inv.V8{its its':List Value}{t':Nat}{l:Addr}{f:Array Value->Array Value}(I:Inv X pins σ H s)(hH:H l=some (.lst xs))(e:s.heap.get? l=some { cls:=.type "list",data:=.seq its.toArray n })(hf:f its.toArray=its'.toArray)(hv:Vals ys its')(hz:ys.length<=sizeLine):
  Inv X pins σ (cA H l (.lst ys)) { s with heap:=s.heap.update l (Obj.mapSeq f),toks:=t' }:=by
 have q:=PySem.IsL.update e f
 rw[hf] at q
 refine I.write (x:=l) (e:=l) (by rw[hH];exact trivial) (.inl rfl) (fun b' u hb hu=>(iq s.heap (Obj.mapSeq f) (Ne.symm hb)).trans hu) ⟨_,q⟩ ?_
 exact⟨hz,its',_,hv,q⟩
theorem Inv.V9{t':Nat}(I:Inv X pins σ H s)(hv:Vals ys its)(hz:ys.length<=sizeLine):
  Inv X pins σ (cA H s.heap.objs.size (.lst ys)) { s with heap:=s.heap.push { cls:=.type "list",data:=.seq its.toArray },toks:=t' }:=
 I.laid (fun _ _ q=>ar _ q) (ak _) ⟨hz,its,0,hv,aO _ rfl⟩
theorem Inv.fresh(I:Inv X pins σ H s):H s.heap.objs.size=none:=I.QG.fresh (ak _)
theorem Inv.Ua{l:Addr}(I:Inv X pins σ H s)(hH:H l=some (.lst xs)):xs.length<=sizeLine/\∃(its:List Value) (n:Nat),Vals xs its/\xs.length=its.length/\s.heap.get? l=some { cls:=.type "list",data:=.seq its.toArray n }:=by
 obtain⟨z,its,n,r,e⟩:=I.QG l _ hH
 exact⟨z,its,n,r,r.length,e⟩
theorem Ad{n:Nat}(h:n<=sizeLine):Builtin.List.listTooLong n=false:=by
 unfold Builtin.List.listTooLong
 exact ao (by omega)
end
section
def HE:V->List V->Hp->VK->Prop:=fun x vs H Q=>∃l xs y,x=.ref l/\vs=[y]/\H l=some (.lst xs)/\xs.length<sizeLine/\Q .QO (cA H l (.lst (xs++[y])))
theorem lU:O6 X "list.append" HE:=by
 intro pins s σ H x vs v us Q I rx rv h
 obtain⟨l,xs,y,rfl,rfl,hH,hz,q⟩:=h
 cases rx
 obtain⟨u,rfl,ru⟩:=rv.one
 obtain⟨z,its,n,r,hl,e⟩:=I.Ua hH
 refine AS F.slot_list_append ⟨_,e,rfl⟩ F.entry_list_append (F.args_list_append_2 _ _) (PySem.list_append l its.toArray n u (by rw[aH];omega)) ⟨e,?_⟩
 refine⟨.QO,_,I.V8 (its':=its++[u]) hH e (by simp) (r.append (.cons ru .nil)) ?_,rfl,q⟩
 rw[ac,bL]
 omega
def HC:V->List V->Hp->VK->Prop:=fun x vs H Q=>∃l b xs zs,x=.ref l/\vs=[.ref b]/\H l=some (.lst xs)/\H b=some (.lst zs)/\xs.length+zs.length<=sizeLine/\Q .QO (cA H l (.lst (xs++zs)))
theorem xo:O6 X "list.extend" HC:=by
 intro pins s σ H x vs v us Q I rx rv h
 obtain⟨l,b,xs,zs,rfl,rfl,hH,hB,hz,q⟩:=h
 cases rx
 obtain⟨u,rfl,ru⟩:=rv.one
 cases ru
 obtain⟨z,its,n,r,hl,e⟩:=I.Ua hH
 obtain⟨z2,Ub,n2,r2,Yl,e2⟩:=I.Ua hB
 have hsz:its.toArray.size+Ub.toArray.size<=sizeLine:=by rw[aH,aH];omega
 have U1:¬(!its.toArray.isEmpty&&Builtin.List.listTooLong (its.toArray.size+Ub.toArray.size))=true:=by
  rw[Ad hsz,L4]
  exact aE
 refine AS F.slot_list_extend ⟨_,e,rfl⟩ F.entry_list_extend (F.args_list_extend_2 _ _)
  (AutoSeq1.list_extend_list_list_0 l its.toArray n b Ub.toArray n2 U1 (by rw[aH];omega) (by omega)) ⟨e,e2,?_⟩
 refine⟨.QO,_,I.V8 (its':=its++Ub) hH e (by simp) (r.append r2) ?_,rfl,q⟩
 rw[ac]
 omega
def Ox:V->List V->Hp->VK->Prop:=fun x vs H Q=>∃l xs y,x=.ref l/\vs=[]/\H l=some (.lst xs)/\xs[xs.length-1]?=some y/\Q y (cA H l (.lst xs.dropLast))
theorem yh:O6 X "list.pop" Ox:=by
 intro pins s σ H x vs v us Q I rx rv h
 obtain⟨l,xs,y,rfl,rfl,hH,hy,q⟩:=h
 cases rx
 have hus:=rv.zero
 subst hus
 obtain⟨z,its,n,r,hl,e⟩:=I.Ua hH
 obtain⟨u,hu,ru⟩:=r.get hy
 have Wa:its.toArray[its.toArray.size-1]?=some u:=by
  show its.toArray[its.length-1]?=some u
  rw[<-me,<-hl]
  exact hu
 refine AS F.slot_list_pop ⟨_,e,rfl⟩ F.entry_list_pop (F.args_list_pop_1 _) (MeetsSeq.list_pop_last l its.toArray n u Wa (by rw[aH];omega)) ⟨e,?_⟩
 refine⟨y,_,I.V8 (its':=its.dropLast) hH e ?_ r.dropLast ?_,ru,q⟩
 ·show its.toArray.eraseIdxIfInBounds (its.toArray.size-1)=its.dropLast.toArray
  rw[aH,List.eraseIdxIfInBounds_toArray,BI]
 ·rw[List.length_dropLast]
  omega
def OA:R2:=fun x y H Q=>∃l b xs zs,x=.ref l/\y=.ref b/\H l=some (.lst xs)/\H b=some (.lst zs)/\xs.length+zs.length<=sizeLine/\∀p,H p=none->Q (.ref p) (cA H p (.lst (xs++zs)))
theorem Kx:nb X (binaryOp .Add) OA:=by
 intro pins s σ H x y v u Q I rx ry h
 obtain⟨l,b,xs,zs,rfl,rfl,hH,hB,hz,q⟩:=h
 cases rx
 cases ry
 obtain⟨z,its,n,r,hl,e⟩:=I.Ua hH
 obtain⟨z2,Ub,n2,r2,Yl,e2⟩:=I.Ua hB
 refine PySem.P.add_list e e2 ?_ (by rw[aH,aH];omega)
 have ea:its.toArray++Ub.toArray=(its++Ub).toArray:=by simp
 rw[ea]
 exact⟨.ref _,_,I.V9 (t':=s.toks) (r.append r2) (by rw[ac];omega),rfl,q _ I.fresh⟩
def Ow:R2:=fun x y H Q=>∃l k xs,x=.ref l/\y=.int k/\H l=some (.lst xs)/\-(2 ^ 63)<=k/\k<2 ^ 63/\xs.length*k.toNat<=sizeLine /\
 ∀p,H p=none->Q (.ref p) (cA H p (.lst (List.replicate k.toNat xs).flatten))
theorem H8{α:Type}(xs:List α)(k:Nat):(List.replicate k xs).flatten.length=k*xs.length:=by
 induction k with
 |zero=>simp
 |succ k ih=>rw[bv,dZ,ac,ih,vZ,Nat.add_comm]
theorem Kt:nb X (binaryOp .Mult) Ow:=by
 intro pins s σ H x y v u Q I rx ry h
 obtain⟨l,k,xs,rfl,rfl,hH,h1,h2,hz,q⟩:=h
 cases rx
 obtain⟨t,rfl⟩:=ry
 obtain⟨z,its,n,r,hl,e⟩:=I.Ua hH
 have hlen:its.toArray.size*k.toNat<=sizeLine:=by rw[aH,<-hl];exact hz
 have ZY:¬its.toArray.size*k.toNat > (2 ^ 63-1) / 8:=by
  have:(sizeLine:Nat)<=(2 ^ 63-1) / 8:=by decide
  omega
 have ZP:¬(!Builtin.List.listFitsIndex k)=true:=by
  rw[fitsIndex_both h1 h2]
  exact aE
 have U1:¬Builtin.List.listTooLong (its.toArray.size*k.toNat)=true:=by
  rw[Ad hlen]
  exact aE
 have ZF:List.foldl (fun x1 x2=>x1++x2) #[] (List.replicate (if its.toArray.isEmpty=true then 0 else k.toNat) its.toArray)=(List.replicate k.toNat its).flatten.toArray:=by
  have f0:∀m:Nat,List.foldl (fun x1 x2=>x1++x2) #[] (List.replicate m its.toArray)=(List.replicate m its).flatten.toArray:=fun m=>by
   have:=xt its m []
   rw[List.nil_append] at this
   exact this
  rw[f0]
  cases its with
  |nil=>simp
  |cons a r'=>rw[aq (by simp)]
 refine wpAny_binaryOp_repeat_ref (T := "list") (U := "int") (by decide) ⟨_,e,rfl⟩ (fun s'=>typeIs_int s' k t) noFill_list_mul F.fills_int_mul F.slot_int_rmul repeat_list F.slot_int_index.lookup
  (AS F.slot_int_rmul (typeIs_int s k t) F.entry_int_rmul (F.args_int_rmul_2 _ _) (int___rmul___int_list k t l its.toArray n)
   ⟨e,rfl,⟨_,e,rfl⟩,AS F.slot_list_mul ⟨_,e,rfl⟩ F.entry_list_mul (F.args_list_mul_2 _ _) (AutoListH.list___mul___list_int_3 l its.toArray n k t ZP ZY U1) ⟨e,?_⟩⟩)
 rw[ZF]
 exact⟨.ref _,_,I.V9 (t':=s.toks) (r.rep k.toNat) (by rw[H8,Nat.mul_comm];exact hz),rfl,q _ I.fresh⟩
end
end L2
namespace Att
open PySem PySem.W PySem.Calls PyProof.Rows
theorem tV{P:Params}:∀(ns:List Int) (vs:List Value),WellAll P h vs (ns.map WData.int)->IntsAre vs ns:=by
 intro ns
 induction ns with
 |nil=>
  intro vs w
  rw[List.map_nil] at w
  cases w
  exact .nil
 |cons n ns ih=>
  intro vs w
  rw[aS] at w
  cases w with
  |cons a b=>
   cases a
   exact .cons _ _ (ih _ b)
theorem DC{l:OpenLaw}(hn:l.most=some n){P:Params}{args:List WData}(VC:l.row.toRowW.claim.pre args=true)(Zq:WellAll P h vals args):
  ∃a vs ns,vals=[Value.ref a]/\args=[WData.list (ns.map WData.int)]/\h.get? a=some { cls:=.type "list",data:=.seq vs.toArray }/\IntsAre vs ns/\ns.length<=n:=by
 have hsh:WShape.hasAll [] args [.list .int]=true:=(pre_splitW VC).1
 have hc:l.pre.holds [] { args:=args }=true:=(pre_splitW VC).2
 obtain⟨d,r,rfl,h1,h2⟩:=hasAllW_cons hsh
 obtain rfl:=hasAllW_nil h2
 obtain⟨xs,rfl,h3⟩:=hasW_list h1
 obtain⟨ns,rfl⟩:=items_int h3
 have hlen:ns.length<=n:=by
  unfold OpenLaw.pre at hc
  have h4:(WTm.not (.lt (.lit (.int (n:Int))) (.len (.arg 0)))).holds [] { args:=[.list (ns.map .int)] }=true:=by
   have h4:=(holds_andW hc).1
   rw[hn] at h4
   exact h4
  have h5:=condW_of h4 (w_not (w_lt w_lit (w_len_list (w_arg rfl))))
  rw[af] at h5
  refine Nat.le_of_not_lt fun q=>?_
  have q':(n:Int)<((ns.length:Nat):Int):=by omega
  first
   |(rw[aB q'] at h5;exact absurd h5 (by decide))
   |(simp at h5;omega)
 cases Zq with
 |cons w1 w2=>
  cases w2
  cases w1 with
  |list ho Wo=>exact⟨_,_,ns,rfl,rfl,ho,tV ns _ Wo,hlen⟩
theorem DK(l:OpenLaw)(args:List WData):l.row.toRowW.claim.post args (.bool true) args=true:=
 postW_of (r:=l.row.toRowW) (X:=(true==true))
  (show WShape.has [] (.bool true) .bool=true by first | rfl | decide | simp[WShape.has,WShape.arms,WShape.armsAll])
  (show(WTm.eq .res (.lit (.bool true))).value [] { args:=args,res:=some (.bool true),after:=args }=some (.bool (true==true)) from w_eq_bool (w_res rfl) w_lit) rfl
theorem TU{l:OpenLaw}{XP:(Str->Option Value)->Heap->Prop}{YP:World->Heap->Prop}{d:DefRec}(hn:l.most=some n)(XD:d.params.defaults=[])(call:∀(w:World) (s₀ s₁:Shared) (mg mb:Str->Option Value) (fa:Addr) (o:Obj) (pm cd doc:Value) (a:Addr) (vs:List Value) (ns:List Int),
   Ground q loose [] XP w s₀ mg mb s₁.heap->YP w s₁.heap ->
   s₁.heap.get? fa=some o->o.data=.func (docDef d.name d.params d.body d.scope pm cd doc)->s₁.heap.CodeRec cd d.name->mg d.name=some (.ref fa) ->
   s₁.heap.get? a=some { cls:=.type "list",data:=.seq vs.toArray }->IntsAre vs ns->ns.length<=n->s₁.gens = #[] ->
   codeAny (model l.prog w) callerA (.call (.ref fa) ⟨[.ref a],[]⟩) (fun r s'=>r=.ok (.ret (.bool true))/\OldK s₁.heap s'.heap/\s'.os=s₁.os/\AllBare s'.gens) s₁):
  WalkO q loose XP YP l.row.toRowW d [] (fun f vs=>PySem.call f vs):=by
 intro w s₀ s₁ mg mb G Y fa o pm cd doc dV kV ho hd VE hD hmg hg args vals as VC hlay hrd Zq hlo
 obtain rfl:dV=.none:=Dflts.none hD XD
 obtain rfl:kV=.none:=Dflts.noKw hD
 obtain⟨a,vs,ns,rfl,rfl,Wd,hints,hlen⟩:=DC hn VC Zq
 refine enter_call (L0 (call w s₀ s₁ mg mb fa o pm cd doc a vs ns G Y ho (fd_plain hd) VE hmg Wd hints hlen hg) fun r s' hq=>?_)
 obtain⟨rfl,h2,h3,h4⟩:=hq
 exact⟨.inl ⟨.bool true,.bool true,[],rfl,fun _=>rfl,.bool true,DK l _,fun _=>⟨List.Pairwise.nil,fun _ hm=>(nomatch hm)⟩⟩,h2,h3,h4⟩
section
variable {K:Frag}
def OF(h:Heap)(L d:Addr):List (Addr×Obj):=(List.range h.objs.size).filterMap fun a=>if a=L\/a=d then none else (h.get? a).map fun o=>(a,o)
end
end Att
namespace L2
open PySem PySem.Spec PyProof.Rows
theorem wZ:∀{vs:List Value} {ns:List Int},IntsAre vs ns->Vals (ns.map V.int) vs
 |_,_,.nil=>.nil
 |_,_,.cons n t h=>.cons ⟨t,rfl⟩ (wZ h)
def LN(H:Hp):Prop:=∀b,H b=none\/∃o xs,H b=some (.RH o (.lst xs))
theorem FK{K:PySem.W.Frag}{a:Addr}{x:Str}{s₁:Shared}{vs:List Value}(KX:K.In s₁.heap)(Yj:s₁.heap.Ns mainGlobals mg)(hb:s₁.heap.Ns builtinsNs mb)(hbb:∀x:Str,x ≠ "__name__" -> mb x=bootBuiltins x)(ZH:s₁.heap.NoLimit)(Uu:s₁.heap.NoSeer)(hg:s₁.gens = #[])(ha:s₁.heap.get? a=some { cls:=.type "list",data:=.seq vs.toArray })(hi:IntsAre vs ns)(hl:ns.length<=sizeLine)(hr:QR k callerA)(F:∀base:Heap,K.In base->base.Ns mainGlobals mg->dJ P w K mg base CX k fa fd [x] sp)(XF:∀(s:Shared) (u:Value),BindsTo s fd ⟨[u],[]⟩ [(x,u)])(VS:∀H:Hp,LN H->Q1 K H a (ns.map V.int)->sp [.ref a] H (fun v _=>v=.bl true) fun _ _ _=>False)(Z4:∀H e s',CX [] H s₁ (fun _ _ _=>False) e s'->False):
  codeAny (model P w) callerA (.call (.ref fa) ⟨[.ref a],[]⟩) (fun r s'=>r=.ok (.ret (.bool true))/\OldK s₁.heap s'.heap/\s'.os=s₁.os/\AllBare s'.gens) s₁:=by
 have rv:=wZ hi
 have Zm:=hi.length
 have core:∀H:Hp,LN H->Q1 K H a (ns.map V.int)->SX P w H s₁.heap->(∀b,H b≠none->b=a)->(H a≠none->K.lookup a=none) ->
   codeAny (model P w) callerA (.call (.ref fa) ⟨[.ref a],[]⟩) (fun r s'=>r=.ok (.ret (.bool true))/\OldK s₁.heap s'.heap/\s'.os=s₁.os/\AllBare s'.gens) s₁:=by
  intro H hO hS QG hA hK
  have TC:∀{b:Addr} {o:Obj},s₁.heap.get? b=some o->H b=none->(wp s₁.heap H).get? b=some o:=fun e n=>FR e n
  have Xm:∀{b:Addr} {o:Obj} {es:Array DictEntry} {ep:Nat},s₁.heap.get? b=some o->o.data=.dict es ep->H b=none:=fun {b o es ep} e d=>by
   cases q:H b with
   |none=>rfl
   |some u=>
    have e':b=a:=hA b (by rw[q];simp)
    subst e'
    rw[ha] at e;cases e
    have d':Data.seq vs.toArray _=Data.dict es ep:=d
    cases d'
  have VR:∀{b:Addr} {m:Str->Option Value},s₁.heap.Ns b m->(wp s₁.heap H).Ns b m:=fun {b m} ⟨o,es,ep,e,d,r⟩=>⟨o,es,ep,TC e (Xm e d),d,r⟩
  have hKb:K.In (wp s₁.heap H):=fun b o e=>TC (KX b o e) (by
   cases q:H b with
   |none=>rfl
   |some u=>
    have e':b=a:=hA b (by rw[q];simp)
    subst e'
    rw[hK (by rw[q];simp)] at e;cases e)
  have XI:(wp s₁.heap H).NoSeer:={
   statics:=let ⟨mc,a1,b1⟩:=Uu.statics;⟨mc,VR a1,b1⟩
   mods:=let ⟨mc,a1,b1⟩:=Uu.mods;⟨mc,VR a1,b1⟩
   imp:=let ⟨mc,a1,b1⟩:=Uu.imp;⟨mc,VR a1,b1⟩
   main:=let ⟨Sm,bm,ob,a1,b1,c1,d1,e1⟩:=Uu.main;⟨Sm,bm,ob,VR a1,b1,TC c1 (by
    cases q:H bm with
    |none=>rfl
    |some u=>
     have e':bm=a:=hA bm (by rw[q];simp)
     subst e'
     rw[ha] at c1;cases c1
     injection d1 with d2
     exact absurd d2 (by decide)),d1,e1⟩ }
  have hM:Mod K mg (wp s₁.heap H):=⟨hKb,VR Yj,⟨mb,VR hb,hbb⟩,let ⟨mc,h1,h2⟩:=ZH;⟨mc,VR h1,h2⟩,XI⟩
  have e0:Uo P w K mg (wp s₁.heap H) callerA [] s₁ H:=⟨rfl,hM,fun b o e=>HX e,gI (DW _ _),trivial,fun b hb=>absurd (show b∈([]:List Addr) from hb) (by simp),QG,.of_eq hg⟩
  refine L0 ((F _ hKb (VR Yj)).run callerA [] s₁ H ⟨[.ref a],[]⟩ [.ref a] [.ref a] _ _ hr e0 (XF s₁ (.ref a)) (.cons rfl .nil) (VS H hO hS)) fun r s' h=>?_
  cases r with
  |error e=>exact(Z4 H e s' h).elim
  |ok fl=>
   cases fl with
   |next=>exact False.elim h
   |brk=>exact False.elim h
   |cont=>exact False.elim h
   |ret u=>
    obtain⟨v,H',os,bare,un,ZA,r',q⟩:=h
    have q':v=.bl true:=q
    subst q'
    obtain rfl:u=Value.bool true:=r'
    refine⟨rfl,OldK.of_keep fun b o e=>?_,os,bare⟩
    cases q:H b with
    |none=>exact un.keep b o e q (by intro z;exact absurd (show b∈([]:List Addr) from z) (by simp)) (by simp)
    |some u=>
     rcases hO b with z | ⟨ob,xs,z⟩
     ·rw[q] at z;cases z
     ·have z2:=un.SF b ob _ z
      obtain⟨e1,_⟩:=QG b _ z
      obtain⟨e2,_⟩:=ZA b _ z2
      rw[e] at e1;cases e1
      exact e2
 cases hk:K.lookup a with
 |some o=>
  have e:=KX a o hk
  rw[ha] at e
  cases e
  refine core (fun _=>none) (fun _=>.inl rfl) (.inr ⟨_,vs.toArray,_,hk,rfl,rfl,rfl,by rw[aH,Zm];exact hl,by simpa using rv⟩) (fun b u z=>by have z':(none:Option HO)=some u:=z;cases z') (fun b z=>absurd rfl z) fun z=>absurd rfl z
 |none=>
  refine core (fun b=>if b=a then some (.RH { cls:=.type "list",data:=.seq vs.toArray } (.lst (ns.map V.int))) else none) (fun b=>?_) (.inl (.inr ⟨{ cls:=.type "list",data:=.seq vs.toArray },ay rfl⟩)) (fun b u z=>?_) (fun b z=>?_) fun _=>hk
  ·by_cases hb:b=a
   ·exact .inr ⟨_,_,ay hb⟩
   ·exact .inl (aq hb)
  ·by_cases hb:b=a
   ·have z':=(ay hb).symm.trans z
    cases z'
    subst hb
    exact⟨ha,by rw[af];exact hl,vs,_,rv,ha⟩
   ·have z':=(aq hb).symm.trans z
    cases z'
  ·by_cases hb:b=a
   ·exact hb
   ·exact absurd (aq hb) z
theorem Vq{q:Program}{l:PySem.W.OpenLaw}{XP:(Str->Option Value)->Heap->Prop}{YP:World->Heap->Prop}{d:DefRec}{K:Params->PySem.W.Frag}{CX:World->Me}{sp:World->Sp}(hq:importsNone q=true)(hn:l.most=some n)(Yk:n<=sizeLine)(XD:d.params.defaults=[])(hr:QR k callerA)(hY:∀(w:World) (h:Heap),YP w h->(K w.params).In h)(F:∀(w:World) (mg:Str->Option Value) (fa:Addr) (h:Heap),(K w.params).In h->h.Ns mainGlobals mg->mg d.name=some (.ref fa) ->
   ∃fd:FuncData,(∀(s:Shared) (u:Value),BindsTo s fd ⟨[u],[]⟩ [(x,u)]) /\
    ∀base:Heap,(K w.params).In base->base.Ns mainGlobals mg->dJ l.prog w (K w.params) mg base (CX w) k fa fd [x] (sp w))(VS:∀(w:World) (H:Hp) (a:Addr) (ns:List Int),ns.length<=n->LN H->Q1 (K w.params) H a (ns.map V.int)->sp w [.ref a] H (fun v _=>v=.bl true) fun _ _ _=>False)(Z4:∀(w:World) (H:Hp) (s:Shared) (e:Value) (s':Shared),CX w [] H s (fun _ _ _=>False) e s'->False):
  PySem.W.WalkO q loose XP YP l.row.toRowW d [] (fun f vs=>PySem.call f vs):=by
 refine Att.TU hn XD fun w s₀ s₁ mg mb fa o pm cd doc a vs ns G Y ho hd VE hmg Wd hints hlen hg=>?_
 have KX:=hY w _ Y
 obtain⟨fd,hb,hF⟩:=F w mg fa _ KX G.T.g hmg
 exact FK KX G.T.g G.T.b G.T.builtins G.T.nolimit (G.T.seer hq) hg Wd hints (aL hlen Yk) hr hF hb (fun H hO hS=>VS w H a ns hlen hO hS) fun H e s'=>Z4 w H s₁ e s'
def hZ(s:Stmt):Arguments:=match s with
 |.FunctionDef _ a _ _ _ _ _ _ _ _=>a
 |_=>{ posonlyargs:=[],args:=[],vararg:=none,kwonlyargs:=[],kw_defaults:=[],kwarg:=none,defaults:=[] }
def bw(s:Stmt):List Stmt:=match s with
 |.FunctionDef _ _ b _ _ _ _ _ _ _=>b
 |_=>[]
def ai(s:Stmt):Scope:=match s with
 |.FunctionDef _ _ _ _ _ _ sc _ _ _=>sc
 |_=>{ kind:=.function,names:=[],isGenerator:=false,isCoroutine:=false }
abbrev gH:Me:=fun _ _ _ _ _ _=>False
abbrev E0:XK:=fun _ _ _=>False
theorem nH:gc gH X E0:=fun _ _ _ _ _ _ _ h=>h.elim
structure Um(K:PySem.W.Frag)(x qual:Str)(st:Stmt)(f:Addr)(fd:FuncData):Prop where
 ex:∃(oc:Value) (od:Option Addr) (kV doc pm:Value) (an:Option Addr) (Q3 ct:Value) (V5:Array (Option Value)),
  fd=PySem.W.fnOf x qual (hZ st) (bw st) (ai st) .none kV doc pm an Q3 ct/\K.lookup f=some ⟨oc,od,.func fd,V5⟩/\PySem.W.codeIn K Q3 qual=true
 kp:PySem.W.keepIn K (.ref f)=true
section
variable {K:PySem.W.Frag}
theorem Um.ok{st:Stmt}{sp:Sp}(F:Um K x qual st f fd)(S:aR N ps (ai st))(len:∀vs H Q E,sp vs H Q E->vs.length=ps.length)(U2:∀(Q3:Value) (A:Around) (outer:List Env) (s:Shared) (H:Hp) (vs:List V) (Q:VK) (E:XK),QR k (A.deeper (envOfC qual (ai st) s.heap.objs.size f Q3))->sp vs H Q E ->
   ∃t,Uk (qa gH P w K mg base N qual (ai st) f Q3 A outer s H E).Tx (bw st) t/\t { nx:=fun _ H'=>Q .QO H',rt:=Q } (start N vs) H):dJ P w K mg base gH (k+1) f fd ps sp:=by
 obtain⟨oc,od,kV,doc,pm,an,Q3,ct,V5,rfl,lk,VE⟩:=F.ex
 refine M9 lk VE S len fun A outer s H vs Q E hr VS=>?_
 obtain⟨t,h,q⟩:=U2 Q3 A outer s H vs Q E hr VS
 exact⟨t,h.Tx,q⟩
theorem Um.binds{st:Stmt}{ps:List Str}(F:Um K x qual st f fd)(h:∀(kV doc pm:Value) (an:Option Addr) (Q3 ct:Value) (us:List Value),us.length=ps.length->bindArgs (PySem.W.fnOf x qual (hZ st) (bw st) (ai st) .none kV doc pm an Q3 ct) ⟨us,[]⟩=pure (ps.zip us)):Binds K fd ps []:=by
 obtain⟨oc,od,kV,doc,pm,an,Q3,ct,V5,rfl,lk,VE⟩:=F.ex
 exact .all (h kV doc pm an Q3 ct)
theorem FT{x qual:Str}{st:Stmt}{f:Addr}{an:Option Addr}{kV doc pm Q3 ct:Value}(l:K.lookup f=some ⟨oc,od,.func (PySem.W.fnOf x qual (hZ st) (bw st) (ai st) .none kV doc pm an Q3 ct),V5⟩)(c:PySem.W.codeIn K Q3 qual=true)(k:PySem.W.keepIn K (.ref f)=true):Um K x qual st f (PySem.W.fnOf x qual (hZ st) (bw st) (ai st) .none kV doc pm an Q3 ct):=⟨⟨oc,od,kV,doc,pm,an,Q3,ct,V5,rfl,l,c⟩,k⟩
end
def Qx(H H':Hp):Prop:=∀b o,H b=some o->H' b=some o
theorem Qx.refl(H:Hp):Qx H H:=fun _ _ h=>h
theorem Qx.trans(a:Qx H H1)(b:Qx H1 H2):Qx H H2:=fun c o h=>b c o (a c o h)
theorem Qx.free{l:Addr}(e:Qx H H')(h:H' l=Option.none):H l=Option.none:=by
 cases q:H l with
 |none=>rfl
 |some o=>
  rw[e l o q] at h
  cases h
theorem Qx.seq{K:PySem.W.Frag}(e:Qx H H')(h:Q1 K H a xs):Q1 K H' a xs:=by
 rcases h with(h | ⟨o,h⟩) | h
 ·exact .inl (.inl (e _ _ h))
 ·exact .inl (.inr ⟨o,e _ _ h⟩)
 ·exact .inr h
end L2
namespace L2.EV
open PySem PySem.Spec PyProof.Rows
inductive D where
 |QO | bl (b:Bool) | int (i:Int) | str (x:Str) | tup (xs:List D) | lst (xs:List D) | R8 (ns:List Int) | exc (C:Addr) | UO (C ea:Addr) | QM (kvs:List (List Int×Int)) | adr (p:Addr) | SA (q:Addr)
def JB(a C:Addr):Heap->Prop:=fun h=>∃ob vs,h.get? a=some ob/\ob.cls=.ref C/\ob.data=.fields vs/\vs[2]?=some .none
def Nj(o:Obj)(xs:List (List Int×Addr×Int)):Prop:=o.ExactDict/\∃(es:Array DictEntry) (ep:Nat) (ys:List (List Int×Addr×Value)),o.data=.dict es ep/\(∀(P:Program) (w:World),es.toList=ys.map (entryOfKey (tupleKind (intKind P w)))) /\
 Paired (fun(x:List Int×Addr×Int) (y:List Int×Addr×Value)=>y.1=x.1/\y.2.1=x.2.1/\RelV (.int x.2.2) y.2.2) xs ys/\(ys.map (·.1)).Nodup
def ei(a:Addr)(xs:List (List Int×Addr×Int)):Heap->Prop:=fun h=>xs.length<=sizeLine/\(a==sysModules)=false/\∃o,h.get? a=some o/\Nj o xs
def Rt(F:Hp)(kvs:List (List Int×Int))(xs:List (List Int×Addr×Int)):Prop:=kvs=xs.map (fun x=>(x.1,x.2.2))/\∀x∈xs,F x.2.1=some (.tup (x.1.map V.int))
theorem Rt.mono{kvs:List (List Int×Int)}{xs:List (List Int×Addr×Int)}(h:Qx F F')(r:Rt F kvs xs):Rt F' kvs xs:=⟨r.1,fun x hx=>h _ _ (r.2 x hx)⟩
mutual
inductive Rep(K:PySem.W.Frag)(F:Hp):V->D->Prop where
 |QO:Rep K F .QO .QO
 |bl (b:Bool):Rep K F (.bl b) (.bl b)
 |int (i:Int):Rep K F (.int i) (.int i)
 |str (x:Str):Rep K F (.str x) (.str x)
 |tup {a:Addr} {vs:List V} {ds:List D}:F a=some (.tup vs)->Qq K F vs ds->Rep K F (.ref a) (.tup ds)
 |lst {a:Addr} {vs:List V} {ds:List D}:F a=some (.lst vs)->Qq K F vs ds->Rep K F (.ref a) (.lst ds)
 |R8 {a:Addr} {ns:List Int}:Q1 K F a (ns.map V.int)->Rep K F (.ref a) (.R8 ns)
 |exc {a C:Addr} {ob:Obj}:F a=some (.RH ob (.ext (JB a C)))->Rep K F (.ref a) (.exc C)
 |UO {a C:Addr} {ob:Obj}:F a=some (.RH ob (.ext (JB a C)))->Rep K F (.ref a) (.UO C a)
 |QM {a:Addr} {ob:Obj} {kvs:List (List Int×Int)} {xs:List (List Int×Addr×Int)}:F a=some (.RH ob (.ext (ei a xs)))->Rt F kvs xs->Rep K F (.ref a) (.QM kvs)
 |adr (a:Addr):Rep K F (.ref a) (.adr a)
 |SA {a q:Addr}:F a=some (.dK [(Sum.inr "xs",.ref q)])->Rep K F (.ref a) (.SA q)
inductive Qq(K:PySem.W.Frag)(F:Hp):List V->List D->Prop where
 |nil:Qq K F [] []
 |cons {v:V} {d:D} {vs:List V} {ds:List D}:Rep K F v d->Qq K F vs ds->Qq K F (v::vs) (d::ds)
end
section
variable {K:PySem.W.Frag}
mutual
theorem Rep.mono(h:Qx F F'):∀{v:V} {d:D},Rep K F v d->Rep K F' v d
 |_,_,.QO=>.QO
 |_,_,.bl b=>.bl b
 |_,_,.int i=>.int i
 |_,_,.str x=>.str x
 |_,_,.tup e r=>.tup (h _ _ e) (Qq.mono h r)
 |_,_,.lst e r=>.lst (h _ _ e) (Qq.mono h r)
 |_,_,.R8 e=>.R8 (h.seq e)
 |_,_,.exc e=>.exc (h _ _ e)
 |_,_,.UO e=>.UO (h _ _ e)
 |_,_,.QM e r=>.QM (h _ _ e) (r.mono h)
 |_,_,.adr a=>.adr a
 |_,_,.SA e=>.SA (h _ _ e)
theorem Qq.mono(h:Qx F F'):∀{vs:List V} {ds:List D},Qq K F vs ds->Qq K F' vs ds
 |_,_,.nil=>.nil
 |_,_,.cons r t=>.cons (Rep.mono h r) (Qq.mono h t)
end
theorem Qq.length:∀{vs:List V} {ds:List D},Qq K F vs ds->vs.length=ds.length
 |_,_,.nil=>rfl
 |_,_,.cons _ t=>bJ Nat.succ (Qq.length t)
theorem Qq.get:∀{vs:List V} {ds:List D} {i:Nat} {d:D},Qq K F vs ds->ds[i]?=some d->∃v,vs[i]?=some v/\Rep K F v d
 |_,_,_,_,.nil,e=>by simp at e
 |_,_,0,_,.cons r _,e=>by simp at e;subst e;exact⟨_,rfl,r⟩
 |_,_,i+1,d,.cons _ t,e=>by
  obtain⟨v,h1,h2⟩:=Qq.get (i:=i) (d:=d) t (by simpa using e)
  exact⟨v,by simpa using h1,h2⟩
theorem Qq.append:∀{vs us:List V} {ds es:List D},Qq K F vs ds->Qq K F us es->Qq K F (vs++us) (ds++es)
 |_,_,_,_,.nil,s=>s
 |_,_,_,_,.cons r t,s=>.cons r (Qq.append t s)
theorem Qq.take:∀{vs:List V} {ds:List D} (n:Nat),Qq K F vs ds->Qq K F (vs.take n) (ds.take n)
 |_,_,0,_=>.nil
 |_,_,_+1,.nil=>.nil
 |_,_,n+1,.cons r t=>.cons r (Qq.take n t)
theorem Qq.drop:∀{vs:List V} {ds:List D} (n:Nat),Qq K F vs ds->Qq K F (vs.drop n) (ds.drop n)
 |_,_,0,r=>r
 |_,_,_+1,.nil=>.nil
 |_,_,n+1,.cons _ t=>Qq.drop n t
theorem Qq.set(r:Rep K F v d):∀{vs:List V} {ds:List D} (i:Nat),Qq K F vs ds->Qq K F (vs.set i v) (ds.set i d)
 |_,_,_,.nil=>.nil
 |_,_,0,.cons _ t=>.cons r t
 |_,_,i+1,.cons q t=>.cons q (Qq.set r i t)
theorem Qq.dropLast{ds:List D}(h:Qq K F vs ds):Qq K F vs.dropLast ds.dropLast:=by
 rw[PN,PN,h.length]
 exact h.take _
theorem Qq.reverse:∀{vs:List V} {ds:List D},Qq K F vs ds->Qq K F vs.reverse ds.reverse
 |_,_,.nil=>.nil
 |_,_,.cons r t=>by rw[lF,lF];exact Qq.append (Qq.reverse t) (.cons r .nil)
theorem Qq.rep{ds:List D}(h:Qq K F vs ds):∀k:Nat,Qq K F (List.replicate k vs).flatten (List.replicate k ds).flatten
 |0=>.nil
 |k+1=>by
  rw[bv,bv,dZ,dZ]
  exact Qq.append h (Qq.rep h k)
theorem Qq.ints:∀ns:List Int,Qq K F (ns.map V.int) (ns.map D.int)
 |[]=>.nil
 |n::ns=>.cons (.int n) (Qq.ints ns)
theorem Qq.Ru:∀{ns:List Int} {vs:List V},Qq K F vs (ns.map D.int)->vs=ns.map V.int
 |[],_,h=>by cases h;rfl
 |n::ns,_,h=>by
  cases h with
  |cons r t=>cases r;rw[aS,Qq.Ru t]
end
structure B0 where
 F:Hp
 H:Hp
structure Ext(B:B0)(F H:Hp):Prop where
 sub:Qx F H
 sh:Qx B.H H
 sf:Qx B.F F
 nw:∀a,F a≠none->B.F a≠none\/B.H a=none
inductive Sl where
 |un | val (d:D) | own (xs:List D) | RC (kvs:List (List Int×Int))
structure Yv(B:B0)(F H:Hp)(σ:St)(ρ:List Sl):Prop where
 SG:∀(i:Nat) kvs,ρ[i]?=some (.RC kvs)->∃a es,σ[i]?=some (some (.ref a))/\H a=some (.ext (ei a es))/\F a=none/\B.H a=none/\Rt F kvs es
 SI:∀(i j:Nat) xs ys a,ρ[i]?=some (.RC xs)->ρ[j]?=some (.RC ys)->σ[i]?=some (some (.ref a))->σ[j]?=some (some (.ref a))->i=j
theorem Yv.to{H':Hp}{σ':St}{ρ ρ':List Sl}(k:Yv B F H σ ρ)(hF:Qx F F')(hH:∀a φ,H a=some (.ext φ)->F a=none->B.H a=none->H' a=some (.ext φ)/\F' a=none)(hρ:∀(i:Nat) kvs,ρ'[i]?=some (.RC kvs)->ρ[i]?=some (.RC kvs)/\σ'[i]?=σ[i]?):Yv B F' H' σ' ρ':=by
 refine⟨fun i kvs e=>?_,fun i j xs ys a e1 e2 e3 e4=>?_⟩
 ·obtain⟨q,z⟩:=hρ i kvs e
  obtain⟨a,es,h1,h2,h3,h4,h5⟩:=k.SG i kvs q
  obtain⟨g1,g2⟩:=hH a _ h2 h3 h4
  exact⟨a,es,z.trans h1,g1,g2,h4,h5.mono hF⟩
 ·obtain⟨q1,z1⟩:=hρ i xs e1
  obtain⟨q2,z2⟩:=hρ j ys e2
  exact k.SI i j xs ys a q1 q2 (z1 ▸ e3) (z2 ▸ e4)
theorem xX{σ:St}{ρ:List Sl}{v:Option V}{s:Sl}(hs:∀kvs,s ≠ .RC kvs)(j:Nat)(kvs:List (List Int×Int))(h:(ρ.set i s)[j]?=some (.RC kvs)):ρ[j]?=some (.RC kvs)/\(σ.set i v)[j]?=σ[j]?:=by
 by_cases e:i=j
 ·subst e
  rw[bN] at h
  cases z:ρ[i]? with
  |none=>rw[z] at h;cases h
  |some w=>rw[z] at h;exact absurd (bB h) (hs kvs)
 ·rw[av e] at h ⊢
  exact⟨h,rfl⟩
theorem uS{σ:St}{ρ:List Sl}{s:Sl}(hs:∀kvs,s ≠ .RC kvs)(j:Nat)(kvs:List (List Int×Int))(h:(ρ.set i s)[j]?=some (.RC kvs)):ρ[j]?=some (.RC kvs)/\σ[j]?=σ[j]?:=
 ⟨(xX (σ:=[]) (v:=none) hs j kvs h).1,rfl⟩
structure Ok(K:PySem.W.Frag)(B:B0)(F H:Hp)(σ:St)(ρ:List Sl):Prop extends Ext B F H where
 len:σ.length=ρ.length
 vals:∀(i:Nat) d,ρ[i]?=some (.val d)->∃v,σ[i]?=some (some v)/\Rep K F v d
 Rj:∀(i:Nat) xs,ρ[i]?=some (.own xs)->∃a vs,σ[i]?=some (some (.ref a))/\H a=some (.lst vs)/\F a=none/\B.H a=none/\Qq K F vs xs
 dist:∀(i j:Nat) xs ys a,ρ[i]?=some (.own xs)->ρ[j]?=some (.own ys)->σ[i]?=some (some (.ref a))->σ[j]?=some (some (.ref a))->i=j
 QM:Yv B F H σ ρ
theorem aP{H:Hp}{p:Addr}(h:H p=none):Qx H (cA H p o):=fun b u q=>by rw[aJ (dv q h)];exact q
theorem uH(h:Qx F H):Qx (cA F p o) (cA H p o):=fun b u q=>by
 by_cases hb:b=p
 ·subst hb;rw[aK] at q ⊢;exact q
 ·rw[aJ hb] at q ⊢;exact h b u q
section
variable {K:PySem.W.Frag}{ρ:List Sl}
theorem Ext.refl(h:Qx F H):Ext ⟨F,H⟩ F H:=⟨h,.refl _,.refl _,fun a q=>.inl q⟩
theorem Ext.trans(x:Ext B F H)(y:Ext ⟨F,H⟩ F' H'):Ext B F' H':=
 ⟨y.sub,x.sh.trans y.sh,x.sf.trans y.sf,fun a q=>by
  rcases y.nw a q with z | z
  ·exact x.nw a z
  ·exact .inr (x.sh.free z)⟩
theorem Ext.grow{p:Addr}(x:Ext B F H)(hp:H p=none):Ext B (cA F p o) (cA H p o):=
 ⟨uH x.sub,x.sh.trans (aP hp),x.sf.trans (aP (x.sub.free hp)),fun a q=>by
  by_cases h:a=p
  ·subst h;exact .inr (x.sh.free hp)
  ·rw[aJ h] at q;exact x.nw a q⟩
theorem Ok.ext(k:Ok K B F H σ ρ)(y:Ext ⟨F,H⟩ F' H'):Ok K B F' H' σ ρ:=by
 refine⟨k.toExt.trans y,k.len,fun i d e=>?_,fun i xs e=>?_,k.dist,k.QM.to y.sf (fun a φ e1 e2 e3=>⟨y.sh _ _ e1,?_⟩) fun _ _ e=>⟨e,rfl⟩⟩
 rotate_left 2
 ·cases q:F' a with
  |none=>rfl
  |some u=>
   rcases y.nw a (by rw[q];exact fun z=>nomatch z) with z | z
   ·exact absurd e2 z
   ·have z':H a=none:=z
    rw[e1] at z';cases z'
 ·obtain⟨v,h1,h2⟩:=k.vals i d e
  exact⟨v,h1,h2.mono y.sf⟩
 ·obtain⟨a,vs,h1,h2,h3,h4,h5⟩:=k.Rj i xs e
  refine⟨a,vs,h1,y.sh _ _ h2,?_,h4,h5.mono y.sf⟩
  cases q:F' a with
  |none=>rfl
  |some u=>
   rcases y.nw a (by rw[q];exact fun z=>nomatch z) with z | z
   ·exact absurd h3 z
   ·have z':H a=none:=z
    rw[h2] at z';cases z'
theorem Ok.XM{p:Addr}(k:Ok K B F H σ ρ)(hp:H p=none):Ok K B F (cA H p o) σ ρ:=
 k.ext ⟨k.sub.trans (aP hp),aP hp,.refl _,fun a q=>.inl q⟩
def QS(σ:St)(ρ:List Sl)(p:Addr):Prop:=∀(i:Nat) xs,ρ[i]?=some (.own xs)->σ[i]?≠some (some (.ref p))
theorem Ok.noOwn{p:Addr}(k:Ok K B F H σ ρ)(hp:H p=none):QS σ ρ p:=fun i xs e q=>by
 obtain⟨a,vs,h1,h2,_⟩:=k.Rj i xs e
 rw[h1] at q
 cases q
 rw[hp] at h2;cases h2
theorem Ok.QN(k:Ok K B F H σ ρ)(i:Nat)(r:Rep K F v d):Ok K B F H (σ.set i (some v)) (ρ.set i (.val d)):=by
 refine⟨k.toExt,by rw[bC,bC,k.len],fun j e q=>?_,fun j xs q=>?_,fun j l xs ys a q1 q2 q3 q4=>?_,k.QM.to (.refl _) (fun _ _ e1 e2 _=>⟨e1,e2⟩) (xX fun _ z=>nomatch z)⟩
 ·by_cases h:i=j
  ·subst h
   rw[bN] at q
   cases z:ρ[i]? with
   |none=>rw[z] at q;cases q
   |some w=>
    rw[z] at q;cases q
    have hi:i<σ.length:=by rw[k.len];exact(az.mp z).1
    exact⟨v,by rw[a9 hi],r⟩
  ·rw[av h] at q ⊢
   exact k.vals j e q
 ·by_cases h:i=j
  ·subst h
   rw[bN] at q
   cases z:ρ[i]? with
   |none=>rw[z] at q;cases q
   |some w=>rw[z] at q;cases q
  ·rw[av h] at q ⊢
   exact k.Rj j xs q
 ·have n1:i≠j:=by
   rintro rfl
   rw[bN] at q1
   cases z:ρ[i]? with
   |none=>rw[z] at q1;cases q1
   |some w=>rw[z] at q1;cases q1
  have n2:i≠l:=by
   rintro rfl
   rw[bN] at q2
   cases z:ρ[i]? with
   |none=>rw[z] at q2;cases q2
   |some w=>rw[z] at q2;cases q2
  rw[av n1] at q1 q3
  rw[av n2] at q2 q4
  exact k.dist j l xs ys a q1 q2 q3 q4
theorem Ok.Tw{ds:List D}{p:Addr}(k:Ok K B F H σ ρ)(i:Nat)(hp:H p=some (.lst vs))(hf:F p=none)(hb:B.H p=none)(hn:QS σ ρ p)(r:Qq K F vs ds):
  Ok K B F H (σ.set i (some (.ref p))) (ρ.set i (.own ds)):=by
 refine⟨k.toExt,by rw[bC,bC,k.len],fun j e q=>?_,fun j xs q=>?_,fun j l xs ys a q1 q2 q3 q4=>?_,k.QM.to (.refl _) (fun _ _ e1 e2 _=>⟨e1,e2⟩) (xX fun _ z=>nomatch z)⟩
 ·by_cases h:i=j
  ·subst h
   rw[bN] at q
   cases z:ρ[i]? with
   |none=>rw[z] at q;cases q
   |some w=>rw[z] at q;cases q
  ·rw[av h] at q ⊢
   exact k.vals j e q
 ·by_cases h:i=j
  ·subst h
   rw[bN] at q
   cases z:ρ[i]? with
   |none=>rw[z] at q;cases q
   |some w=>
    rw[z] at q;cases q
    have hi:i<σ.length:=by rw[k.len];exact(az.mp z).1
    exact⟨p,vs,by rw[a9 hi],hp,hf,hb,r⟩
  ·rw[av h] at q ⊢
   exact k.Rj j xs q
 ·by_cases n1:i=j
  ·by_cases n2:i=l
   ·exact n1.symm.trans n2
   ·subst n1
    rw[av n2] at q2 q4
    have hi:i<σ.length:=by
     have:=(az.mp q3).1
     rw[bC] at this;exact this
    rw[a9 hi] at q3
    cases q3
    exact absurd q4 (hn l ys q2)
  ·by_cases n2:i=l
   ·subst n2
    rw[av n1] at q1 q3
    have hi:i<σ.length:=by
     have:=(az.mp q4).1
     rw[bC] at this;exact this
    rw[a9 hi] at q4
    cases q4
    exact absurd q3 (hn j xs q1)
   ·rw[av n1] at q1 q3
    rw[av n2] at q2 q4
    exact k.dist j l xs ys a q1 q2 q3 q4
theorem Ok.SH{vs:List V}{ds:List D}{i:Nat}(k:Ok K B F H σ ρ)(hi:ρ[i]?=some (.own xs))(hs:σ[i]?=some (some (.ref p)))(r:Qq K F ws ds):
  Ok K B F (cA H p (.lst ws)) σ (ρ.set i (.own ds)):=by
 obtain⟨a,us,h1,h2,h3,h4,h5⟩:=k.Rj i xs hi
 rw[h1] at hs
 cases hs
 have QW:i<ρ.length:=(az.mp hi).1
 refine⟨⟨fun b u q=>?_,fun b u q=>?_,k.sf,k.nw⟩,by rw[bC,k.len],fun j e q=>?_,fun j ys q=>?_,fun j l ys zs b q1 q2 q3 q4=>?_,k.QM.to (.refl _) (fun b φ e1 e2 _=>⟨by rw[aJ (fun z=>by subst z;rw[h2] at e1;cases e1)];exact e1,e2⟩) (uS fun _ z=>nomatch z)⟩
 ·have ne:b≠p:=fun z=>by subst z;rw[h3] at q;cases q
  rw[aJ ne];exact k.sub b u q
 ·have ne:b≠p:=fun z=>by subst z;rw[h4] at q;cases q
  rw[aJ ne];exact k.sh b u q
 ·by_cases h:i=j
  ·subst h
   rw[a9 QW] at q;cases q
  ·rw[av h] at q
   exact k.vals j e q
 ·by_cases h:i=j
  ·subst h
   rw[a9 QW] at q;cases q
   exact⟨p,ws,h1,aK,h3,h4,r⟩
  ·rw[av h] at q
   obtain⟨b,Sd,g1,g2,g3,g4,g5⟩:=k.Rj j ys q
   have ne:b≠p:=fun z=>by subst z;exact h (k.dist i j xs ys b hi q h1 g1)
   exact⟨b,Sd,g1,by rw[aJ ne];exact g2,g3,g4,g5⟩
 ·have own:∀(m:Nat) ys,(ρ.set i (.own ds))[m]?=some (.own ys)->∃zs,ρ[m]?=some (.own zs):=fun m ys q=>by
   by_cases h:i=m
   ·subst h;exact⟨xs,hi⟩
   ·rw[av h] at q;exact⟨ys,q⟩
  obtain⟨y1,z1⟩:=own j ys q1
  obtain⟨y2,z2⟩:=own l zs q2
  exact k.dist j l _ _ b z1 z2 q3 q4
theorem Ok.U7{i:Nat}(k:Ok K B F H σ ρ)(hi:ρ[i]?=some (.own xs)):∃F',Qx F F'/\Ok K B F' H σ (ρ.set i (.val (.lst xs))):=by
 obtain⟨a,us,h1,h2,h3,h4,h5⟩:=k.Rj i xs hi
 have QW:i<ρ.length:=(az.mp hi).1
 have sf:Qx F (cA F a (.lst us)):=aP h3
 have UE:∀(j:Nat) ys,(ρ.set i (.val (.lst xs)))[j]?=some (.own ys)->i≠j/\ρ[j]?=some (.own ys):=fun j ys q=>by
  by_cases h:i=j
  ·subst h;rw[a9 QW] at q;cases q
  ·rw[av h] at q;exact⟨h,q⟩
 refine⟨cA F a (.lst us),sf,⟨fun b u q=>?_,k.sh,k.sf.trans sf,fun b q=>?_⟩,by rw[bC,k.len],fun j e q=>?_,fun j ys q=>?_,fun j l ys zs b q1 q2 q3 q4=>?_,k.QM.to sf (fun b φ e1 e2 _=>⟨e1,by rw[aJ (fun z=>by subst z;rw[h2] at e1;cases e1)];exact e2⟩) (uS fun _ z=>nomatch z)⟩
 ·by_cases h:b=a
  ·subst h;rw[aK] at q;cases q;exact h2
  ·rw[aJ h] at q;exact k.sub b u q
 ·by_cases h:b=a
  ·subst h;exact .inr h4
  ·rw[aJ h] at q;exact k.nw b q
 ·by_cases h:i=j
  ·subst h
   rw[a9 QW] at q;cases q
   exact⟨_,h1,.lst aK (h5.mono sf)⟩
  ·rw[av h] at q
   obtain⟨v,g1,g2⟩:=k.vals j e q
   exact⟨v,g1,g2.mono sf⟩
 ·obtain⟨h,q⟩:=UE j ys q
  obtain⟨b,Sd,g1,g2,g3,g4,g5⟩:=k.Rj j ys q
  have ne:b≠a:=fun z=>by subst z;exact h (k.dist i j xs ys b hi q h1 g1)
  exact⟨b,Sd,g1,g2,by rw[aJ ne];exact g3,g4,g5.mono sf⟩
 ·exact k.dist j l _ _ b (UE j ys q1).2 (UE l zs q2).2 q3 q4
end
set_option autoImplicit true
structure wE(X:Cx)(e:Expr)(σ:St)(H:Hp)(Q:VK):Prop where
 go:∀(pins:List (Addr×Obj)) (s:Shared),Inv X pins σ H s->wpAny (model X.prog X.w) X.A (eval e X.env) (EP X pins σ Q) X.xe s
instance wE_f {X:Cx} {e:Expr} {σ:St} {H:Hp} {Q:VK}:CoeFun (wE X e σ H Q) (fun _=>∀(pins:List (Addr×Obj)) (s:Shared),Inv X pins σ H s->wpAny (model X.prog X.w) X.A (eval e X.env) (EP X pins σ Q) X.xe s):=⟨wE.go⟩
structure wT(X:Cx)(e:Expr)(σ:St)(H:Hp)(Q:(Bool->Hp->Prop)):Prop where
 go:∀(pins:List (Addr×Obj)) (s:Shared),Inv X pins σ H s->wpAny (model X.prog X.w) X.A (isTrue e X.env (eval e X.env)) (TP X pins σ Q) X.xe s
instance wT_f {X:Cx} {e:Expr} {σ:St} {H:Hp} {Q:Bool->Hp->Prop}:CoeFun (wT X e σ H Q) (fun _=>∀(pins:List (Addr×Obj)) (s:Shared),Inv X pins σ H s->wpAny (model X.prog X.w) X.A (isTrue e X.env (eval e X.env)) (TP X pins σ Q) X.xe s):=⟨wT.go⟩
structure wW(X:Cx)(e:Expr)(σ:St)(H:Hp)(Q:(Bool->Hp->Prop)):Prop where
 go:∀(whole:Sem Value) (pins:List (Addr×Obj)) (s:Shared),Inv X pins σ H s->wpAny (model X.prog X.w) X.A (isTrue e X.env whole) (TP X pins σ Q) X.xe s
instance wW_f {X:Cx} {e:Expr} {σ:St} {H:Hp} {Q:Bool->Hp->Prop}:CoeFun (wW X e σ H Q) (fun _=>∀(whole:Sem Value) (pins:List (Addr×Obj)) (s:Shared),Inv X pins σ H s->wpAny (model X.prog X.w) X.A (isTrue e X.env whole) (TP X pins σ Q) X.xe s):=⟨wW.go⟩
structure wA(X:Cx)(es:List Expr)(σ:St)(H:Hp)(Q:(List V->Hp->Prop)):Prop where
 go:∀(pos:Pos) (pins:List (Addr×Obj)) (s:Shared),Inv X pins σ H s->wpAny (model X.prog X.w) X.A (spliced (backTo pos (starEach es X.env))) (AP X pins σ Q) X.xe s
instance wA_f {X:Cx} {es:List Expr} {σ:St} {H:Hp} {Q:List V->Hp->Prop}:CoeFun (wA X es σ H Q) (fun _=>∀(pos:Pos) (pins:List (Addr×Obj)) (s:Shared),Inv X pins σ H s->wpAny (model X.prog X.w) X.A (spliced (backTo pos (starEach es X.env))) (AP X pins σ Q) X.xe s):=⟨wA.go⟩
structure wS(X:Cx)(st:Stmt)(D:kx)(σ:St)(H:Hp):Prop where
 go:∀(pins:List (Addr×Obj)) (s:Shared),Inv X pins σ H s->wpAny (model X.prog X.w) X.A (exec st X.env) (SP X pins D) X.xe s
instance wS_f {X:Cx} {st:Stmt} {D:kx} {σ:St} {H:Hp}:CoeFun (wS X st D σ H) (fun _=>∀(pins:List (Addr×Obj)) (s:Shared),Inv X pins σ H s->wpAny (model X.prog X.w) X.A (exec st X.env) (SP X pins D) X.xe s):=⟨wS.go⟩
structure wSs(X:Cx)(st:List Stmt)(D:kx)(σ:St)(H:Hp):Prop where
 go:∀(pins:List (Addr×Obj)) (s:Shared),Inv X pins σ H s->wpAny (model X.prog X.w) X.A (execs st X.env) (SP X pins D) X.xe s
instance wSs_f {X:Cx} {st:List Stmt} {D:kx} {σ:St} {H:Hp}:CoeFun (wSs X st D σ H) (fun _=>∀(pins:List (Addr×Obj)) (s:Shared),Inv X pins σ H s->wpAny (model X.prog X.w) X.A (execs st X.env) (SP X pins D) X.xe s):=⟨wSs.go⟩
structure wO(X:Cx)(e:Option Expr)(σ:St)(H:Hp)(Q:(Option Int->Hp->Prop)):Prop where
 go:∀(pins:List (Addr×Obj)) (s:Shared),Inv X pins σ H s->wpAny (model X.prog X.w) X.A (evalPart e X.env) (fun u s'=>∃o H',Inv X pins σ H' s'/\IsPart u o/\Q o H') X.xe s
instance wO_f {X:Cx} {e:Option Expr} {σ:St} {H:Hp} {Q:Option Int->Hp->Prop}:CoeFun (wO X e σ H Q) (fun _=>∀(pins:List (Addr×Obj)) (s:Shared),Inv X pins σ H s->wpAny (model X.prog X.w) X.A (evalPart e X.env) (fun u s'=>∃o H',Inv X pins σ H' s'/\IsPart u o/\Q o H') X.xe s):=⟨wO.go⟩
structure wG(X:Cx)(e:Expr)(v:V)(σ:St)(H:Hp)(Q:(St->Hp->Prop)):Prop where
 go:∀(pins:List (Addr×Obj)) (s:Shared) (u:Value),Inv X pins σ H s->RelV v u->wpAny (model X.prog X.w) X.A (assign e X.env u) (fun _ s'=>∃σ' H',Inv X pins σ' H' s'/\Q σ' H') X.xe s
instance wG_f {X:Cx} {e:Expr} {v:V} {σ:St} {H:Hp} {Q:St->Hp->Prop}:CoeFun (wG X e v σ H Q) (fun _=>∀(pins:List (Addr×Obj)) (s:Shared) (u:Value),Inv X pins σ H s->RelV v u->wpAny (model X.prog X.w) X.A (assign e X.env u) (fun _ s'=>∃σ' H',Inv X pins σ' H' s'/\Q σ' H') X.xe s):=⟨wG.go⟩
section
variable {st:Stmt}{oe:Option Expr}
theorem aV:PE X e (wE X e):=fun pins s _ _ _ I h=>h pins s I
theorem lR:PT X e (wT X e):=fun pins s _ _ _ I h=>h pins s I
theorem HF:PW X e (wW X e):=fun wh pins s _ _ _ I h=>h wh pins s I
theorem nI:PA X es (wA X es):=fun pos pins s _ _ _ I h=>h pos pins s I
theorem sv:PS X st (wS X st):=fun pins s _ _ _ I h=>h pins s I
theorem dn:Uk X S3 (wSs X S3):=fun pins s _ _ _ I h=>h pins s I
theorem DL:PO X oe (wO X oe):=fun pins s _ _ _ I h=>h pins s I
theorem Fj:PG X e (wG X e):=fun pins s _ _ _ u _ I r h=>h pins s u I r
end
abbrev cp:=List Sl
def Qp(X:Cx)(ρ:cp)(e:Expr)(d:D):Prop:=∀(B:B0) (F H:Hp) (σ:St) (Q:VK),Ok X.K B F H σ ρ ->
 (∀v F' H',Ext ⟨F,H⟩ F' H'->Rep X.K F' v d->Q v H')->wE X e σ H Q
def QJ(X:Cx)(ρ:cp)(e:Expr)(xs:List D):Prop:=∀(B:B0) (F H:Hp) (σ:St) (Q:VK),Ok X.K B F H σ ρ ->
 (∀p vs F' H',Ext ⟨F,H⟩ F' H'->H p=none->H' p=some (.lst vs)->F' p=none->Qq X.K F' vs xs->Q (.ref p) H')->wE X e σ H Q
def UJ(K:PySem.W.Frag)(k:Bool)(H:Hp)(a:Addr)(vs:List V):Prop:=if k=true then Q1 K H a vs else RB K H a vs
def Sw(X:Cx)(ρ:cp)(e:Expr)(k:Bool)(xs:List D):Prop:=∀(B:B0) (F H:Hp) (σ:St) (Q:VK),Ok X.K B F H σ ρ ->
 (∀a vs F' H',Ext ⟨F,H⟩ F' H'->UJ X.K k H' a vs->Qq X.K F' vs xs->Q (.ref a) H')->wE X e σ H Q
def Qs(X:Cx)(ρ:cp)(e:Expr)(b:Bool):Prop:=∀(B:B0) (F H:Hp) (σ:St) (Q:Bool->Hp->Prop),Ok X.K B F H σ ρ ->
 (∀F' H',Ext ⟨F,H⟩ F' H'->Q b H')->wT X e σ H Q
def RJ(X:Cx)(ρ:cp)(e:Expr)(b:Bool):Prop:=∀(B:B0) (F H:Hp) (σ:St) (Q:Bool->Hp->Prop),Ok X.K B F H σ ρ ->
 (∀F' H',Ext ⟨F,H⟩ F' H'->Q b H')->wW X e σ H Q
def Pl(e:Expr):Prop:=∀(es:List Expr) (env:Env),starEach (e::es) env=(false,eval e env)::starEach es env
def T6:List Expr->Prop
 |[]=>True
 |e::es=>Pl e/\T6 es
theorem T6.any{env:Env}:∀{es:List Expr},T6 es->(backTo pos (starEach es env)).any (·.1)=false
 |[],_=>rfl
 |e::es,h=>by
  rw[h.1 es env]
  show(false||(backTo pos (starEach es env)).any (·.1))=false
  rw[T6.any h.2];rfl
def Q2(X:Cx)(ρ:cp)(es:List Expr)(ds:List D):Prop:=T6 es/\∀(B:B0) (F H:Hp) (σ:St) (Q:List V->Hp->Prop),Ok X.K B F H σ ρ ->
 (∀vs F' H',Ext ⟨F,H⟩ F' H'->Qq X.K F' vs ds->Q vs H')->wA X es σ H Q
def G4(X:Cx)(ρ:cp)(e:Option Expr)(o:Option Int):Prop:=∀(B:B0) (F H:Hp) (σ:St) (Q:Option Int->Hp->Prop),Ok X.K B F H σ ρ ->
 (∀F' H',Ext ⟨F,H⟩ F' H'->Q o H')->wO X e σ H Q
inductive Out where
 |nx (ρ:cp) | rt (d:D)
def SW(K:PySem.W.Frag)(B:B0)(F₀:Hp)(E:kx):Out->Prop
 |.nx ρ=>∀F H σ,Ok K B F H σ ρ->Qx F₀ F->E.nx σ H
 |.rt d=>∀v F H,Ext B F H->Rep K F v d->E.rt v H
theorem SW.later{K:PySem.W.Frag}(h:SW K B F₀ E o)(s:Qx F₀ F₁):SW K B F₁ E o:=by
 cases o with
 |nx ρ=>exact fun F H σ k s'=>h F H σ k (s.trans s')
 |rt d=>exact h
def QQ(X:Cx)(ρ:cp)(st:Stmt)(o:Out):Prop:=∀(B:B0) (F H:Hp) (σ:St) (E:kx),Ok X.K B F H σ ρ->SW X.K B F E o->wS X st E σ H
def Qr(X:Cx)(ρ:cp)(S3:List Stmt)(o:Out):Prop:=∀(B:B0) (F H:Hp) (σ:St) (E:kx),Ok X.K B F H σ ρ->SW X.K B F E o->wSs X S3 E σ H
def TY(X:Cx)(ρ:cp)(tg:Expr)(d:D)(ρ':cp):Prop:=∀(B:B0) (F H:Hp) (σ:St) (v:V) (Q:St->Hp->Prop),Ok X.K B F H σ ρ->Rep X.K F v d ->
 (∀F' H' σ',Ok X.K B F' H' σ' ρ'->Qx F F'->Q σ' H')->wG X tg v σ H Q
def Tj(X:Cx)(ρ:cp)(tg:Expr)(d:D)(ρ':cp):Prop:=∀(B:B0) (F H:Hp) (σ:St) (v:V) (Q:St->Hp->Prop),Ok X.K B F H σ ρ->Rep X.K F v d ->
 (∀σ',Ok X.K B F H σ' ρ'->(∀p,QS σ ρ p->QS σ' ρ' p)->Q σ' H)->wG X tg v σ H Q
theorem Ext.t{H:Hp}(x:Ext ⟨F,H⟩ F' H')(y:Ext ⟨F',H'⟩ F2 H2):Ext ⟨F,H⟩ F2 H2:=x.trans y
section
theorem Qp.of(h:PE X e t)(r:∀(B:B0) (F H:Hp) (σ:St) (Q:VK),Ok X.K B F H σ ρ->(∀v F' H',Ext ⟨F,H⟩ F' H'->Rep X.K F' v d->Q v H')->t σ H Q):Qp X ρ e d:=
 fun B F H σ Q k q=>.mk fun pins s I=>h pins s σ H Q I (r B F H σ Q k q)
theorem QJ.of(h:PE X e t)(r:∀(B:B0) (F H:Hp) (σ:St) (Q:VK),Ok X.K B F H σ ρ ->
  (∀p vs F' H',Ext ⟨F,H⟩ F' H'->H p=none->H' p=some (.lst vs)->F' p=none->Qq X.K F' vs xs->Q (.ref p) H')->t σ H Q):QJ X ρ e xs:=
 fun B F H σ Q k q=>.mk fun pins s I=>h pins s σ H Q I (r B F H σ Q k q)
theorem Sw.of(h:PE X e t)(r:∀(B:B0) (F H:Hp) (σ:St) (Q:VK),Ok X.K B F H σ ρ ->
  (∀a vs F' H',Ext ⟨F,H⟩ F' H'->UJ X.K k H' a vs->Qq X.K F' vs xs->Q (.ref a) H')->t σ H Q):Sw X ρ e k xs:=
 fun B F H σ Q k q=>.mk fun pins s I=>h pins s σ H Q I (r B F H σ Q k q)
theorem Qs.of{t:TT}(h:PT X e t)(r:∀(B:B0) (F H:Hp) (σ:St) (Q:Bool->Hp->Prop),Ok X.K B F H σ ρ->(∀F' H',Ext ⟨F,H⟩ F' H'->Q b H')->t σ H Q):Qs X ρ e b:=
 fun B F H σ Q k q=>.mk fun pins s I=>h pins s σ H Q I (r B F H σ Q k q)
theorem RJ.of{t:TT}(h:PW X e t)(r:∀(B:B0) (F H:Hp) (σ:St) (Q:Bool->Hp->Prop),Ok X.K B F H σ ρ->(∀F' H',Ext ⟨F,H⟩ F' H'->Q b H')->t σ H Q):RJ X ρ e b:=
 fun B F H σ Q k q=>.mk fun wh pins s I=>h wh pins s σ H Q I (r B F H σ Q k q)
theorem QQ.of{st:Stmt}(h:PS X st t)(r:∀(B:B0) (F H:Hp) (σ:St) (E:kx),Ok X.K B F H σ ρ->SW X.K B F E o->t E σ H):QQ X ρ st o:=
 fun B F H σ E k q=>.mk fun pins s I=>h pins s σ H E I (r B F H σ E k q)
theorem Qr.of(h:Uk X S3 t)(r:∀(B:B0) (F H:Hp) (σ:St) (E:kx),Ok X.K B F H σ ρ->SW X.K B F E o->t E σ H):Qr X ρ S3 o:=
 fun B F H σ E k q=>.mk fun pins s I=>h pins s σ H E I (r B F H σ E k q)
theorem TY.of(h:PG X e t)(r:∀(B:B0) (F H:Hp) (σ:St) (v:V) (Q:St->Hp->Prop),Ok X.K B F H σ ρ->Rep X.K F v d->(∀F' H' σ',Ok X.K B F' H' σ' ρ'->Qx F F'->Q σ' H')->t v σ H Q):TY X ρ e d ρ':=
 fun B F H σ v Q k rv q=>.mk fun pins s u I ru=>h pins s σ H v u Q I ru (r B F H σ v Q k rv q)
theorem Tj.of(h:PG X e t)(r:∀(B:B0) (F H:Hp) (σ:St) (v:V) (Q:St->Hp->Prop),Ok X.K B F H σ ρ->Rep X.K F v d->(∀σ',Ok X.K B F H σ' ρ'->(∀p,QS σ ρ p->QS σ' ρ' p)->Q σ' H)->t v σ H Q):Tj X ρ e d ρ':=
 fun B F H σ v Q k rv q=>.mk fun pins s u I ru=>h pins s σ H v u Q I ru (r B F H σ v Q k rv q)
theorem QS.QN(h:QS σ ρ p)(i:Nat)(v:Option V)(d:D):QS (σ.set i v) (ρ.set i (.val d)) p:=fun j xs e q=>by
 by_cases hj:i=j
 ·subst hj
  rw[bN] at e
  cases z:ρ[i]? with
  |none=>rw[z] at e;cases e
  |some w=>rw[z] at e;cases e
 ·rw[av hj] at e q
  exact h j xs e q
theorem Ext.freeze{H:Hp}{p:Addr}(x:Ext ⟨F,H⟩ F' H')(h0:H p=none)(hp:H' p=some (.lst vs))(hf:F' p=none):Ext ⟨F,H⟩ (cA F' p (.lst vs)) H':=
 ⟨fun b u q=>by
  by_cases h:b=p
  ·subst h;rw[aK] at q;cases q;exact hp
  ·rw[aJ h] at q;exact x.sub b u q,x.sh,x.sf.trans (aP hf),fun a q=>by
  by_cases h:a=p
  ·subst h;exact .inr h0
  ·rw[aJ h] at q;exact x.nw a q⟩
theorem QJ.Rc(h:QJ X ρ e xs):Qp X ρ e (.lst xs):=fun B F H σ Q k q=>
 h B F H σ Q k fun p vs F' H' x h0 hp hf r=>q _ _ _ (x.freeze h0 hp hf) (.lst aK (r.mono (aP hf)))
theorem UJ.mono{K:PySem.W.Frag}(s:Qx H H')(h:UJ K k H a vs):UJ K k H' a vs:=by
 cases k with
 |true=>exact s.seq h
 |false=>
  have h':RB K H a vs:=h
  show RB K H' a vs
  rcases h' with(h | ⟨o,h⟩) | h
  ·exact .inl (.inl (s _ _ h))
  ·exact .inl (.inr ⟨o,s _ _ h⟩)
  ·exact .inr h
theorem Qp.ql(h:Qp X ρ e (.lst xs)):Sw X ρ e true xs:=fun B F H σ Q k q=>
 h B F H σ Q k fun v F' H' x r=>by
  cases r with
  |lst hf rl=>exact q _ _ _ _ x (show Q1 _ _ _ _ from Q1.of (x.sub _ _ hf)) rl
theorem Qp.qt(h:Qp X ρ e (.tup xs)):Sw X ρ e false xs:=fun B F H σ Q k q=>
 h B F H σ Q k fun v F' H' x r=>by
  cases r with
  |tup hf rl=>exact q _ _ _ _ x (show RB _ _ _ _ from RB.of (x.sub _ _ hf)) rl
theorem Qp.qs(h:Qp X ρ e (.R8 ns)):Sw X ρ e true (ns.map D.int):=fun B F H σ Q k q=>
 h B F H σ Q k fun v F' H' x r=>by
  cases r with
  |R8 hs=>exact q _ _ _ _ x (show Q1 _ _ _ _ from x.sub.seq hs) (Qq.ints ns)
theorem QJ.toQ(h:QJ X ρ e xs):Sw X ρ e true xs:=h.Rc.ql
structure At(X:Cx)(N:List Str)(sc:Scope):Prop where
 eN:X.N=N
 eS:X.env.scope=sc
 calm:X.calm=true
 nd:X.N.Nodup
 Tx:X.xe=fun _ _=>False
 un:X.A.units+64<cLine
 dp:X.A.depth+100<recursionLimit
 tree:X.prog.given.tree=none
 fr:∃env l,X.stack=env::l/\env.scope.isGenerator=false/\env.scope.isCoroutine=false/\env.builtins=builtinsNs/\env.globals=mainGlobals
structure VQ(X:Cx)(N:List Str)(sc:Scope):Prop where
 eN:X.N=N
 eS:X.env.scope=sc
 nd:X.N.Nodup
 Tx:X.xe=fun _ _=>False
 un:X.A.units+64<cLine
 dp:X.A.depth+100<recursionLimit
 tree:X.prog.given.tree=none
 fr:∃env l,X.stack=env::l/\env.scope.isGenerator=false/\env.scope.isCoroutine=false/\env.builtins=builtinsNs/\env.globals=mainGlobals
theorem At.z(t:At X N sc):VQ X N sc:=⟨t.eN,t.eS,t.nd,t.Tx,t.un,t.dp,t.tree,t.fr⟩
theorem VQ.at(t:VQ X N sc)(h:X.calm=true):At X N sc:=⟨t.eN,t.eS,h,t.nd,t.Tx,t.un,t.dp,t.tree,t.fr⟩
def NH(A:Around)(H:Hp):Prop:=∃(ea:Addr) (oe:Obj) (u:HO) (vs:Array Value),A.handled=some (.ref ea)/\H ea=some (.RH oe u)/\oe.data=.fields vs/\vs[2]?=some .none
class Th (X:Cx):Prop where
 fn:∀x,X.fn x=true
theorem At.pass(a:At X N sc):PassesOwn (model X.prog X.w) X.A X.env X.xe:=by rw[a.Tx];exact PassesOwn.never
def dW(sc:Scope)(x:Str):Bool:=match sc.names.lookup x with
 |some .local=>true
 |some .cell=>true
 |some .free=>true
 |_=>false
def ku(sc:Scope)(x:Str):Bool:=match sc.names.lookup x with
 |some .local=>true
 |some .cell=>true
 |_=>false
theorem JN{x:Str}(h:dW sc x=true):Nz sc x:=by
 unfold dW at h
 cases e:sc.names.lookup x with
 |none=>rw[e] at h;cases h
 |some k=>
  rw[e] at h
  cases k<;>first | exact .inl e | exact .inr (.inl e) | exact .inr (.inr e) | cases h
theorem KO{x:Str}(h:ku sc x=true):LO sc x:=by
 unfold ku at h
 cases e:sc.names.lookup x with
 |none=>rw[e] at h;cases h
 |some k=>
  rw[e] at h
  cases k<;>first | exact .inl e | exact .inr e | cases h
def cg(x:Str):Bool:=!(x==("__debug__" : Str)) && !(x==("__classdict__" : Str))
theorem su{i:Nat}(t:At X N sc)(hN:N[i]?=some x)(hv:dW sc x=true)(hx:cg x=true):PE X (.Name x pos) (Mr i):=by
 unfold cg at hx
 rw[dM,Bool.not_eq_true',Bool.not_eq_true'] at hx
 exact Km (by rw[t.eN];exact hN) (by rw[t.eS];exact JN hv) hx.1 hx.2
theorem aa{ρ:cp}(t:At X N sc)(i:Nat)(hr:ρ[i]?=some (.val d))(hN:N[i]?=some x:=by rfl)(hv:dW sc x=true:=by rfl)(hx:cg x=true:=by rfl):Qp X ρ (.Name x pos) d:=
 .of (su t hN hv hx) fun B F H σ Q k q=>by
  obtain⟨v,h1,h2⟩:=k.vals i d hr
  exact⟨v,h1,q v F H (.refl k.sub) h2⟩
theorem eL{ρ:cp}(t:At X N sc)(i:Nat)(hr:ρ[i]?=some (.own xs))(hN:N[i]?=some x:=by rfl)(hv:dW sc x=true:=by rfl)(hx:cg x=true:=by rfl):Sw X ρ (.Name x pos) true xs:=
 .of (su t hN hv hx) fun B F H σ Q k q=>by
  obtain⟨p,vs,h1,h2,h3,h4,h5⟩:=k.Rj i xs hr
  exact⟨_,h1,q p vs F H (.refl k.sub) (show Q1 _ _ _ _ from Q1.of h2) h5⟩
theorem ag:Qp X ρ (.Constant (.int i) j pos) (.int i):=.of Fo fun B F H σ Q k q=>q _ F H (.refl k.sub) (.int i)
theorem Ar:Qp X ρ (.Constant (.bool b) j pos) (.bl b):=.of MQ fun B F H σ Q k q=>q _ F H (.refl k.sub) (.bl b)
theorem Qo:Qp X ρ (.Constant (.str x) j pos) (.str x):=.of Bp fun B F H σ Q k q=>q _ F H (.refl k.sub) (.str x)
theorem two{X:Cx}{ρ:cp}{a:Expr}{b:Expr}{da db:D}(ha:Qp X ρ a da)(hb:Qp X ρ b db){B:B0}{F H:Hp}{σ:St}{R:V->V->Hp->Prop}(k:Ok X.K B F H σ ρ)(h:∀x y F' H',Ext ⟨F,H⟩ F' H'->Rep X.K F' x da->Rep X.K F' y db->R x y H'):wE X a σ H fun x H1=>wE X b σ H1 fun y H2=>R x y H2:=
 ha B F H σ _ k fun x F1 H1 x1 r1=>hb B F1 H1 σ _ (k.ext x1) fun y F2 H2 x2 r2=>h x y F2 H2 (x1.t x2) (r1.mono x2.sf) r2
theorem uz{i j m:Int}{C:Int->Int->Prop}{g:Int->Int->Int}(ho:nb X (binaryOp op) (rI C fun i j=>.int (g i j)))(ha:Qp X ρ a (.int i))(hb:Qp X ρ b (.int j))(hc:C i j)(hm:g i j=m):
  Qp X ρ (.BinOp a op b pos) (.int m):=
 .of (qT ho aV aV) fun B F H σ Q k q=>two ha hb k fun x y F' H' x' rx ry=>by
  cases rx;cases ry;subst hm
  exact⟨i,j,rfl,rfl,hc,q _ F' H' x' (.int _)⟩
theorem vF{i j m:Int}{g:Int->Int->Int}(ho:nb X (binaryOp op) (G0 fun i j=>.int (g i j)))(ha:Qp X ρ a (.int i))(hb:Qp X ρ b (.int j))(hm:g i j=m):
  Qp X ρ (.BinOp a op b pos) (.int m):=
 .of (qT ho aV aV) fun B F H σ Q k q=>two ha hb k fun x y F' H' x' rx ry=>by
  cases rx;cases ry;subst hm
  exact⟨i,j,rfl,rfl,q _ F' H' x' (.int _)⟩
theorem cQ(ha:Qp X ρ a (.int i))(hb:Qp X ρ b (.int j)):Qp X ρ (.BinOp a .Add b pos) (.int (i+j)):=vF Kz ha hb rfl
theorem eJ(ha:Qp X ρ a (.int i))(hb:Qp X ρ b (.int j)):Qp X ρ (.BinOp a .Sub b pos) (.int (i-j)):=vF Ks ha hb rfl
theorem HS:nb X (binaryOp .Mult) (rI IntMulOk fun i j=>.int (i*j)):=MU fun _ _ _ _ _ _ _ hc q=>mul_int q hc
theorem At.V4(t:At X N sc)(I:Inv X pins σ H s):PylongRoom (model X.prog X.w) X.A s:=by
 obtain⟨env,l,h1,h2,h3,h4,h5⟩:=t.fr
 exact PylongRoom.of I.nolimit t.dp (SeerAt.of (I.ok.mod.seer.keeps I.bk) t.tree (by rw[I.ok.frames,h1]) h2 h3 h4 h5)
theorem HU(t:At X N sc):nb X (binaryOp .FloorDiv) (rI (fun _ j=>j≠0) fun i j=>.int (i.fdiv j)):=by
 intro pins s σ H x y v u Q I rx ry h
 obtain⟨i,j,rfl,rfl,hc,q⟩:=h
 obtain⟨t1,rfl⟩:=rx
 obtain⟨t2,rfl⟩:=ry
 exact floordiv_int hc ⟨.int (i.fdiv j),H,I.tok _,⟨_,rfl⟩,q⟩ (.inr (t.V4 I))
theorem k7(ha:Qp X ρ a (.int i))(hb:Qp X ρ b (.int j))(hc:IntMulOk i j):Qp X ρ (.BinOp a .Mult b pos) (.int (i*j)):=uz HS ha hb hc rfl
theorem rJ(t:At X N sc)(ha:Qp X ρ a (.int i))(hb:Qp X ρ b (.int j))(h0:0<j):Qp X ρ (.BinOp a .FloorDiv b pos) (.int (i / j)):=
 uz (HU t) ha hb (by omega) (Int.fdiv_eq_ediv_of_nonneg i (by omega))
theorem bU(ha:Qp X ρ a (.int i))(hb:Qp X ρ b (.int j))(h0:0<j):Qp X ρ (.BinOp a .Mod b pos) (.int (i%j)):=uz Kv ha hb h0 rfl
theorem FX(ha:Qp X ρ a (.int i))(hb:Qp X ρ b (.int j))(h0:NM i j):Qp X ρ (.BinOp a .Pow b pos) (.int (i ^ j.toNat)):=uz Ku ha hb h0 rfl
theorem eO(ha:Qp X ρ a (.int i)):Qp X ρ (.UnaryOp .USub a pos) (.int (-i)):=
 .of (MP JQ aV) fun B F H σ Q k q=>ha B F H σ _ k fun x F' H' x' rx=>by
  cases rx
  exact⟨i,rfl,q _ F' H' x' (.int _)⟩
theorem Iy{i j:Int}{op:CmpOp}{g:Int->Int->Bool}(ho:nb X (compareOp op) (G0 fun i j=>.bl (g i j)))(ha:Qp X ρ a (.int i))(hb:Qp X ρ b (.int j))(hm:behindInMarks op b=false):Qp X ρ (.Compare a [op] [b] pos) (.bl (g i j)):=
 .of (ur ho aV aV hm) fun B F H σ Q k q=>two ha hb k fun x y F' H' x' rx ry=>by
  cases rx;cases ry
  exact⟨i,j,rfl,rfl,q _ F' H' x' (.bl _)⟩
theorem JC(ha:Qp X ρ a (.int i))(hb:Qp X ρ b (.int j)):Qp X ρ (.Compare a [.Gt] [b] pos) (.bl (decide (j<i))):=Iy Jp ha hb (dH _ (by decide) (by decide))
end
mutual
def fg:D->PyData
 |.QO=>.none
 |.bl b=>.bool b
 |.int i=>.int i
 |.str x=>.str x
 |.tup xs=>.tuple (QA xs)
 |.lst xs=>.list (QA xs)
 |.R8 ns=>.list (ns.map PyData.int)
 |.exc _=>.dict []
 |.UO _ _=>.dict []
 |.QM _=>.dict []
 |.adr _=>.dict []
 |.SA _=>.dict []
def QA:List D->List PyData
 |[]=>[]
 |d::ds=>fg d::QA ds
end
theorem zG(xs:List D):QA xs=xs.map fg:=by
 induction xs with
 |nil=>rfl
 |cons d ds ih=>rw[QA,ih,aS]
theorem ir(ns:List Int):QA (ns.map D.int)=ns.map PyData.int:=by
 rw[zG,cD];rfl
section
theorem xh{s:Shared}:∀{ns:List Int} {us:List Value},Vals (ns.map V.int) us->∃as,ReadsAll s.heap us (ns.map PyData.int) as
 |[],_,r=>by cases r;exact⟨_,.nil⟩
 |n::ns,_,r=>by
  rw[aS] at r
  cases r with
  |cons r1 r2=>
   obtain⟨as,h⟩:=xh r2
   obtain⟨t,rfl⟩:=r1
   exact⟨_,.cons (Reads.int n t) h⟩
mutual
theorem Rep.reads(I:Inv X pins σ H s)(sub:Qx F H):∀{v:V} {d:D} {u:Value},Rep X.K F v d->RelV v u->(fg d).canLay0=true->∃as,Reads s.heap u (fg d) as
 |_,_,u,.QO,r,hs=>by cases(show u=Value.none from r);exact⟨_,Reads.none⟩
 |_,_,u,.bl b,r,hs=>by cases(show u=Value.bool b from r);exact⟨_,Reads.bool b⟩
 |_,_,u,.int i,r,hs=>by obtain⟨t,e⟩:=(show ∃t,u=Value.int i t from r);cases e;exact⟨_,Reads.int i t⟩
 |_,_,u,.str x,r,hs=>by obtain⟨t,e⟩:=(show ∃t,u=Value.str x t from r);cases e;exact⟨_,Reads.str x t⟩
 |_,_,u,.tup (a:=a) h rl,r,hs=>by
  cases(show u=Value.ref a from r)
  obtain⟨its,rv,p,_⟩:=I.tuple (RB.of (sub _ _ h))
  obtain⟨o,e,c,n,dt⟩:=p
  obtain⟨as,ra⟩:=Qq.reads I sub rl rv (by simpa [fg,PyData.canLay0] using hs)
  exact⟨_,Reads.tuple e c dt (by simpa using ra)⟩
 |_,_,u,.lst (a:=a) h rl,r,hs=>by
  cases(show u=Value.ref a from r)
  obtain⟨its,rv,p,_⟩:=I.list (Q1.of (sub _ _ h))
  obtain⟨o,e,c,n,dt⟩:=p.isList
  obtain⟨as,ra⟩:=Qq.reads I sub rl rv (by simpa [fg,PyData.canLay0] using hs)
  exact⟨_,Reads.list e c dt (by simpa using ra)⟩
 |_,_,u,.exc h,r,hs=>by simp[fg,PyData.canLay0] at hs
 |_,_,u,.UO h,r,hs=>by simp[fg,PyData.canLay0] at hs
 |_,_,u,.QM h _,r,hs=>by simp[fg,PyData.canLay0] at hs
 |_,_,u,.adr _,r,hs=>by simp[fg,PyData.canLay0] at hs
 |_,_,u,.SA _,r,hs=>by simp[fg,PyData.canLay0] at hs
 |_,_,u,.R8 (a:=a) h,r,hs=>by
  cases(show u=Value.ref a from r)
  obtain⟨its,rv,p,_⟩:=I.list (sub.seq h)
  obtain⟨o,e,c,n,dt⟩:=p.isList
  obtain⟨as,ra⟩:=xh (s:=s) rv
  exact⟨_,Reads.list e c dt (by simpa using ra)⟩
theorem Qq.reads(I:Inv X pins σ H s)(sub:Qx F H):∀{vs:List V} {ds:List D} {us:List Value},Qq X.K F vs ds->Vals vs us->PyData.canLayAll0 (QA ds)=true->∃as,ReadsAll s.heap us (QA ds) as
 |_,_,_,.nil,r,hs=>by cases r;exact⟨_,.nil⟩
 |_,_,_,.cons r1 r2,r,hs=>by
  cases r with
  |cons q1 q2=>
   rw[QA,PyData.canLayAll0,dM] at hs
   have UG:=hs
   obtain⟨as,h1⟩:=Rep.reads I sub r1 q1 UG.1
   obtain⟨bs,h2⟩:=Qq.reads I sub r2 q2 UG.2
   exact⟨_,.cons h1 h2⟩
end
theorem UJ.reads(I:Inv X pins σ H s)(sub:Qx F H)(h:UJ X.K k H a vs)(r:Qq X.K F vs xs)(hs:(if k=true then PyData.list (QA xs) else .tuple (QA xs)).canLay0=true):∃as,Reads s.heap (.ref a) (if k=true then PyData.list (QA xs) else .tuple (QA xs)) as:=by
 cases k with
 |true=>
  obtain⟨its,rv,p,_⟩:=I.list (show Q1 _ _ _ _ from h)
  obtain⟨o,e,c,n,dt⟩:=p.isList
  obtain⟨as,ra⟩:=Qq.reads I sub r rv (by simpa [PyData.canLay0] using hs)
  exact⟨_,Reads.list e c dt (by simpa using ra)⟩
 |false=>
  obtain⟨its,rv,p,_⟩:=I.tuple (show RB _ _ _ _ from h)
  obtain⟨o,e,c,n,dt⟩:=p
  obtain⟨as,ra⟩:=Qq.reads I sub r rv (by simpa [PyData.canLay0] using hs)
  exact⟨_,Reads.tuple e c dt (by simpa using ra)⟩
end
def TF(X:Cx)(H:Hp)(v:V)(p:PyData):Prop:=p.canLay0=true->∀(H':Hp),Qx H H'->∀(pins:List (Addr×Obj)) (σ:St) (s:Shared) (u:Value),Inv X pins σ H' s->RelV v u->∃as,Reads s.heap u p as
def B3(X:Cx)(ρ:cp)(e:Expr)(p:PyData):Prop:=∀(B:B0) (F H:Hp) (σ:St) (Q:VK),Ok X.K B F H σ ρ->(∀v F' H',Ext ⟨F,H⟩ F' H'->TF X H' v p->Q v H')->wE X e σ H Q
section
theorem Qp.p(h:Qp X ρ e d):B3 X ρ e (fg d):=fun B F H σ Q k q=>h B F H σ Q k fun v F' H' x r=>q v F' H' x fun hs H2 s2 pins σ s u I ru=>r.reads I (x.sub.trans s2) ru hs
theorem Sw.p(h:Sw X ρ e k xs):B3 X ρ e (if k=true then PyData.list (QA xs) else .tuple (QA xs)):=fun B F H σ Q k' q=>h B F H σ Q k' fun a vs F' H' x hs r=>q _ F' H' x fun hc H2 s2 pins σ s u I ru=>by
 cases(show u=Value.ref a from ru)
 exact UJ.reads I (x.sub.trans s2) (hs.mono s2) r hc
theorem Cv{p q:PyData}(t:At X N sc)(sp:SeqAt.shaped p=true)(sq:SeqAt.shaped q=true):nb X (compareOp .Eq) (fun x y H Q=>TF X H x p/\TF X H y q/\Q (.bl (p.eqv q)) H):=by
 intro pins s σ H x y v u Q I rx ry h
 obtain⟨h1,h2,h3⟩:=h
 obtain⟨as,r1⟩:=h1 (nh sp) H (.refl _) pins σ s v I rx
 obtain⟨bs,r2⟩:=h2 (nh sq) H (.refl _) pins σ s u I ry
 exact eq_dataH r1 r2 sp sq t.un ⟨.bl _,H,I,rfl,h3⟩
theorem E8{p q:PyData}(t:At X N sc)(sp:SeqAt.shaped p=true)(sq:SeqAt.shaped q=true):nb X (compareOp .NotEq) (fun x y H Q=>TF X H x p/\TF X H y q/\Q (.bl (!p.eqv q)) H):=by
 intro pins s σ H x y v u Q I rx ry h
 obtain⟨h1,h2,h3⟩:=h
 obtain⟨as,r1⟩:=h1 (nh sp) H (.refl _) pins σ s v I rx
 obtain⟨bs,r2⟩:=h2 (nh sq) H (.refl _) pins σ s u I ry
 exact ne_dataH r1 r2 sp sq t.un ⟨.bl _,H,I,rfl,h3⟩
theorem TF.mono(h:TF X H v p)(s:Qx H H'):TF X H' v p:=fun hc H2 s2=>h hc H2 (s.trans s2)
theorem zD(ha:B3 X ρ a p)(hb:B3 X ρ b q){R:V->V->Hp->Prop}(k:Ok X.K B F H σ ρ)(h:∀x y F' H',Ext ⟨F,H⟩ F' H'->TF X H' x p->TF X H' y q->R x y H'):wE X a σ H fun x H1=>wE X b σ H1 fun y H2=>R x y H2:=
 ha B F H σ _ k fun x F1 H1 x1 r1=>hb B F1 H1 σ _ (k.ext x1) fun y F2 H2 x2 r2=>h x y F2 H2 (x1.t x2) (r1.mono x2.sh) r2
theorem F8{r:Bool}(t:At X N sc)(ha:B3 X ρ a p)(hb:B3 X ρ b q)(sp:SeqAt.shaped p=true)(sq:SeqAt.shaped q=true)(hr:p.eqv q=r):Qp X ρ (.Compare a [.Eq] [b] pos) (.bl r):=
 .of (ur (Cv t sp sq) aV aV (dH _ (by decide) (by decide))) fun B F H σ Q k q=>zD ha hb k fun x y F' H' x' rx ry=>⟨rx,ry,by rw[hr];exact q _ F' H' x' (.bl r)⟩
theorem BG{r:Bool}(t:At X N sc)(ha:B3 X ρ a p)(hb:B3 X ρ b q)(sp:SeqAt.shaped p=true)(sq:SeqAt.shaped q=true)(hr:(!p.eqv q)=r):Qp X ρ (.Compare a [.NotEq] [b] pos) (.bl r):=
 .of (ur (E8 t sp sq) aV aV (dH _ (by decide) (by decide))) fun B F H σ Q k q=>zD ha hb k fun x y F' H' x' rx ry=>⟨rx,ry,by rw[hr];exact q _ F' H' x' (.bl r)⟩
theorem Qq.at{K:PySem.W.Frag}{i:Int}(r:Qq K F vs xs)(h:l8 xs i=some d):∃v,l8 vs i=some v/\Rep K F v d:=by
 unfold l8 at h ⊢
 rw[r.length]
 cases e:CU xs.length i with
 |none=>rw[e] at h;cases h
 |some j=>
  rw[e] at h
  obtain⟨v,h1,h2⟩:=r.get h
  exact⟨v,h1,h2⟩
theorem qe(ha:Sw X ρ a k xs)(hb:Qp X ρ b db){R:V->V->Hp->Prop}(k':Ok X.K B F H σ ρ)(h:∀l vs y F' H',Ext ⟨F,H⟩ F' H'->UJ X.K k H' l vs->Qq X.K F' vs xs->Rep X.K F' y db->R (.ref l) y H'):wE X a σ H fun x H1=>wE X b σ H1 fun y H2=>R x y H2:=
 ha B F H σ _ k' fun l vs F1 H1 x1 s1 r1=>hb B F1 H1 σ _ (k'.ext x1) fun y F2 H2 x2 r2=>h l vs y F2 H2 (x1.t x2) (s1.mono x2.sh) (r1.mono x2.sf) r2
theorem bW(ha:Sw X ρ a k xs)(hb:Qp X ρ b (.int i))(h:l8 xs i=some d)(hs:iV b:=by intro _ _;rfl):Qp X ρ (.Subscript a b pos) d:=by
 cases k with
 |true=>
  exact .of (vb CS aV aV hs) fun B F H σ Q k' q=>qe ha hb k' fun l vs y F' H' x' sl rl ry=>by
   cases ry
   obtain⟨v,h1,h2⟩:=rl.at h
   exact⟨l,vs,i,v,rfl,rfl,sl,h1,q v F' H' x' h2⟩
 |false=>
  exact .of (vb K1 aV aV hs) fun B F H σ Q k' q=>qe ha hb k' fun l vs y F' H' x' sl rl ry=>by
   cases ry
   obtain⟨v,h1,h2⟩:=rl.at h
   exact⟨l,vs,i,v,rfl,rfl,sl,h1,q v F' H' x' h2⟩
theorem eM:G4 X ρ none none:=fun B F H σ Q k q=>.mk fun pins s I=>HM pins s σ H Q I (q F H (.refl k.sub))
theorem fQ(h:Qp X ρ e (.int i)):G4 X ρ (some e) (some i):=fun B F H σ Q k q=>.mk fun pins s I=>yb aV pins s σ H Q I (h B F H σ _ k fun v F' H' x r=>by
 cases r
 exact⟨i,rfl,q F' H' x⟩)
def cutD(xs:List D)(lo hi:Option Int):List D:=(xs.drop (HT.QH xs.length 0 lo)).take (HT.QH xs.length xs.length hi-HT.QH xs.length 0 lo)
theorem Qq.cut{K:PySem.W.Frag}(r:Qq K F vs xs)(lo hi:Option Int):Qq K F (Az vs lo hi) (cutD xs lo hi):=by
 unfold Az cutD
 rw[r.length]
 exact(r.drop _).take _
theorem hJ{lo hi:Option Expr}{l h:Option Int}(ha:Sw X ρ a true xs)(hl:G4 X ρ lo l)(hh:G4 X ρ hi h):QJ X ρ (.Subscript a (.Slice lo hi none p2) pos) (cutD xs l h):=
 .of (qS Ho aV DL DL) fun B F H σ Q k q=>ha B F H σ _ k fun p vs F1 H1 x1 s1 r1=>hl B F1 H1 σ _ (k.ext x1) fun F2 H2 x2=>hh B F2 H2 σ _ (k.ext (x1.t x2)) fun F3 H3 x3=>by
  have x:=x1.t (x2.t x3)
  refine⟨p,vs,rfl,(s1.mono x2.sh).mono x3.sh,fun l' Wg=>?_⟩
  have r3:=(r1.mono x2.sf).mono x3.sf
  exact q l' _ F3 _ ⟨x.sub.trans (aP Wg),x.sh.trans (aP Wg),x.sf,x.nw⟩ (x.sh.free Wg) aK (x.sub.free Wg) (r3.cut l h)
theorem Iw{lo hi:Option Expr}{l h:Option Int}(ha:Sw X ρ a false xs)(hl:G4 X ρ lo l)(hh:G4 X ρ hi h)(hw:¬(HT.QH xs.length 0 l=0/\HT.QH xs.length xs.length h=xs.length)):
  Qp X ρ (.Subscript a (.Slice lo hi none p2) pos) (.tup (cutD xs l h)):=
 .of (qS J3 aV DL DL) fun B F H σ Q k q=>ha B F H σ _ k fun p vs F1 H1 x1 s1 r1=>hl B F1 H1 σ _ (k.ext x1) fun F2 H2 x2=>hh B F2 H2 σ _ (k.ext (x1.t x2)) fun F3 H3 x3=>by
  have x:=x1.t (x2.t x3)
  have r3:=(r1.mono x2.sf).mono x3.sf
  refine⟨p,vs,rfl,(s1.mono x2.sh).mono x3.sh,by rw[r3.length];exact hw,fun l' Wg=>?_⟩
  exact q _ _ _ (x.grow Wg) (.tup aK ((r3.cut l h).mono (aP (x.sub.free Wg))))
theorem aj:Q2 X ρ [] []:=⟨trivial,fun B F H σ Q k q=>.mk fun pos pins s I=>cO pos pins s σ H Q I (q [] F H (.refl k.sub) .nil)⟩
theorem ab{ds:List D}(h1:Qp X ρ e d)(h2:Q2 X ρ es ds)(hs:Pl e:=by intro _ _;rfl):Q2 X ρ (e::es) (d::ds):=
 ⟨⟨hs,h2.1⟩,fun B F H σ Q k q=>.mk fun pos pins s I=>bo aV nI (hs _ _) pos pins s σ H Q I (h1 B F H σ _ k fun v F1 H1 x1 r1=>h2.2 B F1 H1 σ _ (k.ext x1) fun vs F2 H2 x2 r2=>q _ F2 H2 (x1.t x2) (.cons (r1.mono x2.sf) r2))⟩
theorem aT{ds:List D}(h:Q2 X ρ es ds)(hl:ds.length<=sizeLine:=by exact cX rfl):Qp X ρ (.Tuple es x1 pos) (.tup ds):=
 .of (Bo nI) fun B F H σ Q k q=>h.2 B F H σ _ k fun vs F' H' x r=>⟨by rw[r.length];exact hl,fun p hp=>q _ _ _ (x.grow hp) (.tup aK (r.mono (aP (x.sub.free hp))))⟩
theorem bI{ds:List D}(h:Q2 X ρ es ds)(hl:ds.length<=sizeLine:=by exact cX rfl):QJ X ρ (.List es pos) ds:=
 .of (Fm nI) fun B F H σ Q k q=>h.2 B F H σ _ k fun vs F' H' x r=>⟨by rw[r.length];exact hl,fun p hp=>q p vs F' _ ⟨x.sub.trans (aP hp),x.sh.trans (aP hp),x.sf,x.nw⟩ (x.sh.free hp) aK (x.sub.free hp) r⟩
theorem yA(ha:Qp X ρ a (.lst xs))(hb:Qp X ρ b (.lst ys))(hz:xs.length+ys.length<=sizeLine):QJ X ρ (.BinOp a .Add b pos) (xs++ys):=
 .of (qT Kx aV aV) fun B F H σ Q k q=>two ha hb k fun x y F' H' x' rx ry=>by
  cases rx with
  |lst h1 r1=>
   cases ry with
   |lst h2 r2=>
    refine⟨_,_,_,_,rfl,rfl,x'.sub _ _ h1,x'.sub _ _ h2,by rw[r1.length,r2.length];exact hz,fun p hp=>?_⟩
    exact q p _ F' _ ⟨x'.sub.trans (aP hp),x'.sh.trans (aP hp),x'.sf,x'.nw⟩ (x'.sh.free hp) aK (x'.sub.free hp) (r1.append r2)
theorem Gj(ha:Qp X ρ a (.lst xs))(hb:Qp X ρ b (.int n))(h1 : -(2 ^ 63)<=n)(h2:n<2 ^ 63)(hz:xs.length*n.toNat<=sizeLine):QJ X ρ (.BinOp a .Mult b pos) (List.replicate n.toNat xs).flatten:=
 .of (qT Kt aV aV) fun B F H σ Q k q=>two ha hb k fun x y F' H' x' rx ry=>by
  cases rx with
  |lst g1 r1=>
   cases ry
   refine⟨_,n,_,rfl,rfl,x'.sub _ _ g1,h1,h2,by rw[r1.length];exact hz,fun p hp=>?_⟩
   exact q p _ F' _ ⟨x'.sub.trans (aP hp),x'.sh.trans (aP hp),x'.sf,x'.nw⟩ (x'.sh.free hp) aK (x'.sub.free hp) (r1.rep _)
theorem rA(ha:Qs X ρ a r):RJ X ρ (.BoolOp .And [a] pos) r:=.of (HG lR) fun B F H σ Q k q=>ha B F H σ Q k q
theorem nT(ha:Qs X ρ a r):RJ X ρ (.BoolOp .Or [a] pos) r:=.of (Kf lR) fun B F H σ Q k q=>ha B F H σ Q k q
theorem rm{bS:List Expr}(ha:Qs X ρ a true)(hb:RJ X ρ (.BoolOp .And (b::bS) pos) r):RJ X ρ (.BoolOp .And (a::b::bS) pos) r:=
 .of (Fa lR HF) fun B F H σ Q k q=>ha B F H σ _ k fun F1 H1 x1=>by rw[ay rfl];exact hb B F1 H1 σ _ (k.ext x1) fun F2 H2 x2=>q F2 H2 (x1.t x2)
theorem rq{bS:List Expr}(ha:Qs X ρ a false):RJ X ρ (.BoolOp .And (a::b::bS) pos) false:=
 .of (Fa lR HF) fun B F H σ Q k q=>ha B F H σ _ k fun F1 H1 x1=>by rw[aq aE];exact q F1 H1 x1
theorem kZ{bS:List Expr}(ha:Qs X ρ a false)(hb:RJ X ρ (.BoolOp .Or (b::bS) pos) r):RJ X ρ (.BoolOp .Or (a::b::bS) pos) r:=
 .of (Jn lR HF) fun B F H σ Q k q=>ha B F H σ _ k fun F1 H1 x1=>by rw[aq aE];exact hb B F1 H1 σ _ (k.ext x1) fun F2 H2 x2=>q F2 H2 (x1.t x2)
theorem sM{bS:List Expr}(ha:Qs X ρ a true):RJ X ρ (.BoolOp .Or (a::b::bS) pos) true:=
 .of (Jn lR HF) fun B F H σ Q k q=>ha B F H σ _ k fun F1 H1 x1=>by rw[ay rfl];exact q F1 H1 x1
theorem RJ.toT(h:RJ X ρ e r):Qs X ρ e r:=fun B F H σ Q k q=>.mk fun pins s I=>h B F H σ Q k q _ pins s I
theorem nU(ha:Qs X ρ a r):Qs X ρ (.UnaryOp .Not a pos) (!r):=.of (Kh lR) fun B F H σ Q k q=>ha B F H σ _ k q
theorem Lr{op:BoolOp}(h:Qp X ρ a d):Qp X ρ (.BoolOp op [a] pos) d:=.of (Kn aV) fun B F H σ Q k q=>h B F H σ Q k q
theorem Iz{bS:List Expr}(ha:Qp X ρ a (.bl true))(hb:Qp X ρ (.BoolOp .And (b::bS) pos) d):Qp X ρ (.BoolOp .And (a::b::bS) pos) d:=
 .of (Fp aV aV) fun B F H σ Q k q=>ha B F H σ _ k fun v F1 H1 x1 r=>by
  cases r
  exact⟨true,rfl,by rw[ay rfl];exact hb B F1 H1 σ _ (k.ext x1) fun v F2 H2 x2 r2=>q v F2 H2 (x1.t x2) r2⟩
theorem IA{bS:List Expr}(ha:Qp X ρ a (.bl false)):Qp X ρ (.BoolOp .And (a::b::bS) pos) (.bl false):=
 .of (Fp aV aV) fun B F H σ Q k q=>ha B F H σ _ k fun v F1 H1 x1 r=>by
  cases r
  exact⟨false,rfl,by rw[aq aE];exact q _ F1 H1 x1 (.bl false)⟩
theorem mC(hc:Qs X ρ c true)(ha:Qp X ρ a d):Qp X ρ (.IfExp c a b pos) d:=
 .of (qU lR aV aV) fun B F H σ Q k q=>hc B F H σ _ k fun F1 H1 x1=>by rw[ay rfl];exact ha B F1 H1 σ _ (k.ext x1) fun v F2 H2 x2 r2=>q v F2 H2 (x1.t x2) r2
theorem mD(hc:Qs X ρ c false)(hb:Qp X ρ b d):Qp X ρ (.IfExp c a b pos) d:=
 .of (qU lR aV aV) fun B F H σ Q k q=>hc B F H σ _ k fun F1 H1 x1=>by rw[aq aE];exact hb B F1 H1 σ _ (k.ext x1) fun v F2 H2 x2 r2=>q v F2 H2 (x1.t x2) r2
theorem Ge(ha:Qp X ρ e (.int i))(he:∀whole,isTrue e X.env whole=(do let v <-whole;standAt e.pos;holding [v] (truthy v)):=by intro _;rfl):Qs X ρ e (i != 0):=
 .of (Fb aV he) fun B F H σ Q k q=>ha B F H σ _ k fun v F1 H1 x1 r=>by
  cases r
  exact⟨_,rfl,q F1 H1 x1⟩
theorem fB(ha:Qp X ρ e (.bl r))(he:∀whole,isTrue e X.env whole=(do let v <-whole;standAt e.pos;holding [v] (truthy v)):=by intro _;rfl):Qs X ρ e r:=
 .of (Kg aV he) fun B F H σ Q k q=>ha B F H σ _ k fun v F1 H1 x1 rv=>by
  cases rv
  exact⟨r,rfl,q F1 H1 x1⟩
end
section
theorem vH{op:CmpOp}{r:R2}(ho:nb X (compareOp op) r)(ha:Qp X ρ a da)(hb:Qp X ρ b db)(hm:behindInMarks op b=false)(hr:∀(F H:Hp) x y (Q:VK),Rep X.K F x da->Rep X.K F y db->Q (.bl k) H->r x y H Q):Qs X ρ (.Compare a [op] [b] pos) k:=
 .of (fP ho aV aV hm) fun B F H σ Q k' q=>two ha hb k' fun x y F' H' x' rx ry=>hr F' H' x y _ rx ry ⟨k,rfl,q F' H' x'⟩
theorem eQ(ha:Qp X ρ a (.int i))(hb:Qp X ρ b (.int j)):Qs X ρ (.Compare a [.Lt] [b] pos) (decide (i<j)):=vH Jo ha hb (dH _ (by decide) (by decide)) fun F H x y Q rx ry q=>by cases rx;cases ry;exact⟨i,j,rfl,rfl,q⟩
theorem hV(ha:Qp X ρ a (.int i))(hb:Qp X ρ b (.int j)):Qs X ρ (.Compare a [.Gt] [b] pos) (decide (j<i)):=vH Jp ha hb (dH _ (by decide) (by decide)) fun F H x y Q rx ry q=>by cases rx;cases ry;exact⟨i,j,rfl,rfl,q⟩
theorem JD(ha:Qp X ρ a (.int i))(hb:Qp X ρ b (.int j)):Qs X ρ (.Compare a [.GtE] [b] pos) (decide (j<=i)):=vH MS ha hb (dH _ (by decide) (by decide)) fun F H x y Q rx ry q=>by cases rx;cases ry;exact⟨i,j,rfl,rfl,q⟩
theorem Av{i:Int}:decide (V.int i=V.int j)=decide (i=j):=by rw[yF,Bool.beq_eq_decide_eq]
theorem dC(ha:Qp X ρ a (.int i))(hb:Qp X ρ b (.int j)):Qs X ρ (.Compare a [.Eq] [b] pos) (decide (i=j)):=vH MT ha hb (dH _ (by decide) (by decide)) fun F H x y Q rx ry q=>by
 cases rx;cases ry;exact⟨rfl,by rw[Av];exact q⟩
theorem nV(ha:Qp X ρ a (.int i))(hb:Qp X ρ b (.int j)):Qs X ρ (.Compare a [.NotEq] [b] pos) (!decide (i=j)):=vH MR ha hb (dH _ (by decide) (by decide)) fun F H x y Q rx ry q=>by
 cases rx;cases ry;exact⟨rfl,by rw[Av];exact q⟩
theorem fJ{r:Bool}(t:At X N sc)(ha:B3 X ρ a p)(hb:B3 X ρ b q)(sp:SeqAt.shaped p=true)(sq:SeqAt.shaped q=true)(hr:p.eqv q=r):Qs X ρ (.Compare a [.Eq] [b] pos) r:=
 .of (fP (Cv t sp sq) aV aV (dH _ (by decide) (by decide))) fun B F H σ Q k q=>zD ha hb k fun x y F' H' x' rx ry=>⟨rx,ry,r,by rw[hr],q F' H' x'⟩
theorem iy{r:Bool}(t:At X N sc)(ha:B3 X ρ a p)(hb:B3 X ρ b q)(sp:SeqAt.shaped p=true)(sq:SeqAt.shaped q=true)(hr:(!p.eqv q)=r):Qs X ρ (.Compare a [.NotEq] [b] pos) r:=
 .of (fP (E8 t sp sq) aV aV (dH _ (by decide) (by decide))) fun B F H σ Q k q=>zD ha hb k fun x y F' H' x' rx ry=>⟨rx,ry,r,by rw[hr],q F' H' x'⟩
structure pi(X:Cx)(sc:Scope)(x:Str)(u:Value):Prop where
 g:sc.names.lookup x=some .globalImplicit
 m:X.mg x=none
 v:bootBuiltins x=some u
 n:x ≠ "__name__"
 d:(x==("__debug__" : Str))=false
theorem dA{x:Str}(t:At X N sc)(h:sc.names.lookup x=some .globalImplicit):Gl X x:=by
 show X.env.scope.names.lookup x=_
 rw[t.eS];exact h
variable {ds:List D}
theorem vE{id:String}(t:At X N sc){r:List V->Hp->VK->Prop}(bl:pi X sc x (.builtin id))(hc:ic X (.builtin id) r)(ha:Q2 X ρ (e::es) ds)(hr:∀(F H:Hp) vs (Q:VK),Qx F H->Qq X.K F vs ds->(∀v F' H',Ext ⟨F,H⟩ F' H'->Rep X.K F' v d->Q v H')->r vs H Q):Qp X ρ (.Call (.Name x p) (e::es) [] pos) d:=
 .of (j7 hc (dA t bl.g) bl.m bl.v nI bl.n bl.d (ha.1.1 _ _) (T6.any ha.1.2)) fun B F H σ Q k q=>ha.2 B F H σ _ k fun vs F' H' x' rv=>hr F' H' vs Q x'.sub rv fun v F2 H2 x2 r2=>q v F2 H2 (x'.t x2) r2
theorem sO(t:At X N sc){r:List V->Hp->VK->Prop}(bl:pi X sc x (.type T))(hc:ic X (.type T) r)(ha:Q2 X ρ (e::es) ds)(hr:∀(F H:Hp) vs (Q:VK),Qx F H->Qq X.K F vs ds->(∀v F' H',Ext ⟨F,H⟩ F' H'->Rep X.K F' v d->Q v H')->r vs H Q):Qp X ρ (.Call (.Name x p) (e::es) [] pos) d:=
 .of (lS hc (dA t bl.g) bl.m bl.v nI bl.n bl.d (ha.1.1 _ _) (T6.any ha.1.2)) fun B F H σ Q k q=>ha.2 B F H σ _ k fun vs F' H' x' rv=>hr F' H' vs Q x'.sub rv fun v F2 H2 x2 r2=>q v F2 H2 (x'.t x2) r2
theorem Qq.one{K:PySem.W.Frag}(h:Qq K F vs [d]):∃v,vs=[v]/\Rep K F v d:=by
 cases h with
 |cons r t=>cases t;exact⟨_,rfl,r⟩
theorem Qq.two{K:PySem.W.Frag}(h:Qq K F vs [d,e]):∃v u,vs=[v,u]/\Rep K F v d/\Rep K F u e:=by
 cases h with
 |cons r t=>obtain⟨u,rfl,q⟩:=t.one;exact⟨_,_,rfl,r,q⟩
theorem dB(t:At X N sc)(bl:pi X sc x (.builtin "len"))(ha:Sw X ρ e k xs)(RZ:Pl e:=by intro _ _;rfl):Qp X ρ (.Call (.Name x p) [e] [] pos) (.int xs.length):=
 .of (j7 rQ (dA t bl.g) bl.m bl.v (bo aV cO (RZ _ _)) bl.n bl.d (RZ _ _) rfl) fun B F H σ Q k' q=>ha B F H σ _ k' fun l vs F' H' x' sl rl=>by
  refine⟨l,vs,rfl,?_,?_⟩
  ·cases k with
   |true=>exact .inl sl
   |false=>exact .inr sl
  ·rw[rl.length];exact q _ F' H' x' (.int _)
theorem yx(t:At X N sc)(bl:pi X sc x (.builtin "abs"))(ha:Qp X ρ e (.int i))(RZ:Pl e:=by intro _ _;rfl):Qp X ρ (.Call (.Name x p) [e] [] pos) (.int i.natAbs):=
 vE t bl Gx (ab ha aj RZ) fun F H vs Q sub r q=>by
  obtain⟨v,rfl,rv⟩:=r.one
  cases rv
  have e:(if i<0 then -i else i)=(i.natAbs:Int):=by split<;>omega
  exact⟨i,rfl,by rw[e];exact q _ F H (.refl sub) (.int _)⟩
theorem C1(t:At X N sc)(bl:pi X sc x (.builtin "max"))(ha:Qp X ρ a (.int i))(hb:Qp X ρ b (.int j))(hpa:Pl a:=by intro _ _;rfl)(hpb:Pl b:=by intro _ _;rfl):Qp X ρ (.Call (.Name x p) [a,b] [] pos) (.int (max i j)):=
 vE t bl (D4 t.calm) (ab ha (ab hb aj hpb) hpa) fun F H vs Q sub r q=>by
  obtain⟨v,u,rfl,rv,ru⟩:=r.two
  cases rv;cases ru
  have e:(if j > i then j else i)=max i j:=by split<;>omega
  exact⟨i,j,rfl,by rw[e];exact q _ F H (.refl sub) (.int _)⟩
theorem rE(t:At X N sc)(bl:pi X sc x (.type "int"))(ha:Qp X ρ e (.bl k))(RZ:Pl e:=by intro _ _;rfl):Qp X ρ (.Call (.Name x p) [e] [] pos) (.int (if k then 1 else 0)):=
 sO t bl D5 (ab ha aj RZ) fun F H vs Q sub r q=>by
  obtain⟨v,rfl,rv⟩:=r.one
  cases rv
  exact .inr ⟨k,rfl,q _ F H (.refl sub) (.int _)⟩
theorem IG(t:At X N sc)(bl:pi X sc x (.type "list"))(ha:Sw X ρ e k xs)(RZ:Pl e:=by intro _ _;rfl):QJ X ρ (.Call (.Name x p) [e] [] pos) xs:=
 .of (lS yK (dA t bl.g) bl.m bl.v (bo aV cO (RZ _ _)) bl.n bl.d (RZ _ _) rfl) fun B F H σ Q k' q=>ha B F H σ _ k' fun l vs F' H' x' sl rl=>by
  refine⟨l,vs,rfl,?_,fun p hp=>?_⟩
  ·cases k with
   |true=>exact .inl sl
   |false=>exact .inr sl
  ·exact q p vs F' _ ⟨x'.sub.trans (aP hp),x'.sh.trans (aP hp),x'.sf,x'.nw⟩ (x'.sh.free hp) aK (x'.sub.free hp) rl
theorem ka(t:At X N sc)(bl:pi X sc x (.type "tuple"))(ha:Sw X ρ e true xs)(RZ:Pl e:=by intro _ _;rfl):Qp X ρ (.Call (.Name x p) [e] [] pos) (.tup xs):=
 .of (lS wu (dA t bl.g) bl.m bl.v (bo aV cO (RZ _ _)) bl.n bl.d (RZ _ _) rfl) fun B F H σ Q k' q=>ha B F H σ _ k' fun l vs F' H' x' sl rl=>by
  refine⟨l,vs,rfl,.inl ⟨sl,fun p hp=>?_⟩⟩
  exact q _ _ _ (x'.grow hp) (.tup aK (rl.mono (aP (x'.sub.free hp))))
def NV:D->Value
 |.QO=>.type "NoneType" |.bl _=>.type "bool" |.int _=>.type "int" |.str _=>.type "str" |.tup _=>.type "tuple" |.lst _=>.type "list" |.R8 _=>.type "list" |.exc C=>.ref C | .UO C _=>.ref C | .QM _=>.type "dict" |.adr _=>.type "dict" |.SA _=>.type "dict"
theorem Oc{X:Cx}(sub:Qx F H)(r:Rep X.K F v d)(hd:∀ns,d ≠ .R8 ns)(hx:∀C ea,d ≠ .exc C/\d ≠ .UO C ea/\d ≠ .adr C:=by intro _ _;exact And.intro (fun h=>by cases h) (And.intro (fun h=>by cases h) (fun h=>by cases h)))(hq:∀kvs,d ≠ .QM kvs:=by intro _ h;cases h):sW X.K H v (NV d):=by
 cases r with
 |QO=>exact .QO
 |bl b=>exact .bl b
 |int i=>exact .int i
 |str x=>exact .str x
 |tup h _=>exact .tup (sub _ _ h)
 |lst h _=>exact .lst (sub _ _ h)
 |R8 h=>exact absurd rfl (hd _)
 |exc h=>exact absurd rfl (hx _ 0).1
 |UO h=>exact absurd rfl (hx _ _).2.1
 |adr a=>exact absurd rfl (hx a 0).2.2
 |SA h=>exact .dK (sub _ _ h)
 |QM h _=>exact absurd rfl (hq _)
theorem K9{X:Cx}{d:D}(hx:∀C ea,d ≠ .exc C/\d ≠ .UO C ea/\d ≠ .adr C)(hd:∀ns,d ≠ .R8 ns)(hq:∀kvs,d ≠ .QM kvs)(hk:PySem.W.kitOne X.K (NV d) (.type T)=some k):
  ic X (.builtin "isinstance") (fun xs H Q=>∃x F,xs=[x,.ty T]/\Qx F H/\Rep X.K F x d/\Q (.bl k) H):=by
 intro pins s σ H xs us Q I r h
 obtain⟨v,F,rfl,sub,rv,q⟩:=h
 obtain⟨u,w,rfl,ru,Sj⟩:=zx r
 cases(show w=Value.type T from Sj)
 exact DU I ru (Oc sub rv hd hx hq) hk fun tk=>⟨.bl k,H,I.tok tk,rfl,q⟩
theorem p0(t:At X N sc)(bl:pi X sc x (.builtin "isinstance"))(bt:pi X sc y (.type T))(ha:Qp X ρ a d)(hk:PySem.W.kitOne X.K (NV d) (.type T)=some k)(hd:∀ns,d ≠ .R8 ns:=by intro _ h;cases h)(hpa:Pl a:=by intro _ _;rfl)(hx:∀C ea,d ≠ .exc C/\d ≠ .UO C ea/\d ≠ .adr C:=by intro _ _;exact And.intro (fun h=>by cases h) (And.intro (fun h=>by cases h) (fun h=>by cases h)))(hq:∀kvs,d ≠ .QM kvs:=by intro _ h;cases h):
  Qp X ρ (.Call (.Name x p) [a,.Name y py] [] pos) (.bl k):=
 .of (j7 (K9 hx hd hq hk) (dA t bl.g) bl.m bl.v (bo aV (bo (yd (v:=.ty T) (dA t bt.g) bt.m bt.v rfl bt.n bt.d) cO) (hpa _ _)) bl.n bl.d (hpa _ _) rfl) fun B F H σ Q k' q=>
  ha B F H σ _ k' fun v F' H' x' r=>⟨v,F',rfl,x'.sub,r,q _ F' H' x' (.bl k)⟩
theorem Qq.bls{K:PySem.W.Frag}:∀{bs:List Bool} {vs:List V},Qq K F vs (bs.map D.bl)->vs=bs.map V.bl
 |[],_,h=>by cases h;rfl
 |b::bs,_,h=>by
  cases h with
  |cons r t=>cases r;rw[aS,Qq.bls t]
theorem AE:∀{bs:List Bool} {us:List Value},Vals (bs.map V.bl) us->LSm.BoolsAre us bs
 |[],_,r=>by cases r;exact .nil
 |b::bs,_,r=>by
  rw[aS] at r
  cases r with
  |cons r1 r2=>
   cases(show _=Value.bool b from r1)
   exact .cons b (AE r2)
theorem D6{X:Cx}(hc:X.calm=true):ic X (.builtin "all") (fun xs H Q=>∃(l:Addr) (bs:List Bool),xs=[.ref l]/\Q1 X.K H l (bs.map V.bl)/\Q (.bl (bs.all id)) H):=by
 intro pins s σ H xs us Q I r h
 obtain⟨l,bs,rfl,sl,q⟩:=h
 obtain⟨u,rfl,ru⟩:=j0 r
 cases(show u=Value.ref l from ru)
 obtain⟨vs,rv,pl,hz⟩:=I.list sl
 have hb:=AE rv
 have hl:=pl.isList
 have QW:l<s.heap.objs.size:=by obtain⟨_,e,_⟩:=hl;exact aW e
 refine call_all_walk (LW hl ?_)
 refine⟨s.heap.objs.size,[s.heap.objs.size,l],[s.heap.objs.size],vs.toArray.size,_,_,fun i=>(bs[i]?).getD true,rfl,Walks.list (A:=X.A.in1) (I.ok.hd hc) _ l (bi QW) vs.toArray,
  ⟨⟨_,aO _ rfl,rfl,rfl⟩,hl.push _⟩,fun i v s' Q' E' hP hQ=>?_,fun h' tk hk=>?_⟩
 ·obtain⟨b,e,rfl⟩:=hb.get i v (by simpa using hP)
  simp only[e,Option.getD_some] at hQ
  exact jh hQ
 ·have e:((List.range vs.toArray.size).all fun i=>(bs[i]?).getD true)=bs.all id:=by
   rw[aH,hb.length];exact LSm.range_all bs
  rw[e]
  exact⟨.bl _,H,I.kept (LSm.kept_iter hk),rfl,q⟩
theorem Gb(t:At X N sc){bs:List Bool}(bl:pi X sc x (.builtin "all"))(ha:Sw X ρ e true (bs.map D.bl))(RZ:Pl e:=by intro _ _;rfl):Qp X ρ (.Call (.Name x p) [e] [] pos) (.bl (bs.all id)):=
 .of (j7 (D6 t.calm) (dA t bl.g) bl.m bl.v (bo aV cO (RZ _ _)) bl.n bl.d (RZ _ _) rfl) fun B F H σ Q k' q=>ha B F H σ _ k' fun l vs F' H' x' sl rl=>by
  have e:=rl.bls
  subst e
  exact⟨l,bs,rfl,sl,q _ F' H' x' (.bl _)⟩
def GY(K:PySem.W.Frag)(C:List D->D->Prop):Sp:=fun vs H Q _=>∃F ds d,Qx F H/\Qq K F vs ds/\C ds d/\∀v F' H',Ext ⟨F,H⟩ F' H'->Rep K F' v d->Q v H'
def Callee(X:Cx)(x:Str)(C:List D->D->Prop):Prop:=∃(f:Addr) (fd:FuncData) (ps:List Str) (k:Nat),dJ X.prog X.w X.K X.mg X.base gH k f fd ps (GY X.K C)/\QR k X.A/\X.mg x=some (.ref f)/\PySem.W.keepIn X.K (.ref f)=true/\Binds X.K fd ps []
theorem a4(t:At X N sc){C:List D->D->Prop}(h:Callee X x C)(ha:Q2 X ρ (e::es) ds)(hC:C ds d)(hg:sc.names.lookup x=some .globalImplicit:=by rfl)(Rr:(x==("__debug__" : Str))=false:=by rfl):Qp X ρ (.Call (.Name x p) (e::es) [] pos) d:=by
 obtain⟨f,fd,ps,k,F,hr,hm,hk,hb⟩:=h
 have pz:gc gH X E0:=nH
 refine .of (iS F hr (dA t hg) hm hk hb .nil pz nI Rr (ha.1.1 _ _) (T6.any ha.1.2)) fun B F' H σ Q k' q=>ha.2 B F' H σ _ k' fun vs F1 H1 x1 r1=>?_
 refine⟨F1,ds,d,x1.sub,by rw[aU];exact r1,hC,fun v F2 H2 x2 r2=>q v F2 H2 (x1.t x2) r2⟩
def dE(sc:Scope):Env:={ scope:=sc,locals:=0,globals:=0,cells:=[],qual := "",func:=none,code:=.none,frame:=none,builtins:=0 }
theorem ug{env Va:Env}(h:env.scope=Va.scope):swappedStores ts v env=swappedStores ts v Va:=by
 unfold swappedStores Env.blockKind Env.kindOf
 rw[h]
theorem JX{tg:Option Expr}{env Va:Env}(h:env.scope=Va.scope):swapsWith v tg n env=swapsWith v tg n Va:=by
 unfold swapsWith Env.blockKind Env.kindOf
 rw[h]
variable {st:Stmt}{bS:List Stmt}
theorem bF:Qr X ρ [] (.nx ρ):=.of HI fun B F H σ E k q=>q F H σ k (.refl _)
theorem aG(h1:QQ X ρ st (.nx ρ'))(h2:Qr X ρ' bS o):Qr X ρ (st::bS) o:=
 .of (fm sv dn) fun B F H σ E k q=>h1 B F H σ _ k fun F1 H1 σ1 k1 s1=>h2 B F1 H1 σ1 E k1 (q.later s1)
theorem dI(h1:QQ X ρ st (.rt d)):Qr X ρ (st::bS) (.rt d):=
 .of (fm sv dn) fun B F H σ E k q=>h1 B F H σ _ k q
theorem aF(h1:QQ X ρ st o):Qr X ρ [st] o:=.of (kP sv) fun B F H σ E k q=>h1 B F H σ E k q
theorem fv{ρ:cp}(i:Nat)(hi:ρ[i]?=some (.own xs))(h:Qr X (ρ.set i (.val (.lst xs))) bS o):Qr X ρ bS o:=fun B F H σ E k q=>by
 obtain⟨F',sf,k'⟩:=k.U7 hi
 exact h B F' H σ E k' (q.later sf)
theorem bx(h:Qp X ρ e d):QQ X ρ (.Return (some e) pos) (.rt d):=
 .of (pX aV) fun B F H σ E k q=>h B F H σ _ k fun v F' H' x r=>q v F' H' (k.toExt.trans x) r
theorem c7(hc:Qs X ρ c true)(h:Qr X ρ ss o):QQ X ρ (.If c ss us pos) o:=
 .of (xi lR dn dn) fun B F H σ E k q=>hc B F H σ _ k fun F1 H1 x1=>by rw[ay rfl];exact h B F1 H1 σ E (k.ext x1) (q.later x1.sf)
theorem b0(hc:Qs X ρ c false)(h:Qr X ρ us o):QQ X ρ (.If c ss us pos) o:=
 .of (xi lR dn dn) fun B F H σ E k q=>hc B F H σ _ k fun F1 H1 x1=>by rw[aq aE];exact h B F1 H1 σ E (k.ext x1) (q.later x1.sf)
theorem AZ{x:Str}[Th X]:X.fn x=true\/X.env.scope.names.lookup x=some .local:=.inl (Th.fn x)
theorem At.loc{x:Str}(t:At X N sc)(hx:ku sc x=true):LO X.env.scope x:=by rw[t.eS];exact KO hx
theorem At.ix{i:Nat}(t:At X N sc)(h:N[i]?=some x):X.N[i]?=some x:=by rw[t.eN];exact h
theorem c6{pos:Pos}[Th X](t:At X N sc)(i:Nat)(h:Qp X ρ e d)(hi:N[i]?=some x:=by rfl)(hx:ku sc x=true:=by rfl)(hs:swapsWith e (some (.Name x pos')) pos.line X.env=pure false:=by rfl):
  QQ X ρ (.Assign [.Name x pos'] e pos) (.nx (ρ.set i (.val d))):=
 .of (mw (i:=i) t.nd (t.ix hi) (t.loc hx) aV hs AZ) fun B F H σ E k q=>h B F H σ _ k fun v F' H' x' r=>q F' H' _ ((k.ext x').QN i r) x'.sf
theorem iu{pos:Pos}[Th X](t:At X N sc)(i:Nat)(h:QJ X ρ e xs)(hi:N[i]?=some x:=by rfl)(hx:ku sc x=true:=by rfl)(hs:swapsWith e (some (.Name x pos')) pos.line X.env=pure false:=by rfl):
  QQ X ρ (.Assign [.Name x pos'] e pos) (.nx (ρ.set i (.own xs))):=
 .of (mw (i:=i) t.nd (t.ix hi) (t.loc hx) aV hs AZ) fun B F H σ E k q=>h B F H σ _ k fun p vs F' H' x' h0 hp hf r=>
  q F' H' _ ((k.ext x').Tw i hp hf (k.sh.free h0) (k.noOwn h0) r) x'.sf
theorem ES{ρ:cp}[Th X](t:At X N sc)(i:Nat){g:Int->Int->Int}{C:Int->Int->Prop}(ho:nb X (inplaceOp op) (rI C fun i j=>.int (g i j)))(hr:ρ[i]?=some (.val (.int n)))(h:Qp X ρ e (.int m))(hc:C n m)(hi:N[i]?=some x:=by rfl)(hx:ku sc x=true:=by rfl):
  QQ X ρ (.AugAssign (.Name x pos') op e pos) (.nx (ρ.set i (.val (.int (g n m))))):=
 .of (Bk (i:=i) t.nd (t.ix hi) (t.loc hx) aV (show Ma X op (rI C fun i j=>.int (g i j)) from ho) AZ) fun B F H σ E k q=>by
  obtain⟨v,h1,h2⟩:=k.vals i _ hr
  cases h2
  exact⟨_,h1,h B F H σ _ k fun v F' H' x' r=>by
   cases r
   exact⟨n,m,rfl,rfl,hc,q F' H' _ ((k.ext x').QN i (.int _)) x'.sf⟩⟩
theorem Al:nb X (inplaceOp .Add) (rI (fun _ _=>True) fun i j=>.int (i+j)):=MU fun _ _ _ _ _ _ _ _ q=>iadd_int q
theorem FP:nb X (inplaceOp .Sub) (rI (fun _ _=>True) fun i j=>.int (i-j)):=MU fun _ _ _ _ _ _ _ _ q=>isub_int q
theorem ET{ρ:cp}[Th X](t:At X N sc)(i:Nat)(hr:ρ[i]?=some (.val (.int n)))(h:Qp X ρ e (.int m))(hi:N[i]?=some x:=by rfl)(hx:ku sc x=true:=by rfl):
  QQ X ρ (.AugAssign (.Name x pos') .Add e pos) (.nx (ρ.set i (.val (.int (n+m))))):=ES t i Al hr h trivial hi hx
theorem zW{ρ:cp}[Th X](t:At X N sc)(i:Nat)(hr:ρ[i]?=some (.val (.int n)))(h:Qp X ρ e (.int m))(hi:N[i]?=some x:=by rfl)(hx:ku sc x=true:=by rfl):
  QQ X ρ (.AugAssign (.Name x pos') .Sub e pos) (.nx (ρ.set i (.val (.int (n-m))))):=ES t i FP hr h trivial hi hx
theorem dN[Th X](t:At X N sc)(i:Nat)(hi:N[i]?=some x:=by rfl)(hx:ku sc x=true:=by rfl):TY X ρ (.Name x pos) d (ρ.set i (.val d)):=
 .of (uo (i:=i) t.nd (t.ix hi) (t.loc hx) AZ) fun B F H σ v Q k r q=>q F H _ (k.QN i r) (.refl _)
theorem hW[Th X](t:At X N sc)(i j:Nat)(hi:N[i]?=some x:=by rfl)(hj:N[j]?=some y:=by rfl)(hx:ku sc x=true:=by rfl)(hy:ku sc y=true:=by rfl):
  TY X ρ (.Tuple [.Name x px,.Name y py] kt pos) (.tup [u,v]) ((ρ.set i (.val u)).set j (.val v)):=
 .of (Fk t.calm (va (uo (i:=i) t.nd (t.ix hi) (t.loc hx) AZ) (va (uo (i:=j) t.nd (t.ix hj) (t.loc hy) AZ) CG))) fun B F H σ w Q k r q=>by
  cases r with
  |tup h rl=>
   obtain⟨v1,v2,rfl,r1,r2⟩:=rl.two
   exact⟨_,_,rfl,RB.of (k.sub _ _ h),rfl,_,_,rfl,_,_,rfl,rfl,q F H _ ((k.QN i r1).QN j r2) (.refl _)⟩
theorem cm(t:At X N sc)(i:Nat)(hi:N[i]?=some x:=by rfl)(hx:sc.names.lookup x=some .local:=by rfl):Tj X ρ (.Name x pos) d (ρ.set i (.val d)):=
 .of (uo (i:=i) t.nd (t.ix hi) (by rw[t.eS];exact .inl hx) (by rw[t.eS];exact .inr hx)) fun B F H σ v Q k r q=>q _ (k.QN i r) fun p h=>h.QN i _ d
theorem Cp{pos:Pos}(t:At X N sc)(h:Qp X ρ e d)(hg:TY X ρ tg d ρ')(hs:swapsWithSole [tg] e pos.line X.env=pure false:=by rfl)(hw:swappedStores [tg] e (dE sc)=pure none:=by rfl)(h1:(assignEach [tg] X.env).map (·.2)=[assign tg X.env]:=by rfl):QQ X ρ (.Assign [tg] e pos) (.nx ρ'):=
 .of (Fe aV Fj hs ((ug (show X.env.scope=(dE sc).scope from t.eS)).trans hw) h1) fun B F H σ E k q=>h B F H σ _ k fun v F1 H1 x1 r1=>hg B F1 H1 σ v _ (k.ext x1) r1 fun F2 H2 σ2 k2 s2=>q F2 H2 σ2 k2 (x1.sf.trans s2)
theorem nJ{i:Nat}{Q:VK}{ρ:cp}(t:At X N sc)(hr:ρ[i]?=some (.own xs))(hN:N[i]?=some x)(hv:dW sc x=true)(hx:cg x=true)(k:Ok X.K B F H σ ρ)(h:∀p vs,σ[i]?=some (some (.ref p))->H p=some (.lst vs)->Qq X.K F vs xs->Q (.ref p) H):wE X (.Name x pos) σ H Q:=.mk fun pins s I=>by
 obtain⟨p,vs,h1,h2,h3,h4,h5⟩:=k.Rj i xs hr
 exact su t hN hv hx pins s σ H Q I ⟨_,h1,h p vs h1 h2 h5⟩
theorem eI{apos Qt:Pos}{ρ:cp}{pos:Pos}(t:At X N sc)(i:Nat)(hr:ρ[i]?=some (.own xs))(h:Qp X ρ e d)(hz:xs.length<sizeLine)(hN:N[i]?=some y:=by rfl)(hv:dW sc y=true:=by rfl)(hx:cg y=true:=by rfl)(hs:starEach [e] X.env=(false,eval e X.env)::starEach [] X.env:=by rfl)(hline:(apos.endLine==Qt.line)=true:=by rfl)(Sf:(backTo Qt (starEach [] X.env)).any (·.1)=false:=by rfl)(Rx:((backTo Qt (starEach [e] X.env)).all (fun x=>!x.1)&&(backToKw Qt (keywordEach [] X.env)).all (fun x=>x.1.isSome)&&decide (([e]:List Expr).length+([]:List Keyword).length+(if ([]:List Keyword).isEmpty then 0 else 1)<30))=true:=by rfl)(SM:swapsWith (.Call (.Attribute (.Name y p) "append" apos) [e] [] Qt) none pos.line X.env=pure false:=by rfl):
  QQ X ρ (.Expr (.Call (.Attribute (.Name y p) "append" apos) [e] [] Qt) pos) (.nx (ρ.set i (.own (xs++[d])))):=
 .of (gY (qV bM jS jR lU aV (bo aV cO hs) rfl Rx hline hs Sf) SM) fun B F H σ E k q=>
  nJ t hr hN hv hx k fun l vs h1 h2 h3=>⟨.inl ⟨rfl,_,Q1.of h2⟩,h B F H σ _ k fun v F' H' x' r=>by
   have k':=k.ext x'
   have Wq:=x'.sh _ _ h2
   refine⟨l,vs,v,rfl,rfl,Wq,by rw[h3.length];exact hz,?_⟩
   exact q F' _ _ (k'.SH (vs:=vs) hr h1 ((h3.mono x'.sf).append (.cons r .nil))) x'.sf⟩
theorem Jl{apos Qt:Pos}{ρ:cp}{pos:Pos}(t:At X N sc)(i:Nat)(hr:ρ[i]?=some (.own xs))(hz:xs≠[])(hN:N[i]?=some y:=by rfl)(hv:dW sc y=true:=by rfl)(hx:cg y=true:=by rfl)(hline:(apos.endLine==Qt.line)=true:=by rfl)(SM:swapsWith (.Call (.Attribute (.Name y p) "pop" apos) [] [] Qt) none pos.line X.env=pure false:=by rfl):
  QQ X ρ (.Expr (.Call (.Attribute (.Name y p) "pop" apos) [] [] Qt) pos) (.nx (ρ.set i (.own xs.dropLast))):=
 .of (gY (vd bM ma l9 yh aV rfl hline) SM) fun B F H σ E k q=>
  nJ t hr hN hv hx k fun l vs h1 h2 h3=>⟨.inl ⟨rfl,_,Q1.of h2⟩,by
   have hl:=h3.length
   have Tz:vs≠[]:=fun z=>hz (bc (by rw[<-hl,z];rfl))
   obtain⟨w,hw⟩:∃w,vs[vs.length-1]?=some w:=⟨vs[vs.length-1]'(by have:=bO.mpr Tz;omega),aD _⟩
   exact⟨l,vs,w,rfl,rfl,h2,hw,q F _ _ (k.SH (vs:=vs) hr h1 h3.dropLast) (.refl _)⟩⟩
theorem IH{ρ:cp}(t:At X N sc)(i:Nat)(hr:ρ[i]?=some (.own xs))(h:Qp X ρ b (.int n))(hj:CU xs.length n=some j)(hN:N[i]?=some y:=by rfl)(hv:dW sc y=true:=by rfl)(hx:cg y=true:=by rfl)(ha:∀v,assign (.Subscript (.Name y p) b pos) X.env v=(do
   let ov <-holding [v] (eval (.Name y p) X.env)
   let iv <-holding [v,ov] (eval b X.env)
   standAt pos
   holding [v,ov,iv] (setItem ov iv v)
   release [v,ov,iv] []):=by intro _;rfl):TY X ρ (.Subscript (.Name y p) b pos) d (ρ.set i (.own (xs.set j d))):=
 .of (Fl aV aV zU ha) fun B F H σ v Q k r q=>
  nJ t hr hN hv hx k fun l vs h1 h2 h3=>h B F H σ _ k fun w F' H' x' Sj=>by
   cases Sj
   have Wq:=x'.sh _ _ h2
   refine⟨l,vs,n,j,rfl,rfl,Wq,by rw[h3.length];exact hj,?_⟩
   exact q F' _ _ ((k.ext x').SH (vs:=vs) hr h1 ((h3.mono x'.sf).set (r.mono x'.sf) j)) x'.sf
theorem DZ:NG X (MM X.K):=by
 intro pins s σ H o i ov iv Q I ro ri h
 obtain⟨p,xs,n,z,rfl,rfl,hq,he,q⟩:=h
 cases ro
 obtain⟨t,rfl⟩:=ri
 obtain⟨its,r,pl,hz⟩:=I.list hq
 obtain⟨j,h1,h2,h3,h4,h5⟩:=uF he
 obtain⟨w,ew,Sj⟩:=r.get h2
 have hl:=r.length
 have hn:=nO
 have fin:EP X pins σ Q w s:=⟨z,H,I,Sj,q⟩
 by_cases h0:0<=n
 ·have hj:n.toNat=j:=by
   rw[N4 h0 h5] at h1
   exact bB h1
  exact wpAny_getItem_list pl.isList h0 (by omega) (by rw[hj];simpa using ew) fin
 ·have hj:(n+(its.toArray.size:Int)).toNat=j:=by
   rw[LY (by omega) h4] at h1
   rw[aH,<-hl]
   exact bB h1
  exact wpAny_getItem_list_neg pl.isList (by omega) (by rw[aH]<;>omega) (by omega) (by rw[hj];simpa using ew) fin
theorem DF{j:Nat}{ρ:cp}(t:At X N sc)(i:Nat){g:Int->Int->Int}{C:Int->Int->Prop}(ho:nb X (inplaceOp op) (rI C fun i j=>.int (g i j)))(hr:ρ[i]?=some (.own xs))(hb:Qp X ρ b (.int n))(hj:CU xs.length n=some j)(hu:xs[j]?=some (.int u))(he:Qp X ρ e (.int m))(hc:C u m)(hN:N[i]?=some y:=by rfl)(hv:dW sc y=true:=by rfl)(hx:cg y=true:=by rfl)(ha:∀ov iv new,augStore b ov iv new=(do holding [new,ov,iv] (setItem ov iv new);release [new,ov,iv] [];pure .next):=by intros;rfl):
  QQ X ρ (.AugAssign (.Subscript (.Name y p) b W6) op e pos) (.nx (ρ.set i (.own (xs.set j (.int (g u m)))))):=
 .of (HK aV aV DZ aV (show Ma X op (rI C fun i j=>.int (g i j)) from ho) zU ha) fun B F H σ E k q=>
  nJ t hr hN hv hx k fun l vs h1 h2 h3=>hb B F H σ _ k fun w F1 H1 x1 Sj=>by
   cases Sj
   have h21:=x1.sh _ _ h2
   have Z0:l8 xs n=some (.int u):=by unfold l8;rw[hj];exact hu
   obtain⟨w,hw1,hw2⟩:=(h3.mono x1.sf).at Z0
   cases hw2
   refine⟨l,vs,n,_,rfl,rfl,Q1.of h21,hw1,he B F1 H1 σ _ (k.ext x1) fun w F2 H2 x2 rw2=>?_⟩
   cases rw2
   have h22:=x2.sh _ _ h21
   refine⟨u,m,rfl,rfl,hc,l,vs,n,j,rfl,rfl,h22,by rw[h3.length];exact hj,?_⟩
   exact q F2 _ _ ((k.ext (x1.t x2)).SH (vs:=vs) hr h1 (((h3.mono x1.sf).mono x2.sf).set (.int _) j)) (x1.t x2).sf
end
structure wI(X:Cx)(tg e:Expr)(σ:St)(H:Hp)(R:It->Hp->Prop):Prop where
 go:∀(pins:List (Addr×Obj)) (s:Shared),Inv X pins σ H s->wpAny (model X.prog X.w) X.A (eval e X.env) (fun v s1=>wpAny (model X.prog X.w) X.A (pyIter v) (NF X pins σ tg R) X.xe s1) X.xe s
instance wI_f {X:Cx} {tg e:Expr} {σ:St} {H:Hp} {R:It->Hp->Prop}:CoeFun (wI X tg e σ H R) (fun _=>∀(pins:List (Addr×Obj)) (s:Shared),Inv X pins σ H s->wpAny (model X.prog X.w) X.A (eval e X.env) (fun v s1=>wpAny (model X.prog X.w) X.A (pyIter v) (NF X pins σ tg R) X.xe s1) X.xe s):=⟨wI.go⟩
theorem OD:PI X tg e (wI X tg e):=fun pins s _ _ _ I h=>h pins s I
def t6(K:PySem.W.Frag)(J:It)(F:Hp)(ds:List D):Prop:=∀(i:Nat) (F2 H2:Hp),Qx F F2->Qx F2 H2 ->
 (∀d,ds[i]?=some d->J.go i H2/\∀x H',J.Yw i H2 x H'->∃F',Ext ⟨F2,H2⟩ F' H'/\Rep K F' x d)/\(ds.length<=i->J.stop i H2)
def Ti(X:Cx)(ρ:cp)(tg e:Expr)(ds:List D):Prop:=∀(B:B0) (F H:Hp) (σ:St) (R:It->Hp->Prop),Ok X.K B F H σ ρ ->
 (∀J F' H',Ext ⟨F,H⟩ F' H'->t6 X.K J F' ds->R J H')->wI X tg e σ H R
section
variable {ds:List D}
theorem Ti.of(h:PI X tg e t)(r:∀(B:B0) (F H:Hp) (σ:St) (R:It->Hp->Prop),Ok X.K B F H σ ρ->(∀J F' H',Ext ⟨F,H⟩ F' H'->t6 X.K J F' ds->R J H')->t σ H R):Ti X ρ tg e ds:=
 fun B F H σ R k q=>.mk fun pins s I=>h pins s σ H R I (r B F H σ R k q)
theorem Ic{K:PySem.W.Frag}(hs:∀H,Qx F H->Q1 K H l vs)(r:Qq K F vs ds):t6 K (Pb K l) F ds:=fun i F2 H2 s1 s2=>
 ⟨fun d hd=>by
  obtain⟨v,hv,rv⟩:=r.get hd
  have sq:=hs H2 (s1.trans s2)
  refine⟨⟨vs,v,sq,hv⟩,fun x H' y=>?_⟩
  obtain⟨rfl,y⟩:=y
  have e:=y vs sq
  rw[hv] at e;cases e
  exact⟨F2,.refl s2,rv.mono s1⟩,fun h=>⟨vs,hs H2 (s1.trans s2),by rw[r.length];exact h⟩⟩
theorem FN{K:PySem.W.Frag}(hs:∀H,Qx F H->RB K H l vs)(r:Qq K F vs ds):t6 K (O9 K l) F ds:=fun i F2 H2 s1 s2=>
 ⟨fun d hd=>by
  obtain⟨v,hv,rv⟩:=r.get hd
  have sq:=hs H2 (s1.trans s2)
  refine⟨⟨vs,v,sq,hv⟩,fun x H' y=>?_⟩
  obtain⟨rfl,y⟩:=y
  have e:=y vs sq
  rw[hv] at e;cases e
  exact⟨F2,.refl s2,rv.mono s1⟩,fun h=>⟨vs,hs H2 (s1.trans s2),by rw[r.length];exact h⟩⟩
theorem yD(h:Qp X ρ e (.lst ds)):Ti X ρ tg e ds:=.of (CF aV) fun B F H σ R k q=>h B F H σ _ k fun v F' H' x r=>by
 cases r with
 |lst hf rl=>exact⟨_,rfl,⟨_,Q1.of (x.sub _ _ hf)⟩,q _ F' H' x (Ic (fun H2 s2=>Q1.of (s2 _ _ hf)) rl)⟩
theorem yC(h:Qp X ρ e (.tup ds)):Ti X ρ tg e ds:=.of (Fh aV) fun B F H σ R k q=>h B F H σ _ k fun v F' H' x r=>by
 cases r with
 |tup hf rl=>exact⟨_,rfl,⟨_,RB.of (x.sub _ _ hf)⟩,q _ F' H' x (FN (fun H2 s2=>RB.of (s2 _ _ hf)) rl)⟩
def fZ(lo:Int)(n:Nat):List D:=(List.range n).map fun(i:Nat)=>D.int (lo+(i:Int))
theorem K5{K:PySem.W.Frag}{lo:Int}:t6 K (N2 lo n) F (fZ lo n):=fun i F2 H2 s1 s2=>
 ⟨fun d hd=>by
  unfold fZ at hd
  rw[aI] at hd
  have hi:i<n:=by
   by_cases h:i<n
   ·exact h
   ·rw[aZ (by simpa using h)] at hd;cases hd
  rw[eC hi] at hd
  cases hd
  refine⟨hi,fun x H' y=>?_⟩
  obtain⟨rfl,rfl⟩:=y
  exact⟨F2,.refl s2,.int _⟩,fun h=>by
   have h':n<=i:=by simpa [fZ] using h
   exact h'⟩
theorem fR(t:At X N sc)(bl:pi X sc "range" (.type "range"))(h:Qp X ρ a (.int j))(h1 : -(2 ^ 62)<=j)(h2:j<2 ^ 62)(hs:Pl a:=by intro _ _;rfl):Ti X ρ tg (.Call (.Name "range" p) [a] [] pos) (fZ 0 j.toNat):=
 .of (DN (dA t bl.g) bl.m (bo aV cO (hs _ _)) (hs _ _)) fun B F H σ R k q=>h B F H σ _ k fun v F' H' x r=>by
  cases r
  exact⟨j,rfl,h1,h2,q _ F' H' x K5⟩
inductive QI(X:Cx)(tg:Expr)(body:List Stmt):List D->cp->Out->Prop where
 |nil {ρ:cp}:QI X tg body [] ρ (.nx ρ)
 |cons {d:D} {ds:List D} {ρ ρ1 ρ2:cp} {o:Out}:TY X ρ tg d ρ1->Qr X ρ1 body (.nx ρ2)->QI X tg body ds ρ2 o->QI X tg body (d::ds) ρ o
 |ret {d r:D} {ds:List D} {ρ ρ1:cp}:TY X ρ tg d ρ1->Qr X ρ1 body (.rt r)->QI X tg body (d::ds) ρ (.rt r)
theorem jX{i:Nat}{α:Type}{xs ys:List α}{x:α}(h:xs.drop i=x::ys):xs[i]?=some x/\xs.drop (i+1)=ys/\i<xs.length:=by
 have hi:i<xs.length:=by
  by_cases q:i<xs.length
  ·exact q
  ·rw[lH (by omega)] at h;cases h
 have e:=ck hi
 rw[h] at e
 injection e with e1 e2
 exact⟨by rw[aD hi,e1],e2.symm,hi⟩
theorem gK(t:At X N sc)(hi:Ti X ρ tg e ds)(h:QI X tg body ds ρ o)(hs:∀x,foldedSetIterable e X.env x=pure x:=by intro _;rfl):QQ X ρ (.For tg e body [] pos) o:=
 .of (Fd t.pass t.calm OD Fj dn hs) fun B F H σ E k q=>hi B F H σ _ k fun J F1 H1 x1 J1=>by
  refine⟨fun i m σ H=>∃ρ' F',Ok X.K B F' H σ ρ'/\Qx F1 F'/\QI X tg body (ds.drop i) ρ' o/\m=ds.length-i,⟨ds.length,ρ,F1,k.ext x1,.refl _,by simpa using h,by simp⟩,?_⟩
  rintro i m σ H ⟨ρ',F',k',sf,run,rfl⟩
  have q':SW X.K B F' E o:=q.later (x1.sf.trans sf)
  have J2:=J1 i F' H sf k'.sub
  generalize e1:ds.drop i=bS at run
  cases run with
  |nil=>
   have hl:ds.length<=i:=by
    have:=bJ List.length e1
    rw[dj,fC] at this
    omega
   exact .inl ⟨J2.2 hl,q' F' H σ k' (.refl _)⟩
  |@cons d0 XY ρ0 ρ1 ρ2 o0 g b r=>
   obtain⟨hd,hr,QW⟩:=jX e1
   obtain⟨go,yl⟩:=J2.1 _ hd
   refine .inr ⟨go,fun σ' H'=>∃SJ,Ok X.K B SJ H' σ' ρ2/\Qx F1 SJ,fun σ' H' ⟨SJ,Vy,T2⟩=>⟨ds.length-(i+1),by omega,_,SJ,Vy,T2,by rw[hr];exact r,rfl⟩,fun x H' y=>?_⟩
   obtain⟨F2,x2,rx⟩:=yl x H' y
   refine g B F2 H' σ x _ (k'.ext x2) rx fun F3 H3 σ3 k3 s3=>b B F3 H3 σ3 _ k3 fun F4 H4 σ4 k4 s4=>⟨F4,k4,sf.trans (x2.sf.trans (s3.trans s4))⟩
  |ret g b=>
   obtain⟨hd,hr,QW⟩:=jX e1
   obtain⟨go,yl⟩:=J2.1 _ hd
   refine .inr ⟨go,fun _ _=>False,fun σ' H' z=>z.elim,fun x H' y=>?_⟩
   obtain⟨F2,x2,rx⟩:=yl x H' y
   exact g B F2 H' σ x _ (k'.ext x2) rx fun F3 H3 σ3 k3 s3=>b B F3 H3 σ3 _ k3 q
theorem QI.of(body:List Stmt)(R:Nat->cp):∀(ds:List D) (i:Nat),(∀(j:Nat) d,ds[j]?=some d->∃ρ1,TY X (R (i+j)) tg d ρ1/\Qr X ρ1 body (.nx (R (i+j+1))))->QI X tg body ds (R i) (.nx (R (i+ds.length)))
 |[],i,_=>.nil
 |d::ds,i,h=>by
  obtain⟨ρ1,h1,h2⟩:=h 0 d rfl
  refine .cons h1 h2 ?_
  have r:=QI.of body R ds (i+1) fun j e he=>by
   have:=h (j+1) e (by simpa using he)
   rw[show i+1+j=i+(j+1) by omega]
   exact this
  rw[show i+(d::ds).length=i+1+ds.length by simp;omega]
  exact r
inductive Sv(X:Cx)(c:Expr)(body:List Stmt):Nat->cp->Out->Prop where
 |stop {ρ:cp}:Qs X ρ c false->Sv X c body 0 ρ (.nx ρ)
 |step {n:Nat} {ρ ρ1:cp} {o:Out}:Qs X ρ c true->Qr X ρ body (.nx ρ1)->Sv X c body n ρ1 o->Sv X c body (n+1) ρ o
 |ret {ρ:cp} {r:D}:Qs X ρ c true->Qr X ρ body (.rt r)->Sv X c body 0 ρ (.rt r)
theorem qN(t:At X N sc)(h:∃n,Sv X c body n ρ o):QQ X ρ (.While c body [] pos) o:=
 .of (u6 t.pass lR dn) fun B F H σ E k q=>by
  obtain⟨n,h⟩:=h
  refine⟨fun m σ H=>∃ρ' F',Ok X.K B F' H σ ρ'/\Qx F F'/\Sv X c body m ρ' o,⟨n,ρ,F,k,.refl _,h⟩,?_⟩
  rintro m σ H ⟨ρ',F',k',sf,run⟩
  cases run with
  |stop hc=>
   refine hc B F' H σ _ k' fun F1 H1 x1=>?_
   rw[aq aE]
   exact q F1 H1 σ (k'.ext x1) (sf.trans x1.sf)
  |@step n0 ρ0 ρ1 o0 hc hb r=>
   refine hc B F' H σ _ k' fun F1 H1 x1=>?_
   rw[ay rfl]
   exact⟨fun σ' H'=>∃SJ,Ok X.K B SJ H' σ' ρ1/\Qx F SJ,fun σ' H' ⟨SJ,Vy,T2⟩=>⟨_,e8 _,_,SJ,Vy,T2,r⟩,hb B F1 H1 σ _ (k'.ext x1) fun F2 H2 σ2 k2 s2=>⟨F2,k2,sf.trans (x1.sf.trans s2)⟩⟩
  |ret hc hb=>
   refine hc B F' H σ _ k' fun F1 H1 x1=>?_
   rw[ay rfl]
   exact⟨fun _ _=>False,fun σ' H' z=>z.elim,hb B F1 H1 σ _ (k'.ext x1) q⟩
structure DefX(P:Program)(w:World)(K:PySem.W.Frag)(mg:Str->Option Value)(base:Heap)(k:Nat)(N:List Str)(sc:Scope)(X:Cx):Prop where
 at':At X N sc
 prog:X.prog=P
 w':X.w=w
 k':X.K=K
 Sm:X.mg=mg
 UB:X.base=base
 room:QR k X.A
 Q7:Th X
 S0:X.stack=X.env::X.outer/\X.env.frame=some X.env.locals
theorem i9{K:PySem.W.Frag}(sub:Qx F H)(r:Qq K F vs ds)(n:Nat):Ok K ⟨F,H⟩ F H (vs.map some++List.replicate n none) (ds.map Sl.val++List.replicate n Sl.un):=by
 have hl:=r.length
 have own:∀(i:Nat) xs,(ds.map Sl.val++List.replicate n Sl.un)[i]?≠some (.own xs):=fun i xs h=>by
  by_cases hi:i<ds.length
  ·rw[bg (by simpa using hi),aI] at h
   cases e:ds[i]? with
   |none=>rw[e] at h;cases h
   |some d=>rw[e] at h;cases h
  ·rw[be (by simpa using hi),dk] at h
   split at h<;>cases h
 have Xd:∀(i:Nat) xs,(ds.map Sl.val++List.replicate n Sl.un)[i]?≠some (.RC xs):=fun i xs h=>by
  by_cases hi:i<ds.length
  ·rw[bg (by simpa using hi),aI] at h
   cases e:ds[i]? with
   |none=>rw[e] at h;cases h
   |some d=>rw[e] at h;cases h
  ·rw[be (by simpa using hi),dk] at h
   split at h<;>cases h
 refine⟨.refl sub,by simp[hl],fun i d h=>?_,fun i xs h=>absurd h (own i xs),fun i j xs ys a h=>absurd h (own i xs),⟨fun i kvs h=>absurd h (Xd i kvs),fun i j xs ys a h=>absurd h (Xd i xs)⟩⟩
 by_cases hi:i<ds.length
 ·rw[bg (by simpa using hi),aI] at h
  cases e:ds[i]? with
  |none=>rw[e] at h;cases h
  |some d'=>
   rw[e] at h;cases h
   obtain⟨v,hv,rv⟩:=r.get e
   exact⟨v,by rw[bg (by rw[af];omega),aI,hv];rfl,rv⟩
 ·rw[be (by simpa using hi),dk] at h
  split at h<;>cases h
theorem Na{P:Program}(Ra:P.given.tree=none){w:World}{K:PySem.W.Frag}{mg:Str->Option Value}{base:Heap}{x qual:Str}{st:Stmt}{f:Addr}{fd:FuncData}{N ps:List Str}{k:Nat}{C:List D->D->Prop}(F:Um K x qual st f fd)(S:aR N ps (ai st))(len:∀ds d,C ds d->ds.length=ps.length)(body:∀X,DefX P w K mg base k N (ai st) X->∀ds d,C ds d->Qr X (ds.map Sl.val++List.replicate (N.length-ds.length) Sl.un) (bw st) (.rt d)):dJ P w K mg base gH (k+1) f fd ps (GY K C):=by
 refine F.ok S (fun vs H Q E h=>?_) (fun Q3 A outer s H vs Q E hr h=>?_)
 ·obtain⟨F',ds,d,sub,r,hC,q⟩:=h
  rw[r.length];exact len ds d hC
 ·obtain⟨F',ds,d,sub,r,hC,q⟩:=h
  refine⟨_,dn,?_⟩
  have hx:DefX P w K mg base k N (ai st) (qa gH P w K mg base N qual (ai st) f Q3 A outer s H E).Tx:=
   ⟨⟨rfl,rfl,rfl,S.nd,rfl,hr.units,hr.Ss,Ra,⟨_,_,rfl,S.gen,S.co,rfl,rfl⟩⟩,rfl,rfl,rfl,rfl,rfl,hr,⟨fun _=>rfl⟩,rfl,rfl⟩
  have hb:=body _ hx ds d hC
  have hk:Ok K ⟨F',H⟩ F' H (start N vs) (ds.map Sl.val++List.replicate (N.length-ds.length) Sl.un):=by
   unfold start
   rw[r.length]
   exact i9 sub r _
  exact hb ⟨F',H⟩ F' H _ _ hk fun v F2 H2 x2 r2=>q v F2 H2 x2 r2
theorem DefX.callee{K:PySem.W.Frag}{x:Str}{C:List D->D->Prop}(h:DefX P w K mg base k N sc X)(F:dJ P w K mg base gH j f fd ps (GY K C))(hj:j<=k)(hm:mg x=some (.ref f))(hk:PySem.W.keepIn K (.ref f)=true)(hb:Binds K fd ps []):Callee X x C:=by
 obtain⟨h0,rfl,rfl,rfl,rfl,rfl,hr,_⟩:=h
 exact⟨f,fd,ps,j,F,hr.mono hj,hm,hk,hb⟩
end
def tH(scope sc:Scope):Scope:={ scope with names:=scope.names.map fun(n,k)=>if (k == .free&&sc.kind == .function&&sc.names.lookup n==some .cell) then (n,.cell) else (n,k) }
theorem xZ{sc:Scope}{env:Env}(h:env.scope=sc):relabel scope env=tH scope sc:=by subst h;rfl
theorem yI(env:Env):∀(names:List (Str×NameKind)) (cs:List (Str×Addr)),(∀n,(n,NameKind.free)∈names->∃c,env.cells.lookup n=some c) ->
  (∀n c,cs.lookup n=some c->env.cells.lookup n=some c) ->
  ∃cl:List (Str×Addr),(forIn (m:=Sem) names cs fun(x:Str×NameKind) r=>if x.2 == .free then do let c <-cellOf env x.1;pure (ForInStep.yield ((x.1,c)::r)) else pure (ForInStep.yield r))=pure cl /\
   (∀n c,cl.lookup n=some c->env.cells.lookup n=some c)/\(∀n,(n,NameKind.free)∈names->∃c,cl.lookup n=some c)/\(∀n c,cs.lookup n=some c->∃c',cl.lookup n=some c')
 |[],cs,_,h=>⟨cs,rfl,h,(fun n hn=>nomatch hn),fun n c e=>⟨c,e⟩⟩
 |(n,k)::r,cs,hf,h=>by
  rw[oI]
  by_cases hk:k=.free
  ·subst hk
   obtain⟨c,hc⟩:=hf n bK
   have Sq:cellOf env n=pure c:=by unfold cellOf;rw[hc]
   have h':∀m c',((n,c)::cs).lookup m=some c'->env.cells.lookup m=some c':=fun m c' e=>by
    rw[cS] at e
    cases hm:m==n with
    |true=>rw[hm] at e;cases e;rw[eq_of_beq hm];exact hc
    |false=>rw[hm] at e;exact h m c' e
   obtain⟨cl,e1,e2,e3,e4⟩:=yI env r ((n,c)::cs) (fun m hm=>hf m (aY _ hm)) h'
   refine⟨cl,?_,e2,fun m hm=>?_,fun m c' e=>?_⟩
   ·show((do let c <-cellOf env n;pure (ForInStep.yield ((n,c)::cs))) >>= _:Sem (List (Str×Addr)))=_
    rw[Sq]
    exact e1
   ·rcases aC.mp hm with z | z
    ·cases z
     exact e4 n c (by rw[cS,beq_self_eq_true])
    ·exact e3 m z
   ·by_cases hm:m=n
    ·subst hm;exact e4 m c (by rw[cS,beq_self_eq_true])
    ·exact e4 m c' (by rw[cS,bj.mpr hm];exact e)
  ·have hb:(k==NameKind.free)=false:=bj.mpr hk
   obtain⟨cl,e1,e2,e3,e4⟩:=yI env r cs (fun m hm=>hf m (aY _ hm)) h
   refine⟨cl,?_,e2,fun m hm=>?_,e4⟩
   ·show((if (k==NameKind.free)=true then _ else pure (ForInStep.yield cs)) >>= _:Sem (List (Str×Addr)))=_
    rw[hb,aq aE]
    exact e1
   ·rcases aC.mp hm with z | z
    ·cases z;exact absurd rfl hk
    ·exact e3 m z
theorem BN{scope:Scope}{env:Env}(hf:∀n,(n,NameKind.free)∈scope.names->∃c,env.cells.lookup n=some c):
  ∃cl:List (Str×Addr),closureFor scope env=pure cl/\(∀n c,cl.lookup n=some c->env.cells.lookup n=some c)/\(∀n,(n,NameKind.free)∈scope.names->∃c,cl.lookup n=some c):=by
 obtain⟨cl,e1,e2,e3,_⟩:=yI env scope.names [] hf (fun n c e=>nomatch e)
 refine⟨cl,?_,e2,e3⟩
 show(forIn (m:=Sem) scope.names ([]:List (Str×Addr)) (fun(x:Str×NameKind) r=>if x.2 == .free then do let c <-cellOf env x.1;pure (ForInStep.yield ((x.1,c)::r)) else pure (ForInStep.yield r)) >>= fun s=>pure s)=pure cl
 rw[e1];rfl
structure oH(N:List Str)(sc:Scope)(N':List Str)(scope:Scope):Prop where
 kind:scope.kind=.function
 cells:∀y∈scope.names,y.2=.cell->scope.names.lookup y.1=some .cell
 names:∀y∈scope.names,y.2=.local->scope.names.lookup y.1=some .local
 free:∀y∈scope.names,y.2=.free->sc.names.lookup y.1=some .cell
 XR:sc.kind=.function
 nd:N'.Nodup
 old:∀(i:Nat) x,i<N.length->N'[i]?=some x->dW (tH scope sc) x=true->N[i]?=some x/\scope.names.lookup x=some .free
 len:N.length<=N'.length
def Ab(scope:Scope)(x:Str):Bool:=match scope.names.lookup x with
 |some .cell=>true
 |_=>false
structure FC(names:List (Str×NameKind))(cells:List (Str×Addr))(n:Nat)(cl:List (Str×Addr))(h:Heap):Prop where
 look:∀m c,cl.lookup m=some c->(cells.lookup m=some c/\¬(m,NameKind.cell)∈names)\/(n<=c/\(m,NameKind.cell)∈names/\h.IsCell c none)
 has:∀m,((m,NameKind.cell)∈names\/∃c,cells.lookup m=some c)->∃c,cl.lookup m=some c
 inj:∀x y c,n<=c->cl.lookup x=some c->cl.lookup y=some c->x=y
theorem nR:∀(names:List (Str×NameKind)) (cells:List (Str×Addr)) (s:Shared) (Q:List (Str×Addr)->Shared->Prop),(∀m c,cells.lookup m=some c->c<s.heap.objs.size) ->
  (∀cl h,(∀b o,s.heap.get? b=some o->h.get? b=some o)->FC names cells s.heap.objs.size cl h->Q cl { s with heap:=h }) ->
  wpAny M A (forIn names cells fun x __s=>match x with
   |(name,kind)=>if (kind==NameKind.cell)=true then do
     let a <-alloc { cls:=Value.type "cell",data:=Data.cell none }
     pure (ForInStep.yield ((name,a)::__s))
    else pure (ForInStep.yield __s)) Q E s
 |[],cells,s,Q,hb,q=>by
  refine au (q cells s.heap (fun _ _ e=>e) ⟨fun m c e=>.inl ⟨e,fun z=>nomatch z⟩,fun m hm=>hm.elim (fun z=>nomatch z) id,fun x y c hc e _=>absurd (hb x c e) (ub hc)⟩)
 |(name,kind)::bS,cells,s,Q,hb,q=>by
  rw[oI]
  by_cases hk:kind=.cell
  ·subst hk
   refine ae ?_
   show wpAny M A (alloc _ >>= _) _ _ s
   refine ae (Ef (au ?_))
   have hsz:(s.heap.push { cls:=Value.type "cell",data:=Data.cell none }).objs.size=s.heap.objs.size+1:=by rw[eD]
   refine nR bS _ _ _ (fun m c e=>?_) fun cl h kp f=>q cl h (fun b o e=>kp b o (ar _ e)) ⟨fun m c e=>?_,fun m hm=>f.has m ?_,fun x y c hc ex ey=>?_⟩
   ·show c<(s.heap.push { cls:=Value.type "cell",data:=Data.cell none }).objs.size
    rw[hsz]
    rw[cS] at e
    split at e
    ·cases e;exact e8 _
    ·exact io (hb m c e)
   ·have f':=f.look m c e
    rcases f' with⟨e1,e2⟩ | ⟨e1,e2,e3⟩
    ·rw[cS] at e1
     split at e1
     ·rename_i hm
      cases e1
      have Xy:m=name:=by simpa using hm
      subst Xy
      exact .inr ⟨ak _,by simp,⟨_,kp _ _ (aO _ rfl),rfl⟩⟩
     ·rename_i hm
      have Xy:m≠name:=by simpa using hm
      exact .inl ⟨e1,fun z=>by
       rcases aC.mp z with z | z
       ·exact Xy (bJ Prod.fst z)
       ·exact e2 z⟩
    ·have WV:s.heap.objs.size+1<=c:=by rw[<-hsz];exact e1
     exact .inr ⟨by omega,by simp[e2],e3⟩
   ·rcases hm with hm | ⟨c,hc⟩
    ·rcases aC.mp hm with z | z
     ·right
      have:m=name:=bJ Prod.fst z
      subst this
      exact⟨s.heap.objs.size,by rw[cS];simp⟩
     ·exact .inl z
    ·right
     rw[cS]
     split
     ·exact⟨_,rfl⟩
     ·exact⟨c,hc⟩
   ·by_cases T5:s.heap.objs.size+1<=c
    ·exact f.inj x y c (by show(s.heap.push _).objs.size<=c;rw[hsz];exact T5) ex ey
    ·have one:∀z,cl.lookup z=some c->z=name:=fun z ez=>by
      rcases f.look z c ez with⟨e1,_⟩ | ⟨e1,_⟩
      ·rw[cS] at e1
       split at e1
       ·rename_i hm;simpa using hm
       ·exact absurd (hb z c e1) (ub hc)
      ·exact absurd (show s.heap.objs.size+1<=c from aL (gI hsz.symm) e1) T5
     rw[one x ex,one y ey]
  ·have Ym:(kind==NameKind.cell)=false:=by simpa using hk
   have mem:∀m,(m,NameKind.cell)∈(name,kind)::bS ↔ (m,NameKind.cell)∈bS:=fun m=>by
    constructor
    ·intro z
     rcases aC.mp z with z | z
     ·exact absurd (bJ Prod.snd z).symm hk
     ·exact z
    ·intro z;simp[z]
   refine ae ?_
   show wpAny M A (if (kind==NameKind.cell)=true then _ else _) _ _ s
   rw[Ym,aq aE]
   refine au (nR bS cells s Q hb fun cl h kp f=>q cl h kp ⟨fun m c e=>?_,fun m hm=>f.has m ?_,f.inj⟩)
   ·rw[mem];exact f.look m c e
   ·rw[mem] at hm;exact hm
theorem Af{s:Shared}{scope:Scope}{env:Env}{cl:List (Str×Addr)}{Q:Env->Shared->Prop}(hb:∀m c,cl.lookup m=some c->c<s.heap.objs.size)(h:∀X0 h',(∀b o,s.heap.get? b=some o->h'.get? b=some o)->(∃m,h'.Ns s.heap.objs.size m)->FC scope.names cl s.heap.objs.size X0 h'->Q { scope:=scope,locals:=s.heap.objs.size,globals:=env.globals,cells:=X0,qual:=env.qual,func:=none,code:=env.code,frame:=env.frame,builtins:=env.builtins } { s with heap:=h' }):
  wpAny M A (newFunctionEnv scope env.globals cl [] env.qual none .none (some env)) Q E s:=by
 unfold newFunctionEnv
 refine ae (Ef ?_)
 have hsz:(s.heap.push { cls:=Value.type "dict",data:=Data.dict #[] }).objs.size=s.heap.objs.size+1:=by rw[eD]
 refine ae (nR scope.names cl _ _ (fun m c e=>?_) fun X0 h' kp f=>?_)
 ·show c<(s.heap.push { cls:=Value.type "dict",data:=Data.dict #[] }).objs.size
  rw[hsz];exact io (hb m c e)
 ·refine ae (au (au ?_))
  obtain⟨o,es,ep,g1,g2,g3,g4⟩:=Heap.Ns.new s.heap (.type "dict")
  refine h X0 h' (fun b o e=>kp b o (ar _ e)) ⟨_,o,es,ep,kp _ _ g1,g2,g3,g4⟩ ⟨fun m c e=>?_,f.has,fun x y c hc ex ey=>?_⟩
  ·rcases f.look m c e with z | ⟨z1,z2,z3⟩
   ·exact .inl z
   ·have z1':s.heap.objs.size+1<=c:=aL (gI hsz.symm) z1
    exact .inr ⟨Nat.le_of_succ_le z1',z2,z3⟩
  ·by_cases T5:s.heap.objs.size+1<=c
   ·exact f.inj x y c (aL (gI hsz) T5) ex ey
   ·have e:c=s.heap.objs.size:=Nat.le_antisymm (Nat.le_of_lt_succ (Nat.lt_of_not_le T5)) hc
    rcases f.look x c ex with⟨z,_⟩ | ⟨z,_⟩
    ·exact absurd (hb x c z) (ub hc)
    ·have z':s.heap.objs.size+1<=c:=aL (gI hsz.symm) z
     exact absurd z' T5
structure S9(X X':Cx)(N':List Str)(WH:Scope)(ow:Str->Bool):Prop where
 TV:VQ X' N' WH
 cal:X'.calm=X.calm
 prog:X'.prog=X.prog
 w':X'.w=X.w
 k':X'.K=X.K
 Sm:X'.mg=X.mg
 UB:X'.base=X.base
 a':X'.A=X.A
 fn':∀x,ow x=true->X'.fn x=true
structure TZ(X X':Cx)(N':List Str)(WH:Scope)(ow:Str->Bool):Prop where
 at':At X' N' WH
 prog:X'.prog=X.prog
 w':X'.w=X.w
 k':X'.K=X.K
 Sm:X'.mg=X.mg
 UB:X'.base=X.base
 a':X'.A=X.A
 fn':∀x,ow x=true->X'.fn x=true
section
variable {ow:Str->Bool}
theorem S9.calm(h:S9 X X' N' WH ow)(hc:X.calm=true):TZ X X' N' WH ow:=⟨h.TV.at (h.cal.trans hc),h.prog,h.w',h.k',h.Sm,h.UB,h.a',h.fn'⟩
theorem TZ.callee{C:List D->D->Prop}(h:TZ X X' N' WH ow)(c:Callee X x C):Callee X' x C:=by
 obtain⟨f,fd,ps,k,F,hr,hm,hk,hb⟩:=c
 refine⟨f,fd,ps,k,?_,?_,?_,?_,?_⟩
 ·rw[h.prog,h.w',h.k',h.Sm,h.UB];exact F
 ·rw[h.a'];exact hr
 ·rw[h.Sm];exact hm
 ·rw[h.k'];exact hk
 ·rw[h.k'];exact hb
end
inductive QY(X:Cx)(tg elt:Expr)(ifs:List Expr):List D->cp->List D->Prop where
 |nil {ρ:cp}:QY X tg elt ifs [] ρ []
 |take {d r:D} {ds rs:List D} {ρ ρ1:cp}:Tj X ρ tg d ρ1->(ifs=[]\/∃c,ifs=[c]/\Qs X ρ1 c true)->Qp X ρ1 elt r->QY X tg elt ifs ds ρ1 rs->QY X tg elt ifs (d::ds) ρ (r::rs)
 |skip {d:D} {ds rs:List D} {ρ ρ1:cp} {c:Expr}:Tj X ρ tg d ρ1->ifs=[c]->Qs X ρ1 c false->QY X tg elt ifs ds ρ1 rs->QY X tg elt ifs (d::ds) ρ rs
section
variable {R:Result->Shared->Prop}
theorem yH{env:Env}(I:Nat->Shared->Prop)(turn:∀n s,I n s->wpAny (model prog w) A (pyNext it) (fun r s₁=>match r with
   |none=>R (.ok .next) s₁
   |some v=>wpAny (model prog w) A (letOwnedTupleGo target it v) (fun _ s₀=>wpAny (model prog w) A (assign target env v) (fun _ s₂=>
     wpAny (model prog w) A (forIn ifs true fun c r=>if r=true then do let ok <-isTrue c env (eval c env);pure (ForInStep.yield ok) else pure (ForInStep.yield r)) (fun ok s₃=>
      if ok=true then wpAny (model prog w) A (eval elt env) (fun x s₄=>
       wpAny (model prog w) A (call (.builtin "list.append") [acc,x]) (fun _ s₅=>∃m,m<n/\I m s₅) (fun _ _=>False) s₄) (fun _ _=>False) s₃
      else ∃m,m<n/\I m s₃) (fun _ _=>False) s₂) (fun _ _=>False) s₀) (fun _ _=>False) s₁) (fun _ _=>False) s)(n:Nat)(h:I n s):
  codeAny (model prog w) A (.compLoop (.ListComp elt [⟨target,iter,ifs,0⟩] scope pos) 0 it acc env) R s:=by
 refine codeAny_loop rfl I (fun n s hI=>?_) n h
 show wpAny _ A ((compTurn (.ListComp elt [⟨target,iter,ifs,0⟩] scope pos) 0 it acc env).onRaise (fun x=>do noteFrame x env;theTreesLotGoes x)) _ _ s
 refine wpAny_noted ?_
 rw[compTurn_list]
 refine ae (i6 (ae (jP (turn n s hI) (fun r s₁ h₁=>?_) fun _ _ h'=>h'.elim)))
 cases r with
 |none=>exact au h₁
 |some v=>
  refine ae (jP h₁ (fun _ s₀ h₀=>ae (jP h₀ (fun _ s₂ h₂=>ae (jP h₂ (fun ok s₃ h₃=>?_) fun _ _ h'=>h'.elim)) fun _ _ h'=>h'.elim)) fun _ _ h'=>h'.elim)
  cases ok with
  |false=>exact au ⟨rfl,h₃⟩
  |true=>
   exact ae (ae (jP h₃ (fun x s₄ h₄=>ae (jP h₄ (fun _ s₅ h₅=>au (au ⟨rfl,h₅⟩)) fun _ _ h'=>h'.elim)) fun _ _ h'=>h'.elim))
end
theorem Ok.VI{K:PySem.W.Frag}{p:Addr}(k:Ok K B F H σ ρ)(hf:F p=none)(hb:B.H p=none)(hn:QS σ ρ p)(hl:∃vs,H p=some (.lst vs)):Ok K B F (cA H p o) σ ρ:=by
 refine⟨⟨fun b u q=>?_,fun b u q=>?_,k.sf,k.nw⟩,k.len,k.vals,fun i xs e=>?_,k.dist,k.QM.to (.refl _) (fun b φ e1 e2 _=>⟨by rw[aJ (fun z=>by subst z;obtain⟨vs,hl⟩:=hl;rw[hl] at e1;cases e1)];exact e1,e2⟩) fun _ _ e=>⟨e,rfl⟩⟩
 ·have ne:b≠p:=fun z=>by subst z;rw[hf] at q;cases q
  rw[aJ ne];exact k.sub b u q
 ·have ne:b≠p:=fun z=>by subst z;rw[hb] at q;cases q
  rw[aJ ne];exact k.sh b u q
 ·obtain⟨a,vs,h1,h2,h3,h4,h5⟩:=k.Rj i xs e
  have ne:a≠p:=fun z=>by subst z;exact hn i xs e h1
  exact⟨a,vs,h1,by rw[aJ ne];exact h2,h3,h4,h5⟩
theorem Ok.more{K:PySem.W.Frag}(k:Ok K B F H σ ρ)(n:Nat):Ok K B F H (σ++List.replicate n none) (ρ++List.replicate n .un):=by
 have get:∀(i:Nat) s,(ρ++List.replicate n Sl.un)[i]?=some s->s ≠ .un->ρ[i]?=some s/\(σ++List.replicate n none)[i]?=σ[i]?:=fun i s h hn=>by
  by_cases hi:i<ρ.length
  ·rw[bg hi] at h
   exact⟨h,bg (by rw[k.len];exact hi)⟩
  ·rw[be (by omega),dk] at h
   split at h
   ·cases h;exact absurd rfl hn
   ·cases h
 refine⟨k.toExt,by simp[k.len],fun i d h=>?_,fun i xs h=>?_,fun i j xs ys a h1 h2 h3 h4=>?_,k.QM.to (.refl _) (fun _ _ e1 e2 _=>⟨e1,e2⟩) fun i kvs h=>get i _ h fun z=>nomatch z⟩
 ·obtain⟨e1,e2⟩:=get i _ h fun z=>nomatch z
  rw[e2];exact k.vals i d e1
 ·obtain⟨e1,e2⟩:=get i _ h fun z=>nomatch z
  rw[e2];exact k.Rj i xs e1
 ·obtain⟨e1,e2⟩:=get i _ h1 fun z=>nomatch z
  obtain⟨g1,g2⟩:=get j _ h2 fun z=>nomatch z
  rw[e2] at h3;rw[g2] at h4
  exact k.dist i j xs ys a e1 g1 h3 h4
theorem j8{x:Str}{names:List (Str×NameKind)}{k:NameKind}(h:names.lookup x=some k):(x,k)∈names:=fU h
theorem uZ{scope sc:Scope}{x:Str}(hf:sc.kind=.function)(fr:∀y∈scope.names,y.2=.free->sc.names.lookup y.1=some .cell){k:NameKind}(h:(tH scope sc).names.lookup x=some k):
  ∃k',scope.names.lookup x=some k'/\(k'=.free->k=.cell)/\(k' ≠ .free->k=k'):=by
 have go:∀names:List (Str×NameKind),(∀y∈names,y.2=.free->sc.names.lookup y.1=some .cell)->(names.map fun(n,k)=>if (k==NameKind.free&&sc.kind == .function&&sc.names.lookup n==some .cell) then (n,NameKind.cell) else (n,k)).lookup x=some k ->
   ∃k',names.lookup x=some k'/\(k'=.free->k=.cell)/\(k' ≠ .free->k=k'):=by
  intro names
  induction names with
  |nil=>intro _ h;cases h
  |cons y r ih=>
   intro fr h
   obtain⟨n,kk⟩:=y
   have hr:=ih fun y hy=>fr y (aY _ hy)
   by_cases Wh:kk=.free
   ·subst Wh
    have hc:=fr (n,.free) bK rfl
    have e:(if (NameKind.free==NameKind.free&&sc.kind == .function&&sc.names.lookup n==some .cell)=true then (n,NameKind.cell) else (n,NameKind.free))=(n,NameKind.cell):=by
     have T5:sc.names.lookup n=some .cell:=hc
     rw[T5,hf];rfl
    rw[aS] at h
    simp only[e] at h
    rw[cS] at h ⊢
    cases hx:x==n with
    |true=>rw[hx] at h;cases h;exact⟨.free,rfl,fun _=>rfl,fun z=>absurd rfl z⟩
    |false=>rw[hx] at h;exact hr h
   ·have e:(if (kk==NameKind.free&&sc.kind == .function&&sc.names.lookup n==some .cell)=true then (n,NameKind.cell) else (n,kk))=(n,kk):=by
     have hb:(kk==NameKind.free)=false:=bj.mpr Wh
     rw[hb];rfl
    rw[aS] at h
    simp only[e] at h
    rw[cS] at h ⊢
    cases hx:x==n with
    |true=>rw[hx] at h;cases h;exact⟨_,rfl,fun z=>absurd z Wh,fun _=>rfl⟩
    |false=>rw[hx] at h;exact hr h
 exact go scope.names fr h
def N0(X:Cx)(N':List Str)(scope:Scope)(cl:List (Str×Addr))(C:Addr)(s3:Shared)(H3:Hp)(fp:List Addr):Cx:=
 { X with N:=N',s₀:=s3,H₀:=H3,env:=compEnvC scope cl C X.env,outer:=X.stack,stack:=X.stack,ex:=fp,fn:=Ab scope,pn:=[],xe:=fun _ _=>False }
section
variable {tn:Nat->Heap->Prop}{J:It}{ds rs:List D}
theorem LF{cl UP:List (Str×Addr)}(t:VQ X N sc)(S:oH N sc N' scope)(I3:Inv X pins σ H3 s3)(hc1:∀n c,UP.lookup n=some c->X.env.cells.lookup n=some c)(hc2:∀n,(n,NameKind.free)∈scope.names->∃c,UP.lookup n=some c)(CN:FC scope.names UP s3.heap.objs.size cl h₁)(fo:∀b∈fp,rY X pins H3 b)(fl:∀b∈fp,b<s3.heap.objs.size):(N0 X N' scope cl s3.heap.objs.size s3 H3 fp).Ok:=by
 refine⟨I3.ok.mod,?_,I3.ok.glob,I3.ok.blt,ak _,fun x y c h1 h2=>?_,fun x hx=>?_,(fun x c hf h=>?_),I3.ok.hd,I3.ok.frames,.inl rfl,fun b hb=>⟨?_,fun x c h=>?_⟩,I3.bs,aL I3.ok.VO I3.sz,fun b o h hb=>?_,fun b hb h=>?_,I3.stack,I3.Uq⟩
 ·exact S.kind
 ·by_cases hc:s3.heap.objs.size<=c
  ·exact CN.inj x y c hc h1 h2
  ·have old:∀z,cl.lookup z=some c->X.env.cells.lookup z=some c:=fun z ez=>by
    rcases CN.look z c ez with⟨e,_⟩ | ⟨e,_⟩
    ·exact hc1 z c e
    ·exact absurd e hc
   exact I3.ok.inj x y c (old x h1) (old y h2)
 ·have Vz:(relabel scope X.env).names.lookup x=some .cell\/(relabel scope X.env).names.lookup x=some .free:=hx
  rw[xZ t.eS] at Vz
  have hk:∃k,(k=NameKind.cell\/k=.free)/\(tH scope sc).names.lookup x=some k:=by
   rcases Vz with h | h
   ·exact⟨_,.inl rfl,h⟩
   ·exact⟨_,.inr rfl,h⟩
  obtain⟨k,hk,h⟩:=hk
  obtain⟨k',h1,h2,h3⟩:=uZ S.XR S.free h
  by_cases hf:k'=.free
  ·subst hf;exact CN.has x (.inr (hc2 x (j8 h1)))
  ·have e:=h3 hf
   rcases hk with hk | hk
   ·have e':k'=.cell:=e.symm.trans hk
    subst e'
    exact CN.has x (.inl (j8 h1))
   ·exact absurd (e.symm.trans hk) hf
 ·have hm:(x,NameKind.cell)∈scope.names:=by
   have XC:Ab scope x=true:=hf
   unfold Ab at XC
   cases e:scope.names.lookup x with
   |none=>rw[e] at XC;cases XC
   |some kk=>rw[e] at XC;cases kk<;>first | exact j8 e | cases XC
  rcases CN.look x c h with⟨_,e⟩ | ⟨e,_⟩
  ·exact absurd hm e
  ·exact e
 ·exact bi (fl b hb)
 ·rcases CN.look x c h with⟨e,_⟩ | ⟨e,_⟩
  ·exact(fo b hb).2.2.2.2.1 x c (hc1 x c e)
  ·exact fun z=>absurd (fl b hb) (by rw[<-z];exact ub e)
 ·rcases(fo b hb).2.2.2.1 with z | z
  ·exact I3.ok.UY b o h z
  ·have h1:=aW h
   have h2:=I3.ok.VO
   exact absurd (bf h1 (aL h2 z)) (eZ _)
 ·have h':b∈jv X.stack:=h
  rcases aC.mp (I3.T7 b h') with z | z
  ·exact(fo b hb).2.1 z
  ·exact(fo b hb).2.2.1 z
theorem II{tk:Nat}{cl UP:List (Str×Addr)}(t:VQ X N sc)(S:oH N sc N' scope)(I3:Inv X pins σ H3 s3)(hc1:∀n c,UP.lookup n=some c->X.env.cells.lookup n=some c)(hc2:∀n,(n,NameKind.free)∈scope.names->∃c,UP.lookup n=some c)(CN:FC scope.names UP s3.heap.objs.size cl h₁)(fo:∀b∈fp,rY X pins H3 b)(fl:∀b∈fp,b<s3.heap.objs.size)(Yj:∃m,h₁.Ns s3.heap.objs.size m)(kp:∀b o,s3.heap.get? b=some o->h₁.get? b=some o):
  Inv (N0 X N' scope cl s3.heap.objs.size s3 H3 fp) [] (σ++List.replicate (N'.length-N.length) none) H3 { s3 with heap:=h₁,toks:=tk }:=by
 obtain⟨m,hm⟩:=Yj
 have hlen:σ.length=N.length:=by rw[I3.len,t.eN]
 refine⟨LF t S I3 hc1 hc2 CN fo fl,rfl,I3.bare,Un.kept kp,⟨m,hm,fun i x v h1 h2 h3=>?_⟩,fun x c h=>?_,I3.QG.fresh (ak _),fun x c h=>(CN.look x c h).elim (fun z=>I3.RS x c (hc1 x c z.1)) (fun z=>I3.QG.fresh z.1),(fun p hp=>nomatch hp),I3.QG.kept kp,?_⟩
 ·have hi:i<σ.length:=by
   by_cases hi:i<σ.length
   ·exact hi
   ·rw[be (by omega),dk] at h2
    split at h2<;>cases h2
  rw[bg hi] at h2
  have h3':Nz (tH scope sc) x:=by rw[<-xZ t.eS];exact h3
  have hv:dW (tH scope sc) x=true:=by
   unfold dW
   rcases h3' with z | z | z<;>rw[z]
  obtain⟨e1,e2⟩:=S.old i x (by omega) h1 hv
  have Sq:sc.names.lookup x=some .cell:=S.free _ (j8 e2) rfl
  obtain⟨m0,hn0,ZJ⟩:=I3.loc
  obtain⟨u,ru,lk⟩:=ZJ i x v (by rw[t.eN];exact e1) h2 (by rw[t.eS];exact .inr (.inl Sq))
  refine⟨u,ru,?_⟩
  have hkx:X.env.kindOf x=some .cell:=by show X.env.scope.names.lookup x=_;rw[t.eS];exact Sq
  rcases lk with⟨k,_⟩ | ⟨_,c,hc,Yq⟩
  ·rw[hkx] at k;cases k
  ·obtain⟨c',T5⟩:=CN.has x (.inr (hc2 x (j8 e2)))
   have ho:UP.lookup x=some c':=by
    rcases CN.look x c' T5 with⟨z,_⟩ | ⟨_,z,_⟩
    ·exact z
    ·have z':=S.cells _ z rfl
     rw[e2] at z';cases z'
   have e:c'=c:=bB ((hc1 x c' ho).symm.trans hc)
   subst e
   refine .inr ⟨?_,c',T5,?_⟩
   ·show(relabel scope X.env).names.lookup x=_\/(relabel scope X.env).names.lookup x=_
    rw[xZ t.eS]
    rcases h3' with z | z | z
    ·obtain⟨k',g1,g2,g3⟩:=uZ S.XR S.free z
     by_cases Ym:k'=.free
     ·have:=g2 Ym;cases this
     ·have e:=g3 Ym
      subst e
      rw[e2] at g1
      cases g1
    ·exact .inl z
    ·exact .inr z
   ·obtain⟨oc,ho,hd⟩:=Yq
    exact⟨oc,kp _ _ ho,hd⟩
 ·rcases CN.look x c h with⟨z,_⟩ | ⟨_,_,z⟩
  ·obtain⟨v,oc,ho,hd⟩:=I3.cell x c (hc1 x c z)
   exact⟨v,oc,kp _ _ ho,hd⟩
  ·exact⟨_,z⟩
 ·show(σ++List.replicate (N'.length-N.length) none).length=N'.length
  have:=S.len
  rw[ac,fh,hlen]
  omega
end
def NN(X:Cx)(pins:List (Addr×Obj))(σ:St)(F2 H2:Hp)(rs:List D)(D' C:Addr)(s':Shared):Prop:=
 ∃(F' H':Hp) (vs:List V) (m:Str->Option Value),Inv X pins σ H' s'/\s'.heap.Ns C m/\H' C=none/\C≠X.env.locals/\X.s₀.heap.objs.size<=C/\(∀x c,X.env.cells.lookup x=some c->c≠C)/\(∀p∈X.pn++pins,p.1≠C) /\
  Ext ⟨F2,H2⟩ F' H'/\H2 D'=none/\H' D'=some (.lst vs)/\F' D'=none/\Qq X.K F' vs rs/\D'≠C
section
variable {tn:Nat->Heap->Prop}{J:It}{ds rs:List D}
theorem D3{s3:Shared}{DD C:Addr}{h₁:Heap}{tk:Nat}{cl UP:List (Str×Addr)}(t:VQ X N sc)(md:X.calm=true\/(J.Xx/\NH X.A H2))(S:oH N sc N' scope)(hC:s3.heap.objs.size=C)(Z3:DD≠C)(I3:Inv X pins σ (cA H2 DD (.lst [])) s3)(U3:H2 DD=none)(WT:∀b∈fp,rY X pins (cA H2 DD (.lst [])) b)(fl3:∀b∈fp,b<s3.heap.objs.size)(T:wP X.prog X.w X.K tg J fp it tn)(tn3:tn 0 s3.heap)(Wf:∃m,h₁.Ns s3.heap.objs.size m)(kp4:∀b o,s3.heap.get? b=some o->h₁.get? b=some o)(k2:Ok X.K B F2 H2 σ ρ)(JO:t6 X.K J F2 ds)(hz:ds.length<sizeLine)(hc1:∀n c,UP.lookup n=some c->X.env.cells.lookup n=some c)(hc2:∀n,(n,NameKind.free)∈scope.names->∃c,UP.lookup n=some c)(CN:FC scope.names UP s3.heap.objs.size cl h₁)(run:∀X',S9 X X' N' (tH scope sc) (Ab scope)->QY X' tg elt ifs ds (ρ++List.replicate (N'.length-N.length) .un) rs){RR:Value->Addr->Result->Shared->Prop}(Z2:∀D' C s',NN X pins σ F2 H2 rs D' C s'->RR (.ref D') C (.ok .next) s'):
  codeAny (model X.prog X.w) X.A (.compStart (.ListComp elt [⟨tg,iter,ifs,0⟩] scope pos) 0 (.ref it) (.ref DD) (compEnvC scope cl C X.env)) (RR (.ref DD) C) { s3 with heap:=h₁,toks:=tk }:=by
 have I4:Inv (N0 X N' scope cl C s3 (cA H2 DD (.lst [])) fp) [] (σ++List.replicate (N'.length-N.length) none) (cA H2 DD (.lst [])) { s3 with heap:=h₁,toks:=tk }:=by
  have q:=II (N':=N') (tk:=tk) (fp:=fp) t S I3 hc1 hc2 CN WT fl3 Wf kp4
  rw[hC] at q
  exact q
 generalize VU:N0 X N' scope cl C s3 (cA H2 DD (.lst [])) fp=X' at I4
 have cx:S9 X X' N' (tH scope sc) (Ab scope):=by
  subst VU
  exact⟨⟨rfl,xZ t.eS,S.nd,rfl,t.un,t.dp,t.tree,t.fr⟩,rfl,rfl,rfl,rfl,rfl,rfl,rfl,fun x hx=>hx⟩
 have md':X'.calm=true\/(J.Xx/\LQ X'):=by
  rcases md with z | ⟨z,ea,oe,u,vs,k1,k2,k3,k4⟩
  ·exact .inl (cx.cal.trans z)
  ·refine .inr ⟨z,ea,oe,u,vs,by rw[cx.a'];exact k1,?_,k3,k4⟩
   have e:X'.H₀=cA H2 DD (.lst []):=by subst VU;rfl
   rw[e,aJ (dv k2 U3)];exact k2
 have run':=run X' cx
 have eP:X'.prog=X.prog:=cx.prog
 have eW:X'.w=X.w:=cx.w'
 have eA:X'.A=X.A:=cx.a'
 have eK:X'.K=X.K:=cx.k'
 have Vb:X'.env=compEnvC scope cl C X.env:=by subst VU;rfl
 have eX:X'.xe=fun _ _=>False:=cx.TV.Tx
 have XW:X'.ex=fp:=by subst VU;rfl
 have ePn:X'.pn=[]:=by subst VU;rfl
 have k4:Ok X.K B F2 (cA H2 DD (.lst [])) (σ++List.replicate (N'.length-N.length) none) (ρ++List.replicate (N'.length-N.length) .un):=(k2.XM U3).more _
 have no4:QS (σ++List.replicate (N'.length-N.length) none) (ρ++List.replicate (N'.length-N.length) .un) DD:=(k2.more _).noOwn U3
 have bD:B.H DD=none:=k2.sh.free U3
 have fD:F2 DD=none:=k2.sub.free U3
 have Z8:∀{H':Hp},(∀b∈fp,H' b=none)->∀b∈fp,rY X' [] H' b:=fun {H'} hn b hb=>by
  refine⟨hn b hb,?_,?_,.inl (by rw[XW];exact hb),fun x c h=>?_,fun p hp=>?_⟩
  ·exact(I4.ok.Ys b (by rw[XW];exact hb)).1
  ·exact I4.ok.U8 b (by rw[XW];exact hb)
  ·exact(I4.ok.Ys b (by rw[XW];exact hb)).2 x c h
  ·rw[ePn] at hp;exact nomatch hp
 have fin:∀(σ':St) (F' H':Hp) (vs:List V) (s':Shared),Inv X' [] σ' H' s'->Ext ⟨F2,H2⟩ F' H'->H' DD=some (.lst vs)->F' DD=none->Qq X.K F' vs rs->RR (.ref DD) C (.ok .next) s':=fun σ' F' H' vs s' I' x' h1 h2 h3=>by
  refine Z2 DD C s' ?_
  have base:=I'.base
  have Vj:=I'.os
  have XB:=I'.QG
  have So:=I'.free
  obtain⟨m,hm,_⟩:=I'.loc
  rw[Vb] at So hm
  rw[XW] at base
  have e1:X'.fs=jv X.stack:=by subst VU;rfl
  have e2:X'.H₀=cA H2 DD (.lst []):=by subst VU;rfl
  have e3:X'.s₀=s3:=by subst VU;rfl
  rw[e1,e2,e3] at base
  rw[e3] at Vj
  rw[eP,eW] at XB
  have IX:Inv X pins σ H' s':=I3.X2 (ch:=fp) Vj base XB I'.bare fun b hb=>⟨(WT b hb).2.2.2.1,(WT b hb).2.1,(WT b hb).2.2.2.2.1,(WT b hb).2.2.2.2.2⟩
  refine⟨F',H',vs,m,IX,hm,So,?_,?_,fun x c h z=>?_,fun p hp z=>?_,x',U3,h1,h2,h3,Z3⟩
  ·have:=I3.lt;rw[hC] at this;exact fun z=>absurd (z ▸ this) (eZ _)
  ·have:=I3.sz;rw[hC] at this;exact this
  ·obtain⟨v,q⟩:=I3.cell x c h
   have:=q.lt;rw[hC,z] at this;exact absurd this (eZ _)
  ·have:=aW (I3.pin p hp).1
   rw[hC,z] at this;exact absurd this (eZ _)
 have tn4:tn 0 h₁:=T.keep 0 _ _ tn3 fun b hb o e=>kp4 b o e
 have loop:∀s4:Shared,s4 = { s3 with heap:=h₁,toks:=tk } ->
   codeAny (model X.prog X.w) X.A (.compLoop (.ListComp elt [⟨tg,iter,ifs,0⟩] scope pos) 0 (.ref it) (.ref DD) (compEnvC scope cl C X.env)) (RR (.ref DD) C) s4:=by
  rintro s4 rfl
  refine yH (fun n s'=>∃(i:Nat) (σ':St) (F' H':Hp) (ρ':cp) (vs:List V) (r0 r1:List D),Inv X' [] σ' H' s'/\tn i s'.heap/\(∀b∈fp,H' b=none)/\Ok X.K B F' H' σ' ρ'/\Ext ⟨F2,H2⟩ F' H'/\H' DD=some (.lst vs)/\F' DD=none/\QS σ' ρ' DD /\
    Qq X.K F' vs r0/\QY X' tg elt ifs (ds.drop i) ρ' r1/\r0++r1=rs/\r0.length<=i/\i<=ds.length/\n=ds.length+1-i) ?_ (ds.length+1)
   ⟨0,_,F2,_,_,[],[],rs,I4,tn4,fun b hb=>(WT b hb).1,k4,⟨k2.sub.trans (aP U3),aP U3,.refl _,fun a h=>.inl h⟩,aK,fD,no4,.nil,by simpa using run',rfl,bu _,bu _,by simp⟩
  rintro n s' ⟨i,σ',F',H',ρ',vs,r0,r1,I',tni,fpi,k',x',hH,hF,no',rv,cr,er,hr0,hi,rfl⟩
  have JO':=JO i F' H' x'.sf k'.sub
  have TI:=T.item X' eP eW eK md' i [] s' σ' H' (fun _ _=>False) I' (Z8 fpi) tni
  have TD:=T.done X' eP eW eK md' i [] s' σ' H' (fun _ _=>False) I' (Z8 fpi) tni
  rw[eA] at TI TD
  generalize e1:ds.drop i=bS at cr
  have stepI:∀{d:D} {rest':List D} {ρ1:cp} (hd:ds[i]?=some d) (g:Tj X' ρ' tg d ρ1)
    (K:∀(Q9:List (Addr×Obj)) (s5:Shared) (σ5:St) (F5 H5:Hp),Inv X' Q9 σ5 H5 s5->Ok X.K B F5 H5 σ5 ρ1->Ext ⟨F2,H2⟩ F5 H5->H5 DD=some (.lst vs)->F5 DD=none->QS σ5 ρ1 DD->Qq X.K F5 vs r0 ->
     (∀(s6:Shared) (σ6:St) (H6:Hp),Inv X' Q9 σ6 H6 s6->Inv X' [] σ6 H6 s6/\tn (i+1) s6.heap/\∀b∈fp,H6 b=none) ->
     wpAny (model X.prog X.w) X.A (forIn ifs true fun c r=>if r=true then do let ok <-isTrue c (compEnvC scope cl C X.env) (eval c (compEnvC scope cl C X.env));pure (ForInStep.yield ok) else pure (ForInStep.yield r)) (fun ok s₃=>
      if ok=true then wpAny (model X.prog X.w) X.A (eval elt (compEnvC scope cl C X.env)) (fun x s₄=>
       wpAny (model X.prog X.w) X.A (call (.builtin "list.append") [.ref DD,x]) (fun _ s₅=>∃m,m<ds.length+1-i/\∃(i:Nat) (σ':St) (F' H':Hp) (ρ':cp) (vs:List V) (r0 r1:List D),Inv X' [] σ' H' s₅/\tn i s₅.heap/\(∀b∈fp,H' b=none)/\Ok X.K B F' H' σ' ρ'/\Ext ⟨F2,H2⟩ F' H'/\H' DD=some (.lst vs)/\F' DD=none/\QS σ' ρ' DD /\
    Qq X.K F' vs r0/\QY X' tg elt ifs (ds.drop i) ρ' r1/\r0++r1=rs/\r0.length<=i/\i<=ds.length/\m=ds.length+1-i) (fun _ _=>False) s₄) (fun _ _=>False) s₃
      else ∃m,m<ds.length+1-i/\∃(i:Nat) (σ':St) (F' H':Hp) (ρ':cp) (vs:List V) (r0 r1:List D),Inv X' [] σ' H' s₃/\tn i s₃.heap/\(∀b∈fp,H' b=none)/\Ok X.K B F' H' σ' ρ'/\Ext ⟨F2,H2⟩ F' H'/\H' DD=some (.lst vs)/\F' DD=none/\QS σ' ρ' DD /\
    Qq X.K F' vs r0/\QY X' tg elt ifs (ds.drop i) ρ' r1/\r0++r1=rs/\r0.length<=i/\i<=ds.length/\m=ds.length+1-i) (fun _ _=>False) s5),
    wpAny (model X.prog X.w) X.A (pyNext (.ref it)) (fun r s₁=>match r with
   |none=>RR (.ref DD) C (.ok .next) s₁
   |some v=>wpAny (model X.prog X.w) X.A (letOwnedTupleGo tg (.ref it) v) (fun _ s₀=>wpAny (model X.prog X.w) X.A (assign tg (compEnvC scope cl C X.env) v) (fun _ s₂=>
     wpAny (model X.prog X.w) X.A (forIn ifs true fun c r=>if r=true then do let ok <-isTrue c (compEnvC scope cl C X.env) (eval c (compEnvC scope cl C X.env));pure (ForInStep.yield ok) else pure (ForInStep.yield r)) (fun ok s₃=>
      if ok=true then wpAny (model X.prog X.w) X.A (eval elt (compEnvC scope cl C X.env)) (fun x s₄=>
       wpAny (model X.prog X.w) X.A (call (.builtin "list.append") [.ref DD,x]) (fun _ s₅=>∃m,m<ds.length+1-i/\∃(i:Nat) (σ':St) (F' H':Hp) (ρ':cp) (vs:List V) (r0 r1:List D),Inv X' [] σ' H' s₅/\tn i s₅.heap/\(∀b∈fp,H' b=none)/\Ok X.K B F' H' σ' ρ'/\Ext ⟨F2,H2⟩ F' H'/\H' DD=some (.lst vs)/\F' DD=none/\QS σ' ρ' DD /\
    Qq X.K F' vs r0/\QY X' tg elt ifs (ds.drop i) ρ' r1/\r0++r1=rs/\r0.length<=i/\i<=ds.length/\m=ds.length+1-i) (fun _ _=>False) s₄) (fun _ _=>False) s₃
      else ∃m,m<ds.length+1-i/\∃(i:Nat) (σ':St) (F' H':Hp) (ρ':cp) (vs:List V) (r0 r1:List D),Inv X' [] σ' H' s₃/\tn i s₃.heap/\(∀b∈fp,H' b=none)/\Ok X.K B F' H' σ' ρ'/\Ext ⟨F2,H2⟩ F' H'/\H' DD=some (.lst vs)/\F' DD=none/\QS σ' ρ' DD /\
    Qq X.K F' vs r0/\QY X' tg elt ifs (ds.drop i) ρ' r1/\r0++r1=rs/\r0.length<=i/\i<=ds.length/\m=ds.length+1-i) (fun _ _=>False) s₂) (fun _ _=>False) s₀) (fun _ _=>False) s₁) (fun _ _=>False) s':=by
   intro d rest' ρ1 hd g K
   obtain⟨go,yl⟩:=JO'.1 _ hd
   refine de (TI go) fun r s4 ⟨u,hr,h4⟩=>?_
   subst hr
   refine de h4 fun _ s5 ⟨x,H5,I5,r5,y5,V1,Z7⟩=>?_
   obtain⟨F5,x5,rx⟩:=yl x H5 y5
   have I5':=I5.pinned (Z8 Z7) (T.obj _ _ V1)
   have gg:=g B F5 H5 σ' x (fun σ6 H6=>H6=H5/\Ok X.K B F5 H5 σ6 ρ1/\QS σ6 ρ1 DD) (by rw[eK];exact k'.ext x5) (by rw[eK];exact rx) (fun σ6 k6 n6=>⟨rfl,by rw[eK] at k6;exact k6,n6 DD no'⟩) _ s5 u I5' r5
   rw[eP,eW,eA,Vb,eX] at gg
   refine de gg fun _ s6 ⟨σ6,H6,I6,e6,k6,n6⟩=>?_
   subst e6
   refine K _ s6 σ6 F5 H6 I6 k6 (x'.t x5) (x5.sh _ _ hH) ?_ n6 (rv.mono x5.sf) fun s7 σ7 H7 I7=>⟨I7.Si,T.keep _ _ _ V1 fun b hb o e=>(I7.pin (b,o) (bA _ (bA _ (my hb e)))).1,fun b hb=>?_⟩
   ·cases q:F5 DD with
    |none=>rfl
    |some w=>
     rcases x5.nw DD (by rw[q];exact fun z=>nomatch z) with z | z
     ·exact absurd hF z
     ·have z':H' DD=none:=z
      rw[hH] at z';cases z'
   ·obtain⟨o,e,d⟩:=T.obj _ _ V1 b hb
    exact(I7.pin (b,o) (bA _ (bA _ (my hb e)))).2.1
  have XU:∀{d r:D} {rest' Yb:List D} {ρ1:cp} (QW:i<ds.length) (Wm:ds.drop (i+1)=rest') (ev:Qp X' ρ1 elt r) (Wv:QY X' tg elt ifs rest' ρ1 Yb) (er':r0++(r::Yb)=rs) (Q9:List (Addr×Obj)) (s5:Shared) (σ5:St) (F5 H5:Hp),Inv X' Q9 σ5 H5 s5->Ok X.K B F5 H5 σ5 ρ1->Ext ⟨F2,H2⟩ F5 H5->H5 DD=some (.lst vs)->F5 DD=none->QS σ5 ρ1 DD->Qq X.K F5 vs r0 ->
     (∀(s6:Shared) (σ6:St) (H6:Hp),Inv X' Q9 σ6 H6 s6->Inv X' [] σ6 H6 s6/\tn (i+1) s6.heap/\∀b∈fp,H6 b=none) ->
     wpAny (model X.prog X.w) X.A (eval elt (compEnvC scope cl C X.env)) (fun x s₄=>
       wpAny (model X.prog X.w) X.A (call (.builtin "list.append") [.ref DD,x]) (fun _ s₅=>∃m,m<ds.length+1-i/\∃(i:Nat) (σ':St) (F' H':Hp) (ρ':cp) (vs:List V) (r0 r1:List D),Inv X' [] σ' H' s₅/\tn i s₅.heap/\(∀b∈fp,H' b=none)/\Ok X.K B F' H' σ' ρ'/\Ext ⟨F2,H2⟩ F' H'/\H' DD=some (.lst vs)/\F' DD=none/\QS σ' ρ' DD /\
    Qq X.K F' vs r0/\QY X' tg elt ifs (ds.drop i) ρ' r1/\r0++r1=rs/\r0.length<=i/\i<=ds.length/\m=ds.length+1-i) (fun _ _=>False) s₄) (fun _ _=>False) s5:=by
   intro d r rest' Yb ρ1 QW Wm ev Wv er' Q9 s5 σ5 F5 H5 I5 k5 x5 h5 f5 n5 V3 back
   have ee:=ev B F5 H5 σ5 (fun v H6=>∃F6,Ext ⟨F5,H5⟩ F6 H6/\Rep X.K F6 v r) (by rw[eK];exact k5) (fun v F6 H6 x6 r6=>⟨F6,x6,by rw[eK] at r6;exact r6⟩) Q9 s5 I5
   rw[eP,eW,eA,Vb,eX] at ee
   refine de ee fun u s6 ⟨v,H6,I6,ru,F6,x6,r6⟩=>?_
   have h6:=x6.sh _ _ h5
   have f6:F6 DD=none:=by
    cases q:F6 DD with
    |none=>rfl
    |some w=>
     rcases x6.nw DD (by rw[q];exact fun z=>nomatch z) with z | z
     ·exact absurd f5 z
     ·have z':H5 DD=none:=z
      rw[h5] at z';cases z'
   have hlen:vs.length<sizeLine:=by
    have:=V3.length
    omega
   have app:=lU (X:=X') Q9 s6 σ5 H6 (.ref DD) [v] (.ref DD) [u] (fun z H7=>H7=cA H6 DD (.lst (vs++[v]))) I6 rfl (.cons ru .nil) ⟨DD,vs,v,rfl,rfl,h6,hlen,rfl⟩
   rw[eP,eW,eA,eX] at app
   refine de app fun _ s7 ⟨z,H7,I7,_,e7⟩=>?_
   subst e7
   obtain⟨I8,t8,f8⟩:=back s7 σ5 _ I7
   have x7:=x5.t x6
   refine⟨ds.length+1-(i+1),by omega,i+1,σ5,F6,_,ρ1,vs++[v],r0++[r],Yb,I8,t8,f8,(k5.ext x6).VI f6 bD n5 ⟨_,h6⟩,⟨fun b w q=>?_,fun b w q=>?_,x7.sf,x7.nw⟩,aK,f6,n5,(V3.mono x6.sf).append (.cons r6 .nil),by rw[Wm];exact Wv,by rw[ax];exact er',by rw[ac,bL];omega,QW,rfl⟩
   ·have ne:b≠DD:=fun z=>by subst z;rw[f6] at q;cases q
    rw[aJ ne];exact x6.sub b w q
   ·have ne:b≠DD:=fun z=>by subst z;have q':H2 b=some w:=q;rw[U3] at q';cases q'
    rw[aJ ne];exact x7.sh b w q
  cases cr with
  |nil=>
   have hl:ds.length<=i:=by
    have:=bJ List.length e1
    rw[dj,fC] at this
    omega
   refine de (TD (JO'.2 hl)) fun r s4 ⟨hr,I4'⟩=>?_
   subst hr
   rw[aU] at er
   subst er
   exact fin σ' F' H' vs s4 I4' x' hH hF rv
  |@take d r XY rs0 ρ0 ρ1 g ci ev Wv=>
   obtain⟨hd,Wm,QW⟩:=jX e1
   refine stepI (rest':=XY) hd g fun Q9 s5 σ5 F5 H5 I5 k5 x5 h5 f5 n5 V3 back=>?_
   rcases ci with rfl | ⟨c,rfl,et⟩
   ·refine wpAny_tests_nil ?_
    rw[ay rfl]
    exact XU (d:=d) QW Wm ev Wv er Q9 s5 σ5 F5 H5 I5 k5 x5 h5 f5 n5 V3 back
   ·have tt:=et B F5 H5 σ5 (fun b H6=>b=true/\∃F6,Ext ⟨F5,H5⟩ F6 H6) (by rw[eK];exact k5) (fun F6 H6 x6=>⟨rfl,F6,x6⟩) Q9 s5 I5
    rw[eP,eW,eA,Vb,eX] at tt
    refine wpAny_tests_one (de tt fun b s6 ⟨H6,I6,eb,F6,x6⟩=>?_)
    subst eb
    rw[ay rfl]
    have f6:F6 DD=none:=by
     cases q:F6 DD with
     |none=>rfl
     |some w=>
      rcases x6.nw DD (by rw[q];exact fun z=>nomatch z) with z | z
      ·exact absurd f5 z
      ·have z':H5 DD=none:=z
       rw[h5] at z';cases z'
    exact XU (d:=d) QW Wm ev Wv er Q9 s6 σ5 F6 H6 I6 (k5.ext x6) (x5.t x6) (x6.sh _ _ h5) f6 n5 (V3.mono x6.sf) back
  |@skip d XY rs0 ρ0 ρ1 c g hc et Wv=>
   obtain⟨hd,Wm,QW⟩:=jX e1
   subst hc
   refine stepI (rest':=XY) hd g fun Q9 s5 σ5 F5 H5 I5 k5 x5 h5 f5 n5 V3 back=>?_
   have tt:=et B F5 H5 σ5 (fun b H6=>b=false/\∃F6,Ext ⟨F5,H5⟩ F6 H6) (by rw[eK];exact k5) (fun F6 H6 x6=>⟨rfl,F6,x6⟩) Q9 s5 I5
   rw[eP,eW,eA,Vb,eX] at tt
   refine wpAny_tests_one (de tt fun b s6 ⟨H6,I6,eb,F6,x6⟩=>?_)
   subst eb
   rw[aq aE]
   have f6:F6 DD=none:=by
    cases q:F6 DD with
    |none=>rfl
    |some w=>
     rcases x6.nw DD (by rw[q];exact fun z=>nomatch z) with z | z
     ·exact absurd f5 z
     ·have z':H5 DD=none:=z
      rw[h5] at z';cases z'
   obtain⟨I8,t8,f8⟩:=back s6 σ5 _ I6
   exact⟨ds.length+1-(i+1),by omega,i+1,σ5,F6,H6,ρ1,vs,r0,_,I8,t8,f8,k5.ext x6,x5.t x6,x6.sh _ _ h5,f6,n5,V3.mono x6.sf,by rw[Wm];exact Wv,er,by omega,QW,rfl⟩
 exact codeAny_compStart_list (loop _ rfl) (T.self _ 0 _ _ _ tn4 (loop _ rfl))
theorem AA{cl:List (Str×Addr)}(t:VQ X N sc)(md:X.calm=true\/(J.Xx/\NH X.A H2))(S:oH N sc N' scope)(I2:Inv X pins σ H2 s2)(T:wP X.prog X.w X.K tg J fp it tn)(t0:tn 0 s2.heap)(fo2:∀b∈fp,rY X pins H2 b)(k2:Ok X.K B F2 H2 σ ρ)(JO:t6 X.K J F2 ds)(hz:ds.length<sizeLine)(hc1:∀n c,cl.lookup n=some c->X.env.cells.lookup n=some c)(hc2:∀n,(n,NameKind.free)∈scope.names->∃c,cl.lookup n=some c)(run:∀X',S9 X X' N' (tH scope sc) (Ab scope)->QY X' tg elt ifs ds (ρ++List.replicate (N'.length-N.length) .un) rs){RR:Value->Addr->Result->Shared->Prop}(Z2:∀D' C s',NN X pins σ F2 H2 rs D' C s'->RR (.ref D') C (.ok .next) s'):
  wpAny (model X.prog X.w) X.A (newList []) (fun acc s₃=>wpAny (model X.prog X.w) X.A (newFunctionEnv scope X.env.globals cl [] X.env.qual none .none (some X.env)) (fun X1 s₄=>
   codeAny (model X.prog X.w) X.A (.compStart (.ListComp elt [⟨tg,iter,ifs,0⟩] scope pos) 0 (.ref it) acc { X1 with scope:=relabel scope X.env }) (RR acc X1.locals) s₄) E s₃) E s2:=by
 have ZX:∀m c,cl.lookup m=some c->c<(s2.heap.push { cls:=.type "list",data:=.seq ([]:List Value).toArray }).objs.size:=fun m c e=>by
  obtain⟨v,q⟩:=I2.cell m c (hc1 m c e)
  rw[eD];exact io q.lt
 refine bX (Af ZX fun X0 h₁ kp₁ Wf CN=>?_)
 have I3:Inv X pins σ (cA H2 s2.heap.objs.size (.lst [])) { s2 with heap:=s2.heap.push { cls:=.type "list",data:=.seq ([]:List Value).toArray } }:=I2.V9 (t':=s2.toks) (ys:=[]) .nil (bu _)
 have U3:H2 s2.heap.objs.size=none:=I2.QG.fresh (ak _)
 have hsz:(s2.heap.push { cls:=.type "list",data:=.seq ([]:List Value).toArray }).objs.size=s2.heap.objs.size+1:=by rw[eD]
 have tfp:∀b∈fp,b<s2.heap.objs.size:=fun b hb=>by
  obtain⟨o,e,_⟩:=T.obj 0 _ t0 b hb
  exact aW e
 refine D3 (s3:={ s2 with heap:=s2.heap.push { cls:=.type "list",data:=.seq ([]:List Value).toArray } }) t md S rfl (by
  show s2.heap.objs.size≠(s2.heap.push { cls:=.type "list",data:=.seq ([]:List Value).toArray }).objs.size
  rw[hsz];exact bi (e8 _)) I3 U3 (fun b hb=>?_) (fun b hb=>?_) T (T.keep 0 _ _ t0 fun b hb o e=>ar _ e) Wf kp₁ k2 JO hz hc1 hc2 CN run Z2
 ·obtain⟨f0,f1⟩:=fo2 b hb
  exact⟨by rw[aJ (bi (tfp b hb))];exact f0,f1⟩
 ·show b<(s2.heap.push { cls:=.type "list",data:=.seq ([]:List Value).toArray }).objs.size
  rw[hsz];exact io (tfp b hb)
end
section
variable {ds rs:List D}
theorem Dh(t:VQ X N sc)(S:oH N sc N' scope)(I:Inv X pins σ H s):
  ∃cl:List (Str×Addr),closureFor scope X.env=pure cl/\(∀n c,cl.lookup n=some c->X.env.cells.lookup n=some c)/\(∀n,(n,NameKind.free)∈scope.names->∃c,cl.lookup n=some c):=
 BN fun n hn=>I.ok.has n (.inl (by show X.env.scope.names.lookup n=_;rw[t.eS];exact S.free _ hn rfl))
theorem kS(t:At X N sc)(N':List Str)(S:oH N sc N' scope)(hi:Ti X ρ tg iter ds)(hz:ds.length<sizeLine)(run:∀X',TZ X X' N' (tH scope sc) (Ab scope)->QY X' tg elt ifs ds (ρ++List.replicate (N'.length-N.length) .un) rs)(hs:∀x,foldedSetIterable iter X.env x=pure x:=by intro _;rfl):QJ X ρ (.ListComp elt [⟨tg,iter,ifs,0⟩] scope pos) rs:=fun B F H σ Q k q=>.mk fun pins s I=>by
 obtain⟨cl,e1,e2,e3⟩:=Dh t.z S I
 rw[eval_ListComp]
 have h1:=hi B F H σ (fun J H1=>∃F1,Ext ⟨F,H⟩ F1 H1/\t6 X.K J F1 ds) k (fun J F' H' x j=>⟨F',x,j⟩) pins s I
 refine wpAny_comprehension_free (use:=none) rfl hs e1 S.kind S.names (de h1 fun v s1 h=>de h fun Ye s2 h2=>?_)
 obtain⟨it,fp,tn,J,H',e,I2,T,t0,fo,F1,x1,JO⟩:=h2
 subst e
 refine AA (RR:=fun acc C=>compPost (model X.prog X.w) X.A X.xe none (EP X pins σ Q) acc C) t.z (.inl t.calm) S I2 T t0 fo (k.ext x1) JO hz e2 e3 (fun X' c0=>run X' (c0.calm t.calm)) ?_
 rintro D' C s' ⟨F',WB,vs,m,IX,hm,h0,hL,Zv,Yp,Zy,x',XE,hd,hf,rv,Z3⟩
 refine⟨m,hm,fun Z5 sb=>?_⟩
 have IX':Inv X pins σ WB { s' with heap:=Z5 }:=IX.turned (t':=s'.toks) (it:=C) (fun b o hb e=>sb.extBut b o hb e) h0 hL (.inr Zv) Yp Zy
 exact⟨.ref D',WB,IX',rfl,q D' vs F' WB (x1.t x') (x1.sh.free XE) hd hf rv⟩
theorem DE{W8:Pos}[Th X](t:At X N sc)(i:Nat)(N':List Str)(S:oH N sc N' scope)(hi:Ti X ρ tg iter ds)(hz:ds.length<sizeLine)(run:∀X',TZ X X' N' (tH scope sc) (Ab scope)->QY X' tg elt ifs ds (ρ++List.replicate (N'.length-N.length) .un) rs)(SM:swapsWith (.ListComp elt [⟨tg,iter,ifs,0⟩] scope pos) (some (.Name y py)) W8.line (dE sc)=pure true:=by rfl)(hN:N[i]?=some y:=by rfl)(hy:ku sc y=true:=by rfl)(hs:∀x,foldedSetIterable iter X.env x=pure x:=by intro _;rfl):QQ X ρ (.Assign [.Name y py] (.ListComp elt [⟨tg,iter,ifs,0⟩] scope pos) W8) (.nx (ρ.set i (.own rs))):=fun B F H σ E k q=>.mk fun pins s I=>by
 obtain⟨cl,e1,e2,e3⟩:=Dh t.z S I
 rw[exec_Assign_Name_used _ _ _ _ ((JX (show X.env.scope=(dE sc).scope from t.eS)).trans SM)]
 refine ae (i6 (ae ?_))
 show wpAny _ X.A (do let _ <-comprehension (.ListComp elt [⟨tg,iter,ifs,0⟩] scope pos) scope X.env _ (newList []) false (eval iter X.env) (some (assign (.Name y py) X.env))) _ _ s
 have h1:=hi B F H σ (fun J H1=>∃F1,Ext ⟨F,H⟩ F1 H1/\t6 X.K J F1 ds) k (fun J F' H' x j=>⟨F',x,j⟩) pins s I
 refine ae (jP (wpAny_comprehension_free (use:=some (assign (.Name y py) X.env)) (Q:=fun _ s'=>SP X pins E .next s') rfl hs e1 S.kind S.names (de h1 fun v s1 h=>de h fun Ye s2 h2=>?_)) (fun _ s' hq=>au (au hq)) fun _ _ e=>e)
 obtain⟨it,fp,tn,J,H',e,I2,T,t0,fo,F1,x1,JO⟩:=h2
 subst e
 refine AA (RR:=fun acc C=>compPost (model X.prog X.w) X.A X.xe (some (assign (.Name y py) X.env)) (fun _ s'=>SP X pins E .next s') acc C) t.z (.inl t.calm) S I2 T t0 fo (k.ext x1) JO hz e2 e3 (fun X' c0=>run X' (c0.calm t.calm)) ?_
 rintro D' C s' ⟨F',WB,vs,m,IX,hm,h0,hL,Zv,Yp,Zy,x',XE,hd,hf,rv,Z3⟩
 show wpAny _ X.A (assign (.Name y py) X.env (.ref D')) _ _ s'
 refine wpAny_assign_Name (w8 (v:=.ref D') IX t.nd (t.ix hN) (t.loc hy) rfl (fun T2 I'' Xt=>?_) AZ)
 obtain⟨a,sb,ha⟩:=Xt
 have hCa:C≠a:=by
  rcases ha with z | z
  ·rw[z];exact hL
  ·exact Ne.symm (Yp y a z)
 refine⟨m,hm.sameBut sb hCa,fun Z5 W9=>?_⟩
 have I3:Inv X pins (σ.set i (some (.ref D'))) WB { T2 with heap:=Z5 }:=I''.turned (t':=T2.toks) (it:=C) (fun b o hb e=>W9.extBut b o hb e) h0 hL (.inr Zv) Yp Zy
 have k1:=k.ext (x1.t x')
 have hH:H D'=none:=x1.sh.free XE
 exact⟨_,WB,I3,q F' WB _ (k1.Tw i hd hf (k.sh.free hH) (k.noOwn hH) rv) (x1.t x').sf⟩
theorem QY.all(R:D->cp)(f:D->D):∀(ds:List D) (ρ:cp),(∀d∈ds,Tj X ρ tg d (R d))->(∀d∈ds,∀e∈ds,Tj X (R d) tg e (R e))->(∀d∈ds,Qp X (R d) elt (f d))->QY X tg elt [] ds ρ (ds.map f)
 |[],_,_,_,_=>.nil
 |d::ds,ρ,h1,h2,h3=>.take (h1 d bK) (.inl rfl) (h3 d bK)
   (QY.all R f ds (R d) (fun e he=>h2 d bK e (aY _ he)) (fun a ha e he=>h2 a (aY _ ha) e (aY _ he)) fun e he=>h3 e (aY _ he))
end
def Nm(N:List Str)(sc:Scope)(N':List Str)(scope:Scope):Bool:=
 decide (scope.kind=.function)&&scope.names.all (fun y=>decide (y.2=.cell->scope.names.lookup y.1=some .cell))&&scope.names.all (fun y=>decide (y.2=.local->scope.names.lookup y.1=some .local)) &&
  scope.names.all (fun y=>decide (y.2=.free->sc.names.lookup y.1=some .cell))&&decide (sc.kind=.function)&&decide N'.Nodup &&
  (List.range N.length).all (fun i=>match N'[i]? with
   |some x=>!(dW (tH scope sc) x)||(decide (N[i]?=some x)&&decide (scope.names.lookup x=some .free))
   |none=>true)&&decide (N.length<=N'.length)
theorem IL{scope:Scope}(h:Nm N sc N' scope=true):oH N sc N' scope:=by
 unfold Nm at h
 simp only[dM,bh,GW] at h
 obtain⟨⟨⟨⟨⟨⟨⟨h1,h2⟩,h3⟩,h4⟩,h5⟩,h6⟩,h7⟩,h8⟩:=h
 refine⟨h1,h2,h3,h4,h5,h6,fun i x hi hx hv=>?_,h8⟩
 have q:=h7 i (qj.mpr hi)
 rw[hx] at q
 simp only[hv,Bool.not_true,Bool.false_or,dM,bh] at q
 exact q
theorem vR{X:Cx}{sc:Scope}{x:Str}(hm:X.mg x=none)(g:sc.names.lookup x=some .globalImplicit:=by rfl)(v:bootBuiltins x=some u:=by rfl)(n:x ≠ "__name__" := by decide)(d:(x==("__debug__" : Str))=false:=by rfl):pi X sc x u:=⟨g,hm,v,n,d⟩
abbrev bE(f:List Int):D:=.tup (f.map D.int)
abbrev df(f:List Int):D:=.lst (f.map D.int)
theorem uE{xs:List Int}{i:Int}{n:Nat}(h0:0<=i)(hn:i.toNat=n)(h:n<xs.length):l8 (xs.map D.int) i=some (.int xs[n]):=by
 have e:i=((n:Nat):Int):=by omega
 subst e
 exact jN (by rw[aI,aD h];rfl)
theorem vw{n:Nat}{i:Int}{j:Nat}(h0:0<=i)(hn:i.toNat=j)(h:j<n):CU n i=some j:=by
 unfold CU
 rw[ay h0,ay (by omega),hn]
theorem As(xs ys:List Int):PyData.eqvAll (xs.map PyData.int) (ys.map PyData.int)=decide (xs=ys):=by
 induction xs generalizing ys with
 |nil=>cases ys<;>simp[PyData.eqvAll]
 |cons x xs ih=>
  cases ys with
  |nil=>simp[PyData.eqvAll]
  |cons y ys=>
   simp only[aS,PyData.eqvAll,PyData.eqv,ih]
   by_cases h1:x=y<;>by_cases h2:xs=ys<;>simp[h1,h2]
theorem mE(xs ys:List Int):(fg (bE xs)).eqv (fg (bE ys))=decide (xs=ys):=by
 show(PyData.tuple (QA (xs.map D.int))).eqv (.tuple (QA (ys.map D.int)))=_
 rw[ir,ir]
 simp only[PyData.eqv]
 exact As xs ys
theorem yz(xs ys:List Int):(PyData.list (QA (xs.map D.int))).eqv (.list (QA (ys.map D.int)))=decide (xs=ys):=by
 rw[ir,ir]
 simp only[PyData.eqv]
 exact As xs ys
theorem AC(xs:List Int):PyData.canLayAll0 (xs.map PyData.int)=true:=PySem.W.canLayAll0_ints xs
theorem cG(xs:List Int):SeqAt.shaped (fg (bE xs))=true:=by
 show SeqAt.shaped (.tuple (QA (xs.map D.int)))=true
 rw[ir]
 have h1:=PySem.W.depthAll_ints xs
 have h2:PyData.depth (.tuple (xs.map PyData.int))<=64:=by simp only[PyData.depth];omega
 show(PyData.canLay0 (.tuple (xs.map PyData.int))&&decide (PyData.depth (.tuple (xs.map PyData.int))<=64))=true
 rw[dM]
 exact⟨by simp only[PyData.canLay0];exact AC xs,aB h2⟩
theorem gC(xs:List Int):SeqAt.shaped (PyData.list (QA (xs.map D.int)))=true:=by
 rw[ir];exact Qm xs
inductive Su:cp->cp->Prop where
 |nil:Su [] []
 |keep {s:Sl} {a b:cp}:Su a b->Su (s::a) (s::b)
 |forget {s:Sl} {a b:cp}:Su a b->Su (s::a) (.un::b)
theorem Su.len:∀{a b:cp},Su a b->a.length=b.length
 |_,_,.nil=>rfl
 |_,_,.keep h=>bJ Nat.succ h.len
 |_,_,.forget h=>bJ Nat.succ h.len
theorem Su.get:∀{a b:cp},Su a b->∀(i:Nat) (s:Sl),b[i]?=some s->s ≠ .un->a[i]?=some s
 |_,_,.nil,_,_,h,_=>by simp at h
 |_,_,.keep h,0,s,e,_=>by simpa using e
 |_,_,.keep h,i+1,s,e,hn=>by simpa using h.get i s (by simpa using e) hn
 |_,_,.forget h,0,s,e,hn=>by simp at e;exact absurd e.symm hn
 |_,_,.forget h,i+1,s,e,hn=>by simpa using h.get i s (by simpa using e) hn
theorem Ok.weak{K:PySem.W.Frag}(k:Ok K B F H σ a)(w:Su a b):Ok K B F H σ b:=
 ⟨k.toExt,k.len.trans w.len,fun i d h=>k.vals i d (w.get i _ h fun z=>nomatch z),fun i xs h=>k.Rj i xs (w.get i _ h fun z=>nomatch z),fun i j xs ys p h1 h2=>k.dist i j xs ys p (w.get i _ h1 fun z=>nomatch z) (w.get j _ h2 fun z=>nomatch z),k.QM.to (.refl _) (fun _ _ e1 e2 _=>⟨e1,e2⟩) fun i kvs h=>⟨w.get i _ h (fun z=>nomatch z),rfl⟩⟩
section
theorem Qr.weak(h:Qr X ρ S3 (.nx ρ1))(w:Su ρ1 ρ2):Qr X ρ S3 (.nx ρ2):=fun B F H σ E k q=>h B F H σ E k fun F' H' σ' k' s'=>q F' H' σ' (k'.weak w) s'
end
section
theorem Qs.eq{b':Bool}(h:Qs X ρ e b)(q:b=b'):Qs X ρ e b':=q ▸ h
theorem Qp.eq{d':D}(h:Qp X ρ e d)(q:d=d'):Qp X ρ e d':=q ▸ h
theorem QJ.eq{d':List D}(h:QJ X ρ e d)(q:d=d'):QJ X ρ e d':=q ▸ h
theorem Sw.eq{d':List D}(h:Sw X ρ e k d)(q:d=d'):Sw X ρ e k d':=q ▸ h
theorem Ti.eq{d':List D}(h:Ti X ρ tg e d)(q:d=d'):Ti X ρ tg e d':=q ▸ h
theorem Qr.eq{o':Out}(h:Qr X ρ S3 o)(q:o=o'):Qr X ρ S3 o':=q ▸ h
theorem QQ.eq{st:Stmt}{o':Out}(h:QQ X ρ st o)(q:o=o'):QQ X ρ st o':=q ▸ h
end
theorem QI.same(ρ:cp):∀(ds:List D),(∀d∈ds,∃ρ1,TY X ρ tg d ρ1/\Qr X ρ1 body (.nx ρ))->QI X tg body ds ρ (.nx ρ)
 |[],_=>.nil
 |d::ds,h=>by
  obtain⟨ρ1,h1,h2⟩:=h d bK
  exact .cons h1 h2 (QI.same ρ ds fun e he=>h e (aY _ he))
theorem QI.Yx{ds:List D}(R:Nat->cp)(h:∀(j:Nat) d,ds[j]?=some d->∃ρ1,TY X (R j) tg d ρ1/\Qr X ρ1 body (.nx (R (j+1)))):QI X tg body ds (R 0) (.nx (R ds.length)):=by
 have q:=QI.of (X:=X) (tg:=tg) body R ds 0 fun j d e=>by
  obtain⟨ρ1,h1,h2⟩:=h j d e
  exact⟨ρ1,by simpa using h1,by simpa using h2⟩
 simpa using q
theorem QI.QZ{ds:List D}{ρ ρ':cp}(R:Nat->cp)(h:∀(j:Nat) d,ds[j]?=some d->∃ρ1,TY X (R j) tg d ρ1/\Qr X ρ1 body (.nx (R (j+1))))(e0:R 0=ρ)(e1:R ds.length=ρ'):QI X tg body ds ρ (.nx ρ'):=by
 subst e0;subst e1;exact QI.Yx R h
theorem lT{j:Int}(h1 : -(2 ^ 64)<j)(h2:j<2 ^ 64):IntMulOk i j:=.of_right (intBits_le_64 h1 h2)
theorem nM{i j:Int}(h1 : -(2 ^ 64)<i)(h2:i<2 ^ 64):IntMulOk i j:=.of_left (intBits_le_64 h1 h2)
def fK(xs:List Int)(lo hi:Option Int):List Int:=(xs.drop (HT.QH xs.length 0 lo)).take (HT.QH xs.length xs.length hi-HT.QH xs.length 0 lo)
theorem ja(xs:List Int)(lo hi:Option Int):cutD (xs.map D.int) lo hi=(fK xs lo hi).map D.int:=by
 unfold cutD fK
 rw[af,List.map_take,List.map_drop]
theorem Gw(xs:List Int)(lo hi:Option Int):(fK xs lo hi).length<=xs.length:=by
 unfold fK
 rw[cv,dj]
 omega
theorem E7(k:Nat)(n:Int):(List.replicate k [D.int n]).flatten=(List.replicate k n).map D.int:=by
 induction k with
 |zero=>rfl
 |succ k ih=>rw[bv,dZ,ih,bv,aS];rfl
theorem QY.gen{α:Type}(g f:α->D)(R:α->cp):∀(xs:List α) (ρ:cp),(∀x∈xs,Tj X ρ tg (g x) (R x))->(∀x∈xs,∀y∈xs,Tj X (R x) tg (g y) (R y))->(∀x∈xs,Qp X (R x) elt (f x))->QY X tg elt [] (xs.map g) ρ (xs.map f)
 |[],_,_,_,_=>.nil
 |x::xs,ρ,h1,h2,h3=>.take (h1 x bK) (.inl rfl) (h3 x bK)
   (QY.gen g f R xs (R x) (fun e he=>h2 x bK e (aY _ he)) (fun a ha e he=>h2 a (aY _ ha) e (aY _ he)) fun e he=>h3 e (aY _ he))
theorem xp:(sizeLine:Nat)=16777216:=jQ
open AutoSeq1 (wpAny_loadPart')
section
theorem tI{Q:Value->Shared->Prop}{s:Shared}(hit:s.heap.IsTupleIter it t i)(ht:s.heap.IsTuple t items)(hx:items[i]?=some x)(hQ:∀h',h'.IsTupleIter it t (i+1)->Heap.SameBut it s.heap h'->Q x { s with heap:=h' }):wpAny (model prog w) A (Builtin.SmallTypes.nextOf (.ref it)) Q E s:=by
 obtain⟨o,ho,hc,hd⟩:=id hit
 obtain⟨ol,Zz,_,nl,ZU⟩:=ht
 unfold Builtin.SmallTypes.nextOf
 refine ae (cM (name:=Str.ofString "__next__") hit.typeIs jT (dY jT hit.typeIs PP ?_ (Po _)))
 show wpAny _ _ (field (.ref it) 0 >>= _) _ _ s
 refine ae (fw ho hd (x:=.ref t) rfl ?_)
 show wpAny _ _ (if (Value.ref t==Value.none)=true then _ else _) _ _ s
 rw[aq (show ¬((Value.ref t==Value.none)=true) from aE)]
 show wpAny _ _ (field (.ref it) 1 >>= _) _ _ s
 refine ae (fw ho hd (x:=.int i 0) rfl ?_)
 show wpAny _ _ (seqItems? (.ref t) >>= _) _ _ s
 refine ae (wpAny_seqItems Zz ZU ?_)
 simp only[dy,hx]
 refine ae (Ee ho hd (by simp) (au ⟨x,rfl,au (hQ _ ?_ (Heap.SameBut.update ..))⟩))
 exact⟨_,pd _ ho (Obj.isFreed_of_fields (Obj.data_mapFields hd _)),(Obj.cls_mapFields ..).trans hc,by rw[Obj.data_mapFields hd];simp[rawInt]⟩
theorem nL{A:Around}{E:Value->Shared->Prop}{s:Shared}(hh:A.handled=none)(hit:s.heap.IsTupleIter it t i)(ht:s.heap.IsTuple t items)(hx:items[i]?=none)(hE:∀h' e,Heap.ExtBut it s.heap h'->(∃o,h'.get? e=some o/\o.cls=.type "StopIteration")->E (.ref e) { s with heap:=h' }):wpAny (model prog w) A (Builtin.SmallTypes.nextOf (.ref it)) Q E s:=by
 obtain⟨o,ho,hc,hd⟩:=id hit
 obtain⟨ol,Zz,_,nl,ZU⟩:=ht
 unfold Builtin.SmallTypes.nextOf
 refine ae (cM (name:=Str.ofString "__next__") hit.typeIs jT (dY jT hit.typeIs PP ?_ (Po _)))
 show wpAny _ _ (field (.ref it) 0 >>= _) _ _ s
 refine ae (fw ho hd (x:=.ref t) rfl ?_)
 show wpAny _ _ (if (Value.ref t==Value.none)=true then _ else _) _ _ s
 rw[aq (show ¬((Value.ref t==Value.none)=true) from aE)]
 show wpAny _ _ (field (.ref it) 1 >>= _) _ _ s
 refine ae (fw ho hd (x:=.int i 0) rfl ?_)
 show wpAny _ _ (seqItems? (.ref t) >>= _) _ _ s
 refine ae (wpAny_seqItems Zz ZU ?_)
 simp only[dy,hx]
 refine ae (wpAny_rule (ae (Ee ho hd (by simp) ?_)))
 show wpAny _ _ (newExc (.type "StopIteration") [] >>= _) _ _ _
 refine ae ?_
 simp only[newExc,newTuple]
 refine ae (bX ?_ (by size_fits))
 refine ae (m:=firstArgMember _ _) (gd (a:=Value.none) (by first | rfl | (simp only[firstArgMember];rfl)) ?_)
 refine bX ?_ (by size_fits)
 simp only[raiseNew]
 refine ae (wpAny_handled ?_)
 first | rw[show A.in1.handled=none from hh] | rw[hh]
 refine ae (au (wpAny_throw ?_))
 exact hE _ _ (((Heap.SameBut.update ..).extBut.push _).push _) ⟨_,aO _ rfl,rfl⟩
end
theorem D1{A:Around}(hh:A.handled=none)(it t:Addr)(Tz:t≠it)(items:Array Value):
  Draws prog w A it [it,t] items.size (fun i v=>items[i]?=some v) (fun i h=>h.IsTupleIter it t i/\h.IsTuple t items) where
 live:=fun _ _ st=>let ⟨o,ho,_⟩:=st.1;⟨o,ho⟩
 frame:=fun _ _ _ st hk=>⟨st.1.at fun o e=>hk it (by simp) o e,let ⟨o,e,r⟩:=st.2;⟨o,hk t (by simp) o e,r⟩⟩
 item:=fun i s Q E hi st hQ=>by
  refine tI st.1 st.2 (x:=items[i]) (by simp[hi]) fun h' ZN hs'=>?_
  exact hQ _ h' s.toks (by simp[hi]) ⟨ZN,let ⟨o,e,r⟩:=st.2;⟨o,hs'.extBut t o Tz e,r⟩⟩ hs'
 done:=fun s Q E st hE=>nL hh st.1 st.2 (by simp) hE
theorem Ag(l:Addr)(items:Array Value)(n:Nat)(RC:Option Addr)(sl:Array (Option Value)):
  Meets (Builtin.«enumerate.__new__» ⟨[.type "enumerate",.ref l],[]⟩) (fun _ R s=>s.heap.get? l=some { cls:=.type "tuple",dict:=RC,data:=.seq items n,slots:=sl } /\
   R (.ok (.ret (.ref (s.heap.push { cls:=.type "tuple_iterator",data:=.fields #[.ref l,.int 0 0] }).objs.size)))
    { s with heap:=(s.heap.push { cls:=.type "tuple_iterator",data:=.fields #[.ref l,.int 0 0] }).push { cls:=.type "enumerate",data:=.fields #[.none,.bool false,.ref s.heap.objs.size,rawInt 0,.none,.none] } }):=
 .of_wp fun prog w A R s h=>by
  obtain⟨hp,g,d,tk,os⟩:=s;obtain⟨hl,h⟩:=h
  have hsub:=sub_enumerate
  have hL:Heap.IsTuple (Shared.heap ⟨hp,g,d,tk,os⟩) l items:=⟨_,hl,rfl,n,rfl⟩
  wp_walk using iG hl
  refine wpAny_stack_any fun st=>au ?_
  split
  ·rename_i c _ _ _ _ _
   cases(c==Value.type "enumerate")
   ·wp_walk using iG hl,t9 hL
    exact⟨_,rfl,h⟩
   ·wp_walk using iG hl,t9 hL
    exact⟨_,rfl,h⟩
  ·wp_walk using iG hl,t9 hL
   exact⟨_,rfl,h⟩
section
theorem BP{Q:Value->Shared->Prop}{s:Shared}(hL:s.heap.IsTuple l items)(h:∀h',IsEnum h' (s.heap.objs.size+1) s.heap.objs.size 0 .none->h'.IsTupleIter s.heap.objs.size l 0->h'.objs.size=s.heap.objs.size+2 ->
   (∀b o,s.heap.get? b=some o->h'.get? b=some o)->Q (.ref (s.heap.objs.size+1)) { s with heap:=h' }):wpAny (model prog w) A (call (.type "enumerate") [.ref l]) Q E s:=by
 obtain⟨⟨c,RC,dt,sl⟩,hl,hc,n,hd⟩:=hL
 replace hc:c=.type "tuple" := hc
 replace hd:dt=.seq items n:=hd
 subst hc hd
 refine callType_new F.called_enumerate (by decide) (F.typeCall_enumerate_1 _) (F.newCall_enumerate_1 _) (fun obj=>F.args_object_init_2 obj _) F.entry_enumerate_new (Ag l items n RC sl) ⟨hl,?_⟩
 have hz:(s.heap.push { cls:=.type "tuple_iterator",data:=.fields #[.ref l,.int 0 0] }).objs.size=s.heap.objs.size+1:=eD ..
 show _/\_
 rw[hz]
 have he:IsEnum ((s.heap.push { cls:=.type "tuple_iterator",data:=.fields #[.ref l,.int 0 0] }).push { cls:=.type "enumerate",data:=.fields #[.none,.bool false,.ref s.heap.objs.size,rawInt 0,.none,.none] }) (s.heap.objs.size+1) s.heap.objs.size 0 .none:=by
  have:=aO (s.heap.push { cls:=.type "tuple_iterator",data:=.fields #[.ref l,.int 0 0] }) (o:={ cls:=.type "enumerate",data:=.fields #[.none,.bool false,.ref s.heap.objs.size,rawInt 0,.none,.none] }) rfl
  rw[hz] at this;exact this
 refine⟨⟨_,he,rfl⟩,h _ he ⟨_,ar _ (aO _ rfl),rfl,rfl⟩ (by rw[eD,hz]) fun b o x=>ar _ (ar _ x)⟩
end
def Pc(K:PySem.W.Frag)(a:Addr):It:=
 ⟨fun i H=>∃xs x,RB K H a xs/\xs[i]?=some x,fun i H x H'=>∃p,H p=none/\x=.ref p/\∀xs,RB K H a xs->∃v,xs[i]?=some v/\H'=cA H p (.tup [.int i,v]),fun i H=>∃xs,RB K H a xs/\xs.length<=i,False⟩
section
theorem Inv.W4{h':Heap}{t':Nat}{e it:Addr}(I:Inv X pins σ H s)(k:∀b o,b≠e->b≠it->s.heap.get? b=some o->h'.get? b=some o)(fe:rY X pins H e)(fi:rY X pins H it):
  Inv X pins σ H { s with heap:=h',toks:=t' }:=by
 obtain⟨e0,e1,e2,e3,e4,e5⟩:=fe
 obtain⟨i0,i1,i2,i3,i4,i5⟩:=fi
 refine I.step (g':=s.gens) (d':=s.drawn) (ch:=[e,it]) (fun b hb=>?_) (fun b o _ _ hc q _=>k b o (fun z=>hc (by simp[z])) (fun z=>hc (by simp[z])) q) (fun b o _ _ hc q _=>⟨o.slots,k b o (fun z=>hc (by simp[z])) (fun z=>hc (by simp[z])) q⟩) (fun _ _ _ _ n=>n)
  (fun b o hc q=>⟨o,k b o (fun z=>hc (by simp[z])) (fun z=>hc (by simp[z])) q⟩) (fun _ _ q=>q) (fun _ _ _ q=>q) (fun b ps q=>⟨#[],by rw[q];simp⟩) (fun m hm=>?_) (fun b u q=>?_) I.bare
 ·rcases aC.mp hb with rfl | hb
  ·exact⟨e3,e1,e4,e5⟩
  ·rw[a7.mp hb];exact⟨i3,i1,i4,i5⟩
 ·obtain⟨o,es,ep,ho,r⟩:=hm
  exact⟨o,es,ep,k _ o (Ne.symm e1) (Ne.symm i1) ho,r⟩
 ·have ne:∀c v,H c=some v->c≠e/\c≠it:=fun c v q=>⟨(fun z=>by rw[z,e0] at q;cases q),(fun z=>by rw[z,i0] at q;cases q)⟩
  refine(I.QG b u q).T8 (fun c v hc r=>?_) (fun _ r=>r) fun _ _ r=>r
  rcases hc with z | z
  ·subst z;exact k c v (ne c _ q).1 (ne c _ q).2 r
  ·exact k c v (ne c _ z).1 (ne c _ z).2 r
end
section
theorem Inv.W5{p:Addr}(I:Inv X pins σ H s)(hp:H p=none)(h1:X.s₀.heap.objs.size<=p)(h2:p≠X.env.locals)(h3:∀x c,X.env.cells.lookup x=some c->c≠p)(h4:∀q∈X.pn++pins,q.1≠p)(new:QC X.prog X.w (cA H p o) s.heap p o):Inv X pins σ (cA H p o) s:=by
 have old:∀b ob,X.s₀.heap.get? b=some ob->b≠p:=fun b ob e=>bi (bf (aW e) h1)
 refine⟨I.ok,I.os,I.bare,⟨I.base.keep,I.base.slot,fun b ob e n hx=>by rw[aJ (old b ob e)];exact I.base.free b ob e n hx,I.base.there,fun b xs e=>?_,fun b ob u e=>?_,fun b ps e=>?_⟩,I.loc,I.cell,by rw[aJ (Ne.symm h2)];exact I.free,fun x c e=>by rw[aJ (h3 x c e)];exact I.RS x c e,fun q hq=>?_,fun b u e=>?_,I.len⟩
 ·have q:=I.base.Td b xs e
  rw[aJ (dv q hp)];exact q
 ·have q:=I.base.SF b ob u e
  rw[aJ (dv q hp)];exact q
 ·obtain⟨more,q⟩:=I.base.Tf b ps e
  exact⟨more,by rw[aJ (dv q hp)];exact q⟩
 ·obtain⟨a,b,c⟩:=I.pin q hq
  exact⟨a,by rw[aJ (h4 q hq)];exact b,c⟩
 ·by_cases hb:b=p
  ·subst hb;rw[aK] at e;cases e;exact new
  ·rw[aJ hb] at e
   exact(I.QG b u e).T8 (fun _ _ _ q=>q) (fun c q=>by rw[aJ (dv q hp)];exact q) fun c xs q=>by rw[aJ (dv q hp)];exact q
end
theorem Dw{K:PySem.W.Frag}(a e it:Addr)(Tz:e≠it):wP P w K (.Tuple es x1 pos) (Pc K a) [e,it] e (fun i h=>(∃old,IsEnum h e it i old)/\h.IsTupleIter it a i) where
 mem:=by simp
 obj:=fun i h st b hb=>by
  obtain⟨⟨old,he⟩,o,ho,c,d⟩:=st
  rcases aC.mp hb with rfl | hb
  ·exact⟨_,he,fun v z=>by cases z⟩
  ·rw[a7.mp hb]
   exact⟨o,ho,fun v z=>by rw[d] at z;cases z⟩
 keep:=fun i h h' st k=>by
  obtain⟨⟨old,he⟩,hi⟩:=st
  exact⟨⟨old,k e (by simp) _ he⟩,hi.at fun o q=>k it (by simp) o q⟩
 item:=by
  intro X hP hw hK hc i pins s σ H E I hf st hg
  subst hP hw hK
  replace hc:=hc.resolve_right fun z=>z.1
  obtain⟨⟨old,he⟩,hit⟩:=st
  obtain⟨xs,x,hq,hx⟩:=hg
  obtain⟨its,rv,p,hz⟩:=I.tuple hq
  obtain⟨u,hu,ru⟩:=rv.get hx
  have fe:=hf e (by simp)
  have fi:=hf it (by simp)
  have QW:i<its.length:=(az.mp hu).1
  obtain⟨oa,ZD,hca,na,hda⟩:=id p
  have hae:e≠a:=fun z=>by
   subst z
   rw[he] at ZD;cases ZD
   have z':Value.type "enumerate"=Value.type "tuple" := hca
   injection z' with z2
   exact absurd z2 (by decide)
  have hai:a≠it:=fun z=>by
   subst z
   obtain⟨oi,Yi,hci,_⟩:=hit
   rw[ZD] at Yi;cases Yi
   rw[hca] at hci
   injection hci with z2
   exact absurd z2 (by decide)
  have Dr:=D1 (prog:=X.prog) (w:=X.w) (A:=X.A.in1) (I.ok.hd hc) it a hai its.toArray
  refine wpAny_pyNext_enum_itemD Dr he ⟨hit,p⟩ (by simpa using QW) Tz (by simp[hae,Tz]) fun y h' tk hy ho Vi hT hsz hk=>?_
  have ey:y=u:=by
   have:its[i]?=some y:=by simpa using hy
   rw[hu] at this;exact(bB this).symm
  subst ey
  refine⟨_,rfl,wpAny_letOwnedTupleGo_enum ho fun h2 ZQ sb=>?_⟩
  have hTe:s.heap.objs.size≠e:=pj (aW he)
  have hTi:s.heap.objs.size≠it:=by
   obtain⟨oi,Yi,_⟩:=id hit
   exact pj (aW Yi)
  have W9:Heap.SameBut e h' h2:=sb
  have kk:∀b o,b≠e->b≠it->s.heap.get? b=some o->h2.get? b=some o:=fun b o h1 Wq q=>W9.extBut b o h1 (hk b o h1 Wq q)
  have I1:Inv X pins σ H { s with heap:=h2,toks:=tk+1 }:=Inv.W4 I kk fe fi
  have hp0:H s.heap.objs.size=none:=I.QG.fresh (ak _)
  have hT2:h2.get? s.heap.objs.size=some { cls:=.type "tuple",data:=.seq #[.int i tk,y] }:=W9.extBut _ _ hTe hT
  have I2:Inv X pins σ (cA H s.heap.objs.size (.tup [.int i,x])) { s with heap:=h2,toks:=tk+1 }:=by
   refine Inv.W5 I1 hp0 I.sz (pj I.lt) (fun z c h=>?_) (fun q hq2 z=>?_) ⟨cX rfl,[.int i tk,y],.cons ⟨tk,rfl⟩ (.cons ru .nil),⟨_,hT2,rfl,0,rfl⟩⟩
   ·obtain⟨v,hv⟩:=I.cell z c h
    exact bi hv.lt
   ·have:=aW (I.pin q hq2).1
    rw[z] at this;exact absurd this (eZ _)
  refine⟨.ref s.heap.objs.size,_,I2,rfl,⟨s.heap.objs.size,hp0,rfl,fun ys hys=>⟨x,by rw[I.Tp hys hq];exact hx,rfl⟩⟩,⟨⟨_,by simpa using ZQ⟩,Vi.1.at fun o q=>W9.extBut it o (Ne.symm Tz) q⟩,fun b hb=>?_⟩
  have bT:b≠s.heap.objs.size:=by
   rcases aC.mp hb with rfl | hb
   ·exact Ne.symm hTe
   ·rw[a7.mp hb];exact Ne.symm hTi
  rw[aJ bT];exact(hf b hb).1
 done:=by
  intro X hP hw hK hc i pins s σ H E I hf st hg
  subst hP hw hK
  replace hc:=hc.resolve_right fun z=>z.1
  obtain⟨⟨old,he⟩,hit⟩:=st
  obtain⟨xs,hq,hx⟩:=hg
  obtain⟨its,rv,p,hz⟩:=I.tuple hq
  have fi:=hf it (by simp)
  obtain⟨f0,f1,f2,f3,f4,f5⟩:=fi
  have hl:=rv.length
  have hT:s.TypeIs (.ref e) "enumerate" := ⟨_,he,rfl⟩
  unfold pyNext
  refine ae (G5 (cM (name:=Str.ofString "__next__") hT F.slot_enumerate_next (dY F.slot_enumerate_next hT F.entry_enumerate_next ?_ (F.args_enumerate_next_1 _))))
  show wpAny _ _ (field (.ref e) 2 >>= _) _ _ _
  refine ae (fw he rfl (x:=.ref it) rfl ?_)
  refine ae (nL (I.ok.hd hc) hit p (by simp;omega) fun h' x ZR Vz=>?_)
  obtain⟨o,ho,T5⟩:=Vz
  refine ae (NO (T := "StopIteration") (b:=true) ⟨o,ho,T5⟩ Qc ?_)
  exact au ⟨rfl,I.turned (t':=s.toks) (fun b o hb e=>ZR b o hb e) f0 f1 f3 f4 f5⟩
 self:=fun _ _ s Q E st h=>by
  obtain⟨⟨old,he⟩,hit⟩:=st
  exact wpAny_pyIter_enum he h
section
variable {ds:List D}
def M6(K:PySem.W.Frag)(ta:TA):TI:=fun σ H R=>ta σ H fun vs H1=>∃a,vs=[.ref a]/\(∃xs,RB K H1 a xs)/\R (Pc K a) H1
theorem HN(hg:Gl X "enumerate")(hm:X.mg "enumerate"=none)(hl:PA X [a] ta)(hs:Pl a):PI X (.Tuple es x1 tp) (.Call (.Name "enumerate" p) [a] [] pos) (M6 X.K ta):=by
 intro pins s σ H R I h
 refine Call_ (sI I hg hm (show bootBuiltins "enumerate"=some (.type "enumerate") by decide +kernel) (im (de (hl pos pins s σ H _ I h) fun us s1 ⟨vs,H1,I1,r1,q1⟩=>?_) (hs _ _) rfl))
 obtain⟨l,rfl,⟨xs,hq⟩,q⟩:=q1
 obtain⟨u,rfl,ru⟩:=j0 r1
 cases(show u=Value.ref l from ru)
 obtain⟨its,rv,pt,hz⟩:=I1.tuple hq
 refine BP pt fun h' he hi hsz kp=>?_
 have I2:Inv X pins σ H1 { s1 with heap:=h' }:=I1.kept (t':=s1.toks) kp
 refine wpAny_pyIter_enum he ?_
 have fr:∀b,s1.heap.objs.size<=b->rY X pins H1 b:=fun b hb=>I1.Ue hb (I1.QG.fresh hb)
 refine⟨s1.heap.objs.size+1,[s1.heap.objs.size+1,s1.heap.objs.size],_,_,H1,rfl,I2,Dw l _ _ (pj (e8 _)),⟨⟨_,he⟩,hi⟩,fun b hb=>?_,q⟩
 rcases aC.mp hb with rfl | hb
 ·exact fr _ (by omega)
 ·rw[a7.mp hb];exact fr _ (ak _)
def xu(ds:List D):List D:=(List.range ds.length).map fun(i:Nat)=>.tup [.int (i:Int),ds.getD i .QO]
theorem lY{i:Nat}(h:(xu ds)[i]?=some d):∃e,ds[i]?=some e/\d=.tup [.int (i:Int),e]:=by
 unfold xu at h
 rw[aI] at h
 by_cases hi:i<ds.length
 ·rw[eC hi] at h
  cases h
  exact⟨ds[i],aD hi,by show D.tup [D.int (i:Int),ds.getD i .QO]=_;rw[ah,aD hi];rfl⟩
 ·rw[aZ (by simpa using hi)] at h;cases h
theorem lX:(xu ds).length=ds.length:=by simp[xu]
theorem K6{K:PySem.W.Frag}{F:Hp}{l:Addr}(hf:F l=some (.tup vs))(r:Qq K F vs ds):t6 K (Pc K l) F (xu ds):=fun i F2 H2 s1 s2=>
 ⟨fun d hd=>by
  obtain⟨e,he,rfl⟩:=lY hd
  obtain⟨v,hv,rv⟩:=r.get he
  have sq:RB K H2 l vs:=RB.of (s2 _ _ (s1 _ _ hf))
  refine⟨⟨vs,v,sq,hv⟩,fun x H' y=>?_⟩
  obtain⟨p,hp,rfl,y⟩:=y
  obtain⟨v',Yg,rfl⟩:=y vs sq
  rw[hv] at Yg;cases Yg
  exact⟨_,(Ext.refl s2).grow hp,.tup aK (.cons (.int _) (.cons ((rv.mono s1).mono (aP (s2.free hp))) .nil))⟩,fun h=>⟨vs,RB.of (s2 _ _ (s1 _ _ hf)),by rw[r.length];rw[lX] at h;exact h⟩⟩
theorem uB(t:At X N sc)(bl:pi X sc "enumerate" (.type "enumerate"))(h:Qp X ρ a (.tup ds))(hs:Pl a:=by intro _ _;rfl):Ti X ρ (.Tuple es x1 tp) (.Call (.Name "enumerate" p) [a] [] pos) (xu ds):=
 .of (HN (dA t bl.g) bl.m (bo aV cO (hs _ _)) hs) fun B F H σ R k q=>h B F H σ _ k fun v F' H' x r=>by
  cases r with
  |tup hf rl=>exact⟨_,rfl,⟨_,RB.of (x.sub _ _ hf)⟩,q _ F' H' x (K6 hf rl)⟩
end
abbrev vB:List Value:=[.type "ValueError",.type "Exception",.type "BaseException",.type "object"]
def P8(h base:Heap)(e C:Addr)(fl:Value):Prop:=
 ∃(oe:Obj) (vs:Array Value) (T:Addr) (oT:Obj) (ts:Array Value),h.get? e=some oe/\oe.cls=.ref C/\oe.data=.fields vs/\vs[1]?=some (.ref T)/\vs[2]?=some .none/\base.get? T=none/\T≠e/\h.get? T=some oT/\oT.data=.fields ts/\ts[3]?=some fl
def Pf(base:Heap)(l:List Env)(e C:Addr)(fl:Value)(h:Heap):Prop:=base.StaysIn h/\base.get? e=none/\h.FunFrames base l/\P8 h base e C fl
structure Qa(P:Program)(w:World)(l:List Env)(H:Hp)(s:Shared)(H':Hp)(C:Addr)(e:Value)(s':Shared):Prop where
 ex:∃(ea:Addr) (B:Heap),e=.ref ea/\Pf B l ea C .none s'.heap/\SX P w H' B /\
  (∀b o,s.heap.get? b=some o->H b=none->b∉jv l->B.get? b=some o)/\(∀b o,s.heap.get? b=some o->b∉jv l->∃o',B.get? b=some o')
 os:s'.os=s.os
 bare:AllBare s'.gens
 slot:∀b o,s.heap.get? b=some o->H b=none->b∈jv l->∃sl,s'.heap.get? b=some { o with slots:=sl }
 free:∀b o,s.heap.get? b=some o->H b=none->H' b=none
 Td:∀b xs,H b=some (.tup xs)->H' b=some (.tup xs)
 SF:∀b o u,H b=some (.RH o u)->H' b=some (.RH o u)
 Tf:∀b ps,H b=some (.Vt ps)->∃more,H' b=some (.Vt (ps++more))
inductive BZ(X:Cx)(m:Bool)(H:Hp)(s:Shared)(H':Hp)(C:Addr)(e:Value)(s':Shared):Prop where
 |fly:Qa X.prog X.w X.stack H s H' C e s'->BZ X m H s H' C e s'
 |made {ea:Addr} {vs:List Value}:m=true->H'=H->e=.ref ea->Heap.MadeExcOf s.heap s'.heap ea (.ref C) vs->s'.os=s.os->s'.gens=s.gens->BZ X m H s H' C e s'
def XP(X:Cx)(m:Bool)(pins:List (Addr×Obj))(B:B0)(F:Hp)(ρ':cp)(C:Addr)(e:Value)(s':Shared):Prop:=
 ∃(σ1:St) (H1:Hp) (s1:Shared) (F' H':Hp),Inv X pins σ1 H1 s1/\Ok X.K B F' H' σ1 ρ'/\Qx F F'/\BZ X m H1 s1 H' C e s'
section
theorem Nh{it l:Addr}(Tz:l≠it):∀(n i:Nat) (s:Shared) (Q:List Value->Shared->Prop),s.heap.IsListIter it l i->s.heap.IsList l xs->i+n<=xs.size ->
  (∀h',h'.IsListIter it l (i+n)->Heap.SameBut it s.heap h'->Q ((xs.toList.drop i).take n) { s with heap:=h' })->wpAny (model prog w) A (draw (.ref it) n) Q E s:=by
 intro n
 induction n with
 |zero=>
  intro i s Q hit _ _ hQ
  have z:=hQ s.heap hit (Heap.SameBut.refl ..)
  rw[y9] at z
  exact au z
 |succ n ih=>
  intro i s Q hit hl hle hQ
  have QW:i<xs.size:=bf (Nat.lt_succ_of_le (Nat.le_add_right i n)) hle
  have hx:xs[i]?=some xs[i]:=Array.getElem?_eq_getElem QW
  show wpAny _ _ (pyNext (.ref it) >>= _) Q E s
  refine ae (wpAny_pyNext_list_item hit hl hx fun h1 Wi VA=>ae (bR (ih (i+1) _ _ Wi (hl.extBut VA.extBut Tz) (by omega) fun h2 ZM UG=>au ?_)))
  have e1:xs.toList.drop i=xs[i]::xs.toList.drop (i+1):=by rw[ck (by simpa using QW)];simp
  have z:=hQ h2 (by rw[show i+(n+1)=i+1+n by omega];exact ZM) (VA.trans UG)
  rw[e1,List.take_succ_cons] at z
  exact z
theorem rT{s:Shared}{A:Around}{env:Env}{Q:Unit->Shared->Prop}(hh:A.handled=none)(hl:s.heap.IsList l xs)(hn:(assignEach elts env).length=xs.size)(Xs:(assignEach elts env).findIdx? (·.1)=none)(h:∀h',Heap.ExtBut s.heap.objs.size s.heap h'->wpAny (model prog w) A (assignInOrder ((assignEach elts env).map (·.2)) xs.toList) Q E { s with heap:=h' }):
  wpAny (model prog w) A (assign (.Tuple elts x1 pos) env (.ref l)) Q E s:=by
 have ne:l≠s.heap.objs.size:=by obtain⟨o,ho,_⟩:=hl;exact bi (aW ho)
 rw[assign_Tuple]
 refine ae (i6 ?_)
 unfold unpack
 rw[hn,Xs]
 refine ae (bR ?_)
 unfold unpackItems
 refine ae ?_
 unfold notIterableAtAll
 refine ae (wpAny_specialOf hl.typeIs slot_list_iter.lookup (au ?_))
 simp only[Bool.false_eq_true,Eh]
 refine ae (bR (LW hl ?_))
 refine ae (bR (Nh ne xs.size 0 _ _ ⟨_,aO _ rfl,rfl,rfl⟩ (hl.push _) (gI (Nat.zero_add _)) fun h1 Wi VA=>?_))
 have all:(xs.toList.drop 0).take xs.size=xs.toList:=by rw[zb];exact eY (by simp)
 rw[all,aq (by simp)]
 refine ae (bR (wpAny_pyNext_list_end hh Wi ((hl.push _).extBut VA.extBut ne) (by simp) fun h2 ZQ=>?_))
 simp only[Option.isSome_none,Bool.false_eq_true,Eh]
 exact au (h h2 fun b o hb e=>ZQ b o hb (VA.extBut b o hb (ar _ e)))
end
def OR(K:PySem.W.Frag)(n:Nat)(t:IU):TG:=fun v σ H Q=>∃a xs,v=.ref a/\Q1 K H a xs/\xs.length=n/\t xs σ H Q
theorem Kl{X:Cx}{n:Nat}{t:IU}(hc:X.calm=true)(h:Mb X es t)(hn:(assignEach es X.env).length=n:=by rfl)(Vi:(assignEach es X.env).findIdx? (·.1)=none:=by rfl):PG X (.Tuple es k pos) (OR X.K n t):=by
 intro pins s σ H v u Q I r hw
 obtain⟨a,xs,e1,hq,hl,hw⟩:=hw
 subst e1
 cases r
 obtain⟨its,rv,ht,hz⟩:=I.list hq
 have len:(assignEach es X.env).length=its.toArray.size:=by rw[hn,<-hl,rv.length];simp
 refine rT (I.ok.hd hc) ht.isList len Vi fun h' hx=>?_
 have I1:Inv X pins σ H { s with heap:=h' }:=I.kept (t':=s.toks) fun b o e=>hx b o (bi (aW e)) e
 exact h pins _ σ H xs _ Q I1 (by simpa using rv) hw
structure Ps(X:Cx)(es:List Expr)(vs:List V)(σ:St)(H:Hp)(Q:St->Hp->Prop):Prop where
 go:∀(pins:List (Addr×Obj)) (s:Shared) (us:List Value),Inv X pins σ H s->Vals vs us->wpAny (model X.prog X.w) X.A (assignInOrder ((assignEach es X.env).map (·.2)) us) (fun _ s'=>∃σ' H',Inv X pins σ' H' s'/\Q σ' H') X.xe s
theorem Fi:Mb X es (Ps X es):=fun pins s _ _ _ us _ I r h=>h.go pins s us I r
def GM(X:Cx)(ρ:cp)(es:List Expr)(ds:List D)(ρ':cp):Prop:=((∀env,(assignEach es env).length=ds.length)/\∀env,(assignEach es env).findIdx? (·.1)=none)/\∀(B:B0) (F H:Hp) (σ:St) (vs:List V) (Q:St->Hp->Prop),Ok X.K B F H σ ρ->Qq X.K F vs ds ->
 (∀F' H' σ',Ok X.K B F' H' σ' ρ'->Qx F F'->Q σ' H')->Ps X es vs σ H Q
def P9(e:Expr):Prop:=∀(es:List Expr) (env:Env),assignEach (e::es) env=(false,assign e env)::assignEach es env
section
variable {ds:List D}
theorem C9:GM X ρ [] [] ρ:=⟨⟨fun _=>rfl,fun _=>rfl⟩,fun B F H σ vs Q k r q=>.mk fun pins s us I ru=>by
 cases r
 exact CG pins s σ H [] us Q I ru ⟨rfl,q F H σ k (.refl _)⟩⟩
theorem nW(h1:TY X ρ e d ρ1)(h2:GM X ρ1 es ds ρ')(hs:P9 e:=by intro _ _;rfl):GM X ρ (e::es) (d::ds) ρ':=⟨⟨fun env=>by rw[hs es env,a5,a5,h2.1.1 env],fun env=>by
  rw[hs es env,List.findIdx?_cons]
  simp[h2.1.2 env]⟩,fun B F H σ vs Q k r q=>.mk fun pins s us I ru=>by
 cases r with
 |cons r1 r2=>
  refine va Fj Fi (by rw[hs es X.env];rfl) pins s σ H _ us Q I ru ⟨_,_,rfl,?_⟩
  exact h1 B F H σ _ _ k r1 fun F1 H1 σ1 k1 s1=>h2.2 B F1 H1 σ1 _ _ k1 (r2.mono s1) fun F2 H2 σ2 k2 s2=>q F2 H2 σ2 k2 (s1.trans s2)⟩
theorem Lx(t:At X N sc)(h:GM X ρ es ds ρ'):TY X ρ (.Tuple es k pos) (.tup ds) ρ':=
 .of (Fk (n:=ds.length) t.calm Fi (h.1.1 _) (h.1.2 _)) fun B F H σ v Q k r q=>by
  cases r with
  |tup hf rl=>exact⟨_,_,rfl,RB.of (k.sub _ _ hf),rl.length,h.2 B F H σ _ Q k rl q⟩
theorem Ly(t:At X N sc)(h:GM X ρ es ds ρ'):TY X ρ (.Tuple es k pos) (.lst ds) ρ':=
 .of (Kl (n:=ds.length) t.calm Fi (h.1.1 _) (h.1.2 _)) fun B F H σ v Q k r q=>by
  cases r with
  |lst hf rl=>exact⟨_,_,rfl,Q1.of (k.sub _ _ hf),rl.length,h.2 B F H σ _ Q k rl q⟩
end
open AutoSeq1 (wpAny_loadPart')
section
variable {ds:List D}{st:Stmt}{bS:List Stmt}
theorem HR:nb X (binaryOp .Sub) (fun x y H Q=>∃k j:Bool,x=.bl k/\y=.bl j/\Q (.int (b2i k-b2i j)) H):=by
 intro pins s σ H x y v u Q I rx ry h
 obtain⟨k,j,rfl,rfl,q⟩:=h
 cases rx
 cases ry
 exact sub_bool ⟨.int (b2i k-b2i j),H,I.tok _,⟨_,rfl⟩,q⟩
theorem Ir(ha:Qp X ρ a (.bl k))(hb:Qp X ρ b (.bl j)):Qp X ρ (.BinOp a .Sub b pos) (.int (b2i k-b2i j)):=
 .of (qT HR aV aV) fun B F H σ Q k' q=>two ha hb k' fun x y F' H' x' rx ry=>by
  cases rx;cases ry
  exact⟨k,j,rfl,rfl,q _ F' H' x' (.int _)⟩
theorem zV{xs:List D}{apos Qt:Pos}{ρ:cp}{pos:Pos}[Th X](t:At X N sc)(i j:Nat)(hr:ρ[i]?=some (.own (xs++[d])))(WM:i≠j)(hN:N[i]?=some y:=by rfl)(hv:dW sc y=true:=by rfl)(hx:cg y=true:=by rfl)(hj:N[j]?=some x:=by rfl)(hl:ku sc x=true:=by rfl)(hline:(apos.endLine==Qt.line)=true:=by rfl)(hs:swapsWith (.Call (.Attribute (.Name y p) "pop" apos) [] [] Qt) (some (.Name x pos')) pos.line X.env=pure false:=by rfl):
  QQ X ρ (.Assign [.Name x pos'] (.Call (.Attribute (.Name y p) "pop" apos) [] [] Qt) pos) (.nx ((ρ.set i (.own xs)).set j (.val d))):=
 .of (mw (i:=j) t.nd (t.ix hj) (t.loc hl) (vd bM ma l9 yh aV rfl hline) hs AZ) fun B F H σ E k q=>
  nJ t hr hN hv hx k fun l vs h1 h2 h3=>⟨.inl ⟨rfl,_,Q1.of h2⟩,by
   have hlen:=h3.length
   obtain⟨w,hw,Sj⟩:=h3.get (i:=xs.length) (d:=d) (by simp)
   have VD:vs.length-1=xs.length:=by rw[hlen];simp
   refine⟨l,vs,w,rfl,rfl,h2,by rw[VD];exact hw,?_⟩
   have k2:=k.SH (vs:=vs) (ds:=xs) hr h1 (by have:=h3.dropLast;rwa [ni] at this)
   exact q F _ _ (k2.QN j Sj) (.refl _)⟩
end
end L2.EV
namespace HT
open PySem PyProof.Rows PySem.Spec
section
theorem UW(xs:Array Value):((List.range xs.size).filterMap fun(m:Nat)=>xs[((xs.size:Int)-1+(m:Int)*(-1)).toNat]?).toArray=xs.toList.reverse.toArray:=by
 have XZ:∀(f g:Nat->Option Value) (l:List Nat),(∀m∈l,f m=g m)->l.filterMap f=l.filterMap g:=by
  intro f g l
  induction l with
  |nil=>intro _;rfl
  |cons m l ih=>
   intro h
   have h1:=ih fun m hm=>h m (aY _ hm)
   rw[jt,jt,h m (bK ..),h1]
 have h2:∀(n:Nat) (r:List Value),r.length=n->(List.range r.length).filterMap (fun m=>r[m]?)=r:=by
  intro n
  induction n with
  |zero=>intro r hr;rw[bc hr];rfl
  |succ n ih=>
   intro r hr
   rcases cz r with e | ⟨ys,y,e⟩
   ·subst e;simp at hr
   ·rw[cY] at e
    subst e
    have hl:ys.length=n:=by simpa using hr
    rw[ac,bL,jY,PM]
    have e1:=XZ (fun m=>(ys++[y])[m]?) (fun m=>ys[m]?) (List.range ys.length) fun m hm=>bg (qj.mp hm)
    rw[e1,ih ys hl]
    congr 1
    simp
 have key:∀l:List Value,(List.range l.length).filterMap (fun(m:Nat)=>l[((l.length:Int)-1+(m:Int)*(-1)).toNat]?)=l.reverse:=by
  intro l
  have h1:=XZ (fun(m:Nat)=>l[((l.length:Int)-1+(m:Int)*(-1)).toNat]?) (fun m=>l.reverse[m]?) (List.range l.length) fun m hm=>by
   have Xy:=qj.mp hm
   show l[((l.length:Int)-1+(m:Int)*(-1)).toNat]?=l.reverse[m]?
   rw[List.getElem?_reverse Xy]
   congr 1;omega
  rw[h1]
  have:=h2 _ l.reverse rfl
  rw[dz] at this
  exact this
 have:=key xs.toList
 rw[bZ] at this
 have e:(fun(m:Nat)=>xs.toList[((xs.size:Int)-1+(m:Int)*(-1)).toNat]?)=fun(m:Nat)=>xs[((xs.size:Int)-1+(m:Int)*(-1)).toNat]?:=by
  funext m;exact me
 rw[e] at this
 rw[this]
end
end HT
namespace L2.EV
open PySem PySem.Spec PyProof.Rows
def Qk(F:Hp)(p:Addr):Hp:=fun a=>if a=p then none else F a
end L2.EV
namespace L2
open PySem PySem.Spec PyProof.Rows
def IW(lo st:Int)(n:Nat):It:=⟨fun i _=>i<n,fun i H x H'=>H'=H/\x=.int (lo+(i:Nat)*st),fun i _=>n<=i,True⟩
theorem zF{K:PySem.W.Frag}(it:Addr)(lo st:Int)(n:Nat):wP P w K tg (IW lo st n) [it] it (fun i h=>IsRangeIter h it (lo+(i:Nat)*st) ((n:Int)-(i:Nat)) st) where
 mem:=by simp
 obj:=fun i h st b hb=>by
  have e:b=it:=by simpa using hb
  subst e
  exact⟨_,st,fun v z=>by
   have z':Data.fields _=Data.cell v:=z
   cases z'⟩
 keep:=fun i h h' st k=>k it (by simp) _ st
 item:=by
  intro X hP hw hK hc i pins s σ H E I hf RM hg
  subst hP hw hK
  obtain⟨f0,f1,f2,f3,f4,f5⟩:=hf it (by simp)
  refine wpAny_pyNext_range_item RM (by have:i<n:=hg;omega) fun h' RM sb=>?_
  have I1:Inv X pins σ H { s with heap:=h',toks:=s.toks+1 }:=I.turned (fun b o hb e=>(sb.2 b hb).trans e) f0 f1 f3 f4 f5
  have e1:lo+(i:Nat)*st+st=lo+((i+1:Nat):Int)*st:=by rw[gO,Int.add_mul];omega
  have e2:(n:Int)-(i:Nat)-1=(n:Int)-((i+1:Nat):Int):=by omega
  rw[e1,e2] at RM
  exact⟨_,rfl,An (s:={ s with heap:=h',toks:=s.toks+1 }) (n := "range_iterator") RM rfl rfl (by decide) ⟨.int (lo+(i:Nat)*st),H,I1,⟨s.toks,rfl⟩,⟨rfl,rfl⟩,RM,fun b hb=>(hf b hb).1⟩⟩
 done:=by
  intro X hP hw hK hc i pins s σ H E I hf RM hg
  subst hP hw hK
  obtain⟨f0,f1,f2,f3,f4,f5⟩:=hf it (by simp)
  rcases hc with hc | ⟨_,ea,oe,u,vs,k1,k2,k3,k4⟩
  rotate_left
  ·obtain⟨ho,_⟩:=(show QC X.prog X.w H s.heap ea (.RH oe u) from I.QG ea _ (I.base.SF ea oe u k2))
   exact pK k1 ho k3 k4 RM (by have:n<=i:=hg;omega) fun h' eb=>⟨rfl,I.turned (t':=s.toks) (fun b o hb e=>eb b o hb e) f0 f1 f3 f4 f5⟩
  exact wpAny_pyNext_range_end (I.ok.hd hc) RM (by have:n<=i:=hg;omega) fun h' eb=>⟨rfl,I.turned (t':=s.toks) (fun b o hb e=>eb b o hb e) f0 f1 f3 f4 f5⟩
 self:=fun _ _ _ _ _ st h=>wpAny_pyIter_rangeiter st h
end L2
namespace L2.EV
open PySem PySem.Spec PyProof.Rows
section
variable {e:DictEntry}
theorem BK{s:Shared}{Q:Option Value->Shared->Prop}(hit:s.heap.IsKeyIter it d i n ep)(hd:s.heap.get? d=some o)(ho:o.data=.dict es ep)(hn:es.size=n)(he:es[i]?=some e)(hQ:∀h',h'.IsKeyIter it d (i+1) n ep->Heap.SameBut it s.heap h'->Q (some e.key) { s with heap:=h' }):wpAny (model prog w) A (pyNext (.ref it)) Q E s:=by
 have hT:s.TypeIs (.ref it) "dict_keyiterator" := hit.typeIs
 obtain⟨⟨cl,di,da,sl⟩,h1,h2,h3⟩:=id hit
 replace h2:cl=_:=h2
 replace h3:da=_:=h3
 subst h2 h3
 unfold pyNext
 refine ae (G5 (cM (name:=Str.ofString "__next__") hT iH (dY iH hT N5 ?_ (NT _))))
 show wpAny _ _ (Builtin.Dict_items.slot0 "__next__" { pos:=[Value.ref it] } >>= _) _ _ s
 refine ae (gd (a:=Value.ref it) (by rfl) ?_)
 show wpAny _ _ (((typeNameOfWhole (.ref it) >>= _) >>= _) >>= _) _ _ s
 refine ae (ae (ae (il hT ?_)))
 refine au ?_
 refine ae (wpAny_fieldsOf h1 rfl ?_)
 show wpAny _ _ (Builtin.Dict_items.addrOf (.ref d) >>= _) _ _ s
 refine ae (gd (a:=d) (by rfl) ?_)
 refine ae (LX hd ho ?_)
 dsimp only
 rw[aq (by rw[hn];simp)]
 refine ae (gd (a:=d) (by rfl) ?_)
 refine ae (Pg hd ho ?_)
 rw[aq (by simp)]
 refine au ?_
 dsimp only
 rw[aq (by omega),dy,he]
 dsimp only
 show wpAny _ _ ((typeNameOfWhole (.ref it) >>= _) >>= _) _ _ s
 refine ae (ae (il hT ?_))
 refine au ?_
 refine ae (wpAny_isOneOf_keyiter hT ?_)
 refine ae (Ee h1 rfl (show 1<4 by decide) ?_)
 show wpAny _ _ _ _ _ { s with heap:=s.heap.update it (Obj.mapFields fun V0=>V0.setIfInBounds 1 (rawInt (i+1))) }
 have e2:=pd (Obj.mapFields fun V0=>V0.setIfInBounds 1 (rawInt (i+1))) h1 (by rfl)
 have hT':Shared.TypeIs { s with heap:=s.heap.update it (Obj.mapFields fun V0=>V0.setIfInBounds 1 (rawInt (i+1))) } (.ref it) "dict_keyiterator" := ⟨_,e2,rfl⟩
 refine ae (bR ?_)
 show wpAny _ _ (Builtin.Dict_items.isOneOf (.ref it) ["dict_keyiterator", "dict_reversekeyiterator"] >>= _) _ _ _
 refine ae (wpAny_isOneOf_keyiter hT' ?_)
 rw[ay (by decide)]
 refine au ?_
 refine au ⟨_,rfl,?_⟩
 refine au ?_
 refine hQ _ ⟨_,e2,rfl,rfl⟩ ⟨Heap.size_update _ _ _,fun b hb=>iq _ _ (Ne.symm hb)⟩
theorem D2{A:Around}{s:Shared}{Q:Option Value->Shared->Prop}(hh:A.handled=none)(hit:s.heap.IsKeyIter it d i n ep)(hd:s.heap.get? d=some o)(ho:o.data=.dict es ep)(hn:es.size=n)(he:es[i]?=none)(hQ:∀h',Heap.ExtBut it s.heap h'->Q none { s with heap:=h' }):wpAny (model prog w) A (pyNext (.ref it)) Q E s:=by
 have hT:s.TypeIs (.ref it) "dict_keyiterator" := hit.typeIs
 obtain⟨⟨cl,di,da,sl⟩,h1,h2,h3⟩:=id hit
 replace h2:cl=_:=h2
 replace h3:da=_:=h3
 subst h2 h3
 unfold pyNext
 refine ae (G5 (cM (name:=Str.ofString "__next__") hT iH (dY iH hT N5 ?_ (NT _))))
 show wpAny _ _ (Builtin.Dict_items.slot0 "__next__" { pos:=[Value.ref it] } >>= _) _ _ s
 refine ae (gd (a:=Value.ref it) (by rfl) ?_)
 show wpAny _ _ (((typeNameOfWhole (.ref it) >>= _) >>= _) >>= _) _ _ s
 refine ae (ae (ae (il hT ?_)))
 refine au ?_
 refine ae (wpAny_fieldsOf h1 rfl ?_)
 show wpAny _ _ (Builtin.Dict_items.addrOf (.ref d) >>= _) _ _ s
 refine ae (gd (a:=d) (by rfl) ?_)
 refine ae (LX hd ho ?_)
 dsimp only
 rw[aq (by rw[hn];simp)]
 refine ae (gd (a:=d) (by rfl) ?_)
 refine ae (Pg hd ho ?_)
 rw[aq (by simp)]
 refine au ?_
 dsimp only
 rw[aq (by omega),dy,he]
 dsimp only
 show wpAny _ _ ((typeNameOfWhole (.ref it) >>= _) >>= _) _ _ s
 refine ae (ae (il hT ?_))
 refine au ?_
 refine ae (Ee h1 rfl (show 0<4 by decide) ?_)
 show wpAny _ _ _ _ _ { s with heap:=s.heap.update it (Obj.mapFields fun V0=>V0.setIfInBounds 0 Value.none) }
 refine ae ?_
 simp only[newExc,newTuple]
 refine ae (bX ?_ (by size_fits))
 refine ae (m:=firstArgMember _ _) (gd (a:=Value.none) (by first | rfl | (simp only[firstArgMember];rfl)) ?_)
 refine bX ?_ (by size_fits)
 simp only[raiseNew]
 refine ae (wpAny_handled ?_)
 rw[show A.in1.handled=none from hh]
 dsimp only
 refine wpAny_throw ?_
 refine ae (NO (T := "StopIteration") (b:=true) ⟨_,aO _ rfl,rfl⟩ Qc ?_)
 refine au (hQ _ fun b o hb q=>?_)
 exact ar _ (ar _ (by rw[iq _ _ (Ne.symm hb)];exact q))
theorem Ni{Q:Value->Shared->Prop}{s:Shared}{d:Addr}(hs:(d==sysModules)=false)(hd:s.heap.get? d=some o)(hx:o.ExactDict)(ho:o.data=.dict es ep)(hQ:Q (.ref s.heap.objs.size) { s with heap:=s.heap.push { cls:=.type "dict_keyiterator",data:=.fields #[.ref d,rawInt 0,rawInt es.size,rawInt ep] } }):wpAny (model prog w) A (pyIter (.ref d)) Q E s:=by
 have hT:s.TypeIs (.ref d) "dict" := ⟨o,hd,hx.1⟩
 refine wpAny_pyIter_slot hT F.slot_dict_iter (dY F.slot_dict_iter hT F.entry_dict_iter ?_ (F.args_dict_iter_1 _))
 unfold Builtin.«dict.__iter__»
 show wpAny _ _ ((Builtin.Dict.notOrdered "__iter__" { pos:=[Value.ref d] } >>= _) >>= _) _ _ s
 refine ae (ae ?_)
 unfold Builtin.Dict.notOrdered
 rw[ay (by decide)]
 refine ae (LV hT ?_)
 rw[aq (by decide)]
 refine au ?_
 refine ae (gd (a:=(Value.ref d,[])) (by rfl) ?_)
 refine au ?_
 refine ae (gd (a:=d) (by rfl) ?_)
 unfold Builtin.Dict.showsAll
 rw[aq (by rw[hs];decide)]
 refine ae (au ?_)
 refine ae (LX hd ho ?_)
 refine ae (Pg hd ho ?_)
 refine ae ?_
 unfold newFields
 refine bX ?_ (by size_fits)
 refine au ⟨_,rfl, "dict_keyiterator",_,⟨_,aO _ rfl,rfl⟩,by rfl,hQ⟩
end
abbrev ik:=List (List Int×Int)
abbrev xG:=List (List Int×Addr×Int)
def fM(kvs:ik)(k:List Int):Option Int:=(kvs.find? fun p=>decide (p.1=k)).map (·.2)
def jJ(kvs:ik)(k:List Int)(n:Int):ik:=if (fM kvs k).isSome=true then kvs.map (fun p=>if p.1=k then (p.1,n) else p) else kvs++[(k,n)]
def AY(xs:xG)(k:List Int)(b:Addr)(n:Int):xG:=if (xs.find? fun p=>decide (p.1=k)).isSome=true then xs.map (fun p=>if p.1=k then (p.1,p.2.1,n) else p) else xs++[(k,b,n)]
abbrev kv(x:List Int×Addr×Int):List Int×Int:=(x.1,x.2.2)
theorem xM(xs:xG)(k:List Int):fM (xs.map kv) k=(xs.find? fun p=>decide (p.1=k)).map (·.2.2):=by
 unfold fM
 induction xs with
 |nil=>rfl
 |cons x xs ih=>
  rw[aS,c9,c9]
  by_cases h:x.1=k
  ·simp[kv,h]
  ·have h':decide ((kv x).1=k)=false:=by simp[kv,h]
   have h2:decide (x.1=k)=false:=by simp[h]
   rw[h'];exact ih
theorem HH(xs:xG)(k:List Int)(b:Addr)(n:Int):jJ (xs.map kv) k n=(AY xs k b n).map kv:=by
 unfold jJ AY
 rw[xM,Option.isSome_map]
 by_cases h:(xs.find? fun p=>decide (p.1=k)).isSome=true
 ·rw[ay h,ay h,cD,cD]
  refine pc fun x _=>?_
  show(if x.1=k then (x.1,n) else kv x)=kv (if x.1=k then (x.1,x.2.1,n) else x)
  by_cases e:x.1=k
  ·rw[ay e,ay e]
  ·rw[aq e,aq e]
 ·rw[aq h,aq h,aX];rfl
abbrev QU:xG->List (List Int×Addr×Value)->Prop:=Paired fun(x:List Int×Addr×Int) (y:List Int×Addr×Value)=>y.1=x.1/\y.2.1=x.2.1/\RelV (.int x.2.2) y.2.2
theorem QU.at{ys:List (List Int×Addr×Value)}(r:QU xs ys)(k:List Int):((xs.find? fun p=>decide (p.1=k))=none->atKey ys k=none)/\∀x,(xs.find? fun p=>decide (p.1=k))=some x->∃v,atKey ys k=some (x.2.1,v)/\RelV (.int x.2.2) v:=by
 induction r with
 |nil=>exact⟨fun _=>rfl,fun x h=>by cases h⟩
 |@cons p q ps qs h t ih=>
  obtain⟨h1,h2,h3⟩:=h
  rw[c9]
  by_cases e:p.1=k
  ·have e':decide (p.1=k)=true:=by simp[e]
   rw[e']
   refine⟨fun z=>(by cases z),fun x z=>?_⟩
   cases z
   refine⟨q.2.2,?_,h3⟩
   have e2:decide (q.1=k)=true:=by simp[h1,e]
   show(List.find? _ (q::qs)).map _=_
   rw[c9,e2]
   show some q.2=some (p.2.1,q.2.2)
   rw[<-h2]
  ·have e':decide (p.1=k)=false:=by simp[e]
   have e2:decide (q.1=k)=false:=by simp[h1,e]
   rw[e']
   have e3:atKey (q::qs) k=atKey qs k:=by
    show(List.find? _ (q::qs)).map _=_
    rw[c9,e2];rfl
   rw[e3];exact ih
theorem QU.isSome{ys:List (List Int×Addr×Value)}(r:QU xs ys)(k:List Int):(atKey ys k).isSome=(xs.find? fun p=>decide (p.1=k)).isSome:=by
 obtain⟨h1,h2⟩:=r.at k
 cases q:(xs.find? fun p=>decide (p.1=k)) with
 |none=>rw[h1 q];rfl
 |some x=>obtain⟨v,e,_⟩:=h2 x q;rw[e];rfl
theorem QU.snoc{p:List Int×Addr×Int}{q:List Int×Addr×Value}(h:q.1=p.1/\q.2.1=p.2.1/\RelV (.int p.2.2) q.2.2):∀{xs:xG} {ys:List (List Int×Addr×Value)},QU xs ys->QU (xs++[p]) (ys++[q])
 |_,_,.nil=>.cons h .nil
 |_,_,.cons a t=>.cons a (QU.snoc h t)
theorem QU.put{ys:List (List Int×Addr×Value)}(r:QU xs ys)(k:List Int)(b:Addr)(ru:RelV (.int n) u):QU (AY xs k b n) (storedH ys k b u):=by
 unfold AY storedH
 rw[r.isSome k]
 by_cases h:(xs.find? fun p=>decide (p.1=k)).isSome=true
 ·rw[ay h,ay h]
  clear h
  induction r with
  |nil=>exact .nil
  |@cons p q ps qs h t ih=>
   obtain⟨h1,h2,h3⟩:=h
   rw[aS,aS]
   refine .cons ?_ ih
   unfold putAt
   by_cases e:p.1=k
   ·rw[ay e,ay (h1.trans e)];exact⟨h1,h2,ru⟩
   ·rw[aq e,aq (fun z=>e (h1.symm.trans z))];exact⟨h1,h2,h3⟩
 ·rw[aq h,aq h]
  exact QU.snoc ⟨rfl,rfl,ru⟩ r
theorem QU.len{ys:List (List Int×Addr×Value)}(r:QU xs ys):xs.length=ys.length:=by
 induction r with
 |nil=>rfl
 |cons h t ih=>rw[a5,a5,ih]
theorem Cf(xs:xG)(k:List Int)(b:Addr)(n:Int):(AY xs k b n).length<=xs.length+1:=by
 unfold AY
 split
 ·rw[af];omega
 ·rw[ac,bL];omega
theorem Rt.put{k:List Int}{b:Addr}(r:Rt F kvs xs)(hb:F b=some (.tup (k.map V.int)))(n:Int):Rt F (jJ kvs k n) (AY xs k b n):=by
 refine⟨?_,fun x hx=>?_⟩
 ·rw[r.1];exact HH xs k b n
 ·unfold AY at hx
  split at hx
  ·obtain⟨y,hy,rfl⟩:=a6.mp hx
   by_cases e:y.1=k
   ·rw[ay e];exact r.2 y hy
   ·rw[aq e];exact r.2 y hy
  ·rcases aM.mp hx with h | h
   ·exact r.2 x h
   ·rw[a7] at h;subst h;exact hb
def R4(H:Hp)(a:Addr)(xs:xG):Prop:=H a=some (.ext (ei a xs))\/∃ob,H a=some (.RH ob (.ext (ei a xs)))
theorem R4.mono(s:Qx H H')(h:R4 H a xs):R4 H' a xs:=h.elim (fun z=>.inl (s _ _ z)) fun⟨ob,z⟩=>.inr ⟨ob,s _ _ z⟩
theorem items_int:∀{ks:List Int} {us:List Value},Vals (ks.map V.int) us->ItemsAre (intKind P w) ks us
 |[],_,r=>by rw[List.map_nil] at r;cases r;exact .nil
 |k::ks,_,r=>by
  rw[aS] at r
  cases r with
  |cons h t=>
   obtain⟨tk,rfl⟩:=(show ∃t,_=Value.int k t from h)
   exact .cons (by show Value.isInt k (.int k tk)=true;simp[Value.isInt]) (items_int t)
section
theorem xO{k:List Int}{b:Addr}(I:Inv X pins σ H s)(e:H b=some (.tup (k.map V.int))):(tupleKind (intKind X.prog X.w)).is s.heap k b:=by
 obtain⟨_,its,r,o,h1,h2,n,h3⟩:=(show QC X.prog X.w H s.heap b (.tup (k.map V.int)) from I.QG b _ e)
 exact⟨o,its.toArray,n,h1,h2,h3,by simpa using items_int r⟩
theorem R4.is(I:Inv X pins σ H s)(h:R4 H a xs):ei a xs s.heap:=by
 rcases h with e | ⟨ob,e⟩
 ·exact(show QC X.prog X.w H s.heap a (.ext (ei a xs)) from I.QG a _ e).1
 ·exact(show QC X.prog X.w H s.heap a (.RH ob (.ext (ei a xs))) from I.QG a _ e).2.1
theorem uD(I:Inv X pins σ H s)(h:ei a xs s.heap)(hk:∀x∈xs,H x.2.1=some (.tup (x.1.map V.int))):xs.length<=sizeLine/\(a==sysModules)=false/\∃ys,QU xs ys/\s.heap.DictOfH (tupleKind (intKind X.prog X.w)) a ys:=by
 obtain⟨z,hd,o,ho,hx,es,ep,ys,h1,h2,r,nd⟩:=h
 refine⟨z,hd,ys,r,o,es,ep,ho,hx,h1,h2 _ _,fun y hy=>?_,nd⟩
 have all:∀{l:xG} {m:List (List Int×Addr×Value)},QU l m->(∀x∈l,H x.2.1=some (.tup (x.1.map V.int)))->∀y∈m,(tupleKind (intKind X.prog X.w)).is s.heap y.1 y.2.1:=by
  intro l m q
  induction q with
  |nil=>intro _ y hy;exact nomatch hy
  |@cons p q ps qs hq t ih=>
   intro hl y hy
   rcases aC.mp hy with e | hy
   ·subst e
    rw[hq.1,hq.2.1]
    exact xO I (hl p (by simp))
   ·exact ih (fun x hx=>hl x (by simp[hx])) y hy
 exact all r hk y hy
theorem BL{h:Heap}{a:Addr}{xs:xG}{ys:List (List Int×Addr×Value)}(z:xs.length<=sizeLine)(hd:(a==sysModules)=false)(r:QU xs ys)(dd:h.DictOfH (tupleKind (intKind P w)) a ys):ei a xs h:=by
 obtain⟨o,es,ep,h1,h2,h3,h4,h5,h6⟩:=dd
 exact⟨z,hd,o,h1,h2,es,ep,ys,h3,fun _ _=>h4,r,h6⟩
theorem yG(z:ei a xs h):QC P w H' h a (.ext (ei a xs)):=by
 refine⟨z,let ⟨_,_,o,h1,_⟩:=z;⟨o,h1⟩,fun h1 h2 y k=>?_⟩
 obtain⟨q1,q2,o,h3,h4⟩:=y
 exact⟨q1,q2,o,k o h3,h4⟩
theorem Inv.Z6{a:Addr}(I:Inv X pins σ H s)(h:H a=some (.ext (ei a xs))):∃ob,Inv X pins σ (cA H a (.RH ob (.ext (ei a xs)))) s:=by
 have z:=R4.is I (.inl h)
 obtain⟨q1,q2,ob,h1,h2⟩:=id z
 refine⟨ob,?_⟩
 exact I.write (x:=a) (e:=a) (t':=s.toks) (by rw[h];exact True.intro) (.inl rfl) (fun b u _ q=>q) ⟨ob,h1⟩ ⟨h1,yG z⟩
end
section
variable {K:PySem.W.Frag}{ρ:List Sl}
def JI(σ:St)(ρ:List Sl)(p:Addr):Prop:=∀(i:Nat) xs,ρ[i]?=some (.RC xs)->σ[i]?≠some (some (.ref p))
theorem Ok.Xl{p:Addr}(k:Ok K B F H σ ρ)(hp:H p=none):JI σ ρ p:=fun i xs e q=>by
 obtain⟨a,vs,h1,h2,_⟩:=k.QM.SG i xs e
 rw[h1] at q;cases q
 rw[hp] at h2;cases h2
theorem kX{s:Sl}(j:Nat)(t:Sl)(h:(ρ.set i s)[j]?=some t)(hn:t≠s):i≠j/\ρ[j]?=some t:=by
 by_cases e:i=j
 ·subst e
  rw[bN] at h
  cases z:ρ[i]? with
  |none=>rw[z] at h;cases h
  |some w=>rw[z] at h;exact absurd (bB h).symm hn
 ·rw[av e] at h;exact⟨e,h⟩
theorem Ok.V2{p:Addr}(k:Ok K B F H σ ρ)(i:Nat)(hp:H p=some (.ext (ei p es)))(hf:F p=none)(hb:B.H p=none)(hn:JI σ ρ p)(r:Rt F kvs es):Ok K B F H (σ.set i (some (.ref p))) (ρ.set i (.RC kvs)):=by
 refine⟨k.toExt,by rw[bC,bC,k.len],fun j d q=>?_,fun j xs q=>?_,fun j l xs ys a q1 q2 q3 q4=>?_,fun j ks q=>?_,fun j l xs ys a q1 q2 q3 q4=>?_⟩
 ·obtain⟨n,q'⟩:=kX j _ q (fun z=>nomatch z)
  rw[av n];exact k.vals j d q'
 ·obtain⟨n,q'⟩:=kX j _ q (fun z=>nomatch z)
  rw[av n];exact k.Rj j xs q'
 ·obtain⟨n1,q1⟩:=kX j _ q1 (fun z=>nomatch z)
  obtain⟨n2,q2⟩:=kX l _ q2 (fun z=>nomatch z)
  rw[av n1] at q3
  rw[av n2] at q4
  exact k.dist j l xs ys a q1 q2 q3 q4
 ·by_cases h:i=j
  ·subst h
   rw[bN] at q
   cases z:ρ[i]? with
   |none=>rw[z] at q;cases q
   |some w=>
    rw[z] at q;cases q
    have hi:i<σ.length:=by rw[k.len];exact(az.mp z).1
    exact⟨p,es,by rw[a9 hi],hp,hf,hb,r⟩
  ·rw[av h] at q ⊢
   exact k.QM.SG j ks q
 ·by_cases n1:i=j
  ·by_cases n2:i=l
   ·exact n1.symm.trans n2
   ·subst n1
    rw[av n2] at q2 q4
    have hi:i<σ.length:=by
     have:=(az.mp q3).1
     rw[bC] at this;exact this
    rw[a9 hi] at q3
    cases q3
    exact absurd q4 (hn l ys q2)
  ·by_cases n2:i=l
   ·subst n2
    rw[av n1] at q1 q3
    have hi:i<σ.length:=by
     have:=(az.mp q4).1
     rw[bC] at this;exact this
    rw[a9 hi] at q4
    cases q4
    exact absurd q3 (hn j xs q1)
   ·rw[av n1] at q1 q3
    rw[av n2] at q2 q4
    exact k.QM.SI j l xs ys a q1 q2 q3 q4
theorem Ok.Wx{i:Nat}(k:Ok K B F H σ ρ)(hi:ρ[i]?=some (.RC kvs))(hs:σ[i]?=some (some (.ref p)))(r:Rt F U0 WU):Ok K B F (cA H p (.ext (ei p WU))) σ (ρ.set i (.RC U0)):=by
 obtain⟨a,us,h1,h2,h3,h4,h5⟩:=k.QM.SG i kvs hi
 rw[h1] at hs
 cases hs
 have QW:i<ρ.length:=(az.mp hi).1
 refine⟨⟨fun b u q=>?_,fun b u q=>?_,k.sf,k.nw⟩,by rw[bC,k.len],fun j d q=>?_,fun j xs q=>?_,fun j l xs ys a q1 q2=>?_,fun j ks q=>?_,fun j l xs ys a q1 q2 q3 q4=>?_⟩
 ·have ne:b≠p:=fun z=>by subst z;rw[h3] at q;cases q
  rw[aJ ne];exact k.sub b u q
 ·have ne:b≠p:=fun z=>by subst z;rw[h4] at q;cases q
  rw[aJ ne];exact k.sh b u q
 ·exact k.vals j d (kX j _ q (fun z=>nomatch z)).2
 ·obtain⟨b,vs,g1,g2,g3⟩:=k.Rj j xs (kX j _ q (fun z=>nomatch z)).2
  have ne:b≠p:=fun z=>by subst z;rw[h2] at g2;cases g2
  exact⟨b,vs,g1,by rw[aJ ne];exact g2,g3⟩
 ·exact k.dist j l xs ys a (kX j _ q1 (fun z=>nomatch z)).2 (kX l _ q2 (fun z=>nomatch z)).2
 ·by_cases h:i=j
  ·subst h
   rw[a9 QW] at q;cases q
   exact⟨p,WU,h1,aK,h3,h4,r⟩
  ·rw[av h] at q
   obtain⟨b,Sd,g1,g2,g3,g4,g5⟩:=k.QM.SG j ks q
   have ne:b≠p:=fun z=>by subst z;exact h (k.QM.SI i j kvs ks b hi q h1 g1)
   exact⟨b,Sd,g1,by rw[aJ ne];exact g2,g3,g4,g5⟩
 ·have own:∀(m:Nat) ys,(ρ.set i (.RC U0))[m]?=some (.RC ys)->∃zs,ρ[m]?=some (.RC zs):=fun m ys q=>by
   by_cases h:i=m
   ·subst h;exact⟨kvs,hi⟩
   ·rw[av h] at q;exact⟨ys,q⟩
  obtain⟨y1,z1⟩:=own j xs q1
  obtain⟨y2,z2⟩:=own l ys q2
  exact k.QM.SI j l _ _ a z1 z2 q3 q4
end
def IY(X:Cx)(ρ:cp)(e:Expr)(kvs:ik):Prop:=∀(B:B0) (F H:Hp) (σ:St) (Q:VK),Ok X.K B F H σ ρ->(∀a xs F' H',Ext ⟨F,H⟩ F' H'->R4 H' a xs->Rt F' kvs xs->Q (.ref a) H')->wE X e σ H Q
def Q6(X:Cx)(ρ:cp)(e:Expr)(kvs:ik):Prop:=∀(B:B0) (F H:Hp) (σ:St) (Q:VK),Ok X.K B F H σ ρ->(∀p xs F' H',Ext ⟨F,H⟩ F' H'->H p=none->H' p=some (.ext (ei p xs))->F' p=none->Rt F' kvs xs->Q (.ref p) H')->wE X e σ H Q
section
theorem Qp.dr(h:Qp X ρ e (.QM kvs)):IY X ρ e kvs:=fun B F H σ Q k q=>h B F H σ Q k fun v F' H' x' r=>by
 cases r with
 |QM hf r=>exact q _ _ F' H' x' (.inr ⟨_,x'.sub _ _ hf⟩) r
theorem Lu{ρ:cp}(t:At X N sc)(i:Nat)(hr:ρ[i]?=some (.RC kvs))(hN:N[i]?=some x:=by rfl)(hv:dW sc x=true:=by rfl)(hx:cg x=true:=by rfl):IY X ρ (.Name x pos) kvs:=fun B F H σ Q k q=>.mk fun pins s I=>by
 obtain⟨a,es,h1,h2,h3,h4,h5⟩:=k.QM.SG i kvs hr
 exact su t hN hv hx pins s σ H Q I ⟨_,h1,q a es F H (.refl k.sub) (.inl h2) h5⟩
theorem Ext.VG{H:Hp}{q:Addr}(x:Ext ⟨F,H⟩ F' H')(h0:H q=none)(hf:F' q=none):Ext ⟨F,H⟩ (cA F' q (.RH ob (.ext (ei q xs)))) (cA H' q (.RH ob (.ext (ei q xs)))):=
 ⟨uH x.sub,fun b u z=>by
  have ne:b≠q:=fun w=>by subst w;have z':H b=some u:=z;rw[h0] at z';cases z'
  rw[aJ ne];exact x.sh b u z,x.sf.trans (aP hf),fun b z=>by
  by_cases h:b=q
  ·subst h;exact .inr h0
  ·rw[aJ h] at z;exact x.nw b z⟩
theorem Q6.Rc(h:Q6 X ρ e kvs):Qp X ρ e (.QM kvs):=fun B F H σ Q k q=>.mk fun pins s I=>
 de (h B F H σ (fun v H'=>∃p xs F',v=.ref p/\Ext ⟨F,H⟩ F' H'/\H p=none/\H' p=some (.ext (ei p xs))/\F' p=none/\Rt F' kvs xs) k (fun p xs F' H' x' h0 h1 h2 r=>⟨p,xs,F',rfl,x',h0,h1,h2,r⟩) pins s I) fun u s1 ⟨v,H',I1,rv,p,xs,F',ev,x',h0,h1,h2,r⟩=>by
  subst ev
  obtain⟨ob,I2⟩:=Inv.Z6 I1 h1
  exact⟨_,_,I2,rv,q _ _ _ (x'.VG h0 h2) (.QM aK (r.mono (aP h2)))⟩
theorem Gp:Q6 X ρ (.Dict [] [] pos) []:=fun B F H σ Q k q=>.mk fun pins s I=>by
 have hn:=I.QG.fresh (ak s.heap.objs.size)
 have hb:sysModules<s.heap.objs.size:=je (by decide) (show mainGlobals<s.heap.objs.size from(I.mod.glob.keeps I.bk).lt)
 have z:ei s.heap.objs.size [] (s.heap.push { cls:=.type "dict",data:=.dict #[] }):=BL (P:=X.prog) (w:=X.w) (bu _) (bj.mpr (Ne.symm (bi hb))) .nil (NS s.heap)
 refine wpAny_Dict_empty ⟨.ref s.heap.objs.size,_,I.laid (a:=s.heap.objs.size) (o:=.ext (ei s.heap.objs.size [])) (t':=s.toks) (fun _ _ q=>ar _ q) (ak _) (yG z),rfl,?_⟩
 exact q _ [] F _ ⟨k.sub.trans (aP hn),aP hn,.refl _,fun _ z=>.inl z⟩ hn aK (k.sub.free hn) ⟨rfl,fun _ z=>nomatch z⟩
theorem EO{pos:Pos}[Th X](t:At X N sc)(i:Nat)(h:Q6 X ρ e kvs)(hi:N[i]?=some x:=by rfl)(hx:ku sc x=true:=by rfl)(hs:swapsWith e (some (.Name x pos')) pos.line X.env=pure false:=by rfl):
  QQ X ρ (.Assign [.Name x pos'] e pos) (.nx (ρ.set i (.RC kvs))):=
 .of (mw (i:=i) t.nd (t.ix hi) (t.loc hx) aV hs AZ) fun B F H σ E k q=>h B F H σ _ k fun p vs F' H' x' h0 hp hf r=>
  q F' H' _ ((k.ext x').V2 i hp hf (k.sh.free h0) (by
   have hd:=k.Xl h0
   exact hd) r) x'.sf
theorem F9{k:List Int}(t:At X N sc)(ha:IY X ρ a kvs)(hb:Qp X ρ b (.tup (k.map D.int)))(h:fM kvs k=some n)(hs:iV b:=by intro _ _;rfl):Qp X ρ (.Subscript a b pos) (.int n):=fun B F H σ Q kk q=>.mk fun pins s I=>by
 refine PJ (de (ha B F H σ (fun v H1=>∃p xs F1,v=.ref p/\Ext ⟨F,H⟩ F1 H1/\R4 H1 p xs/\Rt F1 kvs xs) kk (fun p xs F1 H1 x1 r1 r2=>⟨p,xs,F1,rfl,x1,r1,r2⟩) pins s I) fun u s1 ⟨v,H1,I1,rv,p,xs,F1,ev,x1,r1,r2⟩=>?_)
 subst ev
 cases(show u=Value.ref p from rv)
 refine de (hb B F1 H1 σ (fun v H2=>∃F2,Ext ⟨F1,H1⟩ F2 H2/\Rep X.K F2 v (.tup (k.map D.int))) (kk.ext x1) (fun v F2 H2 x2 r3=>⟨F2,x2,r3⟩) pins s1 I1) fun iv s2 ⟨w,H2,I2,Sj,F2,x2,r3⟩=>?_
 cases r3 with
 |@tup bt vs ds hf rl=>
  have ev:=Qq.Ru rl
  subst ev
  cases(show iv=Value.ref bt from Sj)
  have hd:=R4.is I2 (r1.mono x2.sh)
  have YD:=r2.mono x2.sf
  obtain⟨z,Wc,ys,rel,dd⟩:=uD I2 hd (fun x hx=>x2.sub _ _ (YD.2 x hx))
  have hv:fM (xs.map kv) k=some n:=by rw[<-h,r2.1]
  rw[xM] at hv
  obtain⟨x0,Zp,e0⟩:=Pj.mp hv
  obtain⟨w0,Zr,Yz⟩:=(rel.at k).2 x0 Zp
  refine dP (x:=w0) dd.typeIs PySem.F.slot_dict_getitem.lookup ?_ (hs _ _)
  refine IZ (Q:=fun r s'=>r=w0/\EP X pins σ Q r s') (l7 (by have:=t.un;omega)) (xO I2 (x2.sub _ _ hf)) dd Zr ⟨rfl,.int n,H2,I2.tok _,?_,q _ F2 H2 (x1.t x2) (.int n)⟩
  rw[<-e0];exact Yz
end
section
theorem Gs{a b:Addr}{k:List Int}{h':Heap}{t':Nat}(I:Inv X pins σ H s)(h:H a=some (.ext (ei a xs)))(hk:∀x∈xs,H x.2.1=some (.tup (x.1.map V.int)))(hb:H b=some (.tup (k.map V.int)))(hz:xs.length<sizeLine)(ru:RelV (.int n) u){ys:List (List Int×Addr×Value)}(rel:QU xs ys)(hs:(a==sysModules)=false)(dd:h'.DictOfH (tupleKind (intKind X.prog X.w)) a (storedH ys k b u))(sb:Heap.SameBut a s.heap h'):
  Inv X pins σ (cA H a (.ext (ei a (AY xs k b n)))) { s with heap:=h',toks:=t' }:=by
 have z:ei a (AY xs k b n) h':=BL (by have:=Cf xs k b n;omega) hs (rel.put k b ru) dd
 exact I.write (x:=a) (e:=a) (by rw[h];exact True.intro) (.inl rfl) (fun c q hc w=>(sb.2 c hc).trans w) (let ⟨_,_,o,h1,_⟩:=z;⟨o,h1⟩) (yG z)
def ML:Eb:=fun o i v H Q=>∃a xs k b n,o=.ref a/\i=.ref b/\v=.int n/\H a=some (.ext (ei a xs))/\(∀x∈xs,H x.2.1=some (.tup (x.1.map V.int)))/\H b=some (.tup (k.map V.int))/\xs.length<sizeLine/\Q (cA H a (.ext (ei a (AY xs k b n))))
theorem J6{X:Cx}(hu:X.A.units+1<cLine):IV X ML:=by
 intro pins s σ H o i v ov iv u Q I ro ri rv h
 obtain⟨a,xs,k,b,n,rfl,rfl,rfl,h1,h2,h3,h4,q⟩:=h
 cases(show ov=Value.ref a from ro)
 cases(show iv=Value.ref b from ri)
 obtain⟨z,hs,ys,rel,dd⟩:=uD I (R4.is I (.inl h1)) h2
 refine wpAny_setItem_heap (hsz:=by rw[<-rel.len];exact z) (l7 hu) (xO I h3) dd fun h' VH sb=>⟨_,Gs I h1 h2 h3 h4 rv rel hs VH sb,q⟩
def xa(xs:xG)(is:xG):xG:=is.foldl (fun acc x=>AY acc x.1 x.2.1 x.2.2) xs
theorem Gr{a:Addr}{X:Cx}(hu:X.A.units<cLine){Q:PUnit->Shared->Prop}:∀(is:xG) (ws:List (Value×Value)) (xs:xG) (H:Hp) (s:Shared),Inv X pins σ H s->H a=some (.ext (ei a xs))->(∀x∈xs,H x.2.1=some (.tup (x.1.map V.int)))->(∀x∈is,H x.2.1=some (.tup (x.1.map V.int))) ->
  Paired (fun(x:List Int×Addr×Int) (w:Value×Value)=>w.1=.ref x.2.1/\RelV (.int x.2.2) w.2) is ws->xs.length+is.length<sizeLine->(∀s',Inv X pins σ (cA H a (.ext (ei a (xa xs is)))) s'->Q PUnit.unit s') ->
  wpAny (model X.prog X.w) X.A (forIn ws PUnit.unit fun x _=>do
   dictSet a x.fst x.snd
   pure (ForInStep.yield PUnit.unit)) Q E s:=by
 intro is
 induction is with
 |nil=>
  intro ws xs H s I h1 h2 h3 r hz q
  cases r
  have e:cA H a (.ext (ei a xs))=H:=funext fun b=>by
   by_cases hb:b=a
   ·subst hb;rw[aK,h1]
   ·rw[aJ hb]
  have q':=q s
  rw[show xa xs []=xs from rfl,e] at q'
  exact au (q' I)
 |cons x is ih=>
  intro ws xs H s I h1 h2 h3 r hz q
  cases r with
  |@cons _ w _ ws hw t=>
  obtain⟨k,b,n⟩:=x
  obtain⟨w1,w2⟩:=w
  obtain⟨e1,rn⟩:=hw
  cases(show w1=Value.ref b from e1)
  rw[a5] at hz
  rw[oI]
  obtain⟨z,hs,ys,rel,dd⟩:=uD I (R4.is I (.inl h1)) h2
  have hb:H b=some (.tup (k.map V.int)):=h3 (k,b,n) (by simp)
  refine ae (ae (wpAny_dictSet_heap (by show X.A.units<cLine;exact hu) (xO I hb) dd (fun h' VH sb=>?_) (by rw[<-rel.len];exact z)))
  refine au ?_
  have I2:=Gs (t':=s.toks+(tupleKind (intKind X.prog X.w)).draws k) I h1 h2 hb (by omega) rn rel hs VH sb
  have tn:∀c ks,H c=some (.tup ks)->cA H a (.ext (ei a (AY xs k b n))) c=some (.tup ks):=fun c ks hc=>by
   rw[aJ (fun z=>by subst z;rw[h1] at hc;cases hc)];exact hc
  refine ih ws (AY xs k b n) _ _ I2 aK (fun y hy=>?_) (fun y hy=>tn _ _ (h3 y (by simp[hy]))) t (by have:=Cf xs k b n;omega) fun s' I3=>q s' ?_
  ·unfold AY at hy
   split at hy
   ·obtain⟨y',Wa,rfl⟩:=a6.mp hy
    by_cases e:y'.1=k
    ·rw[ay e];exact tn _ _ (h2 y' Wa)
    ·rw[aq e];exact tn _ _ (h2 y' Wa)
   ·rcases aM.mp hy with h | h
    ·exact tn _ _ (h2 y h)
    ·rw[a7] at h;subst h;exact tn _ _ hb
  ·rw[xN] at I3;exact I3
end
section
theorem Da{ρ:cp}{k:List Int}(t:At X N sc)(i:Nat)(hr:ρ[i]?=some (.RC kvs))(hb:Qp X ρ b (.tup (k.map D.int)))(hz:kvs.length<sizeLine)(hN:N[i]?=some y:=by rfl)(hv:dW sc y=true:=by rfl)(hx:cg y=true:=by rfl)(ha:∀v,assign (.Subscript (.Name y p) b pos) X.env v=(do
   let ov <-holding [v] (eval (.Name y p) X.env)
   let iv <-holding [v,ov] (eval b X.env)
   standAt pos
   holding [v,ov,iv] (setItem ov iv v)
   release [v,ov,iv] []):=by intro _;rfl):TY X ρ (.Subscript (.Name y p) b pos) (.int n) (ρ.set i (.RC (jJ kvs k n))):=
 .of (Fl aV aV (J6 (by have:=t.un;omega)) ha) fun B F H σ v Q kk r q=>by
  cases r
  refine .mk fun pins s I=>?_
  obtain⟨l,es,h1,h2,h3,h4,h5⟩:=kk.QM.SG i kvs hr
  refine su t hN hv hx pins s σ H _ I ⟨_,h1,?_⟩
  refine hb B F H σ _ kk fun w F' H' x' Sj=>?_
  cases Sj with
  |@tup bt vs ds hf rl=>
   have ev:=Qq.Ru rl
   subst ev
   have h5':=h5.mono x'.sf
   refine⟨l,es,k,bt,n,rfl,rfl,rfl,x'.sh _ _ h2,fun x hx=>x'.sub _ _ (h5'.2 x hx),x'.sub _ _ hf,?_,?_⟩
   ·have e:=bJ List.length h5.1
    rw[af] at e;omega
   ·exact q F' _ _ ((kk.ext x').Wx hr h1 (h5'.put hf n)) x'.sf
theorem C6{n0:Int}{apos:Pos}{k:List Int}(t:At X N sc)(ho:IY X ρ a kvs)(ha:Q2 X ρ [e,f] [.tup (k.map D.int),.int n0])(Ry:attributeBase a "get" X.env (eval a X.env)=eval a X.env:=by rfl)(Rx:((backTo Qt (starEach [e,f] X.env)).all (fun x=>!x.1)&&(backToKw Qt (keywordEach [] X.env)).all (fun x=>x.1.isSome)
   && decide (([e,f]:List Expr).length+([]:List Keyword).length+(if ([]:List Keyword).isEmpty then 0 else 1)<30))=true:=by rfl)(hline:(apos.endLine==Qt.line)=true:=by rfl)(hs:starEach [e,f] X.env=(false,eval e X.env)::starEach [f] X.env:=by rfl)(Ud:(backTo Qt (starEach [f] X.env)).any (·.1)=false:=by rfl):
  Qp X ρ (.Call (.Attribute a "get" apos) [e,f] [] Qt) (.int ((fM kvs k).getD n0)):=fun B F H σ Q kk q=>.mk fun pins s I=>by
 refine wpAny_Call_method_late Ry Rx hline rfl (de (ho B F H σ (fun v H1=>∃p xs F1,v=.ref p/\Ext ⟨F,H⟩ F1 H1/\R4 H1 p xs/\Rt F1 kvs xs) kk (fun p xs F1 H1 x1 r1 r2=>⟨p,xs,F1,rfl,x1,r1,r2⟩) pins s I) fun u s1 ⟨v,H1,I1,rv,p,xs,F1,ev,x1,r1,r2⟩=>?_)
 subst ev
 cases(show u=Value.ref p from rv)
 have hd:=R4.is I1 r1
 obtain⟨_,_,ob,g1,g2,_⟩:=id hd
 refine⟨"dict", "dict.get",PySem.F.plainAttrs_dict,PL,PySem.F.type_dict_get,⟨ob,g1,g2.1⟩,fun c ec=>(by cases ec;exact⟨ob,g1,g2.2.1⟩),?_⟩
 have hA:=ha.2 B F1 H1 σ (fun vs H2=>∃F2,Ext ⟨F1,H1⟩ F2 H2/\Qq X.K F2 vs [.tup (k.map D.int),.int n0]) (kk.ext x1) (fun vs F2 H2 x2 r3=>⟨F2,x2,r3⟩) Qt pins s1 I1
 rw[hs] at hA ⊢
 refine AX (by show(false||(backTo Qt (starEach [f] X.env)).any (·.1))=false;rw[Ud]<;>rfl) (Calls.evalArgs_plain ?_)
 refine de hA fun us s2 ⟨vs,H2,I2,Vv,F2,x2,r3⟩=>?_
 cases r3 with
 |cons ra rb=>
 cases rb with
 |cons rn YA=>
 cases YA
 cases rn
 cases ra with
 |@tup bt ks ds hf rl=>
 have ev:=Qq.Ru rl
 subst ev
 obtain⟨u1,u2,rfl,ru1,ru2⟩:=zx Vv
 cases(show u1=Value.ref bt from ru1)
 have YD:=r2.mono x2.sf
 obtain⟨z,Wc,ys,rel,dd⟩:=uD I2 (R4.is I2 (r1.mono x2.sh)) (fun x hx=>x2.sub _ _ (YD.2 x hx))
 refine call_meetsIn PL dd.typeIs PySem.F.entry_dict_get (PySem.F.args_dict_get_3 _ _ _) (meetsH_dict_get_default (tupleKind (intKind X.prog X.w)) p bt Wc u2) ⟨l7 (by have:=t.un;omega),k,ys,xO I2 (x2.sub _ _ hf),dd,?_⟩
 refine⟨.int ((fM kvs k).getD n0),H2,I2.tok _,?_,q _ F2 H2 (x1.t x2) (.int _)⟩
 rw[r2.1,xM]
 obtain⟨hN,hS⟩:=rel.at k
 cases qq:(xs.find? fun p=>decide (p.1=k)) with
 |none=>rw[hN qq];exact ru2
 |some x0=>
  obtain⟨w0,Zr,Yz⟩:=hS x0 qq
  rw[Zr];exact Yz
def PD(l:Addr)(ob:Obj)(xs:xG):It:=
 ⟨fun i H=>H l=some (.RH ob (.ext (ei l xs)))/\i<xs.length,fun i H v H'=>H'=H/\∃x,xs[i]?=some x/\v=.ref x.2.1,fun i H=>H l=some (.RH ob (.ext (ei l xs)))/\xs.length<=i,False⟩
theorem JF{es:Array DictEntry}{ys:List (List Int×Addr×Value)}(h:∀(P:Program) (w:World),es.toList=ys.map (entryOfKey (tupleKind (intKind P w))))(P:Program)(w:World)(r:QU xs ys):es.size=xs.length/\∀(i:Nat) x,xs[i]?=some x->∃e,es[i]?=some e/\e.key=.ref x.2.1:=by
 have h':=h P w
 have hl:es.size=ys.length:=by rw[<-bZ,h',af]
 refine⟨by rw[hl,r.len],fun i x hx=>?_⟩
 have g:∀{xs:xG} {ys:List (List Int×Addr×Value)},QU xs ys->∀(i:Nat) x,xs[i]?=some x->∃y,ys[i]?=some y/\y.2.1=x.2.1:=by
  intro xs ys r
  induction r with
  |nil=>intro i x hx;simp at hx
  |@cons p q ps qs hq t ih=>
   intro i x hx
   cases i with
   |zero=>simp at hx;subst hx;exact⟨q,by simp,hq.2.1⟩
   |succ i=>simpa using ih i x (by simpa using hx)
 obtain⟨y,hy,ey⟩:=g r i x hx
 refine⟨entryOfKey (tupleKind (intKind P w)) y,?_,?_⟩
 ·rw[<-me,h',aI,hy];rfl
 ·show Value.ref y.2.1=_
  rw[ey]
theorem EB{P:Program}{w:World}{K:PySem.W.Frag}(l it:Addr)(ob:Obj)(xs:xG){ys:List (List Int×Addr×Value)}(h1:ob.data=.dict es ep)(h2:∀(P:Program) (w:World),es.toList=ys.map (entryOfKey (tupleKind (intKind P w))))(r:QU xs ys):
  wP P w K tg (PD l ob xs) [it] it (fun i h=>h.IsKeyIter it l i es.size ep) where
 mem:=by simp
 obj:=fun i h st b hb=>by
  have e:b=it:=by simpa using hb
  subst e
  obtain⟨o,e,c,d⟩:=st
  exact⟨o,e,fun v z=>by rw[d] at z;cases z⟩
 keep:=fun i h h' st k=>st.at fun o e=>k it (by simp) o e
 item:=by
  intro X hP hw hK hc i pins s σ H E I hf st hg
  subst hP hw hK
  replace hc:=hc.resolve_right fun z=>z.1
  obtain⟨hq,hx⟩:=hg
  obtain⟨f0,f1,f2,f3,f4,f5⟩:=hf it (by simp)
  have ho:=(show QC X.prog X.w H s.heap l (.RH ob (.ext (ei l xs))) from I.QG l _ hq).1
  obtain⟨hl,hg⟩:=JF h2 X.prog X.w r
  obtain⟨e,he,ek⟩:=hg i xs[i] (aD hx)
  refine BK st ho h1 rfl he fun h' RM sb=>?_
  have I1:Inv X pins σ H { s with heap:=h' }:=I.turned (t':=s.toks) (fun b o hb e=>(sb.2 b hb).trans e) f0 f1 f3 f4 f5
  exact⟨e.key,rfl,letGo_keyiter (s':={ s with heap:=h' }) RM ⟨.ref xs[i].2.1,H,I1,ek,⟨rfl,_,aD hx,rfl⟩,RM,fun b hb=>(hf b hb).1⟩⟩
 done:=by
  intro X hP hw hK hc i pins s σ H E I hf st hg
  subst hP hw hK
  replace hc:=hc.resolve_right fun z=>z.1
  obtain⟨hq,hx⟩:=hg
  obtain⟨f0,f1,f2,f3,f4,f5⟩:=hf it (by simp)
  have ho:=(show QC X.prog X.w H s.heap l (.RH ob (.ext (ei l xs))) from I.QG l _ hq).1
  obtain⟨hl,hg⟩:=JF h2 X.prog X.w r
  exact D2 (I.ok.hd hc) st ho h1 rfl (Array.getElem?_eq_none (by omega)) fun h' eb=>⟨rfl,I.turned (t':=s.toks) (fun b o hb e=>eb b o hb e) f0 f1 f3 f4 f5⟩
 self:=fun _ _ _ _ _ st h=>wpAny_pyIter_keyiter st h
def OL(tl:TE):TI:=fun σ H R=>tl σ H fun x H1=>∃l ob xs,x=.ref l/\H1 l=some (.RH ob (.ext (ei l xs)))/\R (PD l ob xs) H1
theorem Kk(hl:PE X l tl):PI X tg l (OL tl):=by
 intro pins s σ H R I h
 refine de (hl pins s σ H _ I h) fun v s1 ⟨x,H1,I1,r1,q1⟩=>?_
 obtain⟨a,ob,xs,e,hq,q⟩:=q1
 subst e
 cases(show v=Value.ref a from r1)
 obtain⟨ho,hz⟩:=(show QC X.prog X.w H1 s1.heap a (.RH ob (.ext (ei a xs))) from I1.QG a _ hq)
 obtain⟨_,hs,o,g1,g2,es,ep,ys,g3,g4,g5,_⟩:=hz.1
 have eo:o=ob:=by rw[ho] at g1;exact(bB g1).symm
 subst eo
 refine Ni hs ho g2 g3 ?_
 refine⟨s1.heap.objs.size,[s1.heap.objs.size],_,_,H1,rfl,I1.kept (t':=s1.toks) fun b o e=>ar _ e,EB a _ _ xs g3 g4 g5,⟨_,aO _ rfl,rfl,rfl⟩,fun b hb=>?_,q⟩
 have e:b=s1.heap.objs.size:=by simpa using hb
 subst e
 exact I1.Ue (ak _) (I1.QG.fresh (ak _))
abbrev OH(q:List Int×Int):D:=.tup (q.1.map D.int)
theorem Gn(h:Qp X ρ e (.QM kvs)):Ti X ρ tg e (kvs.map OH):=.of (Kk aV) fun B F H σ R kk q=>h B F H σ _ kk fun v F' H' x' r=>by
 cases r with
 |@QM l ob ks xs hf r=>
  refine⟨l,ob,xs,rfl,x'.sub _ _ hf,q _ F' H' x' fun i F2 H2 s1 s2=>⟨fun d hd=>?_,fun hl=>⟨s2 _ _ (s1 _ _ hf),by rw[r.1,af,af] at hl;exact hl⟩⟩⟩
  rw[r.1,cD,aI] at hd
  obtain⟨x,hx,e⟩:=Pj.mp hd
  subst e
  refine⟨⟨s2 _ _ (s1 _ _ hf),(az.mp hx).1⟩,fun v H3 hy=>?_⟩
  obtain⟨rfl,x',Vz,rfl⟩:=hy
  rw[hx] at Vz;cases Vz
  exact⟨F2,.refl s2,.tup (s1 _ _ (r.2 x (cJ hx))) (Qq.ints x.1)⟩
end
section
variable {st:Stmt}{bS:List Stmt}{ds:List D}
inductive RF(X:Cx)(ρ:cp):List (Option Expr)->List Expr->ik->Prop where
 |nil:RF X ρ [] [] []
 |cons {a b:Expr} {as:List (Option Expr)} {bs:List Expr} {k:List Int} {n:Int} {r:ik}:Qp X ρ a (.tup (k.map D.int))->Qp X ρ b (.int n)->RF X ρ as bs r->RF X ρ (some a::as) (b::bs) ((k,n)::r)
theorem RF.len{bs:List Expr}(h:RF X ρ as bs kvs):as.all (·.isSome)=true/\as.length=bs.length/\as.length=kvs.length:=by
 induction h with
 |nil=>exact⟨rfl,rfl,rfl⟩
 |cons h1 h2 h3 ih=>exact⟨by rw[List.all_cons,ih.1];rfl,bJ Nat.succ ih.2.1,bJ Nat.succ ih.2.2⟩
def x9(kvs more:ik):ik:=more.foldl (fun acc q=>jJ acc q.1 q.2) kvs
theorem RF.walk{bs:List Expr}(h:RF X ρ as bs kvs):∀{B:B0} {F H:Hp} {σ:St},Ok X.K B F H σ ρ->∀{pins:List (Addr×Obj)} {s:Shared},Inv X pins σ H s ->
  wpAny (model X.prog X.w) X.A (evalPairs (pairTrees as bs X.env pos)) (fun ws s'=>∃F' H' xs,Inv X pins σ H' s'/\Ext ⟨F,H⟩ F' H'/\Rt F' kvs xs/\Paired (fun(x:List Int×Addr×Int) (w:Value×Value)=>w.1=.ref x.2.1/\RelV (.int x.2.2) w.2) xs ws) X.xe s:=by
 induction h with
 |nil=>intro B F H σ kk pins s I;exact I0 ⟨F,H,[],I,.refl kk.sub,⟨rfl,fun _ z=>nomatch z⟩,.nil⟩
 |@cons a b as bs k n r h1 h2 h3 ih=>
  intro B F H σ kk pins s I
  refine GR (de (h1 B F H σ (fun v H1=>∃F1,Ext ⟨F,H⟩ F1 H1/\Rep X.K F1 v (.tup (k.map D.int))) kk (fun v F1 H1 x1 r1=>⟨F1,x1,r1⟩) pins s I) fun u s1 ⟨v,H1,I1,rv,F1,x1,r1⟩=>?_)
  have k1:=kk.ext x1
  refine de (h2 B F1 H1 σ (fun v H2=>∃F2,Ext ⟨F1,H1⟩ F2 H2/\Rep X.K F2 v (.int n)) k1 (fun v F2 H2 x2 r2=>⟨F2,x2,r2⟩) pins s1 I1) fun u2 s2 ⟨v2,H2,I2,UD,F2,x2,r2⟩=>?_
  refine de (ih (k1.ext x2) I2) fun ws s3 ⟨F3,H3,xs,I3,x3,r3,pr⟩=>?_
  cases r2
  cases r1 with
  |@tup bt vs ds hf rl=>
  have ev:=Qq.Ru rl
  subst ev
  cases(show u=Value.ref bt from rv)
  refine⟨F3,H3,(k,bt,n)::xs,I3,(x1.t x2).t x3,⟨by rw[r3.1];rfl,fun x hx=>?_⟩,.cons ⟨rfl,UD⟩ pr⟩
  rcases aC.mp hx with e | hx
  ·subst e;exact x3.sf _ _ (x2.sf _ _ hf)
  ·exact r3.2 x hx
theorem Cn:∀(is:xG) (kvs:ik) (xs:xG),Rt F kvs xs->(∀x∈is,F x.2.1=some (.tup (x.1.map V.int)))->Rt F (x9 kvs (is.map kv)) (xa xs is)
 |[],kvs,xs,r,_=>r
 |(k,b,n)::is,kvs,xs,r,h=>by
  show Rt F (x9 (jJ kvs k n) (is.map kv)) (xa (AY xs k b n) is)
  exact Cn is _ _ (r.put (h (k,b,n) (by simp)) n) fun x hx=>h x (by simp[hx])
theorem uC{bs:List Expr}(t:At X N sc)(h:RF X ρ as bs kvs)(h0:as≠[]:=by exact fun z=>nomatch z)(h15:as.length<=15:=by decide):Q6 X ρ (.Dict as bs pos) (x9 [] kvs):=fun B F H σ Q kk q=>.mk fun pins s I=>by
 obtain⟨l1,l2,l3⟩:=h.len
 rw[arm_eval_Dict,zip_pairTrees as bs X.env pos l1 l2]
 have Sf:(pairTrees as bs X.env pos).length=as.length:=NP as bs X.env pos l1 l2
 rw[LZ _ (fun z=>h0 (bc (by rw[<-Sf,z];rfl))) (by omega)]
 refine ae (i6 (ae ?_))
 unfold subDict
 refine ae (Ef ?_)
 have hn:=I.QG.fresh (ak s.heap.objs.size)
 have hb:sysModules<s.heap.objs.size:=je (by decide) (show mainGlobals<s.heap.objs.size from(I.mod.glob.keeps I.bk).lt)
 have z:ei s.heap.objs.size [] (s.heap.push { cls:=.type "dict",data:=.dict #[] }):=BL (P:=X.prog) (w:=X.w) (bu _) (bj.mpr (Ne.symm (bi hb))) .nil (NS s.heap)
 have I1:=I.laid (a:=s.heap.objs.size) (o:=.ext (ei s.heap.objs.size [])) (h':=s.heap.push { cls:=.type "dict",data:=.dict #[] }) (t':=s.toks) (fun _ _ q=>ar _ q) (ak _) (yG z)
 have x1:Ext ⟨F,H⟩ F (cA H s.heap.objs.size (.ext (ei s.heap.objs.size []))):=⟨kk.sub.trans (aP hn),aP hn,.refl _,fun _ z=>.inl z⟩
 refine ae (bR ?_)
 rw[ay (by omega)]
 refine ae (de (h.walk (kk.ext x1) I1) fun ws s2 ⟨F2,H2,is,I2,x2,r2,pr⟩=>?_)
 refine bR (ae ?_)
 have UH:F2 s.heap.objs.size=none:=by
  cases e:F2 s.heap.objs.size with
  |none=>rfl
  |some o=>
   rcases x2.nw s.heap.objs.size (by rw[e];exact cy o) with w | w
   ·exact absurd (kk.sub.free hn) w
   ·have w':cA H s.heap.objs.size (.ext (ei s.heap.objs.size [])) s.heap.objs.size=none:=w
    rw[aK] at w';cases w'
 have h2:H2 s.heap.objs.size=some (.ext (ei s.heap.objs.size [])):=x2.sh _ _ aK
 have hlen:is.length=kvs.length:=by rw[r2.1,af]
 refine Gr (by have:=t.un;omega) is ws [] H2 s2 I2 h2 (fun _ z=>nomatch z) (fun x hx=>x2.sub _ _ (r2.2 x hx)) pr (by rw[fC,jQ];omega) fun s3 I3=>?_
 refine au (au (au ⟨.ref s.heap.objs.size,_,I3,rfl,?_⟩))
 have Up:=x1.t x2
 have R:Rt F2 (x9 [] kvs) (xa [] is):=by
  have:=Cn is [] [] ⟨rfl,fun _ z=>nomatch z⟩ r2.2
  rw[<-r2.1] at this
  exact this
 refine q _ (xa [] is) F2 _ ⟨fun c u w=>?_,fun c u w=>?_,Up.sf,Up.nw⟩ hn aK UH R
 ·have ne:c≠s.heap.objs.size:=fun z=>by subst z;rw[UH] at w;cases w
  rw[aJ ne];exact Up.sub c u w
 ·have ne:c≠s.heap.objs.size:=fun z=>by subst z;have w':H s.heap.objs.size=some u:=w;rw[hn] at w';cases w'
  rw[aJ ne];exact Up.sh c u w
theorem Q6.eq{U0:ik}(h:Q6 X ρ e kvs)(q:kvs=U0):Q6 X ρ e U0:=q ▸ h
def NZ(K:PySem.W.Frag)(C:List D->ik->Prop):Sp:=fun vs H Q _=>∃F ds kvs,Qx F H/\Qq K F vs ds/\C ds kvs/\∀p us F' H',Ext ⟨F,H⟩ F' H'->H p=none->H' p=some (.ext (ei p us))->F' p=none->Rt F' kvs us->Q (.ref p) H'
def RX(X:Cx)(x:Str)(C:List D->ik->Prop):Prop:=∃(f:Addr) (fd:FuncData) (ps:List Str) (k:Nat),dJ X.prog X.w X.K X.mg X.base gH k f fd ps (NZ X.K C)/\QR k X.A/\X.mg x=some (.ref f)/\PySem.W.keepIn X.K (.ref f)=true/\Binds X.K fd ps []
def oq(X:Cx)(ρ:cp)(S3:List Stmt)(kvs:ik):Prop:=∀(B:B0) (F H:Hp) (σ:St) (E:kx),Ok X.K B F H σ ρ->(∀p us F' H',Ext B F' H'->B.H p=none->H' p=some (.ext (ei p us))->F' p=none->Rt F' kvs us->E.rt (.ref p) H')->wSs X S3 E σ H
theorem iT(t:At X N sc){C:List D->ik->Prop}(h:RX X x C)(ha:Q2 X ρ (e::es) ds)(hC:C ds kvs)(hg:sc.names.lookup x=some .globalImplicit:=by rfl)(Rr:(x==("__debug__" : Str))=false:=by rfl):Q6 X ρ (.Call (.Name x p) (e::es) [] pos) kvs:=by
 obtain⟨f,fd,ps,k,F,hr,hm,hk,hb⟩:=h
 have pz:gc gH X E0:=nH
 intro B F' H σ Q k' q
 refine .mk fun pins s I=>?_
 refine iS F hr (dA t hg) hm hk hb .nil pz nI Rr (ha.1.1 _ _) (T6.any ha.1.2) pins s σ H Q I (ha.2 B F' H σ _ k' fun vs F1 H1 x1 r1=>?_)
 exact⟨F1,ds,kvs,x1.sub,by rw[aU];exact r1,hC,fun p us F2 H2 x2 h0 hp hf r2=>q p us F2 H2 (x1.t x2) (x1.sh.free h0) hp hf r2⟩
theorem lW(h1:QQ X ρ st (.nx ρ'))(h2:oq X ρ' bS kvs):oq X ρ (st::bS) kvs:=fun B F H σ E k q=>
 (.mk fun pins s I=>fm sv dn pins s σ H E I (h1 B F H σ _ k fun F1 H1 σ1 k1 s1=>h2 B F1 H1 σ1 E k1 q))
theorem C7{ρ:cp}(t:At X N sc)(i:Nat)(hr:ρ[i]?=some (.RC kvs))(hN:N[i]?=some x:=by rfl)(hv:dW sc x=true:=by rfl)(hx:cg x=true:=by rfl):oq X ρ [.Return (some (.Name x pos')) pos] kvs:=fun B F H σ E k q=>by
 obtain⟨a,us,h1,h2,h3,h4,h5⟩:=k.QM.SG i kvs hr
 exact .mk fun pins s I=>kP (pX (su t hN hv hx)) pins s σ H E I ⟨_,h1,q a us F H k.toExt h4 h2 h3 h5⟩
theorem Gg(h:Q6 X ρ e kvs):oq X ρ [.Return (some e) pos] kvs:=fun B F H σ E k q=>.mk fun pins s I=>
 kP (pX aV) pins s σ H E I (h B F H σ _ k fun p us F' H' x' h0 h1 h2 r=>q p us F' H' (k.toExt.trans x') (k.sh.free h0) h1 h2 r)
theorem Li{P:Program}(Ra:P.given.tree=none){w:World}{K:PySem.W.Frag}{mg:Str->Option Value}{base:Heap}{x qual:Str}{st:Stmt}{f:Addr}{fd:FuncData}{N ps:List Str}{k:Nat}{C:List D->ik->Prop}(F:Um K x qual st f fd)(S:aR N ps (ai st))(len:∀ds xs,C ds xs->ds.length=ps.length)(body:∀X,DefX P w K mg base k N (ai st) X->∀ds xs,C ds xs->oq X (ds.map Sl.val++List.replicate (N.length-ds.length) Sl.un) (bw st) xs):dJ P w K mg base gH (k+1) f fd ps (NZ K C):=by
 refine F.ok S (fun vs H Q E h=>?_) (fun Q3 A outer s H vs Q E hr h=>?_)
 ·obtain⟨F',ds,d,sub,r,hC,q⟩:=h
  rw[r.length];exact len ds d hC
 ·obtain⟨F',ds,d,sub,r,hC,q⟩:=h
  refine⟨_,dn,?_⟩
  have hx:DefX P w K mg base k N (ai st) (qa gH P w K mg base N qual (ai st) f Q3 A outer s H E).Tx:=
   ⟨⟨rfl,rfl,rfl,S.nd,rfl,hr.units,hr.Ss,Ra,⟨_,_,rfl,S.gen,S.co,rfl,rfl⟩⟩,rfl,rfl,rfl,rfl,rfl,hr,⟨fun _=>rfl⟩,rfl,rfl⟩
  have hb:=body _ hx ds d hC
  have hk:Ok K ⟨F',H⟩ F' H (start N vs) (ds.map Sl.val++List.replicate (N.length-ds.length) Sl.un):=by
   unfold start
   rw[r.length]
   exact i9 sub r _
  exact hb ⟨F',H⟩ F' H _ _ hk fun p us F2 H2 x2 h0 hp hf r2=>q p us F2 H2 x2 h0 hp hf r2
theorem DefX.VM{K:PySem.W.Frag}{x:Str}{C:List D->ik->Prop}(h:DefX P w K mg base k N sc X)(F:dJ P w K mg base gH j f fd ps (NZ K C))(hj:j<=k)(hm:mg x=some (.ref f))(hk:PySem.W.keepIn K (.ref f)=true)(hb:Binds K fd ps []):RX X x C:=by
 obtain⟨h0,rfl,rfl,rfl,rfl,rfl,hr,_⟩:=h
 exact⟨f,fd,ps,j,F,hr.mono hj,hm,hk,hb⟩
end
theorem v9(its:List Value):slicePick its.toArray none none (some (-1))=its.reverse.toArray:=by
 unfold slicePick
 have e1:sliceBounds none none (some (-1)) its.toArray.size=((its.toArray.size:Int)-1,-1,-1):=rfl
 rw[e1]
 show((sliceRange ((its.toArray.size:Int)-1) (-1) (-1)).filterMap (its.toArray[·]?)).toArray=_
 have e2:sliceRange ((its.toArray.size:Int)-1) (-1) (-1)=(List.range its.toArray.size).map fun(k:Nat)=>((its.toArray.size:Int)-1+(k:Int)*(-1)).toNat:=by
  unfold sliceRange
  have e3:(if (-1:Int) > 0 then (if (its.toArray.size:Int)-1 < -1 then (-1-((its.toArray.size:Int)-1) + -1-1) / -1 else 0) else (if (its.toArray.size:Int)-1 > -1 then ((its.toArray.size:Int)-1 - -1 - -1-1) / (- -1) else 0)).toNat=its.toArray.size:=by
   rw[aq (by decide)]
   by_cases h:(its.toArray.size:Int)-1 > -1
   ·rw[ay h]
    have:(- -1:Int)=1:=rfl
    rw[this,Int.ediv_one];omega
   ·rw[aq h];omega
  show(List.range (Int.toNat _)).map _=_
  rw[e3]
  exact pc fun k _=>by congr 1;omega
 rw[e2,List.filterMap_map]
 have:=HT.UW its.toArray
 rw[<-this]
 rfl
section
theorem C8(ha:Sw X ρ a true xs)(hc:Qp X ρ c (.int (-1))):QJ X ρ (.Subscript a (.Slice none none (some c) p2) pos) xs.reverse:=fun B F H σ Q k q=>.mk fun pins s I=>by
 refine PJ (de (ha B F H σ (fun v H1=>∃p vs F1,v=.ref p/\Ext ⟨F,H⟩ F1 H1/\UJ X.K true H1 p vs/\Qq X.K F1 vs xs) k (fun p vs F1 H1 x1 s1 r1=>⟨p,vs,F1,rfl,x1,s1,r1⟩) pins s I) fun v s1 z=>?_)
 obtain⟨x,H1,I1,r1,p,vs,F1,hx,x1,sq,rp⟩:=z
 subst hx
 cases r1
 refine wpAny_Slice ?_
 rw[evalPart_none]
 refine au ?_
 refine au ?_
 rw[evalPart_some]
 refine de (hc B F1 H1 σ (fun v H2=>∃F2,Ext ⟨F1,H1⟩ F2 H2/\v=.int (-1)) (k.ext x1) (fun v F2 H2 x2 r=>by cases r;exact⟨F2,x2,rfl⟩) pins s1 I1) fun u s2 z=>?_
 obtain⟨y,H2,I2,r2,F2,x2,hy⟩:=z
 subst hy
 obtain⟨tk,rfl⟩:=r2
 have I4:Inv X pins σ H2 { s2 with heap:=s2.heap.push { cls:=.type "slice",data:=.fields #[.none,.none,.int (-1) tk] } }:=I2.kept (t':=s2.toks) fun b ob q=>ar _ q
 have sq2:Q1 X.K H2 p vs:=UJ.mono x2.sh sq
 obtain⟨its,r,ht,hz⟩:=I4.list sq2
 have hlen:=r.length
 show wpAny (model X.prog X.w) X.A (subscriptTail a (.Slice none none (some c) p2) (.ref p) (.ref s2.heap.objs.size)) (EP X pins σ Q) X.xe { s2 with heap:=s2.heap.push { cls:=.type "slice",data:=.fields #[.none,.none,.int (-1) tk] } }
 refine tail_any (ops:=[.ref p,.ref s2.heap.objs.size]) ht.isList.typeIs slot_list_getitem.lookup (wpAny_getItem_list_slice ht.isList (Heap.IsSliceOf.new ..) .none .none (.int (-1) tk) (by decide) ?_ (by rw[aH]<;>omega)) rfl
 rw[v9]
 have xx:=x1.t x2
 have r3:=rp.mono x2.sf
 have hp:=I4.QG.fresh (ak _)
 refine⟨.ref _,_,I4.laid (t':=s2.toks) (o:=.lst vs.reverse) (fun b ob q=>ar _ q) (ak _) ?_,rfl,q _ vs.reverse F2 _ ⟨xx.sub.trans (aP hp),xx.sh.trans (aP hp),xx.sf,xx.nw⟩ (xx.sh.free hp) aK (xx.sub.free hp) r3.reverse⟩
 exact⟨by rw[dz];exact hz,_,0,r.reverse,aO _ rfl⟩
end
section
theorem Co{pos:Pos}(t:At X N sc)(i j:Nat)(h1:QJ X ρ a us)(h2:Qp X ρ b v)(WM:i≠j)(hi:N[i]?=some x:=by rfl)(hj:N[j]?=some y:=by rfl)(hx:sc.names.lookup x=some .local:=by rfl)(hy:sc.names.lookup y=some .local:=by rfl)(hw:swappedStores [.Tuple [.Name x px,.Name y py] kt pt] (.Tuple [a,b] k2 Vw) (dE sc)=pure (some [x,y]):=by rfl)(hs:swapsWithSole [.Tuple [.Name x px,.Name y py] kt pt] (.Tuple [a,b] k2 Vw) pos.line X.env=pure false:=by rfl)(VA:starEach [a,b] X.env=(false,eval a X.env)::starEach [b] X.env:=by rfl)(UG:starEach [b] X.env=(false,eval b X.env)::starEach [] X.env:=by rfl):
  QQ X ρ (.Assign [.Tuple [.Name x px,.Name y py] kt pt] (.Tuple [a,b] k2 Vw) pos) (.nx ((ρ.set i (.own us)).set j (.val v))):=
 .of (Fc (i:=i) (j:=j) t.calm t.nd (t.ix hi) (t.ix hj) WM (by rw[t.eS];exact hx) (by rw[t.eS];exact hy) (bo aV (bo aV cO UG) VA) ((ug (show X.env.scope=(dE sc).scope from t.eS)).trans hw) hs) fun B F H σ E k q=>
  h1 B F H σ _ k fun p vs F1 H1 x1 h0 hp hf r=>h2 B F1 H1 σ _ (k.ext x1) fun v2 F2 H2 x2 r2=>by
   have UH:F2 p=none:=by
    cases z:F2 p with
    |none=>rfl
    |some o=>
     exfalso
     rcases x2.nw p (by rw[z];exact fun q=>nomatch q) with q1 | q1
     ·exact q1 hf
     ·have WI:H1 p=none:=q1
      rw[hp] at WI;cases WI
   exact⟨.ref p,v2,rfl,q F2 H2 _ (((k.ext (x1.t x2)).Tw i (x2.sh _ _ hp) UH (k.sh.free h0) (k.noOwn h0) (r.mono x2.sf)).QN j r2) (x1.t x2).sf⟩
end
section
theorem Ke{p:PyData}(t:At X N sc){qs:List PyData}(sp:p.canLay0=true)(sd:p.depth<=62)(sq:PyData.canLayAll0 qs=true):nb X (compareOp .NotIn) (fun x y H Q=>TF X H x p/\TF X H y (.list qs)/\Q (.bl (!qs.any fun y=>PyData.eqv y p)) H):=by
 intro pins s σ H x y v u Q I rx ry h
 obtain⟨h1,h2,h3⟩:=h
 obtain⟨as,r1⟩:=h1 sp H (.refl _) pins σ s v I rx
 obtain⟨bs,r2⟩:=h2 (by simpa [PyData.canLay0] using sq) H (.refl _) pins σ s u I ry
 refine SeqAt.notIn_list_reads r2 r1 sq sp ?_ ⟨.bl _,H,I,rfl,h3⟩
 have hu:=t.un
 have:min (PyData.depthAll qs) p.depth<=p.depth:=uc _ _
 omega
end
end L2.EV
namespace HT
open PySem PySem.Spec PyProof.Rows
section
theorem R0{Q:Value->Shared->Prop}{s:Shared}{lo hi:Option Int}(ht:IsTup s.heap t items)(hs:s.heap.IsSliceOf sl vl vu .none)(pl:IsPart vl lo)(pu:IsPart vu hi)(hw:QH items.size 0 lo=0/\QH items.size items.size hi=items.size)(h:Q (.ref t) s):wpAny (model prog w) A (getItem (.ref t) (.ref sl)) Q E s:=by
 obtain⟨os,Vj,Yo,Wl⟩:=id hs
 have Z1:s.TypeIs (.ref sl) "slice" := ⟨os,Vj,Yo⟩
 unfold getItem
 try with_reducible refine bR ?_
 first | refine ae (au ?_) | skip
 refine ae (wpAny_sequenceKey ht.typeIs (by decide) ?_)
 refine ae (cM (name:=Str.ofString "__getitem__") ht.typeIs fL
  (dY fL ht.typeIs entry_tuple_getitem ?_ (args_tuple_getitem _ _)))
 show wpAny _ _ (Builtin.Tuple.tupleItemsOf (.ref t) >>= _) _ _ s
 refine ae (tupleItemsOf_ ht ?_)
 refine ae (LV Z1 ?_)
 rw[ay (by decide)]
 refine ae (lM hs pl pu ?_)
 have Zo:(((QH items.size 0 lo:Nat):Int)==0&&(1:Int)==1&&(QH items.size items.size hi-QH items.size 0 lo)==items.size)=true:=by
  rw[hw.1,hw.2];simp
 show wpAny _ _ (if (((QH items.size 0 lo:Nat):Int)==0&&(1:Int)==1&&(QH items.size items.size hi-QH items.size 0 lo)==items.size)=true then _ else _) _ _ s
 rw[ay Zo]
 refine ae (ae (m:=typeOf (.ref t)) (LV ht.typeIs (au ?_)))
 rw[ay (by decide)]
 have fin:wpAny (model prog w) A.in1 (ret (Value.ref t)) (fun fin s'=>∃v,fin=Fin.done (Flow.ret v)/\wpAny (model prog w) A (pure v) Q E s') E s:=au ⟨_,rfl,au h⟩
 first
  |exact fin
  |exact ae (au fin)
  |trace_state
end
end HT
namespace L2
open PySem PySem.Spec PyProof.Rows
section
def Ot(K:PySem.W.Frag):V->Option Int->Option Int->Hp->VK->Prop:=fun x lo hi H Q=>∃a xs,x=.ref a/\RB K H a xs/\(HT.QH xs.length 0 lo=0/\HT.QH xs.length xs.length hi=xs.length)/\Q (.ref a) H
theorem Hm:NC X (Ot X.K):=by
 intro pins s σ H x v vl vu lo hi sl Q I rx hs pl pu h
 obtain⟨a,xs,rfl,hx,hw,q⟩:=h
 cases rx
 obtain⟨its,r,ht,hz⟩:=I.tuple hx
 have hlen:its.toArray.size=xs.length:=by rw[aH];exact r.length.symm
 refine⟨"tuple",_,PyProof.Rows.slot_tuple_getitem.lookup,ht.typeIs,?_⟩
 exact HT.R0 ht hs pl pu (by rw[hlen];exact hw) ⟨.ref a,H,I,rfl,q⟩
end
end L2
namespace L2.EV
open PySem PySem.Spec PyProof.Rows
section
theorem Iv{lo hi:Option Expr}{l h:Option Int}(ha:Qp X ρ a (.tup xs))(hl:G4 X ρ lo l)(hh:G4 X ρ hi h)(hw:HT.QH xs.length 0 l=0/\HT.QH xs.length xs.length h=xs.length):
  Qp X ρ (.Subscript a (.Slice lo hi none p2) pos) (.tup xs):=
 .of (qS Hm aV DL DL) fun B F H σ Q k q=>ha B F H σ _ k fun v F1 H1 x1 r1=>hl B F1 H1 σ _ (k.ext x1) fun F2 H2 x2=>hh B F2 H2 σ _ (k.ext (x1.t x2)) fun F3 H3 x3=>by
  have x:=x1.t (x2.t x3)
  have r3:=(r1.mono x2.sf).mono x3.sf
  cases r3 with
  |tup hs rs=>exact⟨_,_,rfl,RB.of (x.sub _ _ hs),by rw[rs.length];exact hw,q _ F3 H3 x (.tup hs rs)⟩
end
def RD(B:B0)(p:Addr)(us:List V):B0:=⟨B.F,cA B.H p (.lst us)⟩
theorem RD.same{B:B0}{p:Addr}(h:B.H p=some (.lst us)):RD B p us=B:=by
 have:cA B.H p (.lst us)=B.H:=funext fun b=>by
  by_cases z:b=p
  ·subst z;rw[aK,h]
  ·rw[aJ z]
 show(⟨B.F,cA B.H p (.lst us)⟩:B0)=B
 rw[this]
theorem RD.up{ws:List V}:RD (RD B p us) p ws=RD B p ws:=by
 show(⟨B.F,cA (cA B.H p (.lst us)) p (.lst ws)⟩:B0)=⟨B.F,cA B.H p (.lst ws)⟩
 rw[xN]
structure RI(K:PySem.W.Frag)(B:B0)(p:Addr)(F:Hp)(us:List V)(xs:List D):Prop where
 st:B.H p=some (.lst us)
 fr:B.F p=none
 rep:Qq K F us xs
theorem RI.free{K:PySem.W.Frag}(l:RI K B p F us xs)(x:Ext B F H):F p=none:=by
 cases e:F p with
 |none=>rfl
 |some o=>
  rcases x.nw p (by rw[e];exact cy o) with z | z
  ·exact absurd l.fr z
  ·rw[l.st] at z;cases z
def vW(K:PySem.W.Frag)(B:B0)(p:Addr)(F₀:Hp)(E:kx)(xs':List D):Out->Prop
 |.nx ρ=>∀F H σ us,Ok K (RD B p us) F H σ ρ->Qq K F us xs'->Qx F₀ F->E.nx σ H
 |.rt d=>∀v F H us,Ext (RD B p us) F H->Qq K F us xs'->Rep K F v d->E.rt v H
def xI(X:Cx)(p:Addr)(ρ:cp)(S3:List Stmt)(o:Out)(xs xs':List D):Prop:=∀(B:B0) (F H:Hp) (σ:St) (E:kx) (us:List V),RI X.K B p F us xs->Ok X.K B F H σ ρ->vW X.K B p F E xs' o->wSs X S3 E σ H
def t7(X:Cx)(p:Addr)(ρ:cp)(st:Stmt)(o:Out)(xs xs':List D):Prop:=∀(B:B0) (F H:Hp) (σ:St) (E:kx) (us:List V),RI X.K B p F us xs->Ok X.K B F H σ ρ->vW X.K B p F E xs' o->wS X st E σ H
theorem Ok.now{K:PySem.W.Frag}(k:Ok K B F H σ ρ):Ok K ⟨F,B.H⟩ F H σ ρ:=
 ⟨⟨k.sub,k.sh,.refl _,fun a q=>.inl q⟩,k.len,k.vals,k.Rj,k.dist,⟨k.QM.SG,k.QM.SI⟩⟩
theorem Ext.UT(x:Ext B F H)(y:Ext ⟨F,B.H⟩ F' H'):Ext B F' H':=
 ⟨y.sub,y.sh,x.sf.trans y.sf,fun a q=>by
  rcases y.nw a q with z | z
  ·exact x.nw a z
  ·exact .inr z⟩
section
variable {st:Stmt}{bS:List Stmt}
theorem xj{X:Cx}(l:RI X.K B p F us xs)(k:Ok X.K B F H σ ρ)(q:vW X.K B p F E xs o):(∃ρ',o=.nx ρ'/\SW X.K B F E o)\/(∃d,o=.rt d/\SW X.K ⟨F,B.H⟩ F E o):=by
 cases o with
 |nx ρ'=>exact .inl ⟨ρ',rfl,fun F' H' σ' k' s'=>q F' H' σ' us (by rw[RD.same l.st];exact k') (l.rep.mono s') s'⟩
 |rt d=>exact .inr ⟨d,rfl,fun v F' H' x r=>q v F' H' us (by rw[RD.same l.st];exact k.toExt.UT x) (l.rep.mono x.sf) r⟩
theorem Qr.m(h:Qr X ρ S3 o):xI X p ρ S3 o xs xs:=fun B F H σ E us l k q=>by
 rcases xj l k q with⟨_,_,z⟩ | ⟨_,_,z⟩
 ·exact h B F H σ E k z
 ·exact h ⟨F,B.H⟩ F H σ E k.now z
theorem QQ.m(h:QQ X ρ st o):t7 X p ρ st o xs xs:=fun B F H σ E us l k q=>by
 rcases xj l k q with⟨_,_,z⟩ | ⟨_,_,z⟩
 ·exact h B F H σ E k z
 ·exact h ⟨F,B.H⟩ F H σ E k.now z
theorem HL{X:Cx}(q:vW X.K B p F E xs' o)(s:Qx F F1):vW X.K (RD B p us) p F1 E xs' o:=by
 cases o with
 |nx ρ'=>exact fun F' H' σ' ws k r s'=>q F' H' σ' ws (by rw[RD.up] at k;exact k) r (s.trans s')
 |rt d=>exact fun v F' H' ws x r rv=>q v F' H' ws (by rw[RD.up] at x;exact x) r rv
theorem e9(h1:t7 X p ρ st (.nx ρ1) xs T1)(h2:xI X p ρ1 bS o T1 xs'):xI X p ρ (st::bS) o xs xs':=fun B F H σ E us l k q=>
 (.mk fun pins s I=>fm sv dn pins s σ H E I (h1 B F H σ _ us l k fun F1 H1 σ1 ws k1 r1 s1=>h2 (RD B p ws) F1 H1 σ1 E ws ⟨aK,l.fr,r1⟩ k1 (HL q s1)))
theorem cu(h1:t7 X p ρ st o xs xs'):xI X p ρ [st] o xs xs':=fun B F H σ E us l k q=>(.mk fun pins s I=>kP sv pins s σ H E I (h1 B F H σ E us l k q))
theorem CJ:xI X p ρ [] (.nx ρ) xs xs:=Qr.m bF
theorem Ok.VW{K:PySem.W.Frag}(k:Ok K B F H σ ρ)(l:RI K B p F us xs):Ok K (RD B p ws) F (cA H p (.lst ws)) σ ρ:=by
 have hf:=l.free k.toExt
 have ho:∀a,B.H a=none->a≠p:=fun a h z=>by subst z;rw[l.st] at h;cases h
 refine⟨⟨fun c u q=>?_,fun c u q=>?_,k.sf,fun a q=>?_⟩,k.len,k.vals,fun i ys h=>?_,k.dist,⟨fun i kvs h=>?_,k.QM.SI⟩⟩
 ·have ne:c≠p:=fun z=>by subst z;rw[hf] at q;cases q
  rw[aJ ne];exact k.sub c u q
 ·by_cases z:c=p
  ·subst z
   have q':cA B.H c (.lst ws) c=some u:=q
   rw[aK] at q' ⊢;exact q'
  ·have q':cA B.H p (.lst ws) c=some u:=q
   rw[aJ z] at q' ⊢;exact k.sh c u q'
 ·have ne:a≠p:=fun z=>by subst z;exact q hf
  rcases k.nw a q with z | z
  ·exact .inl z
  ·refine .inr ?_
   show cA B.H p (.lst ws) a=none
   rw[aJ ne];exact z
 ·obtain⟨a,vs,h1,h2,h3,h4,h5⟩:=k.Rj i ys h
  have ne:=ho a h4
  exact⟨a,vs,h1,by rw[aJ ne];exact h2,h3,by show cA B.H p (.lst ws) a=none;rw[aJ ne];exact h4,h5⟩
 ·obtain⟨a,es,h1,h2,h3,h4,h5⟩:=k.QM.SG i kvs h
  have ne:=ho a h4
  exact⟨a,es,h1,by rw[aJ ne];exact h2,h3,by show cA B.H p (.lst ws) a=none;rw[aJ ne];exact h4,h5⟩
theorem vU{i:Nat}{Q:VK}{ρ:cp}(t:At X N sc)(hr:ρ[i]?=some (.val (.adr p)))(hN:N[i]?=some x)(hv:dW sc x=true)(hx:cg x=true)(k:Ok X.K B F H σ ρ)(h:Q (.ref p) H):wE X (.Name x py) σ H Q:=.mk fun pins s I=>by
 obtain⟨v,h1,h2⟩:=k.vals i _ hr
 cases h2
 exact su t hN hv hx pins s σ H Q I ⟨_,h1,h⟩
end
theorem RI.ext{K:PySem.W.Frag}{H:Hp}(l:RI K B p F us xs)(x:Ext ⟨F,H⟩ F' H'):RI K B p F' us xs:=⟨l.st,l.fr,l.rep.mono x.sf⟩
theorem Ok.back{K:PySem.W.Frag}{i:Nat}(k:Ok K B F H σ ρ)(hi:ρ[i]?=some (.own xs))(hs:σ[i]?=some (some (.ref a)))(x:Ext (RD ⟨F,H⟩ a Sd) F' H')(r:Qq K F' Sd xs'):
  Ok K B F' H' σ (ρ.set i (.own xs')):=by
 obtain⟨a',us,h1,h2,h3,h4,h5⟩:=k.Rj i xs hi
 rw[h1] at hs
 cases hs
 have QW:i<ρ.length:=(az.mp hi).1
 have hu:∀b u,b≠a->H b=some u->H' b=some u:=fun b u ne q=>x.sh b u (by show cA H a (.lst Sd) b=some u;rw[aJ ne];exact q)
 have So:∀b,F b=none->(b=a\/H b≠none)->F' b=none:=fun b hf hh=>by
  cases e:F' b with
  |none=>rfl
  |some o=>
   exfalso
   rcases x.nw b (by rw[e];exact cy o) with z | z
   ·exact z hf
   ·have z':cA H a (.lst Sd) b=none:=z
    by_cases y:b=a
    ·subst y;rw[aK] at z';cases z'
    ·rw[aJ y] at z'
     rcases hh with w | w
     ·exact y w
     ·exact w z'
 have hn:∀b,B.H b=none\/B.H b≠none:=fun b=>by cases B.H b<;>simp
 refine⟨⟨x.sub,fun b u q=>?_,k.sf.trans x.sf,fun c q=>?_⟩,by rw[bC,k.len],fun j d q=>?_,fun j ys q=>?_,fun j l ys zs b q1 q2 q3 q4=>?_,?_⟩
 ·exact hu b u (fun z=>by subst z;rw[h4] at q;cases q) (k.sh b u q)
 ·rcases x.nw c q with z | z
  ·exact k.nw c z
  ·refine .inr ?_
   have z':cA H a (.lst Sd) c=none:=z
   by_cases y:c=a
   ·subst y;rw[aK] at z';cases z'
   ·rw[aJ y] at z';exact k.sh.free z'
 ·by_cases h:i=j
  ·subst h;rw[a9 QW] at q;cases q
  ·rw[av h] at q
   obtain⟨v,g1,g2⟩:=k.vals j d q
   exact⟨v,g1,g2.mono x.sf⟩
 ·by_cases h:i=j
  ·subst h
   rw[a9 QW] at q;cases q
   exact⟨a,Sd,h1,x.sh a _ (by show cA H a (.lst Sd) a=_;rw[aK]),So a h3 (.inl rfl),h4,r⟩
  ·rw[av h] at q
   obtain⟨b,vs,g1,g2,g3,g4,g5⟩:=k.Rj j ys q
   have ne:b≠a:=fun z=>by subst z;exact h (k.dist i j xs ys b hi q h1 g1)
   exact⟨b,vs,g1,hu b _ ne g2,So b g3 (.inr (by rw[g2];exact cy _)),g4,g5.mono x.sf⟩
 ·have back:∀(m:Nat) ys,(ρ.set i (.own xs'))[m]?=some (.own ys)->∃ws,ρ[m]?=some (.own ws):=fun m ys e=>by
   by_cases h:i=m
   ·subst h;exact⟨xs,hi⟩
   ·rw[av h] at e;exact⟨ys,e⟩
  obtain⟨w1,e1⟩:=back j ys q1
  obtain⟨w2,e2⟩:=back l zs q2
  exact k.dist j l w1 w2 b e1 e2 q3 q4
 ·exact k.QM.to x.sf (fun b φ e1 e2 e3=>by
   have ne:b≠a:=fun z=>by subst z;rw[h2] at e1;cases e1
   exact⟨hu b _ ne e1,So b e2 (.inr (by rw[e1];exact cy _))⟩) (uS fun _ z=>nomatch z)
section
variable {K:PySem.W.Frag}{rss:List (List D)}
theorem Ext.stays{p:Addr}{H:Hp}(x:Ext ⟨F,H⟩ F' H')(h:H p=some (.lst us))(f:F p=none):F' p=none:=by
 cases q:F' p with
 |none=>rfl
 |some w=>
  rcases x.nw p (by rw[q];exact fun z=>nomatch z) with z | z
  ·exact absurd f z
  ·have z':H p=none:=z
   rw[h] at z';cases z'
end
abbrev Tb:=List (Addr×List D)
theorem BS(x:Int)(k:Nat):Builtin.bitAnd x (2 ^ k-1)=x%2 ^ k:=by
 have e:((2:Int) ^ k-1)=((2 ^ k-1:Nat):Int):=by
  have:1<=2 ^ k:=Nat.one_le_two_pow
  rw[Int.natCast_sub this,Int.natCast_pow];rfl
 have hp:(0:Int)<=2 ^ k-1:=by rw[e];exact Int.natCast_nonneg _
 have et:((2:Int) ^ k-1).toNat=2 ^ k-1:=by rw[e];exact dy _
 have ek:((2 ^ k:Nat):Int)=(2:Int) ^ k:=by rw[Int.natCast_pow];rfl
 by_cases hx:0<=x
 ·rw[bitAnd_pp hx hp,et,GT,Int.natCast_emod,ek,AW hx]
 ·rw[bitAnd_np hx hp,et,Nat.and_comm,GT,Int.natCast_emod,ek]
  unfold Builtin.bitNot
  rw[AW (by omega)]
  have Xw:(0:Int)<2 ^ k:=by rw[<-ek];exact Int.natCast_pos.mpr (Nat.two_pow_pos k)
  generalize (2:Int) ^ k=m at *
  have h1:=v6 (-x-1) (Int.ne_of_gt Xw)
  have h2:=qk (-x-1) Xw
  have h3:=Int.mul_ediv_add_emod (-x-1) m
  have h4:x=m-1-(-x-1)%m+m*(-((-x-1) / m)-1):=by
   have:m*(-((-x-1) / m)-1)=- (m*((-x-1) / m))-m:=by rw[Int.mul_sub,Int.mul_neg,Qg]
   omega
  have h5:x%m=(m-1-(-x-1)%m)%m:=by
   conv=>lhs;rw[h4]
   rw[Int.add_mul_emod_self_left]
  have h6:(m-1-(-x-1)%m)%m=m-1-(-x-1)%m:=Int.emod_eq_of_lt (by omega) (by omega)
  rw[h5,h6]
section
theorem C2{k:Nat}(ha:Qp X ρ a (.int i))(hb:Qp X ρ b (.int (2 ^ k-1))):Qp X ρ (.BinOp a .BitAnd b pos) (.int (i%2 ^ k)):=vF Ky ha hb (BS i k)
end
section
theorem Bi{p:PyData}(t:At X N sc){qs:List PyData}(sp:p.canLay0=true)(sd:p.depth<=62)(sq:PyData.canLayAll0 qs=true):nb X (compareOp .In) (fun x y H Q=>TF X H x p/\TF X H y (.tuple qs)/\Q (.bl (qs.any fun y=>PyData.eqv y p)) H):=by
 intro pins s σ H x y v u Q I rx ry h
 obtain⟨h1,h2,h3⟩:=h
 obtain⟨as,r1⟩:=h1 sp H (.refl _) pins σ s v I rx
 obtain⟨bs,r2⟩:=h2 (by simpa [PyData.canLay0] using sq) H (.refl _) pins σ s u I ry
 refine SeqAt.in_tuple_reads r2 r1 sq sp ?_ ⟨.bl _,H,I,rfl,h3⟩
 have hu:=t.un
 have:min (PyData.depthAll qs) p.depth<=p.depth:=uc _ _
 omega
theorem iz{r:Bool}(t:At X N sc)(ha:Qp X ρ a d)(hb:Qp X ρ b (.tup xs))(sp:(fg d).canLay0=true)(sd:(fg d).depth<=62)(sq:PyData.canLayAll0 (QA xs)=true)(he:((QA xs).any fun y=>PyData.eqv y (fg d))=r)(hm:behindInMarks .In b=false:=by rfl):Qs X ρ (.Compare a [.In] [b] pos) r:=
 .of (fP (Bi t sp sd sq) aV aV hm) fun B F H σ Q k q=>zD (Qp.p ha) (Qp.p hb) k fun x y F' H' x' rx ry=>⟨rx,ry,r,by rw[he],q F' H' x'⟩
end
section
theorem ga(ha:Qp X ρ a (.str z))(hb:Qp X ρ b (.int i))(hz:z.length<=sizeLine)(h:l8 z.cps.toList i=some c)(hs:iV b:=by intro _ _;rfl):Qp X ρ (.Subscript a b pos) (.str ⟨#[c]⟩):=
 .of (vb K2 aV aV hs) fun B F H σ Q k q=>two ha hb k fun x y F' H' x' rx ry=>by
  cases rx;cases ry
  exact⟨z,i,c,rfl,rfl,hz,h,q _ F' H' x' (.str _)⟩
theorem HA{p:PyData}(t:At X N sc){qs:List PyData}(sp:p.canLay0=true)(sd:p.depth<=62)(sq:PyData.canLayAll0 qs=true):nb X (compareOp .NotIn) (fun x y H Q=>TF X H x p/\TF X H y (.tuple qs)/\Q (.bl (!qs.any fun y=>PyData.eqv y p)) H):=by
 intro pins s σ H x y v u Q I rx ry h
 obtain⟨h1,h2,h3⟩:=h
 obtain⟨as,r1⟩:=h1 sp H (.refl _) pins σ s v I rx
 obtain⟨bs,r2⟩:=h2 (by simpa [PyData.canLay0] using sq) H (.refl _) pins σ s u I ry
 refine SeqAt.notIn_tuple_reads r2 r1 sq sp ?_ ⟨.bl _,H,I,rfl,h3⟩
 have hu:=t.un
 have:min (PyData.depthAll qs) p.depth<=p.depth:=uc _ _
 omega
theorem IC{r:Bool}(t:At X N sc)(ha:Qp X ρ a d)(hb:Qp X ρ b (.tup xs))(sp:(fg d).canLay0=true)(sd:(fg d).depth<=62)(sq:PyData.canLayAll0 (QA xs)=true)(he:(!(QA xs).any fun y=>PyData.eqv y (fg d))=r)(hm:behindInMarks .NotIn b=false:=by rfl):Qs X ρ (.Compare a [.NotIn] [b] pos) r:=
 .of (fP (HA t sp sd sq) aV aV hm) fun B F H σ Q k q=>zD (Qp.p ha) (Qp.p hb) k fun x y F' H' x' rx ry=>⟨rx,ry,r,by rw[he],q F' H' x'⟩
end
def R3(X:Cx)(q:Addr)(ρ:cp)(e:Expr)(d:D)(xs xs':List D):Prop:=∀(B:B0) (F H:Hp) (σ:St) (Q:VK) (us:List V),RI X.K B q F us xs->Ok X.K B F H σ ρ ->
 (∀v F' H' Sd,Ext (RD ⟨F,H⟩ q Sd) F' H'->Qq X.K F' Sd xs'->Rep X.K F' v d->Q v H')->wE X e σ H Q
def Ed(X:Cx)(q:Addr)(ρ:cp)(es:List Expr)(ds:List D)(xs xs':List D):Prop:=T6 es/\∀(B:B0) (F H:Hp) (σ:St) (Q:List V->Hp->Prop) (us:List V),RI X.K B q F us xs->Ok X.K B F H σ ρ ->
 (∀vs F' H' Sd,Ext (RD ⟨F,H⟩ q Sd) F' H'->Qq X.K F' Sd xs'->Qq X.K F' vs ds->Q vs H')->wA X es σ H Q
def S8(X:Cx)(q:Addr)(ρ:cp)(e:Expr)(b:Bool)(xs:List D):Prop:=∀(B:B0) (F H:Hp) (σ:St) (Q:Bool->Hp->Prop) (us:List V),RI X.K B q F us xs->Ok X.K B F H σ ρ ->
 (∀F' H',Ext ⟨F,H⟩ F' H'->Q b H')->wT X e σ H Q
theorem B9{H:Hp}(x:Ext (RD ⟨F,H⟩ q us) F1 H1)(hf:F q=none):F1 q=none:=by
 cases e:F1 q with
 |none=>rfl
 |some o=>
  rcases x.nw q (by rw[e];exact cy o) with z | z
  ·exact absurd hf z
  ·have z':cA H q (.lst us) q=none:=z
   rw[aK] at z';cases z'
theorem Ext.YC{H:Hp}(x:Ext (RD ⟨F,H⟩ q us) F1 H1)(hf:F q=none):Ext (RD ⟨F,H⟩ q ws) F1 (cA H1 q (.lst ws)):=by
 have h1:=B9 x hf
 refine⟨fun b u z=>?_,fun b u z=>?_,x.sf,fun a z=>?_⟩
 ·have ne:b≠q:=fun w=>by subst w;rw[h1] at z;cases z
  rw[aJ ne];exact x.sub b u z
 ·have z':cA H q (.lst ws) b=some u:=z
  by_cases ne:b=q
  ·subst ne;rw[aK] at z' ⊢;exact z'
  ·rw[aJ ne] at z' ⊢;exact x.sh b u (by show cA H q (.lst us) b=some u;rw[aJ ne];exact z')
 ·have ne:a≠q:=fun w=>by subst w;exact z h1
  rcases x.nw a z with y | y
  ·exact .inl y
  ·refine .inr ?_
   have y':cA H q (.lst us) a=none:=y
   show cA H q (.lst ws) a=none
   rw[aJ ne] at y' ⊢;exact y'
theorem Ext.tM{H:Hp}(x:Ext (RD ⟨F,H⟩ q us) F1 H1)(hf:F q=none)(y:Ext (RD ⟨F1,H1⟩ q ws) F2 H2):Ext (RD ⟨F,H⟩ q ws) F2 H2:=(x.YC hf).trans y
theorem Ext.Yy{H:Hp}{q:Addr}(x:Ext ⟨F,H⟩ F' H')(h:H q=some (.lst us)):Ext (RD ⟨F,H⟩ q us) F' H':=by rw[RD.same (B:=⟨F,H⟩) h];exact x
section
variable {st:Stmt}{bS:List Stmt}{ds:List D}
theorem Ok.Ug{K:PySem.W.Frag}(k:Ok K B F H σ ρ)(l:RI K B q F us xs)(x:Ext (RD ⟨F,H⟩ q ws) F' H'):Ok K (RD B q ws) F' H' σ ρ:=(k.VW l).ext x
theorem RI.ff{K:PySem.W.Frag}(l:RI K B q F us xs)(k:Ok K B F H σ ρ):F q=none:=l.free k.toExt
theorem Qp.em(h:Qp X ρ e d):R3 X q ρ e d xs xs:=fun B F H σ Q us l k w=>h B F H σ Q k fun v F' H' x r=>w v F' H' us (x.Yy (k.sh _ _ l.st)) (l.rep.mono x.sf) r
theorem Q2.am(h:Q2 X ρ es ds):Ed X q ρ es ds xs xs:=⟨h.1,fun B F H σ Q us l k w=>h.2 B F H σ Q k fun v F' H' x r=>w v F' H' us (x.Yy (k.sh _ _ l.st)) (l.rep.mono x.sf) r⟩
theorem eG(h1:R3 X q ρ e d xs T1)(h2:Ed X q ρ es ds T1 xs')(hs:Pl e:=by intro _ _;rfl):Ed X q ρ (e::es) (d::ds) xs xs':=
 ⟨⟨hs,h2.1⟩,fun B F H σ Q us l k w=>.mk fun pos pins s I=>bo aV nI (hs _ _) pos pins s σ H Q I (h1 B F H σ _ us l k fun v F1 H1 u1 x1 r1 rv=>h2.2 (RD B q u1) F1 H1 σ _ u1 ⟨aK,l.fr,r1⟩ (k.Ug l x1) fun vs F2 H2 u2 x2 r2 Vv=>w _ F2 H2 u2 (x1.tM (l.ff k) x2) r2 (.cons (rv.mono x2.sf) Vv))⟩
theorem vI(h:Ed X q ρ es ds xs xs')(hl:ds.length<=sizeLine:=by exact cX rfl):R3 X q ρ (.Tuple es x1 pos) (.tup ds) xs xs':=fun B F H σ Q us l k w=>.mk fun pins s I=>
 Bo nI pins s σ H Q I (h.2 B F H σ _ us l k fun vs F' H' u1 x r rv=>⟨by rw[rv.length];exact hl,fun p hp=>w _ _ _ u1 (x.grow hp) (r.mono (aP (x.sub.free hp))) (.tup aK (rv.mono (aP (x.sub.free hp))))⟩)
theorem iw{pos:Pos}[Th X](t:At X N sc)(i:Nat)(h:R3 X q ρ e d xs xs')(hi:N[i]?=some x:=by rfl)(hx:ku sc x=true:=by rfl)(hs:swapsWith e (some (.Name x pos')) pos.line X.env=pure false:=by rfl):
  t7 X q ρ (.Assign [.Name x pos'] e pos) (.nx (ρ.set i (.val d))) xs xs':=fun B F H σ E us l k w=>
 (.mk fun pins s I=>mw (i:=i) t.nd (t.ix hi) (t.loc hx) aV hs AZ pins s σ H E I (h B F H σ _ us l k fun v F' H' u1 x' r rv=>w F' H' _ u1 ((k.Ug l x').QN i rv) r x'.sf))
theorem sC(h:R3 X q ρ e d xs xs'):t7 X q ρ (.Return (some e) pos) (.rt d) xs xs':=fun B F H σ E us l k w=>
 (.mk fun pins s I=>pX aV pins s σ H E I (h B F H σ _ us l k fun v F' H' u1 x' r rv=>w v F' H' u1 (k.Ug l x').toExt r rv))
theorem CL(h1:t7 X q ρ st (.rt d) xs xs'):xI X q ρ (st::bS) (.rt d) xs xs':=fun B F H σ E us l k w=>
 (.mk fun pins s I=>fm sv dn pins s σ H E I (h1 B F H σ _ us l k w))
theorem Qs.l{xs:List D}(h:Qs X ρ e r):S8 X q ρ e r xs:=fun B F H σ Q us l k w=>h B F H σ Q k w
theorem CK{X:Cx}(w:vW X.K B q F E xs' o)(s:Qx F F1):vW X.K B q F1 E xs' o:=by
 cases o with
 |nx ρ'=>exact fun F' H' σ' ws k r s'=>w F' H' σ' ws k r (s.trans s')
 |rt d=>exact w
theorem kR(hc:S8 X q ρ c true xs)(h:xI X q ρ ss o xs xs'):t7 X q ρ (.If c ss Sd pos) o xs xs':=fun B F H σ E us l k w=>
 (.mk fun pins s I=>xi lR dn dn pins s σ H E I (hc B F H σ _ us l k fun F1 H1 x1=>by rw[ay rfl];exact h B F1 H1 σ E us (l.ext x1) (k.ext x1) (CK w x1.sf)))
theorem fT(hc:S8 X q ρ c false xs)(h:xI X q ρ Sd o xs xs'):t7 X q ρ (.If c ss Sd pos) o xs xs':=fun B F H σ E us l k w=>
 (.mk fun pins s I=>xi lR dn dn pins s σ H E I (hc B F H σ _ us l k fun F1 H1 x1=>by rw[aq aE];exact h B F1 H1 σ E us (l.ext x1) (k.ext x1) (CK w x1.sf)))
theorem FL:xr (Sum.inr "xs") (.str "xs" tk)=true:=by show Value.isStrOf "xs" (.str "xs" tk)=true;simp[Value.isStrOf]
theorem Jh{i:Nat}{Q:VK}{ρ:cp}(t:At X N sc)(hr:ρ[i]?=some (.val (.SA q)))(hN:N[i]?=some x)(hv:dW sc x=true)(hx:cg x=true)(k:Ok X.K B F H σ ρ)(h:Q (.ref q) H):
  wE X (.Subscript (.Name x py) (.Constant (.str "xs") j p2) pos) σ H Q:=.mk fun pins s I=>by
 obtain⟨v,h1,h2⟩:=k.vals i _ hr
 cases h2 with
 |@SA a _ e=>
 refine PJ (de (su t hN hv hx pins s σ H (fun v H1=>v=.ref a/\H1=H) I ⟨_,h1,rfl,rfl⟩) fun u s1 ⟨v,H1,I1,rv,ev,eh⟩=>?_)
 subst ev;subst eh
 cases(show u=Value.ref a from rv)
 refine de (Bp pins s1 σ H1 (fun v H2=>v=.str "xs" /\ H2=H1) I1 ⟨rfl,rfl⟩) fun iv s2 ⟨w,H2,I2,Sj,ew,eh⟩=>?_
 subst ew;subst eh
 obtain⟨tk,rfl⟩:=(show ∃t,iv=Value.str "xs" t from Sj)
 obtain⟨z,Wc,vs,rel,dd⟩:=(show QC X.prog X.w H2 s2.heap a (.dK [(Sum.inr "xs",.ref q)]) from I2.QG a _ (k.sub _ _ e))
 cases rel with
 |@cons _ kv _ vs' hkv tl=>
 cases tl
 obtain⟨kk,w'⟩:=kv
 obtain⟨e1,e2⟩:=hkv
 have WV:(Sum.inr (Str.ofString "xs"):rX)=kk:=e1
 subst WV
 cases(show w'=Value.ref q from e2)
 refine dP (x:=.ref q) dd.typeIs PySem.F.slot_dict_getitem.lookup ?_ (by rfl)
 exact wpAny_getItem_of (knd:=gy X.prog X.w) (Q:=fun r s'=>r=.ref q/\EP X pins σ Q r s') (k:=Sum.inr "xs") (FL (tk:=tk)) dd.mapOf (by simp[valueAt]) ⟨rfl,.ref q,H2,I2.tok _,rfl,h⟩
theorem zH{r:Bool}{ns:List Int}{ρ:cp}{xs:List D}(t:At X N sc)(i:Nat)(hr:ρ[i]?=some (.val (.SA q)))(Zp:xs=ns.map D.int)(he:r=ns.isEmpty)(hN:N[i]?=some x:=by rfl)(hv:dW sc x=true:=by rfl)(hx:cg x=true:=by rfl):
  S8 X q ρ (.Compare (.Subscript (.Name x py) (.Constant (.str "xs") j p2) p1) [.Eq] [.List [] p3] pos) r xs:=fun B F H σ Q us l k w=>.mk fun pins s I=>by
 subst Zp
 have sh:SeqAt.shaped (PyData.list (QA (ns.map D.int)))=true:=by rw[ir];exact Qm ns
 refine fP (Cv t (p:=.list (QA (ns.map D.int))) (q:=.list []) sh rfl) aV aV (dH _ (by decide) (by decide)) pins s σ H Q I ?_
 refine Jh t hr hN hv hx k ?_
 refine(bI (X:=X) (ρ:=ρ) aj).toQ.p B F H σ _ k fun v F' H' x' rd=>?_
 refine⟨fun hc H2 s2 pins σ s u I ru=>?_,rd,r,?_,w F' H' x'⟩
 ·cases(show u=Value.ref q from ru)
  exact UJ.reads (k:=true) I (x'.sub.trans s2) (show Q1 _ _ _ _ from Q1.of (s2 _ _ (x'.sh _ _ (k.sh _ _ l.st)))) (l.rep.mono x'.sf) hc
 ·subst he
  cases ns with
  |nil=>rfl
  |cons n ns=>rfl
theorem Lv{apos Qt:Pos}{ρ:cp}{xs:List D}{xs':List D}(t:At X N sc)(i:Nat)(hr:ρ[i]?=some (.val (.SA q)))(Yf:xs=xs'++[d])(hN:N[i]?=some x:=by rfl)(hv:dW sc x=true:=by rfl)(hx:cg x=true:=by rfl)(hline:(apos.endLine==Qt.line)=true:=by rfl):
  R3 X q ρ (.Call (.Attribute (.Subscript (.Name x py) (.Constant (.str "xs") j p2) p1) "pop" apos) [] [] Qt) d xs xs':=fun B F H σ Q us l k w=>.mk fun pins s I=>by
 subst Yf
 refine vd bM ma l9 yh aV rfl hline pins s σ H Q I ?_
 refine Jh t hr hN hv hx k ?_
 have h2:H q=some (.lst us):=k.sh _ _ l.st
 refine⟨.inl ⟨rfl,_,Q1.of h2⟩,?_⟩
 have hl:=l.rep.length
 obtain⟨v,hw,Sj⟩:=l.rep.get (i:=xs'.length) (d:=d) (by simp)
 have VD:us.length-1=xs'.length:=by rw[hl];simp
 refine⟨q,us,v,rfl,rfl,h2,by rw[VD];exact hw,?_⟩
 have hf:=l.ff k
 have rd:=l.rep.dropLast
 rw[ni] at rd
 exact w v F _ us.dropLast ⟨fun b u z=>by rw[aJ (fun e=>by subst e;rw[hf] at z;cases z)];exact k.sub b u z,fun b u z=>z,.refl _,fun a z=>.inl z⟩ rd Sj
def MG(K:PySem.W.Frag)(C:List D->List D->D->List D->Prop):Sp:=fun vs H Q _=>∃q F ds d us xs xs',Qx F H/\H q=some (.lst us)/\F q=none/\Qq K F us xs/\Qq K F vs (.SA q::ds)/\C ds xs d xs'/\∀v F' H' Sd,Ext (RD ⟨F,H⟩ q Sd) F' H'->Qq K F' Sd xs'->Rep K F' v d->Q v H'
def Rk(X:Cx)(x:Str)(C:List D->List D->D->List D->Prop):Prop:=∃(f:Addr) (fd:FuncData) (ps:List Str) (k:Nat),dJ X.prog X.w X.K X.mg X.base gH k f fd ps (MG X.K C)/\QR k X.A/\X.mg x=some (.ref f)/\PySem.W.keepIn X.K (.ref f)=true/\Binds X.K fd ps []
theorem Lf{P:Program}(Ra:P.given.tree=none){w:World}{K:PySem.W.Frag}{mg:Str->Option Value}{base:Heap}{x qual:Str}{st:Stmt}{f:Addr}{fd:FuncData}{N ps:List Str}{k:Nat}{C:List D->List D->D->List D->Prop}(F:Um K x qual st f fd)(S:aR N ps (ai st))(len:∀ds xs d xs',C ds xs d xs'->ds.length+1=ps.length)(body:∀X,DefX P w K mg base k N (ai st) X->∀q ds xs d xs',C ds xs d xs'->xI X q (.val (.SA q)::ds.map Sl.val++List.replicate (N.length-(ds.length+1)) Sl.un) (bw st) (.rt d) xs xs'):dJ P w K mg base gH (k+1) f fd ps (MG K C):=by
 refine F.ok S (fun vs H Q E h=>?_) (fun Q3 A outer s H vs Q E hr h=>?_)
 ·obtain⟨p,F',ds,d,us,xs,xs',sub,hp,hf,ru,r,hC,q⟩:=h
  rw[r.length];exact len ds xs d xs' hC
 ·obtain⟨p,F',ds,d,us,xs,xs',sub,hp,hf,ru,r,hC,q⟩:=h
  refine⟨_,dn,?_⟩
  have hx:DefX P w K mg base k N (ai st) (qa gH P w K mg base N qual (ai st) f Q3 A outer s H E).Tx:=
   ⟨⟨rfl,rfl,rfl,S.nd,rfl,hr.units,hr.Ss,Ra,⟨_,_,rfl,S.gen,S.co,rfl,rfl⟩⟩,rfl,rfl,rfl,rfl,rfl,hr,⟨fun _=>rfl⟩,rfl,rfl⟩
  have hk:Ok K ⟨F',H⟩ F' H (start N vs) (.val (.SA p)::ds.map Sl.val++List.replicate (N.length-(ds.length+1)) Sl.un):=by
   unfold start
   rw[r.length]
   exact i9 sub r _
  exact body _ hx p ds xs d xs' hC ⟨F',H⟩ F' H _ _ us ⟨hp,hf,ru⟩ hk fun v F2 H2 WC x2 r2 rv=>q v F2 H2 WC x2 r2 rv
theorem DefX.VJ{K:PySem.W.Frag}{x:Str}{C:List D->List D->D->List D->Prop}(h:DefX P w K mg base k N sc X)(F:dJ P w K mg base gH j f fd ps (MG K C))(hj:j<=k)(hm:mg x=some (.ref f))(hk:PySem.W.keepIn K (.ref f)=true)(hb:Binds K fd ps []):Rk X x C:=by
 obtain⟨h0,rfl,rfl,rfl,rfl,rfl,hr,_⟩:=h
 exact⟨f,fd,ps,j,F,hr.mono hj,hm,hk,hb⟩
theorem uA(t:At X N sc){C:List D->List D->D->List D->Prop}(h:Rk X x C)(ha:Ed X q ρ (e::es) (.SA q::ds) xs T1)(hC:C ds T1 d xs')(hg:sc.names.lookup x=some .globalImplicit:=by rfl)(Rr:(x==("__debug__" : Str))=false:=by rfl):
  R3 X q ρ (.Call (.Name x p) (e::es) [] pos) d xs xs':=fun B F0 H σ Q us l k w=>.mk fun pins s I=>by
 obtain⟨f,fd,ps,kk,F,Uc,hm,hk,hb⟩:=h
 have pz:gc gH X E0:=nH
 refine iS F Uc (dA t hg) hm hk hb .nil pz nI Rr (ha.1.1 _ _) (T6.any ha.1.2) pins s σ H Q I (ha.2 B F0 H σ _ us l k fun vs F1 H1 u1 x1 r1 rv=>?_)
 have k1:=k.Ug l x1
 refine⟨q,F1,ds,d,u1,T1,xs',k1.sub,k1.sh _ _ aK,B9 x1 (l.ff k),r1,by rw[aU];exact rv,hC,fun v F2 H2 u2 x2 r2 UD=>w v F2 H2 u2 (x1.tM (l.ff k) x2) r2 UD⟩
theorem Ext.Vx{H:Hp}{l:Addr}(x:Ext ⟨F,H⟩ F1 H1)(h0:H l=none)(hf:F1 l=none)(y:Ext (RD ⟨F1,H1⟩ l us) F2 H2):Ext ⟨F,H⟩ F2 H2:=by
 refine Ext.trans (F:=F1) (H:=cA H1 l (.lst us)) ⟨fun b u z=>?_,fun b u z=>?_,x.sf,x.nw⟩ y
 ·rw[aJ (fun e=>by subst e;rw[hf] at z;cases z)];exact x.sub b u z
 ·have z':H b=some u:=z
  rw[aJ (fun e=>by subst e;rw[h0] at z';cases z')];exact x.sh b u z
theorem JZ{Q:VK}(t:At X N sc)(h1:QJ X ρ e xs)(k:Ok X.K B F H σ ρ)(w:∀a l vs F' H',Ext ⟨F,H⟩ F' H'->H l=none->H' l=some (.lst vs)->F' l=none->Qq X.K F' vs xs->Rep X.K F' (.ref a) (.SA l)->Q (.ref a) H'):wE X (.Dict [some (.Constant (.str "xs") j p1)] [e] p2) σ H Q:=.mk fun pins s I=>by
 rw[arm_eval_Dict,zip_pairTrees [some (.Constant (.str "xs") j p1)] [e] X.env p2 rfl rfl]
 have Sf:(pairTrees [some (.Constant (.str "xs") j p1)] [e] X.env p2).length=1:=NP _ _ X.env p2 rfl rfl
 rw[LZ _ (fun z=>by rw[z] at Sf;cases Sf) (by omega)]
 refine ae (i6 (ae ?_))
 unfold subDict
 refine ae (Ef ?_)
 have hn:=I.QG.fresh (ak s.heap.objs.size)
 have hbg:sysModules<s.heap.objs.size:=je (by decide) (show mainGlobals<s.heap.objs.size from(I.mod.glob.keeps I.bk).lt)
 have Wc:(s.heap.objs.size==sysModules)=false:=bj.mpr (Ne.symm (bi hbg))
 have I1:=I.laid (a:=s.heap.objs.size) (o:=.dK []) (h':=s.heap.push { cls:=.type "dict",data:=.dict #[] }) (t':=s.toks) (fun _ _ q=>ar _ q) (ak _) (show QC X.prog X.w _ _ s.heap.objs.size (.dK []) from⟨bu _,Wc,[],.nil,Heap.DictOf.new s.heap⟩)
 have x1:Ext ⟨F,H⟩ F (cA H s.heap.objs.size (.dK [])):=⟨k.sub.trans (aP hn),aP hn,.refl _,fun _ z=>.inl z⟩
 have Wk:F s.heap.objs.size=none:=k.sub.free hn
 refine ae (bR ?_)
 rw[ay (by omega)]
 generalize s.heap.objs.size=a at hn Wc I1 x1 Wk ⊢
 refine ae ?_
 refine GR (de (Bp pins _ σ _ (fun v H2=>v=.str "xs" /\ H2=cA H a (.dK [])) I1 ⟨rfl,rfl⟩) fun u s1 ⟨v,H1,I2,rv,ev,eh⟩=>?_)
 subst ev;subst eh
 obtain⟨tk,rfl⟩:=(show ∃t,u=Value.str "xs" t from rv)
 refine de (h1 B F _ σ (fun v H2=>∃l vs F2,v=.ref l/\Ext ⟨F,cA H a (.dK [])⟩ F2 H2/\cA H a (.dK []) l=none/\H2 l=some (.lst vs)/\F2 l=none/\Qq X.K F2 vs xs) (k.ext x1) (fun l vs F2 H2 x2 g1 g2 g3 g4=>⟨l,vs,F2,rfl,x2,g1,g2,g3,g4⟩) pins s1 I2) fun u2 s2 ⟨v2,H2,I3,UD,l,vs,F2,ev,x2,g1,g2,g3,g4⟩=>?_
 subst ev
 cases(show u2=Value.ref l from UD)
 refine I0 ?_
 refine bR (ae ?_)
 have ha2:H2 a=some (.dK []):=x2.sh _ _ aK
 obtain⟨z,_,vs0,rel,dd⟩:=(show QC X.prog X.w H2 s2.heap a (.dK []) from I3.QG a _ ha2)
 cases rel
 rw[oI]
 refine ae (ae (wpAny_dictSet_pairs (knd:=gy X.prog X.w) (k:=Sum.inr "xs") (FL (tk:=tk)) dd (fun h' VH sb=>?_) (bu _)))
 refine au ?_
 show wpAny _ _ (forIn [] PUnit.unit _) _ _ _
 rw[List.forIn_nil]
 refine au (au ?_)
 have Vi:stored (K:=rX) [] (Sum.inr (Str.ofString "xs")) (Value.ref l)=[((Sum.inr (Str.ofString "xs"):rX),Value.ref l)]:=rfl
 rw[Vi] at VH
 have I4:Inv X pins σ (cA H2 a (.dK [(Sum.inr "xs",.ref l)])) { s2 with heap:=h',toks:=s2.toks+1 }:=I3.write (x:=a) (e:=a) (by rw[ha2];exact True.intro) (.inl rfl) (fun c q hc w=>(sb.2 c hc).trans w) (let ⟨o,_,_,h1,_⟩:=VH;⟨o,h1⟩)
  (show QC X.prog X.w _ _ a (.dK [(Sum.inr "xs",.ref l)]) from⟨by show 1<=sizeLine;rw[jQ];decide,Wc,[((Sum.inr (Str.ofString "xs"):rX),Value.ref l)],.cons ⟨rfl,rfl⟩ .nil,VH⟩)
 refine au (au ⟨.ref a,_,I4,rfl,?_⟩)
 have UH:F2 a=none:=by
  cases e:F2 a with
  |none=>rfl
  |some o=>
   rcases x2.nw a (by rw[e];exact cy o) with w | w
   ·exact absurd Wk w
   ·have w':cA H a (.dK []) a=none:=w
    rw[aK] at w';cases w'
 have Up:=x1.t x2
 have ZI:l≠a:=fun z=>by subst z;rw[aK] at g1;cases g1
 have ZJ:H l=none:=by rw[aJ ZI] at g1;exact g1
 refine w a l vs (cA F2 a (.dK [(Sum.inr "xs",.ref l)])) _ ⟨uH Up.sub,fun c u z=>?_,Up.sf.trans (aP UH),fun c z=>?_⟩ ZJ (by rw[aJ ZI];exact g2) (by rw[aJ ZI];exact g3) (g4.mono (aP UH)) (.SA aK)
 ·have ne:c≠a:=fun e=>by subst e;have z':H c=some u:=z;rw[hn] at z';cases z'
  rw[aJ ne];exact Up.sh c u z
 ·by_cases e:c=a
  ·subst e;exact .inr hn
  ·rw[aJ e] at z;exact Up.nw c z
theorem Ga(t:At X N sc){C:List D->List D->D->List D->Prop}(h:Rk X x C)(h1:QJ X ρ e xs)(ha:Q2 X ρ es ds)(hC:C ds xs d xs')(hg:sc.names.lookup x=some .globalImplicit:=by rfl)(Rr:(x==("__debug__" : Str))=false:=by rfl):
  Qp X ρ (.Call (.Name x p) (.Dict [some (.Constant (.str "xs") j p1)] [e] p2::es) [] pos) d:=fun B F0 H σ Q k w=>.mk fun pins s I=>by
 obtain⟨f,fd,ps,kk,F,Uc,hm,hk,hb⟩:=h
 have pz:gc gH X E0:=nH
 have Sf:Pl (.Dict [some (.Constant (.str "xs") j p1)] [e] p2):=fun _ _=>rfl
 refine iS F Uc (dA t hg) hm hk hb .nil pz nI Rr (Sf _ _) (T6.any ha.1) pins s σ H Q I ?_
 refine .mk fun pos' pins s I=>?_
 refine bo (aV (e:=.Dict [some (.Constant (.str "xs") j p1)] [e] p2)) (nI (es:=es)) (Sf _ _) pos' pins s σ H _ I ?_
 refine JZ t h1 k fun a l vs F1 H1 x1 g0 g1 g2 g3 g4=>ha.2 B F1 H1 σ _ (k.ext x1) fun ws F2 H2 x2 r2=>?_
 have UH:F2 l=none:=x2.stays g1 g2
 refine⟨l,F2,ds,d,vs,xs,xs',x2.sub,x2.sh _ _ g1,UH,g3.mono x2.sf,by rw[aU];exact .cons (g4.mono x2.sf) r2,hC,fun v F3 H3 u3 x3 r3 rv=>w v F3 H3 ((x1.t x2).Vx g0 UH x3) rv⟩
end
mutual
inductive GP(K:PySem.W.Frag):Value->PyData->Prop where
 |int (i:Int) (t:Tok):GP K (.int i t) (.int i)
 |str (x:Str) (t:Tok):GP K (.str x t) (.str x)
 |tup {a:Addr} {o:Obj} {its:Array Value} {n:Nat} {ps:List PyData}:K.lookup a=some o->o.cls=.type "tuple" -> o.data=.seq its n->Vn K its.toList ps->GP K (.ref a) (.tuple ps)
inductive Vn(K:PySem.W.Frag):List Value->List PyData->Prop where
 |nil:Vn K [] []
 |cons {v:Value} {vs:List Value} {p:PyData} {ps:List PyData}:GP K v p->Vn K vs ps->Vn K (v::vs) (p::ps)
end
mutual
theorem GP.reads{K:PySem.W.Frag}(i:K.In h):∀{v:Value} {p:PyData},GP K v p->∃as,Reads h v p as
 |_,_,.int i t=>⟨_,.int i t⟩
 |_,_,.str x t=>⟨_,.str x t⟩
 |_,_,.tup e c d r=>by obtain⟨as,ra⟩:=Vn.reads i r;exact⟨_,.tuple (i _ _ e) c d ra⟩
theorem Vn.reads{K:PySem.W.Frag}(i:K.In h):∀{vs:List Value} {ps:List PyData},Vn K vs ps->∃as,ReadsAll h vs ps as
 |_,_,.nil=>⟨_,.nil⟩
 |_,_,.cons a b=>by obtain⟨as,ra⟩:=GP.reads i a;obtain⟨bs,rb⟩:=Vn.reads i b;exact⟨_,.cons ra rb⟩
end
section
variable {ds:List D}
theorem rF{x:Str}(t:At X N sc)(hm:X.mg x=some (.ref l))(hk:GP X.K (.ref l) q)(hg:sc.names.lookup x=some .globalImplicit:=by rfl)(Rr:(x==("__debug__" : Str))=false:=by rfl):B3 X ρ (.Name x pos) q:=fun B F H σ Q k w=>.mk fun pins s I=>
 uq (v:=.ref l) (dA t hg) hm rfl Rr pins s σ H Q I (w _ F H (.refl k.sub) fun hc H' s' pins σ s u I ru=>by
  cases(show u=Value.ref l from ru)
  exact hk.reads I.Se)
theorem yy{r:Bool}(t:At X N sc){qs:List PyData}(ha:B3 X ρ a q)(hb:B3 X ρ b (.tuple qs))(sp:q.canLay0=true)(sd:q.depth<=62)(sq:PyData.canLayAll0 qs=true)(he:(qs.any fun y=>PyData.eqv y q)=r)(hm:behindInMarks .In b=false:=by rfl):Qs X ρ (.Compare a [.In] [b] pos) r:=
 .of (fP (Bi t sp sd sq) aV aV hm) fun B F H σ Q k q=>zD ha hb k fun x y F' H' x' rx ry=>⟨rx,ry,r,by rw[he],q F' H' x'⟩
def Pk:D->Bool
 |.QO=>true | .bl _=>true | .int _=>true | .str _=>true | .tup _=>true | .lst _=>true | .QM _=>true | _=>false
theorem Ig{X:Cx}(hk:PySem.W.kitOne X.K (.type "dict") (.type T)=some k):
  ic X (.builtin "isinstance") (fun xs H Q=>∃x F kvs,xs=[x,.ty T]/\Qx F H/\Rep X.K F x (.QM kvs)/\Q (.bl k) H):=by
 intro pins s σ H xs us Q I r h
 obtain⟨v,F,kvs,rfl,sub,rv,q⟩:=h
 obtain⟨u,w,rfl,ru,Sj⟩:=zx r
 cases(show w=Value.type T from Sj)
 cases rv with
 |@QM a ob _ zs hf _=>
 cases(show u=Value.ref a from ru)
 obtain⟨_,_,o,h1,h2,_⟩:=R4.is I (.inr ⟨ob,sub _ _ hf⟩:R4 H a zs)
 exact cq Ei I.Se ⟨o,h1,h2.1⟩ hk (fun z=>nomatch z) fun tk=>⟨.bl k,H,I.tok tk,rfl,q⟩
theorem C3(t:At X N sc)(bl:pi X sc x (.builtin "isinstance"))(bt:pi X sc y (.type T))(ha:Qp X ρ a d)(hp:Pk d=true)(hk:PySem.W.kitOne X.K (NV d) (.type T)=some k)(hpa:Pl a:=by intro _ _;rfl):
  Qp X ρ (.Call (.Name x p) [a,.Name y py] [] pos) (.bl k):=by
 cases d with
 |QM kvs=>
  exact .of (j7 (Ig hk) (dA t bl.g) bl.m bl.v (bo aV (bo (yd (v:=.ty T) (dA t bt.g) bt.m bt.v rfl bt.n bt.d) cO) (hpa _ _)) bl.n bl.d (hpa _ _) rfl) fun B F H σ Q k' q=>
   ha B F H σ _ k' fun v F' H' x' r=>⟨v,F',kvs,rfl,x'.sub,r,q _ F' H' x' (.bl k)⟩
 |QO=>exact p0 t bl bt ha hk (hpa:=hpa)
 |bl _=>exact p0 t bl bt ha hk (hpa:=hpa)
 |int _=>exact p0 t bl bt ha hk (hpa:=hpa)
 |str _=>exact p0 t bl bt ha hk (hpa:=hpa)
 |tup _=>exact p0 t bl bt ha hk (hpa:=hpa)
 |lst _=>exact p0 t bl bt ha hk (hpa:=hpa)
 |R8 _=>cases hp
 |exc _=>cases hp
 |UO _ _=>cases hp
 |adr _=>cases hp
 |SA _=>cases hp
def FO:D->Bool
 |.tup _=>true | _=>false
def Jx:D->Bool
 |.str _=>true | _=>false
theorem FY(t:At X N sc)(bl:pi X sc x (.builtin "isinstance"))(bt:pi X sc y (.type "tuple"))(ha:Qp X ρ a d)(hp:Pk d=true)(hpa:Pl a:=by intro _ _;rfl):Qp X ρ (.Call (.Name x p) [a,.Name y py] [] pos) (.bl (FO d)):=
 C3 t bl bt ha hp (by cases d<;>first | rfl | cases hp) hpa
theorem rD(t:At X N sc)(bl:pi X sc x (.builtin "isinstance"))(bt:pi X sc y (.type "str"))(ha:Qp X ρ a d)(hp:Pk d=true)(hpa:Pl a:=by intro _ _;rfl):Qp X ρ (.Call (.Name x p) [a,.Name y py] [] pos) (.bl (Jx d)):=
 C3 t bl bt ha hp (by cases d<;>first | rfl | cases hp) hpa
theorem Ix{lo hi:Option Expr}{l h:Option Int}(ha:Qp X ρ a (.tup xs))(hl:G4 X ρ lo l)(hh:G4 X ρ hi h):Qp X ρ (.Subscript a (.Slice lo hi none p2) pos) (.tup (cutD xs l h)):=by
 by_cases hw:HT.QH xs.length 0 l=0/\HT.QH xs.length xs.length h=xs.length
 ·have e:cutD xs l h=xs:=by unfold cutD;rw[hw.1,hw.2];simp
  rw[e];exact Iv ha hl hh hw
 ·exact Iw ha.qt hl hh hw
theorem EQ{apos Qt:Pos}{ρ:cp}{pos:Pos}(t:At X N sc)(i:Nat)(hr:ρ[i]?=some (.own xs))(h:Qp X ρ e (.lst ys))(hz:xs.length+ys.length<=sizeLine)(hN:N[i]?=some y:=by rfl)(hv:dW sc y=true:=by rfl)(hx:cg y=true:=by rfl)(hs:starEach [e] X.env=(false,eval e X.env)::starEach [] X.env:=by rfl)(hline:(apos.endLine==Qt.line)=true:=by rfl)(Sf:(backTo Qt (starEach [] X.env)).any (·.1)=false:=by rfl)(Rx:((backTo Qt (starEach [e] X.env)).all (fun x=>!x.1)&&(backToKw Qt (keywordEach [] X.env)).all (fun x=>x.1.isSome)&&decide (([e]:List Expr).length+([]:List Keyword).length+(if ([]:List Keyword).isEmpty then 0 else 1)<30))=true:=by rfl)(SM:swapsWith (.Call (.Attribute (.Name y p) "extend" apos) [e] [] Qt) none pos.line X.env=pure false:=by rfl):
  QQ X ρ (.Expr (.Call (.Attribute (.Name y p) "extend" apos) [e] [] Qt) pos) (.nx (ρ.set i (.own (xs++ys)))):=
 .of (gY (qV bM NR NQ xo aV (bo aV cO hs) rfl Rx hline hs Sf) SM) fun B F H σ E k q=>
  nJ t hr hN hv hx k fun l vs h1 h2 h3=>⟨.inl ⟨rfl,_,Q1.of h2⟩,h B F H σ _ k fun v F' H' x' r=>by
   cases r with
   |@lst b ws _ hf rl=>
   have k':=k.ext x'
   have Wq:=x'.sh _ _ h2
   refine⟨l,b,vs,ws,rfl,rfl,Wq,x'.sub _ _ hf,by rw[h3.length,rl.length];exact hz,?_⟩
   exact q F' _ _ (k'.SH (vs:=vs) hr h1 ((h3.mono x'.sf).append rl)) x'.sf⟩
end
section
theorem eF{α:Type}[DecidableEq α](u v:α):(u==v)=decide (u=v):=by
 by_cases h:u=v
 ·simp[h]
 ·simp[h]
theorem cZ(w:Str):(fg (.str w)).depth<=62:=by simp[fg,PyData.depth]
theorem dw{w:Str}(h:PyData.strOk w=true):(fg (.str w)).canLay0=true:=by simp[fg,PyData.canLay0,h]
theorem dO{w:Str}(h:PyData.strOk w=true):SeqAt.shaped (fg (.str w))=true:=by
 show((fg (.str w)).canLay0&&decide ((fg (.str w)).depth<=64))=true
 rw[aB (by have:=cZ w;omega),dw h];rfl
theorem P5{u v:Str}(hu:PyData.strOk u=true)(hv:PyData.strOk v=true):PyData.canLayAll0 [.str u,.str v]=true:=by simp[PyData.canLayAll0,PyData.canLay0,hu,hv]
theorem bP(t:At X N sc)(ha:Qp X ρ a (.str u))(hb:Qp X ρ b (.str v))(hu:PyData.strOk u=true)(hv:PyData.strOk v=true:=by decide +kernel):Qs X ρ (.Compare a [.Eq] [b] pos) (decide (u=v)):=
 fJ t ha.p hb.p (dO hu) (dO hv) (by show(u==v)=_;exact eF u v)
theorem F7(t:At X N sc)(ha:Qp X ρ a (.str u))(hb:Qp X ρ b (.str v))(hu:PyData.strOk u=true)(hv:PyData.strOk v=true:=by decide +kernel):Qp X ρ (.Compare a [.Eq] [b] pos) (.bl (decide (u=v))):=
 F8 t ha.p hb.p (dO hu) (dO hv) (by show(u==v)=_;exact eF u v)
theorem LK(u v w:Str):([PyData.str u,.str v].any fun y=>PyData.eqv y (.str w))=(decide (w=u)||decide (w=v)):=by
 show((u==w)||((v==w)||false))=_
 rw[eF,eF,A3,cj.mpr (zk (a:=u)),cj.mpr (zk (a:=v))]
theorem BH{u v:Str}(t:At X N sc)(ha:Qp X ρ a (.str w))(hw:PyData.strOk w=true)(hu:PyData.strOk u=true:=by decide +kernel)(hv:PyData.strOk v=true:=by decide +kernel):Qs X ρ (.Compare a [.In] [.Tuple [.Constant (.str u) i p1,.Constant (.str v) j p2] k p3] pos) (decide (w=u)||decide (w=v)):=
 iz t (xs:=[.str u,.str v]) ha (aT (ab Qo (ab Qo aj))) (dw hw) (cZ w) (P5 hu hv) (LK u v w)
theorem LJ{xs:List D}(n:Nat)(h:xs[n]?=some d):l8 xs (n:Int)=some d:=by
 unfold l8
 have hn:n<xs.length:=(az.mp h).1
 rw[vw (j:=n) (by omega) (by omega) hn];exact h
theorem ce(n:Nat)(ha:Qp X ρ a (.tup xs))(hb:Qp X ρ b (.int i))(hi:i=(n:Int))(h:xs[n]?=some d)(hs:iV b:=by intro _ _;rfl):Qp X ρ (.Subscript a b pos) d:=
 bW ha.qt hb (by subst hi;exact LJ n h) hs
theorem y4{i:Int}{ys:List D}(hi:i=-1\/i=((ys++[d]).length:Int)-1):l8 (ys++[d]) i=some d:=by
 unfold l8
 have hl:(ys++[d]).length=ys.length+1:=by simp
 rcases hi with rfl | rfl
 ·have:CU (ys++[d]).length (-1)=some ys.length:=by
   unfold CU;simp[hl];omega
  rw[this];simp
 ·rw[vw (j:=ys.length) (by omega) (by omega) (by omega)];simp
end
section
variable {bS:List Stmt}
theorem IB(ha:Qp X ρ a (.bl u))(hb:u=true->Qp X ρ b (.bl v)):Qp X ρ (.BoolOp .And [a,b] pos) (.bl (u&&v)):=by
 cases u with
 |true=>exact Iz ha (Lr (hb rfl))
 |false=>exact IA ha
theorem kc(ha:Qs X ρ a u)(hb:u=false->Qs X ρ b v):Qs X ρ (.BoolOp .Or [a,b] pos) (u||v):=by
 cases u with
 |true=>exact RJ.toT (sM ha)
 |false=>exact RJ.toT (kZ ha (nT (hb rfl)))
theorem Gc(ha:Qs X ρ a u)(hb:u=false->Qs X ρ b v)(hc:u=false->v=false->Qs X ρ c w):Qs X ρ (.BoolOp .Or [a,b,c] pos) (u||(v||w)):=by
 cases u with
 |true=>exact RJ.toT (sM ha)
 |false=>cases v with
  |true=>exact RJ.toT (kZ ha (sM (hb rfl)))
  |false=>exact RJ.toT (kZ ha (kZ (hb rfl) (nT (hc rfl rfl))))
theorem rK(ha:Qs X ρ a u)(hb:u=true->Qs X ρ b v):Qs X ρ (.BoolOp .And [a,b] pos) (u&&v):=by
 cases u with
 |true=>exact RJ.toT (rm ha (rA (hb rfl)))
 |false=>exact RJ.toT (rq ha)
theorem JE(hc:Qs X ρ c u)(h1:u=true->Qr X ρ body (.rt d))(h2:u=false->Qr X ρ bS (.rt d)):Qr X ρ (.If c body [] pos::bS) (.rt d):=by
 cases u with
 |true=>exact dI (c7 hc (h1 rfl))
 |false=>exact aG (b0 hc bF) (h2 rfl)
end
theorem CP(xs:List D):xs=[]\/∃ys y,xs=ys++[y]:=by
 cases h:xs.getLast? with
 |none=>exact .inl (Mh.mp h)
 |some y=>obtain⟨ys,e⟩:=Mg.mp h;exact .inr ⟨ys,y,e⟩
theorem Sv.scan{σ:Type}(R:σ->cp)(I F:σ->Prop)(μ:σ->Nat)(st:∀s,I s->(Qs X (R s) c false/\F s)\/(Qs X (R s) c true/\(Qr X (R s) body (.rt d0)\/∃s',Qr X (R s) body (.nx (R s'))/\I s'/\μ s'<μ s))):∀(n:Nat) (s:σ),μ s<=n->I s->∃m o,Sv X c body m (R s) o/\(o=.rt d0\/∃s',o=.nx (R s')/\F s')
 |n,s,hn,hI=>by
  rcases st s hI with⟨h1,h2⟩ | ⟨h1,h2 | ⟨s',h2,h3,h4⟩⟩
  ·exact⟨0,_,.stop h1,.inr ⟨s,rfl,h2⟩⟩
  ·exact⟨0,_,.ret h1 h2,.inl rfl⟩
  ·cases n with
   |zero=>omega
   |succ n=>
    obtain⟨m,o,hr,ho⟩:=Sv.scan R I F μ st n s' (by omega) h3
    exact⟨m+1,o,.step h1 h2 hr,ho⟩
theorem sP{bS:List Stmt}{σ:Type}(t:At X N sc)(R:σ->cp)(I F:σ->Prop)(μ:σ->Nat)(s0:σ)(h0:I s0)(st:∀s,I s->(Qs X (R s) c false/\F s)\/(Qs X (R s) c true/\(Qr X (R s) body (.rt d0)\/∃s',Qr X (R s) body (.nx (R s'))/\I s'/\μ s'<μ s)))(fin:∀s,F s->Qr X (R s) bS (.rt d0)):Qr X (R s0) (.While c body [] pos::bS) (.rt d0):=by
 obtain⟨m,o,hr,ho⟩:=Sv.scan (X:=X) (c:=c) (body:=body) (d0:=d0) R I F μ st (μ s0) s0 (ak _) h0
 have run:=qN (pos:=pos) t ⟨m,hr⟩
 rcases ho with rfl | ⟨s',rfl,hf⟩
 ·exact dI run
 ·exact aG run (fin s' hf)
def PF(mg:Str->Option Value)(K:PySem.W.Frag)(x:Str)(q:PyData):Prop:=∃l,mg x=some (.ref l)/\GP K (.ref l) q
theorem M2(ns:List Int):ns=[]\/∃m i,ns=m++[i]:=by
 cases h:ns.getLast? with
 |none=>exact .inl (Mh.mp h)
 |some y=>obtain⟨ys,e⟩:=Mg.mp h;exact .inr ⟨ys,y,e⟩
theorem GD{xs:List D}{i:Int}{m:Nat}(hm:(m:Int)=(xs.length:Int))(h0:0<m)(d0:D):l8 xs (i%(m:Int))=some (xs.getD (i%(m:Int)).toNat d0):=by
 have h1:0<=i%(m:Int):=v6 _ (by omega)
 have h2:i%(m:Int)<(m:Int):=qk _ (by omega)
 have h3:(i%(m:Int)).toNat<xs.length:=by omega
 unfold l8
 rw[vw (j:=(i%(m:Int)).toNat) h1 rfl h3,ah]
 show xs[_]?=_
 rw[aD h3];rfl
theorem mod_lt{x:Int}{xs:List D}(h:xs≠[]):(x%(xs.length:Int)).toNat<xs.length:=by
 have:0<xs.length:=bO.mpr h
 have:=qk x (show(0:Int)<(xs.length:Int) by omega)
 have:=v6 x (show(xs.length:Int)≠0 by omega)
 omega
theorem IK{n:Nat}:L2.EV.cutD xs (some (n:Int)) none=xs.drop n:=by
 unfold L2.EV.cutD
 rw[HT.UU,HT.Vu]
 by_cases h:n<=xs.length
 ·rw[Nat.min_eq_left h];rw[<-dj,bz]
 ·rw[Nat.min_eq_right (by omega),lH (ak _),lH (by omega)];simp
section
variable {ds:List D}
theorem rH{x:Str}(t:At X N sc)(hm:X.mg x=some (.ref l))(hg:sc.names.lookup x=some .globalImplicit:=by rfl)(Rr:(x==("__debug__" : Str))=false:=by rfl):Qp X ρ (.Name x pos) (.adr l):=
 .of (uq (v:=.ref l) (dA t hg) hm rfl Rr) fun B F H σ Q k w=>w _ F H (.refl k.sub) (.adr l)
end
structure LS where
 cs:Type
 ds:Type
 ov:cs->Addr->Option HO
 Wu:∀c c' a,ov c a=none->ov c' a=none
 rep:PySem.W.Frag->Hp->cs->ds->Prop
 mono:∀{K:PySem.W.Frag} {F F':Hp} {c:cs} {s:ds},Qx F F'->rep K F c s->rep K F' c s
def jW(o:Addr->Option HO)(H:Hp):Hp:=fun a=>match o a with
 |some u=>some u
 |none=>H a
theorem fH{a:Addr}{o:Addr->Option HO}(h:o a=some u):jW o H a=some u:=by unfold jW;rw[h]
theorem cU{a:Addr}{o:Addr->Option HO}(h:o a=none):jW o H a=H a:=by unfold jW;rw[h]
def QF(S:LS)(B:B0)(c:S.cs):B0:=⟨B.F,jW (S.ov c) B.H⟩
structure Ln(S:LS)(K:PySem.W.Frag)(B:B0)(F:Hp)(c:S.cs)(s:S.ds):Prop where
 st:∀a u,S.ov c a=some u->B.H a=some u
 fr:∀a u,S.ov c a=some u->B.F a=none
 rep:S.rep K F c s
section
variable {S:LS}{K:PySem.W.Frag}{c c1 c2:S.cs}{s s1 s2:S.ds}
theorem QF.same{B:B0}(h:∀a u,S.ov c a=some u->B.H a=some u):QF S B c=B:=by
 have:jW (S.ov c) B.H=B.H:=funext fun a=>by
  cases e:S.ov c a with
  |none=>exact cU e
  |some u=>rw[fH e,h a u e]
 show(⟨B.F,jW (S.ov c) B.H⟩:B0)=B
 rw[this]
theorem QF.up:QF S (QF S B c) c1=QF S B c1:=by
 have:jW (S.ov c1) (jW (S.ov c) B.H)=jW (S.ov c1) B.H:=funext fun a=>by
  cases e:S.ov c1 a with
  |some u=>rw[fH e,fH e]
  |none=>rw[cU e,cU e,cU (S.Wu c1 c a e)]
 show(⟨B.F,jW (S.ov c1) (jW (S.ov c) B.H)⟩:B0)=⟨B.F,jW (S.ov c1) B.H⟩
 rw[this]
theorem LS.has{a:Addr}(h:S.ov c1 a=some u)(c:S.cs):∃v,S.ov c a=some v:=by
 cases e:S.ov c a with
 |some v=>exact⟨v,rfl⟩
 |none=>rw[S.Wu c c1 a e] at h;cases h
theorem Ln.free{a:Addr}(l:Ln S K B F c s)(x:Ext B F H)(h:S.ov c1 a=some u):F a=none:=by
 obtain⟨v,hv⟩:=LS.has h c
 cases e:F a with
 |none=>rfl
 |some o=>
  rcases x.nw a (by rw[e];exact cy o) with z | z
  ·exact absurd (l.fr a v hv) z
  ·rw[l.st a v hv] at z;cases z
theorem Ln.up(l:Ln S K B F c s)(r:S.rep K F1 c1 s1):Ln S K (QF S B c1) F1 c1 s1:=⟨fun a u h=>fH h,fun a u h=>by obtain⟨v,hv⟩:=LS.has h c;exact l.fr a v hv,r⟩
theorem Ln.ext{H:Hp}(l:Ln S K B F c s)(x:Ext ⟨F,H⟩ F' H'):Ln S K B F' c s:=⟨l.st,l.fr,S.mono x.sf l.rep⟩
theorem Ok.Uh(k:Ok K B F H σ ρ)(l:Ln S K B F c s):Ok K (QF S B c1) F (jW (S.ov c1) H) σ ρ:=by
 have hf:∀a u,S.ov c1 a=some u->F a=none:=fun a u h=>l.free k.toExt h
 have ho:∀a,B.H a=none->S.ov c1 a=none:=fun a h=>by
  cases e:S.ov c1 a with
  |none=>rfl
  |some u=>obtain⟨v,hv⟩:=LS.has e c;rw[l.st a v hv] at h;cases h
 refine⟨⟨fun b u q=>?_,fun b u q=>?_,k.sf,fun a q=>?_⟩,k.len,k.vals,fun i ys h=>?_,k.dist,⟨fun i kvs h=>?_,k.QM.SI⟩⟩
 ·cases e:S.ov c1 b with
  |some v=>rw[hf b v e] at q;cases q
  |none=>rw[cU e];exact k.sub b u q
 ·have q':jW (S.ov c1) B.H b=some u:=q
  cases e:S.ov c1 b with
  |some v=>rw[fH e] at q' ⊢;exact q'
  |none=>rw[cU e] at q' ⊢;exact k.sh b u q'
 ·rcases k.nw a q with z | z
  ·exact .inl z
  ·refine .inr ?_
   show jW (S.ov c1) B.H a=none
   rw[cU (ho a z)];exact z
 ·obtain⟨a,vs,h1,h2,h3,h4,h5⟩:=k.Rj i ys h
  have e:=ho a h4
  exact⟨a,vs,h1,by rw[cU e];exact h2,h3,by show jW (S.ov c1) B.H a=none;rw[cU e];exact h4,h5⟩
 ·obtain⟨a,es,h1,h2,h3,h4,h5⟩:=k.QM.SG i kvs h
  have e:=ho a h4
  exact⟨a,es,h1,by rw[cU e];exact h2,h3,by show jW (S.ov c1) B.H a=none;rw[cU e];exact h4,h5⟩
theorem Ok.Rz(k:Ok K B F H σ ρ)(l:Ln S K B F c s)(x:Ext (QF S ⟨F,H⟩ c1) F1 H1):Ok K (QF S B c1) F1 H1 σ ρ:=(k.Uh l).ext x
theorem G7{H:Hp}(x:Ext (QF S ⟨F,H⟩ c1) F1 H1)(hf:∀a u,S.ov c1 a=some u->F a=none)(h:S.ov c2 a=some u):F1 a=none:=by
 obtain⟨v,hv⟩:=LS.has h c1
 cases e:F1 a with
 |none=>rfl
 |some o=>
  rcases x.nw a (by rw[e];exact cy o) with z | z
  ·exact absurd (hf a v hv) z
  ·have z':jW (S.ov c1) H a=none:=z
   rw[fH hv] at z';cases z'
theorem Ext.reZ{H:Hp}(x:Ext (QF S ⟨F,H⟩ c1) F1 H1)(hf:∀a u,S.ov c1 a=some u->F a=none):Ext (QF S ⟨F,H⟩ c2) F1 (jW (S.ov c2) H1):=by
 refine⟨fun b u z=>?_,fun b u z=>?_,x.sf,fun a z=>?_⟩
 ·cases e:S.ov c2 b with
  |some v=>rw[G7 x hf e] at z;cases z
  |none=>rw[cU e];exact x.sub b u z
 ·have z':jW (S.ov c2) H b=some u:=z
  cases e:S.ov c2 b with
  |some v=>rw[fH e] at z' ⊢;exact z'
  |none=>
   rw[cU e] at z' ⊢
   exact x.sh b u (by show jW (S.ov c1) H b=some u;rw[cU (S.Wu c2 c1 b e)];exact z')
 ·rcases x.nw a z with y | y
  ·exact .inl y
  ·refine .inr ?_
   have y':jW (S.ov c1) H a=none:=y
   show jW (S.ov c2) H a=none
   cases e:S.ov c1 a with
   |some v=>rw[fH e] at y';cases y'
   |none=>rw[cU e] at y';rw[cU (S.Wu c1 c2 a e)];exact y'
theorem Ext.tZ{H:Hp}(x:Ext (QF S ⟨F,H⟩ c1) F1 H1)(hf:∀a u,S.ov c1 a=some u->F a=none)(y:Ext (QF S ⟨F1,H1⟩ c2) F2 H2):Ext (QF S ⟨F,H⟩ c2) F2 H2:=(x.reZ hf).trans y
theorem Ext.WE{H:Hp}(x:Ext ⟨F,H⟩ F1 H1)(h:∀a u,S.ov c a=some u->H a=some u):Ext (QF S ⟨F,H⟩ c) F1 H1:=by rw[QF.same (B:=⟨F,H⟩) h];exact x
theorem Ln.now(l:Ln S K B F c s)(k:Ok K B F H σ ρ):∀a u,S.ov c a=some u->H a=some u:=fun a u h=>k.sh _ _ (l.st a u h)
theorem Ln.ff(l:Ln S K B F c s)(k:Ok K B F H σ ρ):∀a u,S.ov c1 a=some u->F a=none:=fun a u h=>l.free k.toExt h
end
def QE(S:LS)(X:Cx)(ρ:cp)(e:Expr)(d:D)(s s':S.ds):Prop:=∀(B:B0) (F H:Hp) (σ:St) (Q:VK) (c:S.cs),Ln S X.K B F c s->Ok X.K B F H σ ρ ->
 (∀v F' H' c',Ext (QF S ⟨F,H⟩ c') F' H'->S.rep X.K F' c' s'->Rep X.K F' v d->Q v H')->wE X e σ H Q
def GN(S:LS)(X:Cx)(ρ:cp)(es:List Expr)(ds:List D)(s s':S.ds):Prop:=T6 es/\∀(B:B0) (F H:Hp) (σ:St) (Q:List V->Hp->Prop) (c:S.cs),Ln S X.K B F c s->Ok X.K B F H σ ρ ->
 (∀vs F' H' c',Ext (QF S ⟨F,H⟩ c') F' H'->S.rep X.K F' c' s'->Qq X.K F' vs ds->Q vs H')->wA X es σ H Q
def QV(S:LS)(X:Cx)(ρ:cp)(e:Expr)(b:Bool)(s s':S.ds):Prop:=∀(B:B0) (F H:Hp) (σ:St) (Q:Bool->Hp->Prop) (c:S.cs),Ln S X.K B F c s->Ok X.K B F H σ ρ ->
 (∀F' H' c',Ext (QF S ⟨F,H⟩ c') F' H'->S.rep X.K F' c' s'->Q b H')->wT X e σ H Q
def tD(S:LS)(K:PySem.W.Frag)(B:B0)(F₀:Hp)(E:kx)(s':S.ds):Out->Prop
 |.nx ρ=>∀F H σ c,Ok K (QF S B c) F H σ ρ->S.rep K F c s'->Qx F₀ F->E.nx σ H
 |.rt d=>∀v F H c,Ext (QF S B c) F H->S.rep K F c s'->Rep K F v d->E.rt v H
def Rb(S:LS)(X:Cx)(ρ:cp)(S3:List Stmt)(o:Out)(s s':S.ds):Prop:=∀(B:B0) (F H:Hp) (σ:St) (E:kx) (c:S.cs),Ln S X.K B F c s->Ok X.K B F H σ ρ->tD S X.K B F E s' o->wSs X S3 E σ H
def QX(S:LS)(X:Cx)(ρ:cp)(st:Stmt)(o:Out)(s s':S.ds):Prop:=∀(B:B0) (F H:Hp) (σ:St) (E:kx) (c:S.cs),Ln S X.K B F c s->Ok X.K B F H σ ρ->tD S X.K B F E s' o->wS X st E σ H
section
variable {S:LS}{st:Stmt}{bS:List Stmt}{s s1 s2 s':S.ds}{ds:List D}
theorem Qp.z(h:Qp X ρ e d):QE S X ρ e d s s:=fun B F H σ Q c l k w=>h B F H σ Q k fun v F' H' x r=>w v F' H' c (x.WE (l.now k)) (S.mono x.sf l.rep) r
theorem Q2.z(h:Q2 X ρ es ds):GN S X ρ es ds s s:=⟨h.1,fun B F H σ Q c l k w=>h.2 B F H σ Q k fun v F' H' x r=>w v F' H' c (x.WE (l.now k)) (S.mono x.sf l.rep) r⟩
theorem Qs.z(h:Qs X ρ e r):QV S X ρ e r s s:=fun B F H σ Q c l k w=>h B F H σ Q k fun F' H' x=>w F' H' c (x.WE (l.now k)) (S.mono x.sf l.rep)
theorem QE.eq{d':D}(h:QE S X ρ e d s s')(q:d=d'):QE S X ρ e d' s s':=q ▸ h
theorem QV.eq{r':Bool}(h:QV S X ρ e r s s')(q:r=r'):QV S X ρ e r' s s':=q ▸ h
theorem bH(h1:QE S X ρ e d s s1)(h2:GN S X ρ es ds s1 s')(hs:Pl e:=by intro _ _;rfl):GN S X ρ (e::es) (d::ds) s s':=
 ⟨⟨hs,h2.1⟩,fun B F H σ Q c l k w=>.mk fun pos pins st I=>bo aV nI (hs _ _) pos pins st σ H Q I (h1 B F H σ _ c l k fun v F1 H1 c1 x1 r1 rv=>h2.2 (QF S B c1) F1 H1 σ _ c1 (l.up r1) (k.Rz l x1) fun vs F2 H2 c2 x2 r2 Vv=>w _ F2 H2 c2 (x1.tZ (l.ff k) x2) r2 (.cons (rv.mono x2.sf) Vv))⟩
theorem Lm(h:GN S X ρ es ds s s')(hl:ds.length<=sizeLine:=by exact cX rfl):QE S X ρ (.Tuple es x1 pos) (.tup ds) s s':=fun B F H σ Q c l k w=>.mk fun pins st I=>
 Bo nI pins st σ H Q I (h.2 B F H σ _ c l k fun vs F' H' c1 x r rv=>⟨by rw[rv.length];exact hl,fun p hp=>w _ _ _ c1 (x.grow hp) (S.mono (aP (x.sub.free hp)) r) (.tup aK (rv.mono (aP (x.sub.free hp))))⟩)
theorem Dt(ha:QE S X ρ a da s s1)(hb:QE S X ρ b db s1 s'){R:V->V->Hp->Prop}{c:S.cs}(l:Ln S X.K B F c s)(k:Ok X.K B F H σ ρ)(h:∀x y F' H' c',Ext (QF S ⟨F,H⟩ c') F' H'->S.rep X.K F' c' s'->Rep X.K F' x da->Rep X.K F' y db->R x y H'):wE X a σ H fun x H1=>wE X b σ H1 fun y H2=>R x y H2:=
 ha B F H σ _ c l k fun x F1 H1 c1 x1 r1 rv=>hb (QF S B c1) F1 H1 σ _ c1 (l.up r1) (k.Rz l x1) fun y F2 H2 c2 x2 r2 ry=>h x y F2 H2 c2 (x1.tZ (l.ff k) x2) r2 (rv.mono x2.sf) ry
theorem Rep.rd{X:Cx}(sub:Qx F H)(r:Rep X.K F v d):TF X H v (fg d):=fun hs H2 s2 pins σ s u I ru=>r.reads I (sub.trans s2) ru hs
theorem Mp{r:Bool}(t:At X N sc)(ha:QE S X ρ a da s s1)(hb:QE S X ρ b db s1 s')(sp:SeqAt.shaped (fg da)=true)(sq:SeqAt.shaped (fg db)=true)(hr:(fg da).eqv (fg db)=r):QV S X ρ (.Compare a [.Eq] [b] pos) r s s':=fun B F H σ Q c l k w=>.mk fun pins st I=>
 fP (Cv t sp sq) aV aV (dH _ (by decide) (by decide)) pins st σ H Q I (Dt ha hb l k fun x y F' H' c' x' r' rx ry=>⟨rx.rd x'.sub,ry.rd x'.sub,r,by rw[hr],w F' H' c' x' r'⟩)
theorem Jc{r:Bool}(t:At X N sc)(ha:QE S X ρ a da s s1)(hb:QE S X ρ b (.tup xs) s1 s')(sp:(fg da).canLay0=true)(sd:(fg da).depth<=62)(sq:PyData.canLayAll0 (QA xs)=true)(he:((QA xs).any fun y=>PyData.eqv y (fg da))=r)(hm:behindInMarks .In b=false:=by rfl):QV S X ρ (.Compare a [.In] [b] pos) r s s':=fun B F H σ Q c l k w=>.mk fun pins st I=>
 fP (Bi t sp sd sq) aV aV hm pins st σ H Q I (Dt ha hb l k fun x y F' H' c' x' r' rx ry=>⟨rx.rd x'.sub,(ry.rd x'.sub:TF X H' y (.tuple (QA xs))),r,by rw[he],w F' H' c' x' r'⟩)
theorem Ez(ha:QE S X ρ a (.int i) s s1)(hb:QE S X ρ b (.int j) s1 s'):QV S X ρ (.Compare a [.Lt] [b] pos) (decide (i<j)) s s':=fun B F H σ Q c l k w=>.mk fun pins st I=>
 fP Jo aV aV (dH _ (by decide) (by decide)) pins st σ H Q I (Dt ha hb l k fun x y F' H' c' x' r' rx ry=>by cases rx;cases ry;exact⟨i,j,rfl,rfl,_,rfl,w F' H' c' x' r'⟩)
theorem Lp(hc:QV S X ρ cd true s s1)(ha:QE S X ρ a d s1 s'):QE S X ρ (.IfExp cd a b pos) d s s':=fun B F H σ Q c l k w=>.mk fun pins st I=>
 qU lR aV aV pins st σ H Q I (hc B F H σ _ c l k fun F1 H1 c1 x1 r1=>by rw[ay rfl];exact ha (QF S B c1) F1 H1 σ _ c1 (l.up r1) (k.Rz l x1) fun v F2 H2 c2 x2 r2 rv=>w v F2 H2 c2 (x1.tZ (l.ff k) x2) r2 rv)
theorem Lq(hc:QV S X ρ cd false s s1)(hb:QE S X ρ b d s1 s'):QE S X ρ (.IfExp cd a b pos) d s s':=fun B F H σ Q c l k w=>.mk fun pins st I=>
 qU lR aV aV pins st σ H Q I (hc B F H σ _ c l k fun F1 H1 c1 x1 r1=>by rw[aq aE];exact hb (QF S B c1) F1 H1 σ _ c1 (l.up r1) (k.Rz l x1) fun v F2 H2 c2 x2 r2 rv=>w v F2 H2 c2 (x1.tZ (l.ff k) x2) r2 rv)
theorem u9{X:Cx}{c:S.cs}(l:Ln S X.K B F c s)(k:Ok X.K B F H σ ρ)(q:tD S X.K B F E s o):(∃ρ',o=.nx ρ'/\SW X.K B F E o)\/(∃d,o=.rt d/\SW X.K ⟨F,B.H⟩ F E o):=by
 cases o with
 |nx ρ'=>exact .inl ⟨ρ',rfl,fun F' H' σ' k' s'=>q F' H' σ' c (by rw[QF.same l.st];exact k') (S.mono s' l.rep) s'⟩
 |rt d=>exact .inr ⟨d,rfl,fun v F' H' x r=>q v F' H' c (by rw[QF.same l.st];exact k.toExt.UT x) (S.mono x.sf l.rep) r⟩
theorem Qr.z(h:Qr X ρ S3 o):Rb S X ρ S3 o s s:=fun B F H σ E c l k q=>by
 rcases u9 l k q with⟨_,_,z⟩ | ⟨_,_,z⟩
 ·exact h B F H σ E k z
 ·exact h ⟨F,B.H⟩ F H σ E k.now z
theorem QQ.z(h:QQ X ρ st o):QX S X ρ st o s s:=fun B F H σ E c l k q=>by
 rcases u9 l k q with⟨_,_,z⟩ | ⟨_,_,z⟩
 ·exact h B F H σ E k z
 ·exact h ⟨F,B.H⟩ F H σ E k.now z
theorem u8{X:Cx}{c:S.cs}(q:tD S X.K B F E s' o)(sf:Qx F F1):tD S X.K (QF S B c) F1 E s' o:=by
 cases o with
 |nx ρ'=>exact fun F' H' σ' c' k r s'=>q F' H' σ' c' (by rw[QF.up] at k;exact k) r (sf.trans s')
 |rt d=>exact fun v F' H' c' x r rv=>q v F' H' c' (by rw[QF.up] at x;exact x) r rv
theorem a8(h1:QX S X ρ st (.nx ρ1) s s1)(h2:Rb S X ρ1 bS o s1 s'):Rb S X ρ (st::bS) o s s':=fun B F H σ E c l k q=>.mk fun pins w I=>
 fm sv dn pins w σ H E I (h1 B F H σ _ c l k fun F1 H1 σ1 c1 k1 r1 sf=>h2 (QF S B c1) F1 H1 σ1 E c1 (l.up r1) k1 (u8 q sf))
theorem cb(h1:QX S X ρ st o s s'):Rb S X ρ [st] o s s':=fun B F H σ E c l k q=>.mk fun pins w I=>kP sv pins w σ H E I (h1 B F H σ E c l k q)
theorem nj:Rb S X ρ [] (.nx ρ) s s:=Qr.z bF
theorem Er(h1:QX S X ρ st (.rt d) s s'):Rb S X ρ (st::bS) (.rt d) s s':=fun B F H σ E c l k w=>.mk fun pins q I=>fm sv dn pins q σ H E I (h1 B F H σ _ c l k w)
theorem ji{pos:Pos}[Th X](t:At X N sc)(i:Nat)(h:QE S X ρ e d s s')(hi:N[i]?=some x:=by rfl)(hx:ku sc x=true:=by rfl)(hs:swapsWith e (some (.Name x pos')) pos.line X.env=pure false:=by rfl):
  QX S X ρ (.Assign [.Name x pos'] e pos) (.nx (ρ.set i (.val d))) s s':=fun B F H σ E c l k w=>.mk fun pins q I=>
 mw (i:=i) t.nd (t.ix hi) (t.loc hx) aV hs AZ pins q σ H E I (h B F H σ _ c l k fun v F' H' c1 x' r rv=>w F' H' _ c1 ((k.Rz l x').QN i rv) r x'.sf)
theorem uG(h:QE S X ρ e d s s'):QX S X ρ (.Return (some e) pos) (.rt d) s s':=fun B F H σ E c l k w=>.mk fun pins q I=>
 pX aV pins q σ H E I (h B F H σ _ c l k fun v F' H' c1 x' r rv=>w v F' H' c1 (k.Rz l x').toExt r rv)
theorem du{pos:Pos}(h:QE S X ρ e d s s')(SM:swapsWith e none pos.line X.env=pure false:=by rfl):QX S X ρ (.Expr e pos) (.nx ρ) s s':=fun B F H σ E c l k w=>.mk fun pins q I=>
 gY aV SM pins q σ H E I (h B F H σ _ c l k fun v F' H' c1 x' r rv=>w F' H' σ c1 (k.Rz l x') r x'.sf)
theorem pQ(hc:QV S X ρ cd true s s1)(h:Rb S X ρ ss o s1 s'):QX S X ρ (.If cd ss us pos) o s s':=fun B F H σ E c l k w=>.mk fun pins q I=>
 xi lR dn dn pins q σ H E I (hc B F H σ _ c l k fun F1 H1 c1 x1 r1=>by rw[ay rfl];exact h (QF S B c1) F1 H1 σ E c1 (l.up r1) (k.Rz l x1) (u8 w x1.sf))
theorem jZ(hc:QV S X ρ cd false s s1)(h:Rb S X ρ us o s1 s'):QX S X ρ (.If cd ss us pos) o s s':=fun B F H σ E c l k w=>.mk fun pins q I=>
 xi lR dn dn pins q σ H E I (hc B F H σ _ c l k fun F1 H1 c1 x1 r1=>by rw[aq aE];exact h (QF S B c1) F1 H1 σ E c1 (l.up r1) (k.Rz l x1) (u8 w x1.sf))
inductive Rv(S:LS)(X:Cx)(cd:Expr)(body:List Stmt):Nat->cp->S.ds->cp->S.ds->Prop where
 |stop {ρ:cp} {s s1:S.ds}:QV S X ρ cd false s s1->Rv S X cd body 0 ρ s ρ s1
 |step {n:Nat} {ρ ρ1 ρ2:cp} {s s1 s2 s3:S.ds}:QV S X ρ cd true s s1->Rb S X ρ body (.nx ρ1) s1 s2->Rv S X cd body n ρ1 s2 ρ2 s3->Rv S X cd body (n+1) ρ s ρ2 s3
theorem zo(t:At X N sc)(h:∃n,Rv S X cd body n ρ s ρ' s'):QX S X ρ (.While cd body [] pos) (.nx ρ') s s':=fun B F H σ E c l k q=>.mk fun pins w I=>
 u6 t.pass lR dn pins w σ H E I (by
  obtain⟨n,h⟩:=h
  refine⟨fun m σ H=>∃ρ1 F1 c1 s1,Ok X.K (QF S B c1) F1 H σ ρ1/\S.rep X.K F1 c1 s1/\Qx F F1/\Rv S X cd body m ρ1 s1 ρ' s',⟨n,ρ,F,c,s,by rw[QF.same l.st];exact k,l.rep,.refl _,h⟩,?_⟩
  rintro m σ H ⟨ρ1,F1,c1,s1,k1,r1,sf,run⟩
  have l1:Ln S X.K (QF S B c1) F1 c1 s1:=l.up r1
  cases run with
  |stop hc=>
   refine hc (QF S B c1) F1 H σ _ c1 l1 k1 fun F2 H2 c2 x2 r2=>?_
   rw[aq aE]
   have k2:=k1.Rz l1 x2
   rw[QF.up] at k2
   exact q F2 H2 σ c2 k2 r2 (sf.trans x2.sf)
  |@step n0 _ ρa _ _ sa sb _ hc hb r=>
   refine hc (QF S B c1) F1 H σ _ c1 l1 k1 fun F2 H2 c2 x2 r2=>?_
   rw[ay rfl]
   have k2:=k1.Rz l1 x2
   rw[QF.up] at k2
   refine⟨fun σ' H'=>∃SJ VN,Ok X.K (QF S B VN) SJ H' σ' ρa/\S.rep X.K SJ VN sb/\Qx F SJ,fun σ' H' ⟨SJ,VN,Vy,Xb,T2⟩=>⟨_,e8 _,_,SJ,VN,_,Vy,Xb,T2,r⟩,hb (QF S B c2) F2 H2 σ _ c2 (l.up r2) k2 fun F3 H3 σ3 c3 k3 r3 s3=>⟨F3,c3,?_,r3,sf.trans (x2.sf.trans s3)⟩⟩
   rw[QF.up] at k3;exact k3)
theorem Rb.weak(h:Rb S X ρ S3 (.nx ρ1) s s')(w:Su ρ1 ρ2):Rb S X ρ S3 (.nx ρ2) s s':=fun B F H σ E c l k pq=>h B F H σ E c l k fun F' H' σ' ws k' r sf=>pq F' H' σ' ws (k'.weak w) r sf
end
structure rW where
 C:Addr
 p:Addr
 dx:Addr
 q:Addr
 l:Addr
 toks:List Str
def FQ(r:rW)(n:Int):HO:=.ins r.C r.dx [("tokens",.ref r.l),("done",.int n),("steps",.ref r.q)]
def Qy(r:rW):LS where
 cs:=Int×List V
 ds:=Int×List D
 ov c a:=if a=r.p then some (FQ r c.1) else if a=r.q then some (.lst c.2) else none
 Wu c c' a h:=by
  by_cases h1:a=r.p
  ·rw[ay h1] at h;cases h
  ·rw[aq h1] at h ⊢
   by_cases h2:a=r.q
   ·rw[ay h2] at h;cases h
   ·rw[aq h2]
 rep K F c s:=c.1=s.1/\Qq K F c.2 s.2/\F r.l=some (.lst (r.toks.map V.str))
 mono:=fun sf h=>⟨h.1,h.2.1.mono sf,sf _ _ h.2.2⟩
structure k8(K:PySem.W.Frag)(r:rW):Prop where
 cls:US K r.C
 n1:QK K r.C "tokens"
 n2:QK K r.C "done"
 n3:QK K r.C "steps"
 ne:r.q≠r.p
theorem xg{K:PySem.W.Frag}:∀ts:List Str,Qq K F (ts.map V.str) (ts.map D.str)
 |[]=>.nil
 |t::ts=>.cons (.str t) (xg ts)
section
variable {ds:List D}
theorem Qy.Vg{c:Int×List V}:(Qy r).ov c r.p=some (FQ r c.1):=ay rfl
theorem Qy.Vm{r:rW}(ok:r.q≠r.p){c:Int×List V}:(Qy r).ov c r.q=some (.lst c.2):=by
 show(if r.q=r.p then _ else if r.q=r.q then _ else _)=_
 rw[aq ok,ay rfl]
theorem Ea{i:Nat}{Q:VK}{ρ:cp}(t:At X N sc)(hr:ρ[i]?=some (.val (.adr q)))(hN:N[i]?=some x)(hv:dW sc x=true)(hx:cg x=true)(k:Ok X.K B F H σ ρ)(h:Q (.ref q) H):wE X (.Name x py) σ H Q:=.mk fun pins s I=>by
 obtain⟨v,h1,h2⟩:=k.vals i _ hr
 cases h2
 exact su t hN hv hx pins s σ H Q I ⟨_,h1,h⟩
theorem ul{ρ:cp}(t:At X N sc)(ok:k8 X.K r)(i:Nat){s:Int×List D}(hr:ρ[i]?=some (.val (.adr r.p)))(hN:N[i]?=some x:=by rfl)(hv:dW sc x=true:=by rfl)(hx:cg x=true:=by rfl)(hb:attributeBase (.Name x py) "tokens" X.env (eval (.Name x py) X.env)=eval (.Name x py) X.env:=by rfl):
  QE (Qy r) X ρ (.Attribute (.Name x py) "tokens" pos) (.lst (r.toks.map D.str)) s s:=fun B F H σ Q c l k w=>.mk fun pins st I=>
 vc aV hb pins st σ H Q I (Ea t hr hN hv hx k ⟨r.p,r.C,r.dx,_,.ref r.l,rfl,l.now k _ _ Qy.Vg,ok.cls,ok.n1,rfl,w _ F H c ((Ext.refl k.sub).WE (l.now k)) l.rep (.lst l.rep.2.2 (xg _))⟩)
theorem um{ρ:cp}(t:At X N sc)(ok:k8 X.K r)(i:Nat){s:Int×List D}(hr:ρ[i]?=some (.val (.adr r.p)))(hN:N[i]?=some x:=by rfl)(hv:dW sc x=true:=by rfl)(hx:cg x=true:=by rfl)(hb:attributeBase (.Name x py) "done" X.env (eval (.Name x py) X.env)=eval (.Name x py) X.env:=by rfl):
  QE (Qy r) X ρ (.Attribute (.Name x py) "done" pos) (.int s.1) s s:=fun B F H σ Q c l k w=>.mk fun pins st I=>
 vc aV hb pins st σ H Q I (Ea t hr hN hv hx k ⟨r.p,r.C,r.dx,_,.int c.1,rfl,l.now k _ _ Qy.Vg,ok.cls,ok.n2,rfl,w _ F H c ((Ext.refl k.sub).WE (l.now k)) l.rep (by rw[l.rep.1];exact .int _)⟩)
theorem Kr{H:Hp}{r:rW}{c c':Int×List V}(ok:r.q≠r.p)(h:∀a u,(Qy r).ov c a=some u->H a=some u)(hc:c'.2=c.2):jW ((Qy r).ov c') H=cA H r.p (FQ r c'.1):=funext fun a=>by
 by_cases h1:a=r.p
 ·subst h1;rw[fH Qy.Vg,aK]
 ·rw[aJ h1]
  by_cases h2:a=r.q
  ·subst h2;rw[fH (Qy.Vm ok),h _ _ (Qy.Vm ok),hc]
  ·exact cU (show(if a=r.p then _ else if a=r.q then _ else _)=_ by rw[aq h1,aq h2])
theorem Fq{H:Hp}{r:rW}{c c':Int×List V}(ok:r.q≠r.p)(h:∀a u,(Qy r).ov c a=some u->H a=some u)(hc:c'.1=c.1):jW ((Qy r).ov c') H=cA H r.q (.lst c'.2):=funext fun a=>by
 by_cases h1:a=r.p
 ·subst h1;rw[fH Qy.Vg,aJ (Ne.symm ok),h _ _ Qy.Vg,hc]
 ·by_cases h2:a=r.q
  ·subst h2;rw[fH (Qy.Vm ok),aK]
  ·rw[aJ h2]
   exact cU (show(if a=r.p then _ else if a=r.q then _ else _)=_ by rw[aq h1,aq h2])
theorem HB{ρ:cp}(t:At X N sc)(ok:k8 X.K r)(i:Nat)(hr:ρ[i]?=some (.val (.adr r.p)))(he:Qp X ρ e (.int m))(hN:N[i]?=some x:=by rfl)(hv:dW sc x=true:=by rfl)(hx:cg x=true:=by rfl):
  QX (Qy r) X ρ (.AugAssign (.Attribute (.Name x py) "done" ps) .Add e pos) (.nx ρ) (n,xs) (n+m,xs):=fun B F H σ E c l k w=>.mk fun pins st I=>
 DI (op:=.Add) (rd:=OB) aV aV (fun pins s σ H x y u v Q I rx ry h=>by
  obtain⟨i,j,rfl,rfl,q⟩:=h
  obtain⟨t1,rfl⟩:=rx
  obtain⟨t2,rfl⟩:=ry
  exact iadd_int ⟨.int (i+j),H,I.tok _,⟨_,rfl⟩,q⟩) pins st σ H E I (Ea t hr hN hv hx k ⟨r.p,r.C,r.dx,_,.int c.1,rfl,l.now k _ _ Qy.Vg,ok.cls,ok.n2,rfl,he B F H σ _ k fun v F1 H1 x1 r1=>by
   cases r1
   have k1:=k.ext x1
   have l1:Ln (Qy r) X.K B F1 c (n,xs):=l.ext x1
   refine⟨c.1,m,rfl,rfl,r.dx,_,l1.now k1 _ _ Qy.Vg,cX rfl,?_⟩
   have e1:c.1=n:=l.rep.1
   have hq:=w F1 (jW ((Qy r).ov (c.1+m,c.2)) H1) σ (c.1+m,c.2) (k1.Uh l1) ⟨by rw[e1],l1.rep.2⟩ x1.sf
   rw[Kr (c:=c) (c':=(c.1+m,c.2)) ok.ne (l1.now k1) rfl] at hq
   exact hq⟩)
theorem kO{ρ:cp}{pos:Pos}{apos:Pos}{Qt:Pos}(t:At X N sc)(ok:k8 X.K r)(i:Nat){s s1:Int×List D}(hr:ρ[i]?=some (.val (.adr r.p)))(he:QE (Qy r) X ρ e d s s1)(hz:s1.2.length<sizeLine)(hN:N[i]?=some x:=by rfl)(hv:dW sc x=true:=by rfl)(hx:cg x=true:=by rfl)(hb:attributeBase (.Name x py) "steps" X.env (eval (.Name x py) X.env)=eval (.Name x py) X.env:=by rfl)(hb2:attributeBase (.Attribute (.Name x py) "steps" ps) "append" X.env (eval (.Attribute (.Name x py) "steps" ps) X.env)=eval (.Attribute (.Name x py) "steps" ps) X.env:=by rfl)(hs:starEach [e] X.env=(false,eval e X.env)::starEach [] X.env:=by rfl)(hline:(apos.endLine==Qt.line)=true:=by rfl)(Sf:(backTo Qt (starEach [] X.env)).any (·.1)=false:=by rfl)(Rx:((backTo Qt (starEach [e] X.env)).all (fun x=>!x.1)&&(backToKw Qt (keywordEach [] X.env)).all (fun x=>x.1.isSome)&&decide (([e]:List Expr).length+([]:List Keyword).length+(if ([]:List Keyword).isEmpty then 0 else 1)<30))=true:=by rfl)(SM:swapsWith (.Call (.Attribute (.Attribute (.Name x py) "steps" ps) "append" apos) [e] [] Qt) none pos.line X.env=pure false:=by rfl):
  QX (Qy r) X ρ (.Expr (.Call (.Attribute (.Attribute (.Name x py) "steps" ps) "append" apos) [e] [] Qt) pos) (.nx ρ) s (s1.1,s1.2++[d]):=fun B F H σ E c l k w=>.mk fun pins st I=>
 gY (qV bM jS jR lU (vc aV hb) (bo aV cO hs) hb2 Rx hline hs Sf) SM pins st σ H E I
  (Ea t hr hN hv hx k ⟨r.p,r.C,r.dx,_,.ref r.q,rfl,l.now k _ _ Qy.Vg,ok.cls,ok.n3,rfl,.inl ⟨rfl,_,Q1.of (l.now k _ _ (Qy.Vm ok.ne))⟩,he B F H σ _ c l k fun v F1 H1 c1 x1 r1 rv=>by
   have k1:=k.Rz l x1
   have l1:Ln (Qy r) X.K (QF (Qy r) B c1) F1 c1 s1:=l.up r1
   refine⟨r.q,c1.2,v,rfl,rfl,l1.now k1 _ _ (Qy.Vm ok.ne),by rw[r1.2.1.length];exact hz,?_⟩
   have k2:Ok X.K (QF (Qy r) (QF (Qy r) B c1) (c1.1,c1.2++[v])) F1 (jW ((Qy r).ov (c1.1,c1.2++[v])) H1) σ ρ:=k1.Uh l1
   have e1:QF (Qy r) (QF (Qy r) B c1) (c1.1,c1.2++[v])=QF (Qy r) B (c1.1,c1.2++[v]):=QF.up (S:=Qy r)
   rw[e1,Fq (c:=c1) (c':=(c1.1,c1.2++[v])) ok.ne (l1.now k1) rfl] at k2
   exact w F1 _ σ (c1.1,c1.2++[v]) k2 ⟨r1.1,r1.2.1.append (.cons rv .nil),r1.2.2⟩ x1.sf⟩)
end
section
variable {S:LS}{s s1 s':S.ds}
theorem BF(t:At X N sc)(bl:pi X sc x (.builtin "len"))(ha:QE S X ρ e (.lst xs) s s')(RZ:Pl e:=by intro _ _;rfl):QE S X ρ (.Call (.Name x p) [e] [] pos) (.int xs.length) s s':=fun B F H σ Q c l k w=>.mk fun pins st I=>
 j7 rQ (dA t bl.g) bl.m bl.v (bo aV cO (RZ _ _)) bl.n bl.d (RZ _ _) rfl pins st σ H Q I (ha B F H σ _ c l k fun v F1 H1 c1 x1 r1 rv=>by
  cases rv with
  |lst hf rl=>exact⟨_,_,rfl,.inl (Q1.of (x1.sub _ _ hf)),by rw[rl.length];exact w _ F1 H1 c1 x1 r1 (.int _)⟩)
theorem Lo(ha:QE S X ρ a (.lst xs) s s1)(hb:QE S X ρ b (.int i) s1 s')(h:l8 xs i=some d)(hs:iV b:=by intro _ _;rfl):QE S X ρ (.Subscript a b pos) d s s':=fun B F H σ Q c l k w=>.mk fun pins st I=>
 vb CS aV aV hs pins st σ H Q I (Dt ha hb l k fun x y F' H' c' x' r' rx ry=>by
  cases ry
  cases rx with
  |lst hf rl=>
   obtain⟨z,h1,h2⟩:=rl.at h
   exact⟨_,_,i,z,rfl,rfl,Q1.of (x'.sub _ _ hf),h1,w z F' H' c' x' r' h2⟩)
end
def MH(K:PySem.W.Frag)(C:List Str->List D->Int×List D->D->Int×List D->Prop):Sp:=fun vs H Q _=>∃(r:rW) (F:Hp) (ds:List D) (d:D) (c:Int×List V) (s s':Int×List D),Qx F H/\k8 K r/\(∀a u,(Qy r).ov c a=some u->H a=some u)/\(∀a u,(Qy r).ov c a=some u->F a=none)/\(Qy r).rep K F c s/\Qq K F vs (.adr r.p::ds)/\C r.toks ds s d s' /\
 ∀v F' H' c',Ext (QF (Qy r) ⟨F,H⟩ c') F' H'->(Qy r).rep K F' c' s'->Rep K F' v d->Q v H'
def Qu(X:Cx)(x:Str)(C:List Str->List D->Int×List D->D->Int×List D->Prop):Prop:=∃(f:Addr) (fd:FuncData) (ps:List Str) (k:Nat),dJ X.prog X.w X.K X.mg X.base gH k f fd ps (MH X.K C)/\QR k X.A/\X.mg x=some (.ref f)/\PySem.W.keepIn X.K (.ref f)=true/\Binds X.K fd ps []
section
variable {ds:List D}{s s1 s':Int×List D}
theorem Lg{P:Program}(Ra:P.given.tree=none){w:World}{K:PySem.W.Frag}{mg:Str->Option Value}{base:Heap}{x qual:Str}{st:Stmt}{f:Addr}{fd:FuncData}{N ps:List Str}{k:Nat}{C:List Str->List D->Int×List D->D->Int×List D->Prop}(F:Um K x qual st f fd)(S:aR N ps (ai st))(len:∀ts ds s d s',C ts ds s d s'->ds.length+1=ps.length)(body:∀X,DefX P w K mg base k N (ai st) X->∀(r:rW),k8 X.K r->∀ds s d s',C r.toks ds s d s'->Rb (Qy r) X (.val (.adr r.p)::ds.map Sl.val++List.replicate (N.length-(ds.length+1)) Sl.un) (bw st) (.rt d) s s'\/(d=.QO/\∃ρ',Rb (Qy r) X (.val (.adr r.p)::ds.map Sl.val++List.replicate (N.length-(ds.length+1)) Sl.un) (bw st) (.nx ρ') s s')):dJ P w K mg base gH (k+1) f fd ps (MH K C):=by
 refine F.ok S (fun vs H Q E h=>?_) (fun Q3 A outer s H vs Q E hr h=>?_)
 ·obtain⟨r,F',ds,d,c,s,s',sub,ok,h1,h2,h3,rv,hC,q⟩:=h
  rw[rv.length];exact len r.toks ds s d s' hC
 ·obtain⟨r,F',ds,d,c,s1,s',sub,ok,h1,h2,h3,rv,hC,q⟩:=h
  refine⟨_,dn,?_⟩
  have hx:DefX P w K mg base k N (ai st) (qa gH P w K mg base N qual (ai st) f Q3 A outer s H E).Tx:=
   ⟨⟨rfl,rfl,rfl,S.nd,rfl,hr.units,hr.Ss,Ra,⟨_,_,rfl,S.gen,S.co,rfl,rfl⟩⟩,rfl,rfl,rfl,rfl,rfl,hr,⟨fun _=>rfl⟩,rfl,rfl⟩
  have hk:Ok K ⟨F',H⟩ F' H (start N vs) (.val (.adr r.p)::ds.map Sl.val++List.replicate (N.length-(ds.length+1)) Sl.un):=by
   unfold start
   rw[rv.length]
   exact i9 sub rv _
  rcases body _ hx r ok ds s1 d s' hC with hb | ⟨rfl,ρ',hb⟩
  ·exact hb ⟨F',H⟩ F' H _ _ c ⟨h1,h2,h3⟩ hk fun v F2 H2 c2 x2 r2 rv=>q v F2 H2 c2 x2 r2 rv
  ·exact hb ⟨F',H⟩ F' H _ _ c ⟨h1,h2,h3⟩ hk fun F2 H2 σ2 c2 k2 r2 s2=>q .QO F2 H2 c2 k2.toExt r2 .QO
theorem DefX.VL{K:PySem.W.Frag}{x:Str}{C:List Str->List D->Int×List D->D->Int×List D->Prop}(h:DefX P w K mg base k N sc X)(F:dJ P w K mg base gH j f fd ps (MH K C))(hj:j<=k)(hm:mg x=some (.ref f))(hk:PySem.W.keepIn K (.ref f)=true)(hb:Binds K fd ps []):Qu X x C:=by
 obtain⟨h0,rfl,rfl,rfl,rfl,rfl,hr,_⟩:=h
 exact⟨f,fd,ps,j,F,hr.mono hj,hm,hk,hb⟩
theorem bQ(t:At X N sc)(ok:k8 X.K r){C:List Str->List D->Int×List D->D->Int×List D->Prop}(h:Qu X x C)(ha:GN (Qy r) X ρ (e::es) (.adr r.p::ds) s s1)(hC:C r.toks ds s1 d s')(hg:sc.names.lookup x=some .globalImplicit:=by rfl)(Rr:(x==("__debug__" : Str))=false:=by rfl):
  QE (Qy r) X ρ (.Call (.Name x p) (e::es) [] pos) d s s':=fun B F0 H σ Q c l k w=>.mk fun pins st I=>by
 obtain⟨f,fd,ps,kk,F,Uc,hm,hk,hb⟩:=h
 have pz:gc gH X E0:=nH
 refine iS F Uc (dA t hg) hm hk hb .nil pz nI Rr (ha.1.1 _ _) (T6.any ha.1.2) pins st σ H Q I (ha.2 B F0 H σ _ c l k fun vs F1 H1 c1 x1 r1 rv=>?_)
 have k1:=k.Rz l x1
 have l1:Ln (Qy r) X.K (QF (Qy r) B c1) F1 c1 s1:=l.up r1
 refine⟨r,F1,ds,d,c1,s1,s',k1.sub,ok,l1.now k1,l1.ff k1,r1,by rw[aU];exact rv,hC,fun v F2 H2 c2 x2 r2 UD=>w v F2 H2 c2 (x1.tZ (l.ff k) x2) r2 UD⟩
end
section
variable {S:LS}{K:PySem.W.Frag}{c c1:S.cs}
theorem Ok.pin(k:Ok K B F H σ ρ)(hb:∀a u,S.ov c a=some u->B.H a=none)(hh:∀a u,S.ov c a=some u->H a=some u)(hf:∀a u,S.ov c a=some u->F a=none)(ho:∀(i:Nat) xs a,ρ[i]?=some (.own xs)->σ[i]?=some (some (.ref a))->S.ov c a=none)(hd:∀(i:Nat) xs a,ρ[i]?=some (.RC xs)->σ[i]?=some (some (.ref a))->S.ov c a=none):Ok K (QF S B c) F H σ ρ:=by
 refine⟨⟨k.sub,fun b u q=>?_,k.sf,fun a q=>?_⟩,k.len,k.vals,fun i ys h=>?_,k.dist,⟨fun i kvs h=>?_,k.QM.SI⟩⟩
 ·have q':jW (S.ov c) B.H b=some u:=q
  cases e:S.ov c b with
  |some v=>rw[fH e] at q';cases q';exact hh b _ e
  |none=>rw[cU e] at q';exact k.sh b u q'
 ·rcases k.nw a q with z | z
  ·exact .inl z
  ·refine .inr ?_
   show jW (S.ov c) B.H a=none
   cases e:S.ov c a with
   |some v=>exact absurd (hf a v e) q
   |none=>rw[cU e];exact z
 ·obtain⟨a,vs,h1,h2,h3,h4,h5⟩:=k.Rj i ys h
  exact⟨a,vs,h1,h2,h3,by show jW (S.ov c) B.H a=none;rw[cU (ho i ys a h h1)];exact h4,h5⟩
 ·obtain⟨a,es,h1,h2,h3,h4,h5⟩:=k.QM.SG i kvs h
  exact⟨a,es,h1,h2,h3,by show jW (S.ov c) B.H a=none;rw[cU (hd i kvs a h h1)];exact h4,h5⟩
theorem Ext.W3(x:Ext (QF S B c1) F H)(hb:∀a u,S.ov c1 a=some u->B.H a=none):Ext B F H:=by
 refine⟨x.sub,fun b u q=>?_,x.sf,fun a q=>?_⟩
 ·refine x.sh b u ?_
  show jW (S.ov c1) B.H b=some u
  cases e:S.ov c1 b with
  |some v=>rw[hb b v e] at q;cases q
  |none=>rw[cU e];exact q
 ·rcases x.nw a q with z | z
  ·exact .inl z
  ·refine .inr ?_
   have z':jW (S.ov c1) B.H a=none:=z
   cases e:S.ov c1 a with
   |some v=>rw[fH e] at z';cases z'
   |none=>rw[cU e] at z';exact z'
end
def O5(K:PySem.W.Frag)(F H F' H':Hp)(r:rW):Prop:=k8 K r/\Ext ⟨F,H⟩ F' H'/\H r.p=none/\H r.q=none/\H' r.p=some (FQ r 0)/\H' r.q=some (.lst [])/\F' r.p=none/\F' r.q=none/\F' r.l=some (.lst (r.toks.map V.str))
def Hj(K:PySem.W.Frag)(C:List D->List Str->Prop):Sp:=fun vs H Q _=>∃F ds toks,Qx F H/\Qq K F vs ds/\C ds toks/\∀r F' H',r.toks=toks->O5 K F H F' H' r->Q (.ref r.p) H'
def Sx(X:Cx)(x:Str)(C:List D->List Str->Prop):Prop:=∃(f:Addr) (fd:FuncData) (ps:List Str) (k:Nat),dJ X.prog X.w X.K X.mg X.base gH k f fd ps (Hj X.K C)/\QR k X.A/\X.mg x=some (.ref f)/\PySem.W.keepIn X.K (.ref f)=true/\Binds X.K fd ps []
def xH(X:Cx)(ρ:cp)(S3:List Stmt)(toks:List Str):Prop:=∀(B:B0) (F H:Hp) (σ:St) (E:kx),Ok X.K B F H σ ρ->(∀r F' H',r.toks=toks->k8 X.K r->Ext B F' H'->B.H r.p=none->B.H r.q=none->H' r.p=some (FQ r 0)->H' r.q=some (.lst [])->F' r.p=none->F' r.q=none->F' r.l=some (.lst (toks.map V.str))->E.rt (.ref r.p) H')->wSs X S3 E σ H
section
variable {ds:List D}{st:Stmt}{bS:List Stmt}
theorem rL(h1:QQ X ρ st (.nx ρ'))(h2:xH X ρ' bS toks):xH X ρ (st::bS) toks:=fun B F H σ E k q=>.mk fun pins s I=>
 fm sv dn pins s σ H E I (h1 B F H σ _ k fun F1 H1 σ1 k1 s1=>h2 B F1 H1 σ1 E k1 q)
theorem Il{P:Program}(Ra:P.given.tree=none){w:World}{K:PySem.W.Frag}{mg:Str->Option Value}{base:Heap}{x qual:Str}{st:Stmt}{f:Addr}{fd:FuncData}{N ps:List Str}{k:Nat}{C:List D->List Str->Prop}(F:Um K x qual st f fd)(S:aR N ps (ai st))(len:∀ds ts,C ds ts->ds.length=ps.length)(body:∀X,DefX P w K mg base k N (ai st) X->∀ds ts,C ds ts->xH X (ds.map Sl.val++List.replicate (N.length-ds.length) Sl.un) (bw st) ts):dJ P w K mg base gH (k+1) f fd ps (Hj K C):=by
 refine F.ok S (fun vs H Q E h=>?_) (fun Q3 A outer s H vs Q E hr h=>?_)
 ·obtain⟨F',ds,ts,sub,rv,hC,q⟩:=h
  rw[rv.length];exact len ds ts hC
 ·obtain⟨F',ds,ts,sub,rv,hC,q⟩:=h
  refine⟨_,dn,?_⟩
  have hx:DefX P w K mg base k N (ai st) (qa gH P w K mg base N qual (ai st) f Q3 A outer s H E).Tx:=
   ⟨⟨rfl,rfl,rfl,S.nd,rfl,hr.units,hr.Ss,Ra,⟨_,_,rfl,S.gen,S.co,rfl,rfl⟩⟩,rfl,rfl,rfl,rfl,rfl,hr,⟨fun _=>rfl⟩,rfl,rfl⟩
  have hb:=body _ hx ds ts hC
  have hk:Ok K ⟨F',H⟩ F' H (start N vs) (ds.map Sl.val++List.replicate (N.length-ds.length) Sl.un):=by
   unfold start
   rw[rv.length]
   exact i9 sub rv _
  exact hb ⟨F',H⟩ F' H _ _ hk fun r F2 H2 e ok x2 h1 h2 h3 h4 h5 h6 h7=>q r F2 H2 e ⟨ok,x2,h1,h2,h3,h4,h5,h6,by rw[e];exact h7⟩
theorem DefX.Vc{K:PySem.W.Frag}{x:Str}{C:List D->List Str->Prop}(h:DefX P w K mg base k N sc X)(F:dJ P w K mg base gH j f fd ps (Hj K C))(hj:j<=k)(hm:mg x=some (.ref f))(hk:PySem.W.keepIn K (.ref f)=true)(hb:Binds K fd ps []):Sx X x C:=by
 obtain⟨h0,rfl,rfl,rfl,rfl,rfl,hr,_⟩:=h
 exact⟨f,fd,ps,j,F,hr.mono hj,hm,hk,hb⟩
theorem IF{pos:Pos}[Th X](t:At X N sc)(i:Nat){C:List D->List Str->Prop}(h:Sx X x C)(ha:Q2 X ρ (e::es) ds)(hC:C ds toks)(TN:∀r:rW,k8 X.K r->r.toks=toks->∃s',Rb (Qy r) X (ρ.set i (.val (.adr r.p))) bS (.rt d) (0,[]) s')(hg:sc.names.lookup x=some .globalImplicit:=by rfl)(Rr:(x==("__debug__" : Str))=false:=by rfl)(hi:N[i]?=some y:=by rfl)(hx:ku sc y=true:=by rfl)(hs:swapsWith (.Call (.Name x p) (e::es) [] Qt) (some (.Name y pos')) pos.line X.env=pure false:=by rfl):
  Qr X ρ (.Assign [.Name y pos'] (.Call (.Name x p) (e::es) [] Qt) pos::bS) (.rt d):=fun B F0 H σ E k w=>.mk fun pins s I=>by
 obtain⟨f,fd,ps,kk,F,Uc,hm,hk,hb⟩:=h
 have pz:gc gH X E0:=nH
 refine fm sv dn pins s σ H E I (.mk fun pins s I=>mw (i:=i) t.nd (t.ix hi) (t.loc hx) (iS F Uc (dA t hg) hm hk hb .nil pz nI Rr (ha.1.1 _ _) (T6.any ha.1.2)) hs AZ pins s σ H _ I (ha.2 B F0 H σ _ k fun vs F1 H1 x1 r1=>?_))
 refine⟨F1,ds,toks,x1.sub,by rw[aU];exact r1,hC,fun r F2 H2 et nr=>?_⟩
 obtain⟨ok,x2,n1,n2,h1,h2,f1,f2,hl⟩:=nr
 have k1:=k.ext x1
 have k2:=(k1.ext x2).QN i (.adr r.p:Rep X.K F2 (.ref r.p) (.adr r.p))
 have dm:∀a u,(Qy r).ov ((0:Int),([]:List V)) a=some u->H1 a=none/\H2 a=some u/\F2 a=none:=fun a u z=>by
  by_cases e1:a=r.p
  ·subst e1;rw[Qy.Vg] at z;cases z;exact⟨n1,h1,f1⟩
  ·by_cases e2:a=r.q
   ·subst e2;rw[Qy.Vm ok.ne] at z;cases z;exact⟨n2,h2,f2⟩
   ·rw[show(Qy r).ov ((0:Int),([]:List V)) a=none from(show(if a=r.p then _ else if a=r.q then _ else _)=_ by rw[aq e1,aq e2])] at z;cases z
 have hb0:∀(c:(Qy r).cs) a u,(Qy r).ov c a=some u->B.H a=none:=fun c a u z=>by
  obtain⟨v,hv⟩:=LS.has z ((0:Int),([]:List V))
  exact k1.sh.free (dm a v hv).1
 have no:∀(j:Nat) xs a,(ρ.set i (.val (.adr r.p)))[j]?=some (.own xs)->(σ.set i (some (.ref r.p)))[j]?=some (some (.ref a))->(Qy r).ov ((0:Int),([]:List V)) a=none:=fun j xs a q1 q2=>by
  obtain⟨Tz,WI⟩:=kX j _ q1 (fun z=>nomatch z)
  rw[av Tz] at q2
  obtain⟨a',vs',g1,g2,_⟩:=k1.Rj j xs WI
  rw[g1] at q2;cases q2
  cases e:(Qy r).ov ((0:Int),([]:List V)) a with
  |none=>rfl
  |some u=>rw[(dm a u e).1] at g2;cases g2
 have nd:∀(j:Nat) xs a,(ρ.set i (.val (.adr r.p)))[j]?=some (.RC xs)->(σ.set i (some (.ref r.p)))[j]?=some (some (.ref a))->(Qy r).ov ((0:Int),([]:List V)) a=none:=fun j xs a q1 q2=>by
  obtain⟨Tz,WI⟩:=kX j _ q1 (fun z=>nomatch z)
  rw[av Tz] at q2
  obtain⟨a',vs',g1,g2,_⟩:=k1.QM.SG j xs WI
  rw[g1] at q2;cases q2
  cases e:(Qy r).ov ((0:Int),([]:List V)) a with
  |none=>rfl
  |some u=>rw[(dm a u e).1] at g2;cases g2
 have k3:Ok X.K (QF (Qy r) B ((0:Int),([]:List V))) F2 H2 (σ.set i (some (.ref r.p))) (ρ.set i (.val (.adr r.p))):=k2.pin (S:=Qy r) (c:=((0:Int),([]:List V))) (fun a u z=>hb0 _ a u z) (fun a u z=>(dm a u z).2.1) (fun a u z=>(dm a u z).2.2) no nd
 obtain⟨s',hz⟩:=TN r ok et
 refine hz (QF (Qy r) B ((0:Int),([]:List V))) F2 H2 _ E ((0:Int),([]:List V)) ⟨fun a u z=>fH z,fun a u z=>?_,⟨rfl,.nil,hl⟩⟩ k3 fun v F3 H3 c3 x3 r3 rv=>?_
 ·cases eb:B.F a with
  |none=>exact eb
  |some o=>
   have:=k3.sf a o eb
   rw[(dm a u z).2.2] at this;cases this
 ·have e3:QF (Qy r) (QF (Qy r) B ((0:Int),([]:List V))) c3=QF (Qy r) B c3:=QF.up (S:=Qy r)
  rw[e3] at x3
  exact w v F3 H3 (x3.W3 fun a u z=>hb0 c3 a u z) rv
end
def xS(C:Addr):Sp:=fun vs H Q _=>∃x dx l,vs=[.ref x,.ref l]/\H x=some (.ins C dx [])/\∀q H',H q=none->q≠x->H'=cA (cA H q (.lst [])) x (.ins C dx [("tokens",.ref l),("done",.int 0),("steps",.ref q)])->Q .QO H'
structure O7(X:Cx)(x:Str)(C:Addr):Prop where
 fn:∃(f:Addr) (fd:FuncData) (ps:List Str) (k:Nat),Mk X.K C f/\dJ X.prog X.w X.K X.mg X.base gH k f fd ps (xS C)/\QR (k+1) X.A/\Binds X.K fd ps []
 m:X.mg x=some (.ref C)
 cls:US X.K C
 n1:QK X.K C "tokens"
 n2:QK X.K C "done"
 n3:QK X.K C "steps"
theorem xQ{K:PySem.W.Frag}:∀{ts:List Str} {vs:List V},Qq K F vs (ts.map D.str)->vs=ts.map V.str
 |[],_,h=>by cases h;rfl
 |t::ts,_,h=>by
  cases h with
  |cons r q=>cases r;rw[aS,xQ q]
section
variable {ds:List D}
theorem Gf{toks:List Str}(t:At X N sc)(M:O7 X x C)(h:Qp X ρ e (.lst (toks.map D.str)))(hg:sc.names.lookup x=some .globalImplicit:=by rfl)(Rr:(x==("__debug__" : Str))=false:=by rfl)(RZ:Pl e:=by intro _ _;rfl):
  xH X ρ [.Return (some (.Call (.Name x p) [e] [] Qt)) pos] toks:=fun B F H σ E k w=>.mk fun pins s I=>by
 obtain⟨f,fd,ps,kk,mk,fo,hr,hb⟩:=M.fn
 have pz:gc gH X E0:=nH
 refine kP (pX (HP mk fo hr (dA t hg) M.m hb .nil pz (bo aV cO (RZ _ _)) Rr (RZ _ _) rfl)) pins s σ H E I (h B F H σ _ k fun v F1 H1 x1 r1=>?_)
 intro x0 dx hx hdx Tz
 cases r1 with
 |@lst l vs _ hf rl=>
 have ev:=xQ rl
 subst ev
 refine⟨x0,dx,l,rfl,by rw[aK],fun q H' hq Zx eH=>⟨rfl,?_⟩⟩
 rw[aJ Zx] at hq
 have hqd:q≠dx:=fun z=>by subst z;rw[aK] at hq;cases hq
 rw[aJ hqd] at hq
 have k1:=k.ext x1
 have x2:Ext ⟨F1,H1⟩ F1 H':=by
  refine⟨fun b u z=>?_,fun b u z=>?_,.refl _,fun a z=>.inl z⟩
  ·have z':=x1.sub b u z
   rw[eH,aJ (fun e=>by subst e;rw[hx] at z';cases z'),aJ (fun e=>by subst e;rw[hq] at z';cases z'),aJ (fun e=>by subst e;rw[hx] at z';cases z'),aJ (fun e=>by subst e;rw[hdx] at z';cases z')]
   exact z'
  ·have z':H1 b=some u:=z
   rw[eH,aJ (fun e=>by subst e;rw[hx] at z';cases z'),aJ (fun e=>by subst e;rw[hq] at z';cases z'),aJ (fun e=>by subst e;rw[hx] at z';cases z'),aJ (fun e=>by subst e;rw[hdx] at z';cases z')]
   exact z'
 refine w ⟨C,x0,dx,q,l,toks⟩ F1 H' rfl ⟨M.cls,M.n1,M.n2,M.n3,Zx⟩ (k1.toExt.trans x2) (k1.sh.free hx) (k1.sh.free hq) (by rw[eH,aK];rfl) (by rw[eH];show cA _ x0 _ q=_;rw[aJ Zx,aK]) (x1.sub.free hx) (x1.sub.free hq) hf
theorem Ep{ρ:cp}(t:At X N sc)(ok:k8 X.K r)(i:Nat){s:Int×List D}(hr:ρ[i]?=some (.val (.adr r.p)))(h:QI X tg body s.2 ρ (.nx ρ'))(hN:N[i]?=some x:=by rfl)(hv:dW sc x=true:=by rfl)(hx:cg x=true:=by rfl)(hb:attributeBase (.Name x py) "steps" X.env (eval (.Name x py) X.env)=eval (.Name x py) X.env:=by rfl)(hs:∀z,foldedSetIterable (.Attribute (.Name x py) "steps" ps) X.env z=pure z:=by intro _;rfl):QX (Qy r) X ρ (.For tg (.Attribute (.Name x py) "steps" ps) body [] pos) (.nx ρ') s s:=fun B F H σ E c l k q=>.mk fun pins w I=>
 Fd t.pass t.calm (CF (vc aV hb)) Fj dn hs pins w σ H E I (Ea t hr hN hv hx k ⟨r.p,r.C,r.dx,_,.ref r.q,rfl,l.now k _ _ Qy.Vg,ok.cls,ok.n3,rfl,r.q,rfl,⟨_,Q1.of (l.now k _ _ (Qy.Vm ok.ne))⟩,by
  refine⟨fun i m σ H=>∃ρ1 F1,Ok X.K B F1 H σ ρ1/\Qx F F1/\QI X tg body (s.2.drop i) ρ1 (.nx ρ')/\m=s.2.length-i,⟨s.2.length,ρ,F,k,.refl _,by simpa using h,by simp⟩,?_⟩
  rintro i m σ H ⟨ρ1,F1,k1,sf,run,rfl⟩
  have hq:H r.q=some (.lst c.2):=k1.sh _ _ (l.st _ _ (Qy.Vm ok.ne))
  have rl:Qq X.K F1 c.2 s.2:=l.rep.2.1.mono sf
  generalize e1:s.2.drop i=bS at run
  cases run with
  |nil=>
   have hl:s.2.length<=i:=by
    have:=bJ List.length e1
    rw[dj,fC] at this
    omega
   refine .inl ⟨⟨c.2,Q1.of hq,by rw[rl.length];exact hl⟩,q F1 H σ c (by rw[QF.same l.st];exact k1) (WA l sf) sf⟩
  |@cons d0 XY _ ρa ρb _ g bd rr=>
   obtain⟨hd,TN,QW⟩:=jX e1
   obtain⟨v,hv1,rv⟩:=rl.get hd
   refine .inr ⟨⟨c.2,v,Q1.of hq,hv1⟩,fun σ' H'=>∃SJ,Ok X.K B SJ H' σ' ρb/\Qx F SJ,fun σ' H' ⟨SJ,Vy,T2⟩=>⟨s.2.length-(i+1),by omega,_,SJ,Vy,T2,by rw[TN];exact rr,rfl⟩,fun xv H' y=>?_⟩
   obtain⟨rfl,y⟩:=y
   have ex:=y c.2 (Q1.of hq)
   rw[hv1] at ex;cases ex
   exact g B F1 H' σ v _ k1 rv fun F3 H3 σ3 k3 s3=>bd B F3 H3 σ3 _ k3 fun F4 H4 σ4 k4 s4=>⟨F4,k4,sf.trans (s3.trans s4)⟩⟩)
where
 WA {B:B0} {F F1:Hp} {c:(Qy r).cs} {s:Int×List D} (l:Ln (Qy r) X.K B F c s) (sf:Qx F F1):(Qy r).rep X.K F1 c s:=(Qy r).mono sf l.rep
end
section
variable {ds:List D}
theorem dU{ρ:cp}{xs:List D}{xs':List D}{Qt:Pos}{apos:Pos}(t:At X N sc)(i:Nat)(hr:ρ[i]?=some (.val (.adr q)))(Yf:xs=xs'++[d])(hN:N[i]?=some x:=by rfl)(hv:dW sc x=true:=by rfl)(hx:cg x=true:=by rfl)(hline:(apos.endLine==Qt.line)=true:=by rfl):
  R3 X q ρ (.Call (.Attribute (.Name x py) "pop" apos) [] [] Qt) d xs xs':=fun B F H σ Q us l k w=>.mk fun pins s I=>by
 subst Yf
 refine vd bM ma l9 yh aV rfl hline pins s σ H Q I ?_
 refine vU t hr hN hv hx k ?_
 have h2:H q=some (.lst us):=k.sh _ _ l.st
 refine⟨.inl ⟨rfl,_,Q1.of h2⟩,?_⟩
 have hl:=l.rep.length
 obtain⟨v,hw,Sj⟩:=l.rep.get (i:=xs'.length) (d:=d) (by simp)
 have VD:us.length-1=xs'.length:=by rw[hl];simp
 refine⟨q,us,v,rfl,rfl,h2,by rw[VD];exact hw,?_⟩
 have hf:=l.ff k
 have rd:=l.rep.dropLast
 rw[ni] at rd
 exact w v F _ us.dropLast ⟨fun b u z=>by rw[aJ (fun e=>by subst e;rw[hf] at z;cases z)];exact k.sub b u z,fun b u z=>z,.refl _,fun a z=>.inl z⟩ rd Sj
theorem fu{ρ:cp}{pos:Pos}{Qt:Pos}{apos:Pos}(t:At X N sc)(i:Nat)(hr:ρ[i]?=some (.val (.adr q)))(he:R3 X q ρ e d xs T1)(hz:T1.length<sizeLine)(hN:N[i]?=some x:=by rfl)(hv:dW sc x=true:=by rfl)(hx:cg x=true:=by rfl)(hb2:attributeBase (.Name x py) "append" X.env (eval (.Name x py) X.env)=eval (.Name x py) X.env:=by rfl)(hs:starEach [e] X.env=(false,eval e X.env)::starEach [] X.env:=by rfl)(hline:(apos.endLine==Qt.line)=true:=by rfl)(Sf:(backTo Qt (starEach [] X.env)).any (·.1)=false:=by rfl)(Rx:((backTo Qt (starEach [e] X.env)).all (fun x=>!x.1)&&(backToKw Qt (keywordEach [] X.env)).all (fun x=>x.1.isSome)&&decide (([e]:List Expr).length+([]:List Keyword).length+(if ([]:List Keyword).isEmpty then 0 else 1)<30))=true:=by rfl)(SM:swapsWith (.Call (.Attribute (.Name x py) "append" apos) [e] [] Qt) none pos.line X.env=pure false:=by rfl):
  t7 X q ρ (.Expr (.Call (.Attribute (.Name x py) "append" apos) [e] [] Qt) pos) (.nx ρ) xs (T1++[d]):=fun B F H σ E us l k w=>.mk fun pins st I=>
 gY (qV bM jS jR lU aV (bo aV cO hs) hb2 Rx hline hs Sf) SM pins st σ H E I
  (vU t hr hN hv hx k ⟨.inl ⟨rfl,_,Q1.of (k.sh _ _ l.st)⟩,he B F H σ _ us l k fun v F1 H1 u1 x1 r1 rv=>by
   have k1:=k.Ug l x1
   have l1:RI X.K (RD B q u1) q F1 u1 T1:=⟨aK,l.fr,r1⟩
   refine⟨q,u1,v,rfl,rfl,k1.sh _ _ aK,by rw[r1.length];exact hz,?_⟩
   have k2:Ok X.K (RD (RD B q u1) q (u1++[v])) F1 (cA H1 q (.lst (u1++[v]))) σ ρ:=k1.VW l1
   rw[RD.up] at k2
   exact w F1 _ σ (u1++[v]) k2 (r1.append (.cons rv .nil)) x1.sf⟩)
def Hl(K:PySem.W.Frag)(C:D->List D->List D->Prop):Sp:=fun vs H Q _=>∃q F d0 us xs xs',Qx F H/\H q=some (.lst us)/\F q=none/\Qq K F us xs/\Qq K F vs [d0,.adr q]/\C d0 xs xs'/\∀v F' H' Sd,Ext (RD ⟨F,H⟩ q Sd) F' H'->Qq K F' Sd xs'->Rep K F' v .QO->Q v H'
def RA(X:Cx)(x:Str)(C:D->List D->List D->Prop):Prop:=∃(f:Addr) (fd:FuncData) (ps:List Str) (k:Nat),dJ X.prog X.w X.K X.mg X.base gH k f fd ps (Hl X.K C)/\QR k X.A/\X.mg x=some (.ref f)/\PySem.W.keepIn X.K (.ref f)=true/\Binds X.K fd ps []
theorem Io{P:Program}(Ra:P.given.tree=none){w:World}{K:PySem.W.Frag}{mg:Str->Option Value}{base:Heap}{x qual:Str}{st:Stmt}{f:Addr}{fd:FuncData}{N ps:List Str}{k:Nat}{C:D->List D->List D->Prop}(F:Um K x qual st f fd)(S:aR N ps (ai st))(len:2=ps.length)(body:∀X,DefX P w K mg base k N (ai st) X->∀q d0 xs xs',C d0 xs xs'->∃ρ',xI X q (.val d0 :: .val (.adr q)::List.replicate (N.length-2) Sl.un) (bw st) (.nx ρ') xs xs'):dJ P w K mg base gH (k+1) f fd ps (Hl K C):=by
 refine F.ok S (fun vs H Q E h=>?_) (fun Q3 A outer s H vs Q E hr h=>?_)
 ·obtain⟨p,F',d0,us,xs,xs',sub,hp,hf,ru,r,hC,q⟩:=h
  rw[r.length];exact len
 ·obtain⟨p,F',d0,us,xs,xs',sub,hp,hf,ru,r,hC,q⟩:=h
  refine⟨_,dn,?_⟩
  have hx:DefX P w K mg base k N (ai st) (qa gH P w K mg base N qual (ai st) f Q3 A outer s H E).Tx:=
   ⟨⟨rfl,rfl,rfl,S.nd,rfl,hr.units,hr.Ss,Ra,⟨_,_,rfl,S.gen,S.co,rfl,rfl⟩⟩,rfl,rfl,rfl,rfl,rfl,hr,⟨fun _=>rfl⟩,rfl,rfl⟩
  have hk:Ok K ⟨F',H⟩ F' H (start N vs) ([d0,.adr p].map Sl.val++List.replicate (N.length-2) Sl.un):=by
   unfold start
   rw[r.length]
   exact i9 sub r _
  obtain⟨ρ',hb⟩:=body _ hx p d0 xs xs' hC
  exact hb ⟨F',H⟩ F' H _ _ us ⟨hp,hf,ru⟩ hk fun F2 H2 σ2 WC k2 r2 s2=>q .QO F2 H2 WC k2.toExt r2 .QO
theorem DefX.Ve{K:PySem.W.Frag}{x:Str}{C:D->List D->List D->Prop}(h:DefX P w K mg base k N sc X)(F:dJ P w K mg base gH j f fd ps (Hl K C))(hj:j<=k)(hm:mg x=some (.ref f))(hk:PySem.W.keepIn K (.ref f)=true)(hb:Binds K fd ps []):RA X x C:=by
 obtain⟨h0,rfl,rfl,rfl,rfl,rfl,hr,_⟩:=h
 exact⟨f,fd,ps,j,F,hr.mono hj,hm,hk,hb⟩
theorem ER{ρ:cp}{pos:Pos}(t:At X N sc){C:D->List D->List D->Prop}(h:RA X x C)(i:Nat)(hr:ρ[i]?=some (.own xs))(ha:Qp X ρ e d0)(hC:C d0 xs xs')(hN:N[i]?=some y:=by rfl)(hv:dW sc y=true:=by rfl)(hx:cg y=true:=by rfl)(hg:sc.names.lookup x=some .globalImplicit:=by rfl)(Rr:(x==("__debug__" : Str))=false:=by rfl)(hs:Pl (.Name y py):=by intro _ _;rfl)(he:Pl e:=by intro _ _;rfl)(SM:swapsWith (.Call (.Name x p) [e,.Name y py] [] Qt) none pos.line X.env=pure false:=by rfl):
  QQ X ρ (.Expr (.Call (.Name x p) [e,.Name y py] [] Qt) pos) (.nx (ρ.set i (.own xs'))):=by
 obtain⟨f,fd,ps,k,F,Uc,hm,hk,hb⟩:=h
 have pz:gc gH X E0:=nH
 refine .of (gY (iS F Uc (dA t hg) hm hk hb .nil pz (bo aV (bo aV cO (hs _ _)) (he _ _)) Rr (he _ _) (by rw[hs];rfl)) SM) fun B F' H σ E k' q=>?_
 refine ha B F' H σ _ k' fun v0 F1 H1 x1 r1=>?_
 have k1:=k'.ext x1
 refine nJ t hr hN hv hx k1 fun l us h1 h2 h3=>?_
 have hf1:F1 l=none:=by
  obtain⟨a,vs,o1,o2,o3,o4,o5⟩:=k1.Rj i xs hr
  rw[h1] at o1
  cases o1
  exact o3
 refine⟨l,F1,d0,us,xs,xs',x1.sub,h2,hf1,h3,?_,hC,fun v F2 H2 WC x2 r2 rv=>q F2 H2 σ (k1.back hr h1 x2 r2) (x1.sf.trans x2.sf)⟩
 exact .cons r1 (.cons (.adr l) .nil)
end
section
theorem dR(ha:Qp X ρ a (.str z))(hb:Qp X ρ b (.str w))(hz:z.length+w.length<=sizeLine):Qp X ρ (.BinOp a .Add b pos) (.str (z++w)):=
 .of (qT mx aV aV) fun B F H σ Q k q=>two ha hb k fun x y F' H' x' rx ry=>by
  cases rx;cases ry
  exact⟨z,w,rfl,rfl,hz,q _ F' H' x' (.str _)⟩
theorem Bf{ρ:cp}[Th X](t:At X N sc)(i:Nat)(hr:ρ[i]?=some (.val (.str z)))(h:Qp X ρ e (.str w))(hz:z.length+w.length<=sizeLine)(hi:N[i]?=some x:=by rfl)(hx:ku sc x=true:=by rfl):
  QQ X ρ (.AugAssign (.Name x pos') .Add e pos) (.nx (ρ.set i (.val (.str (z++w))))):=
 .of (Bk (i:=i) t.nd (t.ix hi) (t.loc hx) aV (show Ma X .Add _ from tx) AZ) fun B F H σ E k q=>by
  obtain⟨v,h1,h2⟩:=k.vals i _ hr
  cases h2
  exact⟨_,h1,h B F H σ _ k fun v F' H' x' r=>by
   cases r
   exact⟨z,w,rfl,rfl,hz,q F' H' _ ((k.ext x').QN i (.str _)) x'.sf⟩⟩
theorem FZ{r:Bool}(ha:Qp X ρ a (.str z))(hb:Qp X ρ b (.str w))(hr:(!(Builtin.Str.occurrences w z 0 w.length 1).isEmpty)=r)(hm:behindInMarks .In b=false:=by rfl):Qp X ρ (.Compare a [.In] [b] pos) (.bl r):=
 .of (ur DO aV aV hm) fun B F H σ Q k q=>two ha hb k fun x y F' H' x' rx ry=>by
  cases rx;cases ry;subst hr
  exact⟨z,w,rfl,rfl,q _ F' H' x' (.bl _)⟩
theorem fb(t:At X N sc)(bl:pi X sc x (.builtin "len"))(ha:Qp X ρ e (.str z))(hz:z.length<=sizeLine)(RZ:Pl e:=by intro _ _;rfl):Qp X ρ (.Call (.Name x p) [e] [] pos) (.int z.length):=
 vE t bl yL (ab ha aj RZ) fun F H vs Q sub r q=>by
  obtain⟨v,rfl,rv⟩:=r.one
  cases rv
  exact⟨z,rfl,hz,q _ F H (.refl sub) (.int _)⟩
theorem yv(t:At X N sc)(bl:pi X sc x (.type "str"))(ha:Qp X ρ e (.int i))(hz:i.natAbs.log2<1920)(RZ:Pl e:=by intro _ _;rfl):Qp X ρ (.Call (.Name x p) [e] [] pos) (.str (toString i)):=
 sO t bl yJ (ab ha aj RZ) fun F H vs Q sub r q=>by
  obtain⟨v,rfl,rv⟩:=r.one
  cases rv
  exact⟨i,rfl,hz,q _ F H (.refl sub) (.str _)⟩
theorem yM:ic X (.type "int") (fun xs H Q=>∃z n,xs=[.str z]/\PySem.intText? z=some n/\z.length<=640/\Q (.int n) H):=by
 intro pins s σ H xs us Q I r h
 obtain⟨z,n,rfl,h1,h2,q⟩:=h
 obtain⟨u,rfl,t,rfl⟩:=j0 r
 exact PySem.W.KIN.call_text h1 h2 ⟨.int n,H,I.tok _,⟨_,rfl⟩,q⟩
theorem C4(t:At X N sc)(bl:pi X sc x (.type "int"))(ha:Qp X ρ e (.str z))(hn:PySem.intText? z=some n)(hz:z.length<=640)(RZ:Pl e:=by intro _ _;rfl):Qp X ρ (.Call (.Name x p) [e] [] pos) (.int n):=
 sO t bl yM (ab ha aj RZ) fun F H vs Q sub r q=>by
  obtain⟨v,rfl,rv⟩:=r.one
  cases rv
  exact⟨z,n,rfl,hn,hz,q _ F H (.refl sub) (.int _)⟩
theorem Bt:Mc X "str.isalnum" (fun x xs H Q=>∃z,x=.str z/\xs=[]/\Q (.bl (Txt.isalnum z)) H):=by
 intro pins s σ H x xs v us Q I rx rs h
 obtain⟨z,rfl,rfl,q⟩:=h
 obtain⟨t,rfl⟩:=rx
 cases rs
 exact SC.isalnum ⟨.bl _,H,I,rfl,q⟩
theorem kb{apos Qt:Pos}(ho:Qp X ρ a (.str z))(Ry:attributeBase a "isalnum" X.env (eval a X.env)=eval a X.env:=by rfl)(hline:(apos.endLine==Qt.line)=true:=by rfl):
  Qp X ρ (.Call (.Attribute a "isalnum" apos) [] [] Qt) (.bl (Txt.isalnum z)):=
 .of (vd lC PySem.F.slot_str_isalnum PySem.F.type_str_isalnum Bt aV Ry hline) fun B F H σ Q k q=>
  ho B F H σ _ k fun v F1 H1 x1 r1=>by
   cases r1
   exact⟨rfl,z,rfl,rfl,q _ F1 H1 x1 (.bl _)⟩
end
end L2.EV
namespace L2
open PySem PySem.Spec PyProof.Rows
def Pa(z:Str):It:=⟨fun i _=>i<z.cps.size,fun i H x H'=>H'=H/\∃c,z.cps[i]?=some c/\x=.str ⟨#[c]⟩,fun i _=>z.cps.size<=i,False⟩
theorem Du{K:PySem.W.Frag}(it:Addr)(z:Str)(t:Tok):wP P w K tg (Pa z) [it] it (fun i h=>h.IsStrIter it "str_ascii_iterator" z t i) where
 mem:=by simp
 obj:=fun i h st b hb=>by
  have e:b=it:=by simpa using hb
  subst e
  obtain⟨o,e,c,d⟩:=st
  exact⟨o,e,fun v z=>by rw[d] at z;cases z⟩
 keep:=fun i h h' st k=>let ⟨o,e,r⟩:=st;⟨o,k it (by simp) o e,r⟩
 item:=by
  intro X hP hw hK hc i pins s σ H E I hf st hg
  subst hP hw hK
  replace hc:=hc.resolve_right fun z=>z.1
  obtain⟨f0,f1,f2,f3,f4,f5⟩:=hf it (by simp)
  have hi:i<z.cps.size:=hg
  refine wpAny_pyNext_ascii_item st (c:=z.cps[i]) (by simp[hi]) fun h' RM sb=>?_
  have I1:Inv X pins σ H { s with heap:=h',toks:=s.toks+1 }:=I.turned (fun b o hb e=>(sb.2 b hb).trans e) f0 f1 f3 f4 f5
  obtain⟨o,e,c,d⟩:=id RM
  exact⟨_,rfl,An (s:={ s with heap:=h',toks:=s.toks+1 }) e c d (by decide) ⟨.str ⟨#[z.cps[i]]⟩,H,I1,⟨_,rfl⟩,⟨rfl,_,by simp[hi],rfl⟩,RM,fun b hb=>(hf b hb).1⟩⟩
 done:=by
  intro X hP hw hK hc i pins s σ H E I hf st hg
  subst hP hw hK
  replace hc:=hc.resolve_right fun z=>z.1
  obtain⟨f0,f1,f2,f3,f4,f5⟩:=hf it (by simp)
  have hi:z.cps.size<=i:=hg
  exact wpAny_pyNext_ascii_end (I.ok.hd hc) st (by simp[hi]) fun h' eb=>⟨rfl,I.turned (t':=s.toks) (fun b o hb e=>eb b o hb e) f0 f1 f3 f4 f5⟩
 self:=fun _ _ _ _ _ st h=>wpAny_pyIter_striter_ascii st h
section
def OK(tl:TE):TI:=fun σ H R=>tl σ H fun x H1=>∃z,x=.str z/\z.cps.all (· < 128)=true/\R (Pa z) H1
theorem Kj(hl:PE X l tl):PI X tg l (OK tl):=by
 intro pins s σ H R I h
 refine de (hl pins s σ H _ I h) fun v s1 ⟨x,H1,I1,r1,q1⟩=>?_
 obtain⟨z,e,ha,q⟩:=q1
 subst e
 obtain⟨t,rfl⟩:=r1
 refine wpAny_pyIter_ascii ha ?_
 refine⟨s1.heap.objs.size,[s1.heap.objs.size],_,_,H1,rfl,I1.kept (t':=s1.toks) fun b o e=>ar _ e,Du _ z t,⟨_,aO _ rfl,rfl,rfl⟩,fun b hb=>?_,q⟩
 have e:b=s1.heap.objs.size:=by simpa using hb
 subst e
 exact I1.Ue (ak _) (I1.QG.fresh (ak _))
theorem DG{lo hi:Int}{tk:Nat}{R:It->Hp->Prop}(I:Inv X pins σ H s)(h1 : -(2 ^ 62)<=lo)(h2:lo<2 ^ 62)(h3 : -(2 ^ 62)<=hi)(h4:hi<2 ^ 62)(q:R (IW lo (-1) (lo-hi).toNat) H):wpAny (model X.prog X.w) X.A (pyIter (.ref s.heap.objs.size)) (NF X pins σ tg R) E { s with heap:=s.heap.push { cls:=.type "range",data:=.fields #[.int lo t,.int hi u,.int (-1) v] },toks:=tk }:=by
 refine wpAny_pyIter_range (IsRange.new ..) (PySem.W.small_down h1 h2 h3 h4) ?_
 have I1:Inv X pins σ H { s with heap:=s.heap.push { cls:=.type "range",data:=.fields #[.int lo t,.int hi u,.int (-1) v] },toks:=tk }:=I.kept fun b o e=>ar _ e
 refine⟨(s.heap.push { cls:=.type "range",data:=.fields #[.int lo t,.int hi u,.int (-1) v] }).objs.size,[(s.heap.push { cls:=.type "range",data:=.fields #[.int lo t,.int hi u,.int (-1) v] }).objs.size],_,_,H,rfl,
  I1.kept (t':=tk) fun b o e=>ar _ e,zF _ lo (-1) (lo-hi).toNat,?_,fun b hb=>?_,q⟩
 ·have e1:lo+((0:Nat):Int)*(-1)=lo:=by simp
  have e2:(((lo-hi).toNat:Nat):Int)-((0:Nat):Int)=Builtin.Range.rangeSize lo hi (-1):=by rw[PySem.W.rangeSize_downNat];simp
  show IsRangeIter _ _ (lo+((0:Nat):Int)*(-1)) ((((lo-hi).toNat:Nat):Int)-((0:Nat):Int)) (-1)
  rw[e1,e2]
  exact aO _ rfl
 ·have e:b=(s.heap.push { cls:=.type "range",data:=.fields #[.int lo t,.int hi u,.int (-1) v] }).objs.size:=by simpa using hb
  subst e
  exact I1.Ue (ak _) (I1.QG.fresh (ak _))
def M3(ta:TA):TI:=fun σ H R=>ta σ H fun vs H1=>∃i j:Int,vs=[.int i,.int j,.int (-1)]/\(-(2 ^ 62)<=i/\i<2 ^ 62/\-(2 ^ 62)<=j/\j<2 ^ 62)/\R (IW i (-1) (i-j).toNat) H1
theorem DM(hg:Gl X "range")(hm:X.mg "range"=none)(ha:PA X [a,b,c] ta)(hs:starEach [a,b,c] X.env=(false,eval a X.env)::starEach [b,c] X.env:=by rfl)(UG:(backTo pos (starEach [b,c] X.env)).any (·.1)=false:=by rfl):
  PI X tg (.Call (.Name "range" p) [a,b,c] [] pos) (M3 ta):=by
 intro pins s σ H R I h
 refine Call_ (sI I hg hm boot_range (im (de (ha pos pins s σ H _ I h) fun us s1 ⟨vs,H1,I1,r1,q1⟩=>?_) hs UG))
 obtain⟨i,j,e,⟨q1,q2,q3,q4⟩,q⟩:=q1
 subst e
 cases r1 with
 |cons r rr=>
  cases rr with
  |cons r' rr=>
   cases rr with
   |cons Xb rr=>
    cases rr
    obtain⟨t,rfl⟩:=r
    obtain⟨t',rfl⟩:=r'
    obtain⟨t'',rfl⟩:=Xb
    exact call_range_3 (by decide) (DG I1 q1 q2 q3 q4 q) (Or.inl (PyProof.noPylong_small (by omega)))
end
end L2
namespace L2.EV
open PySem PySem.Spec PyProof.Rows
section
def Jk(z:Str):List D:=z.cps.toList.map fun c=>D.str ⟨#[c]⟩
theorem K4{K:PySem.W.Frag}:t6 K (Pa z) F (Jk z):=fun i F2 H2 s1 s2=>
 ⟨fun d hd=>by
  unfold Jk at hd
  rw[aI] at hd
  cases e:z.cps.toList[i]? with
  |none=>rw[e] at hd;cases hd
  |some c=>
   rw[e] at hd
   cases hd
   have hi:=(az.mp e).1
   refine⟨(show i<z.cps.size by simpa using hi),fun x H' y=>?_⟩
   obtain⟨rfl,c',h1,rfl⟩:=y
   have h2:z.cps[i]?=some c:=by simpa using e
   rw[h2] at h1;cases h1
   exact⟨F2,.refl s2,.str _⟩,fun h=>by
   have h':z.cps.size<=i:=by simpa [Jk] using h
   exact h'⟩
theorem Lw(h:Qp X ρ e (.str z))(ha:z.cps.all (· < 128)=true):Ti X ρ tg e (Jk z):=.of (Kj aV) fun B F H σ R k q=>h B F H σ _ k fun v F' H' x r=>by
 cases r
 exact⟨z,rfl,ha,q _ F' H' x K4⟩
def m8(i:Int)(n:Nat):List D:=(List.range n).map fun(k:Nat)=>D.int (i-(k:Int))
theorem K7{K:PySem.W.Frag}:t6 K (IW i (-1) n) F (m8 i n):=fun k F2 H2 s1 s2=>
 ⟨fun d hd=>by
  unfold m8 at hd
  rw[aI] at hd
  have hi:k<n:=by
   by_cases h:k<n
   ·exact h
   ·rw[aZ (by simpa using h)] at hd;cases hd
  rw[eC hi] at hd
  cases hd
  refine⟨hi,fun x H' y=>?_⟩
  obtain⟨rfl,rfl⟩:=y
  have e:i+(k:Nat)*(-1)=i-(k:Int):=by omega
  rw[e]
  exact⟨F2,.refl s2,.int _⟩,fun h=>by
   have h':n<=k:=by simpa [m8] using h
   exact h'⟩
theorem o7(t:At X N sc)(bl:pi X sc "range" (.type "range"))(ha:Qp X ρ a (.int i))(hb:Qp X ρ b (.int j))(hc:Qp X ρ c (.int (-1)))(h : -(2 ^ 62)<=i/\i<2 ^ 62/\-(2 ^ 62)<=j/\j<2 ^ 62)(hsa:Pl a:=by intro _ _;rfl)(hsb:Pl b:=by intro _ _;rfl)(hsc:Pl c:=by intro _ _;rfl):
  Ti X ρ tg (.Call (.Name "range" p) [a,b,c] [] pos) (m8 i (i-j).toNat):=
 .of (DM (dA t bl.g) bl.m (bo aV (bo aV (bo aV cO (hsc _ _)) (hsb _ _)) (hsa _ _)) (hsa _ _) (by rw[hsb,hsc];rfl)) fun B F H σ R k q=>ha B F H σ _ k fun v F1 H1 x1 r1=>hb B F1 H1 σ _ (k.ext x1) fun w F2 H2 x2 r2=>hc B F2 H2 σ _ (k.ext (x1.t x2)) fun u F3 H3 x3 r3=>by
  cases r1;cases r2;cases r3
  exact⟨i,j,rfl,h,q _ F3 H3 (x1.t (x2.t x3)) K7⟩
end
section
variable {lo:Expr}
theorem J4:NC X (fun x lo hi H Q=>∃z,x=.str z/\z.length<=sizeLine/\Q (.str (Txt.slice z lo hi)) H):=by
 intro pins s σ H x v vl vu lo hi sl Q I rx hs pl pu h
 obtain⟨z,rfl,hz,q⟩:=h
 obtain⟨t,rfl⟩:=rx
 have part:∀{v:Value} {o:Option Int},IsPart v o->∃l:Option (Int×Tok),v=partValue l/\l.map (·.1)=o:=fun h=>by
  cases h with
  |none=>exact⟨none,rfl,rfl⟩
  |int i t=>exact⟨some (i,t),rfl,rfl⟩
 obtain⟨l,rfl,rfl⟩:=part pl
 obtain⟨u,rfl,rfl⟩:=part pu
 exact⟨"str",_,PySem.F.slot_str_getitem.lookup,Qb _ _ _,wpAny_getItem_str_slice (l:=l) (u:=u) (st:=none) hs rfl
  (post_val_or_str ⟨aL (Txt.slice_le z _ _) hz,fun t' k=>⟨.str (Txt.slice z (l.map (·.1)) (u.map (·.1))),H,I.tok _,⟨_,rfl⟩,q⟩⟩)⟩
theorem uy(h:Qp X ρ e (.str z))(h1:Qp X ρ lo (.int i))(h2:Qp X ρ hi (.int j))(hz:z.length<=sizeLine):Qp X ρ (.Subscript e (.Slice (some lo) (some hi) none p2) pos) (.str (Txt.slice z (some i) (some j))):=
 .of (qS J4 aV (yb aV) (yb aV)) fun B F H σ Q k q=>h B F H σ _ k fun v F1 H1 x1 r1=>h1 B F1 H1 σ _ (k.ext x1) fun v2 F2 H2 x2 r2=>by
  cases r1;cases r2
  exact⟨i,rfl,h2 B F2 H2 σ _ (k.ext (x1.t x2)) fun v3 F3 H3 x3 r3=>by
   cases r3
   exact⟨j,rfl,z,rfl,hz,q _ F3 H3 (x1.t (x2.t x3)) (.str _)⟩⟩
theorem Aa(cs:Array Nat)(i:Nat):∀n,i+n<=cs.size->((List.range n).map fun k=>i+k).filterMap (cs[·]?)=(cs.toList.drop i).take n
 |0,_=>by simp
 |n+1,h=>by
  rw[jY,aX,PM,Aa cs i n (by omega),za,List.getElem?_drop]
  congr 1
  have:i+n<cs.size:=by omega
  simp[this]
theorem zw:∀(xs:List V) (us:List Value),us.length=xs.length->(∀(j:Nat) x u,xs[j]?=some x->us[j]?=some u->RelV x u)->Vals xs us
 |[],[],_,_=>.nil
 |x::xs,u::us,hl,h=>.cons (h 0 x u rfl rfl) (zw xs us (by simpa using hl) fun j y v h1 h2=>h (j+1) y v h1 h2)
theorem Dg{z:Str}{i j:Nat}(h:i<=j)(hi:i<=z.length):Txt.slice z (some (i:Int)) (some (j:Int))=⟨((z.cps.toList.drop i).take (j-i)).toArray⟩:=by
 have hz:z.length=z.cps.size:=rfl
 have e1:Builtin.Str.strSliceIndices (some (i:Int)) (some (j:Int)) 1 z.length=(List.range (min j z.length-i)).map fun k=>i+k:=by
  unfold Builtin.Str.strSliceIndices sliceRange
  have a1:¬((i:Int)<0):=by omega
  have a2:¬((j:Int)<0):=by omega
  simp only[a1,a2,Eh,show(1:Int) > 0 by decide,JJ]
  have b1:max 0 (min (i:Int) (z.length:Int))=i:=by omega
  have b2:max 0 (min (j:Int) (z.length:Int))=(min j z.length:Nat):=by omega
  rw[b1,b2]
  have b3:(if (i:Int)<(min j z.length:Nat) then (((min j z.length:Nat):Int)-i+1-1) / 1 else 0).toNat=min j z.length-i:=by split<;>omega
  rw[b3]
  exact pc fun k _=>by omega
 have e2:((List.range (min j z.length-i)).map fun k=>i+k).filterMap (z.cps[·]?)=(z.cps.toList.drop i).take (j-i):=by
  rw[Aa z.cps i (min j z.length-i) (by omega)]
  by_cases hj:j<=z.length
  ·rw[Nat.min_eq_left hj]
  ·rw[eY (by rw[dj,bZ];omega),eY (by rw[dj,bZ];omega)]
 unfold Txt.slice
 rw[e1,e2]
 split
 ·rename_i h0
  rw[dM,vY,vY,af,lG] at h0
  have h1:=h0.2
  have hi0:i=0\/z.length=0:=by omega
  rcases hi0 with rfl | e
  ·rw[zb,Nat.sub_zero,eY (by rw[bZ];omega)]
  ·have:z.cps.toList=[]:=bc (by rw[bZ];omega)
   rw[this]
   obtain⟨c⟩:=z
   have hc:c = #[]:=Array.eq_empty_of_size_eq_zero e
   subst hc
   simp
 ·rfl
theorem zO:∀{ys:List Str} {us:List Value},Vals (ys.map V.str) us->StrsAre us ys
 |[],_,h=>by cases h;exact .nil
 |y::ys,_,h=>by
  cases h with
  |cons r q=>
   obtain⟨t,rfl⟩:=r
   exact .cons y t (zO q)
theorem HZ:Mc X "str.join" (fun x xs H Q=>∃z l ys,x=.str z/\xs=[.ref l]/\Q1 X.K H l (ys.map V.str)/\(ys.map (·.length)).sum+ys.length*z.length<=16777216/\Q (.str (Txt.join z ys)) H):=by
 intro pins s σ H x xs v us Q I rx rs h
 obtain⟨z,l,ys,rfl,rfl,hl,hz,q⟩:=h
 obtain⟨t,rfl⟩:=rx
 obtain⟨u,rfl,ru⟩:=Vals.one rs
 cases ru
 obtain⟨its,r',pl,_⟩:=I.list hl
 exact join_list pl.isList (by simpa using zO r') hz fun t' k=>⟨.str _,H,I.tok _,⟨_,rfl⟩,q⟩
theorem yw{ys:List Str}{apos:Pos}(ho:Qp X ρ a (.str z))(ha:Sw X ρ e true (ys.map D.str))(hz:(ys.map (·.length)).sum+ys.length*z.length<=16777216)(hs:Pl e:=by intro _ _;rfl)(Ry:attributeBase a "join" X.env (eval a X.env)=eval a X.env:=by rfl)(Rx:((backTo Qt (starEach [e] X.env)).all (fun x=>!x.1)&&(backToKw Qt (keywordEach [] X.env)).all (fun x=>x.1.isSome)&&decide (([e]:List Expr).length+([]:List Keyword).length+(if ([]:List Keyword).isEmpty then 0 else 1)<30))=true:=by rfl)(hline:(apos.endLine==Qt.line)=true:=by rfl):
  Qp X ρ (.Call (.Attribute a "join" apos) [e] [] Qt) (.str (Txt.join z ys)):=
 .of (qV lC PySem.F.slot_str_join PySem.F.type_str_join HZ aV (bo aV cO (hs _ _)) Ry Rx hline (hs _ _) rfl) fun B F H σ Q k q=>
  ho B F H σ _ k fun v F1 H1 x1 r1=>by
   cases r1
   refine⟨rfl,ha B F1 H1 σ _ (k.ext x1) fun l vs F2 H2 x2 sl rl=>?_⟩
   have ev:=xQ rl
   subst ev
   exact⟨z,l,ys,rfl,rfl,sl,hz,q _ F2 H2 (x1.t x2) (.str _)⟩
theorem BO{X:Cx}(hc:X.calm=true):ic X (.type "list") (fun xs H Q=>∃z,xs=[.str z]/\z.length<=sizeLine/\∀l,H l=none->Q (.ref l) (cA H l (.lst (z.cps.toList.map fun c=>V.str ⟨#[c]⟩)))):=by
 intro pins s σ H xs us Q I r h
 obtain⟨z,rfl,hz,q⟩:=h
 obtain⟨u,rfl,t,rfl⟩:=j0 r
 refine call_list_str (I.ok.hd hc) z t (hn:=hz) fun h' tk Vh c' kp e VF=>?_
 have rv:Vals (z.cps.toList.map fun c=>V.str ⟨#[c]⟩) Vh.toList:=by
  obtain⟨h1,h2⟩:=VF
  refine zw _ _ (by simp[h1]) fun j x u e1 e2=>?_
  obtain⟨c,t',hc,rfl⟩:=h2 j u (by simpa using e2)
  rw[aI,show z.cps.toList[j]?=some c by simpa using hc] at e1
  cases e1
  exact⟨t',rfl⟩
 exact⟨.ref s.heap.objs.size,_,I.laid (t':=tk) kp (ak _) (show QC X.prog X.w _ h' _ (.lst _) from⟨by rw[af,bZ];exact hz,Vh.toList,c',rv,by simpa using e⟩),rfl,q _ (I.QG.fresh (ak _))⟩
theorem xf{K:PySem.W.Frag}:∀cs:List Nat,Qq K F (cs.map fun c=>V.str ⟨#[c]⟩) (cs.map fun c=>D.str ⟨#[c]⟩)
 |[]=>.nil
 |c::cs=>.cons (.str _) (xf cs)
theorem Gk(t:At X N sc)(bl:pi X sc x (.type "list"))(ha:Qp X ρ e (.str z))(hz:z.length<=sizeLine)(RZ:Pl e:=by intro _ _;rfl):QJ X ρ (.Call (.Name x p) [e] [] pos) (Jk z):=
 .of (lS (BO t.calm) (dA t bl.g) bl.m bl.v (bo aV cO (RZ _ _)) bl.n bl.d (RZ _ _) rfl) fun B F H σ Q k' q=>ha B F H σ _ k' fun v F' H' x' r=>by
  cases r
  exact⟨z,rfl,hz,fun l hl=>q l _ F' _ ⟨x'.sub.trans (aP hl),x'.sh.trans (aP hl),x'.sf,x'.nw⟩ (x'.sh.free hl) aK (x'.sub.free hl) (xf _)⟩
theorem C5{sep:Str}(ha:Qp X ρ a (.str z))(hb:Qp X ρ b (.int i))(hi:i.natAbs.log2<1920)(hz:z.length+sep.length<=1000):
  Qp X ρ (.JoinedStr [.FormattedValue a (-1) none p1,.Constant (.str sep) j p2,.FormattedValue b (-1) none p3] pos) (.str (z++sep++(toString i:Str))):=fun B F H σ Q k q=>.mk fun pins s I=>by
 have hl:=PyProof.Rows.int_text_len_1921 hi
 have e0:Str.empty++z=z:=by
  obtain⟨c⟩:=z
  show(⟨#[]++c⟩:Str)=⟨c⟩
  rw[Array.empty_append]
 have hs:sizeLine=16777216:=rfl
 have l1:(Str.empty++z).length<=sizeLine:=by rw[e0];omega
 have l2:(Str.empty++z++sep).length<=sizeLine:=by rw[e0,pP];omega
 have l3:(Str.empty++z++sep++(toString i:Str)).length<=sizeLine:=by rw[e0,pP,pP];exact aL (AT hl _) (by omega)
 refine JoinedStr_many (zj (Mi (de (ha B F H σ (fun v H'=>∃F',Ext ⟨F,H⟩ F' H'/\Rep X.K F' v (.str z)) k (fun v F' H' x r=>⟨F',x,r⟩) pins s I) fun u s1 ⟨v,H1,I1,rv,F1,x1,r1⟩=>?_)))
 cases r1
 obtain⟨t,rfl⟩:=rv
 refine formatField_str (fun t' tk=>?_) (by omega)
 refine⟨l1,zj (Jb ⟨l2,zj (Mi (de (hb B F1 H1 σ (fun v H'=>∃F',Ext ⟨F1,H1⟩ F' H'/\Rep X.K F' v (.int i)) (k.ext x1) (fun v F' H' x r=>⟨F',x,r⟩) pins _ (I1.tok _)) fun u s2 ⟨v2,H2,I2,UD,F2,x2,r2⟩=>?_))⟩)⟩
 cases r2
 obtain⟨t2,rfl⟩:=UD
 refine formatField_int_small hi ⟨l3,joinParts_nil ?_ l3⟩
 rw[e0]
 exact⟨.str _,H2,I2.tok _,⟨_,rfl⟩,q _ F2 H2 (x1.t x2) (.str _)⟩
end
section
theorem vD{x:Str}(t:At X N sc)(hm:∃tk,X.mg x=some (.str z tk))(hg:sc.names.lookup x=some .globalImplicit:=by rfl)(Rr:(x==("__debug__" : Str))=false:=by rfl):Qp X ρ (.Name x p) (.str z):=by
 obtain⟨tk,hm⟩:=hm
 exact .of (uq (dA t hg) hm (show RelV (.str z) (.str z tk) from⟨_,rfl⟩) Rr) fun B F H σ Q k q=>q _ F H (.refl k.sub) (.str _)
theorem rG{x:Str}(t:At X N sc)(hm:∃tk,X.mg x=some (.int z tk))(hg:sc.names.lookup x=some .globalImplicit:=by rfl)(Rr:(x==("__debug__" : Str))=false:=by rfl):Qp X ρ (.Name x p) (.int z):=by
 obtain⟨tk,hm⟩:=hm
 exact .of (uq (dA t hg) hm (show RelV (.int z) (.int z tk) from⟨_,rfl⟩) Rr) fun B F H σ Q k q=>q _ F H (.refl k.sub) (.int _)
theorem Be{pos:Pos}(h:Qp X ρ e d)(SM:swapsWith e none pos.line X.env=pure false:=by rfl):QQ X ρ (.Expr e pos) (.nx ρ):=fun B F H σ E k q=>.mk fun pins s I=>
 gY aV SM pins s σ H E I (h B F H σ _ k fun v F' H' x' r=>q F' H' σ (k.ext x') x'.sf)
theorem J9:QQ X ρ (.Return none pos) (.rt .QO):=fun B F H σ E k q=>.mk fun pins s I=>HJ pins s σ H E I (q .QO F H k.toExt .QO)
end
theorem Lh{P:Program}(Ra:P.given.tree=none){w:World}{K:PySem.W.Frag}{mg:Str->Option Value}{base:Heap}{x qual:Str}{st:Stmt}{f:Addr}{fd:FuncData}{N ps:List Str}{k:Nat}{C:List D->D->Prop}(F:Um K x qual st f fd)(S:aR N ps (ai st))(len:∀ds d,C ds d->ds.length=ps.length)(body:∀X,DefX P w K mg base k N (ai st) X->∀ds d,C ds d->Qr X (ds.map Sl.val++List.replicate (N.length-ds.length) Sl.un) (bw st) (.rt d)\/(d=.QO/\∃ρ',Qr X (ds.map Sl.val++List.replicate (N.length-ds.length) Sl.un) (bw st) (.nx ρ'))):dJ P w K mg base gH (k+1) f fd ps (GY K C):=by
 refine F.ok S (fun vs H Q E h=>?_) (fun Q3 A outer s H vs Q E hr h=>?_)
 ·obtain⟨F',ds,d,sub,r,hC,q⟩:=h
  rw[r.length];exact len ds d hC
 ·obtain⟨F',ds,d,sub,r,hC,q⟩:=h
  refine⟨_,dn,?_⟩
  have hx:DefX P w K mg base k N (ai st) (qa gH P w K mg base N qual (ai st) f Q3 A outer s H E).Tx:=
   ⟨⟨rfl,rfl,rfl,S.nd,rfl,hr.units,hr.Ss,Ra,⟨_,_,rfl,S.gen,S.co,rfl,rfl⟩⟩,rfl,rfl,rfl,rfl,rfl,hr,⟨fun _=>rfl⟩,rfl,rfl⟩
  have hk:Ok K ⟨F',H⟩ F' H (start N vs) (ds.map Sl.val++List.replicate (N.length-ds.length) Sl.un):=by
   unfold start
   rw[r.length]
   exact i9 sub r _
  rcases body _ hx ds d hC with hb | ⟨rfl,ρ',hb⟩
  ·exact hb ⟨F',H⟩ F' H _ _ hk fun v F2 H2 x2 r2=>q v F2 H2 x2 r2
  ·exact hb ⟨F',H⟩ F' H _ _ hk fun F2 H2 σ2 k2 s2=>q .QO F2 H2 k2.toExt .QO
def S(cs:List Nat):Str:=⟨cs.toArray⟩
theorem bn(cs:List Nat):(S cs).length=cs.length:=by show cs.toArray.size=_;simp
theorem jb(cs:List Nat):(S cs).cps.toList=cs:=by show cs.toArray.toList=_;simp
theorem br(a b:List Nat):S a++S b=S (a++b):=by show(⟨a.toArray++b.toArray⟩:Str)=⟨_⟩;simp
theorem dX{a:List Nat}(h:S a=S b):a=b:=by rw[<-jb a,h,jb]
theorem O4(z:Str):z=S z.cps.toList:=by obtain⟨c⟩:=z;show(⟨c⟩:Str)=⟨_⟩;simp
theorem eV{cs:List Nat}(h:∀c∈cs,c<128):PyData.strOk (S cs)=true:=by
 show cs.toArray.all (· < 0x110000)=true
 simp only[List.all_toArray,GW,bh]
 intro c hc
 have:=h c hc
 omega
theorem NE{cs:List Nat}(h:∀c∈cs,c<128):(S cs).cps.all (· < 128)=true:=by
 show cs.toArray.all (· < 128)=true
 simp only[List.all_toArray,GW,bh]
 exact h
def al(c:Nat):Bool:=PySem.Unicode.isAlnum c
theorem GH(c:Nat):Txt.isalnum (S [c])=al c:=by
 show(decide ((#[c]:Array Nat).size > 0)&&(#[c]:Array Nat).all PySem.Unicode.isAlnum)=_
 simp[al]
theorem wQ{pre:List Nat}{c:Nat}:l8 (S (pre++c::post)).cps.toList (pre.length:Int)=some c:=by
 rw[jb]
 exact jN (by simp)
theorem ND(pre w post:List Nat):Txt.slice (S (pre++w++post)) (some (pre.length:Int)) (some ((pre.length:Int)+(w.length:Int)))=S w:=by
 have e:(pre.length:Int)+(w.length:Int)=((pre.length+w.length:Nat):Int):=by omega
 rw[e,Dg (by omega) (by rw[bn];simp),jb]
 show(⟨_⟩:Str)=⟨_⟩
 simp[List.drop_append,ud]
theorem B1(pre post:List Nat)(c:Nat):Txt.slice (S (pre++c::post)) (some (pre.length:Int)) (some ((pre.length:Int)+2))=S (c::post.take 1):=by
 have e:(pre.length:Int)+2=((pre.length+2:Nat):Int):=by omega
 rw[e,Dg (by omega) (by rw[bn];simp),jb]
 show(⟨_⟩:Str)=⟨_⟩
 simp[List.drop_append,ud]
def Nn:Stmt->Stmt
 |.ClassDef _ _ _ (b::_) _ _ _ _ _ _ _=>b
 |s=>s
theorem Ik{P:Program}{K:PySem.W.Frag}{st:Stmt}{k:Nat}(Ra:P.given.tree=none)(F:Um K x qual st f fd)(S:aR ["self", "tokens"] ["self", "tokens"] (ai st))(c:US K C)(n1:QK K C "tokens")(n2:QK K C "done")(n3:QK K C "steps")(hb:bw st=[.Assign [.Attribute (.Name "self" p1) "tokens" p2] (.Name "tokens" p3) a1,.Assign [.Attribute (.Name "self" p4) "done" p5] (.Constant (.int 0) j p6) a2,.Assign [.Attribute (.Name "self" p7) "steps" p8] (.List [] p9) a3])(v1:dW (ai st) "self"=true)(v2:dW (ai st) "tokens"=true):dJ P w K mg base gH (k+1) f fd ["self", "tokens"] (xS C):=by
 refine F.ok S (fun vs H Q E h=>?_) (fun Q3 A outer s H vs Q E hr h=>?_)
 ·obtain⟨x,dx,l,rfl,_⟩:=h;rfl
 ·obtain⟨x0,dx,l,rfl,hx,q⟩:=h
  have hX:DefX P w K mg base k ["self", "tokens"] (ai st) (qa gH P w K mg base ["self", "tokens"] qual (ai st) f Q3 A outer s H E).Tx:=
   ⟨⟨rfl,rfl,rfl,S.nd,rfl,hr.units,hr.Ss,Ra,⟨_,_,rfl,S.gen,S.co,rfl,rfl⟩⟩,rfl,rfl,rfl,rfl,rfl,hr,⟨fun _=>rfl⟩,rfl,rfl⟩
  have t:=hX.at'
  rw[hb]
  refine⟨_,fm (Bj (su t (i:=0) rfl v1 rfl) (su t (i:=1) rfl v2 rfl) rfl) (fm (Bj (su t (i:=0) rfl v1 rfl) Fo rfl) (kP (Bj (su t (i:=0) rfl v1 rfl) (Fm cO) rfl))),?_⟩
  refine⟨.ref l,rfl,.ref x0,rfl,x0,C,dx,[],rfl,hx,c,n1,by decide,?_⟩
  refine⟨.ref x0,rfl,x0,C,dx,_,rfl,aK,c,n2,(by show 1<1000;decide),?_⟩
  refine⟨bu _,fun p hp=>⟨.ref x0,rfl,x0,C,dx,mv "done" (.int 0) (mv "tokens" (.ref l) []),rfl,?_,c,n3,(show(2:Nat)<1000 by decide),?_⟩⟩
  ·have WK:x0≠p:=fun e=>by subst e;rw[aK] at hp;cases hp
   rw[aJ WK,aK]
  ·have WK:p≠x0:=fun e=>by subst e;rw[aK] at hp;cases hp
   refine q p _ (by rwa [aJ WK,aJ WK] at hp) WK ?_
   funext b
   unfold cA
   by_cases h1:b=x0
   ·rw[ay h1,ay h1];rfl
   ·rw[aq h1,aq h1]
    by_cases h2:b=p
    ·simp[h1,h2,WK]
    ·simp[h1,h2]
theorem DefX.mkR{x:Str}{K:PySem.W.Frag}(h:DefX P w K mg base k N sc X)(F:dJ P w K mg base gH j f fd ps (xS C))(hj:j+1<=k)(M:Mk K C f)(hm:mg x=some (.ref C))(hb:Binds K fd ps [])(c:US K C)(n1:QK K C "tokens")(n2:QK K C "done")(n3:QK K C "steps"):O7 X x C:=by
 obtain⟨h0,rfl,rfl,rfl,rfl,rfl,hr,_⟩:=h
 exact⟨⟨f,fd,ps,j,M,F,hr.mono hj,hb⟩,hm,c,n1,n2,n3⟩
def M0(k:List Int):Int:=reduceHash (Builtin.Tuple.tupleHashOf (k.map hashInt))
def LS.lst(S:LS)(q:Addr):LS where
 cs:=S.cs×List V
 ds:=S.ds×List D
 ov c a:=match S.ov c.1 a with
  |some u=>some u
  |none=>if a=q then some (.lst c.2) else none
 Wu c c' a h:=by
  cases e:S.ov c.1 a with
  |some u=>rw[e] at h;cases h
  |none=>
   rw[e] at h
   rw[S.Wu c.1 c'.1 a e]
   by_cases h1:a=q
   ·have h':(if a=q then some (HO.lst c.2) else none)=none:=h
    rw[ay h1] at h';cases h'
   ·show(if a=q then _ else _)=_
    rw[aq h1]
 rep K F c s:=S.rep K F c.1 s.1/\Qq K F c.2 s.2
 mono:=fun sf h=>⟨S.mono sf h.1,h.2.mono sf⟩
section
variable {S:LS}{st:Stmt}{bS:List Stmt}{s s1 s':S.ds}{ds:List D}
theorem sD{a:Addr}{c:S.cs}(h:S.ov c a=some u):(S.lst q).ov (c,us) a=some u:=by
 show(match S.ov c a with | some u=>some u | none=>if a=q then some (HO.lst us) else none)=some u
 rw[h]
theorem vh{q:Addr}{c:S.cs}(h:S.ov c q=none):(S.lst q).ov (c,us) q=some (.lst us):=by
 show(match S.ov c q with | some u=>some u | none=>if q=q then some (HO.lst us) else none)=_
 rw[h];exact ay rfl
theorem q0{a:Addr}{q:Addr}{c:S.cs}(h:S.ov c a=none)(hq:a≠q):(S.lst q).ov (c,us) a=none:=by
 show(match S.ov c a with | some u=>some u | none=>if a=q then some (HO.lst us) else none)=none
 rw[h];exact aq hq
theorem zy{H:Hp}{q:Addr}{c:S.cs}(hq:H q=some (.lst us))(h0:S.ov c q=none):QF (S.lst q) ⟨F,H⟩ (c,us)=QF S ⟨F,H⟩ c:=by
 have:jW ((S.lst q).ov (c,us)) H=jW (S.ov c) H:=funext fun a=>by
  cases e:S.ov c a with
  |some u=>rw[fH (sD e),fH e]
  |none=>
   rw[cU e]
   by_cases h:a=q
   ·subst h;rw[fH (vh e),hq]
   ·rw[cU (q0 e h)]
 show(⟨F,jW ((S.lst q).ov (c,us)) H⟩:B0)=⟨F,jW (S.ov c) H⟩
 rw[this]
theorem B8{H:Hp}{q:Addr}{c:S.cs}(hc:∀a u,S.ov c a=some u->H a=some u)(h0:S.ov c q=none):QF (S.lst q) ⟨F,H⟩ (c,us)=RD ⟨F,H⟩ q us:=by
 have:jW ((S.lst q).ov (c,us)) H=cA H q (.lst us):=funext fun a=>by
  by_cases h:a=q
  ·subst h;rw[fH (vh h0),aK]
  ·rw[aJ h]
   cases e:S.ov c a with
   |some u=>rw[fH (sD e),hc a u e]
   |none=>rw[cU (q0 e h)]
 show(⟨F,jW ((S.lst q).ov (c,us)) H⟩:B0)=⟨F,cA H q (.lst us)⟩
 rw[this]
def l6(S:LS)(q:Addr):Prop:=∀c,S.ov c q=none
theorem Ln.fst{K:PySem.W.Frag}(hq:l6 S q){c:(S.lst q).cs}{s:(S.lst q).ds}(l:Ln (S.lst q) K B F c s):Ln S K B F c.1 s.1:=⟨fun a u h=>l.st a u (sD h),fun a u h=>l.fr a u (sD h),l.rep.1⟩
theorem Ln.snd{K:PySem.W.Frag}(hq:l6 S q){c:(S.lst q).cs}{s:(S.lst q).ds}(l:Ln (S.lst q) K B F c s):RI K B q F c.2 s.2:=⟨l.st q _ (vh (hq c.1)),l.fr q _ (vh (hq c.1)),l.rep.2⟩
theorem QE.l(hq:l6 S q)(h:QE S X ρ e d s s'):QE (S.lst q) X ρ e d (s,xs) (s',xs):=fun B F H σ Q c l k w=>h B F H σ Q c.1 (l.fst hq) k fun v F' H' c' x r rv=>w v F' H' (c',c.2) (by rw[zy (k.sh _ _ (l.snd hq).st) (hq c')];exact x) ⟨r,l.rep.2.mono x.sf⟩ rv
theorem KQ{X:Cx}(hq:l6 S q){c:(S.lst q).cs}(l:Ln (S.lst q) X.K B F c (s,xs))(k:Ok X.K B F H σ ρ)(w:tD (S.lst q) X.K B F E (s',xs) o):tD S X.K B F E s' o\/tD S X.K ⟨F,B.H⟩ F E s' o:=by
 have e:∀c':S.cs,QF (S.lst q) B (c',c.2)=QF S B c':=fun c'=>zy (F:=B.F) (H:=B.H) (l.snd hq).st (hq c')
 cases o with
 |nx ρ'=>exact .inl fun F' H' σ' c' k' r' sf=>w F' H' σ' (c',c.2) (by rw[e];exact k') ⟨r',l.rep.2.mono sf⟩ sf
 |rt d=>exact .inr fun v F' H' c' x' r' rv=>w v F' H' (c',c.2) (by rw[e];exact(k.Uh (l.fst hq)).toExt.UT x') ⟨r',l.rep.2.mono x'.sf⟩ rv
theorem Ln.Zj{K:PySem.W.Frag}{c:S.cs}(l:Ln S K B F c s)(x:Ext B F H):Ln S K ⟨F,B.H⟩ F c s:=⟨l.st,fun a u h=>l.free x h,l.rep⟩
theorem QX.l(hq:l6 S q)(h:QX S X ρ st o s s'):QX (S.lst q) X ρ st o (s,xs) (s',xs):=fun B F H σ E c l k w=>by
 rcases KQ hq l k w with z | z
 ·exact h B F H σ E c.1 (l.fst hq) k z
 ·exact h ⟨F,B.H⟩ F H σ E c.1 ((l.fst hq).Zj k.toExt) k.now z
theorem R3.zl(hq:l6 S q)(h:R3 X q ρ e d xs xs'):QE (S.lst q) X ρ e d (s,xs) (s,xs'):=fun B F H σ Q c l k w=>h B F H σ Q c.2 (l.snd hq) k fun v F' H' Sd x r rv=>w v F' H' (c.1,Sd) (by rw[B8 ((l.fst hq).now k) (hq c.1)];exact x) ⟨S.mono x.sf l.rep.1,r⟩ rv
theorem S8.zl(hq:l6 S q)(h:S8 X q ρ e b xs):QV (S.lst q) X ρ e b (s,xs) (s,xs):=fun B F H σ Q c l k w=>h B F H σ Q c.2 (l.snd hq) k fun F' H' x=>w F' H' c (x.WE (l.now k)) ((S.lst q).mono x.sf l.rep)
theorem HQ{H:Hp}{q:Addr}{c:S.cs}(hc:∀a u,S.ov c a=some u->H a=some u)(h0:S.ov c q=none):jW ((S.lst q).ov (c,us)) H=cA H q (.lst us):=bJ B0.H (B8 (F:=H) (H:=H) hc h0)
theorem Ha{H:Hp}{q:Addr}{c:S.cs}(h0:S.ov c q=none):QF (S.lst q) ⟨F,H⟩ (c,us)=RD (QF S ⟨F,H⟩ c) q us:=by
 have:jW ((S.lst q).ov (c,us)) H=cA (jW (S.ov c) H) q (.lst us):=funext fun a=>by
  by_cases h:a=q
  ·subst h;rw[fH (vh h0),aK]
  ·rw[aJ h]
   cases e:S.ov c a with
   |some u=>rw[fH (sD e),fH e]
   |none=>rw[cU (q0 e h),cU e]
 show(⟨F,jW ((S.lst q).ov (c,us)) H⟩:B0)=⟨F,cA (jW (S.ov c) H) q (.lst us)⟩
 rw[this]
theorem Ln.apart{K:PySem.W.Frag}{q:Addr}{c:S.cs}(l:Ln S K B F c s)(h:B.H q=none):l6 S q:=fun c'=>by
 cases e:S.ov c' q with
 |none=>rfl
 |some u=>obtain⟨v,hv⟩:=LS.has e c;rw[l.st q v hv] at h;cases h
theorem Dq{ρ:cp}{pos:Pos}{apos:Pos}{Qt:Pos}(hq:l6 S q)(t:At X N sc)(i:Nat)(hr:ρ[i]?=some (.val (.adr q)))(he:QE (S.lst q) X ρ e d (s,xs) (s1,T1))(hz:T1.length<sizeLine)(hN:N[i]?=some x:=by rfl)(hv:dW sc x=true:=by rfl)(hx:cg x=true:=by rfl)(hb2:attributeBase (.Name x py) "append" X.env (eval (.Name x py) X.env)=eval (.Name x py) X.env:=by rfl)(hs:starEach [e] X.env=(false,eval e X.env)::starEach [] X.env:=by rfl)(hline:(apos.endLine==Qt.line)=true:=by rfl)(Sf:(backTo Qt (starEach [] X.env)).any (·.1)=false:=by rfl)(Rx:((backTo Qt (starEach [e] X.env)).all (fun x=>!x.1)&&(backToKw Qt (keywordEach [] X.env)).all (fun x=>x.1.isSome)&&decide (([e]:List Expr).length+([]:List Keyword).length+(if ([]:List Keyword).isEmpty then 0 else 1)<30))=true:=by rfl)(SM:swapsWith (.Call (.Attribute (.Name x py) "append" apos) [e] [] Qt) none pos.line X.env=pure false:=by rfl):
  QX (S.lst q) X ρ (.Expr (.Call (.Attribute (.Name x py) "append" apos) [e] [] Qt) pos) (.nx ρ) (s,xs) (s1,T1++[d]):=fun B F H σ E c l k w=>.mk fun pins st I=>
 gY (qV bM jS jR lU aV (bo aV cO hs) hb2 Rx hline hs Sf) SM pins st σ H E I
  (vU t hr hN hv hx k ⟨.inl ⟨rfl,_,Q1.of (k.sh _ _ (l.snd hq).st)⟩,he B F H σ _ c l k fun v F1 H1 c1 x1 r1 rv=>by
   have k1:=k.Rz l x1
   have l1:Ln (S.lst q) X.K (QF (S.lst q) B c1) F1 c1 (s1,T1):=l.up r1
   refine⟨q,c1.2,v,rfl,rfl,l1.now k1 _ _ (vh (hq c1.1)),by rw[r1.2.length];exact hz,?_⟩
   have k2:Ok X.K (QF (S.lst q) (QF (S.lst q) B c1) (c1.1,c1.2++[v])) F1 (jW ((S.lst q).ov (c1.1,c1.2++[v])) H1) σ ρ:=k1.Uh l1
   have e1:QF (S.lst q) (QF (S.lst q) B c1) (c1.1,c1.2++[v])=QF (S.lst q) B (c1.1,c1.2++[v]):=QF.up (S:=S.lst q)
   rw[e1,HQ ((l1.fst hq).now k1) (hq c1.1)] at k2
   exact w F1 _ σ (c1.1,c1.2++[v]) k2 ⟨r1.1,r1.2.append (.cons rv .nil)⟩ x1.sf⟩)
theorem uf{r:Bool}{ρ:cp}(t:At X N sc)(i:Nat)(hr:ρ[i]?=some (.val (.adr q)))(sh:SeqAt.shaped (PyData.list (QA xs))=true)(he:r = !xs.isEmpty)(hN:N[i]?=some x:=by rfl)(hv:dW sc x=true:=by rfl)(hx:cg x=true:=by rfl):
  S8 X q ρ (.Compare (.Name x py) [.NotEq] [.List [] p3] pos) r xs:=fun B F H σ Q us l k w=>.mk fun pins s I=>by
 refine fP (E8 t (p:=.list (QA xs)) (q:=.list []) sh rfl) aV aV (dH _ (by decide) (by decide)) pins s σ H Q I ?_
 refine vU t hr hN hv hx k ?_
 refine(bI (X:=X) (ρ:=ρ) aj).toQ.p B F H σ _ k fun v F' H' x' rd=>?_
 refine⟨fun hc H2 s2 pins σ s u I ru=>?_,rd,r,?_,w F' H' x'⟩
 ·cases(show u=Value.ref q from ru)
  exact UJ.reads (k:=true) I (x'.sub.trans s2) (show Q1 _ _ _ _ from Q1.of (s2 _ _ (x'.sh _ _ (k.sh _ _ l.st)))) (l.rep.mono x'.sf) hc
 ·subst he
  cases xs with
  |nil=>rfl
  |cons n ns=>rfl
theorem xK{pos:Pos}(t:At X N sc)(h:QE S X ρ e d s s')(hg:TY X ρ tg d ρ')(hs:swapsWithSole [tg] e pos.line X.env=pure false:=by rfl)(hw:swappedStores [tg] e (dE sc)=pure none:=by rfl)(h1:(assignEach [tg] X.env).map (·.2)=[assign tg X.env]:=by rfl):QX S X ρ (.Assign [tg] e pos) (.nx ρ') s s':=fun B F H σ E c l k w=>.mk fun pins st I=>
 Fe aV Fj hs ((ug (show X.env.scope=(dE sc).scope from t.eS)).trans hw) h1 pins st σ H E I (h B F H σ _ c l k fun v F1 H1 c1 x1 r1 rv=>hg (QF S B c1) F1 H1 σ v _ (k.Rz l x1) rv fun F2 H2 σ2 k2 s2=>w F2 H2 σ2 c1 k2 (S.mono s2 r1) (x1.sf.trans s2))
theorem G8{ρ:cp}[Th X](t:At X N sc)(i:Nat)(hr:ρ[i]?=some (.val (.str z)))(h:QE S X ρ e (.str w) s s')(hz:z.length+w.length<=sizeLine)(hi:N[i]?=some x:=by rfl)(hx:ku sc x=true:=by rfl):
  QX S X ρ (.AugAssign (.Name x pos') .Add e pos) (.nx (ρ.set i (.val (.str (z++w))))) s s':=fun B F H σ E c l k q=>.mk fun pins st I=>
 Bk (i:=i) t.nd (t.ix hi) (t.loc hx) aV (show Ma X .Add _ from tx) AZ pins st σ H E I (by
  obtain⟨v,h1,h2⟩:=k.vals i _ hr
  cases h2
  exact⟨_,h1,h B F H σ _ c l k fun v F' H' c1 x' r rv=>by
   cases rv
   exact⟨z,w,rfl,rfl,hz,q F' H' _ c1 ((k.Rz l x').QN i (.str _)) r x'.sf⟩⟩)
theorem yu(ha:QE S X ρ a (.str z) s s1)(hb:QE S X ρ b (.str w) s1 s')(hz:z.length+w.length<=sizeLine):QE S X ρ (.BinOp a .Add b pos) (.str (z++w)) s s':=fun B F H σ Q c l k q=>.mk fun pins st I=>
 qT mx aV aV pins st σ H Q I (Dt ha hb l k fun x y F' H' c' x' r' rx ry=>by
  cases rx;cases ry
  exact⟨z,w,rfl,rfl,hz,q _ F' H' c' x' r' (.str _)⟩)
end
section
variable {ds:List D}{s s1 s':Int×List D}
theorem oS{ρ:cp}{pos:Pos}{apos:Pos}{Qt:Pos}(t:At X N sc)(ok:k8 X.K r)(i:Nat)(hr:ρ[i]?=some (.val (.adr r.p)))(he:QE (Qy r) X ρ e (.lst ys) s s1)(hz:s1.2.length+ys.length<=sizeLine)(hN:N[i]?=some x:=by rfl)(hv:dW sc x=true:=by rfl)(hx:cg x=true:=by rfl)(hb:attributeBase (.Name x py) "steps" X.env (eval (.Name x py) X.env)=eval (.Name x py) X.env:=by rfl)(hb2:attributeBase (.Attribute (.Name x py) "steps" ps) "extend" X.env (eval (.Attribute (.Name x py) "steps" ps) X.env)=eval (.Attribute (.Name x py) "steps" ps) X.env:=by rfl)(hs:starEach [e] X.env=(false,eval e X.env)::starEach [] X.env:=by rfl)(hline:(apos.endLine==Qt.line)=true:=by rfl)(Sf:(backTo Qt (starEach [] X.env)).any (·.1)=false:=by rfl)(Rx:((backTo Qt (starEach [e] X.env)).all (fun x=>!x.1)&&(backToKw Qt (keywordEach [] X.env)).all (fun x=>x.1.isSome)&&decide (([e]:List Expr).length+([]:List Keyword).length+(if ([]:List Keyword).isEmpty then 0 else 1)<30))=true:=by rfl)(SM:swapsWith (.Call (.Attribute (.Attribute (.Name x py) "steps" ps) "extend" apos) [e] [] Qt) none pos.line X.env=pure false:=by rfl):
  QX (Qy r) X ρ (.Expr (.Call (.Attribute (.Attribute (.Name x py) "steps" ps) "extend" apos) [e] [] Qt) pos) (.nx ρ) s (s1.1,s1.2++ys):=fun B F H σ E c l k w=>.mk fun pins st I=>
 gY (qV bM NR NQ xo (vc aV hb) (bo aV cO hs) hb2 Rx hline hs Sf) SM pins st σ H E I
  (Ea t hr hN hv hx k ⟨r.p,r.C,r.dx,_,.ref r.q,rfl,l.now k _ _ Qy.Vg,ok.cls,ok.n3,rfl,.inl ⟨rfl,_,Q1.of (l.now k _ _ (Qy.Vm ok.ne))⟩,he B F H σ _ c l k fun v F1 H1 c1 x1 r1 rv=>by
   have k1:=k.Rz l x1
   have l1:Ln (Qy r) X.K (QF (Qy r) B c1) F1 c1 s1:=l.up r1
   cases rv with
   |@lst b ws _ hf rl=>
   refine⟨r.q,b,c1.2,ws,rfl,rfl,l1.now k1 _ _ (Qy.Vm ok.ne),x1.sub _ _ hf,by rw[r1.2.1.length,rl.length];exact hz,?_⟩
   have k2:Ok X.K (QF (Qy r) (QF (Qy r) B c1) (c1.1,c1.2++ws)) F1 (jW ((Qy r).ov (c1.1,c1.2++ws)) H1) σ ρ:=k1.Uh l1
   have e1:QF (Qy r) (QF (Qy r) B c1) (c1.1,c1.2++ws)=QF (Qy r) B (c1.1,c1.2++ws):=QF.up (S:=Qy r)
   rw[e1,Fq (c:=c1) (c':=(c1.1,c1.2++ws)) ok.ne (l1.now k1) rfl] at k2
   exact w F1 _ σ (c1.1,c1.2++ws) k2 ⟨r1.1,r1.2.1.append rl,r1.2.2⟩ x1.sf⟩)
def Hk(K:PySem.W.Frag)(C:List Str->Int×List D->List D->D->Int×List D->List D->Prop):Sp:=fun vs H Q _=>∃(r:rW) (q:Addr) (F:Hp) (d:D) (c:((Qy r).lst q).cs) (s s':Int×List D) (xs xs':List D),Qx F H/\k8 K r/\l6 (Qy r) q/\(∀a u,((Qy r).lst q).ov c a=some u->H a=some u)/\(∀a u,((Qy r).lst q).ov c a=some u->F a=none)/\((Qy r).lst q).rep K F c (s,xs)/\Qq K F vs [.adr r.p,.adr q]/\C r.toks s xs d s' xs' /\
 ∀v F' H' c',Ext (QF ((Qy r).lst q) ⟨F,H⟩ c') F' H'->((Qy r).lst q).rep K F' c' (s',xs')->Rep K F' v d->Q v H'
def Sy(X:Cx)(x:Str)(C:List Str->Int×List D->List D->D->Int×List D->List D->Prop):Prop:=∃(f:Addr) (fd:FuncData) (ps:List Str) (k:Nat),dJ X.prog X.w X.K X.mg X.base gH k f fd ps (Hk X.K C)/\QR k X.A/\X.mg x=some (.ref f)/\PySem.W.keepIn X.K (.ref f)=true/\Binds X.K fd ps []
theorem Im{P:Program}(Ra:P.given.tree=none){w:World}{K:PySem.W.Frag}{mg:Str->Option Value}{base:Heap}{x qual:Str}{st:Stmt}{f:Addr}{fd:FuncData}{N ps:List Str}{k:Nat}{C:List Str->Int×List D->List D->D->Int×List D->List D->Prop}(F:Um K x qual st f fd)(S:aR N ps (ai st))(len:2=ps.length)(body:∀X,DefX P w K mg base k N (ai st) X->∀(r:rW) (q:Addr),k8 X.K r->l6 (Qy r) q->∀s xs d s' xs',C r.toks s xs d s' xs'->Rb ((Qy r).lst q) X (.val (.adr r.p) :: .val (.adr q)::List.replicate (N.length-2) Sl.un) (bw st) (.rt d) (s,xs) (s',xs')):dJ P w K mg base gH (k+1) f fd ps (Hk K C):=by
 refine F.ok S (fun vs H Q E h=>?_) (fun Q3 A outer s H vs Q E hr h=>?_)
 ·obtain⟨r,q,F',d,c,s,s',xs,xs',sub,ok,ap,h1,h2,h3,rv,hC,g⟩:=h
  rw[rv.length];exact len
 ·obtain⟨r,q,F',d,c,s1,s',xs,xs',sub,ok,ap,h1,h2,h3,rv,hC,g⟩:=h
  refine⟨_,dn,?_⟩
  have hx:DefX P w K mg base k N (ai st) (qa gH P w K mg base N qual (ai st) f Q3 A outer s H E).Tx:=
   ⟨⟨rfl,rfl,rfl,S.nd,rfl,hr.units,hr.Ss,Ra,⟨_,_,rfl,S.gen,S.co,rfl,rfl⟩⟩,rfl,rfl,rfl,rfl,rfl,hr,⟨fun _=>rfl⟩,rfl,rfl⟩
  have hk:Ok K ⟨F',H⟩ F' H (start N vs) ([.adr r.p,.adr q].map Sl.val++List.replicate (N.length-2) Sl.un):=by
   unfold start
   rw[rv.length]
   exact i9 sub rv _
  exact body _ hx r q ok ap s1 xs d s' xs' hC ⟨F',H⟩ F' H _ _ c ⟨h1,h2,h3⟩ hk fun v F2 H2 c2 x2 r2 rv=>g v F2 H2 c2 x2 r2 rv
theorem DefX.Vd{K:PySem.W.Frag}{x:Str}{C:List Str->Int×List D->List D->D->Int×List D->List D->Prop}(h:DefX P w K mg base k N sc X)(F:dJ P w K mg base gH j f fd ps (Hk K C))(hj:j<=k)(hm:mg x=some (.ref f))(hk:PySem.W.keepIn K (.ref f)=true)(hb:Binds K fd ps []):Sy X x C:=by
 obtain⟨h0,rfl,rfl,rfl,rfl,rfl,hr,_⟩:=h
 exact⟨f,fd,ps,j,F,hr.mono hj,hm,hk,hb⟩
theorem wU{pos:Pos}[Th X](t:At X N sc)(ok:k8 X.K r){C:List Str->Int×List D->List D->D->Int×List D->List D->Prop}(h:Sy X x C)(i j:Nat)(ha:Qp X ρ e0 (.adr r.p))(hr:ρ[i]?=some (.own xs))(hC:C r.toks s xs d s' xs')(hN:N[i]?=some z:=by rfl)(hv:dW sc z=true:=by rfl)(hx:cg z=true:=by rfl)(hj:N[j]?=some y:=by rfl)(hy:ku sc y=true:=by rfl)(hg:sc.names.lookup x=some .globalImplicit:=by rfl)(Rr:(x==("__debug__" : Str))=false:=by rfl)(hs:Pl (.Name z pz):=by intro _ _;rfl)(he:Pl e0:=by intro _ _;rfl)(SM:swapsWith (.Call (.Name x p) [e0,.Name z pz] [] Qt) (some (.Name y pos')) pos.line X.env=pure false:=by rfl):
  QX (Qy r) X ρ (.Assign [.Name y pos'] (.Call (.Name x p) [e0,.Name z pz] [] Qt) pos) (.nx ((ρ.set i (.own xs')).set j (.val d))) s s':=fun B F0 H σ E c l k w=>.mk fun pins st I=>by
 obtain⟨f,fd,ps,kk,F,Uc,hm,hk,hb⟩:=h
 have pz':gc gH X E0:=nH
 refine mw (i:=j) t.nd (t.ix hj) (t.loc hy) (iS F Uc (dA t hg) hm hk hb .nil pz' (bo aV (bo aV cO (hs _ _)) (he _ _)) Rr (he _ _) (by rw[hs];rfl)) SM AZ pins st σ H E I ?_
 refine ha B F0 H σ _ k fun v0 F1 H1 x1 rv1=>?_
 have k1:=k.ext x1
 have l1:Ln (Qy r) X.K B F1 c s:=l.ext x1
 refine nJ t hr hN hv hx k1 fun a us h1 h2 h3=>?_
 obtain⟨a',Sd,o1,o2,o3,o4,o5⟩:=k1.Rj i xs hr
 rw[h1] at o1
 cases o1
 have ap:l6 (Qy r) a:=l1.apart o4
 refine⟨r,a,F1,d,(c,us),s,s',xs,xs',k1.sub,ok,ap,fun b u hb=>?_,fun b u hb=>?_,⟨l1.rep,h3⟩,?_,hC,fun v F2 H2 c2 x2 r2 rv=>?_⟩
 ·by_cases XG:b=a
  ·subst XG
   rw[vh (ap c)] at hb
   cases hb;exact h2
  ·cases e:(Qy r).ov c b with
   |some u'=>rw[sD e] at hb;cases hb;exact l1.now k1 _ _ e
   |none=>rw[q0 e XG] at hb;cases hb
 ·by_cases XG:b=a
  ·subst XG;exact o3
  ·cases e:(Qy r).ov c b with
   |some u'=>exact l1.ff k1 _ _ e
   |none=>rw[q0 e XG] at hb;cases hb
 ·exact .cons rv1 (.cons (.adr a) .nil)
 ·have x2:Ext (RD (QF (Qy r) ⟨F1,H1⟩ c2.1) a c2.2) F2 H2:=(Ha (S:=Qy r) (F:=F1) (H:=H1) (us:=c2.2) (ap c2.1)) ▸ x2
  have k2:Ok X.K (QF (Qy r) B c2.1) F1 (jW ((Qy r).ov c2.1) H1) σ ρ:=k1.Uh l1
  have k3:=k2.back hr h1 x2 r2.2
  exact w F2 H2 _ c2.1 (k3.QN j rv) r2.1 (x1.sf.trans x2.sf)
end
inductive Rg(S:LS)(X:Cx)(cd:Expr)(body:List Stmt):Nat->cp->S.ds->Out->S.ds->Prop where
 |stop {ρ:cp} {s s1:S.ds}:QV S X ρ cd false s s1->Rg S X cd body 0 ρ s (.nx ρ) s1
 |ret {ρ:cp} {s s1 s2:S.ds} {d:D}:QV S X ρ cd true s s1->Rb S X ρ body (.rt d) s1 s2->Rg S X cd body 0 ρ s (.rt d) s2
 |step {n:Nat} {ρ ρ1:cp} {o:Out} {s s1 s2 s3:S.ds}:QV S X ρ cd true s s1->Rb S X ρ body (.nx ρ1) s1 s2->Rg S X cd body n ρ1 s2 o s3->Rg S X cd body (n+1) ρ s o s3
section
variable {S:LS}{s s':S.ds}
theorem wR(t:At X N sc)(h:∃n,Rg S X cd body n ρ s o s'):QX S X ρ (.While cd body [] pos) o s s':=fun B F H σ E c l k q=>.mk fun pins w I=>
 u6 t.pass lR dn pins w σ H E I (by
  obtain⟨n,h⟩:=h
  refine⟨fun m σ H=>∃ρ1 F1 c1 s1,Ok X.K (QF S B c1) F1 H σ ρ1/\S.rep X.K F1 c1 s1/\Qx F F1/\Rg S X cd body m ρ1 s1 o s',⟨n,ρ,F,c,s,by rw[QF.same l.st];exact k,l.rep,.refl _,h⟩,?_⟩
  rintro m σ H ⟨ρ1,F1,c1,s1,k1,r1,sf,run⟩
  have l1:Ln S X.K (QF S B c1) F1 c1 s1:=l.up r1
  cases run with
  |stop hc=>
   refine hc (QF S B c1) F1 H σ _ c1 l1 k1 fun F2 H2 c2 x2 r2=>?_
   rw[aq aE]
   have k2:=k1.Rz l1 x2
   rw[QF.up] at k2
   exact q F2 H2 σ c2 k2 r2 (sf.trans x2.sf)
  |@ret _ _ sa _ d hc hb=>
   refine hc (QF S B c1) F1 H σ _ c1 l1 k1 fun F2 H2 c2 x2 r2=>?_
   rw[ay rfl]
   have k2:=k1.Rz l1 x2
   rw[QF.up] at k2
   refine⟨fun σ' H'=>False,fun σ' H' h=>h.elim,hb (QF S B c2) F2 H2 σ _ c2 (l.up r2) k2 fun v F3 H3 c3 x3 r3 rv=>?_⟩
   rw[QF.up] at x3
   exact q v F3 H3 c3 x3 r3 rv
  |@step n0 _ ρa _ _ sa sb _ hc hb r=>
   refine hc (QF S B c1) F1 H σ _ c1 l1 k1 fun F2 H2 c2 x2 r2=>?_
   rw[ay rfl]
   have k2:=k1.Rz l1 x2
   rw[QF.up] at k2
   refine⟨fun σ' H'=>∃SJ VN,Ok X.K (QF S B VN) SJ H' σ' ρa/\S.rep X.K SJ VN sb/\Qx F SJ,fun σ' H' ⟨SJ,VN,Vy,Xb,T2⟩=>⟨_,e8 _,_,SJ,VN,_,Vy,Xb,T2,r⟩,hb (QF S B c2) F2 H2 σ _ c2 (l.up r2) k2 fun F3 H3 σ3 c3 k3 r3 s3=>⟨F3,c3,?_,r3,sf.trans (x2.sf.trans s3)⟩⟩
   rw[QF.up] at k3;exact k3)
end
structure y7(P:Program)(w:World)(K:PySem.W.Frag)(a:Addr)(kvs:List (Str×Addr))(ep:Nat):Prop where
 lo:(a==sysModules)=false
 at':∀h:Heap,K.In h->h.DictAt (gy P w) a (kvs.map fun p=>((Sum.inr p.1:rX),Value.ref p.2)) ep
section
variable {ds:List D}{kvs:List (Str×Addr)}
abbrev sJ(kvs:List (Str×Addr)):List (rX×Value):=kvs.map fun p=>((Sum.inr p.1:rX),Value.ref p.2)
theorem Kw{X:Cx}(g:y7 X.prog X.w X.K q kvs ep):nb X (compareOp .In) (fun x y H Q=>∃k,x=.str k/\y=.ref q/\Q (.bl (valueAt (sJ kvs) (Sum.inr k)).isSome) H):=by
 intro pins s σ H x y v u Q I rx ry h
 obtain⟨k,rfl,rfl,z⟩:=h
 obtain⟨t,rfl⟩:=rx
 cases ry
 exact wpAny_in_of (knd:=gy X.prog X.w) (k:=Sum.inr k) (oX k t) g.lo (g.at' _ I.Se).dictOf.mapOf ⟨.bl _,H,I.tok _,rfl,z⟩
theorem vG{r:Bool}{x:Str}(t:At X N sc)(g:y7 X.prog X.w X.K q kvs ep)(ha:Qp X ρ a (.str k))(hm:X.mg x=some (.ref q))(he:(valueAt (sJ kvs) (Sum.inr k)).isSome=r)(hg:sc.names.lookup x=some .globalImplicit:=by rfl)(Rr:(x==("__debug__" : Str))=false:=by rfl)(hb:behindInMarks .In (.Name x py)=false:=by rfl):Qs X ρ (.Compare a [.In] [.Name x py] pos) r:=
 .of (fP (Kw g) aV aV hb) fun B F H σ Q k' w=>two ha (rH t hm hg Rr) k' fun u v F' H' x' ru rv=>by
  cases ru;cases rv
  exact⟨k,rfl,rfl,_,rfl,by rw[he];exact w F' H' x'⟩
theorem K3{X:Cx}(g:y7 X.prog X.w X.K q kvs ep):LP X (fun x y H Q=>∃k l,x=.ref q/\y=.str k/\valueAt (sJ kvs) (Sum.inr k)=some (.ref l)/\Q (.ref l) H):=by
 intro value slice pins s σ H x y v u Q I rx ry h hs
 obtain⟨k,l,rfl,rfl,hv,z⟩:=h
 cases rx
 obtain⟨t,rfl⟩:=ry
 have dd:=g.at' _ I.Se
 exact dP (x:=.ref l) dd.dictOf.typeIs PySem.F.slot_dict_getitem.lookup
  (wpAny_getItem_of (knd:=gy X.prog X.w) (Q:=fun r s'=>r=.ref l/\EP X pins σ Q r s') (k:=Sum.inr k) (oX k t) dd.dictOf.mapOf hv ⟨rfl,.ref l,H,I.tok _,rfl,z⟩) hs
theorem Ls{x:Str}(t:At X N sc)(g:y7 X.prog X.w X.K q kvs ep)(ha:Qp X ρ a (.str k))(hm:X.mg x=some (.ref q))(he:valueAt (sJ kvs) (Sum.inr k)=some (.ref l))(hg:sc.names.lookup x=some .globalImplicit:=by rfl)(Rr:(x==("__debug__" : Str))=false:=by rfl)(hs:iV a:=by intro _ _;rfl):Qp X ρ (.Subscript (.Name x py) a pos) (.adr l):=
 .of (vb (K3 g) aV aV hs) fun B F H σ Q k' w=>two (rH t hm hg Rr) ha k' fun u v F' H' x' ru rv=>by
  cases ru;cases rv
  exact⟨k,l,rfl,rfl,he,w _ F' H' x' (.adr l)⟩
theorem wY:∀(kvs:List (Str×Addr)) (us:List Value),us.length=kvs.length->(∀(j:Nat) (v:Value),us[j]?=some v->∃k x,(sJ kvs)[j]?=some (k,x)/\xr k v=true)->Vals (kvs.map fun p=>V.str p.1) us
 |[],[],_,_=>.nil
 |p::kvs,u::us,hl,h=>by
  obtain⟨k,x,e,hk⟩:=h 0 u rfl
  cases e
  rcases dD hk with⟨i,t,e,_⟩ | ⟨z,t,e,rfl⟩
  ·cases e
  ·cases e
   exact .cons ⟨t,rfl⟩ (wY kvs us (by simpa using hl) fun j v hj=>h (j+1) v hj)
 |[],u::us,hl,_=>by simp at hl
 |p::kvs,[],hl,_=>by simp at hl
theorem wv{X:Cx}(g:y7 X.prog X.w X.K q kvs ep)(hc:X.calm=true)(hz:kvs.length<=sizeLine):ic X (.type "list") (fun xs H Q=>xs=[.ref q]/\∀l,H l=none->Q (.ref l) (cA H l (.lst (kvs.map fun p=>V.str p.1)))):=by
 intro pins s σ H xs us Q I r h
 obtain⟨rfl,z⟩:=h
 obtain⟨u,rfl,rx⟩:=j0 r
 cases rx
 have dd:=g.at' _ I.Se
 have hl:(sJ kvs).length=kvs.length:=af _
 refine PySem.W.kdl_call (PySem.W.kdl_dict (knd:=gy X.prog X.w) g.lo) (I.ok.hd hc) dd (by rw[hl];exact hz) fun h' tk Vh c' kp e VF=>?_
 refine⟨.ref s.heap.objs.size,_,I.laid (t':=tk) (o:=.lst (kvs.map fun p=>V.str p.1)) kp (ak _) (show QC X.prog X.w _ h' _ (.lst _) from⟨by rw[af];exact hz,Vh.toList,c',?_,by simpa using e⟩),rfl,z _ (I.QG.fresh (ak _))⟩
 exact wY kvs Vh.toList (by rw[bZ,VF.1,hl]) fun j v e=>VF.2 j v (by rw[<-me];exact e)
theorem Gm{x:Str}(t:At X N sc)(g:y7 X.prog X.w X.K q kvs ep)(bl:pi X sc y (.type "list"))(hm:X.mg x=some (.ref q))(hz:kvs.length<=sizeLine)(hg:sc.names.lookup x=some .globalImplicit:=by rfl)(Rr:(x==("__debug__" : Str))=false:=by rfl)(RZ:Pl (.Name x py):=by intro _ _;rfl):
  QJ X ρ (.Call (.Name y p) [.Name x py] [] pos) (kvs.map fun p=>D.str p.1):=
 .of (lS (wv g t.calm hz) (dA t bl.g) bl.m bl.v (bo aV cO (RZ _ _)) bl.n bl.d (RZ _ _) rfl) fun B F H σ Q k' w=>(rH t hm hg Rr) B F H σ _ k' fun v F' H' x' r=>by
  cases r
  refine⟨rfl,fun p hp=>?_⟩
  have rl:∀kvs:List (Str×Addr),Qq X.K F' (kvs.map fun p=>V.str p.1) (kvs.map fun p=>D.str p.1):=fun kvs=>by
   induction kvs with
   |nil=>exact .nil
   |cons p kvs ih=>exact .cons (.str _) ih
  exact w p _ F' _ ⟨x'.sub.trans (aP hp),x'.sh.trans (aP hp),x'.sf,x'.nw⟩ (x'.sh.free hp) aK (x'.sub.free hp) (rl kvs)
def R6(K:PySem.W.Frag)(l:Addr)(ns:List Int):Prop:=∃(o:Obj) (its:Array Value) (n:Nat),K.lookup l=some o/\o.cls=.type "tuple" /\ o.data=.seq its n/\its.size<=sizeLine/\Vals (ns.map V.int) its.toList
theorem R6.sq{K:PySem.W.Frag}(g:R6 K l ns)(H:Hp):RB K H l (ns.map V.int):=.inr g
theorem Ng(h:Qp X ρ e (.adr l))(g:R6 X.K l ns):Ti X ρ tg e (ns.map D.int):=.of (Fh aV) fun B F H σ R k w=>h B F H σ _ k fun v F' H' x r=>by
 cases r
 exact⟨_,rfl,⟨_,g.sq H'⟩,w _ F' H' x (FN (fun H2 s2=>g.sq H2) (Qq.ints ns))⟩
theorem La{X:Cx}(g:R6 X.K l ns)(hk:PySem.W.kitOne X.K (.type "tuple") (.type T)=some k):
  ic X (.builtin "isinstance") (fun xs H Q=>xs=[.ref l,.ty T]/\Q (.bl k) H):=by
 intro pins s σ H xs us Q I r h
 obtain⟨rfl,z⟩:=h
 obtain⟨u,w,rfl,ru,Sj⟩:=zx r
 cases(show w=Value.type T from Sj)
 cases(show u=Value.ref l from ru)
 obtain⟨o,its,n,h1,h2,h3,h4,h5⟩:=g
 exact cq PySem.W.kitx_tuple I.Se ⟨o,I.Se _ _ h1,h2⟩ hk (fun z=>nomatch z) fun tk=>⟨.bl k,H,I.tok tk,rfl,z⟩
theorem Iu(t:At X N sc)(g:R6 X.K l ns)(bl:pi X sc x (.builtin "isinstance"))(bt:pi X sc y (.type T))(ha:Qp X ρ a (.adr l))(hk:PySem.W.kitOne X.K (.type "tuple") (.type T)=some k)(hpa:Pl a:=by intro _ _;rfl):
  Qp X ρ (.Call (.Name x p) [a,.Name y py] [] pos) (.bl k):=
 .of (j7 (La g hk) (dA t bl.g) bl.m bl.v (bo aV (bo (yd (v:=.ty T) (dA t bt.g) bt.m bt.v rfl bt.n bt.d) cO) (hpa _ _)) bl.n bl.d (hpa _ _) rfl) fun B F H σ Q k' w=>
  ha B F H σ _ k' fun v F' H' x' r=>by
   cases r
   exact⟨rfl,w _ F' H' x' (.bl k)⟩
theorem DQ:Mc X "str.startswith" (fun v vs H Q=>∃(z w:Str),v=.str z/\vs=[.str w]/\Q (.bl (Txt.startswith z w)) H):=by
 intro pins s σ H v vs u us Q I rv Vv h
 obtain⟨z,w,rfl,rfl,q⟩:=h
 obtain⟨t,rfl⟩:=rv
 obtain⟨u2,rfl,⟨t2,rfl⟩⟩:=j0 Vv
 exact PySem.SC.startswith ⟨.bl _,H,I,rfl,q⟩
theorem o6{r:Bool}{apos:Pos}(ho:Qp X ρ a (.str z))(ha:Qp X ρ e (.str w))(hi:Txt.startswith z w=r)(hs:Pl e:=by intro _ _;rfl)(Ry:attributeBase a "startswith" X.env (eval a X.env)=eval a X.env:=by rfl)(Rx:((backTo Qt (starEach [e] X.env)).all (fun x=>!x.1)&&(backToKw Qt (keywordEach [] X.env)).all (fun x=>x.1.isSome)&&decide (([e]:List Expr).length+([]:List Keyword).length+(if ([]:List Keyword).isEmpty then 0 else 1)<30))=true:=by rfl)(hline:(apos.endLine==Qt.line)=true:=by rfl):
  Qp X ρ (.Call (.Attribute a "startswith" apos) [e] [] Qt) (.bl r):=
 .of (qV lC PySem.F.slot_str_startswith PySem.F.type_str_startswith DQ aV (bo aV cO (hs _ _)) Ry Rx hline (hs _ _) rfl) fun B F H σ Q k q=>
  ho B F H σ _ k fun v F1 H1 x1 r1=>by
   cases r1
   refine⟨rfl,ha B F1 H1 σ _ (k.ext x1) fun v2 F2 H2 x2 r2=>?_⟩
   cases r2;subst hi
   exact⟨z,w,rfl,rfl,q _ F2 H2 (x1.t x2) (.bl _)⟩
def sQ(z w:Str):List Str:=Builtin.Str.partsBetween z (Builtin.Str.occurrences z w 0 z.length (z.length+1)) w.length
structure GO(z w:Str):Prop where
 h1:(decide (z.length<w.length)||decide (Builtin.Str.strKind z<Builtin.Str.strKind w))=false
 h2:(w.length==0)=false
 h3:(Builtin.Str.occurrences z w 0 z.length (z.length+1)).isEmpty=false
 h4:z.length<=sizeLine
 h5:(sQ z w).length<=sizeLine
theorem wX:∀(ps:List Str) (n:Nat),Vals (ps.map V.str) (strsFrom n ps)
 |[],_=>.nil
 |p::ps,n=>.cons ⟨_,rfl⟩ (wX ps (n+1))
theorem Fx:Mc X "str.split" (fun v vs H Q=>∃(z w:Str),v=.str z/\vs=[.str w]/\GO z w/\∀l,H l=none->Q (.ref l) (cA H l (.lst ((sQ z w).map V.str)))):=by
 intro pins s σ H v vs u us Q I rv Vv h
 obtain⟨z,w,rfl,rfl,ok,q⟩:=h
 obtain⟨t,rfl⟩:=rv
 obtain⟨u2,rfl,⟨t2,rfl⟩⟩:=j0 Vv
 refine AS Pi (Qb _ _ _) PySem.F.entry_str_split (PySem.F.args_str_split_2 _ _) (meets_str_split_sep z w t t2 ok.h1 ok.h2 ok.h3 ok.h4 ok.h5) ?_
 exact⟨.ref s.heap.objs.size,_,I.laid (o:=.lst ((sQ z w).map V.str)) (fun b o e=>ar _ e) (ak _) (show QC X.prog X.w _ _ _ (.lst _) from⟨by rw[af];exact ok.h5,_,_,wX _ _,aO _ rfl⟩),rfl,q _ (I.QG.fresh (ak _))⟩
theorem Gi{apos:Pos}(ho:Qp X ρ a (.str z))(ha:Qp X ρ e (.str w))(ok:GO z w)(hs:Pl e:=by intro _ _;rfl)(Ry:attributeBase a "split" X.env (eval a X.env)=eval a X.env:=by rfl)(Rx:((backTo Qt (starEach [e] X.env)).all (fun x=>!x.1)&&(backToKw Qt (keywordEach [] X.env)).all (fun x=>x.1.isSome)&&decide (([e]:List Expr).length+([]:List Keyword).length+(if ([]:List Keyword).isEmpty then 0 else 1)<30))=true:=by rfl)(hline:(apos.endLine==Qt.line)=true:=by rfl):
  QJ X ρ (.Call (.Attribute a "split" apos) [e] [] Qt) ((sQ z w).map D.str):=
 .of (qV lC Pi PySem.F.type_str_split Fx aV (bo aV cO (hs _ _)) Ry Rx hline (hs _ _) rfl) fun B F H σ Q k q=>
  ho B F H σ _ k fun v F1 H1 x1 r1=>by
   cases r1
   refine⟨rfl,ha B F1 H1 σ _ (k.ext x1) fun v2 F2 H2 x2 r2=>?_⟩
   cases r2
   have x':=x1.t x2
   have rl:∀ps:List Str,Qq X.K F2 (ps.map V.str) (ps.map D.str):=fun ps=>by
    induction ps with
    |nil=>exact .nil
    |cons p ps ih=>exact .cons (.str _) ih
   exact⟨z,w,rfl,rfl,ok,fun p hp=>q p _ F2 _ ⟨x'.sub.trans (aP hp),x'.sh.trans (aP hp),x'.sf,x'.nw⟩ (x'.sh.free hp) aK (x'.sub.free hp) (rl _)⟩
theorem FD{ρ:cp}{pos:Pos}(t:At X N sc){C:D->List D->List D->Prop}(h:RA X x C)(i:Nat)(hr:ρ[i]?=some (.val (.adr q)))(ha:Qp X ρ e d0)(hC:C d0 xs xs')(hN:N[i]?=some y:=by rfl)(hv:dW sc y=true:=by rfl)(hx:cg y=true:=by rfl)(hg:sc.names.lookup x=some .globalImplicit:=by rfl)(Rr:(x==("__debug__" : Str))=false:=by rfl)(hs:Pl (.Name y py):=by intro _ _;rfl)(he:Pl e:=by intro _ _;rfl)(SM:swapsWith (.Call (.Name x p) [e,.Name y py] [] Qt) none pos.line X.env=pure false:=by rfl):
  t7 X q ρ (.Expr (.Call (.Name x p) [e,.Name y py] [] Qt) pos) (.nx ρ) xs xs':=fun B F0 H σ E us l0 k w=>.mk fun pins st I=>by
 obtain⟨f,fd,ps,kk,F,Uc,hm,hk,hb⟩:=h
 have pz:gc gH X E0:=nH
 refine gY (iS F Uc (dA t hg) hm hk hb .nil pz (bo aV (bo aV cO (hs _ _)) (he _ _)) Rr (he _ _) (by rw[hs];rfl)) SM pins st σ H E I ?_
 refine ha B F0 H σ _ k fun v0 F1 H1 x1 r1=>?_
 have k1:=k.ext x1
 have l1:RI X.K B q F1 us xs:=l0.ext x1
 refine vU t hr hN hv hx k1 ?_
 refine⟨q,F1,d0,us,xs,xs',k1.sub,k1.sh _ _ l1.st,l1.ff k1,l1.rep,.cons r1 (.cons (.adr q) .nil),hC,fun v F2 H2 WC x2 r2 rv=>w F2 H2 σ WC (k1.Ug l1 x2) r2 (x1.sf.trans x2.sf)⟩
end
theorem MF(z:Str):Str.empty++z=z:=by
 obtain⟨c⟩:=z
 show(⟨#[]++c⟩:Str)=⟨c⟩
 rw[Array.empty_append]
theorem ME(z:Str):z++Str.empty=z:=by
 obtain⟨c⟩:=z
 show(⟨c ++ #[]⟩:Str)=⟨c⟩
 rw[Array.append_empty]
theorem w6(x y z:Str):x++y++z=x++(y++z):=by
 obtain⟨a⟩:=x;obtain⟨b⟩:=y;obtain⟨c⟩:=z
 show(⟨a++b++c⟩:Str)=⟨a++(b++c)⟩
 rw[Array.append_assoc]
def Md(X:Cx)(ρ:cp)(es:List Expr)(w:Str):Prop:=∀(B:B0) (F H:Hp) (σ:St) (Q:VK) (out:Str),Ok X.K B F H σ ρ->out.length+w.length<=sizeLine->(∀F' H',Ext ⟨F,H⟩ F' H'->Q (.str (out++w)) H') ->
 ∀(pins:List (Addr×Obj)) (s:Shared),Inv X pins σ H s->wpAny (model X.prog X.w) X.A (joinParts out (evalEach es X.env)) (EP X pins σ Q) X.xe s
section
theorem BJ:Md X ρ [] Str.empty:=fun B F H σ Q out k hz h pins s I=>joinParts_nilE (joinParts_nil ⟨.str out,H,I.tok _,⟨_,rfl⟩,by have:=h F H (.refl k.sub);rw[ME] at this;exact this⟩ (by omega))
theorem lZ(h:Md X ρ es w):Md X ρ (.Constant (.str z) j p::es) (z++w):=fun B F H σ Q out k hz g pins s I=>by
 have T4:(out++z).length+w.length<=sizeLine:=by rw[pP] at hz ⊢;omega
 refine joinParts_consE (zj (Jb ⟨by omega,?_⟩))
 refine h B F H σ Q (out++z) k T4 (fun F' H' x'=>?_) pins _ (I.tok _)
 rw[w6];exact g F' H' x'
theorem vJ(ha:Qp X ρ a (.str z))(h:Md X ρ es w):Md X ρ (.FormattedValue a (-1) none p::es) (z++w):=fun B F H σ Q out k hz g pins s I=>by
 have T4:(out++z).length+w.length<=sizeLine:=by rw[pP] at hz ⊢;omega
 refine joinParts_consE (zj (Mi (de (ha B F H σ (fun v H'=>∃F',Ext ⟨F,H⟩ F' H'/\Rep X.K F' v (.str z)) k (fun v F' H' x r=>⟨F',x,r⟩) pins s I) fun u s1 ⟨v,H1,I1,rv,F1,x1,r1⟩=>?_)))
 cases r1
 obtain⟨t,rfl⟩:=rv
 refine formatField_str (fun t' tk=>?_) (by rw[pP] at hz;omega)
 refine⟨by omega,h B F1 H1 σ Q (out++z) (k.ext x1) T4 (fun F' H' x'=>?_) pins _ (I1.tok _)⟩
 rw[w6];exact g F' H' (x1.t x')
theorem sN(h:Md X ρ (e1::e2::es) w)(hz:w.length<=sizeLine):Qp X ρ (.JoinedStr (e1::e2::es) pos) (.str w):=fun B F H σ Q k g=>.mk fun pins s I=>
 JoinedStr_many (h B F H σ Q Str.empty k (by show 0+_<=_;omega) (fun F' H' x'=>by rw[MF];exact g _ F' H' x' (.str w)) pins s I)
def Dp(P:Program)(w:World)(K:PySem.W.Frag)(q:Addr)(xs:List (List Int×Addr×Value)):Prop:=∀h:Heap,K.In h->h.DictOfH (tupleKind (intKind P w)) q xs
theorem Ib{xs:List (List Int×Addr×Value)}(t:At X N sc)(g:Dp X.prog X.w X.K q xs):LP X (fun x y H Q=>∃k b c z tk,x=.ref q/\y=.ref b/\H b=some (.tup (List.map V.int k))/\atKey xs k=some (c,.str z tk)/\Q (.str z) H):=by
 intro value slice pins s σ H x y v u Q I rx ry h hs
 obtain⟨k,b,c,z,tk,rfl,rfl,hb,hv,q'⟩:=h
 cases rx
 cases ry
 have dd:=g _ I.Se
 exact dP (x:=.str z tk) dd.typeIs PySem.F.slot_dict_getitem.lookup
  (IZ (Q:=fun r s'=>r=.str z tk/\EP X pins σ Q r s') (l7 (by have:=t.un;omega)) (xO I hb) dd hv ⟨rfl,.str z,H,I.tok _,⟨_,rfl⟩,q'⟩) hs
theorem Is{k:List Int}{x:Str}{xs:List (List Int×Addr×Value)}(t:At X N sc)(g:Dp X.prog X.w X.K q xs)(ha:Qp X ρ a (.tup (k.map D.int)))(hm:X.mg x=some (.ref q))(he:atKey xs k=some (c,.str z tk))(hg:sc.names.lookup x=some .globalImplicit:=by rfl)(Rr:(x==("__debug__" : Str))=false:=by rfl)(hs:iV a:=by intro _ _;rfl):Qp X ρ (.Subscript (.Name x py) a pos) (.str z):=
 .of (vb (Ib t g) aV aV hs) fun B F H σ Q k' w=>two (rH t hm hg Rr) ha k' fun u v F' H' x' ru rv=>by
  cases ru
  cases rv with
  |@tup bt vs ds hf rl=>
   have ev:=Qq.Ru rl
   subst ev
   exact⟨k,bt,c,z,tk,rfl,rfl,x'.sub _ _ hf,he,w _ F' H' x' (.str z)⟩
theorem Ht{pos:Pos}(t:At X N sc)(i j:Nat)(h1:Qp X ρ a u)(h2:QJ X ρ b ws)(WM:i≠j)(hi:N[i]?=some x:=by rfl)(hj:N[j]?=some y:=by rfl)(hx:sc.names.lookup x=some .local:=by rfl)(hy:sc.names.lookup y=some .local:=by rfl)(hw:swappedStores [.Tuple [.Name x px,.Name y py] kt pt] (.Tuple [a,b] k2 Vw) (dE sc)=pure (some [x,y]):=by rfl)(hs:swapsWithSole [.Tuple [.Name x px,.Name y py] kt pt] (.Tuple [a,b] k2 Vw) pos.line X.env=pure false:=by rfl)(VA:starEach [a,b] X.env=(false,eval a X.env)::starEach [b] X.env:=by rfl)(UG:starEach [b] X.env=(false,eval b X.env)::starEach [] X.env:=by rfl):
  QQ X ρ (.Assign [.Tuple [.Name x px,.Name y py] kt pt] (.Tuple [a,b] k2 Vw) pos) (.nx ((ρ.set i (.val u)).set j (.own ws))):=
 .of (Fc (i:=i) (j:=j) t.calm t.nd (t.ix hi) (t.ix hj) WM (by rw[t.eS];exact hx) (by rw[t.eS];exact hy) (bo aV (bo aV cO UG) VA) ((ug (show X.env.scope=(dE sc).scope from t.eS)).trans hw) hs) fun B F H σ E k q=>
  h1 B F H σ _ k fun v F1 H1 x1 r1=>h2 B F1 H1 σ _ (k.ext x1) fun p2 vs2 F2 H2 x2 g0 gp gf r2=>by
   have g00:H p2=none:=x1.sh.free g0
   have ko:=(k.ext (x1.t x2)).QN i (r1.mono x2.sf)
   have no2:QS (σ.set i (some v)) (ρ.set i (.val u)) p2:=fun m xs e z=>by
    by_cases him:i=m
    ·subst him
     rw[List.getElem?_set] at e
     rw[ay rfl] at e
     split at e<;>cases e
    ·rw[av him] at e z
     exact k.noOwn g00 m xs e z
   exact⟨v,.ref p2,rfl,q F2 H2 _ (ko.Tw j gp gf (k.sh.free g00) no2 r2) (x1.t x2).sf⟩
end
abbrev GG:=List (List Int×Addr×Value)
def kq(a:Addr)(ys:GG):Heap->Prop:=fun h=>ys.length<=sizeLine/\(a==sysModules)=false/\∃o,h.get? a=some o/\o.ExactDict/\∃(es:Array DictEntry) (ep:Nat),o.data=.dict es ep/\(∀(P:Program) (w:World),es.toList=ys.map (entryOfKey (tupleKind (intKind P w))))/\(ys.map (·.1)).Nodup
section
theorem Cc(I:Inv X pins σ H s)(h:kq a ys s.heap)(hk:∀y∈ys,H y.2.1=some (.tup (y.1.map V.int))):s.heap.DictOfH (tupleKind (intKind X.prog X.w)) a ys:=by
 obtain⟨z,hd,o,ho,hx,es,ep,h1,h2,nd⟩:=h
 exact⟨o,es,ep,ho,hx,h1,h2 _ _,fun y hy=>xO I (hk y hy),nd⟩
theorem EH{h:Heap}{a:Addr}{ys:GG}(z:ys.length<=sizeLine)(hd:(a==sysModules)=false)(dd:h.DictOfH (tupleKind (intKind P w)) a ys):kq a ys h:=by
 obtain⟨o,es,ep,h1,h2,h3,h4,h5,h6⟩:=dd
 exact⟨z,hd,o,h1,h2,es,ep,h3,fun _ _=>h4,h6⟩
theorem EI(z:kq a ys h):QC P w H' h a (.ext (kq a ys)):=by
 refine⟨z,let ⟨_,_,o,h1,_⟩:=z;⟨o,h1⟩,fun h1 h2 y k=>?_⟩
 obtain⟨q1,q2,o,h3,h4⟩:=y
 exact⟨q1,q2,o,k o h3,h4⟩
def zK(ys is:GG):GG:=is.foldl (fun acc x=>storedH acc x.1 x.2.1 x.2.2) ys
theorem uN(ys:GG)(k:List Int)(b:Addr)(u:Value):(storedH ys k b u).length<=ys.length+1:=by
 unfold storedH
 split
 ·rw[af];omega
 ·rw[ac,bL];omega
theorem Ba{ys:GG}{u:Value}{G:List Int->Addr->Prop}(h:∀y∈ys,G y.1 y.2.1)(hb:G k b):∀y∈storedH ys k b u,G y.1 y.2.1:=by
 intro y hy
 unfold storedH at hy
 split at hy
 ·obtain⟨y',Wa,rfl⟩:=a6.mp hy
  unfold putAt
  split
  ·exact h y' Wa
  ·exact h y' Wa
 ·rcases aM.mp hy with z | z
  ·exact h y z
  ·rw[a7] at z;subst z;exact hb
theorem EG{X:Cx}{a:Addr}(hu:X.A.units<cLine){Q:PUnit->Shared->Prop}:∀(is:GG) (ys:GG) (H:Hp) (s:Shared),Inv X pins σ H s->H a=some (.ext (kq a ys))->(∀x∈ys,H x.2.1=some (.tup (x.1.map V.int)))->(∀x∈is,H x.2.1=some (.tup (x.1.map V.int))) ->
  ys.length+is.length<sizeLine->(∀s',Inv X pins σ (cA H a (.ext (kq a (zK ys is)))) s'->Q PUnit.unit s') ->
  wpAny (model X.prog X.w) X.A (forIn (is.map fun x=>(Value.ref x.2.1,x.2.2)) PUnit.unit fun x _=>do
   dictSet a x.fst x.snd
   pure (ForInStep.yield PUnit.unit)) Q E s:=by
 intro is
 induction is with
 |nil=>
  intro ys H s I h1 h2 h3 hz q
  have e:cA H a (.ext (kq a ys))=H:=funext fun b=>by
   by_cases hb:b=a
   ·subst hb;rw[aK,h1]
   ·rw[aJ hb]
  have q':=q s
  rw[show zK ys []=ys from rfl,e] at q'
  exact au (q' I)
 |cons x is ih=>
  intro ys H s I h1 h2 h3 hz q
  obtain⟨k,b,u⟩:=x
  rw[a5] at hz
  rw[aS,oI]
  have zz:kq a ys s.heap:=(show QC X.prog X.w H s.heap a (.ext (kq a ys)) from I.QG a _ h1).1
  have dd:=Cc I zz h2
  have hb:H b=some (.tup (k.map V.int)):=h3 (k,b,u) (by simp)
  refine ae (ae (wpAny_dictSet_heap (by show X.A.units<cLine;exact hu) (xO I hb) dd (fun h' VH sb=>?_) zz.1))
  refine au ?_
  have z:kq a (storedH ys k b u) h':=EH (by have:=uN ys k b u;omega) zz.2.1 VH
  have I2:Inv X pins σ (cA H a (.ext (kq a (storedH ys k b u)))) { s with heap:=h',toks:=s.toks+(tupleKind (intKind X.prog X.w)).draws k }:=
   I.write (x:=a) (e:=a) (by rw[h1];exact True.intro) (.inl rfl) (fun c q hc w=>(sb.2 c hc).trans w) (let ⟨_,_,o,h1,_⟩:=z;⟨o,h1⟩) (EI z)
  have tn:∀c ks,H c=some (.tup ks)->cA H a (.ext (kq a (storedH ys k b u))) c=some (.tup ks):=fun c ks hc=>by
   rw[aJ (fun z=>by subst z;rw[h1] at hc;cases hc)];exact hc
  refine ih (storedH ys k b u) _ _ I2 aK (fun y hy=>Ba (G:=fun k b=>cA H a (.ext (kq a (storedH ys _ _ u))) b=some (.tup (k.map V.int))) (fun y hy=>tn _ _ (h2 y hy)) (tn _ _ hb) y hy) (fun y hy=>tn _ _ (h3 y (by simp[hy]))) (by have:=uN ys k b u;omega) fun s' I3=>q s' ?_
  rw[xN] at I3;exact I3
theorem BX{ys:GG}{k:List Int}(h:∀y∈ys,y.1≠k):atKey ys k=none:=by
 unfold atKey
 rw[List.find?_eq_none.mpr (fun y hy=>by simpa using h y hy)];rfl
theorem zJ:∀(is ys:GG),(∀x∈is,∀y∈ys,y.1≠x.1)->(is.map (·.1)).Nodup->zK ys is=ys++is
 |[],ys,_,_=>by simp[zK]
 |x::is,ys,h,nd=>by
  have e:storedH ys x.1 x.2.1 x.2.2=ys++[x]:=by
   unfold storedH
   rw[BX (h x (by simp))]
   simp
  rw[aS,c8] at nd
  show zK (storedH ys x.1 x.2.1 x.2.2) is=_
  rw[e,zJ is (ys++[x]) (fun z hz y hy=>?_) nd.2]
  ·simp
  ·rcases aM.mp hy with w | w
   ·exact h z (by simp[hz]) y w
   ·rw[a7] at w;subst w
    exact fun q=>nd.1 (a6.mpr ⟨z,hz,q.symm⟩)
end
abbrev JH:=List (List Int×Str)
def UQ(F:Hp)(kts:JH)(ys:GG):Prop:=Paired (fun(q:List Int×Str) (x:List Int×Addr×Value)=>x.1=q.1/\(∃tk,x.2.2=.str q.2 tk)/\F x.2.1=some (.tup (x.1.map V.int))) kts ys
theorem UQ.mono(h:Qx F F')(r:UQ F kts ys):UQ F' kts ys:=by
 induction r with
 |nil=>exact .nil
 |cons a t ih=>exact .cons ⟨a.1,a.2.1,h _ _ a.2.2⟩ ih
theorem UQ.keys(r:UQ F kts ys):ys.map (·.1)=kts.map (·.1):=by
 induction r with
 |nil=>rfl
 |cons a t ih=>rw[aS,aS,ih,a.1]
theorem UQ.RH(r:UQ F kts ys):∀y∈ys,F y.2.1=some (.tup (y.1.map V.int)):=by
 induction r with
 |nil=>exact fun _ z=>nomatch z
 |cons a t ih=>
  intro y hy
  rcases aC.mp hy with rfl | hy
  ·exact a.2.2
  ·exact ih y hy
theorem UQ.at{k:List Int}(r:UQ F kts ys)(h:((kts.find? fun p=>decide (p.1=k)).map (·.2))=some z):∃c tk,atKey ys k=some (c,.str z tk):=by
 induction r with
 |nil=>cases h
 |@cons p q ps qs hq t ih=>
  obtain⟨h1,⟨tk,h2⟩,h3⟩:=hq
  rw[c9] at h
  by_cases e:p.1=k
  ·have e':decide (p.1=k)=true:=by simp[e]
   rw[e'] at h
   cases h
   have e2:decide (q.1=k)=true:=by simp[h1,e]
   refine⟨q.2.1,tk,?_⟩
   show(List.find? _ (q::qs)).map _=_
   rw[c9,e2]
   show some q.2=some (q.2.1,Value.str p.2 tk)
   rw[<-h2]
  ·have e':decide (p.1=k)=false:=by simp[e]
   have e2:decide (q.1=k)=false:=by simp[h1,e]
   rw[e'] at h
   have e3:atKey (q::qs) k=atKey qs k:=by
    show(List.find? _ (q::qs)).map _=_
    rw[c9,e2];rfl
   rw[e3];exact ih h
section
inductive TX(X:Cx)(ρ:cp):List (Option Expr)->List Expr->JH->Prop where
 |nil:TX X ρ [] [] []
 |cons {a b:Expr} {as:List (Option Expr)} {bs:List Expr} {k:List Int} {z:Str} {r:JH}:Qp X ρ a (.tup (k.map D.int))->Qp X ρ b (.str z)->TX X ρ as bs r->TX X ρ (some a::as) (b::bs) ((k,z)::r)
theorem TX.len{bs:List Expr}(h:TX X ρ as bs kts):as.all (·.isSome)=true/\as.length=bs.length/\as.length=kts.length:=by
 induction h with
 |nil=>exact⟨rfl,rfl,rfl⟩
 |cons h1 h2 h3 ih=>exact⟨by rw[List.all_cons,ih.1];rfl,bJ Nat.succ ih.2.1,bJ Nat.succ ih.2.2⟩
theorem TX.walk{bs:List Expr}(h:TX X ρ as bs kts):∀{B:B0} {F H:Hp} {σ:St},Ok X.K B F H σ ρ->∀{pins:List (Addr×Obj)} {s:Shared},Inv X pins σ H s ->
  wpAny (model X.prog X.w) X.A (evalPairs (pairTrees as bs X.env pos)) (fun ws s'=>∃F' H' is,Inv X pins σ H' s'/\Ext ⟨F,H⟩ F' H'/\UQ F' kts is/\ws=is.map fun x=>(Value.ref x.2.1,x.2.2)) X.xe s:=by
 induction h with
 |nil=>intro B F H σ kk pins s I;exact I0 ⟨F,H,[],I,.refl kk.sub,.nil,rfl⟩
 |@cons a b as bs k z r h1 h2 h3 ih=>
  intro B F H σ kk pins s I
  refine GR (de (h1 B F H σ (fun v H1=>∃F1,Ext ⟨F,H⟩ F1 H1/\Rep X.K F1 v (.tup (k.map D.int))) kk (fun v F1 H1 x1 r1=>⟨F1,x1,r1⟩) pins s I) fun u s1 ⟨v,H1,I1,rv,F1,x1,r1⟩=>?_)
  have k1:=kk.ext x1
  refine de (h2 B F1 H1 σ (fun v H2=>∃F2,Ext ⟨F1,H1⟩ F2 H2/\Rep X.K F2 v (.str z)) k1 (fun v F2 H2 x2 r2=>⟨F2,x2,r2⟩) pins s1 I1) fun u2 s2 ⟨v2,H2,I2,UD,F2,x2,r2⟩=>?_
  refine de (ih (k1.ext x2) I2) fun ws s3 ⟨F3,H3,xs,I3,x3,r3,pr⟩=>?_
  cases r2
  obtain⟨tk,rfl⟩:=UD
  cases r1 with
  |@tup bt vs ds hf rl=>
  have ev:=Qq.Ru rl
  subst ev
  cases(show u=Value.ref bt from rv)
  exact⟨F3,H3,(k,bt,.str z tk)::xs,I3,(x1.t x2).t x3,.cons ⟨rfl,⟨tk,rfl⟩,x3.sf _ _ (x2.sf _ _ hf)⟩ r3,by rw[pr];rfl⟩
def NL(X:Cx)(ρ:cp)(e:Expr)(kts:JH):Prop:=∀(B:B0) (F H:Hp) (σ:St) (Q:VK),Ok X.K B F H σ ρ->(∀p ys F' H',Ext ⟨F,H⟩ F' H'->H p=none->H' p=some (.ext (kq p ys))->F' p=none->UQ F' kts ys->Q (.ref p) H')->wE X e σ H Q
theorem IE{bs:List Expr}(t:At X N sc)(h:TX X ρ as bs kts)(nd:(kts.map (·.1)).Nodup)(h0:as≠[]:=by exact fun z=>nomatch z)(h15:as.length<=15:=by decide):NL X ρ (.Dict as bs pos) kts:=fun B F H σ Q kk q=>.mk fun pins s I=>by
 obtain⟨l1,l2,l3⟩:=h.len
 rw[arm_eval_Dict,zip_pairTrees as bs X.env pos l1 l2]
 have Sf:(pairTrees as bs X.env pos).length=as.length:=NP as bs X.env pos l1 l2
 rw[LZ _ (fun z=>h0 (bc (by rw[<-Sf,z];rfl))) (by omega)]
 refine ae (i6 (ae ?_))
 unfold subDict
 refine ae (Ef ?_)
 have hn:=I.QG.fresh (ak s.heap.objs.size)
 have hb:sysModules<s.heap.objs.size:=je (by decide) (show mainGlobals<s.heap.objs.size from(I.mod.glob.keeps I.bk).lt)
 have z:kq s.heap.objs.size [] (s.heap.push { cls:=.type "dict",data:=.dict #[] }):=EH (P:=X.prog) (w:=X.w) (bu _) (bj.mpr (Ne.symm (bi hb))) (NS s.heap)
 have I1:=I.laid (a:=s.heap.objs.size) (o:=.ext (kq s.heap.objs.size [])) (h':=s.heap.push { cls:=.type "dict",data:=.dict #[] }) (t':=s.toks) (fun _ _ q=>ar _ q) (ak _) (EI z)
 have x1:Ext ⟨F,H⟩ F (cA H s.heap.objs.size (.ext (kq s.heap.objs.size []))):=⟨kk.sub.trans (aP hn),aP hn,.refl _,fun _ z=>.inl z⟩
 refine ae (bR ?_)
 rw[ay (by omega)]
 refine ae (de (h.walk (kk.ext x1) I1) fun ws s2 ⟨F2,H2,is,I2,x2,r2,pr⟩=>?_)
 refine bR (ae ?_)
 have UH:F2 s.heap.objs.size=none:=by
  cases e:F2 s.heap.objs.size with
  |none=>rfl
  |some o=>
   rcases x2.nw s.heap.objs.size (by rw[e];exact cy o) with w | w
   ·exact absurd (kk.sub.free hn) w
   ·have w':cA H s.heap.objs.size (.ext (kq s.heap.objs.size [])) s.heap.objs.size=none:=w
    rw[aK] at w';cases w'
 have h2:H2 s.heap.objs.size=some (.ext (kq s.heap.objs.size [])):=x2.sh _ _ aK
 have hk:=r2.keys
 have hlen:is.length=kts.length:=by have:=bJ List.length hk;rw[af,af] at this;exact this
 subst pr
 refine EG (by have:=t.un;omega) is [] H2 s2 I2 h2 (fun _ z=>nomatch z) (fun x hx=>x2.sub _ _ (r2.RH x hx)) (by rw[fC,jQ];omega) fun s3 I3=>?_
 rw[zJ is [] (fun _ _ _ z=>nomatch z) (by rw[hk];exact nd),List.nil_append] at I3
 refine au (au (au ⟨.ref s.heap.objs.size,_,I3,rfl,?_⟩))
 have Up:=x1.t x2
 refine q _ is F2 _ ⟨fun c u w=>?_,fun c u w=>?_,Up.sf,Up.nw⟩ hn aK UH r2
 ·have ne:c≠s.heap.objs.size:=fun z=>by subst z;rw[UH] at w;cases w
  rw[aJ ne];exact Up.sub c u w
 ·have ne:c≠s.heap.objs.size:=fun z=>by subst z;have w':H s.heap.objs.size=some u:=w;rw[hn] at w';cases w'
  rw[aJ ne];exact Up.sh c u w
def Yu(q:Addr)(kts:JH)(F H:Hp):Prop:=∃ys,H q=some (.ext (kq q ys))/\UQ F kts ys
theorem Yu.ext(h:Yu q kts F H)(x:Ext ⟨F,H⟩ F' H'):Yu q kts F' H':=let ⟨ys,h1,h2⟩:=h;⟨ys,x.sh _ _ h1,h2.mono x.sf⟩
def Tn(X:Cx)(ρ:cp)(q:Addr)(kts:JH)(e:Expr)(d:D):Prop:=∀(B:B0) (F H:Hp) (σ:St) (Q:VK),Yu q kts F H->Ok X.K B F H σ ρ->(∀v F' H',Ext ⟨F,H⟩ F' H'->Rep X.K F' v d->Q v H')->wE X e σ H Q
theorem Qp.k(h:Qp X ρ e d):Tn X ρ q kts e d:=fun B F H σ Q _ k w=>h B F H σ Q k w
theorem Tn.eq{d':D}(h:Tn X ρ q kts e d)(z:d=d'):Tn X ρ q kts e d':=z ▸ h
theorem yB(ha:Tn X ρ q kts a (.str z))(hb:Tn X ρ q kts b (.str w))(hz:z.length+w.length<=sizeLine):Tn X ρ q kts (.BinOp a .Add b pos) (.str (z++w)):=fun B F H σ Q tk k g=>.mk fun pins st I=>
 qT mx aV aV pins st σ H Q I (ha B F H σ _ tk k fun x F1 H1 x1 r1=>hb B F1 H1 σ _ (tk.ext x1) (k.ext x1) fun y F2 H2 x2 r2=>by
  cases r1;cases r2
  exact⟨z,w,rfl,rfl,hz,g _ F2 H2 (x1.t x2) (.str _)⟩)
theorem M1(t:At X N sc):LP X (fun x y H Q=>∃k b c z tk ys,x=.ref q/\y=.ref b/\H q=some (.ext (kq q ys))/\(∀y∈ys,H y.2.1=some (.tup (y.1.map V.int)))/\H b=some (.tup (List.map V.int k))/\atKey ys k=some (c,.str z tk)/\Q (.str z) H):=by
 intro value slice pins s σ H x y v u Q I rx ry h hs
 obtain⟨k,b,c,z,tk,ys,rfl,rfl,hq,hk,hb,hv,q'⟩:=h
 cases rx
 cases ry
 have dd:=Cc I (show QC X.prog X.w H s.heap q (.ext (kq q ys)) from I.QG q _ hq).1 hk
 exact dP (x:=.str z tk) dd.typeIs PySem.F.slot_dict_getitem.lookup
  (IZ (Q:=fun r s'=>r=.str z tk/\EP X pins σ Q r s') (l7 (by have:=t.un;omega)) (xO I hb) dd hv ⟨rfl,.str z,H,I.tok _,⟨_,rfl⟩,q'⟩) hs
theorem Nf{k:List Int}{ρ:cp}{kts:JH}(t:At X N sc)(i:Nat)(hr:ρ[i]?=some (.val (.adr q)))(ha:Qp X ρ a (.tup (k.map D.int)))(he:((kts.find? fun p=>decide (p.1=k)).map (·.2))=some z)(hN:N[i]?=some x:=by rfl)(hv:dW sc x=true:=by rfl)(hx:cg x=true:=by rfl)(hs:iV a:=by intro _ _;rfl):Tn X ρ q kts (.Subscript (.Name x py) a pos) (.str z):=fun B F H σ Q tk k' w=>.mk fun pins st I=>
 vb (M1 t) aV aV hs pins st σ H Q I ((aa t i hr hN hv hx) B F H σ _ k' fun u F1 H1 x1 r1=>ha B F1 H1 σ _ (k'.ext x1) fun v F2 H2 x2 r2=>by
  cases r1
  cases r2 with
  |@tup bt vs ds hf rl=>
   have ev:=Qq.Ru rl
   subst ev
   obtain⟨ys,g1,g2⟩:=(tk.ext x1).ext x2
   obtain⟨c,tk',e'⟩:=g2.at he
   exact⟨k,bt,c,z,tk',ys,rfl,rfl,g1,fun y hy=>x2.sub _ _ (g2.RH y hy),x2.sub _ _ hf,e',w _ F2 H2 (x1.t x2) (.str z)⟩)
theorem Gh{pos:Pos}[Th X](t:At X N sc)(i:Nat)(h1:NL X ρ e kts)(h2:∀q,Tn X (ρ.set i (.val (.adr q))) q kts a d)(hi:N[i]?=some y:=by rfl)(hx:ku sc y=true:=by rfl)(hs:swapsWith e (some (.Name y pos')) pos.line X.env=pure false:=by rfl):
  Qr X ρ [.Assign [.Name y pos'] e pos,.Return (some a) ps] (.rt d):=fun B F H σ E k w=>.mk fun pins s I=>by
 refine fm sv dn pins s σ H E I (.mk fun pins s I=>mw (i:=i) t.nd (t.ix hi) (t.loc hx) aV hs AZ pins s σ H _ I (h1 B F H σ _ k fun p vs F1 H1 x1 g0 g1 g2 r1=>?_))
 have k1:=(k.ext x1).QN i (.adr p)
 exact .mk fun pins s I=>kP (pX aV) pins s _ H1 E I (h2 p B F1 H1 _ _ ⟨vs,g1,r1⟩ k1 fun v F2 H2 x2 r2=>w v F2 H2 (k1.toExt.trans x2) r2)
end
structure Kd(K:PySem.W.Frag)(x:Str)(st:Stmt)(f:Addr)(fd:FuncData):Prop where
 a:PySem.W.nsIn K mainGlobals x=some (some (.ref f))
 F:Um K x x st f fd
structure Bn(K:PySem.W.Frag)(mg:Str->Option Value)(x:Str)(f:Addr)(fd:FuncData)(ps:List Str):Prop where
 m:mg x=some (.ref f)
 k:PySem.W.keepIn K (.ref f)=true
 b:Binds K fd ps []
section
variable {K:PySem.W.Frag}{st:Stmt}
theorem kd{an:Option Addr}{kV doc pm Q3 ct:Value}{x:Str}(a:PySem.W.nsIn K mainGlobals x=some (some (.ref f)))(l:K.lookup f=some ⟨oc,od,.func (PySem.W.fnOf x x (hZ st) (bw st) (ai st) .none kV doc pm an Q3 ct),V5⟩)(c:PySem.W.codeIn K Q3 x=true)(k:PySem.W.keepIn K (.ref f)=true):Kd K x st f (PySem.W.fnOf x x (hZ st) (bw st) (ai st) .none kV doc pm an Q3 ct):=⟨a,FT l c k⟩
theorem Kd.b1(d:Kd K x st f fd)(X:K.In h)(G:h.Ns mainGlobals mg)(S:aR N [p] (ai st))(hb:∀(kV doc pm:Value) (an:Option Addr) (Q3 ct a:Value),bindArgs (PySem.W.fnOf x x (hZ st) (bw st) (ai st) .none kV doc pm an Q3 ct) ⟨[a],[]⟩=pure ([p].zip [a]):=by intros;rfl):Bn K mg x f fd [p]:=
 ⟨bV X G d.a,d.F.kp,d.F.binds fun kV doc pm an Q3 ct us hl=>match us,hl with | [a],_=>hb kV doc pm an Q3 ct a⟩
theorem Kd.b2(d:Kd K x st f fd)(X:K.In h)(G:h.Ns mainGlobals mg)(S:aR N [p,q] (ai st))(hb:∀(kV doc pm:Value) (an:Option Addr) (Q3 ct a b:Value),bindArgs (PySem.W.fnOf x x (hZ st) (bw st) (ai st) .none kV doc pm an Q3 ct) ⟨[a,b],[]⟩=pure ([p,q].zip [a,b]):=by intros;rfl):Bn K mg x f fd [p,q]:=
 ⟨bV X G d.a,d.F.kp,d.F.binds fun kV doc pm an Q3 ct us hl=>match us,hl with | [a,b],_=>hb kV doc pm an Q3 ct a b⟩
theorem Kd.b3(d:Kd K x st f fd)(X:K.In h)(G:h.Ns mainGlobals mg)(S:aR N [p,q,r] (ai st))(hb:∀(kV doc pm:Value) (an:Option Addr) (Q3 ct a b c:Value),bindArgs (PySem.W.fnOf x x (hZ st) (bw st) (ai st) .none kV doc pm an Q3 ct) ⟨[a,b,c],[]⟩=pure ([p,q,r].zip [a,b,c]):=by intros;rfl):Bn K mg x f fd [p,q,r]:=
 ⟨bV X G d.a,d.F.kp,d.F.binds fun kV doc pm an Q3 ct us hl=>match us,hl with | [a,b,c],_=>hb kV doc pm an Q3 ct a b c⟩
theorem DefX.ca{C:List D->D->Prop}(h:DefX P w K mg base k N sc X)(F:dJ P w K mg base gH j f fd ps (GY K C))(b:Bn K mg x f fd ps)(hj:j<=k:=by decide):EV.Callee X x C:=h.callee F hj b.m b.k b.b
theorem DefX.caD{C:List D->ik->Prop}(h:DefX P w K mg base k N sc X)(F:dJ P w K mg base gH j f fd ps (NZ K C))(b:Bn K mg x f fd ps)(hj:j<=k:=by decide):EV.RX X x C:=h.VM F hj b.m b.k b.b
theorem DefX.X5{C:D->List D->List D->Prop}(h:DefX P w K mg base k N sc X)(F:dJ P w K mg base gH j f fd ps (Hl K C))(b:Bn K mg x f fd ps)(hj:j<=k:=by decide):EV.RA X x C:=h.Ve F hj b.m b.k b.b
theorem DefX.X4{C:List D->List D->D->List D->Prop}(h:DefX P w K mg base k N sc X)(F:dJ P w K mg base gH j f fd ps (MG K C))(b:Bn K mg x f fd ps)(hj:j<=k:=by decide):EV.Rk X x C:=h.VJ F hj b.m b.k b.b
theorem DefX.Sh{C:List Str->List D->Int×List D->D->Int×List D->Prop}(h:DefX P w K mg base k N sc X)(F:dJ P w K mg base gH j f fd ps (MH K C))(b:Bn K mg x f fd ps)(hj:j<=k:=by decide):EV.Qu X x C:=h.VL F hj b.m b.k b.b
theorem DefX.caRN{C:List D->List Str->Prop}(h:DefX P w K mg base k N sc X)(F:dJ P w K mg base gH j f fd ps (Hj K C))(b:Bn K mg x f fd ps)(hj:j<=k:=by decide):EV.Sx X x C:=h.Vc F hj b.m b.k b.b
theorem DefX.caRL{C:List Str->Int×List D->List D->D->Int×List D->List D->Prop}(h:DefX P w K mg base k N sc X)(F:dJ P w K mg base gH j f fd ps (Hk K C))(b:Bn K mg x f fd ps)(hj:j<=k:=by decide):EV.Sy X x C:=h.Vd F hj b.m b.k b.b
end
theorem DefX.bt{K:PySem.W.Frag}{x:Str}(h:DefX P w K mg base k N sc X)(m:mg x=none)(g:sc.names.lookup x=some .globalImplicit:=by rfl)(v:bootBuiltins x=some u:=by rfl)(n:x ≠ "__name__" := by decide)(d:(x==("__debug__" : Str))=false:=by rfl):pi X sc x u:=⟨g,by rw[h.Sm];exact m,v,n,d⟩
theorem gR{N P:List Str}{sc:Scope}(h:sc.kind=.function/\sc.isCoroutine=false/\sc.isGenerator=false/\N.Nodup/\N.take P.length=P/\(∀x∈P,sc.names.lookup x=some .local\/sc.names.lookup x=some .cell)/\∀y∈sc.names,y.2 ≠ .free):aR N P sc:=⟨h.1,h.2.1,h.2.2.1,h.2.2.2.1,h.2.2.2.2.1,h.2.2.2.2.2.1,h.2.2.2.2.2.2⟩
abbrev Go(X:Cx)(N:List Str)(st:Stmt)(C:List D->D->Prop):Prop:=∀ds d,C ds d->Qr X (ds.map Sl.val++List.replicate (N.length-ds.length) Sl.un) (bw st) (.rt d)
abbrev En(X:Cx)(N:List Str)(st:Stmt)(C:List Str->List D->Int×List D->D->Int×List D->Prop):Prop:=∀(r:rW),k8 X.K r->∀ds s d s',C r.toks ds s d s'->Rb (Qy r) X (.val (.adr r.p)::ds.map Sl.val++List.replicate (N.length-(ds.length+1)) Sl.un) (bw st) (.rt d) s s'\/(d=.QO/\∃ρ',Rb (Qy r) X (.val (.adr r.p)::ds.map Sl.val++List.replicate (N.length-(ds.length+1)) Sl.un) (bw st) (.nx ρ') s s')
abbrev Pe(X:Cx)(N:List Str)(st:Stmt)(C:List D->List D->D->List D->Prop):Prop:=∀q ds xs d xs',C ds xs d xs'->xI X q (.val (.SA q)::ds.map Sl.val++List.replicate (N.length-(ds.length+1)) Sl.un) (bw st) (.rt d) xs xs'
end L2.EV
set_option maxHeartbeats 4000000
namespace My
open PySem L2 L2.EV
def top(i:Nat):Stmt:=PySem.Challenge.pw_planestacks_k36_whole_sayings_shown_and.main.body.getD i (.Pass ⟨0,0,0,0⟩)
abbrev iI:Stmt:=top 4
abbrev k9:List Str:=["parts", "nought", "many"]
theorem nq:aR k9 ["parts", "nought"] (ai iI):=gR (by decide +kernel)
abbrev oO:Stmt:=top 5
abbrev sX:List Str:=["parts", "power", "nought"]
theorem uT:aR sX ["parts", "power", "nought"] (ai oO):=gR (by decide +kernel)
abbrev qO:Stmt:=top 6
abbrev vX:List Str:=["numbers"]
theorem xc:aR vX ["numbers"] (ai qO):=gR (by decide +kernel)
abbrev mn:Stmt:=top 7
abbrev qf:List Str:=["f", "g", "many"]
theorem tm:aR qf ["f", "g"] (ai mn):=gR (by decide +kernel)
abbrev jB:Stmt:=top 8
abbrev mJ:List Str:=["f"]
theorem pD:aR mJ ["f"] (ai jB):=gR (by decide +kernel)
abbrev i7:Stmt:=top 9
abbrev nZ:List Str:=["f", "g", "numbers", "j", "one", "k", "other"]
theorem qE:aR nZ ["f", "g"] (ai i7):=gR (by decide +kernel)
abbrev mq:Stmt:=top 11
abbrev qh:List Str:=["rows"]
theorem tq:aR qh ["rows"] (ai mq):=gR (by decide +kernel)
abbrev jE:Stmt:=top 12
abbrev mM:List Str:=["f", "g", "many"]
theorem pG:aR mM ["f", "g"] (ai jE):=gR (by decide +kernel)
abbrev iQ:Stmt:=top 13
abbrev lm:List Str:=["f", "g"]
theorem nE:aR lm ["f", "g"] (ai iQ):=gR (by decide +kernel)
abbrev gi:Stmt:=top 14
abbrev ll:List Str:=["f", "g", "rows", "j", "one", "k", "other"]
theorem nD:aR ll ["f", "g"] (ai gi):=gR (by decide +kernel)
abbrev gJ:Stmt:=top 16
abbrev jc:List Str:=["thing"]
theorem mh:aR jc ["thing"] (ai gJ):=gR (by decide +kernel)
abbrev i8:Stmt:=top 22
abbrev n9:List Str:=["token"]
theorem qI:aR n9 ["token"] (ai i8):=gR (by decide +kernel)
abbrev jD:Stmt:=top 23
abbrev mL:List Str:=["text", "start", "end"]
theorem pF:aR mL ["text", "start"] (ai jD):=gR (by decide +kernel)
abbrev dG:Stmt:=top 24
abbrev QL:List Str:=["run"]
theorem ju:aR QL ["run"] (ai dG):=gR (by decide +kernel)
abbrev ml:Stmt:=top 25
abbrev qd:List Str:=["text", "start", "run"]
theorem tj:aR qd ["text", "start"] (ai ml):=gR (by decide +kernel)
abbrev kB:Stmt:=top 26
abbrev nX:List Str:=["text", "tokens", "at"]
theorem qB:aR nX ["text"] (ai kB):=gR (by decide +kernel)
abbrev gh:Stmt:=top 27
abbrev Q8:List Str:=["tokens", "opening", "closing", "many", "token"]
theorem ny:aR Q8 ["tokens", "opening", "closing"] (ai gh):=gR (by decide +kernel)
abbrev kE:Stmt:=top 29
abbrev RV:List Str:=["text", "most", "tokens"]
theorem qF:aR RV ["text", "most"] (ai kE):=gR (by decide +kernel)
abbrev jC:Stmt:=top 30
abbrev mK:List Str:=["reader"]
theorem pE:aR mK ["reader"] (ai jC):=gR (by decide +kernel)
abbrev jy:Stmt:=top 31
abbrev mG:List Str:=["reader", "token"]
theorem pA:aR mG ["reader"] (ai jy):=gR (by decide +kernel)
abbrev iJ:Stmt:=top 32
abbrev la:List Str:=["reader", "tokens", "token"]
theorem nt:aR la ["reader", "tokens"] (ai iJ):=gR (by decide +kernel)
abbrev iM:Stmt:=top 33
abbrev lc:List Str:=["reader"]
theorem nv:aR lc ["reader"] (ai iM):=gR (by decide +kernel)
abbrev mo:Stmt:=top 36
abbrev qg:List Str:=["reader", "sign"]
theorem nz:aR qg ["reader"] (ai mo):=gR (by decide +kernel)
abbrev gT:Stmt:=top 37
abbrev ki:List Str:=["reader"]
theorem m5:aR ki ["reader"] (ai gT):=gR (by decide +kernel)
abbrev iO:Stmt:=top 38
abbrev li:List Str:=["reader", "minuses"]
theorem nB:aR li ["reader"] (ai iO):=gR (by decide +kernel)
abbrev jA:Stmt:=top 39
abbrev mI:List Str:=["reader"]
theorem pC:aR mI ["reader"] (ai jA):=gR (by decide +kernel)
abbrev kF:Stmt:=top 40
abbrev n4:List Str:=["reader", "token"]
theorem qG:aR n4 ["reader"] (ai kF):=gR (by decide +kernel)
abbrev oP:Stmt:=top 41
abbrev sY:List Str:=["token", "number"]
theorem uU:aR sY ["token"] (ai oP):=gR (by decide +kernel)
abbrev fO:Stmt:=top 42
abbrev iD:List Str:=["f", "many", "power", "k"]
theorem kz:aR iD ["f", "many"] (ai fO):=gR (by decide +kernel)
abbrev fN:Stmt:=top 43
abbrev Q5:List Str:=["step", "boards", "last", "first"]
theorem ky:aR Q5 ["step", "boards"] (ai fN):=gR (by decide +kernel)
abbrev gw:Stmt:=top 44
abbrev jo:List Str:=["x_power", "y_power", "shown", "letter", "power"]
theorem lP:aR jo ["x_power", "y_power"] (ai gw):=gR (by decide +kernel)
abbrev gv:Stmt:=top 45
abbrev jn:List Str:=["size", "x_power", "y_power", "letters"]
theorem lO:aR jn ["size", "x_power", "y_power"] (ai gv):=gR (by decide +kernel)
abbrev iP:Stmt:=top 46
abbrev lj:List Str:=["board", "products", "y_power", "row", "x_power"]
theorem nC:aR lj ["board"] (ai iP):=gR (by decide +kernel)
abbrev kD:Stmt:=top 47
abbrev nY:List Str:=["board", "text", "number", "x_power", "y_power"]
theorem qD:aR nY ["board"] (ai kD):=gR (by decide +kernel)
abbrev fA:Stmt:=top 53
abbrev ia:List Str:=["reader", "sign"]
theorem j6:aR ia ["reader"] (ai fA):=gR (by decide +kernel)
abbrev gu:Stmt:=top 54
abbrev jm:List Str:=["reader", "prefixes", "word"]
theorem lN:aR jm ["reader"] (ai gu):=gR (by decide +kernel)
abbrev gS:Stmt:=top 55
abbrev Rp:List Str:=["reader", "brackets", "prefixes", "word"]
theorem m4:aR Rp ["reader", "brackets"] (ai gS):=gR (by decide +kernel)
abbrev jz:Stmt:=top 56
abbrev mH:List Str:=["reader", "brackets", "ended", "prefixes"]
theorem pB:aR mH ["reader"] (ai jz):=gR (by decide +kernel)
abbrev kC:Stmt:=top 57
abbrev RU:List Str:=["step", "waiting", "last", "first", "word", "letter"]
theorem qC:aR RU ["step", "waiting"] (ai kC):=gR (by decide +kernel)
abbrev iN:Stmt:=top 58
abbrev lh:List Str:=["text", "reader", "waiting", "step"]
theorem nA:aR lh ["text"] (ai iN):=gR (by decide +kernel)
abbrev kG:Stmt:=top 59
abbrev n8:List Str:=["S"]
theorem qH:aR n8 ["S"] (ai kG):=gR (by decide +kernel)
abbrev iK:Stmt:=top 60
abbrev lb:List Str:=["S", "text", "waiting", "piece"]
theorem nu:aR lb ["S"] (ai iK):=gR (by decide +kernel)
abbrev kN:Stmt:=top 62
abbrev oo:List Str:=["_law_script", "_law_k", "_law_state", "_law_cell_here"]
theorem qM:aR oo ["_law_script", "_law_k"] (ai kN):=gR (by decide +kernel)
abbrev gV:Stmt:=top 63
abbrev kj:List Str:=["_law_cell_here", "_law_many", "_law_found", "_law_state", "_law_digits", "_law_k"]
theorem m7:aR kj ["_law_cell_here", "_law_many"] (ai gV):=gR (by decide +kernel)
abbrev kH:Stmt:=top 64
abbrev og:List Str:=["_law_parts", "_law_found"]
theorem qJ:aR og ["_law_parts"] (ai kH):=gR (by decide +kernel)
abbrev gx:Stmt:=top 65
abbrev gz:List Str:=["_law_parts", "_law_rows", "_law_k"]
theorem lQ:aR gz ["_law_parts"] (ai gx):=gR (by decide +kernel)
abbrev gU:Stmt:=top 66
abbrev Rq:List Str:=["_law_one", "_law_other", "_law_found", "_law_i", "_law_k", "_law_j", "_law_m"]
theorem m6:aR Rq ["_law_one", "_law_other"] (ai gU):=gR (by decide +kernel)
abbrev kM:Stmt:=top 67
abbrev RW:List Str:=["_law_xs"]
theorem qL:aR RW ["_law_xs"] (ai kM):=gR (by decide +kernel)
abbrev jH:Stmt:=top 68
abbrev RE:List Str:=["_law_xs", "_law_size", "_law_found", "_law_spots", "_law_k"]
theorem pI:aR RE ["_law_xs"] (ai jH):=gR (by decide +kernel)
abbrev jI:Stmt:=top 69
abbrev mP:List Str:=["_law_cell_here", "_law_xs", "_law_way"]
theorem pJ:aR mP ["_law_cell_here"] (ai jI):=gR (by decide +kernel)
abbrev kL:Stmt:=top 70
abbrev om:List Str:=["_law_state"]
theorem qK:aR om ["_law_state"] (ai kL):=gR (by decide +kernel)
abbrev oQ:Stmt:=top 71
abbrev sZ:List Str:=["_law_state", "_law_boards", "_law_x", "_law_signs"]
theorem uV:aR sZ ["_law_state", "_law_boards"] (ai oQ):=gR (by decide +kernel)
abbrev kK:Stmt:=top 72
abbrev oj:List Str:=["_law_state", "_law_boards", "_law_deep", "_law_x", "_law_one"]
theorem mj:aR oj ["_law_state", "_law_boards", "_law_deep"] (ai kK):=gR (by decide +kernel)
abbrev iR:Stmt:=top 73
abbrev lp:List Str:=["_law_letter_here", "_law_power"]
theorem nF:aR lp ["_law_letter_here", "_law_power"] (ai iR):=gR (by decide +kernel)
abbrev jF:Stmt:=top 74
abbrev mN:List Str:=["_law_board_here", "_law_found", "_law_k", "_law_i", "_law_size", "_law_words"]
theorem pH:aR mN ["_law_board_here"] (ai jF):=gR (by decide +kernel)
abbrev kJ:Stmt:=top 75
abbrev oh:List Str:=["_law_saying", "_law_words"]
theorem mi:aR oh ["_law_saying"] (ai kJ):=gR (by decide +kernel)
abbrev jG:Stmt:=top 76
abbrev mO:List Str:=["_law_saying", "_law_due", "_law_text_here"]
theorem kY:aR mO ["_law_saying"] (ai jG):=gR (by decide +kernel)
abbrev uX:Stmt:=top 77
abbrev GJ:List Str:=["_law_script", "_law_boards", "_law_cell_here", "_law_xs", "_law_saying", "_law_k"]
theorem J8:aR GJ ["_law_script"] (ai uX):=gR (by decide +kernel)
abbrev gj:Stmt:=Nn (top 28)
theorem uW:aR ["self", "tokens"] ["self", "tokens"] (ai gj):=gR (by decide +kernel)
def mU(ds:List D)(d:D):Prop:=∃f:List Int,ds=[bE f]/\f.length<1000/\d=bE (f.map fun x=>-x)
theorem vm:∀ds d,mU ds d->ds.length=1:=by rintro _ _ ⟨a,rfl,_⟩;rfl
theorem uP{n:Nat}(h:n<1000):n<sizeLine:=je h (by decide)
section
variable {K:PySem.W.Frag}
theorem yW(h:DefX P w K mg base k mJ (ai jB) X)(QB:mg "tuple"=none):
  Go X mJ jB mU:=by
 rintro ds d ⟨f,rfl,hf,rfl⟩
 have t:=h.at'
 haveI:=h.Q7
 have bl:=h.bt QB
 show Qr X [.val (bE f)] _ _
 refine aF (bx (ka t bl (Sw.eq (QJ.toQ (kS (rs:=(f.map D.int).map fun d=>match d with | .int i=>.int (-i) | d=>d) t ["f", "number"] (IL (by decide +kernel)) (yC (aa t 0 rfl)) (by rw[af];exact uP hf) fun X' cx=>?_)) ?_)))
 ·have t':=cx.at'
  refine QY.all (fun d=>[.val (bE f),.val d]) _ _ _ (fun d hd=>cm t' 1) (fun d hd e he=>cm t' 1) fun d hd=>?_
  obtain⟨i,_,rfl⟩:=a6.mp hd
  exact eO (aa t' 1 rfl)
 ·rw[cD,cD];rfl
end
theorem lL{i:Nat}{α:Type}{xs:List α}{x:α}(h:xs[i]?=some x):xs.take (i+1)=xs.take i++[x]:=by
 rw[List.take_add_one,h];rfl
def vL(s:Int)(xs:List Int):Int:=xs.foldl (fun s x=>(s*69621+x)%2147483647) s
def rP(ns:List Int)(j:Int):Int:=if j<ns.length then ns.getD j.toNat 0 else vL (48271*(j*j+7*j+11)%2147483647) (fK ns none (some 3))
def oG(ds:List D)(d:D):Prop:=∃(ns:List Int) (j:Int),ds=[.R8 ns,.int j]/\0<=j/\j<1000/\d=.int (rP ns j)
theorem wo:∀ds d,oG ds d->ds.length=2:=by rintro _ _ ⟨a,b,rfl,_⟩;rfl
def L6(s0:Int):Nat->Int
 |0=>s0
 |i+1=>(L6 s0 i*(L6 s0 i%65521+40487)+7*(i:Int)+5)%1999999973
def LA(d0:Int):Nat->Int
 |0=>d0
 |i+1=>LA d0 i / 1000000
def K8(s0 d0:Int)(i:Nat):Int:=if LA d0 i > 0 then LA d0 i%1000000 else L6 s0 (i+1)
def qA(c:Int):Int:=(c%1999999973+31)*765432101%1999999973
def pf(c:Int):Int:=if c<0\/c ≥ 10 ^ 18 then c.natAbs else 0
def fq(c:Int)(n:Nat):List Int:=(List.range n).map (K8 (qA c) (pf c))
theorem sy(c:Int)(n:Nat):(fq c n).length=n:=by simp[fq]
def ij(ds:List D)(d:D):Prop:=∃(c:Int) (n:Nat),ds=[.int c,.int n]/\n<1000/\d=df (fq c n)
theorem sH:∀ds d,ij ds d->ds.length=2:=by rintro _ _ ⟨a,b,rfl,_⟩;rfl
theorem oU{i:Nat}(h:(fZ 0 n)[i]?=some d):i<n/\d=.int (i:Int):=by
 unfold fZ at h
 rw[aI] at h
 by_cases hi:i<n
 ·rw[eC hi] at h
  cases h
  exact⟨hi,by show D.int (0+(i:Int))=_;rw[lJ]⟩
 ·rw[aZ (by simpa using hi)] at h;cases h
section
variable {K:PySem.W.Frag}
theorem AO(h:DefX P w K mg base k oo (ai kN) X)(Qv:mg "len"=none):
  Go X oo kN oG:=by
 rintro ds d ⟨ns,j,rfl,h0,h1,rfl⟩
 have t:=h.at'
 haveI:=h.Q7
 have bl:=h.bt Qv
 show Qr X [.val (.R8 ns),.val (.int j),.un,.un] _ _
 by_cases hj:j<ns.length
 ·refine dI (c7 (Qs.eq (eQ (aa t 1 rfl) (dB t bl (Qp.qs (aa t 0 rfl)))) ?_) (aF (bx (bW (Qp.qs (aa t 0 rfl)) (aa t 1 rfl) ?_))))
  ·rw[af];exact aB hj
  ·have hn:j.toNat<ns.length:=by omega
   rw[uE h0 rfl hn]
   unfold rP
   rw[ay hj,ah,aD hn];rfl
 ·refine aG (b0 (Qs.eq (eQ (aa t 1 rfl) (dB t bl (Qp.qs (aa t 0 rfl)))) ?_) bF) ?_
  ·rw[af];exact ao hj
  refine aG (c6 t 2 (bU (k7 ag (cQ (cQ (k7 (aa t 1 rfl) (aa t 1 rfl) (nM (by omega) (by omega))) (k7 ag (aa t 1 rfl) (nM (by decide) (by decide)))) ag) (nM (by decide) (by decide))) ag (by decide))) ?_
  refine aG (ρ':=[.val (.R8 ns),.val (.int j),.val (.int (rP ns j)),.un]) (gK t (yD (Qp.eq (QJ.Rc (hJ (Qp.qs (aa t 0 rfl)) eM (fQ ag))) (by rw[ja]))) ?_) (aF (bx (aa t 2 rfl)))
  refine QI.QZ (fun i=>[.val (.R8 ns),.val (.int j),.val (.int (vL (48271*(j*j+7*j+11)%2147483647) ((fK ns none (some 3)).take i))),.un]) (fun i d hi=>?_) rfl ?_
  ·rw[aI] at hi
   cases e:(fK ns none (some 3))[i]? with
   |none=>rw[e] at hi;cases hi
   |some x=>
    rw[e] at hi;cases hi
    refine⟨_,dN t 3,Qr.weak (aF (c6 t 2 (bU (cQ (k7 (aa t 2 rfl) ag (lT (by decide) (by decide))) (aa t 3 rfl)) ag (by decide)))) ?_⟩
    have e2:vL (48271*(j*j+7*j+11)%2147483647) ((fK ns none (some 3)).take (i+1))=(vL (48271*(j*j+7*j+11)%2147483647) ((fK ns none (some 3)).take i)*69621+x)%2147483647:=by
     rw[lL e];unfold vL;rw[Ek];rfl
    rw[e2]
    exact .keep (.keep (.keep (.forget .nil)))
  ·rw[af,bz]
   unfold rP;rw[aq hj]
end
section
variable {K:PySem.W.Frag}
theorem vT(h:DefX P w K mg base k kj (ai gV) X)(Qz:mg "range"=none)(Sn:mg "abs"=none)(Rl:mg "int"=none):
  Go X kj gV ij:=by
 rintro ds d ⟨c,n,rfl,hn,rfl⟩
 have t:=h.at'
 haveI:=h.Q7
 have b1:=h.bt Qz
 have b2:=h.bt Sn
 have b3:=h.bt Rl
 show Qr X [.val (.int c),.val (.int n),.un,.un,.un,.un] _ _
 refine aG (iu t 2 (bI aj)) ?_
 refine aG (c6 t 3 (bU (k7 (cQ (bU (aa t 0 rfl) ag (by decide)) ag) ag (lT (by decide) (by decide))) ag (by decide))) ?_
 refine aG (c6 t 4 ag) ?_
 refine aG (ρ':=[.val (.int c),.val (.int n),.own [],.val (.int (qA c)),.val (.int (pf c)),.un]) ?_ ?_
 ·by_cases h1:c<0
  ·refine c7 (RJ.toT (sM (Qs.eq (eQ (aa t 0 rfl) ag) (aB h1)))) (Qr.eq (aF (c6 t 4 (yx t b2 (aa t 0 rfl)))) ?_)
   have e:pf c=(c.natAbs:Int):=by unfold pf;rw[ay (.inl h1)]
   rw[e];rfl
  ·by_cases h2:c ≥ 10 ^ 18
   ·refine c7 (RJ.toT (kZ (Qs.eq (eQ (aa t 0 rfl) ag) (ao h1)) (nT (Qs.eq (JD (aa t 0 rfl) (FX ag ag ⟨by decide,by decide,by decide⟩)) (aB h2))))) (Qr.eq (aF (c6 t 4 (yx t b2 (aa t 0 rfl)))) ?_)
    have e:pf c=(c.natAbs:Int):=by unfold pf;rw[ay (.inr h2)]
    rw[e];rfl
   ·refine b0 (RJ.toT (kZ (Qs.eq (eQ (aa t 0 rfl) ag) (ao h1)) (nT (Qs.eq (JD (aa t 0 rfl) (FX ag ag ⟨by decide,by decide,by decide⟩)) (ao h2))))) (Qr.eq bF ?_)
    have e:pf c=0:=by unfold pf;rw[aq (by rintro(z | z);exact h1 z;exact h2 z)]
    rw[e];rfl
 refine aG (gK t (fR t b1 (aa t 1 rfl) (by omega) (by omega)) (QI.QZ (ρ':=[.val (.int c),.val (.int n),.own ((fq c n).map D.int),.val (.int (L6 (qA c) n)),.val (.int (LA (pf c) n)),.un])
  (fun i=>[.val (.int c),.val (.int n),.own ((fq c i).map D.int),.val (.int (L6 (qA c) i)),.val (.int (LA (pf c) i)),.un]) (fun i d hi=>?_) rfl ?_)) (fv 2 rfl (aF (bx (aa t 2 rfl))))
 ·obtain⟨Vk,rfl⟩:=oU hi
  have WN:i<n:=by simpa using Vk
  refine⟨_,dN t 5,Qr.weak (aG (c6 t 3 (bU (cQ (cQ (k7 (aa t 3 rfl) (cQ (bU (aa t 3 rfl) ag (by decide)) ag) (lT (by omega) (by omega))) (k7 ag (aa t 5 rfl) (nM (by decide) (by decide)))) ag) ag (by decide)))
   (aG (eI t 2 rfl (d:=.int (K8 (qA c) (pf c) i)) (bW (QJ.toQ (bI (ab (aa t 3 rfl) (ab (bU (aa t 4 rfl) ag (by decide)) aj)))) (rE t b3 (JC (aa t 4 rfl) ag)) ?_) ?_)
   (aF (c6 t 4 (rJ t (aa t 4 rfl) ag (by decide)))))) ?_⟩
  ·by_cases hd:0<LA (pf c) i
   ·have e:K8 (qA c) (pf c) i=LA (pf c) i%1000000:=by unfold K8;rw[ay hd]
    rw[e,aB hd];rfl
   ·have e:K8 (qA c) (pf c) i=L6 (qA c) (i+1):=by unfold K8;rw[aq hd]
    rw[e,ao hd];rfl
  ·rw[af,sy];exact uP (by omega)
  ·have e:fq c (i+1)=fq c i++[K8 (qA c) (pf c) i]:=by
    unfold fq;rw[jY,aX];rfl
   rw[e,aX]
   exact .keep (.keep (.keep (.keep (.keep (.forget .nil)))))
 ·have e:(fZ 0 (n:Int).toNat).length=n:=by simp[fZ]
  rw[e]
end
def fz(xs:List Int):List Int:=(xs.reverse.dropWhile (· == 0)).reverse
theorem jU(xs:List Int):fz (xs++[0])=fz xs:=by simp[fz]
theorem oN{a:Int}(xs:List Int)(h:a≠0):fz (xs++[a])=xs++[a]:=by simp[fz,h]
theorem qp(xs:List Int):(fz xs).length<=xs.length:=by
 unfold fz
 rw[dz]
 have:=(v4 (l:=xs.reverse) (p:=fun x=>x==0)).length_le
 rw[dz] at this
 exact this
theorem Hb(xs:List Int):fz xs=[]\/∃ys a,fz xs=ys++[a]/\a≠0:=by
 induction h:xs.length generalizing xs with
 |zero=>left;rw[bc h];rfl
 |succ n ih=>
  rcases cz xs with e | ⟨ys,y,e⟩
  ·subst e;left;rfl
  ·rw[cY] at e
   subst e
   by_cases hy:y=0
   ·subst hy;rw[jU];exact ih ys (by simpa using h)
   ·right;exact⟨ys,y,oN ys hy,hy⟩
theorem Dx(R:List Int->cp)(h1:Qs X (R []) c false)(h2:∀ys a,(ys++[a]).length<1000->Qs X (R (ys++[a])) c (decide (a=0)))(h3:∀ys a,Qr X (R (ys++[a])) body (.nx (R ys))):
  ∀(n:Nat) (ys:List Int),ys.length=n->ys.length<1000->∃m,Sv X c body m (R ys) (.nx (R (fz ys))):=by
 intro n
 induction n with
 |zero=>intro ys h _;rw[bc h];exact⟨0,.stop h1⟩
 |succ n ih=>
  intro ys h hl
  rcases cz ys with e | ⟨zs,a,e⟩
  ·subst e;exact⟨0,.stop h1⟩
  ·rw[cY] at e
   subst e
   by_cases ha:a=0
   ·subst ha
    rw[jU]
    have hz:zs.length=n:=by simpa using h
    obtain⟨m,q⟩:=ih zs hz (by omega)
    exact⟨m+1,.step (Qs.eq (h2 zs 0 hl) rfl) (h3 zs 0) q⟩
   ·rw[oN zs ha]
    exact⟨0,.stop (Qs.eq (h2 zs a hl) (ao ha))⟩
def oE(ds:List D)(d:D):Prop:=∃xs:List Int,ds=[df xs]/\xs.length<1000/\d=bE (fz xs)
theorem wl:∀ds d,oE ds d->ds.length=1:=by rintro _ _ ⟨a,rfl,_⟩;rfl
def uv(f g:List Int)(i:Nat)(acc:List Int):Nat->List Int
 |0=>acc
 |j+1=>(uv f g i acc j).set (i+j) ((uv f g i acc j).getD (i+j) 0+f.getD i 0*g.getD j 0)
def pY(f g:List Int):Nat->List Int
 |0=>List.replicate (f.length+g.length) 0
 |i+1=>uv f g i (pY f g i) g.length
theorem oY(f g:List Int)(i:Nat)(acc:List Int):∀j,(uv f g i acc j).length=acc.length
 |0=>rfl
 |j+1=>by rw[uv,bC,oY]
theorem ve(f g:List Int):∀i,(pY f g i).length=f.length+g.length
 |0=>by rw[pY,fh]
 |i+1=>by rw[pY,oY,ve]
def gP(f g:List Int):List Int:=fz (pY f g f.length)
theorem uL(f g:List Int):(gP f g).length<=f.length+g.length:=by
 have:=qp (pY f g f.length)
 rw[ve] at this
 exact this
theorem uw{xs:List Int}{j:Nat}(h:j<xs.length):xs.getD j 0=xs[j]:=by rw[ah,aD h];rfl
theorem jl{xs:List Int}{n:Nat}(h:n<xs.length):l8 (xs.map D.int) (n:Int)=some (.int (xs.getD n 0)):=by
 rw[uE (by omega) (dy n) h,uw h]
section
variable {K:PySem.W.Frag}
theorem AM(h:DefX P w K mg base k og (ai kH) X)(R9:mg "list"=none)(QB:mg "tuple"=none)(Qv:mg "len"=none):
  Go X og kH oE:=by
 rintro ds d ⟨xs,rfl,hl,rfl⟩
 have t:=h.at'
 haveI:=h.Q7
 have b1:=h.bt R9
 have b2:=h.bt QB
 have b3:=h.bt Qv
 show Qr X [.val (df xs),.un] _ _
 refine aG (iu t 1 (IG t b1 (Qp.ql (aa t 0 rfl)))) ?_
 refine aG (qN t (Dx (fun ys=>[.val (df xs),.own (ys.map D.int)]) ?_ (fun ys a hy=>?_) (fun ys a=>?_) _ xs rfl hl)) (aF (bx (ka t b2 (eL t 1 rfl))))
 ·exact RJ.toT (rq (iy t (Sw.p (eL t 1 rfl)) (Qp.p (QJ.Rc (bI aj))) (gC []) (gC []) (by have:=yz [] [];exact bJ not this)))
 ·refine RJ.toT (rm (iy t (Sw.p (eL t 1 rfl)) (Qp.p (QJ.Rc (bI aj))) (gC (ys++[a])) (gC []) (by have:=yz (ys++[a]) [];rw[ao (by simp)] at this;exact bJ not this)) (rA (dC (bW (d:=.int a) (eL t 1 rfl) (eJ (dB t b3 (eL t 1 rfl)) ag) ?_) ag)))
  rw[af,uE (n:=ys.length) (by simp) (by simp) (by simp)]
  simp
 ·refine Qr.eq (aF (Jl t 1 rfl (by simp))) ?_
  rw[aX]
  have e:(ys.map D.int++[a].map D.int).dropLast=ys.map D.int:=by simp
  rw[e];rfl
end
def Rw(f:List Int):Prop:=f=[]\/∃ys a,f=ys++[a]/\a≠0
theorem ED(xs:List Int):xs.take (fz xs).length=fz xs:=by
 induction h:xs.length generalizing xs with
 |zero=>rw[bc h];rfl
 |succ n ih=>
  rcases cz xs with e | ⟨ys,y,e⟩
  ·subst e;rfl
  ·rw[cY] at e
   subst e
   by_cases hy:y=0
   ·subst hy
    rw[jU]
    have q:=ih ys (by simpa using h)
    have l:=qp ys
    rw[G6 l];exact q
   ·rw[oN ys hy,bz]
theorem Ax(R:Nat->cp)(xs:List Int)(h1:Qs X (R 0) c false)(h2:∀m (h:m<xs.length),Qs X (R (m+1)) c (decide (xs[m]=0)))(h3:∀m,Qr X (R (m+1)) body (.nx (R m))):
  ∀m,m<=xs.length->∃n,Sv X c body n (R m) (.nx (R (fz (xs.take m)).length))
 |0,_=>⟨0,.stop h1⟩
 |m+1,hm=>by
  have QW:m<xs.length:=hm
  have e:xs.take (m+1)=xs.take m++[xs[m]]:=lL (aD QW)
  by_cases hz:xs[m]=0
  ·obtain⟨n,q⟩:=Ax R xs h1 h2 h3 m (by omega)
   refine⟨n+1,.step (Qs.eq (h2 m QW) (aB hz)) (h3 m) ?_⟩
   rw[e,hz,jU];exact q
  ·refine⟨0,?_⟩
   rw[e,oN _ hz]
   have el:(xs.take m++[xs[m]]).length=m+1:=by rw[<-e,cv];omega
   rw[el]
   exact .stop (Qs.eq (h2 m QW) (ao hz))
def rZ(ds:List D)(d:D):Prop:=∃xs:List Int,ds=[df xs]/\xs.length<1000/\d=bE (fz xs)
theorem Bx:∀ds d,rZ ds d->ds.length=1:=by rintro _ _ ⟨a,rfl,_⟩;rfl
def nG(f g:List Int):List Int:=fz ((List.range (max f.length g.length)).map fun i=>f.getD i 0+g.getD i 0)
def mR(ds:List D)(d:D):Prop:=∃f g:List Int,ds=[bE f,bE g]/\f.length<1000/\g.length<1000/\d=bE (nG f g)
theorem ym:∀ds d,mR ds d->ds.length=2:=by rintro _ _ ⟨a,b,rfl,_⟩;rfl
def nK(f g:List Int):Nat->List Int
 |0=>List.replicate (f.length+g.length-1) 0
 |i+1=>uv f g i (nK f g i) g.length
theorem qW(f g:List Int):∀i,(nK f g i).length=f.length+g.length-1
 |0=>by rw[nK,fh]
 |i+1=>by rw[nK,oY,qW]
theorem Am(f g:List Int)(i:Nat)(acc:List Int)(z:Int):∀j,i+j<=acc.length->uv f g i (acc++[z]) j=uv f g i acc j++[z]
 |0,_=>rfl
 |j+1,h=>by
  have ih:=Am f g i acc z j (by omega)
  have hl:i+j<(uv f g i acc j).length:=by rw[oY];omega
  rw[uv,uv,ih,List.set_append_left _ _ hl]
  have e:(uv f g i acc j++[z]).getD (i+j) 0=(uv f g i acc j).getD (i+j) 0:=by
   rw[ah,ah,bg hl]
  rw[e]
theorem xm(f g:List Int)(hf:f≠[])(hg:g≠[]):∀i,i<=f.length->pY f g i=nK f g i++[0]
 |0,_=>by
  have h1:=bO.mpr hf
  rw[pY,nK,show f.length+g.length=(f.length+g.length-1)+1 by omega,Qe]
  rfl
 |i+1,h=>by
  have h1:=bO.mpr hf
  rw[pY,nK,xm f g hf hg i (by omega),Am]
  rw[qW];omega
theorem A8{f g:List Int}(hf:f≠[])(hg:g≠[]):fz (nK f g f.length)=gP f g:=by
 unfold gP;rw[xm f g hf hg _ (ak _),jU]
theorem sj:∀n,fz (List.replicate n (0:Int))=[]
 |0=>rfl
 |n+1=>by rw[Qe,jU,sj]
theorem Dz(g:List Int):gP [] g=[]:=by
 unfold gP;rw[fC,pY];exact sj _
theorem Ac(f:List Int):∀i,pY f [] i=List.replicate f.length 0
 |0=>rfl
 |i+1=>by rw[pY,fC,uv,Ac]
theorem A9(f:List Int):gP f []=[]:=by unfold gP;rw[Ac];exact sj _
def ox(ds:List D)(d:D):Prop:=∃f g:List Int,ds=[bE f,bE g]/\f.length<100/\g.length<100/\(∀y∈g,-(2 ^ 63)<y/\y<2 ^ 63)/\d=bE (gP f g)
theorem we:∀ds d,ox ds d->ds.length=2:=by rintro _ _ ⟨a,b,rfl,_⟩;rfl
section
variable {K:PySem.W.Frag}
theorem AJ(h:DefX P w K mg base k nZ (ai i7) X)(Q0:mg "enumerate"=none)(Qv:mg "len"=none)(c1:Callee X "row_of" rZ):
  Go X nZ i7 ox:=by
 rintro ds d ⟨f,g,rfl,hf,hg,hb,rfl⟩
 have t:=h.at'
 haveI:=h.Q7
 have b1:pi X (ai i7) "enumerate" (.type "enumerate"):=vR (by rw[h.Sm];exact Q0) rfl (by decide +kernel)
 have b2:=h.bt Qv
 show Qr X [.val (bE f),.val (bE g),.un,.un,.un,.un,.un] _ _
 by_cases h1:f=[]
 ·refine dI (c7 (RJ.toT (sM (fJ t (Qp.p (aa t 0 rfl)) (Qp.p (d:=bE []) (aT aj)) (cG _) (cG _) (by rw[mE,h1];rfl)))) (aF (bx (Qp.eq (d:=.tup []) (aT aj) ?_))))
  rw[h1,Dz];rfl
 by_cases h2:g=[]
 ·refine dI (c7 (RJ.toT (kZ (fJ t (Qp.p (aa t 0 rfl)) (Qp.p (d:=bE []) (aT aj)) (cG _) (cG _) (by rw[mE,ao h1])) (nT (fJ t (Qp.p (aa t 1 rfl)) (Qp.p (d:=bE []) (aT aj)) (cG _) (cG _) (by rw[mE,h2];rfl))))) (aF (bx (Qp.eq (d:=.tup []) (aT aj) ?_))))
  rw[h2,A9];rfl
 have lf:=bO.mpr h1
 have lg:=bO.mpr h2
 refine aG (b0 (RJ.toT (kZ (fJ t (Qp.p (aa t 0 rfl)) (Qp.p (d:=bE []) (aT aj)) (cG _) (cG _) (by rw[mE,ao h1])) (nT (fJ t (Qp.p (aa t 1 rfl)) (Qp.p (d:=bE []) (aT aj)) (cG _) (cG _) (by rw[mE,ao h2]))))) bF) ?_
 have en:((f.length:Int)+g.length-1).toNat=f.length+g.length-1:=by omega
 refine aG (iu (xs:=(nK f g 0).map D.int) t 2 (QJ.eq (Gj (n:=(f.length:Int)+g.length-1) (QJ.Rc (bI (ab ag aj))) (Qp.eq (eJ (cQ (dB t b2 (Qp.qt (aa t 0 rfl))) (dB t b2 (Qp.qt (aa t 1 rfl)))) ag) (by rw[af,af])) (by omega) (by omega) (by rw[en];have:=xp;simp;omega)) (by rw[en,E7];rfl))) ?_
 refine aG (ρ':=[.val (bE f),.val (bE g),.own ((nK f g f.length).map D.int),.un,.un,.un,.un]) (gK t (uB t b1 (aa t 0 rfl)) (QI.QZ (fun i=>[.val (bE f),.val (bE g),.own ((nK f g i).map D.int),.un,.un,.un,.un]) (fun i d hi=>?_) rfl ?_)) ?_
 ·obtain⟨e,he,rfl⟩:=lY hi
  rw[aI] at he
  cases hx:f[i]? with
  |none=>rw[hx] at he;cases he
  |some x=>
  rw[hx] at he;cases he
  have WN:i<f.length:=(az.mp hx).1
  have ex:f.getD i 0=x:=by rw[ah,hx];rfl
  refine⟨_,hW t 3 4,Qr.weak (ρ1:=[.val (bE f),.val (bE g),.own ((nK f g (i+1)).map D.int),.val (.int i),.val (.int x),.un,.un]) (aF (gK t (uB t b1 (aa t 1 rfl))
   (QI.QZ (fun j=>[.val (bE f),.val (bE g),.own ((uv f g i (nK f g i) j).map D.int),.val (.int i),.val (.int x),.un,.un]) (fun j d hj=>?_) rfl ?_))) (.keep (.keep (.keep (.forget (.forget (.keep (.keep .nil)))))))⟩
  ·obtain⟨e,he,rfl⟩:=lY hj
   rw[aI] at he
   cases hy:g[j]? with
   |none=>rw[hy] at he;cases he
   |some y=>
   rw[hy] at he;cases he
   have hj':j<g.length:=(az.mp hy).1
   have ey:g.getD j 0=y:=by rw[ah,hy];rfl
   have hyb:=hb y (cJ hy)
   have hl:(uv f g i (nK f g i) j).length=f.length+g.length-1:=by rw[oY,qW]
   have QW:i+j<(uv f g i (nK f g i) j).length:=by omega
   refine⟨_,hW t 5 6,Qr.weak (aF (DF (j:=i+j) (u:=(uv f g i (nK f g i) j).getD (i+j) 0) t 2 Al rfl (cQ (aa t 3 rfl) (aa t 5 rfl)) ?_ ?_ (k7 (aa t 4 rfl) (aa t 6 rfl) (lT (by omega) (by omega))) trivial)) ?_⟩
   ·rw[af];exact vw (by omega) (by omega) (by omega)
   ·rw[aI,ah,aD QW];rfl
   ·rw[uv,List.map_set,ex,ey]
    exact .keep (.keep (.keep (.keep (.keep (.forget (.forget .nil))))))
  ·rw[lX,af];rfl
 ·rw[lX,af]
 ·refine fv 2 rfl (aF (bx (Qp.eq (a4 t c1 (ab (aa t 2 rfl) aj) ⟨nK f g f.length,rfl,by rw[qW];omega,rfl⟩) ?_)))
  rw[A8 h1 h2]
end
theorem xk(f g:List Int):(nG f g).length<=max f.length g.length:=by
 have:=qp ((List.range (max f.length g.length)).map fun i=>f.getD i 0+g.getD i 0)
 rw[af,lG] at this
 exact this
theorem oZ{g:List Int}{i:Nat}(h:g.length<=i):g.getD i 0=0:=by rw[ah,aZ h];rfl
theorem sk(xs:List Int)(i:Nat):(fz xs).getD i 0=xs.getD i 0:=by
 have key:∀ys:List Int,∀i,(ys.dropWhile (· == 0)).reverse.getD i 0=ys.reverse.getD i 0:=by
  intro ys
  induction ys with
  |nil=>intro i;rfl
  |cons y ys ih=>
   intro i
   by_cases hy:y=0
   ·subst hy
    have:((0:Int)::ys).dropWhile (· == 0)=ys.dropWhile (· == 0):=by simp[List.dropWhile]
    rw[this,ih i,lF]
    rw[ah,ah]
    by_cases hi:i<ys.reverse.length
    ·rw[bg hi]
    ·rw[be (by omega),aZ (by omega)]
     cases z:i-ys.reverse.length with
     |zero=>rfl
     |succ n=>rfl
   ·have:(y::ys).dropWhile (· == 0)=y::ys:=by rw[List.dropWhile_cons_of_neg (by simpa using hy)]
    rw[this]
 have:=key xs.reverse i
 rw[List.reverse_reverse] at this
 exact this
theorem E4{g:List Int}(hf:Rw f)(h:∀i,f.getD i 0=g.getD i 0):f.length<=g.length:=by
 rcases hf with e | ⟨ys,a,e,ha⟩
 ·subst e;exact bu _
 ·rcases Ej g.length f.length with z | z
  ·have h1:=h ys.length
   subst e
   rw[oZ (g:=g) (i:=ys.length) (by simp at z;omega)] at h1
   rw[ah,be (ak _),lD] at h1
   exact absurd h1 ha
  ·exact z
theorem Hz(hf:Rw f)(hg:Rw g)(h:∀i,f.getD i 0=g.getD i 0):f=g:=by
 have h1:=E4 hf h
 have h2:=E4 hg fun i=>(h i).symm
 refine List.ext_getElem (by omega) fun i h3 h4=>?_
 have:=h i
 rw[uw h3,uw h4] at this
 exact this
theorem EE(xs:List Int):Rw (fz xs):=Hb xs
theorem FA{φ:Int->Int}(h0:φ 0=0)(f:List Int)(i:Nat):(f.map φ).getD i 0=φ (f.getD i 0):=by
 rw[ah,aI,ah]
 cases f[i]? with
 |none=>exact h0.symm
 |some x=>rfl
def dQ:Nat->(Nat->Int)->Int
 |0,_=>0
 |n+1,h=>dQ n h+h n
theorem pT(h:Nat->Int):∀n,dQ (n+1) h=h 0+dQ n (fun i=>h (i+1))
 |0=>by simp[dQ]
 |n+1=>by
  rw[dQ,pT h n,dQ];omega
theorem uM(h g:Nat->Int):∀n,dQ n (fun i=>h i+g i)=dQ n h+dQ n g
 |0=>rfl
 |n+1=>by rw[dQ,uM h g n,dQ,dQ];omega
theorem cT{h g:Nat->Int}:∀n,(∀i,i<n->h i=g i)->dQ n h=dQ n g
 |0,_=>rfl
 |n+1,e=>by rw[dQ,dQ,cT n (fun i hi=>e i (by omega)),e n (by omega)]
theorem jV:∀n,dQ n (fun _=>0)=0
 |0=>rfl
 |n+1=>by rw[dQ,jV n];rfl
def rs:List Int->(Nat->Int)->Int
 |[],_=>0
 |a::f,ψ=>a*ψ 0+rs f (fun i=>ψ (i+1))
theorem gX:∀(f:List Int) (n:Nat) (ψ:Nat->Int),f.length<=n->rs f ψ=dQ n (fun i=>f.getD i 0*ψ i)
 |[],n,ψ,_=>by
  exact((cT (g:=fun _=>0) n fun i _=>by simp).trans (jV n)).symm
 |a::f,0,ψ,h=>by simp at h
 |a::f,n+1,ψ,h=>by
  rw[rs,pT,gX f n _ (by simpa using h)]
  rfl
theorem E2:∀(f:List Int) (i:Nat),rs f (fun j=>if j=i then 1 else 0)=f.getD i 0
 |[],i=>by simp[rs]
 |a::f,0=>by
  have e:rs f (fun j=>if j+1=0 then 1 else 0)=0:=by
   have:(fun j:Nat=>if j+1=0 then (1:Int) else 0)=fun _=>0:=funext fun j=>aq (by omega)
   rw[this,gX f f.length _ (ak _)]
   exact(cT (g:=fun _=>0) _ fun i _=>by simp).trans (jV _)
  rw[rs,e];simp
 |a::f,i+1=>by
  have e:(fun j:Nat=>if j+1=i+1 then (1:Int) else 0)=fun j=>if j=i then 1 else 0:=funext fun j=>by
   by_cases h:j=i
   ·rw[ay h,ay (by omega)]
   ·rw[aq h,aq (by omega)]
  rw[rs,e,E2 f i];simp
theorem E3{f g:List Int}(h:∀i,f.getD i 0=g.getD i 0)(ψ:Nat->Int):rs f ψ=rs g ψ:=by
 rw[gX f (max f.length g.length) ψ (by omega),gX g (max f.length g.length) ψ (by omega)]
 exact cT _ fun i _=>by rw[h i]
theorem xY(ψ:Nat->Int)(h:∀i,ψ i=0)(f:List Int):rs f ψ=0:=by
 rw[gX f f.length ψ (ak _)]
 exact(cT (g:=fun _=>0) _ fun i _=>by rw[h i];simp).trans (jV _)
theorem EZ:∀(f:List Int) (m:Nat) (v:Int) (ψ:Nat->Int),m<f.length->rs (f.set m v) ψ=rs f ψ+(v-f.getD m 0)*ψ m
 |[],m,v,ψ,h=>by simp at h
 |a::f,0,v,ψ,_=>by
  show v*ψ 0+_=a*ψ 0+_+(v-a)*ψ 0
  rw[Int.sub_mul];omega
 |a::f,m+1,v,ψ,h=>by
  show a*ψ 0+rs (f.set m v) _=a*ψ 0+rs f _+(v-f.getD m 0)*ψ (m+1)
  rw[EZ f m v _ (by simpa using h)];omega
theorem Hy(ψ χ:Nat->Int):∀(f:List Int),rs f (fun i=>ψ i+χ i)=rs f ψ+rs f χ:=fun f=>by
 rw[gX f f.length _ (ak _),gX f f.length _ (ak _),gX f f.length _ (ak _),<-uM]
 exact cT _ fun i _=>by rw[Qh]
abbrev Bd:=List (List Int)
def eU(b:Bd)(i k:Nat):Int:=(b.getD k []).getD i 0
def bs:Bd->(Nat->Nat->Int)->Int
 |[],_=>0
 |r::b,φ=>rs r (fun i=>φ i 0)+bs b (fun i k=>φ i (k+1))
def yE(i k:Nat):Nat->Nat->Int:=fun a c=>if a=i/\c=k then 1 else 0
theorem yO:∀(b:Bd) (φ:Nat->Nat->Int),(∀i k,φ i k=0)->bs b φ=0
 |[],_,_=>rfl
 |r::b,φ,h=>by rw[bs,xY _ (fun i=>h i 0),yO b _ fun i k=>h i (k+1)];rfl
theorem GA:∀(b:Bd) (i k:Nat),bs b (yE i k)=eU b i k
 |[],i,k=>by simp[bs,eU]
 |r::b,i,0=>by
  rw[bs,yO b (fun a c=>yE i 0 a (c+1)) fun a c=>aq (by omega)]
  have e:(fun a:Nat=>yE i 0 a 0)=fun a=>if a=i then 1 else 0:=funext fun a=>by
   unfold yE
   by_cases h:a=i
   ·rw[ay ⟨h,rfl⟩,ay h]
   ·rw[aq (fun z=>h z.1),aq h]
  rw[e,E2];simp[eU]
 |r::b,i,k+1=>by
  have e:rs r (fun a=>yE i (k+1) a 0)=0:=xY _ (fun a=>aq (by omega)) r
  have e2:(fun a c:Nat=>yE i (k+1) a (c+1))=yE i k:=funext fun a=>funext fun c=>by
   unfold yE
   by_cases h:a=i/\c=k
   ·rw[ay h,ay ⟨h.1,by omega⟩]
   ·rw[aq h,aq (fun z=>h ⟨z.1,by omega⟩)]
  rw[bs,e,e2,GA b i k];simp[eU]
theorem Gz:∀(b:Bd) (m:Nat) (r:List Int) (φ:Nat->Nat->Int),m<b.length->bs (b.set m r) φ=bs b φ+(rs r (fun i=>φ i m)-rs (b.getD m []) (fun i=>φ i m))
 |[],m,r,φ,h=>by simp at h
 |a::b,0,r,φ,_=>by
  show rs r _+_=rs a _+_+(rs r _-rs a _)
  omega
 |a::b,m+1,r,φ,h=>by
  show rs a _+bs (b.set m r) _=rs a _+bs b _+(rs r _-rs (b.getD m []) _)
  rw[Gz b m r _ (by simpa using h)];omega
theorem sS:∀(b:Bd) (n:Nat) (φ:Nat->Nat->Int),b.length<=n->bs b φ=dQ n (fun k=>rs (b.getD k []) (fun i=>φ i k))
 |[],n,φ,_=>by
  exact((cT (g:=fun _=>0) n fun i _=>by simp[rs]).trans (jV n)).symm
 |r::b,0,φ,h=>by simp at h
 |r::b,n+1,φ,h=>by
  rw[bs,pT,sS b n _ (by simpa using h)]
  rfl
abbrev aA(b:Bd):D:=.tup (b.map bE)
abbrev uY(b:Bd):D:=.lst (b.map bE)
def fj(xs:Bd):Bd:=(xs.reverse.dropWhile (· == [])).reverse
theorem j1(xs:Bd):fj (xs++[[]])=fj xs:=by simp[fj]
theorem j4{a:List Int}(xs:Bd)(h:a≠[]):fj (xs++[a])=xs++[a]:=by simp[fj,h]
theorem sn(xs:Bd):(fj xs).length<=xs.length:=by
 unfold fj
 rw[dz]
 have:=(v4 (l:=xs.reverse) (p:=fun x=>x==[])).length_le
 rw[dz] at this
 exact this
theorem Dy(xs:Bd):xs.take (fj xs).length=fj xs:=by
 induction h:xs.length generalizing xs with
 |zero=>rw[bc h];rfl
 |succ n ih=>
  rcases cz xs with e | ⟨ys,y,e⟩
  ·subst e;rfl
  ·rw[cY] at e
   subst e
   by_cases hy:y=[]
   ·subst hy
    rw[j1]
    have q:=ih ys (by simpa using h)
    have l:=sn ys
    rw[G6 l];exact q
   ·rw[j4 ys hy,bz]
theorem EF(xs:Bd):fj xs=[]\/∃ys a,fj xs=ys++[a]/\a≠[]:=by
 induction h:xs.length generalizing xs with
 |zero=>left;rw[bc h];rfl
 |succ n ih=>
  rcases cz xs with e | ⟨ys,y,e⟩
  ·subst e;left;rfl
  ·rw[cY] at e
   subst e
   by_cases hy:y=[]
   ·subst hy;rw[j1];exact ih ys (by simpa using h)
   ·right;exact⟨ys,y,j4 ys hy,hy⟩
theorem wq(ys:Bd)(i:Nat):(ys++[[]]).getD i []=ys.getD i []:=by
 rw[ah,ah]
 by_cases h:i<ys.length
 ·rw[bg h]
 ·rw[be (by omega),aZ (show ys.length<=i by omega)]
  cases(i-ys.length) with
  |zero=>rfl
  |succ n=>rfl
theorem pR(xs:Bd)(i:Nat):(fj xs).getD i []=xs.getD i []:=by
 induction h:xs.length generalizing xs with
 |zero=>rw[bc h];rfl
 |succ n ih=>
  rcases cz xs with e | ⟨ys,y,e⟩
  ·subst e;rfl
  ·rw[cY] at e
   subst e
   by_cases hy:y=[]
   ·subst hy;rw[j1,ih ys (by simpa using h),wq]
   ·rw[j4 ys hy]
theorem DS{x:List Int}(h:x∈fj xs):x∈xs:=by
 unfold fj at h
 rw[jg] at h
 have:=(v4 (l:=xs.reverse) (p:=fun x=>x==[])).subset h
 exact jg.mp this
theorem xA(R:Nat->cp)(xs:Bd)(h1:Qs X (R 0) c false)(h2:∀m (h:m<xs.length),Qs X (R (m+1)) c (decide (xs[m]=[])))(h3:∀m,Qr X (R (m+1)) body (.nx (R m))):
  ∀m,m<=xs.length->∃n,Sv X c body n (R m) (.nx (R (fj (xs.take m)).length))
 |0,_=>⟨0,.stop h1⟩
 |m+1,hm=>by
  have QW:m<xs.length:=hm
  have e:xs.take (m+1)=xs.take m++[xs[m]]:=lL (aD QW)
  by_cases hz:xs[m]=[]
  ·obtain⟨n,q⟩:=xA R xs h1 h2 h3 m (by omega)
   refine⟨n+1,.step (Qs.eq (h2 m QW) (aB hz)) (h3 m) ?_⟩
   rw[e,hz,j1];exact q
  ·refine⟨0,?_⟩
   rw[e,j4 _ hz]
   have el:(xs.take m++[xs[m]]).length=m+1:=by rw[<-e,cv];omega
   rw[el]
   exact .stop (Qs.eq (h2 m QW) (ao hz))
theorem sV{i:Int}{n:Nat}{α:Type}{g:α->D}{xs:List α}(h0:0<=i)(hn:i.toNat=n)(h:n<xs.length):l8 (xs.map g) i=some (g xs[n]):=by
 rw[show i=((n:Nat):Int) by omega]
 have e:(xs.map g)[n]?=some (g xs[n]):=by rw[aI,aD h];rfl
 exact jN e
theorem Aw{m:Nat}{α:Type}(xs:List α)(g:α->D)(h:m<=xs.length):cutD (xs.map g) none (some (m:Int))=(xs.take m).map g:=by
 unfold cutD
 rw[af]
 have e1:HT.QH xs.length 0 none=0:=by simp[HT.QH]
 have e2:HT.QH xs.length xs.length (some (m:Int))=m:=by
  simp only[HT.QH]
  split<;>omega
 rw[e1,e2,zb,Nat.sub_zero,List.map_take]
def iW(ds:List D)(d:D):Prop:=(∃xs:List Int,ds=[df xs,.int 0]/\xs.length<1000/\d=bE (fz xs))\/∃xs:Bd,ds=[uY xs,.tup []]/\xs.length<1000/\d=aA (fj xs)
theorem tJ:∀ds d,iW ds d->ds.length=2:=by rintro _ _ (⟨a,rfl,_⟩ | ⟨a,rfl,_⟩)<;>rfl
def pb(ds:List D)(d:D):Prop:=(∃(f:List Int) (i:Nat),ds=[bE f,.int i,.int 0]/\d=.int (f.getD i 0))\/∃(f:Bd) (i:Nat),ds=[aA f,.int i,.tup []]/\d=bE (f.getD i [])
theorem Ai:∀ds d,pb ds d->ds.length=3:=by rintro _ _ (⟨a,b,rfl,_⟩ | ⟨a,b,rfl,_⟩)<;>rfl
def mW(ds:List D)(d:D):Prop:=∃xs:Bd,ds=[uY xs]/\xs.length<1000/\d=aA (fj xs)
theorem yn:∀ds d,mW ds d->ds.length=1:=by rintro _ _ ⟨a,rfl,_⟩;rfl
def kQ(f g:Bd):Bd:=fj ((List.range (max f.length g.length)).map fun k=>nG (f.getD k []) (g.getD k []))
def Sb(n:Nat)(f:Bd):Prop:=f.length<n/\∀r∈f,r.length<n
def jO(ds:List D)(d:D):Prop:=∃f g:Bd,ds=[aA f,aA g]/\Sb 1000 f/\Sb 1000 g/\d=aA (kQ f g)
theorem vp:∀ds d,jO ds d->ds.length=2:=by rintro _ _ ⟨a,b,rfl,_⟩;rfl
def qZ(g:Bd):Bd:=g.map fun r=>r.map fun x=>-x
def iZ(ds:List D)(d:D):Prop:=∃f g:Bd,ds=[aA f,aA g]/\Sb 1000 f/\Sb 1000 g/\d=aA (kQ f (qZ g))
theorem tT:∀ds d,iZ ds d->ds.length=2:=by rintro _ _ ⟨a,b,rfl,_⟩;rfl
def j9(f g:Bd)(j:Nat)(acc:Bd):Nat->Bd
 |0=>acc
 |k+1=>(j9 f g j acc k).set (j+k) (nG ((j9 f g j acc k).getD (j+k) []) (gP (f.getD j []) (g.getD k [])))
def jL(f g:Bd):Nat->Bd
 |0=>List.replicate (f.length+g.length-1) []
 |j+1=>j9 f g j (jL f g j) g.length
theorem rj(f g:Bd)(j:Nat)(acc:Bd):∀k,(j9 f g j acc k).length=acc.length
 |0=>rfl
 |k+1=>by rw[j9,bC,rj f g j acc k]
theorem qX(f g:Bd):∀j,(jL f g j).length=f.length+g.length-1
 |0=>fh
 |j+1=>by rw[jL,rj,qX f g j]
def jj(f g:Bd):Bd:=if f=[]\/g=[] then [] else fj (jL f g f.length)
theorem rk{xs:Bd}(i:Nat):xs.getD i []=[]\/xs.getD i []∈xs:=by
 rw[ah]
 by_cases h:i<xs.length
 ·right;rw[aD h];exact GV _
 ·left;rw[aZ (by omega)];rfl
theorem Sb.get(h:Sb n f)(h0:0<n)(i:Nat):(f.getD i []).length<n:=by
 rcases rk (xs:=f) i with e | e
 ·rw[e];exact h0
 ·exact h.2 _ e
theorem uu{acc:Bd}(hf:Sb 100 f)(hg:Sb 100 g)(j:Nat)(ha:∀r∈acc,r.length<200):∀k,∀r∈j9 f g j acc k,r.length<200
 |0,r,hr=>ha r hr
 |k+1,r,hr=>by
  rw[j9] at hr
  rcases Mf hr with h | h
  ·exact uu hf hg j ha k r h
  ·subst h
   have h1:=xk ((j9 f g j acc k).getD (j+k) []) (gP (f.getD j []) (g.getD k []))
   have h2:=uL (f.getD j []) (g.getD k [])
   have h3:=hf.get (by omega) j
   have h4:=hg.get (by omega) k
   have h5:((j9 f g j acc k).getD (j+k) []).length<200:=by
    rcases rk (xs:=j9 f g j acc k) (j+k) with e | e
    ·rw[e];decide
    ·exact uu hf hg j ha k _ e
   omega
theorem CH(hf:Sb 100 f)(hg:Sb 100 g):∀j,∀r∈jL f g j,r.length<200
 |0,r,hr=>by rw[jL] at hr;rw[(B5.mp hr).2];decide
 |j+1,r,hr=>uu hf hg j (CH hf hg j) g.length r hr
def iY(ds:List D)(d:D):Prop:=∃f g:Bd,ds=[aA f,aA g]/\Sb 100 f/\Sb 100 g/\(∀r∈g,∀y∈r,-(2 ^ 63)<y/\y<2 ^ 63)/\d=aA (jj f g)
theorem tS:∀ds d,iY ds d->ds.length=2:=by rintro _ _ ⟨a,b,rfl,_⟩;rfl
section
variable {K:PySem.W.Frag}
theorem wC(h:DefX P w K mg base k k9 (ai iI) X)(Qv:mg "len"=none)(QB:mg "tuple"=none):
  Go X k9 iI iW:=by
 have t:=h.at'
 haveI:=h.Q7
 have b1:=h.bt Qv
 have b2:=h.bt QB
 rintro ds d (⟨xs,rfl,hl,rfl⟩ | ⟨xs,rfl,hl,rfl⟩)
 ·show Qr X [.val (df xs),.val (.int 0),.un] _ _
  refine aG (c6 t 2 (Qp.eq (dB t b1 (Qp.ql (aa t 0 rfl))) (by rw[af]))) ?_
  refine aG (qN t (Ax (fun m=>[.val (df xs),.val (.int 0),.val (.int (m:Int))]) xs ?_ (fun m hm=>?_) (fun m=>?_) xs.length (ak _))) (aF (bx (Qp.eq (ka t b2 (QJ.toQ (hJ (Qp.ql (aa t 0 rfl)) eM (fQ (aa t 2 rfl))))) ?_)))
  ·exact RJ.toT (rq (Qs.eq (hV (aa t 2 rfl) ag) rfl))
  ·refine RJ.toT (rm (Qs.eq (hV (aa t 2 rfl) ag) (aB (by omega))) (rA (dC (bW (Qp.ql (aa t 0 rfl)) (eJ (aa t 2 rfl) ag) ?_) (aa t 1 rfl))))
   exact uE (by omega) (by omega) hm
  ·refine Qr.eq (aF (zW t 2 rfl ag)) ?_
   have e:((m+1:Nat):Int)-1=(m:Int):=by omega
   show Out.nx [_,_,.val (.int (((m+1:Nat):Int)-1))]=_
   rw[e]
  ·rw[bz,Aw xs D.int (qp xs),ED]
 ·show Qr X [.val (uY xs),.val (.tup []),.un] _ _
  refine aG (c6 t 2 (Qp.eq (dB t b1 (Qp.ql (aa t 0 rfl))) (by rw[af]))) ?_
  refine aG (qN t (xA (fun m=>[.val (uY xs),.val (.tup []),.val (.int (m:Int))]) xs ?_ (fun m hm=>?_) (fun m=>?_) xs.length (ak _))) (aF (bx (Qp.eq (ka t b2 (QJ.toQ (hJ (Qp.ql (aa t 0 rfl)) eM (fQ (aa t 2 rfl))))) ?_)))
  ·exact RJ.toT (rq (Qs.eq (hV (aa t 2 rfl) ag) rfl))
  ·refine RJ.toT (rm (Qs.eq (hV (aa t 2 rfl) ag) (aB (by omega))) (rA (fJ t (Qp.p (d:=bE xs[m]) (bW (Qp.ql (aa t 0 rfl)) (eJ (aa t 2 rfl) ag) ?_)) (Qp.p (d:=bE []) (aa t 1 rfl)) (cG _) (cG _) (mE _ _))))
   exact sV (by omega) (by omega) hm
  ·refine Qr.eq (aF (zW t 2 rfl ag)) ?_
   have e:((m+1:Nat):Int)-1=(m:Int):=by omega
   show Out.nx [_,_,.val (.int (((m+1:Nat):Int)-1))]=_
   rw[e]
  ·rw[bz,Aw xs bE (sn xs),Dy]
theorem D7(h:DefX P w K mg base k sX (ai oO) X)(Qv:mg "len"=none):
  Go X sX oO pb:=by
 have t:=h.at'
 have b1:=h.bt Qv
 rintro ds d (⟨f,i,rfl,rfl⟩ | ⟨f,i,rfl,rfl⟩)
 ·show Qr X [.val (bE f),.val (.int i),.val (.int 0)] _ _
  by_cases hi:i<f.length
  ·exact aF (bx (mC (Qs.eq (eQ (aa t 1 rfl) (dB t b1 (Qp.qt (aa t 0 rfl)))) (aB (by rw[af];omega))) (bW (Qp.qt (aa t 0 rfl)) (aa t 1 rfl) (jl hi))))
  ·refine aF (bx (mD (Qs.eq (eQ (aa t 1 rfl) (dB t b1 (Qp.qt (aa t 0 rfl)))) (ao (by rw[af];omega))) (Qp.eq (aa t 2 rfl) ?_)))
   rw[ah,aZ (by omega)];rfl
 ·show Qr X [.val (aA f),.val (.int i),.val (.tup [])] _ _
  by_cases hi:i<f.length
  ·refine aF (bx (mC (Qs.eq (eQ (aa t 1 rfl) (dB t b1 (Qp.qt (aa t 0 rfl)))) (aB (by rw[af];omega))) (bW (Qp.qt (aa t 0 rfl)) (aa t 1 rfl) ?_)))
   rw[sV (g:=bE) (n:=i) (by omega) (by omega) hi,ah,aD hi];rfl
  ·refine aF (bx (mD (Qs.eq (eQ (aa t 1 rfl) (dB t b1 (Qp.qt (aa t 0 rfl)))) (ao (by rw[af];omega))) (Qp.eq (aa t 2 rfl) ?_)))
   rw[ah,aZ (by omega)];rfl
theorem GC(h:DefX P w K mg base k vX (ai qO) X)(c1:Callee X "without_end" iW):
  Go X vX qO rZ:=by
 rintro ds d ⟨xs,rfl,hl,rfl⟩
 have t:=h.at'
 show Qr X [.val (df xs)] _ _
 exact aF (bx (a4 t c1 (ab (aa t 0 rfl) (ab ag aj)) (.inl ⟨xs,rfl,hl,rfl⟩)))
theorem BW(h:DefX P w K mg base k qh (ai mq) X)(c1:Callee X "without_end" iW):
  Go X qh mq mW:=by
 rintro ds d ⟨xs,rfl,hl,rfl⟩
 have t:=h.at'
 show Qr X [.val (uY xs)] _ _
 exact aF (bx (a4 t c1 (ab (aa t 0 rfl) (ab (aT aj) aj)) (.inr ⟨xs,rfl,hl,rfl⟩)))
theorem BV(h:DefX P w K mg base k qf (ai mn) X)(Tq:mg "max"=none)(Qv:mg "len"=none)(Qz:mg "range"=none)(c1:Callee X "row_of" rZ)(c2:Callee X "part_at" pb):
  Go X qf mn mR:=by
 rintro ds d ⟨f,g,rfl,hf,hg,rfl⟩
 have t:=h.at'
 haveI:=h.Q7
 have b1:=h.bt Tq
 have b2:=h.bt Qv
 have b3:=h.bt Qz
 show Qr X [.val (bE f),.val (bE g),.un] _ _
 refine aG (c6 (d:=.int ((max f.length g.length:Nat):Int)) t 2 (Qp.eq (C1 t b1 (dB t b2 (Qp.qt (aa t 0 rfl))) (dB t b2 (Qp.qt (aa t 1 rfl)))) (by rw[af,af];congr 1;omega))) ?_
 refine aF (bx (a4 t c1 (ab (d:=df ((List.range (max f.length g.length)).map fun i=>f.getD i 0+g.getD i 0)) (Qp.eq (QJ.Rc (kS (rs:=(List.range (max f.length g.length)).map fun i=>D.int (f.getD i 0+g.getD i 0)) t ["f", "g", "many", "power"] (IL (by decide +kernel)) (fR t b3 (aa t 2 rfl) (by omega) (by omega)) (by simp[fZ];exact uP (by omega)) fun X' cx=>?_)) (by show D.lst _=D.lst _;rw[cD];rfl)) aj) ⟨_,rfl,by rw[af,lG];omega,rfl⟩))
 rw[dy]
 exact QY.gen (fun(i:Nat)=>D.int (0+(i:Int))) _ (fun(i:Nat)=>[.val (bE f),.val (bE g),.val (.int ((max f.length g.length:Nat):Int)),.val (.int (i:Int))]) _ _ (fun x hx=>by rw[lJ];exact cm cx.at' 3) (fun x hx y hy=>by rw[lJ];exact cm cx.at' 3) fun x hx=>
  cQ (a4 cx.at' (cx.callee c2) (ab (aa cx.at' 0 rfl) (ab (aa cx.at' 3 rfl) (ab ag aj))) (.inl ⟨f,x,rfl,rfl⟩)) (a4 cx.at' (cx.callee c2) (ab (aa cx.at' 1 rfl) (ab (aa cx.at' 3 rfl) (ab ag aj))) (.inl ⟨g,x,rfl,rfl⟩))
theorem yY(h:DefX P w K mg base k mM (ai jE) X)(Tq:mg "max"=none)(Qv:mg "len"=none)(Qz:mg "range"=none)(c1:Callee X "board_of" mW)(c2:Callee X "row_plus" mR)(c3:Callee X "part_at" pb):
  Go X mM jE jO:=by
 rintro ds d ⟨f,g,rfl,hf,hg,rfl⟩
 have t:=h.at'
 haveI:=h.Q7
 have b1:=h.bt Tq
 have b2:=h.bt Qv
 have b3:=h.bt Qz
 have lf:=hf.1
 have lg:=hg.1
 show Qr X [.val (aA f),.val (aA g),.un] _ _
 refine aG (c6 (d:=.int ((max f.length g.length:Nat):Int)) t 2 (Qp.eq (C1 t b1 (dB t b2 (Qp.qt (aa t 0 rfl))) (dB t b2 (Qp.qt (aa t 1 rfl)))) (by rw[af,af];congr 1;omega))) ?_
 refine aF (bx (a4 t c1 (ab (d:=uY ((List.range (max f.length g.length)).map fun k=>nG (f.getD k []) (g.getD k []))) (Qp.eq (QJ.Rc (kS (rs:=(List.range (max f.length g.length)).map fun k=>bE (nG (f.getD k []) (g.getD k []))) t ["f", "g", "many", "power"] (IL (by decide +kernel)) (fR t b3 (aa t 2 rfl) (by omega) (by omega)) (by simp[fZ];exact uP (by omega)) fun X' cx=>?_)) (by show D.lst _=D.lst _;rw[cD];rfl)) aj) ⟨_,rfl,by rw[af,lG];omega,rfl⟩))
 rw[dy]
 exact QY.gen (fun(i:Nat)=>D.int (0+(i:Int))) _ (fun(i:Nat)=>[.val (aA f),.val (aA g),.val (.int ((max f.length g.length:Nat):Int)),.val (.int (i:Int))]) _ _ (fun x hx=>by rw[lJ];exact cm cx.at' 3) (fun x hx y hy=>by rw[lJ];exact cm cx.at' 3) fun x hx=>
  a4 cx.at' (cx.callee c2) (ab (a4 cx.at' (cx.callee c3) (ab (aa cx.at' 0 rfl) (ab (aa cx.at' 3 rfl) (ab (aT aj) aj))) (.inr ⟨f,x,rfl,rfl⟩)) (ab (a4 cx.at' (cx.callee c3) (ab (aa cx.at' 1 rfl) (ab (aa cx.at' 3 rfl) (ab (aT aj) aj))) (.inr ⟨g,x,rfl,rfl⟩)) aj)) ⟨_,_,rfl,hf.get (by omega) x,hg.get (by omega) x,rfl⟩
theorem wM(h:DefX P w K mg base k lm (ai iQ) X)(QB:mg "tuple"=none)(c1:Callee X "board_plus" jO)(c2:Callee X "other_sign" mU):
  Go X lm iQ iZ:=by
 rintro ds d ⟨f,g,rfl,hf,hg,rfl⟩
 have t:=h.at'
 haveI:=h.Q7
 have b1:=h.bt QB
 show Qr X [.val (aA f),.val (aA g)] _ _
 refine aF (bx (a4 t c1 (ab (aa t 0 rfl) (ab (d:=aA (qZ g)) (Qp.eq (ka t b1 (QJ.toQ (kS (rs:=g.map fun r=>bE (r.map fun x=>-x)) t ["f", "g", "row"] (IL (by decide +kernel)) (yC (aa t 1 rfl)) (by rw[af];exact uP hg.1) fun X' cx=>?_))) (by show D.tup _=D.tup _;unfold qZ;rw[cD];rfl)) aj)) ⟨f,qZ g,rfl,hf,?_,rfl⟩))
 ·exact QY.gen bE _ (fun r=>[.val (aA f),.val (aA g),.val (bE r)]) _ _ (fun x hx=>cm cx.at' 2) (fun x hx y hy=>cm cx.at' 2) fun x hx=>
   a4 cx.at' (cx.callee c2) (ab (aa cx.at' 2 rfl) aj) ⟨x,rfl,hg.2 x hx,rfl⟩
 ·unfold qZ
  refine⟨by rw[af];exact hg.1,fun r hr=>?_⟩
  obtain⟨q,hq,rfl⟩:=a6.mp hr
  rw[af];exact hg.2 q hq
theorem E6(n:Nat):(List.replicate n [D.tup []]).flatten=(List.replicate n ([]:List Int)).map bE:=by
 induction n with
 |zero=>rfl
 |succ n ih=>rw[bv,dZ,ih,bv,aS];rfl
theorem ke(f:Bd):(fg (aA f)).eqv (fg (.tup []))=decide (f=[]):=by
 show(PyData.tuple (QA (f.map bE))).eqv (.tuple (QA []))=_
 cases f with
 |nil=>simp[QA,PyData.eqv,PyData.eqvAll]
 |cons r f=>simp[QA,PyData.eqv,PyData.eqvAll]
end
def Fn(n:Nat)(d:D):Prop:=(fg d).canLay0=true/\(fg d).depth<=n/\(fg d).eqv (fg d)=true
theorem Fn.int(i:Int):Fn 1 (.int i):=⟨rfl,by simp[fg,PyData.depth],by simp[fg,PyData.eqv]⟩
theorem Fn.all:∀{xs:List D},(∀x∈xs,Fn n x)->PyData.canLayAll0 (QA xs)=true/\PyData.depthAll (QA xs)<=n/\PyData.eqvAll (QA xs) (QA xs)=true
 |[],_=>⟨rfl,by simp[QA,PyData.depthAll],by simp[QA,PyData.eqvAll]⟩
 |x::xs,h=>by
  obtain⟨a1,a2,a3⟩:=h x (by simp)
  obtain⟨b1,b2,b3⟩:=Fn.all (xs:=xs) fun y hy=>h y (by simp[hy])
  refine⟨?_,?_,?_⟩
  ·simp only[QA,PyData.canLayAll0,a1,b1];rfl
  ·simp only[QA,PyData.depthAll];omega
  ·simp only[QA,PyData.eqvAll,a3,b3];rfl
theorem Fn.tup{xs:List D}(h:∀x∈xs,Fn n x):Fn (n+1) (.tup xs):=by
 obtain⟨b1,b2,b3⟩:=Fn.all h
 exact⟨by simp only[fg,PyData.canLay0];exact b1,by simp only[fg,PyData.depth];omega,by simp only[fg,PyData.eqv];exact b3⟩
theorem Fn.lst{xs:List D}(h:∀x∈xs,Fn n x):Fn (n+1) (.lst xs):=by
 obtain⟨b1,b2,b3⟩:=Fn.all h
 exact⟨by simp only[fg,PyData.canLay0];exact b1,by simp only[fg,PyData.depth];omega,by simp only[fg,PyData.eqv];exact b3⟩
theorem Fn.sh(h:Fn n d)(hn:n<=64):SeqAt.shaped (fg d)=true:=by
 show((fg d).canLay0&&decide ((fg d).depth<=64))=true
 rw[h.1,aB (aL h.2.1 hn)];rfl
theorem BA(r:List Int):Fn 2 (bE r):=Fn.tup fun x hx=>by
 obtain⟨i,_,rfl⟩:=a6.mp hx;exact Fn.int i
theorem Ap(b:Bd):Fn 3 (aA b):=Fn.tup fun x hx=>by
 obtain⟨r,_,rfl⟩:=a6.mp hx;exact BA r
theorem Ij(b:Bd):Fn 3 (uY b):=Fn.lst fun x hx=>by
 obtain⟨r,_,rfl⟩:=a6.mp hx;exact BA r
theorem gQ(f:Bd):SeqAt.shaped (fg (aA f))=true:=(Ap f).sh (by decide)
section
variable {K:PySem.W.Frag}
theorem wL(h:DefX P w K mg base k ll (ai gi) X)(Q0:mg "enumerate"=none)(Qv:mg "len"=none)(c1:Callee X "board_of" mW)(c2:Callee X "row_plus" mR)(c3:Callee X "row_times" ox):
  Go X ll gi iY:=by
 rintro ds d ⟨f,g,rfl,hf,hg,hb,rfl⟩
 have t:=h.at'
 haveI:=h.Q7
 have b1:pi X (ai gi) "enumerate" (.type "enumerate"):=vR (by rw[h.Sm];exact Q0) rfl (by decide +kernel)
 have b2:=h.bt Qv
 have s0:SeqAt.shaped (fg (.tup []))=true:=cG []
 show Qr X [.val (aA f),.val (aA g),.un,.un,.un,.un,.un] _ _
 by_cases h1:f=[]
 ·refine dI (c7 (RJ.toT (sM (fJ t (Qp.p (aa t 0 rfl)) (Qp.p (d:=.tup []) (aT aj)) (gQ _) s0 (by rw[ke,h1];rfl)))) (aF (bx (Qp.eq (d:=.tup []) (aT aj) ?_))))
  unfold jj;rw[ay (.inl h1)];rfl
 by_cases h2:g=[]
 ·refine dI (c7 (RJ.toT (kZ (fJ t (Qp.p (aa t 0 rfl)) (Qp.p (d:=.tup []) (aT aj)) (gQ _) s0 (by rw[ke,ao h1])) (nT (fJ t (Qp.p (aa t 1 rfl)) (Qp.p (d:=.tup []) (aT aj)) (gQ _) s0 (by rw[ke,h2];rfl))))) (aF (bx (Qp.eq (d:=.tup []) (aT aj) ?_))))
  unfold jj;rw[ay (.inr h2)];rfl
 have et:jj f g=fj (jL f g f.length):=by unfold jj;rw[aq (fun z=>z.elim h1 h2)]
 have lf:=bO.mpr h1
 have lg:=bO.mpr h2
 have lf':=hf.1
 have lg':=hg.1
 refine aG (b0 (RJ.toT (kZ (fJ t (Qp.p (aa t 0 rfl)) (Qp.p (d:=.tup []) (aT aj)) (gQ _) s0 (by rw[ke,ao h1])) (nT (fJ t (Qp.p (aa t 1 rfl)) (Qp.p (d:=.tup []) (aT aj)) (gQ _) s0 (by rw[ke,ao h2]))))) bF) ?_
 have en:((f.length:Int)+g.length-1).toNat=f.length+g.length-1:=by omega
 refine aG (iu (xs:=(jL f g 0).map bE) t 2 (QJ.eq (Gj (n:=(f.length:Int)+g.length-1) (QJ.Rc (bI (ab (aT aj) aj))) (Qp.eq (eJ (cQ (dB t b2 (Qp.qt (aa t 0 rfl))) (dB t b2 (Qp.qt (aa t 1 rfl)))) ag) (by rw[af,af])) (by omega) (by omega) (by rw[en];have:=xp;simp;omega)) (by rw[en,E6];rfl))) ?_
 refine aG (ρ':=[.val (aA f),.val (aA g),.own ((jL f g f.length).map bE),.un,.un,.un,.un]) (gK t (uB t b1 (aa t 0 rfl)) (QI.QZ (fun i=>[.val (aA f),.val (aA g),.own ((jL f g i).map bE),.un,.un,.un,.un]) (fun i d hi=>?_) rfl ?_)) ?_
 ·obtain⟨e,he,rfl⟩:=lY hi
  rw[aI] at he
  cases hx:f[i]? with
  |none=>rw[hx] at he;cases he
  |some x=>
  rw[hx] at he;cases he
  have WN:i<f.length:=(az.mp hx).1
  have ex:f.getD i []=x:=by rw[ah,hx];rfl
  refine⟨_,hW t 3 4,Qr.weak (ρ1:=[.val (aA f),.val (aA g),.own ((jL f g (i+1)).map bE),.val (.int i),.val (bE x),.un,.un]) (aF (gK t (uB t b1 (aa t 1 rfl))
   (QI.QZ (fun j=>[.val (aA f),.val (aA g),.own ((j9 f g i (jL f g i) j).map bE),.val (.int i),.val (bE x),.un,.un]) (fun j d hj=>?_) rfl ?_))) (.keep (.keep (.keep (.forget (.forget (.keep (.keep .nil)))))))⟩
  ·obtain⟨e,he,rfl⟩:=lY hj
   rw[aI] at he
   cases hy:g[j]? with
   |none=>rw[hy] at he;cases he
   |some y=>
   rw[hy] at he;cases he
   have hj':j<g.length:=(az.mp hy).1
   have ey:g.getD j []=y:=by rw[ah,hy];rfl
   have hl:(j9 f g i (jL f g i) j).length=f.length+g.length-1:=by rw[rj,qX]
   have QW:i+j<(j9 f g i (jL f g i) j).length:=by omega
   have e1:((i:Int)+(j:Int))=((i+j:Nat):Int):=by omega
   have VT:l8 ((j9 f g i (jL f g i) j).map bE) ((i:Int)+(j:Int))=some (bE ((j9 f g i (jL f g i) j).getD (i+j) [])):=by
    rw[sV (g:=bE) (n:=i+j) (by omega) (by omega) QW,ah,aD QW];rfl
   have h3:=hf.get (by omega) i
   have h4:=hg.get (by omega) j
   have h5:((j9 f g i (jL f g i) j).getD (i+j) []).length<200:=by
    rcases rk (xs:=j9 f g i (jL f g i) j) (i+j) with e | e
    ·rw[e];decide
    ·exact uu hf hg i (CH hf hg i) j _ e
   have h6:=uL (f.getD i []) (g.getD j [])
   rw[ex] at h3 h6
   rw[ey] at h4 h6
   refine⟨_,hW t 5 6,Qr.weak (aF (Cp t (a4 t c2 (ab (bW (eL t 2 rfl) (cQ (aa t 3 rfl) (aa t 5 rfl)) VT) (ab (a4 t c3 (ab (aa t 4 rfl) (ab (aa t 6 rfl) aj)) ⟨x,y,rfl,h3,h4,hb y (cJ hy),rfl⟩) aj)) ⟨_,_,rfl,by omega,by omega,rfl⟩) (IH (j:=i+j) t 2 rfl (cQ (aa t 3 rfl) (aa t 5 rfl)) ?_))) ?_⟩
   ·rw[af];exact vw (by omega) (by omega) (by omega)
   ·rw[j9,List.map_set,ex,ey]
    exact .keep (.keep (.keep (.keep (.keep (.forget (.forget .nil))))))
  ·rw[lX,af];rfl
 ·rw[lX,af]
 ·refine fv 2 rfl (aF (bx (Qp.eq (a4 t c1 (ab (aa t 2 rfl) aj) ⟨jL f g f.length,rfl,by rw[qX];omega,rfl⟩) ?_)))
  rw[et]
end
abbrev nk(i k:Nat):List Int:=[(i:Int),(k:Int)]
theorem KI{k:Nat}(h:nk i k=nk a c):i=a/\k=c:=by
 have h1:=(A1 h).1
 have h2:=(A1 (A1 h).2).1
 omega
def ds:ik->(Nat->Nat->Int)->Int
 |[],_=>0
 |p::r,φ=>p.2*φ (p.1.getD 0 0).toNat (p.1.getD 1 0).toNat+ds r φ
structure Ul(kvs:ik):Prop where
 keys:∀p∈kvs,∃i k:Nat,p.1=nk i k
 nd:(kvs.map (·.1)).Nodup
theorem Ul.nil:Ul []:=⟨fun _ h=>(nomatch h),List.nodup_nil⟩
theorem oM(p:List Int×Int)(r:ik)(k:List Int):fM (p::r) k=if p.1=k then some p.2 else fM r k:=by
 unfold fM
 rw[c9]
 by_cases h:p.1=k
 ·rw[ay h,aB h];rfl
 ·rw[aq h,ao h]
theorem si{k:List Int}:∀{kvs:ik},(∀p∈kvs,p.1≠k)->fM kvs k=none
 |[],_=>rfl
 |p::r,h=>by rw[oM,aq (h p (by simp)),si fun q hq=>h q (by simp[hq])]
theorem qo:∀{kvs:ik},(kvs.map (·.1)).Nodup->(k,v)∈kvs->fM kvs k=some v
 |[],_,h=>nomatch h
 |p::r,nd,h=>by
  rw[aS,c8] at nd
  rw[oM]
  rcases aC.mp h with e | h
  ·rw[<-e,ay rfl]
  ·have hm:k∈r.map (·.1):=a6.mpr ⟨_,h,rfl⟩
   rw[aq (fun z:p.1=k=>nd.1 (by rw[z];exact hm)),qo nd.2 h]
theorem w5{k:List Int}:∀{kvs:ik},fM kvs k=some v->(k,v)∈kvs
 |[],h=>by cases h
 |p::r,h=>by
  rw[oM] at h
  by_cases e:p.1=k
  ·rw[ay e] at h;cases h;rw[<-e];simp
  ·rw[aq e] at h;simp[w5 h]
theorem u5{q:List Int×Int}(h:q∈jJ kvs k v):q=(k,v)\/q∈kvs:=by
 unfold jJ at h
 split at h
 ·obtain⟨p,hp,e⟩:=a6.mp h
  by_cases z:p.1=k
  ·rw[ay z] at e;left;rw[<-e,z]
  ·rw[aq z] at e;right;rw[<-e];exact hp
 ·rcases aM.mp h with h | h
  ·exact .inr h
  ·exact .inl (a7.mp h)
theorem DH:(jJ kvs k v).map (·.1)=if (fM kvs k).isSome=true then kvs.map (·.1) else kvs.map (·.1)++[k]:=by
 unfold jJ
 split
 ·rw[cD]
  refine pc fun p _=>?_
  show(if p.1=k then (p.1,v) else p).1=p.1
  split<;>rfl
 ·rw[aX];rfl
theorem Ul.put(h:Ul kvs)(i k:Nat)(v:Int):Ul (jJ kvs (nk i k) v):=by
 refine⟨fun p hp=>?_,?_⟩
 ·rcases u5 hp with e | e
  ·exact⟨i,k,by rw[e]⟩
  ·exact h.keys p e
 ·rw[DH]
  split
  ·exact h.nd
  ·rename_i hn
   refine List.nodup_append.mpr ⟨h.nd,by simp,fun a ha b hb e=>hn ?_⟩
   rw[a7] at hb
   subst hb e
   obtain⟨p,hp,e⟩:=a6.mp ha
   have:fM kvs p.1=some p.2:=qo h.nd hp
   rw[<-e,this];rfl
theorem xw(φ:Nat->Nat->Int):∀(a b:ik),ds (a++b) φ=ds a φ+ds b φ
 |[],b=>by simp[ds]
 |p::a,b=>by rw[List.cons_append,ds,ds,xw φ a b];omega
theorem Db(φ:Nat->Nat->Int)(i k:Nat)(v:Int):∀(kvs:ik),(kvs.map (·.1)).Nodup->ds (kvs.map fun p=>if p.1=nk i k then (p.1,v) else p) φ=ds kvs φ+(match fM kvs (nk i k) with | some o=>(v-o)*φ i k | none=>0)
 |[],_=>rfl
 |p::r,nd=>by
  rw[aS,c8] at nd
  rw[aS,ds,ds,Db φ i k v r nd.2,oM]
  by_cases e:p.1=nk i k
  ·rw[ay e,ay e,si fun q hq z=>nd.1 (by rw[e,<-z];exact a6.mpr ⟨_,hq,rfl⟩)]
   have e1:(p.1.getD 0 0).toNat=i:=by rw[e];simp
   have e2:(p.1.getD 1 0).toNat=k:=by rw[e];simp
   simp only[e1,e2]
   rw[Int.sub_mul];omega
  ·rw[aq e,aq e];omega
theorem Lz(h:Ul kvs)(i k:Nat)(v:Int)(φ:Nat->Nat->Int):ds (jJ kvs (nk i k) v) φ=ds kvs φ+(v-(fM kvs (nk i k)).getD 0)*φ i k:=by
 unfold jJ
 cases e:fM kvs (nk i k) with
 |none=>
  rw[aq (by simp),xw]
  show ds kvs φ+(v*φ i k+0)=_
  simp
 |some o=>
  rw[ay (by rfl),Db φ i k v kvs h.nd,e];rfl
def iU(kvs:ik):Bd:=fj ((List.range 9).map fun k=>fz ((List.range 9).map fun i=>(fM kvs (nk i k)).getD 0))
def QD(b:Bd):Prop:=(b=[]\/∃ys a,b=ys++[a]/\a≠[])/\∀r∈b,Rw r
theorem u0(n i:Nat)(h:Nat->Int):((List.range n).map h).getD i 0=if i<n then h i else 0:=by
 rw[ah,aI]
 by_cases e:i<n
 ·rw[ay e,eC e];rfl
 ·rw[aq e,aZ (by simpa using e)];rfl
theorem u4(n i:Nat)(h:Nat->List Int):((List.range n).map h).getD i []=if i<n then h i else []:=by
 rw[ah,aI]
 by_cases e:i<n
 ·rw[ay e,eC e];rfl
 ·rw[aq e,aZ (by simpa using e)];rfl
theorem rO(kvs:ik)(i k:Nat):eU (iU kvs) i k=if i<9/\k<9 then (fM kvs (nk i k)).getD 0 else 0:=by
 unfold eU iU
 rw[pR,u4]
 by_cases hk:k<9
 ·rw[ay hk,sk,u0]
  by_cases hi:i<9
  ·rw[ay hi,ay ⟨hi,hk⟩]
  ·rw[aq hi,aq (fun z=>hi z.1)]
 ·rw[aq hk,aq (fun z=>hk z.2)];rfl
theorem kW{xs:Bd}(h:∀r∈xs,Rw r):QD (fj xs):=⟨EF xs,fun r hr=>h r (DS hr)⟩
theorem vQ(kvs:ik):QD (iU kvs):=kW fun r hr=>by
 obtain⟨k,_,rfl⟩:=a6.mp hr;exact EE _
theorem Rw.nil:Rw []:=.inl rfl
theorem QD.row(h:QD b)(k:Nat):Rw (b.getD k []):=by
 rcases rk (xs:=b) k with e | e
 ·rw[e];exact .nil
 ·exact h.2 _ e
theorem AF{b:Bd}(ha:QD a)(h:∀k,a.getD k []=b.getD k []):a.length<=b.length:=by
 rcases ha.1 with e | ⟨ys,r,e,hr⟩
 ·subst e;exact bu _
 ·rcases Ej b.length a.length with z | z
  ·have h1:=h ys.length
   have e2:b.getD ys.length []=[]:=by
    rw[ah,aZ (by rw[e] at z;simp at z;omega)];rfl
   rw[e2,e,ah,be (ak _),lD] at h1
   exact absurd h1 hr
  ·exact z
theorem sT(ha:QD a)(hb:QD b)(h:∀i k,eU a i k=eU b i k):a=b:=by
 have hr:∀k,a.getD k []=b.getD k []:=fun k=>Hz (ha.row k) (hb.row k) fun i=>h i k
 have h1:=AF ha hr
 have h2:=AF hb fun k=>(hr k).symm
 refine List.ext_getElem (by omega) fun k h3 h4=>?_
 have:=hr k
 rw[ah,ah,aD h3,aD h4] at this
 exact this
theorem xl(f g:List Int)(i:Nat):(nG f g).getD i 0=f.getD i 0+g.getD i 0:=by
 unfold nG
 rw[sk,u0]
 by_cases h:i<max f.length g.length
 ·rw[ay h]
 ·rw[aq h,oZ (show f.length<=i by omega),oZ (show g.length<=i by omega)];rfl
theorem z9(f g:List Int):Rw (nG f g):=EE _
theorem iC(f g:Bd)(i k:Nat):eU (kQ f g) i k=eU f i k+eU g i k:=by
 unfold eU kQ
 rw[pR,u4]
 by_cases h:k<max f.length g.length
 ·rw[ay h,xl]
 ·rw[aq h]
  have e1:f.getD k []=[]:=by rw[ah,aZ (by omega)];rfl
  have e2:g.getD k []=[]:=by rw[ah,aZ (by omega)];rfl
  rw[e1,e2];rfl
theorem qR(f g:Bd):QD (kQ f g):=kW fun r hr=>by
 obtain⟨k,_,rfl⟩:=a6.mp hr;exact z9 _ _
theorem o9(g:Bd)(i k:Nat):eU (qZ g) i k=- eU g i k:=by
 unfold eU qZ
 have e:(g.map fun r=>r.map fun x=>-x).getD k []=(g.getD k []).map fun x=>-x:=by
  rw[ah,aI,ah]
  cases g[k]?<;>rfl
 rw[e];exact FA (φ:=fun x=>-x) rfl _ i
theorem Hx(f g:List Int)(ψ:Nat->Int):rs (nG f g) ψ=rs f ψ+rs g ψ:=by
 have hl:=xk f g
 rw[gX (nG f g) (max f.length g.length) ψ hl,gX f (max f.length g.length) ψ (by omega),gX g (max f.length g.length) ψ (by omega),<-uM]
 exact cT _ fun i _=>by rw[xl,Int.add_mul]
theorem zM(c:Int)(h:Nat->Int):∀n,dQ n (fun i=>c*h i)=c*dQ n h
 |0=>by simp[dQ]
 |n+1=>by rw[dQ,zM c h n,dQ,Qh]
theorem E1(f g:List Int)(i:Nat)(acc:List Int)(ψ:Nat->Int):∀j,i+j<=acc.length->rs (uv f g i acc j) ψ=rs acc ψ+dQ j (fun a=>f.getD i 0*(g.getD a 0*ψ (i+a)))
 |0,_=>by simp[uv,dQ]
 |j+1,h=>by
  rw[uv,EZ _ _ _ _ (by rw[oY];omega),E1 f g i acc ψ j (by omega),dQ]
  have e:(uv f g i acc j).getD (i+j) 0+f.getD i 0*g.getD j 0-(uv f g i acc j).getD (i+j) 0=f.getD i 0*g.getD j 0:=by omega
  rw[e,A2];omega
theorem Hw(n:Nat)(ψ:Nat->Int):rs (List.replicate n 0) ψ=0:=by
 have h:∀i,(List.replicate n (0:Int)).getD i 0=([]:List Int).getD i 0:=fun i=>by
  rw[ah,dk]
  split<;>simp
 rw[E3 h];rfl
theorem Cu(f g:List Int)(ψ:Nat->Int):∀i,i<=f.length->rs (pY f g i) ψ=dQ i (fun j=>f.getD j 0*rs g (fun a=>ψ (j+a)))
 |0,_=>by rw[pY];exact Hw _ _
 |i+1,h=>by
  rw[pY,E1 _ _ _ _ _ _ (by rw[ve];omega),Cu f g ψ i (by omega),dQ,zM,gX g g.length _ (ak _)]
theorem EY(f g:List Int)(ψ:Nat->Int):rs (gP f g) ψ=rs f (fun i=>rs g (fun a=>ψ (i+a))):=by
 unfold gP
 rw[E3 (sk _),Cu f g ψ f.length (ak _),gX f f.length _ (ak _)]
theorem IN(b:Bd)(φ:Nat->Nat->Int):bs (fj b) φ=bs b φ:=by
 rw[sS (fj b) b.length φ (sn b),sS b b.length φ (ak _)]
 exact cT _ fun k _=>by rw[pR]
theorem Dl(f g:Bd)(j:Nat)(acc:Bd)(φ:Nat->Nat->Int):∀k,j+k<=acc.length->bs (j9 f g j acc k) φ=bs acc φ+dQ k (fun c=>rs (gP (f.getD j []) (g.getD c [])) (fun i=>φ i (j+c)))
 |0,_=>by simp[j9,dQ]
 |k+1,h=>by
  rw[j9,Gz _ _ _ _ (by rw[rj];omega),Dl f g j acc φ k (by omega),dQ,Hx];omega
theorem IP(φ:Nat->Nat->Int)(n:Nat):bs (List.replicate n []) φ=0:=by
 induction n generalizing φ with
 |zero=>rfl
 |succ n ih=>rw[bv,bs,ih];rfl
theorem Dk(f g:Bd)(φ:Nat->Nat->Int):∀j,j<=f.length->bs (jL f g j) φ=dQ j (fun a=>dQ g.length (fun c=>rs (gP (f.getD a []) (g.getD c [])) (fun i=>φ i (a+c))))
 |0,_=>by rw[jL];exact IP _ _
 |j+1,h=>by
  rw[jL,Dl _ _ _ _ _ _ (by rw[qX];omega),Dk f g φ j (by omega),dQ]
theorem Ct(f:List Int)(h:Nat->Nat->Int):∀n,rs f (fun i=>dQ n (fun c=>h i c))=dQ n (fun c=>rs f (fun i=>h i c))
 |0=>xY _ (fun _=>rfl) f
 |n+1=>by
  show rs f (fun i=>dQ n (fun c=>h i c)+h i n)=_
  rw[Hy,Ct f h n,dQ]
theorem Gy(f g:Bd)(φ:Nat->Nat->Int):bs (jj f g) φ=bs f (fun i j=>bs g (fun a c=>φ (i+a) (j+c))):=by
 unfold jj
 split
 ·rename_i h
  rcases h with h | h
  ·subst h;rfl
  ·subst h
   exact(yO f (fun i j=>bs [] (fun a c=>φ (i+a) (j+c))) fun _ _=>rfl).symm
 ·rw[IN,Dk f g φ f.length (ak _),sS f f.length _ (ak _)]
  refine cT _ fun j _=>?_
  have e:(fun i:Nat=>bs g (fun a c=>φ (i+a) (j+c)))=fun i=>dQ g.length (fun c=>rs (g.getD c []) (fun a=>φ (i+a) (j+c))):=funext fun i=>sS g g.length _ (ak _)
  rw[e,Ct]
  exact cT _ fun c _=>EY _ _ _
def UR(n:Nat)(b:Bd):Prop:=b.length<=n/\∀k,(b.getD k []).length<=n
theorem UR.out{i k:Nat}(h:UR n b)(q:n<=i\/n<=k):eU b i k=0:=by
 unfold eU
 rcases q with q | q
 ·exact oZ (aL (h.2 k) q)
 ·have e:b.getD k []=[]:=by rw[ah,aZ (aL h.1 q)];rfl
  rw[e];rfl
theorem DA(f g:Bd):QD (jj f g):=by
 unfold jj
 split
 ·exact⟨.inl rfl,fun _ h=>(nomatch h)⟩
 ·refine kW ?_
  have h1:∀j (acc:Bd),(∀r∈acc,Rw r)->∀k,∀r∈j9 f g j acc k,Rw r:=by
   intro j acc ha k
   induction k with
   |zero=>exact ha
   |succ k ih=>
    intro r hr
    rw[j9] at hr
    rcases Mf hr with h | h
    ·exact ih r h
    ·rw[h];exact z9 _ _
  have h2:∀j,∀r∈jL f g j,Rw r:=by
   intro j
   induction j with
   |zero=>intro r hr;rw[jL] at hr;rw[(B5.mp hr).2];exact .nil
   |succ j ih=>exact h1 j _ ih _
  exact h2 _
theorem BE{n:Nat}(hb:QD b)(h:∀i k,n<=i\/n<=k->eU b i k=0):UR n b:=by
 have hr:∀k,(b.getD k []).length<=n:=fun k=>by
  rcases hb.row k with e | ⟨ys,a,e,ha⟩
  ·rw[e];exact bu _
  ·rcases Ej n (b.getD k []).length with z | z
   ·rw[e,ac,bL] at z
    have:=h ys.length k (.inl (by omega))
    unfold eU at this
    rw[e,ah,be (ak _),lD] at this
    exact absurd this ha
   ·exact z
 refine⟨?_,hr⟩
 rcases hb.1 with e | ⟨ys,r,e,hn⟩
 ·rw[e];exact bu _
 ·rcases Ej n b.length with z | z
  ·have hk:b.getD ys.length []=r:=by rw[e,ah,be (ak _),lD];rfl
   have Xu:=hb.row ys.length
   rw[hk] at Xu
   rcases Xu with w | ⟨zs,a,w,ha⟩
   ·exact absurd w hn
   ·rw[e,ac,bL] at z
    have:=h zs.length ys.length (.inr (by omega))
    unfold eU at this
    rw[hk,w,ah,be (ak _),lD] at this
    exact absurd this ha
  ·exact z
def VB(M:Nat)(kvs:ik):Prop:=∀p∈kvs,p.2.natAbs<=M
def S6(n:Nat)(kvs:ik):Prop:=∀p∈kvs,∃i k:Nat,p.1=nk i k/\i<n/\k<n
theorem z4(kvs:ik)(k:List Int)(v:Int):(jJ kvs k v).length<=kvs.length+1:=by
 unfold jJ
 split
 ·rw[af];omega
 ·rw[ac,bL];omega
theorem VB.put{v:Int}(h:VB M kvs)(hv:v.natAbs<=M):VB M (jJ kvs k v):=fun p hp=>by
 rcases u5 hp with e | e
 ·rw[e];exact hv
 ·exact h p e
theorem VB.val(h:VB M kvs)(k:List Int):((fM kvs k).getD 0).natAbs<=M:=by
 cases e:fM kvs k with
 |none=>exact bu _
 |some v=>exact h _ (w5 e)
theorem S6.put{i k:Nat}(h:S6 n kvs)(hi:i<n)(hk:k<n)(v:Int):S6 n (jJ kvs (nk i k) v):=fun p hp=>by
 rcases u5 hp with e | e
 ·exact⟨i,k,by rw[e],hi,hk⟩
 ·exact h p e
def BB(M:Nat)(b:Bd):Prop:=∀i k,(eU b i k).natAbs<=M
theorem BB.lim(h:BB M b)(hM:M<2 ^ 63):∀r∈b,∀y∈r,-(2 ^ 63)<y/\y<2 ^ 63:=fun r hr y hy=>by
 obtain⟨k,hk,rfl⟩:=AU hr
 obtain⟨i,hi,rfl⟩:=AU hy
 have:=h i k
 unfold eU at this
 rw[ah (l:=b),aD hk] at this
 have e:(b[k]).getD i 0=b[k][i]:=uw hi
 have e':((some b[k]).getD []).getD i 0=b[k][i]:=e
 rw[e'] at this
 omega
theorem BR(h:VB M kvs):BB M (iU kvs):=fun i k=>by
 rw[rO]
 split
 ·exact h.val _
 ·exact bu _
theorem AG(h:S6 n kvs):UR n (iU kvs):=BE (vQ kvs) fun i k q=>by
 rw[rO]
 split
 ·rw[si fun p hp e=>?_]
  ·rfl
  ·obtain⟨a,c,e',h1,h2⟩:=h p hp
   have:=KI (e'.symm.trans e)
   omega
 ·rfl
theorem UR.sm{m:Nat}(h:UR n b)(hm:n<m):Sb m b:=⟨dL h.1 hm,fun r hr=>by
 obtain⟨k,hk,rfl⟩:=AU hr
 have:=h.2 k
 rw[ah,aD hk] at this
 exact dL this hm⟩
abbrev rV(p q:List Int):List Int:=[p.getD 0 0+q.getD 0 0,p.getD 1 0+q.getD 1 0]
def jK(p:List Int×Int)(acc B:ik):ik:=B.foldl (fun acc q=>jJ acc (rV p.1 q.1) ((fM acc (rV p.1 q.1)).getD 0+p.2*q.2)) acc
def u7(A B:ik):ik:=A.foldl (fun acc p=>jK p acc B) []
theorem Dn(a c i k:Nat):rV (nk a c) (nk i k)=nk (a+i) (c+k):=by simp[rV,nk]
theorem ya(a c:Nat)(v:Int)(φ:Nat->Nat->Int):∀(B acc:ik),Ul acc->(∀p∈B,∃i k:Nat,p.1=nk i k)->Ul (jK (nk a c,v) acc B)/\ds (jK (nk a c,v) acc B) φ=ds acc φ+v*ds B (fun i k=>φ (a+i) (c+k))/\(jK (nk a c,v) acc B).length<=acc.length+B.length
 |[],acc,h,_=>⟨h,by simp[jK,ds],ak _⟩
 |(k,x)::B,acc,h,hB=>by
  obtain⟨i,j,e⟩:=hB (k,x) (by simp)
  have e':k=nk i j:=e
  subst e'
  have ea:rV (nk a c) (nk i j)=nk (a+i) (c+j):=Dn a c i j
  obtain⟨g1,g2,g3⟩:=ya a c v φ B (jJ acc (nk (a+i) (c+j)) ((fM acc (nk (a+i) (c+j))).getD 0+v*x)) (h.put _ _ _) fun p hp=>hB p (by simp[hp])
  have e0:jK (nk a c,v) acc ((nk i j,x)::B)=jK (nk a c,v) (jJ acc (nk (a+i) (c+j)) ((fM acc (nk (a+i) (c+j))).getD 0+v*x)) B:=by
   show jK (nk a c,v) (jJ acc (rV (nk a c) (nk i j)) ((fM acc (rV (nk a c) (nk i j))).getD 0+v*x)) B=_
   rw[ea]
  rw[e0]
  refine⟨g1,?_,?_⟩
  ·rw[g2,Lz h,ds]
   have e1:(fM acc (nk (a+i) (c+j))).getD 0+v*x-(fM acc (nk (a+i) (c+j))).getD 0=v*x:=by omega
   have e2:((nk i j).getD 0 0).toNat=i:=by simp
   have e3:((nk i j).getD 1 0).toNat=j:=by simp
   simp only[e2,e3]
   rw[e1,Qh,<-A2];omega
  ·have:=z4 acc (nk (a+i) (c+j)) ((fM acc (nk (a+i) (c+j))).getD 0+v*x)
   rw[a5];omega
theorem Cz(B:ik)(hB:∀p∈B,∃i k:Nat,p.1=nk i k)(φ:Nat->Nat->Int):∀(A acc:ik),Ul acc->(∀p∈A,∃i k:Nat,p.1=nk i k)->Ul (A.foldl (fun acc p=>jK p acc B) acc)/\ds (A.foldl (fun acc p=>jK p acc B) acc) φ=ds acc φ+ds A (fun i k=>ds B (fun a c=>φ (i+a) (k+c)))/\(A.foldl (fun acc p=>jK p acc B) acc).length<=acc.length+A.length*B.length
 |[],acc,h,_=>⟨h,by simp[ds],by simp⟩
 |(k,v)::A,acc,h,hA=>by
  obtain⟨a,c,e⟩:=hA (k,v) (by simp)
  have e':k=nk a c:=e
  subst e'
  obtain⟨f1,f2,f3⟩:=ya a c v φ B acc h hB
  obtain⟨g1,g2,g3⟩:=Cz B hB φ A (jK (nk a c,v) acc B) f1 fun p hp=>hA p (by simp[hp])
  rw[oJ]
  refine⟨g1,?_,?_⟩
  ·rw[g2,f2,ds]
   have e2:((nk a c).getD 0 0).toNat=a:=by simp
   have e3:((nk a c).getD 1 0).toNat=c:=by simp
   simp only[e2,e3];omega
  ·rw[a5,vZ];omega
theorem A7(R:Bd->cp)(h1:Qs X (R []) c false)(h2:∀ys a,Qs X (R (ys++[a])) c (decide (a=[])))(h3:∀ys a,Qr X (R (ys++[a])) body (.nx (R ys))):
  ∀(n:Nat) (ys:Bd),ys.length=n->∃m,Sv X c body m (R ys) (.nx (R (fj ys))):=by
 intro n
 induction n with
 |zero=>intro ys e;rw[bc e];exact⟨0,.stop h1⟩
 |succ n ih=>
  intro ys e
  rcases cz ys with z | ⟨zs,a,z⟩
  ·rw[z] at e;cases e
  ·rw[cY] at z
   subst z
   by_cases ha:a=[]
   ·obtain⟨m,q⟩:=ih zs (by simpa using e)
    refine⟨m+1,.step (Qs.eq (h2 zs a) (aB ha)) (h3 zs a) ?_⟩
    rw[ha,j1];exact q
   ·refine⟨0,?_⟩
    rw[j4 zs ha]
    exact .stop (Qs.eq (h2 zs a) (ao ha))
def E5(kvs:ik)(k:Nat):List Int:=fz ((List.range 9).map fun i=>(fM kvs (nk i k)).getD 0)
def gA(ds:List D)(d:D):Prop:=∃kvs:ik,ds=[.QM kvs]/\d=aA (iU kvs)
theorem rg:∀ds d,gA ds d->ds.length=1:=by rintro _ _ ⟨a,rfl,_⟩;rfl
def kn(ds:List D)(kvs:ik):Prop:=∃A B:ik,ds=[.QM A,.QM B]/\Ul A/\Ul B/\A.length<=1000/\B.length<=1000/\VB (2 ^ 63) B/\kvs=u7 A B
theorem sG:∀ds d,kn ds d->ds.length=2:=by rintro _ _ ⟨a,b,rfl,_⟩;rfl
def nN(xs:List Int):ik:=[(nk 0 0,xs.getD 0 0%11-5),(nk 1 0,xs.getD 1 0%7-3),(nk 0 1,xs.getD 2 0%5-2)]
def oF(ds:List D)(kvs:ik):Prop:=∃xs:List Int,ds=[df xs]/\3<=xs.length/\kvs=nN xs
theorem wn:∀ds d,oF ds d->ds.length=1:=by rintro _ _ ⟨a,rfl,_⟩;rfl
def zR(k:Nat):List Int:=([nk 0 0,nk 1 0,nk 0 1,nk 2 0,nk 1 1,nk 0 2]:List (List Int)).getD k []
def fc(xs:List Int):Int:=1+xs.getD 0 0%4
def jw(xs:List Int):Nat->ik
 |0=>[]
 |k+1=>if xs.getD (1+k) 0 / 16%3 > 0 then jJ (jw xs k) (zR k) (xs.getD (1+k) 0%(2*fc xs+1)-fc xs) else jw xs k
def mY(ds:List D)(kvs:ik):Prop:=∃xs:List Int,ds=[df xs]/\7<=xs.length/\kvs=jw xs 6
theorem vt:∀ds d,mY ds d->ds.length=1:=by rintro _ _ ⟨a,rfl,_⟩;rfl
theorem jM(xs:List Int):Ul (nN xs)/\S6 2 (nN xs)/\VB 5 (nN xs):=by
 refine⟨⟨fun p hp=>?_,by show[nk 0 0,nk 1 0,nk 0 1].Nodup;decide⟩,fun p hp=>?_,fun p hp=>?_⟩ <;>
 ·unfold nN at hp
  rcases aC.mp hp with e | hp
  ·subst e
   first
    |exact⟨0,0,rfl⟩
    |exact⟨0,0,rfl,by omega,by omega⟩
    |(show(xs.getD 0 0%11-5).natAbs<=5;omega)
  ·rcases aC.mp hp with e | hp
   ·subst e
    first
     |exact⟨1,0,rfl⟩
     |exact⟨1,0,rfl,by omega,by omega⟩
     |(show(xs.getD 1 0%7-3).natAbs<=5;omega)
   ·have e:=a7.mp hp
    subst e
    first
     |exact⟨0,1,rfl⟩
     |exact⟨0,1,rfl,by omega,by omega⟩
     |(show(xs.getD 2 0%5-2).natAbs<=5;omega)
theorem Hi{k:Nat}(h:k<6):∃a c:Nat,zR k=nk a c/\a<3/\c<3:=by
 match k,h with
 |0,_=>exact⟨0,0,rfl,by omega,by omega⟩
 |1,_=>exact⟨1,0,rfl,by omega,by omega⟩
 |2,_=>exact⟨0,1,rfl,by omega,by omega⟩
 |3,_=>exact⟨2,0,rfl,by omega,by omega⟩
 |4,_=>exact⟨1,1,rfl,by omega,by omega⟩
 |5,_=>exact⟨0,2,rfl,by omega,by omega⟩
theorem BM(xs:List Int):∀k,k<=6->S6 5 (jw xs k)/\VB 1000000 (jw xs k)/\(jw xs k).length<=k
 |0,_=>⟨fun _ h=>(nomatch h),fun _ h=>(nomatch h),ak _⟩
 |k+1,h=>by
  obtain⟨h1,h2,h3⟩:=BM xs k (by omega)
  obtain⟨a,c,e,ha,hc⟩:=Hi (k:=k) (by omega)
  rw[jw]
  split
  ·rw[e]
   have hs:1<=fc xs/\fc xs<=4:=by unfold fc;omega
   refine⟨h1.put (by omega) (by omega) _,h2.put ?_,?_⟩
   ·have:=qk (xs.getD (1+k) 0) (show 0<2*fc xs+1 by omega)
    have:=v6 (xs.getD (1+k) 0) (show 2*fc xs+1≠0 by omega)
    omega
   ·have:=z4 (jw xs k) (nk a c) (xs.getD (1+k) 0%(2*fc xs+1)-fc xs)
    omega
  ·exact⟨h1,h2,by omega⟩
structure LB(b:Bd):Prop where
 ok:QD b
 fit:UR 5 b
 bb:BB 1000000 b
theorem MZ(h1:S6 5 kvs)(h2:VB 1000000 kvs):LB (iU kvs):=⟨vQ _,AG h1,BR h2⟩
section
variable {K:PySem.W.Frag}
theorem t5(h:DefX P w K mg base k gz (ai gx) X)(Qz:mg "range"=none)(QB:mg "tuple"=none)(Qv:mg "len"=none)(c1:Callee X "_law_trim" oE):
  Go X gz gx gA:=by
 rintro ds d ⟨kvs,rfl,rfl⟩
 have t:=h.at'
 haveI:=h.Q7
 have b1:=h.bt Qz
 have b2:=h.bt QB
 have b3:=h.bt Qv
 show Qr X [.val (.QM kvs),.un,.un] _ _
 refine aG (iu t 1 (bI aj)) ?_
 refine aG (ρ':=[.val (.QM kvs),.own (((List.range 9).map (E5 kvs)).map bE),.un]) (gK t (fR t b1 ag (by decide) (by decide)) (QI.QZ (fun i=>[.val (.QM kvs),.own (((List.range i).map (E5 kvs)).map bE),.un]) (fun i d hi=>?_) rfl ?_)) ?_
 ·obtain⟨Vk,rfl⟩:=oU hi
  refine⟨_,dN t 2,Qr.weak (aF (eI t 1 rfl (d:=bE (E5 kvs i)) (a4 t c1 (ab (d:=df ((List.range 9).map fun j=>(fM kvs (nk j i)).getD 0)) (Qp.eq (QJ.Rc (kS (rs:=(List.range 9).map fun j=>D.int ((fM kvs (nk j i)).getD 0)) t (gz++[("_law_i" : Str)]) (IL (by decide +kernel)) (fR t b1 ag (by decide) (by decide)) (by decide) fun X' cx=>?_)) (by show D.lst _=D.lst _;rw[cD];rfl)) aj) ⟨_,rfl,by simp,rfl⟩) ?_)) ?_⟩
  ·exact QY.gen (fun(j:Nat)=>D.int (0+(j:Int))) _ (fun(j:Nat)=>[.val (.QM kvs),.own (((List.range i).map (E5 kvs)).map bE),.val (.int (i:Int)),.val (.int (j:Int))]) _ _ (fun x hx=>by rw[lJ];exact cm cx.at' 3) (fun x hx y hy=>by rw[lJ];exact cm cx.at' 3) fun x hx=>
    C6 (k:=nk x i) (n0:=0) cx.at' (Qp.dr (aa cx.at' 0 rfl)) (ab (aT (ab (aa cx.at' 3 rfl) (ab (aa cx.at' 2 rfl) aj))) (ab ag aj))
  ·rw[af,af,lG];exact uP (by simp at Vk;omega)
  ·rw[jY,aX,aX]
   exact .keep (.keep (.forget .nil))
 ·rfl
 refine aG (qN t (A7 (fun ys=>[.val (.QM kvs),.own (ys.map bE),.un]) ?_ (fun ys a=>?_) (fun ys a=>?_) _ ((List.range 9).map (E5 kvs)) rfl)) (aF (bx (ka t b2 (eL t 1 rfl))))
 ·exact RJ.toT (rq (iy t (Sw.p (eL t 1 rfl)) (Qp.p (QJ.Rc (bI aj))) (gC []) (gC []) (by have:=yz [] [];exact bJ not this)))
 ·refine RJ.toT (rm (iy t (Sw.p (eL t 1 rfl)) (Qp.p (QJ.Rc (bI aj))) ((Ij (ys++[a])).sh (by decide)) (gC []) ?_) (rA (fJ t (Qp.p (d:=bE a) (bW (eL t 1 rfl) (eJ (dB t b3 (eL t 1 rfl)) ag) ?_)) (Qp.p (d:=bE []) (aT aj)) (cG _) (cG _) (mE _ _))))
  ·show(!(PyData.list (QA ((ys++[a]).map bE))).eqv (.list (QA [])))=true
   rw[zG]
   cases ys with
   |nil=>simp[QA,PyData.eqv,PyData.eqvAll]
   |cons r ys=>simp[QA,PyData.eqv,PyData.eqvAll]
  ·rw[af,sV (g:=bE) (n:=ys.length) (by simp) (by simp) (by simp)]
   simp
 ·refine Qr.eq (aF (Jl t 1 rfl (by simp))) ?_
  rw[aX]
  have e:(ys.map bE++[a].map bE).dropLast=ys.map bE:=by simp
  rw[e];rfl
theorem tY(h:DefX P w K mg base k Rq (ai gU) X):
  ∀ds d,kn ds d->oq X (ds.map Sl.val++List.replicate (Rq.length-ds.length) Sl.un) (bw gU) d:=by
 rintro ds d ⟨A,B,rfl,hA,hB,lA,lB,vB,rfl⟩
 have t:=h.at'
 haveI:=h.Q7
 show oq X [.val (.QM A),.val (.QM B),.un,.un,.un,.un,.un] _ _
 refine lW (EO t 2 Gp) ?_
 refine lW (ρ':=[.val (.QM A),.val (.QM B),.RC (u7 A B),.un,.un,.un,.un]) (gK t (Gn (aa t 0 rfl)) (QI.QZ (fun i=>[.val (.QM A),.val (.QM B),.RC ((A.take i).foldl (fun acc p=>jK p acc B) []),.un,.un,.un,.un]) (fun i d hi=>?_) rfl ?_)) (C7 t 2 rfl)
 ·rw[aI] at hi
  cases hp:A[i]? with
  |none=>rw[hp] at hi;cases hi
  |some p=>
  rw[hp] at hi;cases hi
  obtain⟨key,v⟩:=p
  have hm:(key,v)∈A:=cJ hp
  obtain⟨a,c,e⟩:=hA.keys _ hm
  have e':key=nk a c:=e
  subst e'
  have hv:=qo hA.nd hm
  have hilt:i<A.length:=(az.mp hp).1
  obtain⟨f1,_,f3⟩:=Cz B hB.keys (fun _ _=>0) (A.take i) [] .nil (fun p hp=>hA.keys p (dg hp))
  have f3':((A.take i).foldl (fun acc p=>jK p acc B) []).length<=1000*1000:=by
   have h1:(A.take i).length<=1000:=by rw[cv];omega
   have h2:=L1 h1 lB
   have h3:([]:ik).length=0:=rfl
   omega
  have et:A.take (i+1)=A.take i++[(nk a c,v)]:=lL hp
  refine⟨_,hW t 3 4,Qr.weak (ρ1:=[.val (.QM A),.val (.QM B),.RC ((A.take (i+1)).foldl (fun acc p=>jK p acc B) []),.val (.int a),.val (.int c),.un,.un]) (aF (gK t (Gn (aa t 1 rfl))
   (QI.QZ (fun j=>[.val (.QM A),.val (.QM B),.RC (jK (nk a c,v) ((A.take i).foldl (fun acc p=>jK p acc B) []) (B.take j)),.val (.int a),.val (.int c),.un,.un]) (fun j d hj=>?_) rfl ?_))) (.keep (.keep (.keep (.forget (.forget (.keep (.keep .nil)))))))⟩
  ·rw[aI] at hj
   cases hq:B[j]? with
   |none=>rw[hq] at hj;cases hj
   |some q=>
   rw[hq] at hj;cases hj
   obtain⟨Xq,v2⟩:=q
   have ZG:(Xq,v2)∈B:=cJ hq
   obtain⟨a2,c2,e⟩:=hB.keys _ ZG
   have e':Xq=nk a2 c2:=e
   subst e'
   have hv2:=qo hB.nd ZG
   have hb2:=vB _ ZG
   have hb3:v2.natAbs<=2 ^ 63:=hb2
   have et2:B.take (j+1)=B.take j++[(nk a2 c2,v2)]:=lL hq
   obtain⟨_,_,g3⟩:=ya a c v (fun _ _=>0) (B.take j) _ f1 (fun p hp=>hB.keys p (dg hp))
   have g4:(B.take j).length<=1000:=by rw[cv];omega
   refine⟨_,hW t 5 6,Qr.weak (aF (Cp t (cQ (C6 (k:=rV (nk a c) (nk a2 c2)) (n0:=0) t (Lu t 2 rfl) (ab (aT (ab (cQ (aa t 3 rfl) (aa t 5 rfl)) (ab (cQ (aa t 4 rfl) (aa t 6 rfl)) aj))) (ab ag aj)))
    (k7 (F9 (k:=nk a c) t (Qp.dr (aa t 0 rfl)) (aT (ab (aa t 3 rfl) (ab (aa t 4 rfl) aj))) hv) (F9 (k:=nk a2 c2) t (Qp.dr (aa t 1 rfl)) (aT (ab (aa t 5 rfl) (ab (aa t 6 rfl) aj))) hv2) (lT (by omega) (by omega))))
    (Da (k:=rV (nk a c) (nk a2 c2)) t 2 rfl (aT (ab (cQ (aa t 3 rfl) (aa t 5 rfl)) (ab (cQ (aa t 4 rfl) (aa t 6 rfl)) aj))) (by rw[xp];omega)))) ?_⟩
   rw[et2,show jK (nk a c,v) ((A.take i).foldl (fun acc p=>jK p acc B) []) (B.take j++[(nk a2 c2,v2)])=_ from Ek]
   exact .keep (.keep (.keep (.keep (.keep (.forget (.forget .nil))))))
  ·rw[af,bz,et,Ek];rfl
 ·rw[af,bz];rfl
end
theorem CB{n m l a c:Nat}(v:Int)(ha:a<n)(hc:c<n)(hl:n+m<=l+1):∀(B acc:ik),S6 m B->S6 l acc->S6 l (jK (nk a c,v) acc B)
 |[],acc,_,h=>h
 |(k,x)::B,acc,hB,h=>by
  obtain⟨i,j,e,hi,hj⟩:=hB (k,x) (by simp)
  have e':k=nk i j:=e
  subst e'
  show S6 l (jK (nk a c,v) (jJ acc (rV (nk a c) (nk i j)) ((fM acc (rV (nk a c) (nk i j))).getD 0+v*x)) B)
  rw[Dn]
  exact CB v ha hc hl B _ (fun p hp=>hB p (by simp[hp])) (h.put (by omega) (by omega) _)
theorem CA(v:Int)(hv:v.natAbs<=5):∀(B acc:ik) (M:Nat),VB 5 B->VB M acc->VB (M+25*B.length) (jK (nk a c,v) acc B)
 |[],acc,M,_,h=>h
 |(k,x)::B,acc,M,hB,h=>by
  have hx:x.natAbs<=5:=hB (k,x) (by simp)
  have h1:(v*x).natAbs<=25:=by rw[Int.natAbs_mul];exact L1 hv hx
  have h2:VB (M+25) (jJ acc (rV (nk a c) k) ((fM acc (rV (nk a c) k)).getD 0+v*x)):=VB.put (fun p hp=>aL (h p hp) (by omega)) (by
   have:=h.val (rV (nk a c) k)
   omega)
  have h3:=CA (a:=a) (c:=c) v hv B _ (M+25) (fun p hp=>hB p (by simp[hp])) h2
  intro p hp
  have:=h3 p hp
  have e:((k,x)::B).length=B.length+1:=rfl
  omega
theorem Cy{n m l:Nat}(hl:n+m<=l+1)(hB:S6 m B):∀(A acc:ik),S6 n A->S6 l acc->S6 l (A.foldl (fun acc p=>jK p acc B) acc)
 |[],acc,_,h=>h
 |(k,v)::A,acc,hA,h=>by
  obtain⟨i,j,e,hi,hj⟩:=hA (k,v) (by simp)
  have e':k=nk i j:=e
  subst e'
  rw[oJ]
  exact Cy hl hB A _ (fun p hp=>hA p (by simp[hp])) (CB v hi hj hl B acc hB h)
theorem Cw(hB:VB 5 B):∀(A acc:ik) (M:Nat),(∀p∈A,∃i k:Nat,p.1=nk i k)->VB 5 A->VB M acc->VB (M+25*(A.length*B.length)) (A.foldl (fun acc p=>jK p acc B) acc)
 |[],acc,M,_,_,h=>by
  have e:([]:ik).length*B.length=0:=by simp
  rw[e];exact h
 |(k,v)::A,acc,M,hk,hA,h=>by
  obtain⟨i,j,e⟩:=hk (k,v) (by simp)
  have e':k=nk i j:=e
  subst e'
  rw[oJ]
  have h1:=CA (a:=i) (c:=j) v (hA (nk i j,v) (by simp)) B acc M hB h
  have h2:=Cw hB A _ _ (fun p hp=>hk p (by simp[hp])) (fun p hp=>hA p (by simp[hp])) h1
  intro p hp
  have:=h2 p hp
  have e:((nk i j,v)::A).length*B.length=A.length*B.length+B.length:=by rw[a5,vZ]
  omega
theorem sw(kA:Ul A)(iA:S6 2 A)(iB:S6 2 B)(vA:VB 5 A)(vB:VB 5 B)(lA:A.length<=3)(lB:B.length<=3):S6 5 (u7 A B)/\VB 1000000 (u7 A B):=by
 have h1:=Cy (n:=2) (m:=2) (l:=5) (by omega) iB A [] iA (fun _ h=>(nomatch h))
 have h2:=Cw vB A [] 0 kA.keys vA (fun _ h=>(nomatch h))
 refine⟨h1,fun p hp=>?_⟩
 have h3:=h2 p hp
 have h4:=L1 lA lB
 omega
def Eu(xs:List Int):ik:=[(nk 0 0,xs.getD 1 0%11-5),(nk 1 0,xs.getD 2 0%7-3),(nk 2 0,xs.getD 3 0%5-2)]
def wV(xs:List Int):ik:=[(nk 0 0,xs.getD 1 0%5-2),(nk 1 0,1)]
def Et(xs:List Int):ik:=[(nk 0 0,0-xs.getD 1 0%10),(nk 2 0,1+xs.getD 2 0%2),(nk 0 2,1+xs.getD 3 0%2)]
def CO(xs:List Int):ik:=
 if xs.getD 0 0%8<2 then jw (fK xs (some 1) none) 6
 else if xs.getD 0 0%8=2 then Eu xs
 else if xs.getD 0 0%8=3 then u7 (nN (fK xs (some 1) none)) (nN (fK xs (some 4) none))
 else if xs.getD 0 0%8=4 then u7 (nN (fK xs (some 1) none)) (nN [xs.getD 1 0,xs.getD 2 0,xs.getD 3 0])
 else if xs.getD 0 0%8=5 then u7 (wV xs) (nN (fK xs (some 4) none))
 else if xs.getD 0 0%8=6 then Et xs
 else nN (fK xs (some 1) none)
def KU(c:Int):Bd:=iU (CO (fq c 12))
theorem S6.mono{m:Nat}(h:S6 n kvs)(q:n<=m):S6 m kvs:=fun p hp=>let ⟨i,k,e,a,b⟩:=h p hp;⟨i,k,e,by omega,by omega⟩
theorem VB.mono{m:Nat}(h:VB n kvs)(q:n<=m):VB m kvs:=fun p hp=>aL (h p hp) q
theorem zu(xs:List Int):Ul (wV xs)/\S6 2 (wV xs)/\VB 5 (wV xs):=by
 refine⟨⟨fun p hp=>?_,by show[nk 0 0,nk 1 0].Nodup;decide⟩,fun p hp=>?_,fun p hp=>?_⟩ <;>
 ·unfold wV at hp
  rcases aC.mp hp with e | hp
  ·subst e
   first
    |exact⟨0,0,rfl⟩
    |exact⟨0,0,rfl,by omega,by omega⟩
    |(show(xs.getD 1 0%5-2).natAbs<=5;omega)
  ·have e:=a7.mp hp
   subst e
   first
    |exact⟨1,0,rfl⟩
    |exact⟨1,0,rfl,by omega,by omega⟩
    |decide
theorem FH(xs:List Int):S6 5 (CO xs)/\VB 1000000 (CO xs):=by
 unfold CO
 split
 ·have:=BM (fK xs (some 1) none) 6 (ak _);exact⟨this.1,this.2.1⟩
 split
 ·refine⟨fun p hp=>?_,fun p hp=>?_⟩ <;>
  ·unfold Eu at hp
   rcases aC.mp hp with e | hp
   ·subst e
    first
     |exact⟨0,0,rfl,by omega,by omega⟩
     |(show(xs.getD 1 0%11-5).natAbs<=1000000;omega)
   ·rcases aC.mp hp with e | hp
    ·subst e
     first
      |exact⟨1,0,rfl,by omega,by omega⟩
      |(show(xs.getD 2 0%7-3).natAbs<=1000000;omega)
    ·have e:=a7.mp hp
     subst e
     first
      |exact⟨2,0,rfl,by omega,by omega⟩
      |(show(xs.getD 3 0%5-2).natAbs<=1000000;omega)
 split
 ·obtain⟨a1,a2,a3⟩:=jM (fK xs (some 1) none)
  obtain⟨b1,b2,b3⟩:=jM (fK xs (some 4) none)
  exact sw a1 a2 b2 a3 b3 (ak _) (ak _)
 split
 ·obtain⟨a1,a2,a3⟩:=jM (fK xs (some 1) none)
  obtain⟨b1,b2,b3⟩:=jM [xs.getD 1 0,xs.getD 2 0,xs.getD 3 0]
  exact sw a1 a2 b2 a3 b3 (ak _) (ak _)
 split
 ·obtain⟨a1,a2,a3⟩:=zu xs
  obtain⟨b1,b2,b3⟩:=jM (fK xs (some 4) none)
  exact sw a1 a2 b2 a3 b3 (by show 2<=3;omega) (ak _)
 split
 ·refine⟨fun p hp=>?_,fun p hp=>?_⟩ <;>
  ·unfold Et at hp
   rcases aC.mp hp with e | hp
   ·subst e
    first
     |exact⟨0,0,rfl,by omega,by omega⟩
     |(show(0-xs.getD 1 0%10).natAbs<=1000000;omega)
   ·rcases aC.mp hp with e | hp
    ·subst e
     first
      |exact⟨2,0,rfl,by omega,by omega⟩
      |(show(1+xs.getD 2 0%2).natAbs<=1000000;omega)
    ·have e:=a7.mp hp
     subst e
     first
      |exact⟨0,2,rfl,by omega,by omega⟩
      |(show(1+xs.getD 3 0%2).natAbs<=1000000;omega)
 ·obtain⟨a1,a2,a3⟩:=jM (fK xs (some 1) none)
  exact⟨a2.mono (by omega),a3.mono (by omega)⟩
theorem KS(c:Int):LB (KU c):=MZ (FH _).1 (FH _).2
def mZ(ds:List D)(d:D):Prop:=∃c:Int,ds=[.int c]/\d=aA (KU c)
theorem vv:∀ds d,mZ ds d->ds.length=1:=by rintro _ _ ⟨a,rfl,_⟩;rfl
theorem Ay{xs:List Int}{n m:Nat}(h:xs.length=n)(hm:m<=n):(fK xs (some (m:Int)) none).length=n-m:=by
 unfold fK
 have e1:HT.QH xs.length 0 (some (m:Int))=m:=by simp only[HT.QH];split<;>omega
 have e2:HT.QH xs.length xs.length none=xs.length:=by simp[HT.QH]
 rw[cv,dj,e1,e2,h];omega
section
variable {K:PySem.W.Frag}
theorem yT(h:DefX P w K mg base k RW (ai kM) X):
  ∀ds d,oF ds d->oq X (ds.map Sl.val++List.replicate (RW.length-ds.length) Sl.un) (bw kM) d:=by
 rintro ds d ⟨xs,rfl,hl,rfl⟩
 have t:=h.at'
 haveI:=h.Q7
 show oq X [.val (df xs)] _ _
 refine Gg (Q6.eq (uC t (RF.cons (k:=nk 0 0) (aT (ab ag (ab ag aj))) (eJ (bU (i:=xs.getD 0 0) (bW (Qp.ql (aa t 0 rfl)) ag (jl (n:=0) (by omega))) ag (by decide)) ag)
  (RF.cons (k:=nk 1 0) (aT (ab ag (ab ag aj))) (eJ (bU (i:=xs.getD 1 0) (bW (Qp.ql (aa t 0 rfl)) ag (jl (n:=1) (by omega))) ag (by decide)) ag)
  (RF.cons (k:=nk 0 1) (aT (ab ag (ab ag aj))) (eJ (bU (i:=xs.getD 2 0) (bW (Qp.ql (aa t 0 rfl)) ag (jl (n:=2) (by omega))) ag (by decide)) ag) .nil)))) rfl)
end
set_option maxHeartbeats 400000
def mf:List D:=[.tup [.int 0,.int 0],.tup [.int 1,.int 0],.tup [.int 0,.int 1],.tup [.int 2,.int 0],.tup [.int 1,.int 1],.tup [.int 0,.int 2]]
theorem DB{i:Nat}(h:i<6):l8 mf (i:Int)=some (.tup ((zR i).map D.int)):=by
 match i,h with
 |0,_=>rfl
 |1,_=>rfl
 |2,_=>rfl
 |3,_=>rfl
 |4,_=>rfl
 |5,_=>rfl
section
variable {K:PySem.W.Frag}
theorem wB(h:DefX P w K mg base k RE (ai jH) X)(Qz:mg "range"=none):
  ∀ds d,mY ds d->oq X (ds.map Sl.val++List.replicate (RE.length-ds.length) Sl.un) (bw jH) d:=by
 rintro ds d ⟨xs,rfl,hl,rfl⟩
 have t:=h.at'
 haveI:=h.Q7
 have b1:=h.bt Qz
 show oq X [.val (df xs),.un,.un,.un,.un] _ _
 have two:∀{ρ:cp} {i j:Int} {pos p1 p2:Pos} {x1 n1 n2:Nat},Qp X ρ (.Tuple [.Constant (.int i) n1 p1,.Constant (.int j) n2 p2] x1 pos) (.tup [.int i,.int j]):=aT (ab ag (ab ag aj))
 refine lW (c6 (d:=.int (fc xs)) t 1 (cQ ag (bU (i:=xs.getD 0 0) (bW (Qp.ql (aa t 0 rfl)) ag (jl (n:=0) (by omega))) ag (by decide)))) ?_
 refine lW (EO t 2 Gp) ?_
 refine lW (ρ':=[.val (df xs),.val (.int (fc xs)),.RC [],.own mf,.un]) ?_ ?_
 ·refine iu (xs:=mf) t 3 ?_ (hs:=?_)
  ·refine bI (ds:=mf) ?_ (hl:=by rw[xp];decide)
   refine ab two ?_
   refine ab two ?_
   refine ab two ?_
   refine ab two ?_
   refine ab two ?_
   refine ab two ?_
   exact aj
  ·rfl
 refine lW (ρ':=[.val (df xs),.val (.int (fc xs)),.RC (jw xs 6),.own mf,.un]) (gK t (fR t b1 ag (by decide) (by decide)) (QI.QZ (fun i=>[.val (df xs),.val (.int (fc xs)),.RC (jw xs i),.own mf,.un]) (fun i d hi=>?_) rfl ?_)) (C7 t 2 rfl)
 rotate_left
 ·have e:(fZ 0 (6:Int).toNat).length=6:=by simp[fZ]
  exact bJ (fun n=>[Sl.val (df xs),Sl.val (.int (fc xs)),Sl.RC (jw xs n),Sl.own mf,Sl.un]) e
 obtain⟨Vk,rfl⟩:=oU hi
 have WN:i<6:=by simpa using Vk
 obtain⟨_,_,l3⟩:=BM xs i (by omega)
 have hs:1<=fc xs/\fc xs<=4:=by unfold fc;omega
 have e1:(1:Int)+(i:Int)=((1+i:Nat):Int):=by omega
 have hx:l8 (xs.map D.int) (1+(i:Int))=some (.int (xs.getD (1+i) 0)):=by rw[e1];exact jl (by omega)
 have hk:l8 mf (i:Int)=some (.tup ((zR i).map D.int)):=by
  exact DB WN
 refine⟨_,dN t 4,Qr.weak (ρ1:=[.val (df xs),.val (.int (fc xs)),.RC (jw xs (i+1)),.own mf,.val (.int i)]) (aF ?_) (.keep (.keep (.keep (.keep (.forget .nil)))))⟩
 by_cases hc:xs.getD (1+i) 0 / 16%3 > 0
 ·refine c7 (Qs.eq (hV (bU (rJ (i:=xs.getD (1+i) 0) t (bW (Qp.ql (aa t 0 rfl)) (cQ ag (aa t 4 rfl)) hx) ag (by decide)) ag (by decide)) ag) (aB hc)) (Qr.eq (aF (Cp t (eJ (bU (i:=xs.getD (1+i) 0) (bW (Qp.ql (aa t 0 rfl)) (cQ ag (aa t 4 rfl)) hx) (cQ (k7 (i:=2) (j:=fc xs) ag (aa t 1 rfl) (nM (by decide) (by decide))) ag) (by omega)) (aa t 1 rfl)) (Da (k:=zR i) t 2 rfl (bW (eL t 3 rfl) (aa t 4 rfl) hk) (by rw[xp];omega)))) ?_)
  rw[show jw xs (i+1)=_ from ay hc];rfl
 ·refine b0 (Qs.eq (hV (bU (rJ (i:=xs.getD (1+i) 0) t (bW (Qp.ql (aa t 0 rfl)) (cQ ag (aa t 4 rfl)) hx) ag (by decide)) ag (by decide)) ag) (ao hc)) (Qr.eq bF ?_)
  rw[show jw xs (i+1)=jw xs i from aq hc];rfl
end
set_option maxHeartbeats 8000000
section
variable {K:PySem.W.Frag}
theorem y3(h:DefX P w K mg base k mP (ai jI) X)(cN:Callee X "_law_numbers" ij)(cB:Callee X "_law_board_of" gA)(cL:RX X "_law_line" oF)(cC:RX X "_law_conic" mY)(cP:RX X "_law_product" kn):
  Go X mP jI mZ:=by
 rintro ds d ⟨c,rfl,rfl⟩
 have t:=h.at'
 haveI:=h.Q7
 show Qr X [.val (.int c),.un,.un] _ _
 refine aG (c6 (d:=df (fq c 12)) t 1 (a4 t cN (ab (aa t 0 rfl) (ab ag aj)) ⟨c,12,rfl,by decide,rfl⟩)) ?_
 have hl:(fq c 12).length=12:=sy c 12
 have e0:KU c=iU (CO (fq c 12)):=rfl
 rw[e0]
 generalize fq c 12=xs at hl
 have l1:(fK xs (some 1) none).length=11:=Ay (m:=1) hl (by omega)
 have l4:(fK xs (some 4) none).length=8:=Ay (m:=4) hl (by omega)
 have hv:∀n:Nat,n<12->l8 (xs.map D.int) (n:Int)=some (.int (xs.getD n 0)):=fun n hn=>jl (by omega)
 refine aG (c6 (d:=.int (xs.getD 0 0%8)) t 2 (bU (i:=xs.getD 0 0) (bW (Qp.ql (aa t 1 rfl)) ag (hv 0 (by omega))) ag (by decide))) ?_
 show Qr X [.val (.int c),.val (df xs),.val (.int (xs.getD 0 0%8))] _ _
 have fin:∀{kvs:ik},CO xs=kvs->gA [.QM kvs] (aA (iU (CO xs))):=fun {kvs} e=>⟨kvs,rfl,by rw[e]⟩
 have s1:∀{pos p2 p:Pos} {x1:Nat},Qp X [.val (.int c),.val (df xs),.val (.int (xs.getD 0 0%8))] (.Subscript (.Name "_law_xs" p) (.Slice (some (.Constant (.int 1) x1 p)) none none p2) pos) (df (fK xs (some 1) none))->True:=fun _=>trivial
 clear s1
 by_cases h0:xs.getD 0 0%8<2
 ·refine dI (c7 (Qs.eq (eQ (aa t 2 rfl) ag) (aB h0)) (aF (bx (a4 t cB (ab (Q6.Rc (iT t cC (ab (d:=df (fK xs (some 1) none)) (Qp.eq (QJ.Rc (hJ (Qp.ql (aa t 1 rfl)) (fQ ag) eM)) (by rw[ja])) aj) ⟨_,rfl,by omega,rfl⟩)) aj) (fin ?_)))))
  unfold CO;rw[ay h0]
 refine aG (b0 (Qs.eq (eQ (aa t 2 rfl) ag) (ao h0)) bF) ?_
 by_cases h2:xs.getD 0 0%8=2
 ·refine dI (c7 (Qs.eq (dC (aa t 2 rfl) ag) (aB h2)) (aF (bx (a4 t cB (ab (d:=.QM (Eu xs)) ?_ aj) (fin ?_)))))
  ·refine Q6.Rc (Q6.eq (uC t (RF.cons (k:=nk 0 0) (aT (ab ag (ab ag aj))) (eJ (bU (i:=xs.getD 1 0) (bW (Qp.ql (aa t 1 rfl)) ag (hv 1 (by omega))) ag (by decide)) ag)
    (RF.cons (k:=nk 1 0) (aT (ab ag (ab ag aj))) (eJ (bU (i:=xs.getD 2 0) (bW (Qp.ql (aa t 1 rfl)) ag (hv 2 (by omega))) ag (by decide)) ag)
    (RF.cons (k:=nk 2 0) (aT (ab ag (ab ag aj))) (eJ (bU (i:=xs.getD 3 0) (bW (Qp.ql (aa t 1 rfl)) ag (hv 3 (by omega))) ag (by decide)) ag) .nil)))) rfl)
  ·unfold CO;rw[aq h0,ay h2]
 refine aG (b0 (Qs.eq (dC (aa t 2 rfl) ag) (ao h2)) bF) ?_
 obtain⟨a1,a2,a3⟩:=jM (fK xs (some 1) none)
 obtain⟨d1,d2,d3⟩:=jM (fK xs (some 4) none)
 by_cases h3:xs.getD 0 0%8=3
 ·refine dI (c7 (Qs.eq (dC (aa t 2 rfl) ag) (aB h3)) (aF (bx (a4 t cB (ab (Q6.Rc (iT t cP (ab (Q6.Rc (iT t cL (ab (d:=df (fK xs (some 1) none)) (Qp.eq (QJ.Rc (hJ (Qp.ql (aa t 1 rfl)) (fQ ag) eM)) (by rw[ja])) aj) ⟨_,rfl,by omega,rfl⟩)) (ab (Q6.Rc (iT t cL (ab (d:=df (fK xs (some 4) none)) (Qp.eq (QJ.Rc (hJ (Qp.ql (aa t 1 rfl)) (fQ ag) eM)) (by rw[ja])) aj) ⟨_,rfl,by omega,rfl⟩)) aj)) ⟨_,_,rfl,a1,d1,(show(3:Nat)<=1000 by decide),(show(3:Nat)<=1000 by decide),d3.mono (by decide),rfl⟩)) aj) (fin ?_)))))
  unfold CO;rw[aq h0,aq h2,ay h3]
 refine aG (b0 (Qs.eq (dC (aa t 2 rfl) ag) (ao h3)) bF) ?_
 by_cases h4:xs.getD 0 0%8=4
 ·obtain⟨g1,g2,g3⟩:=jM [xs.getD 1 0,xs.getD 2 0,xs.getD 3 0]
  refine dI (c7 (Qs.eq (dC (aa t 2 rfl) ag) (aB h4)) (aF (bx (a4 t cB (ab (Q6.Rc (iT t cP (ab (Q6.Rc (iT t cL (ab (d:=df (fK xs (some 1) none)) (Qp.eq (QJ.Rc (hJ (Qp.ql (aa t 1 rfl)) (fQ ag) eM)) (by rw[ja])) aj) ⟨_,rfl,by omega,rfl⟩)) (ab (Q6.Rc (iT t cL (ab (d:=df [xs.getD 1 0,xs.getD 2 0,xs.getD 3 0]) (QJ.Rc (bI (ab (bW (Qp.ql (aa t 1 rfl)) ag (hv 1 (by omega))) (ab (bW (Qp.ql (aa t 1 rfl)) ag (hv 2 (by omega))) (ab (bW (Qp.ql (aa t 1 rfl)) ag (hv 3 (by omega))) aj))))) aj) ⟨_,rfl,ak _,rfl⟩)) aj)) ⟨_,_,rfl,a1,g1,(show(3:Nat)<=1000 by decide),(show(3:Nat)<=1000 by decide),g3.mono (by decide),rfl⟩)) aj) (fin ?_)))))
  unfold CO;rw[aq h0,aq h2,aq h3,ay h4]
 refine aG (b0 (Qs.eq (dC (aa t 2 rfl) ag) (ao h4)) bF) ?_
 by_cases h5:xs.getD 0 0%8=5
 ·obtain⟨g1,g2,g3⟩:=zu xs
  refine dI (c7 (Qs.eq (dC (aa t 2 rfl) ag) (aB h5)) (aF (bx (a4 t cB (ab (Q6.Rc (iT t cP (ab (d:=.QM (wV xs)) ?_ (ab (Q6.Rc (iT t cL (ab (d:=df (fK xs (some 4) none)) (Qp.eq (QJ.Rc (hJ (Qp.ql (aa t 1 rfl)) (fQ ag) eM)) (by rw[ja])) aj) ⟨_,rfl,by omega,rfl⟩)) aj)) ⟨_,_,rfl,g1,d1,(show(2:Nat)<=1000 by decide),(show(3:Nat)<=1000 by decide),d3.mono (by decide),rfl⟩)) aj) (fin ?_)))))
  ·refine Q6.Rc (Q6.eq (uC t (RF.cons (k:=nk 0 0) (aT (ab ag (ab ag aj))) (eJ (bU (i:=xs.getD 1 0) (bW (Qp.ql (aa t 1 rfl)) ag (hv 1 (by omega))) ag (by decide)) ag)
    (RF.cons (k:=nk 1 0) (aT (ab ag (ab ag aj))) ag .nil))) rfl)
  ·unfold CO;rw[aq h0,aq h2,aq h3,aq h4,ay h5]
 refine aG (b0 (Qs.eq (dC (aa t 2 rfl) ag) (ao h5)) bF) ?_
 by_cases h6:xs.getD 0 0%8=6
 ·refine dI (c7 (Qs.eq (dC (aa t 2 rfl) ag) (aB h6)) (aF (bx (a4 t cB (ab (d:=.QM (Et xs)) ?_ aj) (fin ?_)))))
  ·refine Q6.Rc (Q6.eq (uC t (RF.cons (k:=nk 0 0) (aT (ab ag (ab ag aj))) (eJ ag (bU (i:=xs.getD 1 0) (bW (Qp.ql (aa t 1 rfl)) ag (hv 1 (by omega))) ag (by decide)))
    (RF.cons (k:=nk 2 0) (aT (ab ag (ab ag aj))) (cQ ag (bU (i:=xs.getD 2 0) (bW (Qp.ql (aa t 1 rfl)) ag (hv 2 (by omega))) ag (by decide)))
    (RF.cons (k:=nk 0 2) (aT (ab ag (ab ag aj))) (cQ ag (bU (i:=xs.getD 3 0) (bW (Qp.ql (aa t 1 rfl)) ag (hv 3 (by omega))) ag (by decide))) .nil)))) rfl)
  ·unfold CO;rw[aq h0,aq h2,aq h3,aq h4,aq h5,ay h6]
 refine aG (b0 (Qs.eq (dC (aa t 2 rfl) ag) (ao h6)) bF) ?_
 refine aF (bx (a4 t cB (ab (Q6.Rc (iT t cL (ab (d:=df (fK xs (some 1) none)) (Qp.eq (QJ.Rc (hJ (Qp.ql (aa t 1 rfl)) (fQ ag) eM)) (by rw[ja])) aj) ⟨_,rfl,by omega,rfl⟩)) aj) (fin ?_)))
 unfold CO;rw[aq h0,aq h2,aq h3,aq h4,aq h5,aq h6]
end
end My
set_option maxHeartbeats 4000000
namespace My
open PySem L2 L2.EV PyProof.Rows
def TH:Str := "0123456789"
def y6(w:List Nat):Prop:=w≠[]/\(∀c∈w,48<=c/\c<=57)/\w.length<=12/\(w.head?=some 48->w=[48])
def Ro(w:List Nat):Prop:=y6 w\/w=[120]\/w=[121]
theorem FW:∀c:Nat,48<=c->c<=57->(!(Builtin.Str.occurrences TH (S [c]) 0 TH.length 1).isEmpty)=true:=fun c h1 h2=>by
 have:∀c:Nat,c<58->48<=c->(!(Builtin.Str.occurrences TH (S [c]) 0 TH.length 1).isEmpty)=true:=by decide +kernel
 exact this c (by omega) h1
theorem Nc:(!(Builtin.Str.occurrences TH (S [120]) 0 TH.length 1).isEmpty)=false:=by decide +kernel
theorem Nb:(!(Builtin.Str.occurrences TH (S [121]) 0 TH.length 1).isEmpty)=false:=by decide +kernel
theorem LL:∀c:Nat,48<=c->c<=57->al c=true:=fun c h1 h2=>by
 have:∀c:Nat,c<58->48<=c->al c=true:=by decide +kernel
 exact this c (by omega) h1
theorem OW:al 120=true:=by decide +kernel
theorem OV:al 121=true:=by decide +kernel
theorem Ro.lt(h:Ro w):∀c∈w,c<128:=by
 rcases h with h | rfl | rfl
 ·intro c hc;have:=h.2.1 c hc;omega
 ·intro c hc;simp at hc;omega
 ·intro c hc;simp at hc;omega
theorem Ro.al(h:Ro w):∀c∈w,al c=true:=by
 rcases h with h | rfl | rfl
 ·intro c hc;have:=h.2.1 c hc;exact LL c this.1 this.2
 ·intro c hc;simp at hc;subst hc;exact OW
 ·intro c hc;simp at hc;subst hc;exact OV
theorem Ro.ne(h:Ro w):w≠[]:=by
 rcases h with h | rfl | rfl
 ·exact h.1
 ·simp
 ·simp
theorem Ro.len(h:Ro w):w.length<=12:=by
 rcases h with h | rfl | rfl
 ·exact h.2.2.1
 ·simp
 ·simp
theorem GZ{n:Nat}(h:n<=2000):n<=sizeLine:=aL h (cX rfl)
theorem pV{cs:List Nat}(h:cs.length<=2000):(S cs).length<=sizeLine:=by rw[bn];exact GZ h
def JM:List (List Nat):=[[120],[121],[110,111,116],[97,110,100],[111,114],[115,111,109,101],[97,108,108]]
def SV(w:List Nat):Prop:=y6 w\/w∈JM
theorem Ro.v(h:Ro w):SV w:=by
 rcases h with h | h | h
 ·exact .inl h
 ·exact .inr (by rw[h];decide)
 ·exact .inr (by rw[h];decide)
theorem Es:∀w∈JM,(∀c∈w,c<128)/\w≠[]/\w.length<=12:=by decide
theorem Mn:∀w∈JM,∀c∈w,al c=true:=by decide +kernel
theorem SV.lt(h:SV w):∀c∈w,c<128:=by
 rcases h with h | h
 ·exact Ro.lt (.inl h)
 ·exact(Es w h).1
theorem SV.al(h:SV w):∀c∈w,al c=true:=by
 rcases h with h | h
 ·exact Ro.al (.inl h)
 ·exact Mn w h
theorem SV.ne(h:SV w):w≠[]:=by
 rcases h with h | h
 ·exact h.1
 ·exact(Es w h).2.1
theorem SV.len(h:SV w):w.length<=12:=by
 rcases h with h | h
 ·exact h.2.2.1
 ·exact(Es w h).2.2
def oB(ds:List D)(d:D):Prop:=∃w:List Nat,ds=[.str (S w)]/\Ro w/\((y6 w/\d=.bl true)\/((w=[120]\/w=[121])/\d=.bl false))
theorem wk:∀ds d,oB ds d->ds.length=1:=by rintro _ _ ⟨a,rfl,_⟩;rfl
def mV(ds:List D)(d:D):Prop:=∃pre w post:List Nat,ds=[.str (S (pre++w++post)),.int pre.length]/\(∀c∈w,al c=true)/\(∀c,post.head?=some c->al c=false)/\(pre++w++post).length<=2000/\d=.int ((pre.length:Int)+(w.length:Int))
theorem vo:∀ds d,mV ds d->ds.length=2:=by rintro _ _ ⟨a,b,c,rfl,_⟩;rfl
def gG(ds:List D)(d:D):Prop:=∃w:List Nat,ds=[.str (S w)]/\SV w/\d=.QO
theorem nP:∀ds d,gG ds d->ds.length=1:=by rintro _ _ ⟨a,rfl,_⟩;rfl
def GF:PyData:=.tuple [.str "x",.str "y",.str "not",.str "and",.str "or",.str "some",.str "all"]
section
variable {K:PySem.W.Frag}
theorem pW{ρ:cp}{v:Int}[Th X](t:At X N sc)(i:Nat)(hr:ρ[i]?=some (.val (.int n)))(h:Qp X ρ e (.int m))(hv:v=n+m)(hi:N[i]?=some x:=by rfl)(hx:ku sc x=true:=by rfl):
  QQ X ρ (.AugAssign (.Name x pos') .Add e pos) (.nx (ρ.set i (.val (.int v)))):=by subst hv;exact ET t i hr h hi hx
end
section
variable {K:PySem.W.Frag}
theorem AL(h:DefX P w K mg base k n9 (ai i8) X)(gF:∃tk,mg "FIGURES"=some (.str TH tk)):
  Go X n9 i8 oB:=by
 rintro ds r ⟨w',rfl,hw,hd⟩
 have t:=h.at'
 have XQ:∃tk,X.mg "FIGURES"=some (.str TH tk):=by rw[h.Sm];exact gF
 obtain⟨c,cs,rfl⟩:∃c cs,w'=c::cs:=by
  cases w' with
  |nil=>exact absurd rfl hw.ne
  |cons c cs=>exact⟨c,cs,rfl⟩
 have hl:=hw.len
 show Qr X [.val (.str (S (c::cs)))] _ _
 have hq:(!(S (c::cs)==("" : Str)))=true:=by
  have hn:S (c::cs)≠S []:=fun e=>by have:=dX e;cases this
  have e0:("" : Str)=S []:=by decide +kernel
  rw[e0]
  simpa using hn
 have Vk:∀(u:Bool),(!(Builtin.Str.occurrences TH (S [c]) 0 TH.length 1).isEmpty)=u->Qr X [.val (.str (S (c::cs)))] (bw i8) (.rt (.bl u)):=fun u hu=>
  aF (bx (Qp.eq (IB (v:=u) (BG (r:=true) t (aa t 0 rfl).p Qo.p (dO (eV hw.lt)) (dO (by decide +kernel)) hq) fun _=>FZ (ga (c:=c) (aa t 0 rfl) ag (pV (by omega)) (by rw[jb];exact jN (j:=0) rfl)) (vD t XQ) hu) (by rw[Bool.true_and])))
 rcases hd with⟨hn,rfl⟩ | ⟨e,rfl⟩
 ·have:=hn.2.1 c (by simp)
  exact Vk true (FW c this.1 this.2)
 ·refine Vk false ?_
  rcases e with e | e
  ·cases e;exact Nc
  ·cases e;exact Nb
end
section
variable {K:PySem.W.Frag}
theorem yX(h:DefX P w K mg base k mL (ai jD) X)(Qv:mg "len"=none):
  Go X mL jD mV:=by
 rintro ds r ⟨pre,u,post,rfl,hu,hp,hz,rfl⟩
 have t:=h.at'
 haveI:=h.Q7
 have b1:=h.bt Qv
 show Qr X [.val (.str (S (pre++u++post))),.val (.int pre.length),.un] _ _
 refine aG (c6 t 2 (aa t 1 rfl)) ?_
 refine sP t (fun i:Nat=>[.val (.str (S (pre++u++post))),.val (.int pre.length),.val (.int ((pre.length:Int)+(i:Int)))]) (fun i=>i<=u.length) (fun i=>i=u.length) (fun i=>u.length-i) 0 (bu _) (fun i hi=>?_) (fun i hi=>?_)
 ·by_cases e:i<u.length
  ·obtain⟨u1,c,u2,rfl,rfl⟩:∃u1 c u2,u=u1++c::u2/\i=u1.length:=⟨u.take i,u[i],u.drop (i+1),by simp,by simp;omega⟩
   refine .inr ⟨?_,.inr ⟨u1.length+1,?_,by simp,by simp;omega⟩⟩
   ·refine Qs.eq (rK (eQ (aa t 2 rfl) (fb t b1 (aa t 0 rfl) (pV hz))) fun _=>fB (kb (ga (c:=c) (aa t 0 rfl) (aa t 2 rfl) (pV hz) ?_))) ?_
    ·have:=wQ (pre:=pre++u1) (post:=u2++post) (c:=c)
     simpa using this
    ·rw[bn,show(⟨#[c]⟩:Str)=S [c] from rfl,GH,hu c (by simp),Bool.and_true,bh]
     simp;omega
   ·exact aF (pW t 2 rfl ag (by simp;omega))
  ·have WN:i=u.length:=by omega
   subst WN
   refine .inl ⟨?_,rfl⟩
   cases post with
   |nil=>exact Qs.eq (rK (v:=true) (eQ (aa t 2 rfl) (fb t b1 (aa t 0 rfl) (pV hz))) fun z=>by rw[bn,bh] at z;simp at z) (by rw[bn,Bool.and_true,aQ];simp)
   |cons c post=>
    refine Qs.eq (rK (eQ (aa t 2 rfl) (fb t b1 (aa t 0 rfl) (pV hz))) fun _=>fB (kb (ga (c:=c) (aa t 0 rfl) (aa t 2 rfl) (pV hz) ?_))) ?_
    ·have:=wQ (pre:=pre++u) (post:=post) (c:=c)
     simpa using this
    ·rw[show(⟨#[c]⟩:Str)=S [c] from rfl,GH,hp c rfl,L4]
 ·subst hi
  exact aF (bx (aa t 2 rfl))
end
theorem G9(h:y6 w):([PyData.str "x",.str "y",.str "not",.str "and",.str "or",.str "some",.str "all"].any fun y=>PyData.eqv y (.str (S w)))=false:=by
 obtain⟨c,cs,rfl⟩:∃c cs,w=c::cs:=by
  cases w with
  |nil=>exact absurd rfl h.1
  |cons c cs=>exact⟨c,cs,rfl⟩
 have hc:=h.2.1 c (by simp)
 have ne:∀(d:Nat) (ds:List Nat),57<d->(S (d::ds)==S (c::cs))=false:=fun d ds hd=>by
  rw[bj]
  intro e
  have:=dX e
  cases this
  omega
 show((("x" : Str)==S (c::cs))||((("y" : Str)==S (c::cs))||((("not" : Str)==S (c::cs))||((("and" : Str)==S (c::cs))||((("or" : Str)==S (c::cs))||((("some" : Str)==S (c::cs))||((("all" : Str)==S (c::cs))||false)))))))=false
 rw[show("x" : Str)=S [120] by decide +kernel,show("y" : Str)=S [121] by decide +kernel,show("not" : Str)=S [110,111,116] by decide +kernel,show("and" : Str)=S [97,110,100] by decide +kernel,show("or" : Str)=S [111,114] by decide +kernel,show("some" : Str)=S [115,111,109,101] by decide +kernel,show("all" : Str)=S [97,108,108] by decide +kernel]
 rw[ne _ _ (by omega),ne _ _ (by omega),ne _ _ (by omega),ne _ _ (by omega),ne _ _ (by omega),ne _ _ (by omega),ne _ _ (by omega)]
 rfl
theorem Mm:∀u∈JM,([PyData.str "x",.str "y",.str "not",.str "and",.str "or",.str "some",.str "all"].any fun y=>PyData.eqv y (.str (S u)))=true:=by decide +kernel
section
variable {K:PySem.W.Frag}
theorem qc(h:DefX P w K mg base k QL (ai dG) X)(Tr:mg "all"=none)(Qv:mg "len"=none)(gW:PF mg K "WORDS" GF)(gF:∃tk,mg "FIGURES"=some (.str TH tk)):
  ∀ds d,gG ds d->Qr X (ds.map Sl.val++List.replicate (QL.length-ds.length) Sl.un) (bw dG) (.rt d)\/(d=.QO/\∃ρ',Qr X (ds.map Sl.val++List.replicate (QL.length-ds.length) Sl.un) (bw dG) (.nx ρ')):=by
 rintro ds r ⟨u,rfl,hu,rfl⟩
 have t:=h.at'
 obtain⟨l,gm,gk⟩:=gW
 have WR:X.mg "WORDS"=some (.ref l):=by rw[h.Sm];exact gm
 have WS:GP X.K (.ref l) GF:=by rw[h.k'];exact gk
 have XQ:∃tk,X.mg "FIGURES"=some (.str TH tk):=by rw[h.Sm];exact gF
 have b1:=h.bt Tr
 have b2:=h.bt Qv
 have hz:(S u).length<=sizeLine:=pV (aL hu.len (by decide))
 have cw:PyData.canLayAll0 [PyData.str "x",.str "y",.str "not",.str "and",.str "or",.str "some",.str "all"]=true:=by decide +kernel
 have ok:=eV hu.lt
 have lt:=hu.lt
 rcases hu with hn | hx
 ·refine .inr ⟨rfl,[.val (.str (S u))],?_⟩
  show Qr X [.val (.str (S u))] _ _
  refine aG (b0 (yy t (aa t 0 rfl).p (rF t WR WS) (dw ok) (cZ _) cw (G9 hn)) bF) (aF (b0 ?_ bF))
  obtain⟨c,cs,rfl⟩:∃c cs,u=c::cs:=by
   cases u with
   |nil=>exact absurd rfl hn.1
   |cons c cs=>exact⟨c,cs,rfl⟩
  refine Qs.eq (Gc (u:=false) (v:=false) (w:=false) (Qs.eq (nU (fB (Gb (bs:=(S (c::cs)).cps.toList.map fun _=>true) t b1 (QJ.toQ (QJ.eq (kS (rs:=(S (c::cs)).cps.toList.map fun _=>D.bl true) t ["run", "sign"] (IL (by decide +kernel)) (Lw (aa t 0 rfl) (NE lt)) (by unfold Jk;rw[af,jb];exact uP (by have:=hn.2.2.1;omega)) fun X' cx=>?_) ?_))))) ?_) (fun _=>Qs.eq (hV (fb t b2 (aa t 0 rfl) hz) ag) ?_) fun _ _=>?_) rfl
  ·exact QY.gen (fun c=>D.str ⟨#[c]⟩) _ (fun x=>[.val (.str (S (c::cs))),.val (.str ⟨#[x]⟩)]) _ _ (fun x hx=>cm cx.at' 1) (fun x hx y hy=>cm cx.at' 1) fun x hx=>FZ (aa cx.at' 1 rfl) (vD cx.at' (by rw[cx.Sm];exact XQ)) (by
    rw[jb] at hx
    exact FW x (hn.2.1 x hx).1 (hn.2.1 x hx).2)
  ·rw[cD];rfl
  ·simp
  ·rw[bn,aQ];have:=hn.2.2.1;omega
  ·refine Qs.eq (rK (bP t (ga (c:=c) (aa t 0 rfl) ag hz (by rw[jb];exact jN (j:=0) rfl)) Qo (eV (cs:=[c]) fun x hx=>lt x (by simp at hx;simp[hx]))) fun z=>iy t (aa t 0 rfl).p Qo.p (dO ok) (dO (by decide +kernel)) (r:=false) ?_) (by simp)
   have z0:c=48:=by
    rw[bh,show("0" : Str)=S [48] by decide +kernel] at z
    have:=dX (a:=[c]) z
    cases this;rfl
   subst z0
   have:=hn.2.2.2 rfl
   rw[this]
   decide +kernel
 ·refine .inl ?_
  show Qr X [.val (.str (S u))] _ _
  exact dI (c7 (yy t (aa t 0 rfl).p (rF t WR WS) (dw ok) (cZ _) cw (Mm u hx)) (aF J9))
end
def O3(c:Nat)(post:List Nat):Prop:=(c≠60/\c≠62/\c≠33)\/((c=60\/c=62)/\post.head?≠some 61)
def qi(ds:List D)(d:D):Prop:=∃pre post:List Nat,(∃u,ds=[.str (S (pre++u++post)),.int pre.length]/\SV u/\(∀c,post.head?=some c->al c=false)/\(pre++u++post).length<=2000/\d=.str (S u)) \/
 (∃c,ds=[.str (S (pre++c::post)),.int pre.length]/\al c=false/\(∀x∈c::post,x<128)/\O3 c post/\(pre++c::post).length<=2000/\d=.str (S [c])) \/
 ∃c,ds=[.str (S (pre++c::61::post)),.int pre.length]/\(c=60\/c=62\/c=33)/\(pre++c::61::post).length<=2000/\d=.str (S [c,61])
theorem yk:∀ds d,qi ds d->ds.length=2:=by rintro _ _ ⟨a,b,⟨c,rfl,_⟩ | ⟨c,rfl,_⟩ | ⟨c,rfl,_⟩⟩<;>rfl
def LU:PyData:=.tuple [.str "<=",.str ">=",.str "!="]
theorem LD{c:Nat}(h1:c≠60)(h2:c≠62)(h3:c≠33):([PyData.str "<=",.str ">=",.str "!="].any fun y=>PyData.eqv y (.str (S (c::cs))))=false:=by
 have ne:∀(d:Nat) (ds:List Nat),d≠c->(S (d::ds)==S (c::cs))=false:=fun d ds hd=>by
  rw[bj]
  intro e
  have:=dX e
  cases this
  exact hd rfl
 show((("<=" : Str)==S (c::cs))||(((">=" : Str)==S (c::cs))||((("!=" : Str)==S (c::cs))||false)))=false
 rw[show("<=" : Str)=S [60,61] by decide +kernel,show(">=" : Str)=S [62,61] by decide +kernel,show("!=" : Str)=S [33,61] by decide +kernel]
 rw[ne _ _ (Ne.symm h1),ne _ _ (Ne.symm h2),ne _ _ (Ne.symm h3)]
 rfl
theorem LC(h:O3 c post):([PyData.str "<=",.str ">=",.str "!="].any fun y=>PyData.eqv y (.str (S (c::post.take 1))))=false:=by
 rcases h with⟨h1,h2,h3⟩ | ⟨h1,h2⟩
 ·exact LD h1 h2 h3
 ·have key:∀ds:List Nat,ds≠[61]->c=60\/c=62->([PyData.str "<=",.str ">=",.str "!="].any fun y=>PyData.eqv y (.str (S (c::ds))))=false:=fun ds hd hc=>by
   have ne:∀d:Nat,(S [d,61]==S (c::ds))=false:=fun d=>by
    rw[bj]
    intro e
    have:=dX e
    cases this
    exact hd rfl
   show((("<=" : Str)==S (c::ds))||(((">=" : Str)==S (c::ds))||((("!=" : Str)==S (c::ds))||false)))=false
   rw[show("<=" : Str)=S [60,61] by decide +kernel,show(">=" : Str)=S [62,61] by decide +kernel,show("!=" : Str)=S [33,61] by decide +kernel,ne,ne,ne]
   rfl
  refine key _ (fun e=>h2 ?_) h1
  cases post with
  |nil=>cases e
  |cons a b=>simp at e;rw[e];rfl
theorem LM:∀c:Nat,c=60\/c=62\/c=33->al c=false:=by
 intro c h
 rcases h with rfl | rfl | rfl<;>decide +kernel
section
variable {K:PySem.W.Frag}
theorem BU(h:DefX P w K mg base k qd (ai ml) X)(c1:Callee X "refuse_wrong_run" gG)(c2:Callee X "end_of_run" mV)(gD:PF mg K "DOUBLE_SIGNS" LU):
  Go X qd ml qi:=by
 rintro ds r ⟨pre,post,⟨u,rfl,hu,hp,hz,rfl⟩ | ⟨c,rfl,hc,ha,Zu,hz,rfl⟩ | ⟨c,rfl,hc3,hz,rfl⟩⟩
 ·have t:=h.at'
  haveI:=h.Q7
  show Qr X [.val (.str (S (pre++u++post))),.val (.int pre.length),.un] _ _
  obtain⟨c,cs,rfl⟩:∃c cs,u=c::cs:=by
   cases u with
   |nil=>exact absurd rfl hu.ne
   |cons c cs=>exact⟨c,cs,rfl⟩
  refine dI (c7 (Qs.eq (fB (kb (ga (c:=c) (aa t 0 rfl) (aa t 1 rfl) (pV hz) ?_))) (by rw[show(⟨#[c]⟩:Str)=S [c] from rfl,GH];exact hu.al c (by simp))) ?_)
  ·have:=wQ (pre:=pre) (post:=cs++post) (c:=c)
   simpa using this
  ·refine aG (c6 t 2 (Qp.eq (uy (aa t 0 rfl) (aa t 1 rfl) (a4 t c2 (ab (aa t 0 rfl) (ab (aa t 1 rfl) aj)) ⟨pre,c::cs,post,rfl,hu.al,hp,hz,rfl⟩) (pV hz)) (by rw[ND]))) ?_
   refine aG (Be (a4 t c1 (ab (aa t 2 rfl) aj) ⟨_,rfl,hu,rfl⟩)) (aF (bx (aa t 2 rfl)))
 ·have t:=h.at'
  haveI:=h.Q7
  obtain⟨l,gm,gk⟩:=gD
  have WR:X.mg "DOUBLE_SIGNS"=some (.ref l):=by rw[h.Sm];exact gm
  have WS:GP X.K (.ref l) LU:=by rw[h.k'];exact gk
  show Qr X [.val (.str (S (pre++c::post))),.val (.int pre.length),.un] _ _
  refine aG (b0 (Qs.eq (fB (kb (ga (c:=c) (aa t 0 rfl) (aa t 1 rfl) (pV hz) wQ))) (by rw[show(⟨#[c]⟩:Str)=S [c] from rfl,GH];exact hc)) bF) (aF (bx (mD (yy t (Qp.eq (uy (aa t 0 rfl) (aa t 1 rfl) (cQ (aa t 1 rfl) ag) (pV hz)) (by rw[B1])).p (rF t WR WS) (dw (eV ?_)) (cZ _) (by decide +kernel) (LC Zu)) (ga (aa t 0 rfl) (aa t 1 rfl) (pV hz) wQ))))
  intro x hx
  refine ha x ?_
  rcases aC.mp hx with rfl | hx
  ·simp
  ·exact aY _ (dg hx)
 ·have t:=h.at'
  haveI:=h.Q7
  obtain⟨l,gm,gk⟩:=gD
  have WR:X.mg "DOUBLE_SIGNS"=some (.ref l):=by rw[h.Sm];exact gm
  have WS:GP X.K (.ref l) LU:=by rw[h.k'];exact gk
  have hc:=LM c hc3
  have ok:PyData.strOk (S [c,61])=true:=eV (by intro x hx;simp at hx;omega)
  have Vk:([PyData.str "<=",.str ">=",.str "!="].any fun y=>PyData.eqv y (.str (S [c,61])))=true:=by rcases hc3 with rfl | rfl | rfl<;>decide +kernel
  show Qr X [.val (.str (S (pre++c::61::post))),.val (.int pre.length),.un] _ _
  exact aG (b0 (Qs.eq (fB (kb (ga (c:=c) (aa t 0 rfl) (aa t 1 rfl) (pV hz) wQ))) (by rw[show(⟨#[c]⟩:Str)=S [c] from rfl,GH];exact hc)) bF) (aF (bx (mC (yy t (Qp.eq (d':=.str (S [c,61])) (uy (aa t 0 rfl) (aa t 1 rfl) (cQ (aa t 1 rfl) ag) (pV hz)) (by rw[B1];rfl)).p (rF t WR WS) (dw ok) (cZ _) (by decide +kernel) Vk) (Qp.eq (uy (aa t 0 rfl) (aa t 1 rfl) (cQ (aa t 1 rfl) ag) (pV hz)) (by rw[B1];rfl)))))
end
inductive Lex:List Nat->List (List Nat)->Prop where
 |nil:Lex [] []
 |sp {cs:List Nat} {ts:List (List Nat)}:Lex cs ts->Lex (32::cs) ts
 |run {u cs:List Nat} {ts:List (List Nat)}:SV u->(∀c,cs.head?=some c->al c=false)->Lex cs ts->Lex (u++cs) (u::ts)
 |sign {c:Nat} {cs:List Nat} {ts:List (List Nat)}:al c=false->c≠32->O3 c cs->Lex cs ts->Lex (c::cs) ([c]::ts)
 |dbl {c:Nat} {cs:List Nat} {ts:List (List Nat)}:(c=60\/c=62\/c=33)->Lex cs ts->Lex (c::61::cs) ([c,61]::ts)
theorem Lex.len{ts:List (List Nat)}(h:Lex cs ts):ts.length<=cs.length:=by
 induction h with
 |nil=>simp
 |sp _ ih=>simp;omega
 |run hu _ _ ih=>
  have:=bO.mpr hu.ne
  simp;omega
 |sign _ _ _ _ ih=>simp;omega
 |dbl _ _ ih=>simp;omega
def aN(ts:List (List Nat)):List D:=ts.map fun u=>D.str (S u)
def ot(ds:List D)(d:D):Prop:=∃(cs:List Nat) (ts:List (List Nat)),ds=[.str (S cs)]/\Lex cs ts/\(∀c∈cs,c<128)/\cs.length<=2000/\d=.lst (aN ts)
theorem wc:∀ds d,ot ds d->ds.length=1:=by rintro _ _ ⟨a,b,rfl,_⟩;rfl
theorem GE:al 32=false:=by decide +kernel
section
variable {K:PySem.W.Frag}
theorem AH(h:DefX P w K mg base k nX (ai kB) X)(Qv:mg "len"=none)(c1:Callee X "token_at" qi):
  Go X nX kB ot:=by
 rintro ds r ⟨cs,ts,rfl,hl,ha,hz,rfl⟩
 have t:=h.at'
 haveI:=h.Q7
 have b1:=h.bt Qv
 show Qr X [.val (.str (S cs)),.un,.un] _ _
 refine aG (Co t 1 2 (bI aj) ag (by decide)) ?_
 refine sP t (fun s:List Nat×List Nat×List (List Nat)=>[.val (.str (S cs)),.own (aN s.2.2),.val (.int s.1.length)]) (fun s=>s.1++s.2.1=cs/\∃us,Lex s.2.1 us/\s.2.2++us=ts) (fun s=>s.2.2=ts) (fun s=>s.2.1.length) ([],cs,[]) ⟨rfl,ts,hl,rfl⟩ ?_ ?_
 ·rintro⟨pre,bS,done⟩ ⟨e1,us,lx,e2⟩
  dsimp only at e1 e2 lx ⊢
  have hlen:done.length<=2000:=by
   have h1:=hl.len
   have h2:=bJ List.length e2
   rw[ac] at h2;omega
  cases lx with
  |nil=>
   refine .inl ⟨Qs.eq (eQ (aa t 2 rfl) (fb t b1 (aa t 0 rfl) (pV hz))) ?_,by rw[<-e2];simp⟩
   rw[bn,<-e1,aQ];simp
  |@sp Uz us lx=>
   subst e1
   refine .inr ⟨Qs.eq (eQ (aa t 2 rfl) (fb t b1 (aa t 0 rfl) (pV hz))) (by rw[bn,bh];simp;omega),.inr ⟨(pre++[32],Uz,done),?_,⟨by simp,us,lx,e2⟩,by simp⟩⟩
   refine aF (c7 (Qs.eq (bP t (ga (c:=32) (aa t 0 rfl) (aa t 2 rfl) (pV hz) wQ) Qo (by decide +kernel)) (by decide +kernel)) (aF (pW t 2 rfl ag (by simp))))
  |@run u Uz us hu hp lx=>
   subst e1
   obtain⟨c,u',rfl⟩:∃c u',u=c::u':=by
    cases u with
    |nil=>exact absurd rfl hu.ne
    |cons c cs=>exact⟨c,cs,rfl⟩
   have hc:=hu.al c (by simp)
   have hc2:S [c]≠S [32]:=fun e=>by have:=dX e;cases this;rw[GE] at hc;cases hc
   have Z0:l8 (S (pre++((c::u')++Uz))).cps.toList (pre.length:Int)=some c:=wQ (pre:=pre) (post:=u'++Uz) (c:=c)
   refine .inr ⟨Qs.eq (eQ (aa t 2 rfl) (fb t b1 (aa t 0 rfl) (pV hz))) (by rw[bn,bh];simp;omega),.inr ⟨(pre++(c::u'),Uz,done++[c::u']),?_,⟨by simp,us,lx,by rw[<-e2];simp⟩,by simp;omega⟩⟩
   refine aF (b0 (Qs.eq (bP t (ga (c:=c) (aa t 0 rfl) (aa t 2 rfl) (pV hz) Z0) Qo (eV (cs:=[c]) fun x hx=>hu.lt x (by simp at hx;simp[hx]))) (by rw[aQ,show(" " : Str)=S [32] by decide +kernel];exact hc2)) ?_)
   refine aG (eI t 1 rfl (a4 t c1 (ab (aa t 0 rfl) (ab (aa t 2 rfl) aj)) ⟨pre,Uz,.inl ⟨c::u',by rw[ax],hu,hp,by rw[ax];exact hz,rfl⟩⟩) (by unfold aN;rw[af];exact dL hlen (by decide))) (aF (QQ.eq (pW t 2 (v:=((pre++c::u').length:Nat)) rfl (fb t b1 (bW (eL t 1 rfl) (eO ag) (y4 (.inl rfl))) (pV (by have:=hu.len;omega))) (by rw[bn];simp)) ?_))
   unfold aN
   simp
  |@sign c Uz us hc h0 Zu lx=>
   subst e1
   have hc2:S [c]≠S [32]:=fun e=>by have:=dX e;cases this;exact h0 rfl
   have QW:∀x∈c::Uz,x<128:=fun x hx=>ha x (bA _ hx)
   refine .inr ⟨Qs.eq (eQ (aa t 2 rfl) (fb t b1 (aa t 0 rfl) (pV hz))) (by rw[bn,bh];simp;omega),.inr ⟨(pre++[c],Uz,done++[[c]]),?_,⟨by simp,us,lx,by rw[<-e2];simp⟩,by simp⟩⟩
   refine aF (b0 (Qs.eq (bP t (ga (c:=c) (aa t 0 rfl) (aa t 2 rfl) (pV hz) wQ) Qo (eV (cs:=[c]) fun x hx=>QW x (by simp at hx;simp[hx]))) (by rw[aQ,show(" " : Str)=S [32] by decide +kernel];exact hc2)) ?_)
   refine aG (eI t 1 rfl (a4 t c1 (ab (aa t 0 rfl) (ab (aa t 2 rfl) aj)) ⟨pre,Uz,.inr (.inl ⟨c,rfl,hc,QW,Zu,hz,rfl⟩)⟩) (by unfold aN;rw[af];exact dL hlen (by decide))) (aF (QQ.eq (pW t 2 (v:=((pre++[c]).length:Nat)) rfl (fb t b1 (bW (eL t 1 rfl) (eO ag) (y4 (.inl rfl))) (pV (by simp))) (by rw[bn];simp)) ?_))
   unfold aN
   simp
  |@dbl c Uz us hc3 lx=>
   subst e1
   have hc2:S [c]≠S [32]:=fun e=>by have:=dX e;cases this;omega
   have QW:∀x∈c::61::Uz,x<128:=fun x hx=>ha x (bA _ hx)
   refine .inr ⟨Qs.eq (eQ (aa t 2 rfl) (fb t b1 (aa t 0 rfl) (pV hz))) (by rw[bn,bh];simp;omega),.inr ⟨(pre++[c,61],Uz,done++[[c,61]]),?_,⟨by simp,us,lx,by rw[<-e2];simp⟩,by simp;omega⟩⟩
   refine aF (b0 (Qs.eq (bP t (ga (c:=c) (aa t 0 rfl) (aa t 2 rfl) (pV hz) wQ) Qo (eV (cs:=[c]) fun x hx=>QW x (by simp at hx;simp[hx]))) (by rw[aQ,show(" " : Str)=S [32] by decide +kernel];exact hc2)) ?_)
   refine aG (eI t 1 rfl (a4 t c1 (ab (aa t 0 rfl) (ab (aa t 2 rfl) aj)) ⟨pre,Uz,.inr (.inr ⟨c,rfl,hc3,hz,rfl⟩)⟩) (by unfold aN;rw[af];exact dL hlen (by decide))) (aF (QQ.eq (pW t 2 (v:=((pre++[c,61]).length:Nat)) rfl (fb t b1 (bW (eL t 1 rfl) (eO ag) (y4 (.inl rfl))) (pV (by simp))) (by rw[bn];simp)) ?_))
   unfold aN
   simp
 ·rintro⟨pre,bS,done⟩ e
  dsimp only at e ⊢
  subst e
  exact fv 1 rfl (aF (bx (aa t 1 rfl)))
end
def gr(o c:List Nat):List (List Nat)->Int
 |[]=>0
 |u::ts=>gr o c ts+(b2i (decide (S u=S o))-b2i (decide (S u=S c)))
theorem xz(o c u:List Nat):∀ts,gr o c (ts++[u])=gr o c ts+(b2i (decide (S u=S o))-b2i (decide (S u=S c)))
 |[]=>by simp[gr]
 |v::ts=>by show gr o c (ts++[u])+_=gr o c ts+_+_;rw[xz o c u ts];omega
def lu(ds:List D)(d:D):Prop:=∃(ts:List (List Nat)) (o c:List Nat),ds=[.lst (aN ts),.str (S o),.str (S c)]/\(∀u∈ts,∀x∈u,x<128)/\(∀x∈o,x<128)/\(∀x∈c,x<128)/\(∀i,i<=ts.length->gr o c (ts.take i)<=20)/\d=.QO
theorem tO:∀ds d,lu ds d->ds.length=3:=by rintro _ _ ⟨a,b,c,rfl,_⟩;rfl
section
variable {K:PySem.W.Frag}
theorem wF(h:DefX P w K mg base k Q8 (ai gh) X)(gM:∃tk,mg "MOST_OPEN"=some (.int 20 tk)):
  ∀ds d,lu ds d->Qr X (ds.map Sl.val++List.replicate (Q8.length-ds.length) Sl.un) (bw gh) (.rt d)\/(d=.QO/\∃ρ',Qr X (ds.map Sl.val++List.replicate (Q8.length-ds.length) Sl.un) (bw gh) (.nx ρ')):=by
 rintro ds r ⟨ts,o,c,rfl,ha,ho,hc,hd,rfl⟩
 have t:=h.at'
 haveI:=h.Q7
 have Wr:∃tk,X.mg "MOST_OPEN"=some (.int 20 tk):=by rw[h.Sm];exact gM
 refine .inr ⟨rfl,[.val (.lst (aN ts)),.val (.str (S o)),.val (.str (S c)),.val (.int (gr o c ts)),.un],?_⟩
 show Qr X [.val (.lst (aN ts)),.val (.str (S o)),.val (.str (S c)),.un,.un] _ _
 refine aG (c6 t 3 ag) (aF (gK t (yD (aa t 0 rfl)) (QI.QZ (fun i=>[.val (.lst (aN ts)),.val (.str (S o)),.val (.str (S c)),.val (.int (gr o c (ts.take i))),.un]) (fun j d e=>?_) rfl ?_)))
 ·unfold aN at e
  rw[aI] at e
  cases e2:ts[j]? with
  |none=>rw[e2] at e;cases e
  |some u=>
   rw[e2] at e
   cases e
   have hj:=(az.mp e2).1
   have hu:∀x∈u,x<128:=ha u (cJ e2)
   have et:gr o c (ts.take (j+1))=gr o c (ts.take j)+(b2i (decide (S u=S o))-b2i (decide (S u=S c))):=by
    rw[za,e2];exact xz o c u _
   refine⟨_,dN t 4,Qr.weak (aG (pW t 3 (v:=gr o c (ts.take (j+1))) rfl (Ir (F7 t (aa t 4 rfl) (aa t 1 rfl) (eV hu) (eV ho)) (F7 t (aa t 4 rfl) (aa t 2 rfl) (eV hu) (eV hc))) et) (aF (b0 (Qs.eq (hV (aa t 3 rfl) (rG t Wr)) ?_) bF))) (.keep (.keep (.keep (.keep (.forget .nil)))))⟩
   have:=hd (j+1) (by omega)
   rw[aQ];omega
 ·show _=_
  unfold aN
  rw[af,bz]
end
def HD(ts:List Str):Str:=ts.headD ""
def cF(toks:List Str)(ds:List D)(s:Int×List D)(d:D)(s':Int×List D):Prop:=∃n:Nat,ds=[]/\s.1=n/\d=.str (HD (toks.drop n))/\s'=s
theorem vn:∀ts ds s d s',cF ts ds s d s'->ds.length+1=1:=by rintro _ _ _ _ _ ⟨a,rfl,_⟩;rfl
def cV(toks:List Str)(ds:List D)(s:Int×List D)(d:D)(s':Int×List D):Prop:=∃n:Nat,ds=[]/\s.1=n/\d=.str (HD (toks.drop n))/\s'=((n:Int)+1,s.2)
theorem vi:∀ts ds s d s',cV ts ds s d s'->ds.length+1=1:=by rintro _ _ _ _ _ ⟨a,rfl,_⟩;rfl
def lr(toks:List Str)(ds:List D)(s:Int×List D)(d:D)(s':Int×List D):Prop:=∃n:Nat,ds=[]/\s.1=n/\toks.length<=n/\d=.QO/\s'=s
theorem tN:∀ts ds s d s',lr ts ds s d s'->ds.length+1=1:=by rintro _ _ _ _ _ ⟨a,rfl,_⟩;rfl
theorem dh{ts:List Str}{n:Nat}{u:Str}{bS:List Str}(h:ts.drop n=u::bS):HD (ts.drop n)=u/\ts.drop (n+1)=bS:=⟨by rw[h];rfl,(jX h).2.1⟩
theorem sz{n:Nat}(h:n<10000):n<sizeLine:=je h (by decide)
section
variable {K:PySem.W.Frag}
theorem wz(h:DefX P w K mg base k mK (ai jC) X)(Qv:mg "len"=none):
  En X mK jC cF:=by
 rintro r ok ds ⟨i,xs⟩ d s' ⟨n,rfl,hn,rfl,rfl⟩
 have t:=h.at'
 have b1:=h.bt Qv
 have SD:i=(n:Int):=hn
 subst SD
 refine .inl ?_
 show Rb (Qy r) X [.val (.adr r.p)] _ _ _ _
 refine cb (uG ?_)
 have hl:((r.toks.map D.str).length:Int)=(r.toks.length:Nat):=by rw[af]
 by_cases e:n<r.toks.length
 ·refine Lp (QV.eq (Ez (um t ok 0 rfl) (BF t b1 (ul t ok 0 rfl))) ?_) (QE.eq (Lo (d:=.str r.toks[n]) (ul t ok 0 rfl) (um t ok 0 rfl) (jN (by rw[aI,aD e];rfl))) ?_)
  ·rw[hl,bh];show(n:Int)<_;omega
  ·rw[ck e];rfl
 ·refine Lq (QV.eq (Ez (um t ok 0 rfl) (BF t b1 (ul t ok 0 rfl))) ?_) (QE.eq (Qp.z Qo) ?_)
  ·rw[hl,aQ];show ¬((n:Int)<_);omega
  ·rw[lH (by omega)];rfl
end
section
variable {K:PySem.W.Frag}
theorem ww(h:DefX P w K mg base k mG (ai jy) X)(c1:Qu X "next_token" cF):
  En X mG jy cV:=by
 rintro r ok ds ⟨i,xs⟩ d s' ⟨n,rfl,hn,rfl,rfl⟩
 have t:=h.at'
 haveI:=h.Q7
 have SD:i=(n:Int):=hn
 subst SD
 refine .inl ?_
 show Rb (Qy r) X [.val (.adr r.p),.un] _ _ _ _
 exact a8 (ji t 1 (bQ t ok c1 (bH (Qp.z (aa t 0 rfl)) (Q2.z aj)) ⟨n,rfl,rfl,rfl,rfl⟩)) (a8 (HB t ok 0 rfl ag) (cb (uG (Qp.z (aa t 1 rfl)))))
end
section
variable {K:PySem.W.Frag}
theorem vO(h:DefX P w K mg base k lc (ai iM) X)(Qv:mg "len"=none):
  En X lc iM lr:=by
 rintro r ok ds ⟨i,xs⟩ d s' ⟨n,rfl,hn,hl,rfl,rfl⟩
 have t:=h.at'
 have b1:=h.bt Qv
 have SD:i=(n:Int):=hn
 subst SD
 refine .inr ⟨rfl,[.val (.adr r.p)],?_⟩
 show Rb (Qy r) X [.val (.adr r.p)] _ _ _ _
 refine cb (jZ (QV.eq (Ez (um t ok 0 rfl) (BF t b1 (ul t ok 0 rfl))) ?_) nj)
 rw[af,aQ];show ¬((n:Int)<_);omega
end
section
variable {SS:LS}{s s1 s':SS.ds}
theorem yu(ha:QE SS X ρ a (.str z) s s1)(hb:QE SS X ρ b (.str w) s1 s')(hz:z.length+w.length<=sizeLine):QE SS X ρ (.BinOp a .Add b pos) (.str (z++w)) s s':=fun B F H σ Q c l k q=>.mk fun pins st I=>
 qT mx aV aV pins st σ H Q I (Dt ha hb l k fun x y F' H' c' x' r' rx ry=>by
  cases rx;cases ry
  exact⟨z,w,rfl,rfl,hz,q _ F' H' c' x' r' (.str _)⟩)
theorem ID{r:Bool}(t:At X N sc)(ha:Qp X ρ a d)(hb:Qp X ρ b (.lst xs))(sp:(fg d).canLay0=true)(sd:(fg d).depth<=62)(sq:PyData.canLayAll0 (QA xs)=true)(he:(!(QA xs).any fun y=>PyData.eqv y (fg d))=r)(hm:behindInMarks .NotIn b=false:=by rfl):Qs X ρ (.Compare a [.NotIn] [b] pos) r:=
 .of (fP (Ke t sp sd sq) aV aV hm) fun B F H σ Q k q=>zD (Qp.p ha) (Qp.p hb) k fun x y F' H' x' rx ry=>⟨rx,ry,r,by rw[he],q F' H' x'⟩
end
def ej(toks:List Str)(ds:List D)(s:Int×List D)(d:D)(s':Int×List D):Prop:=∃(n:Nat) (u:List Nat) (ts:List (List Nat)) (bS:List Str),(ds=[.lst (aN ts)]\/ds=[.tup (aN ts)])/\s.1=n/\toks.drop n=S u::bS/\u∈ts/\(∀u∈ts,∀x∈u,x<128)/\d=.str (S u)/\s'=((n:Int)+1,s.2)
theorem tK:∀ts ds s d s',ej ts ds s d s'->ds.length+1=2:=by rintro _ _ _ _ _ ⟨a,b,c,e,rfl | rfl,_⟩<;>rfl
theorem Cb{ts:List (List Nat)}(h:∀u∈ts,∀x∈u,x<128):PyData.canLayAll0 (QA (aN ts))=true:=(Fn.all (n:=1) fun x hx=>by
 obtain⟨u,hu,rfl⟩:=a6.mp hx
 exact⟨dw (eV (h u hu)),by simp[fg,PyData.depth],by simp[fg,PyData.eqv]⟩).1
theorem Ca{u:List Nat}{ts:List (List Nat)}(h:u∈ts):(!(QA (aN ts)).any fun y=>PyData.eqv y (fg (.str (S u))))=false:=by
 have:((QA (aN ts)).any fun y=>PyData.eqv y (fg (.str (S u))))=true:=by
  induction ts with
  |nil=>cases h
  |cons v ts ih=>
   show((S v==S u)||_)=true
   rcases aC.mp h with rfl | h
   ·simp
   ·rw[Bool.or_eq_true];exact .inr (ih h)
 rw[this];rfl
def Iq:List (List Nat):=[[48],[49],[50],[51],[52],[53],[54],[55],[56],[57]]
theorem Ip(d:Nat)(h:d<=9):[48+d]∈Iq:=by
 have:∀d:Nat,d<10->[48+d]∈Iq:=by decide
 exact this d (by omega)
abbrev TK:=List (List Nat)
structure nc where
 QP:Nat
 Vf:TK
 ast:TK
 pow:Option Nat
abbrev td:=TK->TK->Prop
def ib(R:td)(f:nc):Prop:=f.QP<=20/\R f.Vf f.ast/\∀d,f.pow=some d->d<=9
def LR(R:td):Prop:=∀tk st,R tk st->∃u us,tk=u::us/\u≠[45]
def z6:Option Nat->List (List Nat)
 |none=>[]
 |some d=>[[94],[48+d]]
def z7:Option Nat->List (List Nat)
 |none=>[]
 |some d=>[[94,48+d]]
def xP(f:nc):List (List Nat):=f.Vf++z6 f.pow
def Cg(f:nc):List (List Nat):=f.ast++z7 f.pow
def tF(f:nc):List (List Nat):=List.replicate f.QP [45]++xP f
def G1(n:Nat):List (List Nat):=if n%2=1 then [[109,105,110,117,115]] else []
def xW(f:nc):List (List Nat):=Cg f++G1 f.QP
def fk:List nc->List (List Nat)
 |[]=>[]
 |f::fs=>[42]::(tF f++fk fs)
def ip:List nc->List (List Nat)
 |[]=>[]
 |f::fs=>xW f++([42]::ip fs)
abbrev B2:=nc×List nc
def pO(R:td)(p:B2):Prop:=ib R p.1/\∀f∈p.2,ib R f
def v8(p:B2):List (List Nat):=tF p.1++fk p.2
def zf(p:B2):List (List Nat):=xW p.1++ip p.2
def v5(b:Bool):List Nat:=if b then [43] else [45]
def fV:List (Bool×B2)->List (List Nat)
 |[]=>[]
 |q::qs=>v5 q.1::(v8 q.2++fV qs)
def jx:List (Bool×B2)->List (List Nat)
 |[]=>[]
 |q::qs=>zf q.2++(v5 q.1::jx qs)
abbrev IT:=B2×List (Bool×B2)
def m9(R:td)(t:IT):Prop:=pO R t.1/\∀q∈t.2,pO R q.2
def j5(t:IT):List (List Nat):=v8 t.1++fV t.2
def qm(t:IT):List (List Nat):=zf t.1++jx t.2
def sm(ts:List (List Nat)):List Str:=ts.map S
theorem fX(a b:List (List Nat)):sm (a++b)=sm a++sm b:=aX
theorem eE(a b:List (List Nat)):aN (a++b)=aN a++aN b:=aX
def No(us:List (List Nat))(post:List Str):Prop:=∀u∈us,HD post≠S u
def CR{α:Type}(Ok:α->Prop)(tk st:α->List (List Nat))(no:List (List Nat))(toks:List Str)(ds:List D)(s:Int×List D)(d:D)(s':Int×List D):Prop:=
 (∀x∈toks,PyData.strOk x=true)/\∃(n:Nat) (x:α) (post:List Str),ds=[]/\s.1=n/\Ok x/\toks.drop n=sm (tk x)++post/\No no post/\s.2.length+(st x).length<10000/\d=.QO/\s'=(((n+(tk x).length:Nat):Int),s.2++aN (st x))
theorem CR.len{α:Type}{Ok:α->Prop}{tk st:α->List (List Nat)}{no:List (List Nat)}:∀ts ds s d s',CR Ok tk st no ts ds s d s'->ds.length+1=1:=by rintro _ _ _ _ _ ⟨_,a,b,c,rfl,_⟩;rfl
def oz(R:td):=CR (fun p:TK×TK=>R p.1 p.2) Prod.fst Prod.snd []
theorem wg(R:td):∀ts ds s d s',oz R ts ds s d s'->ds.length+1=1:=CR.len
def mT(R:td):=CR (ib R) xP Cg [[94]]
def lv(R:td):=CR (ib R) tF xW [[94]]
def km(R:td):=CR (pO R) v8 zf [[94],[42]]
def kl(R:td):=CR (m9 R) j5 qm [[94],[42],[43],[45]]
theorem vk(R:td):∀ts ds s d s',mT R ts ds s d s'->ds.length+1=1:=CR.len
theorem tQ(R:td):∀ts ds s d s',lv R ts ds s d s'->ds.length+1=1:=CR.len
theorem sF(R:td):∀ts ds s d s',km R ts ds s d s'->ds.length+1=1:=CR.len
theorem q9(R:td):∀ts ds s d s',kl R ts ds s d s'->ds.length+1=1:=CR.len
theorem eT{ts:List Str}{n:Nat}{a b:List Str}(h:ts.drop n=a++b):ts.drop (n+a.length)=b:=by
 rw[<-L3,h];simp
theorem fW(a:List (List Nat)):(sm a).length=a.length:=af _
theorem bG(a:List (List Nat)):(aN a).length=a.length:=af _
theorem vy{ts:List Str}{n:Nat}{post:List Str}{us:List (List Nat)}(h:ts.drop n=sm (u::us)++post):HD (ts.drop n)=S u/\ts.drop (n+1)=sm us++post:=dh h
theorem L5{st:Stmt}{SS:LS}{s a b:SS.ds}(h:QX SS X ρ st o s a)(e:a=b):QX SS X ρ st o s b:=e ▸ h
theorem zq{st:List Stmt}{SS:LS}{s a b:SS.ds}(h:Rb SS X ρ st o s a)(e:a=b):Rb SS X ρ st o s b:=e ▸ h
theorem Rv.ix{SS:LS}(R:Nat->cp)(T:Nat->SS.ds)(n:Nat)(h:∀i,i<n->QV SS X (R i) cd true (T i) (T i)/\Rb SS X (R i) body (.nx (R (i+1))) (T i) (T (i+1)))(hn:QV SS X (R n) cd false (T n) (T n)):∀(k i:Nat),i+k=n->Rv SS X cd body k (R i) (T i) (R n) (T n)
 |0,i,e=>by
  have e':i=n:=by omega
  subst e'
  exact .stop hn
 |k+1,i,e=>.step (h i (by omega)).1 (h i (by omega)).2 (Rv.ix R T n h hn k (i+1) (by omega))
theorem oK{ρ ρ':cp}{SS:LS}{s s':SS.ds}(t:At X N sc)(R:Nat->cp)(T:Nat->SS.ds)(n:Nat)(h:∀i,i<n->QV SS X (R i) cd true (T i) (T i)/\Rb SS X (R i) body (.nx (R (i+1))) (T i) (T (i+1)))(hn:QV SS X (R n) cd false (T n) (T n))(e1:R 0=ρ)(e2:T 0=s)(e3:R n=ρ')(e4:T n=s'):
  QX SS X ρ (.While cd body [] pos) (.nx ρ') s s':=by
 subst e1;subst e2;subst e3;subst e4
 exact zo t ⟨n,Rv.ix R T n h hn n 0 (by omega)⟩
theorem FS{ts:List Str}(h:∀x∈ts,PyData.strOk x=true)(n:Nat):PyData.strOk (HD (ts.drop n))=true:=by
 cases e:ts.drop n with
 |nil=>decide +kernel
 |cons a b=>exact h a (List.mem_of_mem_drop (i:=n) (by rw[e];simp))
section
theorem qY{z:Str}{b:Bool}{ρ:cp}(t:At X N sc)(ok:k8 X.K r)(c2:Qu X "next_token" cF)(ho:∀x∈r.toks,PyData.strOk x=true)(hr:ρ[0]?=some (.val (.adr r.p)))(hz:PyData.strOk z=true)(hb:decide (HD (r.toks.drop n)=z)=b)(hN:N[0]?=some ("reader" : Str):=by rfl)(hv:dW sc ("reader" : Str)=true:=by rfl)(hx:cg ("reader" : Str)=true:=by rfl)(hg:sc.names.lookup ("next_token" : Str)=some .globalImplicit:=by rfl):
  QV (Qy r) X ρ (.Compare (.Call (.Name "next_token" p) [.Name "reader" py] [] pos) [.Eq] [.Constant (.str z) j p2] pos') b ((n:Int),xs) ((n:Int),xs):=
 QV.eq (Mp (S:=Qy r) t (bQ (s:=((n:Int),xs)) (s1:=((n:Int),xs)) (s':=((n:Int),xs)) t ok c2 (bH (Qp.z (aa t 0 hr hN hv hx)) (Q2.z aj)) ⟨n,rfl,rfl,rfl,rfl⟩ hg) (Qp.z Qo) (dO (FS ho n)) (dO hz) rfl) (by rw[<-hb];exact eF _ _)
theorem pS{ρ:cp}(t:At X N sc)(ok:k8 X.K r)(c3:Qu X "take_token" cV)(hr:ρ[0]?=some (.val (.adr r.p)))(hN:N[0]?=some ("reader" : Str):=by rfl)(hv:dW sc ("reader" : Str)=true:=by rfl)(hx:cg ("reader" : Str)=true:=by rfl)(hg:sc.names.lookup ("take_token" : Str)=some .globalImplicit:=by rfl):
  QE (Qy r) X ρ (.Call (.Name "take_token" p) [.Name "reader" py] [] pos) (.str (HD (r.toks.drop n))) ((n:Int),xs) (((n+1:Nat):Int),xs):=
 bQ t ok c3 (bH (Qp.z (aa t 0 hr hN hv hx)) (Q2.z aj)) ⟨n,rfl,rfl,rfl,by rw[gO];rfl⟩ hg
end
section
variable {K:PySem.W.Frag}
theorem vM(h:DefX P w K mg base k la (ai iJ) X)(c1:Qu X "take_token" cV):
  En X la iJ ej:=by
 rintro r ok ds ⟨i,xs⟩ d s' ⟨n,u,ts,bS,Wl,hn,hd,hu,QW,rfl,rfl⟩
 have t:=h.at'
 haveI:=h.Q7
 have SD:i=(n:Int):=hn
 subst SD
 have hc:∀x∈u,x<128:=QW u hu
 refine .inl ?_
 rcases Wl with rfl | rfl
 ·show Rb (Qy r) X [.val (.adr r.p),.val (.lst (aN ts)),.un] _ _ _ _
  exact a8 (ji t 2 (bQ (d:=.str (S u)) t ok c1 (bH (Qp.z (aa t 0 rfl)) (Q2.z aj)) ⟨n,rfl,rfl,by rw[(dh hd).1],rfl⟩)) (a8 (jZ (Qs.z (ID t (aa t 2 rfl) (aa t 1 rfl) (dw (eV hc)) (cZ _) (Cb QW) (Ca hu))) nj) (cb (uG (Qp.z (aa t 2 rfl)))))
 ·show Rb (Qy r) X [.val (.adr r.p),.val (.tup (aN ts)),.un] _ _ _ _
  exact a8 (ji t 2 (bQ (d:=.str (S u)) t ok c1 (bH (Qp.z (aa t 0 rfl)) (Q2.z aj)) ⟨n,rfl,rfl,by rw[(dh hd).1],rfl⟩)) (a8 (jZ (Qs.z (IC t (aa t 2 rfl) (aa t 1 rfl) (dw (eV hc)) (cZ _) (Cb QW) (Ca hu))) nj) (cb (uG (Qp.z (aa t 2 rfl)))))
end
section
variable {K:PySem.W.Frag}
theorem wy(h:DefX P w K mg base k mI (ai jA) X)(R9:mg "list"=none)(c1:Qu X "read_atom" (oz R))(c2:Qu X "next_token" cF)(c3:Qu X "take_token" cV)(c4:Qu X "take_one_of" ej)(gF:∃tk,mg "FIGURES"=some (.str TH tk)):
  En X mI jA (mT R):=by
 rintro r ok ds ⟨i,xs⟩ d s' ⟨ho,n,f,post,rfl,hn,hf,hd,S1,hz,rfl,rfl⟩
 have t:=h.at'
 haveI:=h.Q7
 have b1:=h.bt R9
 have XQ:∃tk,X.mg "FIGURES"=some (.str TH tk):=by rw[h.Sm];exact gF
 have SD:i=(n:Int):=hn
 subst SD
 obtain⟨m,TV,UC,pw⟩:=f
 refine .inr ⟨rfl,[.val (.adr r.p)],?_⟩
 show Rb (Qy r) X [.val (.adr r.p)] _ _ ((n:Int),xs) (((n+(TV++z6 pw).length:Nat):Int),xs++aN (UC++z7 pw))
 have T4:xs.length+(UC++z7 pw).length<10000:=hz
 rw[ac] at T4
 have Uv:r.toks.drop n=sm TV++(sm (z6 pw)++post):=by rw[<-ax,<-fX];exact hd
 have ZS:=eT Uv
 rw[fW] at ZS
 have Yf:(xs++aN UC).length+(z7 pw).length<10000:=by rw[ac,bG];omega
 refine a8 (s1:=(((n+TV.length:Nat):Int),xs++aN UC)) (du (bQ t ok c1 (bH (Qp.z (aa t 0 rfl)) (Q2.z aj)) ⟨ho,n,(TV,UC),sm (z6 pw)++post,rfl,rfl,hf.2.1,Uv,(fun u hu=>nomatch hu),(by show xs.length+UC.length<10000;omega),rfl,rfl⟩)) ?_
 cases pw with
 |none=>
  have e:HD (r.toks.drop (n+TV.length))≠("^" : Str):=by rw[ZS,show("^" : Str)=S [94] by decide +kernel];exact S1 [94] (by simp)
  refine zq (cb (jZ (qY t ok c2 ho rfl (by decide +kernel) (ao e)) nj)) ?_
  show(((n+TV.length:Nat):Int),xs++aN UC)=(((n+(TV++[]).length:Nat):Int),xs++aN (UC++[]))
  rw[aU,aU]
 |some dd=>
  have h2:=vy (u:=[94]) (us:=[[48+dd]]) ZS
  have h3:=vy (u:=[48+dd]) (us:=[]) h2.2
  have hdd:=hf.2.2 dd rfl
  have e:HD (r.toks.drop (n+TV.length))=("^" : Str):=by rw[h2.1];decide +kernel
  have hfg:Jk TH=aN Iq:=by unfold Jk aN;rw[show TH.cps.toList=[48,49,50,51,52,53,54,55,56,57] by decide +kernel];rfl
  refine cb (pQ (qY t ok c2 ho rfl (by decide +kernel) (aB e)) (a8 (du (pS t ok c3 rfl)) (cb ?_)))
  refine L5 (kO t ok 0 rfl (QE.eq (yu (s:=(((n+TV.length+1:Nat):Int),xs++aN UC)) (Qp.z Qo) (bQ t ok c4 (bH (Qp.z (aa t 0 rfl)) (bH (Qp.z (Qp.eq (QJ.Rc (Gk t b1 (vD t XQ) (by decide))) (by rw[hfg]))) (Q2.z aj))) ⟨n+TV.length+1,[48+dd],Iq,post,.inl rfl,rfl,h2.2,Ip dd hdd,(by decide),rfl,rfl⟩) (by rw[bn,show("^" : Str).length=1 by decide +kernel];exact aL (show 1+1<=10 by decide) (by decide))) (show D.str (("^" : Str)++S [48+dd])=.str (S [94,48+dd]) by rw[show("^" : Str)=S [94] by decide +kernel,br];rfl)) (sz (by have:(z7 (some dd)).length=1:=rfl;show(xs++aN UC).length<10000;omega))) ?_
  refine fF ?_ ?_
  ·show((n+TV.length+1:Nat):Int)+1=_
   simp[z6];omega
  ·show xs++aN UC++[D.str (S [94,48+dd])]=_
   simp[aN,z7]
end
theorem Kc{post:List Str}(hR:LR R){f:nc}(hf:ib R f):HD (sm (xP f)++post)≠("-" : Str):=fun e=>by
 rw[show("-" : Str)=S [45] by decide +kernel] at e
 obtain⟨u,us,eu,ne⟩:=hR _ _ hf.2.1
 unfold xP at e
 rw[eu] at e
 exact ne (dX (a:=u) e)
theorem DR{ts:List Str}{n:Nat}{post:List Str}{w:List (List Nat)}(h:ts.drop n=sm (List.replicate m [45]++w)++post)(i:Nat)(hi:i<=m):ts.drop (n+i)=sm (List.replicate (m-i) [45]++w)++post:=by
 rw[show List.replicate m [45]=List.replicate i [45]++List.replicate (m-i) [45] by rw[Eo];congr 1;omega,ax,fX,ax] at h
 have:=eT h
 rw[fW,fh] at this
 exact this
section
variable {K:PySem.W.Frag}
theorem vP(hR:LR R)(h:DefX P w K mg base k li (ai iO) X)(c1:Qu X "read_power" (mT R))(c2:Qu X "next_token" cF)(c3:Qu X "take_token" cV)(gM:∃tk,mg "MOST_MINUSES"=some (.int 20 tk)):
  En X li iO (lv R):=by
 rintro r ok ds ⟨i,xs⟩ d s' ⟨ho,n,f,post,rfl,hn,hf,hd,S1,hz,rfl,rfl⟩
 have t:=h.at'
 haveI:=h.Q7
 have Wr:∃tk,X.mg "MOST_MINUSES"=some (.int 20 tk):=by rw[h.Sm];exact gM
 have SD:i=(n:Int):=hn
 subst SD
 have hm:=hf.1
 have T4:xs.length+(Cg f++G1 f.QP).length<10000:=hz
 rw[ac] at T4
 have ZT:∀i,i<=f.QP->r.toks.drop (n+i)=sm (List.replicate (f.QP-i) [45]++xP f)++post:=DR hd
 refine .inr ⟨rfl,[.val (.adr r.p),.val (.int f.QP)],?_⟩
 show Rb (Qy r) X [.val (.adr r.p),.un] _ _ ((n:Int),xs) (((n+(tF f).length:Nat):Int),xs++aN (xW f))
 refine a8 (QQ.z (c6 t 1 ag)) (a8 (ρ1:=[.val (.adr r.p),.val (.int f.QP)]) (s1:=(((n+f.QP:Nat):Int),xs)) (oK t (fun i=>[.val (.adr r.p),.val (.int i)]) (fun i=>(((n+i:Nat):Int),xs)) f.QP (fun i hi=>?_) ?_ rfl rfl rfl rfl) ?_)
 ·have e:HD (r.toks.drop (n+i))=("-" : Str):=by
   rw[ZT i (by omega),show f.QP-i=(f.QP-i-1)+1 by omega,bv]
   exact(show("-" : Str)=S [45] by decide +kernel).symm
  exact⟨qY t ok c2 ho rfl (by decide +kernel) (aB e),a8 (du (pS t ok c3 rfl)) (cb (QQ.z (pW t 1 rfl ag (by rw[gO];rfl))))⟩
 ·have e:HD (r.toks.drop (n+f.QP))≠("-" : Str):=by
   rw[ZT f.QP (ak _),lD]
   exact Kc hR hf
  exact qY t ok c2 ho rfl (by decide +kernel) (ao e)
 ·have hdw:r.toks.drop (n+f.QP)=sm (xP f)++post:=by
   have:=ZT f.QP (ak _)
   rw[lD] at this
   exact this
  have el:(tF f).length=f.QP+(xP f).length:=by simp[tF]
  refine a8 (QQ.z (b0 (Qs.eq (hV (aa t 1 rfl) (rG t Wr)) (by rw[aQ];omega)) bF)) (a8 (s1:=(((n+(tF f).length:Nat):Int),xs++aN (Cg f))) (du (bQ t ok c1 (bH (Qp.z (aa t 0 rfl)) (Q2.z aj)) ⟨ho,n+f.QP,f,post,rfl,rfl,hf,hdw,S1,by show xs.length+_<_;omega,rfl,by rw[el,tf]⟩)) (cb ?_))
  by_cases e:f.QP%2=1
  ·refine pQ (Qs.z (Qs.eq (Ge (C2 (k:=1) (aa t 1 rfl) ag)) (by rw[show(f.QP:Int)%2 ^ 1=1 by omega];rfl))) (cb (L5 (kO t ok 0 rfl (Qp.z Qo) (sz (by show(xs++aN (Cg f)).length<_;rw[ac,bG];omega))) ?_))
   refine fF rfl ?_
   show xs++aN (Cg f)++[D.str "minus"]=xs++aN (Cg f++G1 f.QP)
   rw[eE,ax,show G1 f.QP=[[109,105,110,117,115]] by unfold G1;rw[ay e]]
   rw[show("minus" : Str)=S [109,105,110,117,115] by decide +kernel]
   rfl
  ·refine L5 (jZ (Qs.z (Qs.eq (Ge (C2 (k:=1) (aa t 1 rfl) ag)) (by rw[show(f.QP:Int)%2 ^ 1=0 by omega];rfl))) nj) ?_
   show _=(_,xs++aN (Cg f++G1 f.QP))
   rw[show G1 f.QP=[] by unfold G1;rw[aq e],aU]
end
theorem uK:∀a b:List nc,fk (a++b)=fk a++fk b
 |[],b=>rfl
 |f::a,b=>by show[42]::(tF f++fk (a++b))=_;rw[uK a b];simp[fk]
theorem qx:∀a b:List nc,ip (a++b)=ip a++ip b
 |[],b=>rfl
 |f::a,b=>by show xW f++([42]::ip (a++b))=_;rw[qx a b];simp[ip]
theorem uJ:∀a b:List (Bool×B2),fV (a++b)=fV a++fV b
 |[],b=>rfl
 |f::a,b=>by show v5 f.1::(v8 f.2++fV (a++b))=_;rw[uJ a b];simp[fV]
theorem qv:∀a b:List (Bool×B2),jx (a++b)=jx a++jx b
 |[],b=>rfl
 |f::a,b=>by show zf f.2++(v5 f.1::jx (a++b))=_;rw[qv a b];simp[jx]
theorem Hd{i:Nat}{α:Type}(xs:List α)(h:i<xs.length):xs.take (i+1)=xs.take i++[xs[i]]:=by rw[za,aD h];rfl
theorem Hg:S [42]≠S [94]:=fun e=>by have:=dX e;cases this
theorem CD:∀b,S (v5 b)≠S [94]/\S (v5 b)≠S [42]:=fun b=>by cases b<;>exact⟨fun e=>(by have:=dX e;cases this),fun e=>(by have:=dX e;cases this)⟩
theorem Ju{fs:List nc}(h:No [[94],[42]] post):No [[94]] (sm (fk fs)++post):=fun u hu=>by
 simp at hu
 subst hu
 cases fs with
 |nil=>exact h [94] (by simp)
 |cons f fs=>exact Hg
theorem Jt{qs:List (Bool×B2)}(h:No [[94],[42],[43],[45]] post):No [[94],[42]] (sm (fV qs)++post):=fun u hu=>by
 cases qs with
 |nil=>
  have Wb:u=[94]\/u=[42]:=by simpa using hu
  rcases Wb with rfl | rfl
  ·exact h [94] (by simp)
  ·exact h [42] (by simp)
 |cons q qs=>
  have Wb:u=[94]\/u=[42]:=by simpa using hu
  rcases Wb with rfl | rfl
  ·exact(CD q.1).1
  ·exact(CD q.1).2
section
variable {K:PySem.W.Frag}
theorem tW(h:DefX P w K mg base k ki (ai gT) X)(c1:Qu X "read_factor" (lv R))(c2:Qu X "next_token" cF)(c3:Qu X "take_token" cV):
  En X ki gT (km R):=by
 rintro r ok ds ⟨i,xs⟩ d s' ⟨ho,n,⟨f,fs⟩,post,rfl,hn,hf,hd,S1,hz,rfl,rfl⟩
 have t:=h.at'
 haveI:=h.Q7
 have SD:i=(n:Int):=hn
 subst SD
 have T4:xs.length+(xW f++ip fs).length<10000:=hz
 rw[ac] at T4
 have Uv:r.toks.drop n=sm (tF f)++(sm (fk fs)++post):=by rw[<-ax,<-fX];exact hd
 have hd2:r.toks.drop (n+(tF f).length)=sm (fk fs)++post:=by have:=eT Uv;rw[fW] at this;exact this
 refine .inr ⟨rfl,[.val (.adr r.p)],?_⟩
 show Rb (Qy r) X [.val (.adr r.p)] _ _ ((n:Int),xs) (((n+(tF f++fk fs).length:Nat):Int),xs++aN (xW f++ip fs))
 have dr:∀i,i<=fs.length->r.toks.drop (n+(tF f).length+(fk (fs.take i)).length)=sm (fk (fs.drop i))++post:=fun i hi=>by
  have e:fk fs=fk (fs.take i)++fk (fs.drop i):=by rw[<-uK,dF]
  rw[e,fX,ax] at hd2
  have:=eT hd2
  rw[fW] at this
  exact this
 have zl:∀i,i<=fs.length->(ip (fs.take i)).length<=(ip fs).length:=fun i hi=>by
  have e:ip fs=ip (fs.take i)++ip (fs.drop i):=by rw[<-qx,dF]
  rw[e,ac];omega
 refine a8 (s1:=(((n+(tF f).length:Nat):Int),xs++aN (xW f))) (du (bQ t ok c1 (bH (Qp.z (aa t 0 rfl)) (Q2.z aj)) ⟨ho,n,f,sm (fk fs)++post,rfl,rfl,hf.1,Uv,Ju S1,by show xs.length+_<_;omega,rfl,rfl⟩)) (cb (oK t (fun _=>[.val (.adr r.p)]) (fun i=>(((n+(tF f).length+(fk (fs.take i)).length:Nat):Int),xs++aN (xW f++ip (fs.take i)))) fs.length (fun i hi=>?_) ?_ rfl ?_ rfl ?_))
 ·have d0:=dr i (by omega)
  rw[show fs.drop i=fs[i]::fs.drop (i+1) by rw[ck hi]] at d0
  have h1:=vy (u:=[42]) (us:=tF fs[i]++fk (fs.drop (i+1))) d0
  have e:HD (r.toks.drop (n+(tF f).length+(fk (fs.take i)).length))=("*" : Str):=by rw[h1.1];decide +kernel
  have h2:=h1.2
  rw[fX,ax] at h2
  have zi:=zl (i+1) (by omega)
  rw[Hd fs hi,qx,ac] at zi
  have zi':(ip [fs[i]]).length=(xW fs[i]).length+1:=by simp[ip]
  refine⟨qY t ok c2 ho rfl (by decide +kernel) (aB e),a8 (du (pS t ok c3 rfl)) (a8 (du (bQ t ok c1 (bH (Qp.z (aa t 0 rfl)) (Q2.z aj)) ⟨ho,n+(tF f).length+(fk (fs.take i)).length+1,fs[i],sm (fk (fs.drop (i+1)))++post,rfl,rfl,hf.2 _ (GV hi),h2,Ju S1,?_,rfl,rfl⟩)) (cb (L5 (kO t ok 0 rfl (Qp.z Qo) (sz ?_)) ?_)))⟩
  ·show(xs++aN _).length+_<_
   rw[ac,bG,ac];omega
  ·show(xs++aN _++aN _).length<_
   rw[ac,ac,bG,bG,ac];omega
  ·refine fF ?_ ?_
   ·show(((_:Nat)):Int)=_
    rw[Hd fs hi,uK]
    simp[fk];omega
   ·show xs++aN _++aN _++[D.str "*"]=xs++aN _
    rw[Hd fs hi,qx,show("*" : Str)=S [42] by decide +kernel]
    simp[aN,ip]
 ·have d0:=dr fs.length (ak _)
  rw[m3] at d0
  have e:HD (r.toks.drop (n+(tF f).length+(fk (fs.take fs.length)).length))≠("*" : Str):=by
   rw[d0,show("*" : Str)=S [42] by decide +kernel]
   exact S1 [42] (by simp)
  exact qY t ok c2 ho rfl (by decide +kernel) (ao e)
 ·show _=_
  simp[fk,ip]
  rfl
 ·show _=_
  rw[bz,ac,tf]
end
theorem MN(w:Str):((QA [D.str "+",.str "-"]).any fun y=>PyData.eqv y (fg (.str w)))=(decide (w="+")||decide (w="-")):=LK "+" "-" w
section
theorem Js{b:Bool}{ρ:cp}(t:At X N sc)(ok:k8 X.K r)(c2:Qu X "next_token" cF)(ho:∀x∈r.toks,PyData.strOk x=true)(hr:ρ[0]?=some (.val (.adr r.p)))(hb:(decide (HD (r.toks.drop n)="+")||decide (HD (r.toks.drop n)="-"))=b)(hN:N[0]?=some ("reader" : Str):=by rfl)(hv:dW sc ("reader" : Str)=true:=by rfl)(hx:cg ("reader" : Str)=true:=by rfl)(hg:sc.names.lookup ("next_token" : Str)=some .globalImplicit:=by rfl):
  QV (Qy r) X ρ (.Compare (.Call (.Name "next_token" p) [.Name "reader" py] [] pos) [.In] [.Tuple [.Constant (.str "+") j p2,.Constant (.str "-") j2 p3] kk p4] pos') b ((n:Int),xs) ((n:Int),xs):=
 Jc (S:=Qy r) (xs:=[.str "+",.str "-"]) t (bQ (s:=((n:Int),xs)) (s1:=((n:Int),xs)) (s':=((n:Int),xs)) t ok c2 (bH (Qp.z (aa t 0 hr hN hv hx)) (Q2.z aj)) ⟨n,rfl,rfl,rfl,rfl⟩ hg) (Qp.z (aT (ab Qo (ab Qo aj)))) (dw (FS ho n)) (cZ _) (by decide +kernel) (by rw[MN];exact hb)
end
section
variable {K:PySem.W.Frag}
theorem AD(h:DefX P w K mg base k qg (ai mo) X)(c1:Qu X "read_product" (km R))(c2:Qu X "next_token" cF)(c3:Qu X "take_token" cV):
  En X qg mo (kl R):=by
 rintro r ok ds ⟨i,xs⟩ d s' ⟨ho,n,⟨f,fs⟩,post,rfl,hn,hf,hd,S1,hz,rfl,rfl⟩
 have t:=h.at'
 haveI:=h.Q7
 have SD:i=(n:Int):=hn
 subst SD
 have T4:xs.length+(zf f++jx fs).length<10000:=hz
 rw[ac] at T4
 have Uv:r.toks.drop n=sm (v8 f)++(sm (fV fs)++post):=by rw[<-ax,<-fX];exact hd
 have hd2:r.toks.drop (n+(v8 f).length)=sm (fV fs)++post:=by have:=eT Uv;rw[fW] at this;exact this
 refine .inr ⟨rfl,[.val (.adr r.p),.un],?_⟩
 show Rb (Qy r) X [.val (.adr r.p),.un] _ _ ((n:Int),xs) (((n+(v8 f++fV fs).length:Nat):Int),xs++aN (zf f++jx fs))
 have dr:∀i,i<=fs.length->r.toks.drop (n+(v8 f).length+(fV (fs.take i)).length)=sm (fV (fs.drop i))++post:=fun i hi=>by
  have e:fV fs=fV (fs.take i)++fV (fs.drop i):=by rw[<-uJ,dF]
  rw[e,fX,ax] at hd2
  have:=eT hd2
  rw[fW] at this
  exact this
 have zl:∀i,i<=fs.length->(jx (fs.take i)).length<=(jx fs).length:=fun i hi=>by
  have e:jx fs=jx (fs.take i)++jx (fs.drop i):=by rw[<-qv,dF]
  rw[e,ac];omega
 refine a8 (s1:=(((n+(v8 f).length:Nat):Int),xs++aN (zf f))) (du (bQ t ok c1 (bH (Qp.z (aa t 0 rfl)) (Q2.z aj)) ⟨ho,n,f,sm (fV fs)++post,rfl,rfl,hf.1,Uv,Jt S1,by show xs.length+_<_;omega,rfl,rfl⟩)) (cb (oK t (fun _=>[.val (.adr r.p),.un]) (fun i=>(((n+(v8 f).length+(fV (fs.take i)).length:Nat):Int),xs++aN (zf f++jx (fs.take i)))) fs.length (fun i hi=>?_) ?_ rfl ?_ rfl ?_))
 ·have d0:=dr i (by omega)
  rw[show fs.drop i=fs[i]::fs.drop (i+1) by rw[ck hi]] at d0
  have h1:=vy (u:=v5 fs[i].1) (us:=v8 fs[i].2++fV (fs.drop (i+1))) d0
  have e:(decide (HD (r.toks.drop (n+(v8 f).length+(fV (fs.take i)).length))="+")||decide (HD (r.toks.drop (n+(v8 f).length+(fV (fs.take i)).length))="-"))=true:=by
   rw[h1.1]
   cases fs[i].1<;>decide +kernel
  have h2:=h1.2
  rw[fX,ax] at h2
  have zi:=zl (i+1) (by omega)
  rw[Hd fs hi,qv,ac] at zi
  have zi':(jx [fs[i]]).length=(zf fs[i].2).length+1:=by simp[jx]
  refine⟨Js t ok c2 ho rfl e,Rb.weak (a8 (ji t 1 (QE.eq (pS t ok c3 rfl) (by rw[h1.1]))) (a8 (du (bQ t ok c1 (bH (Qp.z (aa t 0 rfl)) (Q2.z aj)) ⟨ho,n+(v8 f).length+(fV (fs.take i)).length+1,fs[i].2,sm (fV (fs.drop (i+1)))++post,rfl,rfl,hf.2 _ (GV hi),h2,Jt S1,?_,rfl,rfl⟩)) (cb (L5 (kO t ok 0 rfl (Qp.z (aa t 1 rfl)) (sz ?_)) ?_)))) (.keep (.forget .nil))⟩
  ·show(xs++aN _).length+_<_
   rw[ac,bG,ac];omega
  ·show(xs++aN _++aN _).length<_
   rw[ac,ac,bG,bG,ac];omega
  ·refine fF ?_ ?_
   ·show(((_:Nat)):Int)=_
    rw[Hd fs hi,uJ]
    simp[fV];omega
   ·show xs++aN _++aN _++[D.str _]=xs++aN _
    rw[Hd fs hi,qv]
    simp[aN,jx]
 ·have d0:=dr fs.length (ak _)
  rw[m3] at d0
  refine Js t ok c2 ho rfl ?_
  rw[d0,Bool.or_eq_false_iff,aQ,aQ,show("+" : Str)=S [43] by decide +kernel,show("-" : Str)=S [45] by decide +kernel]
  exact⟨S1 [43] (by simp),S1 [45] (by simp)⟩
 ·show _=_
  simp[fV,jx]
  rfl
 ·show _=_
  rw[bz,ac,tf]
end
def AR:Nat->td
 |0=>fun _ _=>False
 |n+1=>fun tk st=>(∃u,Ro u/\tk=[u]/\st=[u])\/∃T:IT,m9 (AR n) T/\tk=[40]::(j5 T++[[41]])/\st=qm T
theorem EU{c:Nat}(h:Ro u)(hc:c<48):u≠[c]:=fun e=>by
 subst e
 rcases h with h | h | h
 ·have:=h.2.1 c (a7.mpr rfl);omega
 ·cases h;omega
 ·cases h;omega
theorem ON:∀n,LR (AR n)
 |0,_,_,h=>h.elim
 |n+1,tk,st,h=>by
  rcases h with⟨u,hu,rfl,rfl⟩ | ⟨T,hT,rfl,rfl⟩
  ·exact⟨u,[],rfl,EU hu (by decide)⟩
  ·exact⟨[40],_,rfl,by decide⟩
section
variable {K:PySem.W.Frag}
theorem yN(h:DefX P w K mg base k n4 (ai kF) X)(c1:Qu X "take_token" cV)(c2:Qu X "read_sum" (kl (AR n)))(c3:Qu X "take_one_of" ej)(c4:Callee X "is_number" oB):
  En X n4 kF (oz (AR (n+1))):=by
 rintro r ok ds ⟨i,xs⟩ d s' ⟨ho,n,⟨TV,UC⟩,post,rfl,hn,hf,hd,S1,hz,rfl,rfl⟩
 have t:=h.at'
 haveI:=h.Q7
 have SD:i=(n:Int):=hn
 subst SD
 rcases hf with⟨u,hu,e1,e2⟩ | ⟨T,hT,e1,e2⟩
 ·have WV:TV=[u]:=e1
  have e2':UC=[u]:=e2
  subst WV e2'
  have hd1:r.toks.drop n=S u::post:=hd
  have Tz:S u≠("(" : Str):=fun e=>by
   rw[show("(" : Str)=S [40] by decide +kernel] at e
   exact EU hu (by decide) (dX e)
  have T4:xs.length+1<10000:=hz
  refine .inr ⟨rfl,[.val (.adr r.p),.val (.str (S u))],?_⟩
  show Rb (Qy r) X [.val (.adr r.p),.un] _ _ _ (((n+1:Nat):Int),xs++[.str (S u)])
  refine a8 (ji t 1 (bQ (d:=.str (S u)) (s':=(((n+1:Nat):Int),xs)) t ok c1 (bH (Qp.z (aa t 0 rfl)) (Q2.z aj)) ⟨n,rfl,rfl,by rw[(dh hd1).1],by rw[gO];rfl⟩)) (cb (jZ (Qs.z (Qs.eq (bP t (aa t 1 rfl) Qo (eV hu.lt)) (ao Tz))) (cb (pQ (Qs.z ?_) (cb (kO t ok 0 rfl (Qp.z (aa t 1 rfl)) (sz (by show xs.length<10000;omega))))))))
  rcases id hu with hh | hh
  ·exact Qs.eq (kc (u:=true) (v:=true) (fB (a4 t c4 (ab (aa t 1 rfl) aj) ⟨u,rfl,hu,.inl ⟨hh,rfl⟩⟩)) (fun z=>nomatch z)) rfl
  ·exact Qs.eq (kc (u:=false) (fB (a4 t c4 (ab (aa t 1 rfl) aj) ⟨u,rfl,hu,.inr ⟨hh,rfl⟩⟩)) (fun _=>BH t (aa t 1 rfl) (eV hu.lt))) (by rcases hh with rfl | rfl<;>decide +kernel)
 ·have WV:TV=[40]::(j5 T++[[41]]):=e1
  have e2':UC=qm T:=e2
  subst WV e2'
  have h1:=vy (u:=[40]) (us:=j5 T++[[41]]) hd
  have h2:r.toks.drop (n+1)=sm (j5 T)++(S [41]::post):=by rw[h1.2,fX,ax];rfl
  have h3:=eT h2
  rw[fW] at h3
  refine .inr ⟨rfl,[.val (.adr r.p),.val (.str "(")],?_⟩
  show Rb (Qy r) X [.val (.adr r.p),.un] _ _ _ _
  refine a8 (ji t 1 (bQ (d:=.str "(") (s':=(((n+1:Nat):Int),xs)) t ok c1 (bH (Qp.z (aa t 0 rfl)) (Q2.z aj)) ⟨n,rfl,rfl,by rw[h1.1,show("(" : Str)=S [40] by decide +kernel],by rw[gO];rfl⟩)) (cb (pQ (Qs.z (Qs.eq (bP t (aa t 1 rfl) Qo (by decide +kernel)) (by decide +kernel))) (a8 (s1:=(((n+1+(j5 T).length:Nat):Int),xs++aN (qm T))) (du (bQ t ok c2 (bH (Qp.z (aa t 0 rfl)) (Q2.z aj)) ⟨ho,n+1,T,S [41]::post,rfl,rfl,hT,h2,fun u hu=>?_,hz,rfl,rfl⟩)) (cb (L5 (du (bQ t ok c3 (bH (Qp.z (aa t 0 rfl)) (bH (Qp.z (aT (ab Qo aj))) (Q2.z aj))) ⟨n+1+(j5 T).length,[41],[[41]],post,.inr (by rw[show(")" : Str)=S [41] by decide +kernel];rfl),rfl,h3,by simp,(by decide),rfl,rfl⟩)) ?_)))))
  ·have Wb:u=[94]\/u=[42]\/u=[43]\/u=[45]:=by simpa using hu
   show S [41]≠S u
   rcases Wb with rfl | rfl | rfl | rfl<;>exact fun e=>(by have:=dX e;cases this)
  ·refine fF ?_ rfl
   show((n+1+(j5 T).length:Nat):Int)+1=_
   simp;omega
end
section
variable {ds:List D}
theorem Au(t:At X N sc){C:List D->D->Prop}(h:EV.Callee X x C)(ha:Ed X q ρ (e::es) ds xs T1)(hC:C ds d)(hg:sc.names.lookup x=some .globalImplicit:=by rfl)(Rr:(x==("__debug__" : Str))=false:=by rfl):
  R3 X q ρ (.Call (.Name x p) (e::es) [] pos) d xs T1:=fun B F0 H σ Q us l k w=>.mk fun pins s I=>by
 obtain⟨f,fd,ps,kk,F,Uc,hm,hk,hb⟩:=h
 have pz:gc gH X E0:=nH
 refine iS F Uc (dA t hg) hm hk hb .nil pz nI Rr (ha.1.1 _ _) (T6.any ha.1.2) pins s σ H Q I (ha.2 B F0 H σ _ us l k fun vs F1 H1 u1 x1 r1 rv=>?_)
 have k1:=k.Ug l x1
 refine⟨F1,ds,d,k1.sub,by rw[aU];exact rv,hC,fun v F2 H2 x2 UD=>w v F2 H2 u1 (x1.tM (l.ff k) (x2.Yy (k1.sh _ _ aK))) (r1.mono x2.sf) UD⟩
end
def B4(ts:List (List Nat)):Prop:=∀i,i<=ts.length->gr [40] [41] (ts.take i)<=20/\gr [91] [93] (ts.take i)<=20
def oy(ds:List D)(toks:List Str):Prop:=∃(cs:List Nat) (ts:List (List Nat)) (m:Nat),ds=[.str (S cs),.int m]/\Lex cs ts/\(∀c∈cs,c<128)/\cs.length<=m/\m<=2000/\(∀u∈ts,∀x∈u,x<128)/\B4 ts/\toks=sm ts
theorem wf:∀ds ts,oy ds ts->ds.length=2:=by rintro _ _ ⟨a,b,c,rfl,_⟩;rfl
section
variable {K:PySem.W.Frag}
theorem yR(h:DefX P w K mg base k RV (ai kE) X)(Qw:mg "isinstance"=none)(Q4:mg "str"=none)(Qv:mg "len"=none)(c1:EV.Callee X "tokens_of" ot)(c2:EV.Callee X "refuse_deep" lu)(M:O7 X "Reader" C):
  ∀ds ts,oy ds ts->xH X (ds.map Sl.val++List.replicate (RV.length-ds.length) Sl.un) (bw kE) ts:=by
 rintro ds r ⟨cs,ts,m,rfl,hl,ha,hm,hz,ht,hd,rfl⟩
 have t:=h.at'
 haveI:=h.Q7
 have b1:=h.bt Qw
 have b2:=h.bt Q4
 have b3:=h.bt Qv
 show xH X [.val (.str (S cs)),.val (.int m),.un] _ _
 refine rL (b0 (Qs.eq (kc (u:=false) (Qs.eq (nU (fB (rD t b1 b2 (aa t 0 rfl) rfl))) rfl) (fun _=>hV (fb t b3 (aa t 0 rfl) (pV (by omega))) (aa t 1 rfl))) ?_) bF) ?_
 ·rw[bn,Bool.false_or,aQ];omega
 refine rL (c6 t 2 (a4 t c1 (ab (aa t 0 rfl) aj) ⟨cs,ts,rfl,hl,ha,by omega,rfl⟩)) ?_
 refine rL (Be (a4 t c2 (ab (aa t 2 rfl) (ab Qo (ab Qo aj))) ⟨ts,[40],[41],rfl,ht,by simp,by simp,fun i hi=>(hd i hi).1,rfl⟩)) ?_
 refine rL (Be (a4 t c2 (ab (aa t 2 rfl) (ab Qo (ab Qo aj))) ⟨ts,[91],[93],rfl,ht,by simp,by simp,fun i hi=>(hd i hi).2,rfl⟩)) ?_
 refine Gf t M (Qp.eq (aa t 2 rfl) ?_)
 unfold aN sm
 rw[cD];rfl
end
def Br(u:List Nat):Int:=((PySem.NumText.digitsVal u:Nat):Int)
def G3(u:List Nat):Bd:=if u=[120] then [[0,1]] else if u=[121] then [[],[1]] else if Br u=0 then [] else [[Br u]]
def s8(ds:List D)(d:D):Prop:=∃u,ds=[.str (S u)]/\Ro u/\d=aA (G3 u)
theorem Aj:∀ds d,s8 ds d->ds.length=1:=by rintro _ _ ⟨a,rfl,_⟩;rfl
theorem KF(h:y6 u):u≠[120]/\u≠[121]:=⟨fun e=>by have:=h.2.1 120 (by rw[e];simp);omega,fun e=>by have:=h.2.1 121 (by rw[e];simp);omega⟩
theorem Fv(h:y6 u):PySem.intText? (S u)=some (Br u):=by
 have:=PySem.intText_digits (x:=S u) (by rw[jb];exact h.2.1) (by rw[jb];exact h.1) (by rw[bn];have:=h.2.2.1;omega)
 rw[jb] at this
 exact this
section
variable {K:PySem.W.Frag}
theorem D8(h:DefX P w K mg base k sY (ai oP) X)(Rl:mg "int"=none):
  Go X sY oP s8:=by
 rintro ds r ⟨u,rfl,hu,rfl⟩
 have t:=h.at'
 haveI:=h.Q7
 have b1:=h.bt Rl
 have ok:=eV hu.lt
 have e1:decide (S u=("x" : Str))=decide (u=[120]):=cj.mpr ⟨fun e=>dX (by rw[e];decide +kernel),fun e=>by rw[e];decide +kernel⟩
 have e2:decide (S u=("y" : Str))=decide (u=[121]):=cj.mpr ⟨fun e=>dX (by rw[e];decide +kernel),fun e=>by rw[e];decide +kernel⟩
 show Qr X [.val (.str (S u)),.un] _ _
 refine JE (Qs.eq (bP t (aa t 0 rfl) Qo ok) e1) (fun v=>aF (bx (Qp.eq (aT (ab (aT (ab ag (ab ag aj))) aj)) ?_))) fun v=>?_
 ·rw[bh] at v;subst v;rfl
 rw[aQ] at v
 refine JE (Qs.eq (bP t (aa t 0 rfl) Qo ok) e2) (fun v'=>aF (bx (Qp.eq (aT (ab (aT aj) (ab (aT (ab ag aj)) aj))) ?_))) fun v'=>?_
 ·rw[bh] at v';subst v';rfl
 rw[aQ] at v'
 have hn:y6 u:=by
  rcases hu with hh | hh | hh
  ·exact hh
  ·exact absurd hh v
  ·exact absurd hh v'
 refine aG (c6 t 1 (C4 t b1 (aa t 0 rfl) (Fv hn) (by rw[bn];have:=hn.2.2.1;omega))) (aF (bx ?_))
 unfold G3
 rw[aq v,aq v']
 by_cases e:Br u=0
 ·rw[ay e]
  exact mD (Qs.eq (nV (aa t 1 rfl) ag) (by rw[e];rfl)) (aT aj)
 ·rw[aq e]
  exact mC (Qs.eq (nV (aa t 1 rfl) ag) (by rw[ao e];rfl)) (aT (ab (aT (ab (aa t 1 rfl) aj)) aj))
end
def z8(b:Bd):Nat->Bd
 |0=>[[1]]
 |i+1=>jj (z8 b i) b
def GI(b:Bd)(m:Nat):Prop:=(∀i,i<m->Sb 100 (z8 b i))/\Sb 100 b/\(∀r∈b,∀y∈r,-(2 ^ 63)<y/\y<2 ^ 63)
def iE(ds:List D)(d:D):Prop:=∃(b:Bd) (m:Nat),ds=[aA b,.int m]/\m<=9/\GI b m/\d=aA (z8 b m)
theorem pZ:∀ds d,iE ds d->ds.length=2:=by rintro _ _ ⟨a,b,rfl,_⟩;rfl
section
variable {K:PySem.W.Frag}
theorem sU(h:DefX P w K mg base k iD (ai fO) X)(Qz:mg "range"=none)(c1:EV.Callee X "board_times" iY):
  Go X iD fO iE:=by
 rintro ds r ⟨b,m,rfl,hm,hb,rfl⟩
 have t:=h.at'
 haveI:=h.Q7
 have b1:=h.bt Qz
 show Qr X [.val (aA b),.val (.int m),.un,.un] _ _
 refine aG (c6 t 2 (aT (ab (aT (ab ag aj)) aj))) (aG (gK t (fR t b1 (aa t 1 rfl) (by omega) (by omega)) (QI.QZ (ρ':=[.val (aA b),.val (.int m),.val (aA (z8 b m)),.un]) (fun i=>[.val (aA b),.val (.int m),.val (aA (z8 b i)),.un]) (fun j d e=>?_) rfl ?_)) (aF (bx (aa t 2 rfl))))
 ·have hj:j<m:=by
   have:=(az.mp e).1
   simpa [fZ] using this
  exact⟨_,dN t 3,Qr.weak (aF (c6 t 2 (a4 t c1 (ab (aa t 2 rfl) (ab (aa t 0 rfl) aj)) ⟨z8 b j,b,rfl,hb.1 j hj,hb.2.1,hb.2.2,rfl⟩))) (.keep (.keep (.keep (.forget .nil))))⟩
 ·simp[fZ]
end
inductive Rh:List Nat->List Bd->List Bd->Prop where
 |atom {u:List Nat} {st:List Bd}:Ro u->Rh u st (st++[G3 u])
 |add {st:List Bd} {a b:Bd}:Sb 1000 a->Sb 1000 b->Rh [43] (st++[a]++[b]) (st++[kQ a b])
 |sub {st:List Bd} {a b:Bd}:Sb 1000 a->Sb 1000 b->Rh [45] (st++[a]++[b]) (st++[kQ a (qZ b)])
 |mul {st:List Bd} {a b:Bd}:Sb 100 a->Sb 100 b->(∀r∈b,∀y∈r,-(2 ^ 63)<y/\y<2 ^ 63)->Rh [42] (st++[a]++[b]) (st++[jj a b])
 |neg {st:List Bd} {b:Bd}:Sb 1000 b->Rh [109,105,110,117,115] (st++[b]) (st++[kQ [] (qZ b)])
 |pow {st:List Bd} {b:Bd} {d:Nat}:GI b d->d<=9->Rh [94,48+d] (st++[b]) (st++[z8 b d])
def l5(d0:D)(xs xs':List D):Prop:=∃(u:List Nat) (pre:List D) (st RM:List Bd),d0=.str (S u)/\Rh u st RM/\pre.length+st.length<10000/\xs=pre++st.map aA/\xs'=pre++RM.map aA
theorem Pv:Sb 1000 []:=⟨by decide,fun r h=>nomatch h⟩
theorem Px(w:Str):((QA [D.str "+",.str "-",.str "*"]).any fun y=>PyData.eqv y (fg (.str w)))=(decide (w="+")||(decide (w="-")||decide (w="*"))):=by
 show((("+" : Str)==w)||((("-" : Str)==w)||((("*" : Str)==w)||false)))=_
 rw[eF,eF,eF,A3,cj.mpr (show("+" : Str)=w ↔ w="+" from zk),cj.mpr (show("-" : Str)=w ↔ w="-" from zk),cj.mpr (show("*" : Str)=w ↔ w="*" from zk)]
theorem Bh(h:Ro u):∃c cs,u=c::cs/\((48<=c/\c<=57)\/(c=120/\cs=[])\/(c=121/\cs=[])):=by
 rcases h with h | rfl | rfl
 ·cases u with
  |nil=>exact absurd rfl h.1
  |cons c cs=>exact⟨c,cs,rfl,.inl (h.2.1 c (by simp))⟩
 ·exact⟨_,_,rfl,.inr (.inl ⟨rfl,rfl⟩)⟩
 ·exact⟨_,_,rfl,.inr (.inr ⟨rfl,rfl⟩)⟩
theorem wb{u:List Nat}{z:Str}(hz:z=S v)(h:u≠v):decide (S u=z)=false:=ao fun e=>h (dX (e.trans hz))
theorem zp:("+" : Str)=S [43]:=by decide +kernel
theorem zm:("-" : Str)=S [45]:=by decide +kernel
theorem zt:("*" : Str)=S [42]:=by decide +kernel
theorem zn:("minus" : Str)=S [109,105,110,117,115]:=by decide +kernel
theorem zc:("^" : Str)=S [94]:=by decide +kernel
theorem L7{st:Stmt}{b:List D}(h:t7 X q ρ st o s a)(e:a=b):t7 X q ρ st o s b:=e ▸ h
section
variable {K:PySem.W.Frag}
theorem rR(h:DefX P w K mg base k Q5 (ai fN) X)(Rl:mg "int"=none)(c1:EV.Callee X "board_times" iY)(c2:EV.Callee X "board_minus" iZ)(c3:EV.Callee X "board_plus" jO)(c4:EV.Callee X "power_of_board" iE)(c5:EV.Callee X "atom_of" s8):
  ∀q d0 xs xs',l5 d0 xs xs'->∃ρ',xI X q (.val d0 :: .val (.adr q)::List.replicate (Q5.length-2) Sl.un) (bw fN) (.nx ρ') xs xs':=by
 rintro q d0 xs xs' ⟨u,pre,st,RM,rfl,hs,hl,rfl,rfl⟩
 have t:=h.at'
 haveI:=h.Q7
 have b1:=h.bt Rl
 have cw:PyData.canLayAll0 (QA [D.str "+",.str "-",.str "*"])=true:=by decide +kernel
 show ∃ρ',xI X q [.val (.str (S u)),.val (.adr q),.un,.un] _ (.nx ρ') _ _
 cases hs with
 |atom hu=>
  obtain⟨c,cs,rfl,hc⟩:=Bh hu
  have f1:c≠43/\c≠45/\c≠42/\c≠109/\c≠94:=by omega
  have ok:=eV hu.lt
  have i1:(decide (S (c::cs)=("+" : Str))||(decide (S (c::cs)=("-" : Str))||decide (S (c::cs)=("*" : Str))))=false:=by
   rw[wb zp (by intro e;cases e;exact f1.1 rfl),wb zm (by intro e;cases e;exact f1.2.1 rfl),wb zt (by intro e;cases e;exact f1.2.2.1 rfl)];rfl
  refine⟨[.val (.str (S (c::cs))),.val (.adr q),.un,.un],cu (fT (Qs.l (iz (r:=false) t (aa t 0 rfl) (aT (ab Qo (ab Qo (ab Qo aj)))) (dw ok) (cZ _) cw (by rw[Px];exact i1))) (cu (fT (Qs.l (Qs.eq (bP t (aa t 0 rfl) Qo ok) (wb zn (by intro e;cases e;exact f1.2.2.2.1 rfl)))) (cu (fT (Qs.l (Qs.eq (bP t (ga (c:=c) (aa t 0 rfl) ag (pV (by have:=hu.len;omega)) (by rw[jb];exact jN (j:=0) rfl)) Qo (eV (cs:=[c]) fun x hx=>hu.lt x (by simp at hx;simp[hx]))) (wb (u:=[c]) zc (by intro e;cases e;exact f1.2.2.2.2 rfl)))) (cu (L7 (fu t 1 rfl (Qp.em (a4 t c5 (ab (aa t 0 rfl) aj) ⟨_,rfl,hu,rfl⟩)) (by rw[ac,af];exact sz hl)) (by rw[aX,<-ax];rfl))))))))⟩
 |@add s0 a b ha hb=>
  refine⟨[.val (.str (S [43])),.val (.adr q),.val (aA b),.val (aA a)],cu (kR (Qs.l (iz (r:=true) t (aa t 0 rfl) (aT (ab Qo (ab Qo (ab Qo aj)))) (dw (by decide +kernel)) (cZ _) cw (by decide +kernel))) (e9 (iw t 2 (dU t 1 rfl (xs':=pre++(s0++[a]).map aA) (by simp))) (e9 (iw t 3 (dU t 1 rfl (xs':=pre++s0.map aA) (by simp))) (cu (fT (Qs.l (Qs.eq (bP t (aa t 0 rfl) Qo (by decide +kernel)) (by decide +kernel))) (cu (L7 (fu t 1 rfl (Qp.em (mC (Qs.eq (bP t (aa t 0 rfl) Qo (by decide +kernel)) (by decide +kernel)) (a4 t c3 (ab (aa t 3 rfl) (ab (aa t 2 rfl) aj)) ⟨a,b,rfl,ha,hb,rfl⟩))) (by rw[ac,af];exact sz (by simp at hl;omega))) (by rw[aX,<-ax];rfl))))))))⟩
 |@sub s0 a b ha hb=>
  refine⟨[.val (.str (S [45])),.val (.adr q),.val (aA b),.val (aA a)],cu (kR (Qs.l (iz (r:=true) t (aa t 0 rfl) (aT (ab Qo (ab Qo (ab Qo aj)))) (dw (by decide +kernel)) (cZ _) cw (by decide +kernel))) (e9 (iw t 2 (dU t 1 rfl (xs':=pre++(s0++[a]).map aA) (by simp))) (e9 (iw t 3 (dU t 1 rfl (xs':=pre++s0.map aA) (by simp))) (cu (fT (Qs.l (Qs.eq (bP t (aa t 0 rfl) Qo (by decide +kernel)) (by decide +kernel))) (cu (L7 (fu t 1 rfl (Qp.em (mD (Qs.eq (bP t (aa t 0 rfl) Qo (by decide +kernel)) (by decide +kernel)) (a4 t c2 (ab (aa t 3 rfl) (ab (aa t 2 rfl) aj)) ⟨a,b,rfl,ha,hb,rfl⟩))) (by rw[ac,af];exact sz (by simp at hl;omega))) (by rw[aX,<-ax];rfl))))))))⟩
 |@mul s0 a b ha hb hv=>
  refine⟨[.val (.str (S [42])),.val (.adr q),.val (aA b),.val (aA a)],cu (kR (Qs.l (iz (r:=true) t (aa t 0 rfl) (aT (ab Qo (ab Qo (ab Qo aj)))) (dw (by decide +kernel)) (cZ _) cw (by decide +kernel))) (e9 (iw t 2 (dU t 1 rfl (xs':=pre++(s0++[a]).map aA) (by simp))) (e9 (iw t 3 (dU t 1 rfl (xs':=pre++s0.map aA) (by simp))) (cu (kR (Qs.l (Qs.eq (bP t (aa t 0 rfl) Qo (by decide +kernel)) (by decide +kernel))) (cu (L7 (fu t 1 rfl (Qp.em (a4 t c1 (ab (aa t 3 rfl) (ab (aa t 2 rfl) aj)) ⟨a,b,rfl,ha,hb,hv,rfl⟩)) (by rw[ac,af];exact sz (by simp at hl;omega))) (by rw[aX,<-ax];rfl))))))))⟩
 |@neg s0 b hb=>
  refine⟨[.val (.str (S [109,105,110,117,115])),.val (.adr q),.un,.un],cu (fT (Qs.l (iz (r:=false) t (aa t 0 rfl) (aT (ab Qo (ab Qo (ab Qo aj)))) (dw (by decide +kernel)) (cZ _) cw (by decide +kernel))) (cu (kR (Qs.l (Qs.eq (bP t (aa t 0 rfl) Qo (by decide +kernel)) (by decide +kernel))) (cu (L7 (fu t 1 rfl (Au t c2 (eG (Qp.em (aT aj)) (eG (dU t 1 rfl (xs':=pre++s0.map aA) (by simp)) (Q2.am aj))) ⟨[],b,rfl,Pv,hb,rfl⟩) (by rw[ac,af];exact sz (by simp at hl;omega))) (by rw[aX,<-ax];rfl))))))⟩
 |@pow s0 b d hb hd=>
  have ok:PyData.strOk (S [94,48+d])=true:=eV fun x hx=>by simp at hx;omega
  have i1:(decide (S [94,48+d]=("+" : Str))||(decide (S [94,48+d]=("-" : Str))||decide (S [94,48+d]=("*" : Str))))=false:=by
   rw[wb zp (by intro e;cases e),wb zm (by intro e;cases e),wb zt (by intro e;cases e)];rfl
  have ZE:PySem.intText? (S [48+d])=some ((d:Nat):Int):=by
   have:∀d:Nat,d<10->PySem.intText? (S [48+d])=some ((d:Nat):Int):=by decide +kernel
   exact this d (by omega)
  refine⟨[.val (.str (S [94,48+d])),.val (.adr q),.un,.un],cu (fT (Qs.l (iz (r:=false) t (aa t 0 rfl) (aT (ab Qo (ab Qo (ab Qo aj)))) (dw ok) (cZ _) cw (by rw[Px];exact i1))) (cu (fT (Qs.l (Qs.eq (bP t (aa t 0 rfl) Qo ok) (wb zn (by intro e;cases e)))) (cu (kR (Qs.l (Qs.eq (bP t (ga (c:=94) (aa t 0 rfl) ag (pV (by simp)) (by rw[jb];exact jN (j:=0) rfl)) Qo (by decide +kernel)) (by decide +kernel))) (cu (L7 (fu t 1 rfl (Au t c4 (eG (dU t 1 rfl (xs':=pre++s0.map aA) (by simp)) (Q2.am (ab (C4 t b1 (ga (c:=48+d) (aa t 0 rfl) ag (pV (by simp)) (by rw[jb];exact jN (j:=1) rfl)) ZE (by show(S [48+d]).length<=640;rw[bn];simp)) aj))) ⟨b,d,rfl,hd,hb,rfl⟩) (by rw[ac,af];exact sz (by simp at hl;omega))) (by rw[aX,<-ax];rfl))))))))⟩
end
inductive Runs:List (List Nat)->List Bd->List Bd->Prop where
 |nil {a:List Bd}:Runs [] a a
 |cons {u:List Nat} {us:List (List Nat)} {a b c:List Bd}:Rh u a b->Runs us b c->Runs (u::us) a c
theorem Runs.app{us vs:List (List Nat)}{a b c:List Bd}(h:Runs us a b)(g:Runs vs b c):Runs (us++vs) a c:=by
 induction h with
 |nil=>exact g
 |cons s _ ih=>exact .cons s (ih g)
theorem Rh.len{a b:List Bd}(h:Rh u a b):b.length<=a.length+1:=by
 cases h<;>simp<;>omega
inductive mF where
 |neg | qu (a x:Bool)
def kU:List Nat:=[110,111,116]
def qw(a:Bool):List Nat:=if a then [115,111,109,101] else [97,108,108]
def lw(x:Bool):List Nat:=if x then [120] else [121]
def GX:mF->TK
 |.neg=>[kU]
 |.qu a x=>[qw a,lw x]
def ze:mF->List Nat
 |.neg=>kU
 |.qu a x=>qw a++32::lw x
def bY:List mF->TK
 |[]=>[]
 |p::ps=>GX p++bY ps
theorem qr:∀a b:List mF,bY (a++b)=bY a++bY b
 |[],b=>rfl
 |f::a,b=>by show GX f++bY (a++b)=_;rw[qr a b];simp[bY]
def cW(ps:List mF):TK:=(ps.map ze).reverse
def Bl:TK:=[kU,qw true,qw false]
theorem OU(u v z w:Str):([PyData.str u,.str v,.str z].any fun y=>PyData.eqv y (.str w))=(decide (w=u)||(decide (w=v)||decide (w=z))):=by
 show((u==w)||((v==w)||((z==w)||false)))=_
 rw[eF,eF,eF,A3,cj.mpr (show u=w ↔ w=u from zk),cj.mpr (show v=w ↔ w=v from zk),cj.mpr (show z=w ↔ w=z from zk)]
section
theorem Gd(t:At X N sc)(ha:Qp X ρ a (.str u))(hb:Qp X ρ b (.str v))(hu:PyData.strOk u=true)(hv:PyData.strOk v=true:=by decide +kernel):Qs X ρ (.Compare a [.NotEq] [b] pos) (!decide (u=v)):=
 iy t ha.p hb.p (dO hu) (dO hv) (by show(!(u==v))=_;rw[eF u v])
theorem Bq{b:Bool}{ρ:cp}(t:At X N sc)(ok:k8 X.K r)(c2:Qu X "next_token" cF)(ho:∀x∈r.toks,PyData.strOk x=true)(hr:ρ[0]?=some (.val (.adr r.p)))(hb:(decide (HD (r.toks.drop n)="not")||(decide (HD (r.toks.drop n)="some")||decide (HD (r.toks.drop n)="all")))=b)(hN:N[0]?=some ("reader" : Str):=by rfl)(hv:dW sc ("reader" : Str)=true:=by rfl)(hx:cg ("reader" : Str)=true:=by rfl)(hg:sc.names.lookup ("next_token" : Str)=some .globalImplicit:=by rfl):
  QV (Qy r) X ρ (.Compare (.Call (.Name "next_token" p) [.Name "reader" py] [] pos) [.In] [.Tuple [.Constant (.str "not") j p2,.Constant (.str "some") j2 p3,.Constant (.str "all") j3 p5] kk p4] pos') b ((n:Int),xs) ((n:Int),xs):=
 Jc (S:=Qy r) (xs:=[.str "not",.str "some",.str "all"]) t (bQ (s:=((n:Int),xs)) (s1:=((n:Int),xs)) (s':=((n:Int),xs)) t ok c2 (bH (Qp.z (aa t 0 hr hN hv hx)) (Q2.z aj)) ⟨n,rfl,rfl,rfl,rfl⟩ hg) (Qp.z (aT (ab Qo (ab Qo (ab Qo aj))))) (dw (FS ho n)) (cZ _) (by decide +kernel) ((OU "not" "some" "all" _).trans hb)
end
def jq(toks:List Str)(ds:List D)(s:Int×List D)(d:D)(s':Int×List D):Prop:=
 (∀x∈toks,PyData.strOk x=true)/\∃(n:Nat) (ps:List mF) (post:List Str),ds=[]/\s.1=n/\toks.drop n=sm (bY ps)++post/\No Bl post/\ps.length<=20/\d=.lst (aN (cW ps))/\s'=(((n+(bY ps).length:Nat):Int),s.2)
theorem rc:∀ts ds s d s',jq ts ds s d s'->ds.length+1=1:=by rintro _ _ _ _ _ ⟨_,a,b,c,rfl,_⟩;rfl
theorem JK:("not" : Str)=S kU:=by decide +kernel
theorem Mj:("some" : Str)=S (qw true):=by decide +kernel
theorem zX:("x" : Str)=S [120]:=by decide +kernel
theorem zY:("y" : Str)=S [121]:=by decide +kernel
theorem JR:[D.tup [D.str "x",.str "y"]]=[D.tup (aN [[120],[121]])]:=by rw[zX,zY];rfl
theorem N8:("all" : Str)=S (qw false):=by decide +kernel
section
variable {K:PySem.W.Frag}
theorem sR(h:DefX P w K mg base k jm (ai gu) X)(Qv:mg "len"=none)(c2:Qu X "next_token" cF)(c3:Qu X "take_token" cV)(c4:Qu X "take_one_of" ej)(gM:∃tk,mg "MOST_PREFIXES"=some (.int 20 tk)):
  En X jm gu jq:=by
 rintro r ok ds ⟨i,xs⟩ d s' ⟨ho,n,ps,post,rfl,hn,hd,S1,hl,rfl,rfl⟩
 have t:=h.at'
 haveI:=h.Q7
 have SD:i=(n:Int):=hn
 subst SD
 have b1:=h.bt Qv
 have Wr:∃tk,X.mg "MOST_PREFIXES"=some (.int 20 tk):=by rw[h.Sm];exact gM
 refine .inl ?_
 show Rb (Qy r) X [.val (.adr r.p),.un,.un] _ _ ((n:Int),xs) (((n+(bY ps).length:Nat):Int),xs)
 have dr:∀i,i<=ps.length->r.toks.drop (n+(bY (ps.take i)).length)=sm (bY (ps.drop i))++post:=fun i hi=>by
  have e:bY ps=bY (ps.take i)++bY (ps.drop i):=by rw[<-qr,dF]
  rw[e,fX,ax] at hd
  have:=eT hd
  rw[fW] at this
  exact this
 refine a8 (QQ.z (iu t 1 (bI aj))) (a8 (oK t (fun i=>[.val (.adr r.p),.own (aN ((ps.take i).map ze)),.un]) (fun i=>(((n+(bY (ps.take i)).length:Nat):Int),xs)) ps.length (fun i hi=>?_) ?_ rfl ?_ rfl rfl) (a8 (QQ.z (b0 (Qs.eq (hV (dB t b1 (eL t 1 rfl)) (rG t Wr)) ?_) bF)) (zq (cb (QQ.z (bx (Qp.eq (C8 (eL t 1 rfl) (eO ag)).Rc ?_)))) ?_)))
 ·have d0:=dr i (by omega)
  rw[show ps.drop i=ps[i]::ps.drop (i+1) by rw[ck hi]] at d0
  have et:ps.take (i+1)=ps.take i++[ps[i]]:=Hd ps hi
  cases ep:ps[i] with
  |neg=>
   rw[ep] at d0 et
   have h1:=vy (u:=kU) (us:=bY (ps.drop (i+1))) d0
   refine⟨Bq t ok c2 ho rfl (by rw[h1.1];decide +kernel),Rb.weak (a8 (ji t 2 (QE.eq (pS t ok c3 rfl) (by rw[h1.1]))) (a8 (jZ (Qs.z (Qs.eq (Gd t (aa t 2 rfl) Qo (by decide +kernel)) (by decide +kernel))) nj) (zq (cb (QQ.z (eI t 1 rfl (aa t 2 rfl) (sz ?_)))) ?_))) ?_⟩
   ·rw[bG,af,cv];omega
   ·refine fF ?_ rfl
    show(((_:Nat)):Int)=_
    rw[et,qr];simp[bY,GX];omega
   ·rw[et,aX]
    show Su [.val (.adr r.p),.own (aN ((ps.take i).map ze)++[.str (S kU)]),.val _] [.val (.adr r.p),.own (aN ((ps.take i).map ze++[ze .neg])),.un]
    rw[eE]
    exact .keep (.keep (.forget .nil))
  |qu a x=>
   rw[ep] at d0 et
   have h1:=vy (u:=qw a) (us:=lw x::bY (ps.drop (i+1))) d0
   have h2:=h1.2
   refine⟨Bq t ok c2 ho rfl (by rw[h1.1];cases a<;>decide +kernel),Rb.weak (a8 (ji t 2 (QE.eq (pS t ok c3 rfl) (by rw[h1.1]))) (a8 (pQ (Qs.z (Qs.eq (Gd t (aa t 2 rfl) Qo (by cases a<;>decide +kernel)) (by cases a<;>decide +kernel))) (cb (G8 t 2 (z:=S (qw a)) rfl (yu (Qp.z Qo) (bQ t ok c4 (bH (Qp.z (aa t 0 rfl)) (Q2.z (ab (aT (ab Qo (ab Qo aj))) aj))) ⟨n+(bY (ps.take i)).length+1,lw x,[[120],[121]],sm (bY (ps.drop (i+1)))++post,.inr JR,rfl,h2,by cases x<;>decide,by decide,rfl,rfl⟩) (aL (m:=100) (by cases x<;>decide +kernel) (by decide))) (aL (m:=100) (by cases a<;>cases x<;>decide +kernel) (by decide))))) (zq (cb (QQ.z (eI t 1 rfl (aa t 2 rfl) (sz ?_)))) ?_))) ?_⟩
   ·rw[bG,af,cv];omega
   ·refine fF ?_ rfl
    show(((_:Nat)):Int)+1=_
    rw[et,qr];simp[bY,GX];omega
   ·rw[et,aX]
    show Su [.val (.adr r.p),.own (aN ((ps.take i).map ze)++[.str _]),.val _] [.val (.adr r.p),.own (aN ((ps.take i).map ze++[ze (.qu a x)])),.un]
    rw[eE,show aN [ze (.qu a x)]=[.str (S (ze (.qu a x)))] from rfl,show S (ze (.qu a x))=S (qw a)++((" " : Str)++S (lw x)) by cases a<;>cases x<;>decide +kernel]
    exact .keep (.keep (.forget .nil))
 ·have d0:=dr ps.length (ak _)
  rw[m3] at d0
  refine Bq t ok c2 ho rfl ?_
  rw[d0,JK,Mj,N8]
  show(decide (HD post=_)||(decide (HD post=_)||decide (HD post=_)))=false
  rw[ao (S1 kU (by simp[Bl])),ao (S1 (qw true) (by simp[Bl])),ao (S1 (qw false) (by simp[Bl]))]
  rfl
 ·show _=_
  rfl
 ·rw[bG,af,cv,aQ];omega
 ·rw[bz]
  show D.lst (List.map _ _).reverse=D.lst (List.map _ _)
  rw[<-GU];rfl
 ·rw[bz]
end
def aw(a:Bool):List Nat:=if a then [97,110,100] else [111,114]
def Bz(ps:List mF):D:=.tup [.lst (aN (cW ps)),.str (S [])]
def Em(p:List mF×Bool):D:=.tup [.lst (aN (cW p.1)),.str (S (aw p.2))]
def dq:List (List mF×Bool)->TK
 |[]=>[]
 |p::bs=>aw p.2::(cW p.1++dq bs)
def wt(n:Nat):TK:=List.replicate n [93]
def S7(x:D):Prop:=(∃ps,x=Bz ps)\/∃p,x=Em p
theorem Bb(p:mF):∀c∈ze p,c<128:=by
 cases p with
 |neg=>decide
 |qu a x=>cases a<;>cases x<;>decide
theorem Ch{ps:List mF}:∀u∈cW ps,∀c∈u,c<128:=fun u hu=>by
 unfold cW at hu
 rw[jg] at hu
 obtain⟨p,_,rfl⟩:=a6.mp hu
 exact Bb p
theorem rS(a:Bool):∀c∈aw a,c<128:=by cases a<;>decide
theorem Fn.str{u:List Nat}(n:Nat)(h:∀c∈u,c<128):Fn n (.str (S u)):=⟨dw (eV h),by simp[fg,PyData.depth],by simp[fg,PyData.eqv]⟩
theorem Fn.fr{us:TK}{z:List Nat}(h1:∀u∈us,∀c∈u,c<128)(h2:∀c∈z,c<128):Fn 3 (.tup [.lst (aN us),.str (S z)]):=Fn.tup fun x hx=>by
 simp at hx
 rcases hx with rfl | rfl
 ·refine Fn.lst fun y hy=>?_
  obtain⟨u,hu,rfl⟩:=a6.mp hy
  exact Fn.str 1 (h1 u hu)
 ·exact Fn.str 2 h2
theorem S7.fn(h:S7 x):Fn 3 x:=by
 rcases h with⟨ps,rfl⟩ | ⟨p,rfl⟩
 ·exact Fn.fr Ch (fun c h=>nomatch h)
 ·exact Fn.fr Ch (rS _)
theorem CW{xs:List D}(h:∀x∈xs,S7 x):SeqAt.shaped (PyData.list (QA xs))=true:=(Fn.lst fun x hx=>(h x hx).fn).sh (by decide)
def jv(bs:List (List mF×Bool)):List D:=(bs.map Em).reverse
theorem Ao(p:List mF×Bool)(bs:List (List mF×Bool)):jv (p::bs)=jv bs++[Em p]:=by simp[jv]
theorem FU{bs:List (List mF×Bool)}:∀x∈jv bs,S7 x:=fun x hx=>by
 unfold jv at hx
 rw[jg] at hx
 obtain⟨p,_,rfl⟩:=a6.mp hx
 exact .inr ⟨p,rfl⟩
def ie(toks:List Str)(s:Int×List D)(xs:List D)(d:D)(s':Int×List D)(xs':List D):Prop:=
  (∀x∈toks,PyData.strOk x=true)/\∃(n:Nat) (bs:List (List mF×Bool)) (post:List Str),s.1=n/\s.2.length+(dq bs).length<10000 /\
    ((∃(To:List D) (ps:List mF) (w:Bool),(∀x∈To,S7 x)/\To.length<10000/\xs=(To++[Bz ps])++jv bs/\toks.drop n=sm (wt bs.length)++(S (aw w)::post)/\d=.bl false/\s'=(((n+bs.length+1:Nat):Int),s.2++aN (dq bs))/\xs'=To++[Em (ps,w)]) \/
     (xs=jv bs/\toks.drop n=sm (wt bs.length)++post/\d=.bl true/\s'=(((n+bs.length:Nat):Int),s.2++aN (dq bs))/\xs'=[]))
theorem EC:[D.tup [D.str "]"]]=[D.tup (aN [[93]])]:=by rw[show("]" : Str)=S [93] by decide +kernel];rfl
theorem JS:[D.tup [D.str "and",.str "or"]]=[D.tup (aN [aw true,aw false])]:=by rw[show("and" : Str)=S (aw true) by decide +kernel,show("or" : Str)=S (aw false) by decide +kernel];rfl
theorem zE:("" : Str)=S []:=by decide +kernel
theorem CI(xs:List D)(x:D):true = !(xs++[x]).isEmpty:=by cases xs<;>rfl
theorem Dj{i m:Nat}(h:i<m):wt m=wt i++([93]::wt (m-(i+1))):=by
 unfold wt
 rw[<-bv,Eo]
 congr 1;omega
theorem Rg.pre{SS:LS}{s':SS.ds}(T:Nat->SS.ds):∀(N:Nat),(∀i,i<N->QV SS X ρ cd true (T i) (T i)/\Rb SS X ρ body (.nx ρ) (T i) (T (i+1)))->(∃m,Rg SS X cd body m ρ (T N) o s')->∃m,Rg SS X cd body m ρ (T 0) o s'
 |0,_,h=>h
 |N+1,h,⟨m,g⟩=>Rg.pre T N (fun i hi=>h i (by omega)) ⟨m+1,.step (h N (by omega)).1 (h N (by omega)).2 g⟩
theorem X7.from{SS:LS}{s s' a:SS.ds}(h:∃m,Rg SS X cd body m ρ s o s')(e:a=s):∃m,Rg SS X cd body m ρ a o s':=e ▸ h
theorem kf:∀a b,dq (a++b)=dq a++dq b
 |[],b=>rfl
 |p::a,b=>by show aw p.2::(cW p.1++dq (a++b))=_;rw[kf a b];simp[dq]
section
variable {K:PySem.W.Frag}
theorem tX(h:DefX P w K mg base k Rp (ai gS) X)(c4:Qu X "take_one_of" ej):
  ∀(r:rW) (q:Addr),k8 X.K r->l6 (Qy r) q->∀s xs d s' xs',ie r.toks s xs d s' xs'->Rb ((Qy r).lst q) X (.val (.adr r.p) :: .val (.adr q)::List.replicate (Rp.length-2) Sl.un) (bw gS) (.rt d) (s,xs) (s',xs'):=by
 rintro r q ok hq ⟨i,ys⟩ xs d s' xs' ⟨ho,n,bs,post,hn,hz,hc⟩
 have t:=h.at'
 haveI:=h.Q7
 have SD:i=(n:Int):=hn
 subst SD
 have hz:ys.length+(dq bs).length<10000:=hz
 show Rb ((Qy r).lst q) X [.val (.adr r.p),.val (.adr q),.un,.un] _ _ _ _
 rcases hc with⟨To,ps,w',hf,hl,rfl,hd,rfl,rfl,rfl⟩ | ⟨rfl,hd,rfl,rfl,rfl⟩
 ·have XH:∀x∈To++[Bz ps],S7 x:=fun x hx=>by
   rcases aM.mp hx with z | z
   ·exact hf x z
   ·simp at z;exact .inl ⟨ps,z⟩
  have hdn:r.toks.drop (n+bs.length)=S (aw w')::post:=by
   have:=eT hd
   rw[fW] at this
   simpa [wt] using this
  refine Er (wR t (X7.from (Rg.pre (fun i=>(((((n+i:Nat):Int),ys++aN (dq (bs.take i))),(To++[Bz ps])++jv (bs.drop i)):((Qy r).lst q).ds)) bs.length (fun i hi=>by
   have ed:bs.drop i=bs[i]::bs.drop (i+1):=ck hi
   have et:bs.take (i+1)=bs.take i++[bs[i]]:=Hd bs hi
   have Zn:=hz
   rw[<-dF (i+1) bs,kf,et,kf,ac,ac] at Zn
   have hz3:(dq [bs[i]]).length=(cW bs[i].1).length+1:=by simp[dq]
   have ZV:r.toks.drop (n+i)=S [93]::(sm (wt (bs.length-(i+1)))++(S (aw w')::post)):=by
    rw[<-L3,hd,Dj hi,fX,ax]
    have:=List.drop_left' (l₁:=sm (wt i)) (l₂:=sm ([93]::wt (bs.length-(i+1)))++((S (aw w')::post))) (i:=i) (by rw[fW];simp[wt])
    exact this
   have fx:∀x∈((To++[Bz ps])++jv (bs.drop (i+1)))++[Em bs[i]],S7 x:=fun x hx=>by
    rcases aM.mp hx with z | z
    ·rcases aM.mp z with z | z
     ·exact XH x z
     ·exact FU x z
    ·simp at z;exact .inr ⟨_,z⟩
   have ex:(To++[Bz ps])++jv (bs.drop i)=((To++[Bz ps])++jv (bs.drop (i+1)))++[Em bs[i]]:=by rw[ed,Ao];simp
   show QV ((Qy r).lst q) X _ _ true (((((n+i:Nat):Int),ys++aN (dq (bs.take i))),(To++[Bz ps])++jv (bs.drop i))) (((((n+i:Nat):Int),ys++aN (dq (bs.take i))),(To++[Bz ps])++jv (bs.drop i)))/\Rb ((Qy r).lst q) X _ _ _ (((((n+i:Nat):Int),ys++aN (dq (bs.take i))),(To++[Bz ps])++jv (bs.drop i))) (((((n+(i+1):Nat):Int),ys++aN (dq (bs.take (i+1)))),(To++[Bz ps])++jv (bs.drop (i+1))))
   rw[ex]
   refine⟨S8.zl hq (uf t 1 rfl (r:=true) (CW fx) (CI _ _)),Rb.weak (a8 (xK t (R3.zl hq (dU t 1 rfl rfl)) (hW t 2 3)) (a8 (jZ (Qs.z (Qs.eq (bP t (aa t 3 rfl) Qo (eV (rS _))) (by cases bs[i].2<;>decide +kernel))) nj) (a8 (QX.l hq (du (bQ (s1:=(((n+i:Nat):Int),ys++aN (dq (bs.take i)))) t ok c4 (bH (Qp.z (aa t 0 rfl)) (Q2.z (ab (aT (ab Qo aj)) aj))) ⟨n+i,[93],[[93]],_,.inr EC,rfl,ZV,by simp,by decide,rfl,rfl⟩))) (a8 (QX.l hq (kO t ok 0 rfl (Qp.z (aa t 3 rfl)) (sz ?_))) (zq (cb (QX.l hq (oS t ok 0 rfl (Qp.z (aa t 2 rfl)) (lE (sz ?_))))) ?_))))) (.keep (.keep (.forget (.forget .nil))))⟩
   ·show(ys++aN (dq (bs.take i))).length<_
    rw[ac,bG];omega
   ·show(ys++aN (dq (bs.take i))++[D.str _]).length+(aN (cW bs[i].1)).length<_
    rw[ac,ac,bG,bG,bL];omega
   ·refine fF (fF ?_ ?_) rfl
    ·show(((n+i:Nat):Int))+1=((n+(i+1):Nat):Int)
     omega
    ·show ys++aN (dq (bs.take i))++[D.str (S (aw bs[i].2))]++aN (cW bs[i].1)=ys++aN (dq (bs.take (i+1)))
     rw[et,kf,eE]
     simp[dq,aN]) ?_) ?_))
  ·refine⟨0,?_⟩
   show Rg ((Qy r).lst q) X _ _ 0 _ (((((n+bs.length:Nat):Int),ys++aN (dq (bs.take bs.length))),(To++[Bz ps])++jv (bs.drop bs.length))) _ _
   rw[bz,m3,show jv []=[] from rfl,aU]
   refine .ret (S8.zl hq (uf t 1 rfl (r:=true) (CW XH) (by cases To<;>rfl))) (a8 (xK t (R3.zl hq (dU t 1 rfl (xs':=To) rfl)) (hW t 2 3)) (Er (pQ (Qs.z (Qs.eq (bP t (aa t 3 rfl) Qo (by decide +kernel)) (by decide +kernel))) (a8 (Dq hq t 1 rfl (QE.l hq (Lm (bH (Qp.z (aa t 2 rfl)) (bH (bQ (s1:=(((n+bs.length:Nat):Int),ys++aN (dq bs))) t ok c4 (bH (Qp.z (aa t 0 rfl)) (Q2.z (ab (aT (ab Qo (ab Qo aj))) aj))) ⟨n+bs.length,aw w',[aw true,aw false],post,.inr JS,rfl,hdn,by cases w'<;>simp,by decide,rfl,rfl⟩) (Q2.z aj))))) (sz hl)) (zq (cb (QQ.z (bx Ar))) ?_)))))
   show((((n+bs.length:Nat):Int)+1,ys++aN (dq bs)),To++[Em (ps,w')])=_
   rw[gO (n+bs.length) 1];rfl
  ·show((((n:Nat):Int),ys),(To++[Bz ps])++jv bs)=((((n+0:Nat):Int),ys++aN (dq (bs.take 0))),(To++[Bz ps])++jv (bs.drop 0))
   simp[dq,aN]
 ·have XH:∀x∈([]:List D),S7 x:=fun x hx=>nomatch hx
  refine a8 (ρ1:=[.val (.adr r.p),.val (.adr q),.un,.un]) (s1:=((((n+bs.length:Nat):Int),ys++aN (dq bs)),([]:List D))) (wR t (X7.from (Rg.pre (fun i=>(((((n+i:Nat):Int),ys++aN (dq (bs.take i))),([]:List D)++jv (bs.drop i)):((Qy r).lst q).ds)) bs.length (fun i hi=>by
   have ed:bs.drop i=bs[i]::bs.drop (i+1):=ck hi
   have et:bs.take (i+1)=bs.take i++[bs[i]]:=Hd bs hi
   have Zn:=hz
   rw[<-dF (i+1) bs,kf,et,kf,ac,ac] at Zn
   have hz3:(dq [bs[i]]).length=(cW bs[i].1).length+1:=by simp[dq]
   have ZV:r.toks.drop (n+i)=S [93]::(sm (wt (bs.length-(i+1)))++post):=by
    rw[<-L3,hd,Dj hi,fX,ax]
    have:=List.drop_left' (l₁:=sm (wt i)) (l₂:=sm ([93]::wt (bs.length-(i+1)))++(post)) (i:=i) (by rw[fW];simp[wt])
    exact this
   have fx:∀x∈(([]:List D)++jv (bs.drop (i+1)))++[Em bs[i]],S7 x:=fun x hx=>by
    rcases aM.mp hx with z | z
    ·rcases aM.mp z with z | z
     ·exact XH x z
     ·exact FU x z
    ·simp at z;exact .inr ⟨_,z⟩
   have ex:([]:List D)++jv (bs.drop i)=(([]:List D)++jv (bs.drop (i+1)))++[Em bs[i]]:=by rw[ed,Ao];simp
   show QV ((Qy r).lst q) X _ _ true (((((n+i:Nat):Int),ys++aN (dq (bs.take i))),([]:List D)++jv (bs.drop i))) (((((n+i:Nat):Int),ys++aN (dq (bs.take i))),([]:List D)++jv (bs.drop i)))/\Rb ((Qy r).lst q) X _ _ _ (((((n+i:Nat):Int),ys++aN (dq (bs.take i))),([]:List D)++jv (bs.drop i))) (((((n+(i+1):Nat):Int),ys++aN (dq (bs.take (i+1)))),([]:List D)++jv (bs.drop (i+1))))
   rw[ex]
   refine⟨S8.zl hq (uf t 1 rfl (r:=true) (CW fx) (CI _ _)),Rb.weak (a8 (xK t (R3.zl hq (dU t 1 rfl rfl)) (hW t 2 3)) (a8 (jZ (Qs.z (Qs.eq (bP t (aa t 3 rfl) Qo (eV (rS _))) (by cases bs[i].2<;>decide +kernel))) nj) (a8 (QX.l hq (du (bQ (s1:=(((n+i:Nat):Int),ys++aN (dq (bs.take i)))) t ok c4 (bH (Qp.z (aa t 0 rfl)) (Q2.z (ab (aT (ab Qo aj)) aj))) ⟨n+i,[93],[[93]],_,.inr EC,rfl,ZV,by simp,by decide,rfl,rfl⟩))) (a8 (QX.l hq (kO t ok 0 rfl (Qp.z (aa t 3 rfl)) (sz ?_))) (zq (cb (QX.l hq (oS t ok 0 rfl (Qp.z (aa t 2 rfl)) (lE (sz ?_))))) ?_))))) (.keep (.keep (.forget (.forget .nil))))⟩
   ·show(ys++aN (dq (bs.take i))).length<_
    rw[ac,bG];omega
   ·show(ys++aN (dq (bs.take i))++[D.str _]).length+(aN (cW bs[i].1)).length<_
    rw[ac,ac,bG,bG,bL];omega
   ·refine fF (fF ?_ ?_) rfl
    ·show(((n+i:Nat):Int))+1=((n+(i+1):Nat):Int)
     omega
    ·show ys++aN (dq (bs.take i))++[D.str (S (aw bs[i].2))]++aN (cW bs[i].1)=ys++aN (dq (bs.take (i+1)))
     rw[et,kf,eE]
     simp[dq,aN]) ?_) ?_)) (cb (QQ.z (bx Ar)))
  ·refine⟨0,?_⟩
   show Rg ((Qy r).lst q) X _ _ 0 _ (((((n+bs.length:Nat):Int),ys++aN (dq (bs.take bs.length))),([]:List D)++jv (bs.drop bs.length))) _ _
   rw[bz,m3,show jv []=[] from rfl,aU]
   exact .stop (S8.zl hq (uf t 1 rfl (r:=false) (CW XH) rfl))
  ·show((((n:Nat):Int),ys),jv bs)=((((n+0:Nat):Int),ys++aN (dq (bs.take 0))),([]:List D)++jv (bs.drop 0))
   simp[dq,aN]
end
def ph:TK:=[[60],[61],[62],[60,61],[62,61],[33,61]]
abbrev N3:=IT×List Nat×IT
def GQ(R:td)(x:N3):Prop:=m9 R x.1/\x.2.1∈ph/\m9 R x.2.2
def zI(x:N3):TK:=j5 x.1++x.2.1::j5 x.2.2
def w9(x:N3):TK:=qm x.1++(qm x.2.2++[x.2.1])
def KA:TK:=[[94],[42],[43],[45]]
def ig(R:td):=CR (GQ R) zI w9 KA
theorem pe(R:td):∀ts ds s d s',ig R ts ds s d s'->ds.length+1=1:=CR.len
def GK(X:Cx):Prop:=∀{ρ:cp} {p p' pos:Pos},Qp X ρ (.Call (.Name "list" p) [.Name "COMPARISONS" p'] [] pos) (.lst (aN ph))
theorem LH{g:List Nat}(h:g∈ph)(post:List Str):No KA (S g::post):=fun u hu e=>by
 have e':g=u:=dX e
 have z:∀g∈ph,g∉KA:=by decide
 exact z g h (e' ▸ hu)
section
variable {K:PySem.W.Frag}
theorem qb(h:DefX P w K mg base k ia (ai fA) X)(c1:Qu X "read_sum" (kl R))(c4:Qu X "take_one_of" ej)(hL:GK X):
  En X ia fA (ig R):=by
 rintro r ok ds ⟨i,xs⟩ d s' ⟨ho,n,⟨T,g,U⟩,post,rfl,hn,⟨hT,hg,hU⟩,hd,S1,hz,rfl,rfl⟩
 have t:=h.at'
 haveI:=h.Q7
 have SD:i=(n:Int):=hn
 subst SD
 have T4:xs.length+(qm T++(qm U++[g])).length<10000:=hz
 rw[ac,ac,bL] at T4
 have hg:g∈ph:=hg
 have d1:r.toks.drop n=sm (j5 T)++(S g::(sm (j5 U)++post)):=by
  rw[hd];show sm (j5 T++g::j5 U)++post=_;rw[fX,ax];rfl
 have d2:r.toks.drop (n+(j5 T).length)=S g::(sm (j5 U)++post):=by have:=eT d1;rw[fW] at this;exact this
 have d3:=(dh d2).2
 refine .inr ⟨rfl,[.val (.adr r.p),.val (.str (S g))],?_⟩
 show Rb (Qy r) X [.val (.adr r.p),.un] _ _ ((n:Int),xs) (((n+(j5 T++g::j5 U).length:Nat):Int),xs++aN (qm T++(qm U++[g])))
 refine a8 (s1:=(((n+(j5 T).length:Nat):Int),xs++aN (qm T))) (du (bQ t ok c1 (bH (Qp.z (aa t 0 rfl)) (Q2.z aj)) ⟨ho,n,T,_,rfl,rfl,hT,d1,LH hg _,by show xs.length+_<_;omega,rfl,rfl⟩))
  (a8 (s1:=(((n+(j5 T).length+1:Nat):Int),xs++aN (qm T))) (ji t 1 (bQ (s1:=(((n+(j5 T).length:Nat):Int),xs++aN (qm T))) t ok c4 (bH (Qp.z (aa t 0 rfl)) (Q2.z (ab hL aj))) ⟨n+(j5 T).length,g,ph,_,.inl rfl,rfl,d2,hg,by decide,rfl,by rw[gO (n+(j5 T).length) 1];rfl⟩))
  (a8 (s1:=(((n+(j5 T).length+1+(j5 U).length:Nat):Int),xs++aN (qm T)++aN (qm U))) (du (bQ t ok c1 (bH (Qp.z (aa t 0 rfl)) (Q2.z aj)) ⟨ho,n+(j5 T).length+1,U,post,rfl,rfl,hU,d3,S1,?_,rfl,rfl⟩))
  (zq (cb (kO t ok 0 rfl (Qp.z (aa t 1 rfl)) (sz ?_))) ?_)))
 ·show(xs++aN (qm T)).length+_<_
  rw[ac,bG];omega
 ·show(xs++aN (qm T)++aN (qm U)).length<_
  rw[ac,ac,bG,bG];omega
 ·refine fF ?_ ?_
  ·show((n+(j5 T).length+1+(j5 U).length:Nat):Int)=((n+(j5 T++g::j5 U).length:Nat):Int)
   rw[ac,a5];omega
  ·show xs++aN (qm T)++aN (qm U)++[D.str (S g)]=xs++aN (qm T++(qm U++[g]))
   rw[eE,eE];simp[aN]
end
inductive mQ where
 |cmp (x:N3) | two (a:Bool) (p:List mF) (c:mQ) (q:List mF) (e:mQ)
def lK:mQ->TK
 |.cmp x=>zI x
 |.two a p c q e=>[91]::(bY p++(lK c++(aw a::(bY q++(lK e++[[93]])))))
def sg:mQ->TK
 |.cmp x=>w9 x
 |.two a p c q e=>sg c++(cW p++(sg e++(cW q++[aw a])))
def jp(R:td):mQ->Prop
 |.cmp x=>GQ R x
 |.two a p c q e=>p.length<=20/\q.length<=20/\jp R c/\jp R e
def Jf:mQ->Nat
 |.cmp _=>1
 |.two _ _ c _ e=>Jf c+Jf e+4
inductive Fr where
 |a (ps:List mF) (w:Bool) (qs:List mF) (e:mQ) | b (p:List mF×Bool)
def OS:Fr->D
 |.a ps _ _ _=>Bz ps
 |.b p=>Em p
def NK(R:td):Fr->Prop
 |.a _ _ qs e=>qs.length<=20/\jp R e
 |.b _=>True
def uh:List Fr->TK
 |[]=>[]
 |.a ps w qs e::fs=>aw w::(bY qs++(lK e++([93]::uh fs)))
 |.b p::fs=>[93]::uh fs
def uj:List Fr->TK
 |[]=>[]
 |.a ps w qs e::fs=>sg e++(cW qs++(aw w::(cW ps++uj fs)))
 |.b p::fs=>aw p.2::(cW p.1++uj fs)
def Hf:List Fr->Nat
 |[]=>0
 |.a _ _ _ e::fs=>Jf e+2+Hf fs
 |.b _::fs=>1+Hf fs
def S0(fs:List Fr):List D:=(fs.map OS).reverse
theorem Ld(f:Fr):S7 (OS f):=by
 cases f with
 |a ps w qs e=>exact .inl ⟨ps,rfl⟩
 |b p=>exact .inr ⟨p,rfl⟩
theorem JY{fs:List Fr}:∀x∈S0 fs,S7 x:=fun x hx=>by
 unfold S0 at hx
 rw[jg] at hx
 obtain⟨f,_,rfl⟩:=a6.mp hx
 exact Ld f
theorem Cd(fs:List Fr):(S0 fs).length=fs.length:=by simp[S0]
theorem ui:∀fs:List Fr,fs.length<=(uj fs).length
 |[]=>ak _
 |.a ps w qs e::fs=>by have:=ui fs;simp[uj];omega
 |.b p::fs=>by have:=ui fs;simp[uj];omega
theorem Nl:∀fs:List Fr,∃(bs:List (List mF×Bool)) (bS:List Fr),fs=bs.map Fr.b++bS/\(bS=[]\/∃ps w qs e S4,bS=.a ps w qs e::S4)
 |[]=>⟨[],[],rfl,.inl rfl⟩
 |.a ps w qs e::fs=>⟨[],_,rfl,.inr ⟨ps,w,qs,e,fs,rfl⟩⟩
 |.b p::fs=>by
  obtain⟨bs,bS,h1,h2⟩:=Nl fs
  exact⟨p::bs,bS,by rw[h1];rfl,h2⟩
theorem Cr:∀(bs:List (List mF×Bool)) (fs:List Fr),uh (bs.map Fr.b++fs)=wt bs.length++uh fs
 |[],fs=>rfl
 |p::bs,fs=>by show[93]::uh (bs.map Fr.b++fs)=_;rw[Cr bs fs];rfl
theorem Cs:∀(bs:List (List mF×Bool)) (fs:List Fr),uj (bs.map Fr.b++fs)=dq bs++uj fs
 |[],fs=>rfl
 |p::bs,fs=>by show aw p.2::(cW p.1++uj (bs.map Fr.b++fs))=_;rw[Cs bs fs];simp[dq]
theorem Je:∀(bs:List (List mF×Bool)) (fs:List Fr),Hf (bs.map Fr.b++fs)=bs.length+Hf fs
 |[],fs=>by simp
 |p::bs,fs=>by show 1+Hf (bs.map Fr.b++fs)=_;rw[Je bs fs];simp;omega
theorem Jg(bs:List (List mF×Bool))(fs:List Fr):S0 (bs.map Fr.b++fs)=S0 fs++jv bs:=by
 unfold S0 jv
 rw[aX,List.reverse_append,cD];rfl
theorem uO(f:Fr)(fs:List Fr):S0 (f::fs)=S0 fs++[OS f]:=by simp[S0]
def IQ:TK:=[kU,qw true,qw false,[91]]
def NI(R:td):Prop:=∀tk st,R tk st->∃u us,tk=u::us/\u∉IQ
theorem P3:∀n,NI (AR n)
 |0,_,_,h=>h.elim
 |n+1,tk,st,h=>by
  rcases h with⟨u,hu,rfl,rfl⟩ | ⟨T,_,rfl,rfl⟩
  ·refine⟨u,[],rfl,fun hb=>?_⟩
   obtain⟨c,cs,rfl,hc⟩:=Bh hu
   simp only[IQ,aC,jf,Eg] at hb
   rcases hb with e | e | e | e
   all_goals
    simp[kU,qw] at e
    omega
  ·exact⟨[40],_,rfl,by decide⟩
theorem M7(hR:NI R)(h:m9 R T):∃u us,j5 T=u::us/\u∉IQ:=by
 obtain⟨u,us,e,hu⟩:=hR _ _ h.1.1.2.1
 unfold j5 v8 tF xP
 rw[e]
 cases hm:T.1.1.QP with
 |zero=>exact⟨u,_,rfl,hu⟩
 |succ m=>exact⟨[45],_,rfl,by decide⟩
theorem OM(hR:NI R)(h:jp R c):∃u us,lK c=u::us/\u∉Bl:=by
 cases c with
 |cmp x=>
  obtain⟨u,us,e,hu⟩:=M7 hR (show m9 R x.1 from h.1)
  refine⟨u,us++x.2.1::j5 x.2.2,?_,fun z=>hu ?_⟩
  ·show j5 x.1++_=_;rw[e];rfl
  ·simp only[Bl,aC,jf,Eg] at z
   simp only[IQ,aC,jf,Eg]
   rcases z with z | z | z
   ·exact .inl z
   ·exact .inr (.inl z)
   ·exact .inr (.inr (.inl z))
 |two a p c q e=>exact⟨[91],_,rfl,by decide⟩
theorem KH(hR:NI R)(h:jp R c)(ts:TK)(post:List Str):No Bl (sm (lK c++ts)++post):=fun v hv e=>by
 obtain⟨u,us,e1,hu⟩:=OM hR h
 rw[e1] at e
 have:S u=S v:=e
 exact hu ((dX this) ▸ hv)
theorem MY{fs:List Fr}(h:No KA post):No KA (sm (uh fs)++post):=by
 cases fs with
 |nil=>exact h
 |cons f fs=>
  intro v hv e
  cases f with
  |a ps w qs c=>
   have e':S (aw w)=S v:=e
   have:=dX e'
   subst this
   revert hv
   cases w<;>decide
  |b p=>
   have e':S [93]=S v:=e
   have:=dX e'
   subst this
   revert hv
   decide
def Do(R:td)(x:List mF×mQ):Prop:=x.1.length<=20/\jp R x.2
def zd(x:List mF×mQ):TK:=bY x.1++lK x.2
def Ce(x:List mF×mQ):TK:=sg x.2++cW x.1
def mS(R:td):=CR (Do R) zd Ce KA
theorem vj(R:td):∀ts ds s d s',mS R ts ds s d s'->ds.length+1=1:=CR.len
theorem Ml{ρ0:cp}{SS:LS}{s s' a:SS.ds}(h:∃m,Rv SS X cd body m ρ s ρ' s')(e0:ρ0=ρ)(e:s'=a):∃m,Rv SS X cd body m ρ0 s ρ' a:=by subst e0;subst e;exact h
theorem Oa{SS:LS}{s s1 s2 s3:SS.ds}(hc:QV SS X ρ cd true s s1)(hb:Rb SS X ρ body (.nx ρ1) s1 s2)(h:∃m,Rv SS X cd body m ρ1 s2 ρ2 s3):∃m,Rv SS X cd body m ρ s ρ2 s3:=by
 obtain⟨m,h⟩:=h
 exact⟨m+1,.step hc hb h⟩
section
variable {K:PySem.W.Frag}
theorem wx(hR:NI R)(h:DefX P w K mg base k mH (ai jz) X)(c1:Qu X "read_prefixes" jq)(c2:Qu X "next_token" cF)(c3:Qu X "take_token" cV)(c4:Qu X "read_comparison" (ig R))(c5:Sy X "saying_ended" ie):
  En X mH jz (mS R):=by
 rintro r ok ds ⟨i,xs⟩ d s' ⟨ho,n,⟨ps,c⟩,post,rfl,hn,⟨hp,hc⟩,hd,S1,hz,rfl,rfl⟩
 have t:=h.at'
 haveI:=h.Q7
 have SD:i=(n:Int):=hn
 subst SD
 have T4:xs.length+(sg c++cW ps).length<10000:=hz
 have Uv:r.toks.drop n=sm (bY ps++lK c)++post:=hd
 have hp:ps.length<=20:=hp
 have hc:jp R c:=hc
 clear hz hd hn
 refine .inr ⟨rfl,[.val (.adr r.p),.own [],.val (.bl true),.un],?_⟩
 show Rb (Qy r) X [.val (.adr r.p),.un,.un,.un] _ _ ((n:Int),xs) (((n+(bY ps++lK c).length:Nat):Int),xs++aN (sg c++cW ps))
 refine a8 (QQ.z (Co t 1 2 (bI aj) Ar (by decide))) (cb (zo t ?_))
 refine Ml ((show ∀(N:Nat) (c:mQ) (ps:List mF) (fs:List Fr) (n:Nat) (xs:List D),Jf c+Hf fs<=N->jp R c->ps.length<=20->(∀f∈fs,NK R f)->r.toks.drop n=sm (bY ps++(lK c++uh fs))++post->xs.length+(sg c++(cW ps++uj fs)).length<10000 ->
   ∃m,Rv (Qy r) X _ _ m [.val (.adr r.p),.own (S0 fs),.val (.bl false),.un] ((n:Int),xs) [.val (.adr r.p),.own [],.val (.bl true),.un] (((n+(bY ps++(lK c++uh fs)).length:Nat):Int),xs++aN (sg c++(cW ps++uj fs))) from ?_) (Jf c) c ps [] n xs (by simp[Hf]) hc hp (fun f hf=>nomatch hf) (by rw[show uh []=[] from rfl,aU];exact Uv) (by rw[show uj []=[] from rfl,aU];exact T4)) rfl (by rw[show uh []=[] from rfl,show uj []=[] from rfl,aU,aU])
 intro N
 induction N with
 |zero=>
  intro c ps fs n xs hN
  cases c<;>simp[Jf] at hN
 |succ N ih=>
  intro c ps fs n xs hN hc hp Wj hd hz
  have d1:r.toks.drop n=sm (bY ps)++(sm (lK c++uh fs)++post):=by rw[hd,fX,ax]
  have d2:r.toks.drop (n+(bY ps).length)=sm (lK c++uh fs)++post:=by have:=eT d1;rw[fW] at this;exact this
  cases c with
  |two a p Wy q e=>
   obtain⟨q1,q2,q3,q4⟩:=hc
   have d3:r.toks.drop (n+(bY ps).length)=S [91]::(sm (bY p++(lK Wy++uh (.a ps a q e::fs)))++post):=by
    rw[d2];simp[lK,uh,sm]
   have d4:=(dh d3).2
   have es:sg (.two a p Wy q e)++(cW ps++uj fs)=sg Wy++(cW p++uj (.a ps a q e::fs)):=by simp[sg,uj]
   have et:(bY ps++(lK (.two a p Wy q e)++uh fs)).length=(bY ps).length+1+(bY p++(lK Wy++uh (.a ps a q e::fs))).length:=by simp[lK,uh];omega
   rw[es] at hz
   have run:=ih Wy p (.a ps a q e::fs) (n+(bY ps).length+1) xs (by simp[Jf] at hN;simp[Hf];omega) q3 q1 (fun f hf=>by
    rcases aC.mp hf with rfl | z
    ·exact⟨q2,q4⟩
    ·exact Wj f z) d4 hz
   refine Oa (Qs.z (Qs.eq (nU (fB (aa t 2 rfl))) rfl)) (Rb.weak (a8 (s1:=(((n+(bY ps).length:Nat):Int),xs)) (ji t 3 (bQ t ok c1 (bH (Qp.z (aa t 0 rfl)) (Q2.z aj)) ⟨ho,n,ps,_,rfl,rfl,d1,KH hR (c:=.two a p Wy q e) ⟨q1,q2,q3,q4⟩ _ _,hp,rfl,rfl⟩)) (cb (pQ (qY t ok c2 ho rfl (by decide +kernel) (by rw[d3];show decide (S [91]=("[" : Str))=true;decide +kernel)) (a8 (du (pS t ok c3 rfl)) (cb (QQ.z (eI t 1 rfl (aT (ab (aa t 3 rfl) (ab Qo aj))) (sz ?_)))))))) ?_) (Ml run rfl ?_)
   ·rw[Cd];have:=ui (.a ps a q e::fs);simp at this hz;omega
   ·rw[uO]
    exact .keep (.keep (.keep (.forget .nil)))
   ·rw[es,et,tf,tf]
    refine fF ?_ rfl
    show((_:Nat):Int)=((_:Nat):Int)
    congr 1;omega
  |cmp x=>
   have hc:GQ R x:=hc
   have hz0:xs.length+(w9 x++(cW ps++uj fs)).length<10000:=hz
   rw[ac,ac] at hz0
   have Yt:r.toks.drop (n+(bY ps).length)=sm (zI x)++(sm (uh fs)++post):=by rw[d2,fX,ax];rfl
   have d3:r.toks.drop (n+(bY ps).length+(zI x).length)=sm (uh fs)++post:=by have:=eT Yt;rw[fW] at this;exact this
   have hnb:decide (HD (r.toks.drop (n+(bY ps).length))=("[" : Str))=false:=by
    obtain⟨u,us,e,hu⟩:=M7 hR hc.1
    rw[Yt,show zI x=u::(us++x.2.1::j5 x.2.2) by unfold zI;rw[e];rfl,show("[" : Str)=S [91] by decide +kernel,aQ]
    intro z
    have z':S u=S [91]:=z
    exact hu (dX z' ▸ by decide)
   obtain⟨bs,bS,rfl,TN⟩:=Nl fs
   rw[Cs,ac] at hz0
   rw[Cr,fX,ax] at d3
   rcases TN with rfl | ⟨T3,w',qs,e,S4,rfl⟩
   ·have hC:ie r.toks (((n+(bY ps).length+(zI x).length:Nat):Int),xs++aN (w9 x)++aN (cW ps)) (S0 (bs.map Fr.b++[])) (.bl true) (((n+(bY ps).length+(zI x).length+bs.length:Nat):Int),xs++aN (w9 x)++aN (cW ps)++aN (dq bs)) []:=
     ⟨ho,_,bs,post,rfl,by show(xs++aN (w9 x)++aN (cW ps)).length+_<_;rw[ac,ac,bG,bG];omega,.inr ⟨by rw[Jg];rfl,d3,rfl,rfl,rfl⟩⟩
    refine Ml (Oa (ρ:=[.val (.adr r.p),.own (S0 (bs.map Fr.b++[])),.val (.bl false),.un]) (ρ1:=[.val (.adr r.p),.own [],.val (.bl true),.un]) (Qs.z (Qs.eq (nU (fB (aa t 2 rfl))) rfl)) (Rb.weak (a8 (s1:=(((n+(bY ps).length:Nat):Int),xs)) (ji t 3 (bQ t ok c1 (bH (Qp.z (aa t 0 rfl)) (Q2.z aj)) ⟨ho,n,ps,_,rfl,rfl,d1,KH hR (c:=.cmp x) hc _ _,hp,rfl,rfl⟩)) (cb (jZ (qY t ok c2 ho rfl (by decide +kernel) hnb) (a8 (s1:=(((n+(bY ps).length+(zI x).length:Nat):Int),xs++aN (w9 x))) (du (bQ t ok c4 (bH (Qp.z (aa t 0 rfl)) (Q2.z aj)) ⟨ho,n+(bY ps).length,x,_,rfl,rfl,hc,Yt,MY S1,by show xs.length+_<_;omega,rfl,rfl⟩)) (a8 (oS t ok 0 rfl (Qp.z (aa t 3 rfl)) (lE (sz (by show(xs++aN (w9 x)).length+(aN (cW ps)).length<_;rw[ac,bG,bG];omega)))) (cb (wU t ok c5 1 2 (aa t 0 rfl) rfl hC))))))) (.keep (.keep (.keep (.forget .nil))))) ⟨0,.stop (Qs.z (Qs.eq (nU (fB (aa t 2 rfl))) rfl))⟩) rfl ?_
    refine fF ?_ ?_
    ·show((_:Nat):Int)=((_:Nat):Int)
     rw[Cr,ac,ac,ac]
     simp[uh,wt,lK];omega
    ·show xs++aN (w9 x)++aN (cW ps)++aN (dq bs)=xs++aN (w9 x++(cW ps++uj (bs.map Fr.b++[])))
     rw[Cs,eE,eE,eE];simp[uj,aN]
   ·have Wk:NK R (.a T3 w' qs e):=Wj _ (by simp)
    have d3':r.toks.drop (n+(bY ps).length+(zI x).length)=sm (wt bs.length)++(S (aw w')::(sm (bY qs++(lK e++uh (.b (T3,w')::S4)))++post)):=by rw[d3];simp[uh,sm]
    have d4:r.toks.drop (n+(bY ps).length+(zI x).length+bs.length+1)=sm (bY qs++(lK e++uh (.b (T3,w')::S4)))++post:=by
     have:=eT d3'
     rw[fW,show(wt bs.length).length=bs.length by simp[wt]] at this
     exact(dh this).2
    have hC:ie r.toks (((n+(bY ps).length+(zI x).length:Nat):Int),xs++aN (w9 x)++aN (cW ps)) (S0 (bs.map Fr.b ++ .a T3 w' qs e::S4)) (.bl false) (((n+(bY ps).length+(zI x).length+bs.length+1:Nat):Int),xs++aN (w9 x)++aN (cW ps)++aN (dq bs)) (S0 S4++[Em (T3,w')]):=
     ⟨ho,_,bs,_,rfl,by show(xs++aN (w9 x)++aN (cW ps)).length+_<_;rw[ac,ac,bG,bG];omega,.inl ⟨S0 S4,T3,w',JY,by rw[Cd];have:=ui (.a T3 w' qs e::S4);simp at this;omega,by rw[Jg,uO];rfl,d3',rfl,rfl,rfl⟩⟩
    have run:=ih e qs (.b (T3,w')::S4) (n+(bY ps).length+(zI x).length+bs.length+1) (xs++aN (w9 x)++aN (cW ps)++aN (dq bs)) (by rw[Je] at hN;simp[Jf,Hf] at hN ⊢;omega) Wk.2 Wk.1 (fun f hf=>by
     rcases aC.mp hf with rfl | z
     ·trivial
     ·exact Wj f (by simp[z])) d4 (by
     have:(sg e++(cW qs++uj (.b (T3,w')::S4)))=uj (.a T3 w' qs e::S4):=rfl
     rw[this,ac,ac,ac,bG,bG,bG];omega)
    refine Ml (Oa (ρ:=[.val (.adr r.p),.own (S0 (bs.map Fr.b ++ .a T3 w' qs e::S4)),.val (.bl false),.un]) (ρ1:=[.val (.adr r.p),.own (S0 S4++[Em (T3,w')]),.val (.bl false),.un]) (Qs.z (Qs.eq (nU (fB (aa t 2 rfl))) rfl)) (Rb.weak (a8 (s1:=(((n+(bY ps).length:Nat):Int),xs)) (ji t 3 (bQ t ok c1 (bH (Qp.z (aa t 0 rfl)) (Q2.z aj)) ⟨ho,n,ps,_,rfl,rfl,d1,KH hR (c:=.cmp x) hc _ _,hp,rfl,rfl⟩)) (cb (jZ (qY t ok c2 ho rfl (by decide +kernel) hnb) (a8 (s1:=(((n+(bY ps).length+(zI x).length:Nat):Int),xs++aN (w9 x))) (du (bQ t ok c4 (bH (Qp.z (aa t 0 rfl)) (Q2.z aj)) ⟨ho,n+(bY ps).length,x,_,rfl,rfl,hc,Yt,MY S1,by show xs.length+_<_;omega,rfl,rfl⟩)) (a8 (oS t ok 0 rfl (Qp.z (aa t 3 rfl)) (lE (sz (by show(xs++aN (w9 x)).length+(aN (cW ps)).length<_;rw[ac,bG,bG];omega)))) (cb (wU t ok c5 1 2 (aa t 0 rfl) rfl hC))))))) (.keep (.keep (.keep (.forget .nil))))) (Ml run (by rw[uO]<;>rfl) rfl)) rfl ?_
    refine fF ?_ ?_
    ·show((_:Nat):Int)=((_:Nat):Int)
     congr 1
     rw[Cr]
     simp[uh,wt,lK];omega
    ·show xs++aN (w9 x)++aN (cW ps)++aN (dq bs)++aN (sg e++(cW qs++uj (.b (T3,w')::S4)))=xs++aN (w9 x++(cW ps++uj (bs.map Fr.b ++ .a T3 w' qs e::S4)))
     rw[Cs,show uj (.a T3 w' qs e::S4)=sg e++(cW qs++uj (.b (T3,w')::S4)) from rfl]
     simp[aN]
end
def jd(K:PySem.W.Frag):Nat->List D->D->Prop
 |0,_,_=>False
 |1,ds,r=>∃i,ds=[.int i]/\r=.int i
 |_+2,ds,r=>∃(l:Addr) (ns:List Int),ds=[.adr l]/\R6 K l ns/\ns.length<1000/\r=bE ns
theorem pL{K:PySem.W.Frag}:∀n ds d,jd K n ds d->ds.length=1
 |0,_,_,h=>h.elim
 |1,_,_,⟨_,h,_⟩=>by rw[h];rfl
 |_+2,_,_,⟨_,_,h,_⟩=>by rw[h];rfl
section
variable {K:PySem.W.Frag}
theorem yV(h:DefX P w K mg base k jc (ai gJ) X)(Qw:mg "isinstance"=none)(QB:mg "tuple"=none):
  Go X jc gJ (jd K 1):=by
 rintro ds d ⟨i,rfl,rfl⟩
 have t:=h.at'
 haveI:=h.Q7
 have b1:=h.bt Qw
 have b2:=h.bt QB
 show Qr X [.val (.int i)] _ _
 exact aF (bx (mD (fB (p0 (d:=.int i) t b1 b2 (aa t 0 rfl) rfl)) (aa t 0 rfl)))
theorem yU(h:DefX P w K mg base k jc (ai gJ) X)(Qw:mg "isinstance"=none)(QB:mg "tuple"=none)(c1:EV.Callee X "told_anew" (jd K 1)):
  Go X jc gJ (jd K 2):=by
 rintro ds d ⟨l,ns,rfl,g,hl,rfl⟩
 have t:=h.at'
 haveI:=h.Q7
 have b1:=h.bt Qw
 have b2:=h.bt QB
 have g':R6 X.K l ns:=by rw[h.k'];exact g
 show Qr X [.val (.adr l)] _ _
 refine aF (bx (mC (fB (Iu t g' b1 b2 (aa t 0 rfl) rfl)) (Qp.eq (ka t b2 (QJ.toQ (kS t ["thing", "part"] (IL (by decide +kernel)) (Ng (aa t 0 rfl) g') (by rw[af,jQ];omega) fun X' cx=>QY.all (fun d=>[.val (.adr l),.val d]) (fun d=>d) (ns.map D.int) _ (fun d hd=>cm cx.at' 1) (fun d hd e he=>cm cx.at' 1) fun d hd=>a4 cx.at' (cx.callee c1) (ab (aa cx.at' 1 rfl) aj) ?_))) (by rw[List.map_id']))))
 obtain⟨i,_,rfl⟩:=a6.mp hd
 exact⟨i,rfl,rfl⟩
end
def KP:List (List Nat×Addr)->List Nat->Option Addr
 |[],_=>none
 |(a,l)::ts,u=>if a=u then some l else KP ts u
def rh(ls:List (List Nat×Addr)):List (Str×Addr):=ls.map fun p=>(S p.1,p.2)
theorem Ev:∀(ls:List (List Nat×Addr)) (u:List Nat),valueAt (sJ (rh ls)) (Sum.inr (S u))=(KP ls u).map Value.ref
 |[],u=>rfl
 |(a,l)::ls,u=>by
  have ih:=Ev ls u
  show((((Sum.inr (S a):rX),Value.ref l)::sJ (rh ls)).find? fun kv=>kv.1=(Sum.inr (S u):rX)).map (·.2)=(if a=u then some l else KP ls u).map Value.ref
  by_cases e:a=u
  ·subst e;rw[ay rfl,List.find?_cons_of_pos (by simp)];rfl
  ·have ne:¬(Sum.inr (S a):rX)=Sum.inr (S u):=fun z=>e (dX (Qd z))
   rw[aq e,List.find?_cons_of_neg (by simpa using ne)]
   exact ih
def Rn:List (List Nat×List Int):=[([60],[-1]),([61],[0]),([62],[1]),([60,61],[-1,0]),([62,61],[0,1]),([33,61],[-1,1])]
structure NJ(P:Program)(w:World)(K:PySem.W.Frag)(q:Addr)(ls:List (List Nat×Addr))(ep:Nat):Prop where
 QM:y7 P w K q (rh ls) ep
 keys:ls.map (·.1)=ph
 at':∀p∈Rn,∃l,KP ls p.1=some l/\R6 K l p.2
theorem Ah:∀(ls:List (List Nat×Addr)) (u:List Nat),u∉ls.map (·.1)->KP ls u=none
 |[],_,_=>rfl
 |(a,l)::ls,u,h=>by
  show(if a=u then some l else KP ls u)=none
  rw[aq (fun e=>h (by simp[e])),Ah ls u (fun z=>h (by simp at z ⊢;exact .inr z))]
def OI(b:Bd)(ns:List Int):D:=.tup [.str "is",aA b,bE ns]
def Pt(a:Bool)(x y:D):D:=.tup [.str (S (aw a)),x,y]
def Py(x:D):D:=.tup [.str "not",x]
def Pw(a l:Bool)(x:D):D:=.tup [.str (S (qw a)),.str (S (lw l)),x]
inductive RG:List Nat->List D->List D->Prop where
 |term {u:List Nat} {pre:List D} {st RM:List Bd}:Rh u st RM->RG u (pre++st.map aA) (pre++RM.map aA)
 |cmp {p:List Nat×List Int} {pre:List D} {a b:Bd}:p∈Rn->Sb 1000 a->Sb 1000 b->RG p.1 (pre++[aA a]++[aA b]) (pre++[OI (kQ a (qZ b)) p.2])
 |two {pre:List D} {x y:D} {a:Bool}:RG (aw a) (pre++[x]++[y]) (pre++[Pt a x y])
 |neg {pre:List D} {x:D}:RG kU (pre++[x]) (pre++[Py x])
 |qu {pre:List D} {x:D} {a l:Bool}:RG (ze (.qu a l)) (pre++[x]) (pre++[Pw a l x])
def tE(d0:D)(xs xs':List D):Prop:=∃u,d0=.str (S u)/\RG u xs xs'/\xs.length<10000
theorem Rh.hd{st RM:List Bd}(h:Rh u st RM):(∃c cs,u=c::cs/\c≠115/\c≠97/\c≠110/\c≠111/\c≠60/\c≠61/\c≠62/\c≠33)/\∀c∈u,c<128:=by
 cases h with
 |atom hu=>
  obtain⟨c,cs,rfl,hc⟩:=Bh hu
  exact⟨⟨c,cs,rfl,by omega⟩,hu.lt⟩
 |add _ _=>exact⟨⟨_,_,rfl,by decide⟩,by decide⟩
 |sub _ _=>exact⟨⟨_,_,rfl,by decide⟩,by decide⟩
 |mul _ _ _=>exact⟨⟨_,_,rfl,by decide⟩,by decide⟩
 |neg _=>exact⟨⟨_,_,rfl,by decide⟩,by decide⟩
 |pow _ hd=>exact⟨⟨_,_,rfl,by decide⟩,fun c hc=>by simp at hc;omega⟩
theorem Ji{c d:Nat}{ds:List Nat}(h:c≠d):Txt.startswith (S (c::cs)) (S (d::ds))=false:=by
 have:Builtin.Str.subAt (S (c::cs)) (S (d::ds)) 0=false:=by
  rw[StrLaws.subAt_eq,bn,jb,jb,zb]
  show(c::cs.take ds.length==d::ds)=false
  rw[bj]
  intro e
  exact h (A1 e).1
 unfold Txt.startswith
 rw[this,L4]
theorem N6:("some " : Str)=S [115,111,109,101,32]:=by decide +kernel
theorem N9:("all " : Str)=S [97,108,108,32]:=by decide +kernel
theorem N7:("and" : Str)=S (aw true):=by decide +kernel
theorem PQ:("or" : Str)=S (aw false):=by decide +kernel
theorem xF(u:List Nat):((QA [D.str "and",.str "or"]).any fun y=>PyData.eqv y (fg (.str (S u))))=(decide (u=aw true)||decide (u=aw false)):=by
 refine(LK "and" "or" (S u)).trans ?_
 rw[N7,PQ,cj.mpr (show S u=S (aw true) ↔ u=aw true from⟨dX,fun e=>by rw[e]⟩),cj.mpr (show S u=S (aw false) ↔ u=aw false from⟨dX,fun e=>by rw[e]⟩)]
theorem LG(a l:Bool):GO (S (ze (.qu a l))) " " := by cases a<;>cases l<;>exact⟨by decide +kernel,by decide +kernel,by decide +kernel,by decide +kernel,by decide +kernel⟩
theorem IJ(a l:Bool):(sQ (S (ze (.qu a l))) " ").map D.str=[.str (S (qw a)),.str (S (lw l))]:=by
 have:sQ (S (ze (.qu a l))) " " = [S (qw a),S (lw l)]:=by cases a<;>cases l<;>decide +kernel
 rw[this];rfl
section
variable {K:PySem.W.Frag}
theorem yS{ls:List (List Nat×Addr)}(h:DefX P w K mg base k RU (ai kC) X)(c1:EV.Callee X "board_minus" iZ)(c2:EV.Callee X "told_anew" (jd K 2))(c3:RA X "take_term_step" l5)(gq:mg "COMPARISONS"=some (.ref q'))(g:NJ P w K q' ls ep):
  ∀q d0 xs xs',tE d0 xs xs'->∃ρ',xI X q (.val d0 :: .val (.adr q)::List.replicate (RU.length-2) Sl.un) (bw kC) (.nx ρ') xs xs':=by
 rintro q d0 xs xs' ⟨u,rfl,hs,hz⟩
 have t:=h.at'
 haveI:=h.Q7
 have VV:X.mg "COMPARISONS"=some (.ref q'):=by rw[h.Sm];exact gq
 have g':y7 X.prog X.w X.K q' (rh ls) ep:=by
  obtain⟨_,e1,e2,e3,_⟩:=h
  rw[e1,e2,e3];exact g.QM
 have no:∀v,v∉ph->(valueAt (sJ (rh ls)) (Sum.inr (S v))).isSome=false:=fun v hv=>by
  rw[Ev,Ah ls v (by rw[g.keys];exact hv)];rfl
 have cw:PyData.canLayAll0 (QA [D.str "and",.str "or"])=true:=by decide +kernel
 show ∃ρ',xI X q [.val (.str (S u)),.val (.adr q),.un,.un,.un,.un] _ (.nx ρ') _ _
 cases hs with
 |@term _ pre st RM hs=>
  obtain⟨⟨c,cs,rfl,h1,h2,h3,h4,h5,h6,h7,h8⟩,QW⟩:=hs.hd
  have ok:=eV QW
  refine⟨_,cu (fT (Qs.l (vG t g' (aa t 0 rfl) VV (no _ ?_))) (cu (fT (Qs.l (iz (r:=false) t (aa t 0 rfl) (aT (ab Qo (ab Qo aj))) (dw ok) (cZ _) cw ?_)) (cu (fT (Qs.l (Qs.eq (bP t (aa t 0 rfl) Qo ok) (wb JK ?_))) (cu (fT (Qs.l (kc (u:=false) (v:=false) (fB (o6 (aa t 0 rfl) Qo ?_)) (fun _=>fB (o6 (aa t 0 rfl) Qo ?_)))) (cu (FD t c3 1 rfl (aa t 0 rfl) ⟨_,pre,st,RM,rfl,hs,?_,rfl,rfl⟩)))))))))⟩
  ·simp[ph];omega
  ·rw[xF];simp[aw];omega
  ·intro e;cases e;exact h3 rfl
  ·rw[N6];exact Ji h1
  ·rw[N9];exact Ji h2
  ·simpa using hz
 |@cmp p pre a b hp ha hb=>
  obtain⟨l,hl,gl⟩:=g.at' p hp
  have e1:valueAt (sJ (rh ls)) (Sum.inr (S p.1))=some (.ref l):=by rw[Ev,hl];rfl
  have hn:p.2.length<1000:=(show ∀p∈Rn,p.2.length<1000 by decide) p hp
  refine⟨_,cu (kR (Qs.l (vG t g' (aa t 0 rfl) VV (by rw[e1];rfl))) (e9 (iw t 2 (dU t 1 rfl (xs':=pre++[aA a]) rfl)) (e9 (iw t 3 (dU t 1 rfl (xs':=pre) rfl)) (cu (fu t 1 rfl (Qp.em (aT (ab Qo (ab (a4 t c1 (ab (aa t 3 rfl) (ab (aa t 2 rfl) aj)) ⟨a,b,rfl,ha,hb,rfl⟩) (ab (a4 t c2 (ab (Ls t g' (aa t 0 rfl) VV e1) aj) ⟨l,p.2,rfl,gl,hn,rfl⟩) aj))))) (sz (by simp at hz;omega)))))))⟩
 |@two pre x y a=>
  refine⟨_,cu (fT (Qs.l (vG t g' (aa t 0 rfl) VV (no _ (by cases a<;>decide)))) (cu (kR (Qs.l (iz (r:=true) t (aa t 0 rfl) (aT (ab Qo (ab Qo aj))) (dw (eV (rS a))) (cZ _) cw (by rw[xF];cases a<;>decide))) (e9 (iw t 2 (dU t 1 rfl (xs':=pre++[x]) rfl)) (e9 (iw t 3 (dU t 1 rfl (xs':=pre) rfl)) (cu (fu t 1 rfl (Qp.em (aT (ab (aa t 0 rfl) (ab (aa t 3 rfl) (ab (aa t 2 rfl) aj))))) (sz (by simp at hz;omega)))))))))⟩
 |@neg pre x=>
  refine⟨_,cu (fT (Qs.l (vG t g' (aa t 0 rfl) VV (no _ (by decide)))) (cu (fT (Qs.l (iz (r:=false) t (aa t 0 rfl) (aT (ab Qo (ab Qo aj))) (dw (by decide +kernel)) (cZ _) cw (by rw[xF];decide))) (cu (kR (Qs.l (Qs.eq (bP t (aa t 0 rfl) Qo (by decide +kernel)) (by decide +kernel))) (cu (fu t 1 rfl (vI (eG (Qp.em Qo) (eG (dU t 1 rfl (xs':=pre) rfl) (Q2.am aj)))) (sz (by simp at hz;omega)))))))))⟩
 |@qu pre x a l=>
  refine⟨_,cu (fT (Qs.l (vG t g' (aa t 0 rfl) VV (no _ (by cases a<;>cases l<;>decide)))) (cu (fT (Qs.l (iz (r:=false) t (aa t 0 rfl) (aT (ab Qo (ab Qo aj))) (dw (eV (Bb _))) (cZ _) cw (by rw[xF];cases a<;>cases l<;>decide))) (cu (fT (Qs.l (Qs.eq (bP t (aa t 0 rfl) Qo (eV (Bb _))) (by cases a<;>cases l<;>decide +kernel))) (cu (kR (Qs.l (Qs.eq (kc (fB (o6 (aa t 0 rfl) Qo rfl)) (fun _=>fB (o6 (aa t 0 rfl) Qo rfl))) (by cases a<;>cases l<;>decide +kernel))) (e9 (QQ.m (Cp t (Qp.eq (QJ.Rc (Gi (aa t 0 rfl) Qo (LG a l))) (by rw[IJ])) (Ly t (nW (dN t 4) (nW (dN t 5) C9))))) (cu (fu t 1 rfl (vI (eG (Qp.em (aa t 4 rfl)) (eG (Qp.em (aa t 5 rfl)) (eG (dU t 1 rfl (xs':=pre) rfl) (Q2.am aj))))) (sz (by simp at hz;omega))))))))))))⟩
end
section
variable {ls:List (List Nat×Addr)}
theorem FE(t:At X N sc)(bl:pi X sc "list" (.type "list"))(gq:X.mg "COMPARISONS"=some (.ref q))(g:y7 X.prog X.w X.K q (rh ls) ep)(hk:ls.map (·.1)=ph)(hg:sc.names.lookup ("COMPARISONS" : Str)=some .globalImplicit):GK X:=fun {ρ p p' pos}=>by
 have h:=QJ.Rc (Gm (ρ:=ρ) (p:=p) (py:=p') (pos:=pos) t g bl gq (by
  have:(rh ls).length=(ls.map (·.1)).length:=by simp[rh]
  rw[this,hk];decide) hg rfl)
 refine Qp.eq h ?_
 have:(rh ls).map (fun p=>D.str p.1)=aN (ls.map (·.1)):=by simp[rh,aN]
 rw[this,hk]
end
inductive Ri:TK->List D->List D->Prop where
 |nil {a:List D}:Ri [] a a
 |cons {u:List Nat} {us:TK} {a b c:List D}:RG u a b->Ri us b c->Ri (u::us) a c
theorem Ri.app(h:Ri us a b)(g:Ri vs b c):Ri (us++vs) a c:=by
 induction h with
 |nil=>exact g
 |cons s _ ih=>exact .cons s (ih g)
theorem Ri.term{a b:List Bd}(pre:List D)(h:Runs us a b):Ri us (pre++a.map aA) (pre++b.map aA):=by
 induction h with
 |nil=>exact .nil
 |cons s _ ih=>exact .cons (.term s) ih
theorem RG.len(h:RG u a b):b.length<=a.length+1:=by
 cases h with
 |term s=>have:=s.len;simp;omega
 |_=>simp<;>omega
theorem Ri.ix(h:Ri us a c):∃f:Nat->List D,f 0=a/\f us.length=c/\∀i (hi:i<us.length),RG us[i] (f i) (f (i+1))/\(f i).length<=a.length+i:=by
 induction h with
 |@nil a=>exact⟨fun _=>a,rfl,rfl,fun i hi=>nomatch hi⟩
 |@cons u us a b c s r ih=>
  obtain⟨f,f0,f1,f2⟩:=ih
  refine⟨fun i=>match i with | 0=>a | j+1=>f j,rfl,f1,fun i hi=>?_⟩
  cases i with
  |zero=>exact⟨by show RG u a (f 0);rw[f0];exact s,by simp⟩
  |succ j=>
   have:=f2 j (by simpa using hi)
   exact⟨this.1,by have l:=s.len;have:=this.2;show(f j).length<=_;omega⟩
def iX(R:td)(ds:List D)(d:D):Prop:=∃(cs:List Nat) (Y:List mF×mQ),ds=[.str (S cs)]/\Lex cs (zd Y)/\(∀c∈cs,c<128)/\cs.length<=2000/\(∀u∈zd Y,∀x∈u,x<128)/\B4 (zd Y)/\Do R Y/\(Ce Y).length<10000/\Ri (Ce Y) [] [d]
theorem tP(R:td):∀ds d,iX R ds d->ds.length=1:=by rintro _ _ ⟨a,b,rfl,_⟩;rfl
section
variable {K:PySem.W.Frag}
theorem wH(h:DefX P w K mg base k lh (ai iN) X)(c1:Sx X "reader_of" oy)(c2:Qu X "read_steps" (mS R))(c3:Qu X "refuse_more" lr)(c4:RA X "take_step" tE)(gM:∃tk,mg "MOST_SIGNS"=some (.int 2000 tk)):
  Go X lh iN (iX R):=by
 rintro ds dr ⟨cs,Y,rfl,hl,ha,hz,ht,hd,hT,hs,hr⟩
 have t:=h.at'
 haveI:=h.Q7
 have Wr:∃tk,X.mg "MOST_SIGNS"=some (.int 2000 tk):=by rw[h.Sm];exact gM
 obtain⟨f,f0,f1,f2⟩:=hr.ix
 show Qr X [.val (.str (S cs)),.un,.un,.un] _ _
 refine IF (toks:=sm (zd Y)) t 1 c1 (ab (aa t 0 rfl) (ab (rG t Wr) aj)) ⟨cs,zd Y,2000,rfl,hl,ha,hz,by decide,ht,hd,rfl⟩ fun r ok et=>⟨(((zd Y).length:Nat),aN (Ce Y)),?_⟩
 have ho:∀x∈r.toks,PyData.strOk x=true:=by
  rw[et]
  intro x hx
  obtain⟨u,hu,rfl⟩:=a6.mp hx
  exact eV (ht u hu)
 show Rb (Qy r) X [.val (.str (S cs)),.val (.adr r.p),.un,.un] _ _ ((0:Int),([]:List D)) (((zd Y).length:Nat),aN (Ce Y))
 refine a8 (s1:=((((zd Y).length:Nat):Int),aN (Ce Y))) (du (bQ (s1:=((0:Int),([]:List D))) t ok c2 (bH (Qp.z (aa t 1 rfl)) (Q2.z aj)) ⟨ho,0,Y,[],rfl,rfl,hT,by rw[et];simp,fun u hu=>?_,by show 0+_<_;omega,rfl,?_⟩)) ?_
 ·have Wb:u=[94]\/u=[42]\/u=[43]\/u=[45]:=by simpa [KA] using hu
  show(("" : Str))≠S u
  rcases Wb with rfl | rfl | rfl | rfl<;>decide +kernel
 ·simp
 refine a8 (s1:=((((zd Y).length:Nat):Int),aN (Ce Y))) (du (bQ (s1:=((((zd Y).length:Nat):Int),aN (Ce Y))) t ok c3 (bH (Qp.z (aa t 1 rfl)) (Q2.z aj)) ⟨(zd Y).length,rfl,rfl,by rw[et,fW];exact ak _,rfl,rfl⟩)) ?_
 refine a8 (QQ.z (iu t 2 (bI aj))) (a8 (ρ1:=[.val (.str (S cs)),.val (.adr r.p),.own [dr],.un]) (Ep t ok 1 rfl (QI.QZ (fun i=>[.val (.str (S cs)),.val (.adr r.p),.own (f i),.un]) (fun j d e=>?_) (by rw[f0];rfl) ?_)) (cb (uG (Qp.z (bW (eL t 2 rfl) ag rfl)))))
 ·have e':(aN (Ce Y))[j]?=some d:=e
  unfold aN at e'
  rw[aI] at e'
  cases e2:(Ce Y)[j]? with
  |none=>rw[e2] at e';cases e'
  |some u=>
   rw[e2] at e'
   cases e'
   obtain⟨hj,eu⟩:=az.mp e2
   have f3:=f2 j hj
   rw[eu] at f3
   refine⟨_,dN t 3,Qr.weak (aF (ER t c4 2 rfl (aa t 3 rfl) ⟨u,rfl,f3.1,by have:=f3.2;simp at this;omega⟩)) (.keep (.keep (.keep (.forget .nil))))⟩
 ·show _=_
  have:(((((zd Y).length:Nat):Int),aN (Ce Y)):Int×List D).2.length=(Ce Y).length:=bG _
  rw[this,f1]
end
def cE(c n:Nat):List (List Nat):=if n=0 then [] else if n=1 then [[c]] else [[c,94,48+n]]
def gE(n:Nat):List Nat:=(Nat.toDigits 10 n).map Char.toNat
def gB(n i k:Nat):List (List Nat):=(if n≠1\/(i=0/\k=0) then [gE n] else [])++(cE 120 i++cE 121 k)
def vz:List (List Nat)->List Nat
 |[]=>[]
 |u::us=>u++us.flatMap fun v=>42::v
theorem gZ(c n:Nat):(cE c n).length<=1:=by unfold cE;split <;> (try split)<;>simp
theorem Fw(n:Nat):(toString ((n:Nat):Int):Str)=S (gE n):=by
 rw[O4 (toString ((n:Nat):Int):Str)]
 congr 1
 exact PySem.W.KIN.signs_num n
theorem sL:∀us:List (List Nat),Txt.join ("*" : Str) (us.map S)=S (vz us)
 |[]=>rfl
 |u::us=>by
  show Builtin.Str.glued ("*" : Str) (S u::us.map S)=_
  have:∀(us:List (List Nat)) (acc:List Nat),((us.map S).foldl (fun a p=>a++(("*" : Str)).cps++p.cps) acc.toArray)=(acc++us.flatMap fun v=>42::v).toArray:=by
   intro us
   induction us with
   |nil=>intro acc;simp
   |cons v us ih=>
    intro acc
    rw[aS,oJ,show(("*" : Str)).cps=[42].toArray by rw[zt];rfl,show acc.toArray++[42].toArray++(S v).cps=(acc++42::v).toArray by show acc.toArray++[42].toArray++v.toArray=_;simp,show[42].toArray=(("*" : Str)).cps by rw[zt];rfl,ih]
    simp
  show(⟨((us.map S).foldl (fun a p=>a++(("*" : Str)).cps++p.cps) (S u).cps)⟩:Str)=_
  rw[show(S u).cps=u.toArray from rfl,this]
  rfl
theorem JA:∀n:Nat,2<=n->n<=8->((("x" : Str)++("^" : Str)++(toString (n:Int):Str)))=S [120,94,48+n]:=fun n h1 h2=>by
 have:∀n:Nat,n<9->2<=n->((("x" : Str)++("^" : Str)++(toString (n:Int):Str)))=S [120,94,48+n]:=by decide +kernel
 exact this n (by omega) h1
theorem Jz:∀n:Nat,2<=n->n<=8->((("y" : Str)++("^" : Str)++(toString (n:Int):Str)))=S [121,94,48+n]:=fun n h1 h2=>by
 have:∀n:Nat,n<9->2<=n->((("y" : Str)++("^" : Str)++(toString (n:Int):Str)))=S [121,94,48+n]:=by decide +kernel
 exact this n (by omega) h1
theorem KN{n:Nat}(h:n<=8):((n:Nat):Int).natAbs.log2<1920:=by
 have:∀n:Nat,n<9->((n:Nat):Int).natAbs.log2<1920:=by decide
 exact this n (by omega)
def js(ds:List D)(d:D):Prop:=∃i k:Nat,ds=[.int i,.int k]/\i<=8/\k<=8/\d=.lst (aN (cE 120 i++cE 121 k))
theorem rf:∀ds d,js ds d->ds.length=2:=by rintro _ _ ⟨a,b,rfl,_⟩;rfl
section
variable {K:PySem.W.Frag}
theorem t4(h:DefX P w K mg base k jo (ai gw) X):
  Go X jo gw js:=by
 rintro ds r ⟨i,k,rfl,hi,hk,rfl⟩
 have t:=h.at'
 haveI:=h.Q7
 show Qr X [.val (.int i),.val (.int k),.un,.un,.un] _ _
 have R:Nat->cp:=fun j=>[.val (.int i),.val (.int k),.own (aN (if j=0 then [] else if j=1 then cE 120 i else cE 120 i++cE 121 k)),.un,.un]
 refine aG (iu t 2 (bI aj)) (aG (gK t (yC (ds:=[.tup [.str "x",.int i],.tup [.str "y",.int k]]) (aT (ab (aT (ab Qo (ab (aa t 0 rfl) aj))) (ab (aT (ab Qo (ab (aa t 1 rfl) aj))) aj)))) (QI.QZ (ρ':=[.val (.int i),.val (.int k),.own (aN (cE 120 i++cE 121 k)),.un,.un]) (fun j=>[.val (.int i),.val (.int k),.own (aN (if j=0 then [] else if j=1 then cE 120 i else cE 120 i++cE 121 k)),.un,.un]) (fun j d e=>?_) rfl rfl)) (fv 2 rfl (aF (bx (aa t 2 rfl)))))
 rcases j with _ | _ | j
 ·have e':d=.tup [.str "x",.int i]:=by cases e;rfl
  subst e'
  refine⟨_,hW t 3 4,Qr.weak (ρ1:=[.val (.int i),.val (.int k),.own (aN (cE 120 i)),.val (.str "x"),.val (.int i)]) (aF ?_) (.keep (.keep (.keep (.forget (.forget .nil)))))⟩
  by_cases h1:i=1
  ·subst h1
   exact c7 (Qs.eq (dC (aa t 4 rfl) ag) rfl) (aF (QQ.eq (eI t 2 rfl (aa t 3 rfl) (show(0:Nat)<sizeLine by decide)) (by show Out.nx [_,_,.own ([]++[D.str "x"]),_,_]=_;rw[show("x" : Str)=S [120] by decide +kernel];rfl)))
  ·refine b0 (Qs.eq (dC (aa t 4 rfl) ag) (by rw[aQ];omega)) (aF ?_)
   by_cases h0:i=0
   ·subst h0
    exact b0 (Qs.eq (hV (aa t 4 rfl) ag) rfl) bF
   ·exact c7 (Qs.eq (hV (aa t 4 rfl) ag) (by rw[bh];omega)) (aF (QQ.eq (eI t 2 rfl (Qp.eq (C5 (aa t 3 rfl) (aa t 4 rfl) (KN hi) (by decide)) (by rw[JA i (by omega) hi])) (show(0:Nat)<sizeLine by decide)) (by unfold cE;rw[aq h0,aq h1];rfl)))
 ·have e':d=.tup [.str "y",.int k]:=by cases e;rfl
  subst e'
  have hl:(aN (cE 120 i)).length<sizeLine:=by rw[bG];exact dL (gZ _ _) (by decide)
  refine⟨_,hW t 3 4,Qr.weak (ρ1:=[.val (.int i),.val (.int k),.own (aN (cE 120 i++cE 121 k)),.val (.str "y"),.val (.int k)]) (aF ?_) (.keep (.keep (.keep (.forget (.forget .nil)))))⟩
  by_cases h1:k=1
  ·subst h1
   exact c7 (Qs.eq (dC (aa t 4 rfl) ag) rfl) (aF (QQ.eq (eI t 2 rfl (aa t 3 rfl) hl) (by rw[eE,show("y" : Str)=S [121] by decide +kernel];rfl)))
  ·refine b0 (Qs.eq (dC (aa t 4 rfl) ag) (by rw[aQ];omega)) (aF ?_)
   by_cases h0:k=0
   ·subst h0
    exact QQ.eq (b0 (Qs.eq (hV (aa t 4 rfl) ag) rfl) bF) (by rw[show cE 121 0=[] from rfl,aU];rfl)
   ·exact c7 (Qs.eq (hV (aa t 4 rfl) ag) (by rw[bh];omega)) (aF (QQ.eq (eI t 2 rfl (Qp.eq (C5 (aa t 3 rfl) (aa t 4 rfl) (KN hk) (by decide)) (by rw[Jz k (by omega) hk])) hl) (by rw[eE,show cE 121 k=[[121,94,48+k]] by unfold cE;rw[aq h0,aq h1]];rfl)))
 ·cases e
end
theorem vg(us:List (List Nat)):(us.map S).map D.str=aN us:=by unfold aN;rw[cD];rfl
theorem SY{us:List (List Nat)}:((fg (.lst (aN us))).eqv (fg (.lst [])))=us.isEmpty:=by
 cases us<;>rfl
theorem vf{n:Nat}(h:n<10 ^ 12):(gE n).length<=12:=by
 unfold gE
 rw[af]
 exact(Nat.length_toDigits_le_iff (by decide) (by decide)).mpr h
theorem Le{w:Str}(h:PyData.strOk w=true):Fn 1 (.str w):=⟨dw h,by simp[fg,PyData.depth],by simp[fg,PyData.eqv]⟩
theorem yt{us:List (List Nat)}(h:∀u∈us,∀x∈u,x<128):Fn 2 (.lst (aN us)):=Fn.lst fun x hx=>by
 obtain⟨u,hu,rfl⟩:=a6.mp hx
 exact Le (eV (h u hu))
theorem oW{c n:Nat}(hc:c<128)(hn:n<=8):∀u∈cE c n,∀x∈u,x<128:=by
 unfold cE
 split
 ·intro u hu;cases hu
 ·split
  ·intro u hu x hx;simp at hu;subst hu;simp at hx;omega
  ·intro u hu x hx;simp at hu;subst hu;simp at hx;omega
theorem q8:(cE c n).isEmpty=decide (n=0):=by
 unfold cE
 split
 ·rename_i h;simp[h]
 ·rename_i h;split<;>simp[h]
theorem yj{c n:Nat}:∀u∈cE c n,u.length<=3:=by
 unfold cE
 split
 ·intro u hu;cases hu
 ·split <;> (intro u hu;simp at hu;subst hu;simp)
theorem FV{n:Nat}:∀c∈gE n,48<=c/\c<=57:=fun c hc=>by
 unfold gE at hc
 obtain⟨d,hd,rfl⟩:=a6.mp hc
 have:=Nat.isDigit_of_mem_toDigits (by decide) (by decide) hd
 simp only[Char.isDigit,dM,bh] at this
 exact⟨this.1,this.2⟩
theorem JL{n i k:Nat}(hi:i<=8)(hk:k<=8):∀u∈gB n i k,∀x∈u,x<128:=fun u hu x hx=>by
 unfold gB at hu
 rcases aM.mp hu with hu | hu
 ·split at hu
  ·simp at hu;subst hu;have:=FV x hx;omega
  ·cases hu
 ·rcases aM.mp hu with hu | hu
  ·exact oW (by decide) hi u hu x hx
  ·exact oW (by decide) hk u hu x hx
theorem B6{n i k:Nat}(hn:n<10 ^ 12):(gB n i k).length<=3/\∀u∈gB n i k,u.length<=12:=by
 have h1:=gZ 120 i
 have h2:=gZ 121 k
 refine⟨?_,fun u hu=>?_⟩
 ·unfold gB
  rw[ac,ac]
  split<;>simp<;>omega
 ·unfold gB at hu
  rcases aM.mp hu with hu | hu
  ·split at hu
   ·simp at hu;subst hu;exact vf hn
   ·cases hu
  ·rcases aM.mp hu with hu | hu
   ·have:=yj u hu;omega
   ·have:=yj u hu;omega
def jr(ds:List D)(d:D):Prop:=∃n i k:Nat,ds=[.int n,.int i,.int k]/\n<10 ^ 12/\i<=8/\k<=8/\d=.str (S (vz (gB n i k)))
theorem re:∀ds d,jr ds d->ds.length=3:=by rintro _ _ ⟨a,b,c,rfl,_⟩;rfl
theorem Jv{n:Nat}(h:n<10 ^ 12):((n:Nat):Int).natAbs.log2<1920:=by
 rw[Int.natAbs_natCast]
 by_cases h0:n=0
 ·subst h0;decide
 ·exact(Nat.log2_lt h0).mpr (je h (by decide))
theorem yp:∀us:List (List Nat),us.length<=3->(∀u∈us,u.length<=12)->((us.map S).map (·.length)).sum+(us.map S).length*(("*" : Str)).length<=16777216:=fun us h1 h2=>by
 have e:(("*" : Str)).length=1:=by decide +kernel
 rw[e,af]
 have:∀us:List (List Nat),(∀u∈us,u.length<=12)->((us.map S).map (·.length)).sum<=12*us.length:=by
  intro us
  induction us with
  |nil=>intro _;simp
  |cons u us ih=>
   intro h
   have a:=ih fun v hv=>h v (by simp[hv])
   have b:=h u (by simp)
   rw[aS,aS,List.sum_cons,bn,a5]
   omega
 have:=this us h2
 omega
section
variable {K:PySem.W.Frag}
theorem t3(h:DefX P w K mg base k jn (ai gv) X)(Q4:mg "str"=none)(c1:EV.Callee X "letters_shown" js):
  Go X jn gv jr:=by
 rintro ds r ⟨n,i,k,rfl,hn,hi,hk,rfl⟩
 have t:=h.at'
 haveI:=h.Q7
 have b1:=h.bt Q4
 have QW:∀u∈cE 120 i++cE 121 k,∀x∈u,x<128:=fun u hu=>by
  rcases aM.mp hu with hu | hu
  ·exact oW (by decide) hi u hu
  ·exact oW (by decide) hk u hu
 have hw:=@B6 n i k hn
 have VD:(cE 120 i++cE 121 k).length<=2:=by
  have h1:=gZ 120 i
  have h2:=gZ 121 k
  rw[ac];omega
 have Xr:(cE 120 i++cE 121 k).isEmpty=(decide (i=0)&&decide (k=0)):=by rw[<-q8 (c:=120),<-q8 (c:=121)];cases cE 120 i<;>cases cE 121 k<;>rfl
 have WG:SeqAt.shaped (fg (.lst []))=true:=(Fn.lst (n:=1) (xs:=[]) fun x hx=>nomatch hx).sh (by decide)
 show Qr X [.val (.int n),.val (.int i),.val (.int k),.un] _ _
 refine aG (c6 t 3 (a4 t c1 (ab (aa t 1 rfl) (ab (aa t 2 rfl) aj)) ⟨i,k,rfl,hi,hk,rfl⟩)) ?_
 by_cases hc:n≠1\/(i=0/\k=0)
 ·have ew:gB n i k=[gE n]++(cE 120 i++cE 121 k):=by unfold gB;rw[ay hc]
  refine aG (c7 (Qs.eq (kc (nV (aa t 0 rfl) ag) fun _=>fJ t (Qp.p (aa t 3 rfl)) (Qp.p (d:=.lst []) (QJ.Rc (bI aj))) ((yt QW).sh (by decide)) WG (SY.trans Xr)) ?_) (aF (iu t 3 (yA (QJ.Rc (bI (ab (yv t b1 (aa t 0 rfl) (Jv hn)) aj))) (aa t 3 rfl) (aL (AT (by rw[bG];exact VD) _) (show 1+2<=sizeLine by decide)))))) (fv 3 rfl (aF (bx (Qp.eq (yw (ys:=(gB n i k).map S) Qo (Qp.ql (Qp.eq (aa t 3 rfl) ?_)) (yp _ hw.1 hw.2)) (by rw[sL])))))
  ·rcases hc with hc | ⟨hc,hd⟩
   ·rw[ao (show ¬((n:Int)=1) by omega)];rfl
   ·rw[aB hc,aB hd];simp
  ·show D.lst ([D.str (toString ((n:Nat):Int))]++aN (cE 120 i++cE 121 k))=_
   rw[vg,ew,eE [gE n],Fw];rfl
 ·have ew:gB n i k=cE 120 i++cE 121 k:=by unfold gB;rw[aq hc];rfl
  have h1:n=1:=se fun z=>hc (.inl z)
  refine aG (b0 (Qs.eq (kc (nV (aa t 0 rfl) ag) fun _=>fJ t (Qp.p (aa t 3 rfl)) (Qp.p (d:=.lst []) (QJ.Rc (bI aj))) ((yt QW).sh (by decide)) WG (SY.trans Xr)) ?_) bF) (aF (bx (Qp.eq (yw (ys:=(gB n i k).map S) Qo (Qp.ql (Qp.eq (aa t 3 rfl) ?_)) (yp _ hw.1 hw.2)) (by rw[sL]))))
  ·subst h1
   rw[show decide (((1:Nat):Int)=1)=true from rfl]
   by_cases a:i=0
   ·have:k≠0:=fun z=>hc (.inr ⟨a,z⟩)
    simp[a,this]
   ·simp[a]
  ·rw[vg,ew]
end
abbrev Pr:=Int×Nat×Nat
def gn(p:Pr):List Nat:=vz (gB p.1.natAbs p.2.1 p.2.2)
def lV(p:Pr):List Nat:=if p.1<0 then [45] else []
def np(p:Pr):List Nat:=if p.1<0 then [32,45,32] else [32,43,32]
def fY:List Pr->List Nat
 |[]=>[]
 |p::ps=>lV p++gn p++ps.flatMap fun q=>np q++gn q
def vV(acc:List Nat)(p:Pr):List Nat:=if acc=[] then lV p++gn p else acc++(np p++gn p)
theorem yg(n:Nat):gE n≠[]:=fun e=>by
 unfold gE at e
 exact Nat.toDigits_ne_nil (List.map_eq_nil_iff.mp e)
theorem Ff(p:Pr):gn p≠[]:=by
 obtain⟨n,i,k⟩:=p
 show vz (gB n.natAbs i k)≠[]
 unfold gB
 split
 ·show gE _++_≠[]
  exact fun e=>yg _ (Pn.mp e).1
 ·rename_i h
  unfold cE
  by_cases h1:i=0
  ·by_cases h2:k=0
   ·exact absurd (.inr ⟨h1,h2⟩) h
   ·rw[ay h1,aq h2];split<;>exact fun e=>(by cases e)
  ·rw[aq h1];split<;>exact fun e=>(by cases e)
theorem Ur{ps:List Pr}:fY ps=[] ↔ ps=[]:=by
 cases ps with
 |nil=>simp[fY]
 |cons p ps=>
  simp only[fY,Pn]
  exact⟨fun e=>absurd e.1.2 (Ff p),fun e=>(by cases e)⟩
theorem zS(ps:List Pr)(p:Pr):fY (ps++[p])=vV (fY ps) p:=by
 cases ps with
 |nil=>simp[fY,vV]
 |cons q ps=>
  unfold vV
  rw[aq (fun e=>by have:=Ur.mp e;cases this)]
  simp[fY,AV]
def ng(p:Pr):Prop:=p.1.natAbs<10 ^ 12/\p.2.1<=8/\p.2.2<=8
theorem Ih{us:List (List Nat)}(h:∀u∈us,∀x∈u,x<128):∀x∈vz us,x<128:=by
 cases us with
 |nil=>intro x hx;cases hx
 |cons u us=>
  intro x hx
  rcases aM.mp hx with hx | hx
  ·exact h u (by simp) x hx
  ·obtain⟨v,hv,hx⟩:=ue.mp hx
   rcases aC.mp hx with rfl | hx
   ·decide
   ·exact h v (by simp[hv]) x hx
theorem oV{p:Pr}(h:ng p):(gn p).length<=20:=by
 obtain⟨n,i,k⟩:=p
 obtain⟨hn,hi,hk⟩:=h
 have a:=vf (n:=n.natAbs) hn
 have lx:∀c n u,cE c n=[u]->u.length<=3:=fun c n u e=>yj u (by rw[e];simp)
 show(vz (gB n.natAbs i k)).length<=20
 unfold gB
 have l1:=gZ 120 i
 have l2:=gZ 121 k
 have e1:=lx 120 i
 have e2:=lx 121 k
 revert e1 e2 l1 l2
 generalize cE 120 i=A
 generalize cE 121 k=B
 intro l1 l2 e1 e2
 rcases A with _ | ⟨u,_ | ⟨u',A⟩⟩<;>rcases B with _ | ⟨v,_ | ⟨v',B⟩⟩<;>simp at l1 l2 e1 e2<;>split<;>simp[vz]<;>omega
theorem z5{p:Pr}(h:ng p):∀x∈gn p,x<128:=Ih (JL h.2.1 h.2.2)
theorem Ia(p:Pr):∀x∈lV p,x<128:=by unfold lV;split<;>intro x hx<;>simp at hx;omega
theorem J7(p:Pr):∀x∈np p,x<128:=by unfold np;split<;>intro x hx<;>simp at hx<;>omega
theorem qz(p:Pr):(np p).length=3/\(lV p).length<=1:=by unfold np lV;split<;>simp
theorem so{ps:List Pr}(h:∀p∈ps,ng p):∀x∈fY ps,x<128:=by
 cases ps with
 |nil=>intro x hx;cases hx
 |cons p ps=>
  intro x hx
  rcases aM.mp hx with hx | hx
  ·rcases aM.mp hx with hx | hx
   ·exact Ia p x hx
   ·exact z5 (h p (by simp)) x hx
  ·obtain⟨v,hv,hx⟩:=ue.mp hx
   rcases aM.mp hx with hx | hx
   ·exact J7 v x hx
   ·exact z5 (h v (by simp[hv])) x hx
theorem xU{ps:List Pr}(h:∀p∈ps,ng p):(fY ps).length<=23*ps.length:=by
 have key:∀vs:List Pr,(∀p∈vs,ng p)->(vs.flatMap fun q=>np q++gn q).length<=23*vs.length:=by
  intro vs
  induction vs with
  |nil=>intro _;simp
  |cons v vs ih=>
   intro hv
   have a:=ih fun u hu=>hv u (by simp[hu])
   have b:=oV (hv v (by simp))
   have c:=(qz v).1
   rw[List.flatMap_cons,ac,ac,a5,Nat.mul_add]
   omega
 cases ps with
 |nil=>simp[fY]
 |cons p ps=>
  have a:=key ps fun u hu=>h u (by simp[hu])
  have b:=oV (h p (by simp))
  have c:=(qz p).2
  show(lV p++gn p++_).length<=_
  rw[ac,ac,a5,Nat.mul_add]
  omega
def mr(r:List Int)(k:Nat)(t:Nat):List Pr:=(List.range t).flatMap fun s=>if r.getD (r.length-1-s) 0≠0 then [(r.getD (r.length-1-s) 0,r.length-1-s,k)] else []
def RY(b:Bd)(t:Nat):List Pr:=(List.range t).flatMap fun s=>mr (b.getD (b.length-1-s) []) (b.length-1-s) (b.getD (b.length-1-s) []).length
def sx(b:Bd):List Pr:=RY b b.length
theorem oR(r:List Int)(k t:Nat):mr r k (t+1)=mr r k t++(if r.getD (r.length-1-t) 0≠0 then [(r.getD (r.length-1-t) 0,r.length-1-t,k)] else []):=by
 unfold mr;rw[jY,AV];simp
theorem qQ(b:Bd)(t:Nat):RY b (t+1)=RY b t++mr (b.getD (b.length-1-t) []) (b.length-1-t) (b.getD (b.length-1-t) []).length:=by
 unfold RY;rw[jY,AV];simp
theorem zZ{p:Pr}(h:p∈mr r k t):∃i,p=(r.getD i 0,i,k)/\r.getD i 0≠0/\i<=r.length-1:=by
 unfold mr at h
 obtain⟨s,hs,h⟩:=ue.mp h
 split at h
 ·rename_i h0
  simp at h
  exact⟨_,h,h0,by omega⟩
 ·cases h
theorem CC{p:Pr}(h:p∈RY b t):p.1=eU b p.2.1 p.2.2/\p.1≠0:=by
 unfold RY at h
 obtain⟨s,hs,h⟩:=ue.mp h
 obtain⟨i,rfl,h0,_⟩:=zZ h
 exact⟨rfl,h0⟩
structure SB(b:Bd):Prop where
 fit:UR 9 b
 bb:∀i k,(eU b i k).natAbs<10 ^ 12
theorem SB.pr(h:SB b){p:Pr}(e:p.1=eU b p.2.1 p.2.2)(h0:p.1≠0):ng p:=by
 refine⟨by rw[e];exact h.bb _ _,?_,?_⟩
 ·by_cases q:p.2.1<=8
  ·exact q
  ·exact absurd (e.trans (h.fit.out (.inl (by omega)))) h0
 ·by_cases q:p.2.2<=8
  ·exact q
  ·exact absurd (e.trans (h.fit.out (.inr (by omega)))) h0
theorem SB.RY(h:SB b)(t:Nat):∀p∈RY b t,ng p:=fun p hp=>h.pr (CC hp).1 (CC hp).2
theorem SB.row(h:SB b)(k t:Nat):∀p∈mr (b.getD k []) k t,ng p:=fun p hp=>by
 obtain⟨i,rfl,h0,_⟩:=zZ hp
 exact h.pr rfl h0
theorem qP(r:List Int)(k:Nat):∀t,(mr r k t).length<=t
 |0=>by simp[mr]
 |t+1=>by
  rw[oR,ac]
  have:=qP r k t
  split<;>simp<;>omega
theorem SB.Sk(h:SB b):∀t,(My.RY b t).length<=9*t
 |0=>by simp[My.RY]
 |t+1=>by
  rw[qQ,ac]
  have:=SB.Sk h t
  have a:=qP (b.getD (b.length-1-t) []) (b.length-1-t) (b.getD (b.length-1-t) []).length
  have c:=h.fit.2 (b.length-1-t)
  omega
def Ki(p:Pr):D:=.tup [.int p.1,.int p.2.1,.int p.2.2]
theorem rN{j:Nat}(h:(m8 m n)[j]?=some d):j<n/\d=.int (m-(j:Int)):=by
 unfold m8 at h
 rw[aI] at h
 by_cases hj:j<n
 ·rw[eC hj] at h;cases h;exact⟨hj,rfl⟩
 ·rw[aZ (by simpa using hj)] at h;cases h
theorem rM:(m8 m n).length=n:=by unfold m8;simp
def ly(ds:List D)(d:D):Prop:=∃b:Bd,ds=[aA b]/\SB b/\d=.lst ((sx b).map Ki)
theorem tR:∀ds d,ly ds d->ds.length=1:=by rintro _ _ ⟨a,rfl,_⟩;rfl
section
variable {K:PySem.W.Frag}
theorem wJ(h:DefX P w K mg base k lj (ai iP) X)(Qz:mg "range"=none)(Qv:mg "len"=none):
  Go X lj iP ly:=by
 rintro ds r ⟨b,rfl,hb,rfl⟩
 have t:=h.at'
 haveI:=h.Q7
 have b1:=h.bt Qz
 have b2:=h.bt Qv
 have hl:=hb.fit.1
 show Qr X [.val (aA b),.un,.un,.un,.un] _ _
 refine aG (iu t 1 (bI aj)) (aG (gK t (Ti.eq (d':=m8 ((b.length:Int)-1) b.length) (o7 t b1 (eJ (dB t b2 (Qp.qt (aa t 0 rfl))) ag) (eO ag) (eO ag) (by rw[af];omega)) (by rw[af];congr 1;omega)) (QI.QZ (ρ':=[.val (aA b),.own ((sx b).map Ki),.un,.un,.un]) (fun j=>[.val (aA b),.own ((RY b j).map Ki),.un,.un,.un]) (fun j d e=>?_) rfl (by rw[rM];rfl))) (fv 1 rfl (aF (bx (aa t 1 rfl)))))
 obtain⟨hj,rfl⟩:=rN e
 have e1:(b.length:Int)-1-(j:Int)=((b.length-1-j:Nat):Int):=by omega
 rw[e1]
 have hk:b.length-1-j<b.length:=by omega
 rw[qQ]
 have h81:=hb.Sk j
 have hf:=hb.fit.2 (b.length-1-j)
 generalize b.length-1-j=kk at hk hf
 have eg:b.getD kk []=b[kk]:=by rw[ah,aD hk];rfl
 have WQ:l8 (b.map bE) (kk:Int)=some (bE (b.getD kk [])):=by rw[eg];exact sV (by omega) (by omega) hk
 generalize hr:b.getD kk []=r at WQ hf
 refine⟨_,dN t 2,Qr.weak (aG (c6 t 3 (bW (Qp.qt (aa t 0 rfl)) (aa t 2 rfl) WQ)) (aF (gK t (Ti.eq (d':=m8 ((r.length:Int)-1) r.length) (o7 t b1 (eJ (dB t b2 (Qp.qt (aa t 3 rfl))) ag) (eO ag) (eO ag) (by rw[af];omega)) (by rw[af];congr 1;omega)) (QI.QZ (ρ':=[.val (aA b),.own ((RY b j++mr r kk r.length).map Ki),.val (.int kk),.val (bE r),.un]) (fun s=>[.val (aA b),.own ((RY b j++mr r kk s).map Ki),.val (.int kk),.val (bE r),.un]) (fun s d e=>?_) (by show _=_;rw[show mr r kk 0=[] from rfl,aU];rfl) (by rw[rM]))))) (.keep (.keep (.forget (.forget (.keep .nil)))))⟩
 obtain⟨hs,rfl⟩:=rN e
 have e2:(r.length:Int)-1-(s:Int)=((r.length-1-s:Nat):Int):=by omega
 rw[e2,oR]
 have hi:r.length-1-s<r.length:=by omega
 have h9:=qP r kk s
 generalize r.length-1-s=ii at hi
 have VT:l8 (r.map D.int) (ii:Int)=some (.int (r.getD ii 0)):=jl hi
 refine⟨_,dN t 4,Qr.weak (ρ1:=[.val (aA b),.own ((RY b j++(mr r kk s++(if r.getD ii 0≠0 then [(r.getD ii 0,ii,kk)] else []))).map Ki),.val (.int kk),.val (bE r),.val (.int ii)]) (aF ?_) (.keep (.keep (.keep (.keep (.forget .nil)))))⟩
 by_cases h0:r.getD ii 0=0
 ·rw[aq (by rw[h0];decide),aU]
  exact b0 (Qs.eq (nV (bW (Qp.qt (aa t 3 rfl)) (aa t 4 rfl) VT) ag) (by rw[h0];rfl)) bF
 ·rw[ay h0]
  refine c7 (Qs.eq (nV (bW (Qp.qt (aa t 3 rfl)) (aa t 4 rfl) VT) ag) (by rw[ao h0];rfl)) (aF (QQ.eq (eI t 1 rfl (aT (ab (bW (Qp.qt (aa t 3 rfl)) (aa t 4 rfl) VT) (ab (aa t 4 rfl) (ab (aa t 2 rfl) aj)))) ?_) ?_))
  ·rw[af,ac]
   exact sz (by omega)
  ·show Out.nx _=_
   simp[Ki]
end
theorem z0:("" : Str)=S []:=by decide +kernel
theorem zL:("-" : Str)=S [45]:=by decide +kernel
theorem Pq:(" - " : Str)=S [32,45,32]:=by decide +kernel
theorem Pp:(" + " : Str)=S [32,43,32]:=by decide +kernel
theorem zN:("0" : Str)=S [48]:=by decide +kernel
def zT(b:Bd):List Nat:=if fY (sx b)=[] then [48] else fY (sx b)
theorem AQ(u:List Nat):decide (S u=("" : Str))=decide (u=[]):=cj.mpr ⟨fun e=>dX (e.trans z0),fun e=>by rw[e,z0]⟩
def ou(ds:List D)(d:D):Prop:=∃b:Bd,ds=[aA b]/\SB b/\d=.str (S (zT b))
theorem wd:∀ds d,ou ds d->ds.length=1:=by rintro _ _ ⟨a,rfl,_⟩;rfl
theorem qy(h:SB b)(j:Nat):(fY ((sx b).take j)).length<=1863:=by
 have a:=xU (ps:=(sx b).take j) fun p hp=>h.RY _ p (dg hp)
 have c:=h.Sk b.length
 have d:=h.fit.1
 have e:((sx b).take j).length<=(sx b).length:=List.length_take_le' _ _
 have f:(sx b).length<=81:=by show(RY b b.length).length<=81;omega
 omega
section
variable {K:PySem.W.Frag}
theorem AI(h:DefX P w K mg base k nY (ai kD) X)(Sn:mg "abs"=none)(c1:EV.Callee X "products_of" ly)(c2:EV.Callee X "product_shown" jr):
  Go X nY kD ou:=by
 rintro ds r ⟨b,rfl,hb,rfl⟩
 have t:=h.at'
 haveI:=h.Q7
 have b1:=h.bt Sn
 show Qr X [.val (aA b),.un,.un,.un,.un] _ _
 have QG:∀j,∀c∈fY ((sx b).take j),c<128:=fun j=>so fun p hp=>hb.RY _ p (dg hp)
 refine aG (c6 t 1 Qo) (aG (gK t (yD (a4 t c1 (ab (aa t 0 rfl) aj) ⟨b,rfl,hb,rfl⟩)) (QI.QZ (ρ':=[.val (aA b),.val (.str (S (fY (sx b)))),.un,.un,.un]) (fun j=>[.val (aA b),.val (.str (S (fY ((sx b).take j)))),.un,.un,.un]) (fun j d e=>?_) (by rw[y9,show fY []=[] from rfl,<-z0];rfl) (by rw[af,bz]))) (aF (bx ?_)))
 ·rw[aI] at e
  cases e2:(sx b)[j]? with
  |none=>rw[e2] at e;cases e
  |some p=>
   rw[e2] at e
   cases e
   have hp:=hb.RY _ p (cJ e2)
   have et:fY ((sx b).take (j+1))=vV (fY ((sx b).take j)) p:=by
    rw[za,e2];exact zS _ p
   have hl:=qy hb j
   have Yl:=qy hb (j+1)
   have Wh:=QG j
   rw[et] at Yl
   rw[et]
   generalize fY ((sx b).take j)=u at hl Wh Yl
   obtain⟨n,x,y⟩:=p
   obtain⟨hn,hx,hy⟩:=hp
   refine⟨_,Lx t (nW (dN t 2) (nW (dN t 3) (nW (dN t 4) C9))),Qr.weak (ρ1:=[.val (aA b),.val (.str (S (vV u (n,x,y)))),.val (.int n),.val (.int x),.val (.int y)]) (aG (ρ':=[.val (aA b),.val (.str (S (if u=[] then lV (n,x,y) else u++np (n,x,y)))),.val (.int n),.val (.int x),.val (.int y)]) ?_ (aF (QQ.eq (Bf t 1 rfl (a4 t c2 (ab (yx t b1 (aa t 2 rfl)) (ab (aa t 3 rfl) (ab (aa t 4 rfl) aj))) ⟨n.natAbs,x,y,rfl,hn,hx,hy,rfl⟩) ?_) ?_))) (.keep (.keep (.forget (.forget (.forget .nil)))))⟩
   ·by_cases hu:u=[]
    ·rw[ay hu]
     refine c7 (Qs.eq (bP t (aa t 1 rfl) Qo (eV Wh)) (by rw[AQ,aB hu])) (aF (c6 t 1 ?_))
     unfold lV
     by_cases h0:n<0
     ·rw[ay h0];exact mC (Qs.eq (eQ (aa t 2 rfl) ag) (aB h0)) (Qp.eq Qo (by rw[zL]))
     ·rw[aq h0];exact mD (Qs.eq (eQ (aa t 2 rfl) ag) (ao h0)) (Qp.eq Qo (by rw[z0]))
    ·rw[aq hu]
     have hs:∀{e:Expr},Qp X [.val (aA b),.val (.str (S u)),.val (.int n),.val (.int x),.val (.int y)] e (.str (S (np (n,x,y))))->True:=fun _=>trivial
     refine b0 (Qs.eq (bP t (aa t 1 rfl) Qo (eV Wh)) (by rw[AQ,ao hu])) (aF (QQ.eq (Bf t 1 (z:=S u) (w:=S (np (n,x,y))) rfl ?_ ?_) (by rw[br];rfl)))
     ·unfold np
      by_cases h0:n<0
      ·rw[ay h0];exact mC (Qs.eq (eQ (aa t 2 rfl) ag) (aB h0)) (Qp.eq Qo (by rw[Pq]))
      ·rw[aq h0];exact mD (Qs.eq (eQ (aa t 2 rfl) ag) (ao h0)) (Qp.eq Qo (by rw[Pp]))
     ·rw[bn,bn,(qz _).1];exact GZ (by omega)
   ·have a:=oV (p:=(n,x,y)) ⟨hn,hx,hy⟩
    have c:=qz (n,x,y)
    have d:(S (vz (gB n.natAbs x y))).length<=20:=by rw[bn];exact a
    refine GZ ?_
    rw[bn]
    split
    ·omega
    ·rw[ac];omega
   ·rw[br]
    unfold vV
    split
    ·rfl
    ·rw[ax];rfl
 ·have Wo:=so (hb.RY b.length)
  have Ts:∀c∈fY (sx b),c<128:=Wo
  unfold zT
  generalize fY (sx b)=u at Ts
  by_cases hu:u=[]
  ·rw[ay hu]
   exact mD (iy t (Qp.p (aa t 1 rfl)) (Qp.p Qo) (dO (eV Ts)) (dO (by decide +kernel)) (by subst hu;decide +kernel)) (Qp.eq Qo (by rw[zN]))
  ·rw[aq hu]
   exact mC (iy t (Qp.p (aa t 1 rfl)) (Qp.p Qo) (dO (eV Ts)) (dO (by decide +kernel)) (by show(!(S u==("" : Str)))=true;rw[eF,AQ,ao hu];rfl)) (aa t 1 rfl)
end
theorem Nq:∀n:Nat,2<=n->n<=8->((S [120]++("^" : Str))++(toString (n:Int):Str))=S [120,94,48+n]:=fun n h1 h2=>by
 have:=JA n h1 h2
 rwa [show("x" : Str)=S [120] by decide +kernel] at this
theorem Np:∀n:Nat,2<=n->n<=8->((S [121]++("^" : Str))++(toString (n:Int):Str))=S [121,94,48+n]:=fun n h1 h2=>by
 have:=Jz n h1 h2
 rwa [show("y" : Str)=S [121] by decide +kernel] at this
def lz(ds:List D)(d:D):Prop:=∃c n:Nat,ds=[.str (S [c]),.int n]/\(c=120\/c=121)/\n<=8/\d=.lst (aN (cE c n))
theorem tU:∀ds d,lz ds d->ds.length=2:=by rintro _ _ ⟨a,b,rfl,_⟩;rfl
theorem MX{n:Nat}(h:n<=8)(c:Nat)(hc:c=120\/c=121):((S [c]++("^" : Str))++(toString (n:Int):Str)).length<=10/\(2<=n->((S [c]++("^" : Str))++(toString (n:Int):Str))=S [c,94,48+n]):=by
 have:∀n:Nat,n<9->((S [120]++("^" : Str))++(toString (n:Int):Str)).length<=10/\((S [121]++("^" : Str))++(toString (n:Int):Str)).length<=10:=by decide +kernel
 have:=this n (by omega)
 rcases hc with rfl | rfl
 ·exact⟨this.1,fun h2=>Nq n h2 h⟩
 ·exact⟨this.2,fun h2=>Np n h2 h⟩
def mX(ds:List D)(d:D):Prop:=∃b:Bd,ds=[aA b]/\SB b/\d=.str (S (zT b))
theorem vq:∀ds d,mX ds d->ds.length=1:=by rintro _ _ ⟨a,rfl,_⟩;rfl
theorem PB(u:List Nat):(!(fg (.str (S u))).eqv (fg (.str ""))) = !decide (u=[]):=by
 show(!(S u==("" : Str)))=_
 rw[eF,AQ]
theorem P4(u:List Nat):((fg (.str (S u))).eqv (fg (.str "")))=decide (u=[]):=by
 show(S u==("" : Str))=_
 rw[eF,AQ]
theorem WG:SeqAt.shaped (fg (.str ""))=true:=dO (by decide +kernel)
theorem MI:SeqAt.shaped (fg (.lst []))=true:=(Fn.lst (n:=1) (xs:=[]) fun x hx=>nomatch hx).sh (by decide)
def tG(b:Bd)(j s:Nat):List Nat:=fY (RY b j++mr (b.getD (b.length-1-j) []) (b.length-1-j) s)
theorem Hq{j s:Nat}(h:SB b)(hj:j<b.length)(hs:s<=(b.getD (b.length-1-j) []).length):(∀c∈tG b j s,c<128)/\(tG b j s).length<=1863:=by
 have hp:∀p∈RY b j++mr (b.getD (b.length-1-j) []) (b.length-1-j) s,ng p:=fun p hp=>by
  rcases aM.mp hp with hp | hp
  ·exact h.RY _ p hp
  ·exact h.row _ _ p hp
 refine⟨so hp,aL (xU hp) ?_⟩
 have a:=h.Sk j
 have c:=qP (b.getD (b.length-1-j) []) (b.length-1-j) s
 have d:=h.fit.1
 have e:=h.fit.2 (b.length-1-j)
 rw[ac]
 omega
theorem DJ(j s:Nat):tG b j (s+1)=if (b.getD (b.length-1-j) []).getD ((b.getD (b.length-1-j) []).length-1-s) 0≠0 then vV (tG b j s) ((b.getD (b.length-1-j) []).getD ((b.getD (b.length-1-j) []).length-1-s) 0,(b.getD (b.length-1-j) []).length-1-s,b.length-1-j) else tG b j s:=by
 unfold tG
 rw[oR]
 split
 ·rw[<-ax,zS]
 ·rw[aU]
section
variable {K:PySem.W.Frag}
theorem wN(h:DefX P w K mg base k lp (ai iR) X)(Rl:mg "int"=none)(Q4:mg "str"=none):
  Go X lp iR lz:=by
 rintro ds r ⟨c,n,rfl,hc,hn,rfl⟩
 have t:=h.at'
 haveI:=h.Q7
 have b1:=h.bt Rl
 have b2:=h.bt Q4
 show Qr X [.val (.str (S [c])),.val (.int n)] _ _
 by_cases h0:n=0
 ·subst h0
  exact dI (c7 (Qs.eq (dC (aa t 1 rfl) ag) rfl) (aF (bx (QJ.Rc (bI aj)))))
 refine aG (b0 (Qs.eq (dC (aa t 1 rfl) ag) (by rw[aQ];omega)) bF) (aF (bx (QJ.Rc (QJ.eq (bI (ab (d:=.str (if n=1 then S [c] else S [c,94,48+n])) (bW (QJ.toQ (bI (ab (aa t 0 rfl) (ab (dR (dR (aa t 0 rfl) Qo (by rw[bn];exact GZ (show 1+(("^" : Str)).length<=2000 by decide +kernel))) (yv t b2 (aa t 1 rfl) (KN hn)) ?_) aj)))) (rE t b1 (JC (aa t 1 rfl) ag)) ?_) aj)) ?_))))
 ·have:=(MX hn c hc).1
  exact GZ (aL (gI (by show _=(S [c]++("^" : Str)++(toString (n:Int):Str)).length;show(S [c]++("^" : Str)).cps.size+(toString (n:Int):Str).cps.size=((S [c]++("^" : Str)).cps++(toString (n:Int):Str).cps).size;rw[Array.size_append])) (aL this (by decide)))
 ·by_cases h1:n=1
  ·rw[ay h1,ao (show ¬(1:Int)<(n:Int) by omega)];rfl
  ·rw[aq h1,aB (show(1:Int)<(n:Int) by omega),<-(MX hn c hc).2 (by omega)];rfl
 ·unfold cE
  rw[aq h0]
  split<;>rfl
theorem yZ(h:DefX P w K mg base k mN (ai jF) X)(Qz:mg "range"=none)(Rl:mg "int"=none)(Qv:mg "len"=none)(Sn:mg "abs"=none)(Q4:mg "str"=none)(c1:EV.Callee X "_law_letter" lz):
  Go X mN jF mX:=by
 rintro ds r ⟨b,rfl,hb,rfl⟩
 have t:=h.at'
 haveI:=h.Q7
 have b1:=h.bt Qz
 have b2:=h.bt Rl
 have b3:=h.bt Qv
 have b4:=h.bt Sn
 have b5:=h.bt Q4
 have hl:=hb.fit.1
 show Qr X [.val (aA b),.un,.un,.un,.un,.un] _ _
 refine aG (c6 t 1 Qo) (aG (gK t (Ti.eq (d':=m8 ((b.length:Int)-1) b.length) (o7 t b1 (eJ (dB t b3 (Qp.qt (aa t 0 rfl))) ag) (eO ag) (eO ag) (by rw[af];omega)) (by rw[af];congr 1;omega)) (QI.QZ (ρ':=[.val (aA b),.val (.str (S (fY (sx b)))),.un,.un,.un,.un]) (fun j=>[.val (aA b),.val (.str (S (fY (RY b j)))),.un,.un,.un,.un]) (fun j d e=>?_) (by show _=_;rw[show fY (RY b 0)=[] from rfl,<-z0];rfl) (by rw[rM];rfl))) (aF (bx ?_)))
 ·obtain⟨hj,rfl⟩:=rN e
  have e1:(b.length:Int)-1-(j:Int)=((b.length-1-j:Nat):Int):=by omega
  rw[e1]
  have hk:b.length-1-j<b.length:=by omega
  have eR:fY (RY b (j+1))=tG b j (b.getD (b.length-1-j) []).length:=by rw[qQ];rfl
  have eR0:fY (RY b j)=tG b j 0:=by unfold tG;rw[show mr (b.getD (b.length-1-j) []) (b.length-1-j) 0=[] from rfl,aU]
  rw[eR,eR0]
  have hf:=hb.fit.2 (b.length-1-j)
  have Zt:=fun s=>DJ (b:=b) j s
  have Zw:=fun s (hs:s<=(b.getD (b.length-1-j) []).length)=>Hq hb hj hs
  have Yh:=fun i=>hb.bb i (b.length-1-j)
  generalize b.length-1-j=kk at hk hf Zt Zw Yh
  have eg:b.getD kk []=b[kk]:=by rw[ah,aD hk];rfl
  have WQ:l8 (b.map bE) (kk:Int)=some (bE (b.getD kk [])):=by rw[eg];exact sV (by omega) (by omega) hk
  unfold eU at Yh
  generalize hr:b.getD kk []=r at WQ hf Zt Zw Yh
  have ZL:kk<=8:=by omega
  refine⟨_,dN t 2,Qr.weak (aF (gK t (Ti.eq (d':=m8 ((r.length:Int)-1) r.length) (o7 t b1 (eJ (dB t b3 (Qp.qt (bW (Qp.qt (aa t 0 rfl)) (aa t 2 rfl) WQ))) ag) (eO ag) (eO ag) (by rw[af];omega)) (by rw[af];congr 1;omega)) (QI.QZ (ρ':=[.val (aA b),.val (.str (S (tG b j r.length))),.val (.int kk),.un,.un,.un]) (fun s=>[.val (aA b),.val (.str (S (tG b j s))),.val (.int kk),.un,.un,.un]) (fun s d e=>?_) rfl (by rw[rM])))) (.keep (.keep (.forget (.keep (.keep (.keep .nil))))))⟩
  obtain⟨hs,rfl⟩:=rN e
  have e2:(r.length:Int)-1-(s:Int)=((r.length-1-s:Nat):Int):=by omega
  rw[e2,Zt]
  have hi:r.length-1-s<r.length:=by omega
  obtain⟨QW,hlen⟩:=Zw s (by omega)
  have Yn:r.length-1-s<=8:=by omega
  generalize r.length-1-s=ii at hi Yn
  have VT:l8 (r.map D.int) (ii:Int)=some (.int (r.getD ii 0)):=jl hi
  have hn:=Yh ii
  generalize r.getD ii 0=n at VT hn
  generalize tG b j s=u at QW hlen
  have TQ:∀{ρ:cp} {p1 p2 p3 q1 q2:Pos},ρ[0]?=some (.val (aA b))->ρ[2]?=some (.val (.int kk))->ρ[3]?=some (.val (.int ii))->Qp X ρ (.Subscript (.Subscript (.Name "_law_board_here" p1) (.Name "_law_k" p2) q1) (.Name "_law_i" p3) q2) (.int n):=fun r0 r2 r3=>bW (Qp.qt (bW (Qp.qt (aa t 0 r0)) (aa t 2 r2) WQ)) (aa t 3 r3) VT
  have VD:(cE 120 ii++cE 121 kk).length<=2:=by
   have h1:=gZ 120 ii
   have h2:=gZ 121 kk
   rw[ac];omega
  have hw:=@B6 n.natAbs ii kk hn
  have hwt:∀u∈cE 120 ii++cE 121 kk,∀x∈u,x<128:=fun u hu=>by
   rcases aM.mp hu with hu | hu
   ·exact oW (by decide) Yn u hu
   ·exact oW (by decide) ZL u hu
  have Xr:(cE 120 ii++cE 121 kk).isEmpty=(decide (ii=0)&&decide (kk=0)):=by rw[<-q8 (c:=120),<-q8 (c:=121)];cases cE 120 ii<;>cases cE 121 kk<;>rfl
  refine⟨_,dN t 3,Qr.weak (ρ1:=[.val (aA b),.val (.str (S (if n≠0 then vV u (n,ii,kk) else u))),.val (.int kk),.val (.int ii),.val (.int n.natAbs),.val (.lst (aN (gB n.natAbs ii kk)))]) (aG (c6 t 4 (yx t b4 (TQ rfl rfl rfl))) (aG (ρ':=[.val (aA b),.val (.str (S u)),.val (.int kk),.val (.int ii),.val (.int n.natAbs),.own (aN (cE 120 ii++cE 121 kk))]) (QQ.eq (iu t 5 (yA (a4 t c1 (ab Qo (ab (aa t 3 rfl) aj)) ⟨120,ii,by rw[show("x" : Str)=S [120] by decide +kernel],.inl rfl,Yn,rfl⟩) (a4 t c1 (ab Qo (ab (aa t 2 rfl) aj)) ⟨121,kk,by rw[show("y" : Str)=S [121] by decide +kernel],.inr rfl,ZL,rfl⟩) (by rw[<-ac,<-eE,bG];exact GZ (by omega)))) (by rw[eE];rfl)) (fv 5 rfl ?_))) (.keep (.keep (.keep (.forget (.forget (.forget .nil))))))⟩
  have a20:=oV (p:=(n,ii,kk)) (⟨hn,Yn,ZL⟩:ng (n,ii,kk))
  have c3:=qz (n,ii,kk)
  have ejn:∀{ρ:cp} {a p1 p2:Pos} {q:Nat} {pp:Pos},ρ[5]?=some (.val (.lst (aN (gB n.natAbs ii kk))))->(a.endLine==p2.line)=true->Qp X ρ (.Call (.Attribute (.Constant (.str "*") q p1) "join" a) [.Name "_law_words" pp] [] p2) (.str (S (gn (n,ii,kk)))):=fun r5 hli=>Qp.eq (yw (ys:=(gB n.natAbs ii kk).map S) Qo (Qp.ql (Qp.eq (aa t 5 r5) (by rw[vg]))) (yp _ hw.1 hw.2) (hline:=hli)) (by rw[sL];rfl)
  have hd20:(S (gn (n,ii,kk))).length<=20:=by rw[bn];exact a20
  refine aG (ρ':=[.val (aA b),.val (.str (S u)),.val (.int kk),.val (.int ii),.val (.int n.natAbs),.val (.lst (aN (gB n.natAbs ii kk)))]) ?_ (aG (ρ':=[.val (aA b),.val (.str (S (if n<0 then vV u (n,ii,kk) else u))),.val (.int kk),.val (.int ii),.val (.int n.natAbs),.val (.lst (aN (gB n.natAbs ii kk)))]) ?_ (aF ?_))
  ·by_cases hc:n.natAbs≠1\/(ii=0/\kk=0)
   ·have ew:gB n.natAbs ii kk=[gE n.natAbs]++(cE 120 ii++cE 121 kk):=by unfold gB;rw[ay hc]
    refine c7 (Qs.eq (kc (nV (aa t 4 rfl) ag) fun _=>fJ t (Qp.p (aa t 5 rfl)) (Qp.p (d:=.lst []) (QJ.Rc (bI aj))) ((yt hwt).sh (by decide)) MI (SY.trans Xr)) ?_) (aG (ρ':=[.val (aA b),.val (.str (S u)),.val (.int kk),.val (.int ii),.val (.int n.natAbs),.own (aN (gB n.natAbs ii kk))]) (QQ.eq (iu t 5 (yA (QJ.Rc (bI (ab (yv t b5 (aa t 4 rfl) (Jv hn)) aj))) (aa t 5 rfl) (aL (AT (by rw[bG];exact VD) _) (show 1+2<=sizeLine by decide)))) ?_) (fv 5 rfl bF))
    ·rcases hc with hc | ⟨hc,hd⟩
     ·rw[ao (show ¬((n.natAbs:Int)=1) by omega)];rfl
     ·rw[aB hc,aB hd];simp
    ·rw[ew,eE [gE n.natAbs],Fw];rfl
   ·have ew:gB n.natAbs ii kk=cE 120 ii++cE 121 kk:=by unfold gB;rw[aq hc];rfl
    have h1:n.natAbs=1:=se fun z=>hc (.inl z)
    rw[ew]
    refine b0 (Qs.eq (kc (nV (aa t 4 rfl) ag) fun _=>fJ t (Qp.p (aa t 5 rfl)) (Qp.p (d:=.lst []) (QJ.Rc (bI aj))) ((yt hwt).sh (by decide)) MI (SY.trans Xr)) ?_) bF
    rw[h1,show decide (((1:Nat):Int)=1)=true from rfl]
    by_cases a:ii=0
    ·have:kk≠0:=fun z=>hc (.inr ⟨a,z⟩)
     simp[a,this]
    ·simp[a]
  ·by_cases h0:n<0
   ·rw[ay h0]
    refine c7 (Qs.eq (eQ (TQ rfl rfl rfl) ag) (aB h0)) (aF (QQ.eq (c6 t 1 (dR (w:=S (gn (n,ii,kk))) (dR (z:=S u) (w:=if u=[] then S [45] else S [32,45,32]) (aa t 1 rfl) (bW (QJ.toQ (bI (ab Qo (ab Qo aj)))) (rE t b2 (BG t (Qp.p (aa t 1 rfl)) (Qp.p Qo) (dO (eV QW)) WG (PB u))) ?_) ?_) (ejn rfl rfl) ?_)) ?_))
    ·by_cases hu:u=[]
     ·rw[ay hu,aB hu,<-zL];rfl
     ·rw[aq hu,ao hu,<-Pq];rfl
    ·rw[bn];split <;> (rw[bn];exact GZ (by simp;omega))
    ·refine GZ ?_
     split
     ·rw[br,bn,ac];simp;omega
     ·rw[br,bn,ac];simp;omega
    ·unfold vV lV np
     rw[ay h0,ay h0]
     split
     ·rename_i hu;rw[hu,br,br];rfl
     ·rw[br,br,ax];rfl
   ·rw[aq h0]
    exact b0 (Qs.eq (eQ (TQ rfl rfl rfl) ag) (ao h0)) bF
  ·by_cases h0:0<n
   ·rw[aq (show ¬n<0 by omega),ay (show n≠0 by omega)]
    refine c7 (Qs.eq (hV (TQ rfl rfl rfl) ag) (aB h0)) (aF (QQ.eq (c6 t 1 (dR (w:=S (gn (n,ii,kk))) (dR (z:=S u) (w:=if u=[] then S [] else S [32,43,32]) (aa t 1 rfl) (bW (QJ.toQ (bI (ab Qo (ab Qo aj)))) (rE t b2 (BG t (Qp.p (aa t 1 rfl)) (Qp.p Qo) (dO (eV QW)) WG (PB u))) ?_) ?_) (ejn rfl rfl) ?_)) ?_))
    ·by_cases hu:u=[]
     ·rw[ay hu,aB hu,<-z0];rfl
     ·rw[aq hu,ao hu,<-Pp];rfl
    ·rw[bn];split <;> (rw[bn];exact GZ (by simp;omega))
    ·refine GZ ?_
     split
     ·rw[br,bn,ac];simp;omega
     ·rw[br,bn,ac];simp;omega
    ·unfold vV lV np
     rw[aq (show ¬n<0 by omega),aq (show ¬n<0 by omega)]
     split
     ·rename_i hu;rw[hu,br,br];rfl
     ·rw[br,br,ax];rfl
   ·refine QQ.eq (b0 (Qs.eq (hV (TQ rfl rfl rfl) ag) (ao h0)) bF) ?_
    by_cases h1:n<0
    ·rw[ay h1,ay (show n≠0 by omega)]
    ·rw[aq h1,aq (show ¬n≠0 by omega)]
 ·have Ts:∀c∈fY (sx b),c<128:=so (hb.RY b.length)
  unfold zT
  generalize fY (sx b)=u at Ts
  refine bW (QJ.toQ (bI (ab (aa t 1 rfl) (ab Qo aj)))) (rE t b2 (F8 t (Qp.p (aa t 1 rfl)) (Qp.p Qo) (dO (eV Ts)) WG (P4 u))) ?_
  by_cases hu:u=[]
  ·rw[ay hu,aB hu,<-zN];rfl
  ·rw[aq hu,ao hu];rfl
end
abbrev R1:td:=AR 1
theorem pU(a:Nat)(v:Int):∀n,dQ n (fun j=>if j=a then v else 0)=if a<n then v else 0
 |0=>by simp[dQ]
 |n+1=>by
  rw[dQ,pU a v n]
  by_cases h:n=a
  ·subst h;simp
  ·rw[aq h]
   by_cases h2:a<n
   ·rw[ay h2,ay (by omega)];omega
   ·rw[aq h2,aq (by omega)];omega
structure QT(c:Int)(i k:Nat)(B:Bd):Prop where
 ok:QD B
 cf:∀a e,eU B a e=if a=i/\e=k then c else 0
theorem QT.bs(h:QT c i k B)(φ:Nat->Nat->Int):bs B φ=c*φ i k:=by
 have hr:∀e,rs (B.getD e []) (fun a=>φ a e)=if e=k then c*φ i k else 0:=fun e=>by
  rw[gX (B.getD e []) ((B.getD e []).length+i+1) _ (by omega)]
  have:∀a,(B.getD e []).getD a 0=if a=i/\e=k then c else 0:=fun a=>h.cf a e
  by_cases he:e=k
  ·rw[ay he,cT (g:=fun a=>if a=i then c*φ i k else 0) _ fun a _=>?_,pU,ay (by omega)]
   rw[this a]
   by_cases ha:a=i
   ·rw[ay ⟨ha,he⟩,ay ha,ha,he]
   ·rw[aq (fun z=>ha z.1),aq ha,Int.zero_mul]
  ·rw[aq he,cT (g:=fun _=>0) _ fun a _=>?_,jV]
   rw[this a,aq (fun z=>he z.2),Int.zero_mul]
 rw[sS B (B.length+k+1) φ (by omega),cT (g:=fun e=>if e=k then c*φ i k else 0) _ fun e _=>hr e,pU,ay (by omega)]
theorem QT.mul(h:QT c i k A)(g:QT c' i' k' B):QT (c*c') (i+i') (k+k') (jj A B):=⟨DA _ _,fun a e=>by
 rw[<-GA,Gy,h.bs,g.bs]
 unfold yE
 by_cases q:a=i+i'/\e=k+k'
 ·rw[ay q,ay ⟨q.1.symm,q.2.symm⟩,Qg]
 ·rw[aq q,aq (fun z=>q ⟨z.1.symm,z.2.symm⟩),Int.mul_zero,Int.mul_zero]⟩
theorem QT.neg(h:QT c i k B):QT (-c) i k (kQ [] (qZ B)):=⟨qR _ _,fun a e=>by
 rw[iC,o9,h.cf]
 show(0:Int)+_=_
 split<;>omega⟩
theorem QT.fit{n:Nat}(h:QT c i k B)(hi:i<n)(hk:k<n):UR n B:=BE h.ok fun a e q=>by rw[h.cf,aq (by omega)]
theorem QT.lim(h:QT c i k B)(hc:c.natAbs<2 ^ 63):∀r∈B,∀y∈r,-(2 ^ 63)<y/\y<2 ^ 63:=BB.lim (M:=c.natAbs) (fun a e=>by rw[h.cf];split<;>simp) hc
theorem QT.cast{c':Int}{i' k':Nat}(h:QT c i k B)(e1:c=c')(e2:i=i')(e3:k=k'):QT c' i' k' B:=by subst e1;subst e2;subst e3;exact h
theorem uk{r:List Int}{a:Int}(h:a≠0):Rw (r++[a]):=.inr ⟨r,a,rfl,h⟩
theorem Fy:QT 1 0 0 [[1]]:=⟨⟨.inr ⟨[],[1],rfl,by decide⟩,fun r hr=>by rw[a7.mp hr];exact uk (r:=[]) (by decide)⟩,fun a e=>by
 unfold eU
 rcases e with _ | e
 ·rcases a with _ | a<;>simp
 ·simp⟩
theorem KM:QT 1 1 0 [[0,1]]:=⟨⟨.inr ⟨[],[0,1],rfl,by decide⟩,fun r hr=>by rw[a7.mp hr];exact uk (r:=[0]) (by decide)⟩,fun a e=>by
 unfold eU
 rcases e with _ | e
 ·rcases a with _ | _ | a<;>simp
 ·simp⟩
theorem KL:QT 1 0 1 [[],[1]]:=⟨⟨.inr ⟨[[]],[1],rfl,by decide⟩,fun r hr=>by
 rcases aC.mp hr with rfl | hr
 ·exact .inl rfl
 ·rw[a7.mp hr];exact uk (r:=[]) (by decide)⟩,fun a e=>by
 unfold eU
 rcases e with _ | _ | e
 ·simp
 ·rcases a with _ | a<;>simp
 ·simp⟩
theorem xn(n:Nat):Br (gE n)=n:=by
 unfold Br gE
 rw[PySem.W.KIN.val_back]
theorem HY:∀n,(gE n).head?=some 48->gE n=[48]:=fun n=>by
 induction n using Nat.strongRecOn with
 |_ m ih=>
  intro h0
  by_cases h:m<10
  ·have e:gE m=[(Nat.digitChar m).toNat]:=by unfold gE;rw[Nat.toDigits_of_lt_base h];rfl
   rw[e] at h0 ⊢
   rw[bB h0]
  ·have hm:m%10<10:=Nat.mod_lt m (by decide)
   have t:Nat.toDigits 10 (m / 10)++Nat.toDigits 10 (m%10)=Nat.toDigits 10 (10*(m / 10)+m%10):=Nat.toDigits_append_toDigits (by decide) (by omega) hm
   rw[Nat.div_add_mod] at t
   have e:gE m=gE (m / 10)++gE (m%10):=by unfold gE;rw[<-t,aX]
   rw[e] at h0
   have h1:(gE (m / 10)).head?=some 48:=by
    cases q:gE (m / 10) with
    |nil=>exact absurd q (yg _)
    |cons a b=>rw[q] at h0;exact h0
   have h2:=ih (m / 10) (by omega) h1
   have h3:=xn (m / 10)
   rw[h2] at h3
   have:Br [48]=0:=rfl
   omega
theorem Bs{n:Nat}(h:n<10 ^ 12):y6 (gE n):=⟨yg n,FV,vf h,HY n⟩
theorem Fz{n:Nat}(h:n<10 ^ 12):QT n 0 0 (G3 (gE n)):=by
 have v:=KF (Bs h)
 unfold G3
 rw[aq v.1,aq v.2,xn]
 by_cases h0:(n:Int)=0
 ·rw[ay h0]
  exact⟨⟨.inl rfl,fun r hr=>nomatch hr⟩,fun a e=>by rw[h0];simp[eU]⟩
 ·rw[aq h0]
  exact⟨⟨.inr ⟨[],[(n:Int)],rfl,by simp⟩,fun r hr=>by rw[a7.mp hr];exact uk (r:=[]) h0⟩,fun a e=>by
   unfold eU
   rcases e with _ | e
   ·rcases a with _ | a<;>simp
   ·simp⟩
theorem QT.pow(h:QT 1 i k B):∀d,QT 1 (d*i) (d*k) (z8 B d)
 |0=>by rw[Nat.zero_mul,Nat.zero_mul];exact Fy
 |d+1=>((h.pow d).mul h).cast (by omega) (by rw[vZ]) (by rw[vZ])
theorem QT.Xc{d:Nat}(h:QT 1 i k B)(hi:i<=1)(hk:k<=1)(hd:d<=9):GI B d:=⟨fun j hj=>((h.pow j).fit (n:=10) (by have:=Qn j hi;omega) (by have:=Qn j hk;omega)).sm (by decide),(h.fit (n:=2) (by omega) (by omega)).sm (by decide),h.lim (by decide)⟩
def FM(f:nc)(c:Int)(i k:Nat):Prop:=ib R1 f/\f.QP=0/\c.natAbs<2 ^ 63/\∃B,QT c i k B/\∀st,Runs (Cg f) st (st++[B])
inductive Tt:List nc->Int->Nat->Nat->Prop where
 |nil:Tt [] 1 0 0
 |cons {f:nc} {fs:List nc} {c c':Int} {i i' k k':Nat}:FM f c i k->Tt fs c' i' k'->Tt (f::fs) (c*c') (i+i') (k+k')
theorem Tt.cast{c':Int}{i' k':Nat}{fs:List nc}(h:Tt fs c i k)(e1:c=c')(e2:i=i')(e3:k=k'):Tt fs c' i' k':=by subst e1;subst e2;subst e3;exact h
def mz(c n:Nat):List nc:=if n=0 then [] else if n=1 then [⟨0,[[c]],[[c]],none⟩] else [⟨0,[[c]],[[c]],some n⟩]
def jk(n i k:Nat):List nc:=(if n≠1\/(i=0/\k=0) then [⟨0,[gE n],[gE n],none⟩] else [])++(mz 120 i++mz 121 k)
def Ds(f:nc):List Nat:=f.Vf.flatten++(match f.pow with | none=>[] | some d=>[94,48+d])
theorem xq(c n:Nat):(mz c n).map Ds=cE c n:=by
 unfold mz cE
 split
 ·rfl
 ·split<;>rfl
theorem CZ(n i k:Nat):(jk n i k).map Ds=gB n i k:=by
 unfold jk gB
 rw[aX,aX,xq,xq]
 split
 ·simp[Ds]
 ·rfl
theorem Lk{n:Nat}(h:n<10 ^ 12):FM ⟨0,[gE n],[gE n],none⟩ n 0 0:=⟨⟨bu _,.inl ⟨_,.inl (Bs h),rfl,rfl⟩,fun d e=>by cases e⟩,rfl,by rw[Int.natAbs_natCast];exact je h (by decide),_,Fz h,fun st=>.cons (.atom (.inl (Bs h))) .nil⟩
theorem Ll{c:Nat}{B:Bd}(hc:Ro [c])(e:G3 [c]=B)(m:QT 1 i k B):FM ⟨0,[[c]],[[c]],none⟩ 1 i k:=⟨⟨bu _,.inl ⟨_,hc,rfl,rfl⟩,fun d e=>by cases e⟩,rfl,by decide,B,m,fun st=>by have:=Rh.atom (st:=st) hc;rw[e] at this;exact .cons this .nil⟩
theorem Lj{c d:Nat}{B:Bd}(hc:Ro [c])(e:G3 [c]=B)(m:QT 1 i k B)(hi:i<=1)(hk:k<=1)(hd:d<=8):FM ⟨0,[[c]],[[c]],some d⟩ 1 (d*i) (d*k):=⟨⟨bu _,.inl ⟨_,hc,rfl,rfl⟩,fun d' e=>by cases e;omega⟩,rfl,by decide,_,m.pow d,fun st=>by
 have:=Rh.atom (st:=st) hc
 rw[e] at this
 exact .cons this (.cons (.pow (m.Xc hi hk (by omega)) (by omega)) .nil)⟩
theorem CY{c n:Nat}{B:Bd}(hc:Ro [c])(e:G3 [c]=B)(m:QT 1 i k B)(hi:i<=1)(hk:k<=1)(hn:n<=8):Tt (mz c n) 1 (n*i) (n*k):=by
 unfold mz
 split
 ·rename_i h;subst h;exact Tt.nil.cast rfl (by omega) (by omega)
 ·split
  ·rename_i h;subst h;exact(Tt.cons (Ll hc e m) .nil).cast rfl (by omega) (by omega)
  ·exact(Tt.cons (Lj hc e m hi hk hn) .nil).cast rfl (by omega) (by omega)
theorem Tt.app{fs gs:List nc}(h:Tt fs c i k)(g:Tt gs c' i' k'):Tt (fs++gs) (c*c') (i+i') (k+k'):=by
 induction h with
 |nil=>exact g.cast (by omega) (by omega) (by omega)
 |cons f _ ih=>exact(Tt.cons f ih).cast (A2 _ _ _).symm (by omega) (by omega)
theorem nS{n i k:Nat}(hn:n<10 ^ 12)(hi:i<=8)(hk:k<=8):Tt (jk n i k) n i k:=by
 have hx:=CY (c:=120) (n:=i) (.inr (.inl rfl)) (show G3 [120]=[[0,1]] from rfl) KM (by decide) (by decide) hi
 have hy:=CY (c:=121) (n:=k) (.inr (.inr rfl)) (show G3 [121]=[[],[1]] from rfl) KL (by decide) (by decide) hk
 have hxy:=hx.app hy
 unfold jk
 split
 ·exact((Tt.cons (Lk hn) .nil).app hxy).cast (by omega) (by omega) (by omega)
 ·rename_i h
  have h1:n=1:=se fun z=>h (.inl z)
  subst h1
  exact hxy.cast rfl (by omega) (by omega)
theorem ux(n i k:Nat):∃f fs,jk n i k=f::fs:=by
 unfold jk
 split
 ·exact⟨_,_,rfl⟩
 ·rename_i h
  unfold mz
  by_cases h1:i=0
  ·by_cases h2:k=0
   ·exact absurd (.inr ⟨h1,h2⟩) h
   ·rw[ay h1,aq h2];split<;>exact⟨_,_,rfl⟩
  ·rw[aq h1];split<;>exact⟨_,_,rfl⟩
theorem EX{fs:List nc}(h:Tt fs c i k):∀{A:Bd} {c0:Int} {i0 k0:Nat},QT c0 i0 k0 A->i0+i<=8->k0+k<=8->∃B,QT (c0*c) (i0+i) (k0+k) B/\∀st,Runs (ip fs) (st++[A]) (st++[B]):=by
 induction h with
 |nil=>intro A c0 i0 k0 m _ _;exact⟨A,m.cast (by omega) (by omega) (by omega),fun st=>.nil⟩
 |@cons f fs c c' i i' k k' hf _ ih=>
  intro A c0 i0 k0 m hi hk
  obtain⟨ok,hm,hc,B,mB,rB⟩:=hf
  have mm:=m.mul mB
  obtain⟨B',Xp,Xa⟩:=ih mm (by omega) (by omega)
  refine⟨B',Xp.cast (A2 _ _ _) (by omega) (by omega),fun st=>?_⟩
  have s1:xW f=Cg f:=by unfold xW;rw[hm];exact aU _
  show Runs (xW f++([42]::ip fs)) _ _
  rw[s1]
  exact(rB (st++[A])).app (.cons (.mul ((m.fit (n:=9) (by omega) (by omega)).sm (by decide)) ((mB.fit (n:=9) (by omega) (by omega)).sm (by decide)) (mB.lim hc)) (Xa st))
def kr(m:Nat):List nc->B2
 |[]=>(⟨0,[[48]],[[48]],none⟩,[])
 |f::fs=>({ f with QP:=m },fs)
theorem Cq{fs:List nc}(h:Tt fs c i k)(Tz:fs≠[])(hi:i<=8)(hk:k<=8)(m:Nat)(hm:m<=1):∃B,QT (if m=1 then -c else c) i k B/\pO R1 (kr m fs)/\(∀f∈(kr m fs).2,f.QP=0)/\∀st,Runs (zf (kr m fs)) st (st++[B]):=by
 cases h with
 |nil=>exact absurd rfl Tz
 |@cons f fs c c' i i' k k' hf Wj=>
  obtain⟨ok,hm0,hc,B,mB,rB⟩:=hf
  have all:∀g∈fs,ib R1 g/\g.QP=0:=by
   clear hi hk Tz
   induction Wj with
   |nil=>intro g hg;cases hg
   |cons hf _ ih=>
    intro g hg
    rcases aC.mp hg with rfl | hg
    ·exact⟨hf.1,hf.2.1⟩
    ·exact ih g hg
  have okm:pO R1 (kr m (f::fs)):=⟨⟨by show m<=20;omega,ok.2.1,ok.2.2⟩,fun g hg=>(all g hg).1⟩
  by_cases h1:m=1
  ·subst h1
   obtain⟨B',Xp,Xa⟩:=EX Wj mB.neg (by omega) (by omega)
   refine⟨B',Xp.cast (by rw[ay rfl,Int.neg_mul]) rfl rfl,okm,fun g hg=>(all g hg).2,fun st=>?_⟩
   show Runs ((Cg f++[[109,105,110,117,115]])++ip fs) _ _
   exact((rB st).app (.cons (.neg ((mB.fit (n:=9) (by omega) (by omega)).sm (by decide))) .nil)).app (Xa st)
  ·have h0:m=0:=by omega
   subst h0
   obtain⟨B',Xp,Xa⟩:=EX Wj mB (by omega) (by omega)
   refine⟨B',Xp.cast (by rw[aq h1]) rfl rfl,okm,fun g hg=>(all g hg).2,fun st=>?_⟩
   show Runs ((Cg f++[])++ip fs) _ _
   rw[aU]
   exact(rB st).app (Xa st)
def kh(p:Pr):Bool:=decide (¬p.1<0)
def A6:List Pr->IT
 |[]=>((⟨0,[[48]],[[48]],none⟩,[]),[])
 |p::ps=>(kr (if p.1<0 then 1 else 0) (jk p.1.natAbs p.2.1 p.2.2),ps.map fun q=>(kh q,kr 0 (jk q.1.natAbs q.2.1 q.2.2)))
def vS(ps:List Pr)(a e:Nat):Int:=(ps.map fun p=>if a=p.2.1/\e=p.2.2 then p.1 else 0).sum
theorem Ey(ps qs:List Pr)(a e:Nat):vS (ps++qs) a e=vS ps a e+vS qs a e:=by unfold vS;rw[aX,I9]
theorem Bg:∀(ps:List Pr),(∀p∈ps,ng p)->∀{A:Bd},QD A->(∀a e,9<=a\/9<=e->eU A a e=0)->∃B,QD B/\(∀a e,eU B a e=eU A a e+vS ps a e)/\(∀q∈ps.map fun q=>(kh q,kr 0 (jk q.1.natAbs q.2.1 q.2.2)),pO R1 q.2)/\∀st,Runs (jx (ps.map fun q=>(kh q,kr 0 (jk q.1.natAbs q.2.1 q.2.2)))) (st++[A]) (st++[B])
 |[],_,A,hA,_=>⟨A,hA,fun a e=>by simp[vS],(fun q hq=>nomatch hq),fun st=>.nil⟩
 |p::ps,hp,A,hA,hz=>by
  obtain⟨h1,h2,h3⟩:=hp p (by simp)
  obtain⟨f,fs,ef⟩:=ux p.1.natAbs p.2.1 p.2.2
  obtain⟨B,mB,WJ,_,rB⟩:=Cq (nS h1 h2 h3) (by rw[ef];exact fun z=>nomatch z) h2 h3 0 (by decide)
  rw[aq (by decide)] at mB
  have sA:Sb 1000 A:=(BE hA hz).sm (by decide)
  have sB:Sb 1000 B:=(mB.fit (n:=9) (by omega) (by omega)).sm (by decide)
  have zB:∀a e,9<=a\/9<=e->eU B a e=0:=fun a e q=>by rw[mB.cf,aq (by omega)]
  by_cases h0:p.1<0
  ·obtain⟨C,hC,cC,oC,rC⟩:=Bg ps (fun q hq=>hp q (by simp[hq])) (A:=kQ A (qZ B)) (qR _ _) (fun a e q=>by rw[iC,o9,hz a e q,zB a e q];rfl)
   refine⟨C,hC,fun a e=>?_,fun q hq=>?_,fun st=>?_⟩
   ·rw[cC,iC,o9,mB.cf]
    show _=_+((if a=p.2.1/\e=p.2.2 then p.1 else 0)+vS ps a e)
    split<;>omega
   ·rcases aC.mp hq with rfl | hq
    ·exact WJ
    ·exact oC q hq
   ·show Runs (zf (kr 0 (jk p.1.natAbs p.2.1 p.2.2))++(v5 (kh p)::_)) _ _
    rw[show v5 (kh p)=[45] by unfold kh v5;simp[h0]]
    exact(rB (st++[A])).app (.cons (.sub sA sB) (rC st))
  ·obtain⟨C,hC,cC,oC,rC⟩:=Bg ps (fun q hq=>hp q (by simp[hq])) (A:=kQ A B) (qR _ _) (fun a e q=>by rw[iC,hz a e q,zB a e q];rfl)
   refine⟨C,hC,fun a e=>?_,fun q hq=>?_,fun st=>?_⟩
   ·rw[cC,iC,mB.cf]
    show _=_+((if a=p.2.1/\e=p.2.2 then p.1 else 0)+vS ps a e)
    split<;>omega
   ·rcases aC.mp hq with rfl | hq
    ·exact WJ
    ·exact oC q hq
   ·show Runs (zf (kr 0 (jk p.1.natAbs p.2.1 p.2.2))++(v5 (kh p)::_)) _ _
    rw[show v5 (kh p)=[43] by unfold kh v5;simp;omega]
    exact(rB (st++[A])).app (.cons (.add sA sB) (rC st))
theorem Hv{p:Pr}{ps:List Pr}(hp:∀q∈p::ps,ng q):∃B,QD B/\(∀a e,eU B a e=vS (p::ps) a e)/\m9 R1 (A6 (p::ps))/\Runs (qm (A6 (p::ps))) [] [B]:=by
 obtain⟨h1,h2,h3⟩:=hp p (by simp)
 obtain⟨f,fs,ef⟩:=ux p.1.natAbs p.2.1 p.2.2
 obtain⟨B,mB,WJ,_,rB⟩:=Cq (nS h1 h2 h3) (by rw[ef];exact fun z=>nomatch z) h2 h3 (if p.1<0 then 1 else 0) (by split<;>decide)
 obtain⟨C,hC,cC,oC,rC⟩:=Bg ps (fun q hq=>hp q (by simp[hq])) mB.ok (fun a e q=>by rw[mB.cf,aq (by omega)])
 refine⟨C,hC,fun a e=>?_,⟨WJ,oC⟩,(rB []).app (rC [])⟩
 rw[cC,mB.cf]
 show _=(if a=p.2.1/\e=p.2.2 then p.1 else 0)+vS ps a e
 by_cases q:a=p.2.1/\e=p.2.2
 ·rw[ay q,ay q]
  by_cases h0:p.1<0
  ·simp[h0];omega
  ·simp[h0];omega
 ·rw[aq q,aq q]
theorem Ew(r:List Int)(k a e:Nat):∀t,t<=r.length->vS (mr r k t) a e=if e=k/\r.length-t<=a then r.getD a 0 else 0
 |0,_=>by
  rw[show mr r k 0=[] from rfl]
  show(0:Int)=_
  split
  ·rename_i h
   rw[ah,aZ (by omega)];rfl
  ·rfl
 |t+1,ht=>by
  rw[oR,Ey,Ew r k a e t (by omega)]
  have e1:vS (if r.getD (r.length-1-t) 0≠0 then [(r.getD (r.length-1-t) 0,r.length-1-t,k)] else []) a e=if a=r.length-1-t/\e=k then r.getD (r.length-1-t) 0 else 0:=by
   split
   ·simp[vS]
   ·rename_i h
    rw[Classical.not_not.mp h]
    simp[vS]
  rw[e1]
  by_cases h1:e=k
  ·by_cases h2:a=r.length-1-t
   ·rw[aq (by omega),ay ⟨h2,h1⟩,ay ⟨h1,by omega⟩,h2];omega
   ·rw[aq (c:=a=r.length-1-t/\e=k) (fun z=>h2 z.1)]
    by_cases h3:r.length-t<=a
    ·rw[ay ⟨h1,h3⟩,ay ⟨h1,by omega⟩];omega
    ·rw[aq (fun z=>h3 z.2),aq (by omega)];rfl
  ·rw[aq (fun z=>h1 z.1),aq (fun z=>h1 z.2),aq (fun z=>h1 z.1)];rfl
theorem Ex(b:Bd)(a e:Nat):∀t,t<=b.length->vS (RY b t) a e=if b.length-t<=e then eU b a e else 0
 |0,_=>by
  rw[show RY b 0=[] from rfl]
  show(0:Int)=_
  split
  ·rename_i h
   unfold eU
   rw[ah (l:=b),aZ (by omega)];simp
  ·rfl
 |t+1,ht=>by
  rw[qQ,Ey,Ex b a e t (by omega),Ew _ _ _ _ _ (ak _)]
  by_cases h1:e=b.length-1-t
  ·rw[aq (by omega),ay ⟨h1,by omega⟩,ay (by omega),h1]
   show(0:Int)+eU b a _=_
   omega
  ·rw[aq (c:=e=b.length-1-t/\_) (fun z=>h1 z.1)]
   by_cases h3:b.length-t<=e
   ·rw[ay h3,ay (by omega)];omega
   ·rw[aq h3,aq (by omega)];rfl
theorem JP(b:Bd)(a e:Nat):vS (sx b) a e=eU b a e:=by
 unfold sx
 rw[Ex b a e b.length (ak _),ay (by omega)]
def Hn(cs:List Nat):Prop:=∀c,cs.head?=some c->al c=false
theorem Ny:al 42=false:=by decide +kernel
theorem OY:al 43=false:=by decide +kernel
theorem Nx:al 45=false:=by decide +kernel
theorem Nv:al 94=false:=by decide +kernel
theorem Hn.of{c:Nat}(h:al c=false):Hn (c::cs):=fun d e=>by cases e;exact h
theorem x8{st:TK}(h:R1 tk st):∃u,Ro u/\tk=[u]/\st=[u]:=by
 rcases h with h | ⟨T,h,_⟩
 ·exact h
 ·exact h.1.1.2.1.elim
theorem Jw{f:nc}{ts:List (List Nat)}(hf:ib R1 f)(hc:Hn cs)(h:Lex cs ts):Lex (Ds f++cs) (xP f++ts):=by
 obtain⟨m,tk,st,po⟩:=f
 obtain⟨_,hu,hp⟩:=hf
 obtain⟨u,hw,e1,e2⟩:=x8 hu
 have e1:tk=[u]:=e1
 subst e1
 cases po with
 |none=>
  show Lex (((u++[])++[])++cs) (u::ts)
  rw[aU,aU]
  exact .run hw.v hc h
 |some d=>
  have hd:=hp d rfl
  show Lex (((u++[])++[94,48+d])++cs) (u::([94]::([48+d]::ts)))
  rw[aU,ax]
  refine .run hw.v (Hn.of Nv) (.sign Nv (by decide) (.inl (by decide)) ?_)
  exact .run (u:=[48+d]) (.inl ⟨by simp,fun c hc=>by simp at hc;omega,by simp,fun e=>by simp at e;simp[e]⟩) hc h
theorem FG{ts:List (List Nat)}(hc:Hn cs)(h:Lex cs ts):∀fs:List nc,(∀f∈fs,ib R1 f)->(∀f∈fs,f.QP=0)->Lex ((fs.map Ds).flatMap (fun v=>42::v)++cs) (fk fs++ts)/\Hn ((fs.map Ds).flatMap (fun v=>42::v)++cs)
 |[],_,_=>⟨h,hc⟩
 |f::fs,h1,h2=>by
  obtain⟨a,b⟩:=FG hc h fs (fun g hg=>h1 g (by simp[hg])) fun g hg=>h2 g (by simp[hg])
  refine⟨?_,Hn.of Ny⟩
  have e:fk (f::fs)++ts=[42]::(xP f++(fk fs++ts)):=by
   show[42]::(tF f++fk fs)++ts=_
   unfold tF
   rw[h2 f (by simp)]
   simp
  rw[e]
  show Lex (42::(Ds f++(fs.map Ds).flatMap (fun v=>42::v))++cs) _
  rw[List.cons_append,ax]
  exact .sign Ny (by decide) (.inl (by decide)) (Jw (h1 f (by simp)) b a)
theorem CM{ts:List (List Nat)}(hc:Hn cs)(h:Lex cs ts){f:nc}{fs:List nc}(h1:ib R1 f)(h2:∀g∈fs,ib R1 g)(h3:∀g∈fs,g.QP=0):Lex (vz ((f::fs).map Ds)++cs) (xP f++(fk fs++ts)):=by
 obtain⟨a,b⟩:=FG hc h fs h2 h3
 show Lex ((Ds f++(fs.map Ds).flatMap fun v=>42::v)++cs) _
 rw[ax]
 exact Jw h1 b a
theorem BC{fs:List nc}(h:Tt fs c i k):∀g∈fs,ib R1 g/\g.QP=0:=by
 induction h with
 |nil=>intro g hg;cases hg
 |cons hf _ ih=>
  intro g hg
  rcases aC.mp hg with rfl | hg
  ·exact⟨hf.1,hf.2.1⟩
  ·exact ih g hg
theorem FF{ts:List (List Nat)}(hc:Hn cs)(hl:Lex cs ts):∀ps:List Pr,(∀p∈ps,ng p)->Lex ((ps.flatMap fun q=>np q++gn q)++cs) (fV (ps.map fun q=>(kh q,kr 0 (jk q.1.natAbs q.2.1 q.2.2)))++ts)/\Hn ((ps.flatMap fun q=>np q++gn q)++cs)
 |[],_=>⟨hl,hc⟩
 |p::ps,hp=>by
  obtain⟨a,b⟩:=FF hc hl ps fun q hq=>hp q (by simp[hq])
  obtain⟨h1,h2,h3⟩:=hp p (by simp)
  have ok:=BC (nS h1 h2 h3)
  obtain⟨f,fs,ef⟩:=ux p.1.natAbs p.2.1 p.2.2
  have eg:gn p=vz ((f::fs).map Ds):=by unfold gn;rw[<-CZ,ef]
  rw[ef] at ok
  have l:=CM (f:=f) (fs:=fs) b a (ok f (by simp)).1 (fun g hg=>(ok g (by simp[hg])).1) (fun g hg=>(ok g (by simp[hg])).2)
  have hm:=(ok f (by simp)).2
  have et:fV ((p::ps).map fun q=>(kh q,kr 0 (jk q.1.natAbs q.2.1 q.2.2)))++ts=v5 (kh p)::(xP f++(fk fs++(fV (ps.map fun q=>(kh q,kr 0 (jk q.1.natAbs q.2.1 q.2.2)))++ts))):=by
   show v5 (kh p)::(v8 (kr 0 (jk p.1.natAbs p.2.1 p.2.2))++_)++ts=_
   rw[ef]
   show v5 (kh p)::((([]++xP f)++fk fs)++_)++ts=_
   simp
  rw[et,List.flatMap_cons,eg,ax,ax]
  unfold np
  by_cases h0:p.1<0
  ·rw[ay h0,show v5 (kh p)=[45] by unfold kh v5;simp[h0]]
   exact⟨.sp (.sign Nx (by decide) (.inl (by decide)) (.sp l)),Hn.of GE⟩
  ·rw[aq h0,show v5 (kh p)=[43] by unfold kh v5;simp;omega]
   exact⟨.sp (.sign OY (by decide) (.inl (by decide)) (.sp l)),Hn.of GE⟩
theorem H0{ts:List (List Nat)}(hc:Hn cs)(hl:Lex cs ts){p:Pr}{ps:List Pr}(hp:∀q∈p::ps,ng q):Lex (fY (p::ps)++cs) (j5 (A6 (p::ps))++ts):=by
 obtain⟨a,b⟩:=FF hc hl ps fun q hq=>hp q (by simp[hq])
 obtain⟨h1,h2,h3⟩:=hp p (by simp)
 have ok:=BC (nS h1 h2 h3)
 obtain⟨f,fs,ef⟩:=ux p.1.natAbs p.2.1 p.2.2
 have eg:gn p=vz ((f::fs).map Ds):=by unfold gn;rw[<-CZ,ef]
 rw[ef] at ok
 have l:=CM (f:=f) (fs:=fs) b a (ok f (by simp)).1 (fun g hg=>(ok g (by simp[hg])).1) (fun g hg=>(ok g (by simp[hg])).2)
 show Lex (((lV p++gn p)++(ps.flatMap fun q=>np q++gn q))++cs) ((v8 (kr (if p.1<0 then 1 else 0) (jk p.1.natAbs p.2.1 p.2.2))++fV (ps.map fun q=>(kh q,kr 0 (jk q.1.natAbs q.2.1 q.2.2))))++ts)
 rw[ef,eg,ax,ax,ax]
 unfold lV
 by_cases h0:p.1<0
 ·rw[ay h0,ay h0]
  show Lex (45::_) ((([[45]]++xP f)++fk fs)++_)
  rw[ax,ax]
  exact .sign Nx (by decide) (.inl (by decide)) l
 ·rw[aq h0,aq h0]
  show Lex _ ((([]++xP f)++fk fs)++_)
  rw[ax]
  exact l
def El(u:List Nat):Prop:=(∀x∈u,x<128)/\u≠[40]/\u≠[41]/\u≠[91]/\u≠[93]
theorem HV(h:Ro u):El u:=by
 have key:∀c,c<48\/(57<c/\c≠120/\c≠121)->u≠[c]:=fun c hc e=>by
  subst e
  rcases h with h | h | h
  ·have:=h.2.1 c (a7.mpr rfl);omega
  ·cases h;omega
  ·cases h;omega
 exact⟨h.lt,key 40 (by decide),key 41 (by decide),key 91 (by decide),key 93 (by decide)⟩
theorem MV{f:nc}(h:ib R1 f):∀u∈xP f,El u:=fun u hu=>by
 obtain⟨v,hv,e1,e2⟩:=x8 h.2.1
 unfold xP at hu
 rw[e1] at hu
 rcases aC.mp hu with rfl | hu
 ·exact HV hv
 ·obtain⟨m,a,a',po⟩:=f
  cases po with
  |none=>cases hu
  |some d=>
   have:=h.2.2 d rfl
   simp[z6] at hu
   rcases hu with rfl | rfl
   ·exact⟨by decide,by decide,by decide,by decide,by decide⟩
   ·exact⟨fun x hx=>by simp at hx;omega,by simp;omega,by simp;omega,by simp;omega,by simp;omega⟩
theorem Jr{f:nc}(h:ib R1 f):∀u∈tF f,El u:=fun u hu=>by
 rcases aM.mp hu with hu | hu
 ·rw[(B5.mp hu).2];exact⟨by decide,by decide,by decide,by decide,by decide⟩
 ·exact MV h u hu
theorem Fu:∀{fs:List nc},(∀f∈fs,ib R1 f)->∀u∈fk fs,El u
 |[],_,u,hu=>nomatch hu
 |f::fs,h,u,hu=>by
  rcases aC.mp hu with rfl | hu
  ·exact⟨by decide,by decide,by decide,by decide,by decide⟩
  ·rcases aM.mp hu with hu | hu
   ·exact Jr (h f (by simp)) u hu
   ·exact Fu (fun g hg=>h g (by simp[hg])) u hu
theorem Jq{p:B2}(h:pO R1 p):∀u∈v8 p,El u:=fun u hu=>by
 rcases aM.mp hu with hu | hu
 ·exact Jr h.1 u hu
 ·exact Fu h.2 u hu
theorem Ft:∀{qs:List (Bool×B2)},(∀q∈qs,pO R1 q.2)->∀u∈fV qs,El u
 |[],_,u,hu=>nomatch hu
 |q::qs,h,u,hu=>by
  rcases aC.mp hu with rfl | hu
  ·unfold v5;split<;>exact⟨by decide,by decide,by decide,by decide,by decide⟩
  ·rcases aM.mp hu with hu | hu
   ·exact Jq (h q (by simp)) u hu
   ·exact Ft (fun g hg=>h g (by simp[hg])) u hu
theorem MW(h:m9 R1 t):∀u∈j5 t,El u:=fun u hu=>by
 rcases aM.mp hu with hu | hu
 ·exact Jq h.1 u hu
 ·exact Ft h.2 u hu
theorem o8{o c:List Nat}:∀{ts:List (List Nat)},(∀u∈ts,u≠o/\u≠c)->gr o c ts=0
 |[],_=>rfl
 |u::ts,h=>by
  have:=h u (by simp)
  rw[gr,o8 fun v hv=>h v (by simp[hv]),ao (fun z=>this.1 (dX z)),ao (fun z=>this.2 (dX z))]
  rfl
theorem Cm{f:nc}(h:R1 f.Vf f.ast):(xW f).length<=3:=by
 obtain⟨v,hv,e1,e2⟩:=x8 h
 obtain⟨m,a,a',po⟩:=f
 have e2:a'=[v]:=e2
 subst e2
 unfold xW Cg G1
 cases po <;> (dsimp [z7];split<;>simp)
theorem zQ:∀fs:List nc,(∀f∈fs,ib R1 f)->(ip fs).length<=4*fs.length
 |[],_=>ak _
 |f::fs,h=>by
  have:=zQ fs fun g hg=>h g (by simp[hg])
  have:=Cm (h f (by simp)).2.1
  show(xW f++([42]::ip fs)).length<=_
  rw[ac,a5,a5]
  omega
theorem Aq(n i k:Nat):(jk n i k).length<=3:=by
 have h:∀c n,(mz c n).length<=1:=fun c n=>by unfold mz;split <;> (try split)<;>simp
 have:=h 120 i
 have:=h 121 k
 unfold jk
 rw[ac,ac]
 split<;>simp<;>omega
theorem Cj(m:Nat){fs:List nc}(h:fs.length<=3)(hk:∀f∈fs,ib R1 f):(zf (kr m fs)).length<=11:=by
 unfold zf
 cases fs with
 |nil=>exact cX rfl
 |cons f fs=>
  have:=zQ fs fun g hg=>hk g (by simp[hg])
  have:=Cm (f:={ f with QP:=m }) (hk f (by simp)).2.1
  rw[ac]
  simp at h
  show(xW { f with QP:=m }).length+(ip fs).length<=11
  omega
theorem C0{p:Pr}(h:ng p):∀f∈jk p.1.natAbs p.2.1 p.2.2,ib R1 f:=fun f hf=>(BC (nS h.1 h.2.1 h.2.2) f hf).1
theorem zP:∀ps:List Pr,(∀p∈ps,ng p)->(jx (ps.map fun q=>(kh q,kr 0 (jk q.1.natAbs q.2.1 q.2.2)))).length<=12*ps.length
 |[],_=>ak _
 |p::ps,h=>by
  have:=zP ps fun q hq=>h q (by simp[hq])
  have:=Cj 0 (Aq p.1.natAbs p.2.1 p.2.2) (C0 (h p (by simp)))
  show(zf (kr 0 (jk p.1.natAbs p.2.1 p.2.2))++(v5 (kh p)::_)).length<=_
  rw[ac,a5,a5]
  omega
theorem Hh{p:Pr}{ps:List Pr}(h:∀q∈p::ps,ng q):(qm (A6 (p::ps))).length<=12*(ps.length+1):=by
 have:=zP ps fun q hq=>h q (by simp[hq])
 have:=Cj (if p.1<0 then 1 else 0) (Aq p.1.natAbs p.2.1 p.2.2) (C0 (h p (by simp)))
 show(zf (kr _ (jk p.1.natAbs p.2.1 p.2.2))++jx (ps.map fun q=>(kh q,kr 0 (jk q.1.natAbs q.2.1 q.2.2)))).length<=_
 rw[ac]
 omega
structure O2(b:Bd)(T:IT):Prop where
 lex:∀cs ts,Hn cs->Lex cs ts->Lex (zT b++cs) (j5 T++ts)
 toks:∀u∈j5 T,El u
 ok:m9 R1 T
 len:(qm T).length<=12*((sx b).length+1)
 run:Runs (qm T) [] [b]
 lt:∀c∈zT b,c<128
theorem KG:y6 [48]:=⟨by simp,fun c hc=>by simp at hc;omega,by simp,fun _=>rfl⟩
theorem xb(h:SB b)(hb:QD b):∃T,O2 b T:=by
 have hp:=h.RY b.length
 have WL:∀p∈sx b,ng p:=hp
 have hv:=JP b
 have QW:=so WL
 cases e:sx b with
 |nil=>
  rw[e] at hv
  have hz:b=[]:=sT hb ⟨.inl rfl,fun r hr=>nomatch hr⟩ fun i k=>by rw[<-hv];rfl
  have es:zT b=[48]:=by unfold zT;rw[e];rfl
  refine⟨A6 [],fun cs ts hc hl=>?_,?_,?_,?_,?_,?_⟩
  ·rw[es];exact .run (u:=[48]) (.inl KG) hc hl
  ·intro u hu
   simp[A6,j5,v8,tF,xP,fk,fV,z6,kr] at hu
   subst hu
   exact⟨by decide,by decide,by decide,by decide,by decide⟩
  ·exact⟨⟨⟨bu _,.inl ⟨[48],.inl KG,rfl,rfl⟩,fun d e=>by cases e⟩,fun f hf=>nomatch hf⟩,fun q hq=>nomatch hq⟩
  ·exact aL (m:=12) (by decide) (by omega)
  ·rw[hz];exact .cons (Rh.atom (u:=[48]) (st:=[]) (.inl KG)) .nil
  ·rw[es];decide
 |cons p ps=>
  rw[e] at hv QW WL
  have es:zT b=fY (p::ps):=by
   unfold zT
   rw[e,aq (fun z=>by have:=Ur.mp z;cases this)]
  obtain⟨B,WJ,cB,tB,rB⟩:=Hv WL
  have eB:b=B:=sT hb WJ fun i k=>by rw[cB,hv]
  refine⟨A6 (p::ps),fun cs ts hc hl=>by rw[es];exact H0 hc hl WL,MW tB,tB,?_,by rw[eB];exact rB,by rw[es];exact QW⟩
  have:=Hh WL
  rw[e,a5];omega
theorem EL{f:nc}(h:R1 f.Vf f.ast):(xW f).length<=(tF f).length:=by
 obtain⟨v,hv,e1,e2⟩:=x8 h
 obtain⟨m,a,a',po⟩:=f
 have e1:a=[v]:=e1
 have e2:a'=[v]:=e2
 subst e1;subst e2
 unfold xW Cg G1 tF xP
 cases po <;> (dsimp [z7,z6];split<;>simp<;>omega)
theorem Ck:∀fs:List nc,(∀f∈fs,ib R1 f)->(ip fs).length<=(fk fs).length
 |[],_=>ak _
 |f::fs,h=>by
  have:=Ck fs fun g hg=>h g (by simp[hg])
  have:=EL (h f (by simp)).2.1
  simp[ip,fk];omega
theorem EK{p:B2}(h:pO R1 p):(zf p).length<=(v8 p).length:=by
 have:=EL h.1.2.1
 have:=Ck p.2 h.2
 simp[zf,v8];omega
theorem Ci:∀qs:List (Bool×B2),(∀q∈qs,pO R1 q.2)->(jx qs).length<=(fV qs).length
 |[],_=>ak _
 |q::qs,h=>by
  have:=Ci qs fun g hg=>h g (by simp[hg])
  have:=EK (h q (by simp))
  simp[jx,fV];omega
theorem EJ(h:m9 R1 t):(qm t).length<=(j5 t).length:=by
 have:=EK h.1
 have:=Ci t.2 h.2
 simp[qm,j5];omega
theorem xR(ps:List mF):(cW ps).length<=(bY ps).length:=by
 induction ps with
 |nil=>exact ak _
 |cons p ps ih=>
  have:(GX p).length ≥ 1:=by cases p<;>simp[GX]
  simp[cW,bY] at ih ⊢;omega
theorem Bc:∀{c:mQ},jp R1 c->(sg c).length<=(lK c).length
 |.cmp x,h=>by
  have:=EJ (show m9 R1 x.1 from h.1)
  have:=EJ (show m9 R1 x.2.2 from h.2.2)
  simp[sg,lK,w9,zI];omega
 |.two a p c q e,h=>by
  have:=Bc (show jp R1 c from h.2.2.1)
  have:=Bc (show jp R1 e from h.2.2.2)
  have:=xR p
  have:=xR q
  simp[sg,lK];omega
theorem J0{Y:List mF×mQ}(h:Do R1 Y):(Ce Y).length<=(zd Y).length:=by
 have:=Bc h.2
 have:=xR Y.1
 simp[Ce,zd];omega
inductive Sg where
 |is (b:Bd) (p:List Nat×List Int) | neg (s:Sg) | qu (a l:Bool) (s:Sg) | two (a:Bool) (s t:Sg)
def dS:Sg->D
 |.is b p=>OI b p.2
 |.neg s=>Py (dS s)
 |.qu a l s=>Pw a l (dS s)
 |.two a s t=>Pt a (dS s) (dS t)
def fE:Sg->List Nat
 |.is b p=>zT b++(32::(p.1++[32,48]))
 |.neg s=>kU++(32::fE s)
 |.qu a l s=>qw a++(32::(lw l++(32::fE s)))
 |.two a s t=>91::(fE s++(32::(aw a++(32::(fE t++[93])))))
inductive Rd:Sg->List mF->mQ->Prop where
 |is {b:Bd} {p:List Nat×List Int} {T U:IT}:O2 b T->O2 [] U->Sb 1000 b->QD b->p∈Rn->Rd (.is b p) [] (.cmp (T,p.1,U))
 |neg {s:Sg} {ps:List mF} {c:mQ}:Rd s ps c->Rd (.neg s) (.neg::ps) c
 |qu {a l:Bool} {s:Sg} {ps:List mF} {c:mQ}:Rd s ps c->Rd (.qu a l s) (.qu a l::ps) c
 |two {a:Bool} {s t:Sg} {p q:List mF} {c e:mQ}:Rd s p c->p.length<=20->Rd t q e->q.length<=20->Rd (.two a s t) [] (.two a p c q e)
theorem vK{p:List Nat×List Int}(h:p∈Rn):p.1∈ph:=(show ∀p∈Rn,p.1∈ph by decide) p h
theorem Rd.ok(h:Rd s ps c):jp R1 c:=by
 induction h with
 |is hT hU _ _ hp=>exact⟨hT.ok,vK hp,hU.ok⟩
 |neg _ ih=>exact ih
 |qu _ ih=>exact ih
 |two _ h1 _ h2 i1 i2=>exact⟨h1,h2,i1,i2⟩
theorem D9:al 32=false:=by decide +kernel
theorem OX:al 91=false:=by decide +kernel
theorem Nw:al 93=false:=by decide +kernel
theorem Ui:al 60=false/\al 61=false/\al 62=false/\al 33=false:=by decide +kernel
theorem yi{u:List Nat}(h:u∈JM)(hc:Hn cs)(hl:Lex cs ts):Lex (u++cs) (u::ts):=.run (.inr h) hc hl
theorem KR{g:List Nat}(h:g∈ph)(hl:Lex cs ts):Lex (g++(32::cs)) (g::ts):=by
 simp only[ph,aC,jf,Eg] at h
 rcases h with rfl | rfl | rfl | rfl | rfl | rfl
 ·exact .sign Ui.1 (by decide) (.inr ⟨.inl rfl,by simp⟩) (.sp hl)
 ·exact .sign Ui.2.1 (by decide) (.inl (by decide)) (.sp hl)
 ·exact .sign Ui.2.2.1 (by decide) (.inr ⟨.inr rfl,by simp⟩) (.sp hl)
 ·exact .dbl (.inl rfl) (.sp hl)
 ·exact .dbl (.inr (.inl rfl)) (.sp hl)
 ·exact .dbl (.inr (.inr rfl)) (.sp hl)
theorem Hr:zT []=[48]:=by decide +kernel
theorem Rd.lex(h:Rd s ps c):∀{cs:List Nat} {ts:TK},Hn cs->Lex cs ts->Lex (fE s++cs) (bY ps++(lK c++ts)):=by
 induction h with
 |@is b p T U hT hU _ _ hp=>
  intro cs ts hc hl
  have l0:=hU.lex cs ts hc hl
  rw[Hr] at l0
  have l1:=hT.lex (32::(p.1++(32::(48::cs)))) (p.1::(j5 U++ts)) (Hn.of D9) (.sp (KR (vK hp) l0))
  have e1:fE (.is b p)++cs=zT b++(32::(p.1++(32::(48::cs)))):=by simp[fE]
  have e2:bY []++(lK (.cmp (T,p.1,U))++ts)=j5 T++(p.1::(j5 U++ts)):=by simp[bY,lK,zI]
  rw[e1,e2];exact l1
 |@neg s ps c _ ih=>
  intro cs ts hc hl
  have e1:fE (.neg s)++cs=kU++(32::(fE s++cs)):=by simp[fE]
  have e2:bY (.neg::ps)++(lK c++ts)=kU::(bY ps++(lK c++ts)):=by simp[bY,GX]
  rw[e1,e2]
  exact yi (by decide) (Hn.of D9) (.sp (ih hc hl))
 |@qu a l s ps c _ ih=>
  intro cs ts hc hl
  have e1:fE (.qu a l s)++cs=qw a++(32::(lw l++(32::(fE s++cs)))):=by simp[fE]
  have e2:bY (.qu a l::ps)++(lK c++ts)=qw a::(lw l::(bY ps++(lK c++ts))):=by simp[bY,GX]
  rw[e1,e2]
  exact yi (by cases a<;>decide) (Hn.of D9) (.sp (yi (by cases l<;>decide) (Hn.of D9) (.sp (ih hc hl))))
 |@two a s t p q c e _ _ _ _ i1 i2=>
  intro cs ts hc hl
  have e1:fE (.two a s t)++cs=91::(fE s++(32::(aw a++(32::(fE t++(93::cs)))))):=by simp[fE]
  have e2:bY []++(lK (.two a p c q e)++ts)=[91]::(bY p++(lK c++(aw a::(bY q++(lK e++([93]::ts)))))):=by simp[bY,lK]
  rw[e1,e2]
  exact .sign OX (by decide) (.inl (by decide)) (i1 (Hn.of D9) (.sp (yi (by cases a<;>decide) (Hn.of D9) (.sp (i2 (Hn.of Nw) (.sign Nw (by decide) (.inl (by decide)) hl))))))
theorem MO(h:QD b):kQ b (qZ [])=b:=sT (qR _ _) h fun i k=>by
 rw[iC,o9]
 show _ + -(0:Int)=_
 omega
theorem EM:Sb 1000 []:=Pv
theorem Rd.run(h:Rd s ps c):∀pre:List D,Ri (sg c++cW ps) pre (pre++[dS s]):=by
 induction h with
 |@is b p T U hT hU hb ok hp=>
  intro pre
  have r1:=Ri.term pre hT.run
  have r2:=Ri.term (pre++[aA b]) hU.run
  have st:RG p.1 (pre++[aA b]++[aA []]) (pre++[OI (kQ b (qZ [])) p.2]):=.cmp hp hb EM
  rw[MO ok] at st
  have e:sg (.cmp (T,p.1,U))++cW []=qm T++(qm U++[p.1]):=by simp[sg,w9,cW]
  rw[e]
  simp at r1 r2
  refine r1.app (Ri.app (b:=pre++[aA b]++[aA []]) (by simpa using r2) (.cons st .nil))
 |@neg s ps c _ ih=>
  intro pre
  have e:sg c++cW (.neg::ps)=(sg c++cW ps)++[kU]:=by simp[cW,ze]
  rw[e]
  exact(ih pre).app (.cons .neg .nil)
 |@qu a l s ps c _ ih=>
  intro pre
  have e:sg c++cW (.qu a l::ps)=(sg c++cW ps)++[ze (.qu a l)]:=by simp[cW]
  rw[e]
  exact(ih pre).app (.cons .qu .nil)
 |@two a s t p q c e _ _ _ _ i1 i2=>
  intro pre
  have e1:sg (.two a p c q e)++cW []=(sg c++cW p)++((sg e++cW q)++[aw a]):=by simp[sg,cW]
  rw[e1]
  exact(i1 pre).app ((i2 (pre++[dS s])).app (.cons .two .nil))
theorem kg(o c:List Nat):∀a b:TK,gr o c (a++b)=gr o c a+gr o c b
 |[],b=>by simp[gr]
 |u::a,b=>by
  show gr o c (a++b)+_=gr o c a+_+_
  rw[kg o c a b];omega
structure TJ(n:Nat)(ts:TK):Prop where
 all:gr [91] [93] ts=0
 up:∀i,gr [91] [93] (ts.take i)<=n
 none:∀u∈ts,u≠[40]/\u≠[41]
 lt:∀u∈ts,∀x∈u,x<128
theorem TJ.of{ts:TK}(h:∀u∈ts,El u):TJ 0 ts:=⟨o8 fun u hu=>⟨(h u hu).2.2.2.1,(h u hu).2.2.2.2⟩,fun i=>by rw[o8 fun u hu=>⟨(h u (dg hu)).2.2.2.1,(h u (dg hu)).2.2.2.2⟩];exact Int.le_refl _,fun u hu=>⟨(h u hu).2.1,(h u hu).2.2.1⟩,fun u hu=>(h u hu).1⟩
theorem TJ.WD{m:Nat}(h:TJ n ts)(hm:n<=m):TJ m ts:=⟨h.all,fun i=>by have:=h.up i;omega,h.none,h.lt⟩
theorem TJ.app(h:TJ n a)(g:TJ n b):TJ n (a++b):=⟨by rw[kg,h.all,g.all];rfl,fun i=>by
 rw[ud,kg]
 by_cases hi:i<=a.length
 ·rw[show i-a.length=0 by omega,y9]
  have:=h.up i
  simp[gr];omega
 ·rw[eY (by omega),h.all]
  have:=g.up (i-a.length)
  omega,fun u hu=>(aM.mp hu).elim (h.none u) (g.none u),fun u hu=>(aM.mp hu).elim (h.lt u) (g.lt u)⟩
theorem De:gr [91] [93] [[91]]=1:=by decide +kernel
theorem Df:gr [91] [93] [[93]]=-1:=by decide +kernel
theorem TJ.box(h:TJ n ts):TJ (n+1) ([91]::(ts++[[93]])):=by
 have e:[91]::(ts++[[93]])=[[91]]++(ts++[[93]]):=rfl
 refine⟨by rw[e,kg,kg,h.all,De,Df];rfl,fun i=>?_,fun u hu=>?_,fun u hu=>?_⟩
 ·cases i with
  |zero=>simp[gr];omega
  |succ i=>
   show gr [91] [93] ([[91]]++(ts++[[93]]).take i)<=_
   rw[kg,De,ud,kg]
   have h1:=h.up i
   by_cases hi:i<=ts.length
   ·rw[show i-ts.length=0 by omega,y9]
    simp[gr];omega
   ·rw[eY (l:=[[93]]) (by simp;omega),Df]
    omega
 ·simp at hu
  rcases hu with rfl | hu | rfl
  ·decide
  ·exact h.none u hu
  ·decide
 ·simp at hu
  rcases hu with rfl | hu | rfl
  ·decide
  ·exact h.lt u hu
  ·decide
def zh:mQ->Nat
 |.cmp _=>0
 |.two _ _ c _ e=>max (zh c) (zh e)+1
theorem Fs{u:List Nat}(h:u∈JM):El u:=by
 revert h
 simp only[JM,aC,jf,Eg]
 rintro(rfl | rfl | rfl | rfl | rfl | rfl | rfl)<;>exact⟨by decide,by decide,by decide,by decide,by decide⟩
theorem ye{u:List Nat}(h:u∈ph):El u:=by
 revert h
 simp only[ph,aC,jf,Eg]
 rintro(rfl | rfl | rfl | rfl | rfl | rfl)<;>exact⟨by decide,by decide,by decide,by decide,by decide⟩
theorem yf:∀ps:List mF,∀u∈bY ps,El u
 |[],u,hu=>nomatch hu
 |p::ps,u,hu=>by
  rcases aM.mp hu with hu | hu
  ·refine Fs ?_
   cases p with
   |neg=>simp[GX] at hu;subst hu;decide
   |qu a l=>
    simp[GX] at hu
    rcases hu with rfl | rfl
    ·cases a<;>decide
    ·cases l<;>decide
  ·exact yf ps u hu
theorem Rd.bal(h:Rd s ps c):TJ (zh c) (lK c):=by
 induction h with
 |@is b p T U hT hU _ _ hp=>
  refine TJ.of fun u hu=>?_
  rcases aM.mp (show u∈j5 T++p.1::j5 U from hu) with z | z
  ·exact hT.toks u z
  ·rcases aC.mp z with rfl | z
   ·exact ye (vK hp)
   ·exact hU.toks u z
 |neg _ ih=>exact ih
 |qu _ ih=>exact ih
 |@two a s t p q c e _ _ _ _ i1 i2=>
  have b1:=i1.WD (Nat.le_max_left (zh c) (zh e))
  have b2:=i2.WD (Nat.le_max_right (zh c) (zh e))
  have bp:=(TJ.of (yf p)).WD (bu (max (zh c) (zh e)))
  have bq:=(TJ.of (yf q)).WD (bu (max (zh c) (zh e)))
  have ba:=(TJ.of (ts:=[aw a]) fun u hu=>Fs (by simp at hu;subst hu;cases a<;>decide)).WD (bu (max (zh c) (zh e)))
  have:=(bp.app (b1.app (ba.app (bq.app b2)))).box
  have e2:lK (.two a p c q e)=[91]::((bY p++(lK c++([aw a]++(bY q++lK e))))++[[93]]):=by simp[lK]
  rw[e2];exact this
theorem Rd.deep(h:Rd s ps c)(hd:zh c<=20):B4 (zd (ps,c))/\∀u∈zd (ps,c),∀x∈u,x<128:=by
 have b:=((TJ.of (yf ps)).WD (bu (zh c))).app h.bal
 refine⟨fun i _=>⟨?_,?_⟩,b.lt⟩
 ·show gr [40] [41] (List.take i (bY ps++lK c))<=20
  rw[o8 fun u hu=>b.none u (dg hu)];decide
 ·have:=b.up i
  show gr [91] [93] (List.take i (bY ps++lK c))<=20
  omega
theorem Rd.lt(h:Rd s ps c):∀x∈fE s,x<128:=by
 induction h with
 |@is b p T U hT hU _ _ hp=>
  intro x hx
  have hg:=(ye (vK hp)).1
  simp[fE] at hx
  rcases hx with hx | rfl | hx | rfl | rfl
  ·exact hT.lt x hx
  ·decide
  ·exact hg x hx
  ·decide
  ·decide
 |neg _ ih=>
  intro x hx
  simp[fE,kU] at hx
  rcases hx with rfl | rfl | rfl | rfl | hx
  ·decide
  ·decide
  ·decide
  ·decide
  ·exact ih x hx
 |@qu a l s ps c _ ih=>
  intro x hx
  have h1:∀x∈qw a,x<128:=by cases a<;>decide
  have h2:∀x∈lw l,x<128:=by cases l<;>decide
  simp[fE] at hx
  rcases hx with hx | rfl | hx | rfl | hx
  ·exact h1 x hx
  ·decide
  ·exact h2 x hx
  ·decide
  ·exact ih x hx
 |@two a s t p q c e _ _ _ _ i1 i2=>
  intro x hx
  simp[fE] at hx
  rcases hx with rfl | hx | rfl | hx | rfl | hx | rfl
  ·decide
  ·exact i1 x hx
  ·decide
  ·exact rS a x hx
  ·decide
  ·exact i2 x hx
  ·decide
theorem Rd.back(h:Rd s ps c)(hp:ps.length<=20)(hd:zh c<=20)(hz:(fE s).length<=2000):iX R1 [.str (S (fE s))] (dS s):=by
 have l:=h.lex (cs:=[]) (ts:=[]) (fun c e=>by cases e) .nil
 rw[aU,aU] at l
 have ok:Do R1 (ps,c):=⟨hp,h.ok⟩
 have ln:=l.len
 have st:=J0 ok
 refine⟨fE s,(ps,c),rfl,l,h.lt,hz,(h.deep hd).2,(h.deep hd).1,ok,?_,h.run []⟩
 have:(zd (ps,c)).length<=(fE s).length:=ln
 omega
def Ec:Sg->Prop
 |.is b p=>SB b/\p∈Rn
 |.neg s=>Ec s
 |.qu _ _ s=>Ec s
 |.two _ s t=>Ec s/\Ec t
inductive It where
 |t (u:List Nat) | s (y:Sg)
def CV:It->D
 |.t u=>.str (S u)
 |.s y=>dS y
def G2:It->List Nat
 |.t u=>u
 |.s y=>fE y
def zg:Sg->List It
 |.is b p=>[.t (fE (.is b p))]
 |.neg s=>[.t (kU++[32]),.s s]
 |.qu a l s=>[.t (qw a++(32::(lw l++[32]))),.s s]
 |.two a s t=>[.t [91],.s s,.t (32::(aw a++[32])),.s t,.t [93]]
theorem Ko(y:Sg):(zg y).flatMap G2=fE y:=by cases y<;>simp[zg,G2,fE]
structure GL(P:Program)(w:World)(K:PySem.W.Frag)(q:Addr)(xs:List (List Int×Addr×Value)):Prop where
 QM:Dp P w K q xs
 at':∀p∈Rn,∃c tk,atKey xs p.2=some (c,.str (S p.1) tk)
def oA(ds:List D)(d:D):Prop:=∃y,ds=[dS y]/\Ec y/\d=.lst ((zg y).map CV)
theorem wj:∀ds d,oA ds d->ds.length=1:=by rintro _ _ ⟨_,rfl,_⟩;rfl
theorem br(a b:List Nat):S a++S b=S (a++b):=by
 show(⟨a.toArray++b.toArray⟩:Str)=⟨(a++b).toArray⟩
 simp
theorem sE:Str.empty=S []:=rfl
theorem xL:(" " : Str)=S [32]:=by decide +kernel
theorem NU:(" 0" : Str)=S [32,48]:=by decide +kernel
theorem PR:("is" : Str)=S [105,115]:=by decide +kernel
theorem xV(h:SB b):(zT b).length<=2000:=by
 have hp:=h.RY b.length
 have a:=h.Sk b.length
 have c:(fY (sx b)).length<=23*(RY b b.length).length:=xU hp
 have d:=h.fit.1
 unfold zT
 split
 ·decide
 ·omega
section
variable {K:PySem.W.Frag}
theorem AK{xs:List (List Int×Addr×Value)}(h:DefX P w K mg base k n8 (ai kG) X)(c1:EV.Callee X "show_term" ou)(gq:mg "COMPARISONS_SHOWN"=some (.ref q'))(g:GL P w K q' xs):
  Go X n8 kG oA:=by
 rintro ds d ⟨y,rfl,hy,rfl⟩
 have t:=h.at'
 haveI:=h.Q7
 have VV:X.mg "COMPARISONS_SHOWN"=some (.ref q'):=by rw[h.Sm];exact gq
 have g':Dp X.prog X.w X.K q' xs:=by
  obtain⟨_,e1,e2,e3,_⟩:=h
  rw[e1,e2,e3];exact g.QM
 have cw:PyData.canLayAll0 (QA [D.str "and",.str "or"])=true:=by decide +kernel
 show Qr X [.val (dS y)] _ _
 cases y with
 |is b p=>
  obtain⟨hb,hp⟩:=hy
  obtain⟨c,tk,hk⟩:=g.at' p hp
  have hl:=xV hb
  have hg:p.1.length<=2:=(show ∀p∈Rn,p.1.length<=2 by decide) p hp
  refine dI (c7 (Qs.eq (bP t (ce 0 (aa t 0 rfl) ag rfl rfl) Qo (by decide +kernel)) (by decide +kernel)) (aF (bx (Qp.eq (QJ.Rc (bI (ab (sN (vJ (a4 t c1 (ab (ce 1 (aa t 0 rfl) ag rfl rfl) aj) ⟨b,rfl,hb,rfl⟩) (lZ (vJ (Is t g' (ce 2 (aa t 0 rfl) ag rfl rfl) VV hk) (lZ BJ)))) ?_) aj))) ?_))))
  ·rw[NU,xL,sE,br,br,br,br,bn]
   simp;exact aL (m:=3000) (by omega) (by decide)
  ·rw[NU,xL,sE,br,br,br,br]
   simp[zg,CV,fE]
 |neg s=>
  refine aG (b0 (Qs.eq (bP t (ce 0 (aa t 0 rfl) ag rfl rfl) Qo (by decide +kernel)) (by decide +kernel)) bF) (dI (c7 (Qs.eq (bP t (ce 0 (aa t 0 rfl) ag rfl rfl) Qo (by decide +kernel)) (by decide +kernel)) (aF (bx (Qp.eq (QJ.Rc (bI (ab Qo (ab (ce 1 (aa t 0 rfl) ag rfl rfl) aj)))) ?_)))))
  rw[show("not " : Str)=S (kU++[32]) by decide +kernel];rfl
 |qu a l s=>
  have ok:PyData.strOk (S (qw a))=true:=by cases a<;>decide +kernel
  refine aG (b0 (Qs.eq (bP t (ce 0 (aa t 0 rfl) ag rfl rfl) Qo ok) (by cases a<;>decide +kernel)) bF) (aG (b0 (Qs.eq (bP t (ce 0 (aa t 0 rfl) ag rfl rfl) Qo ok) (by cases a<;>decide +kernel)) bF) (aG (b0 (iz (r:=false) t (ce 0 (aa t 0 rfl) ag rfl rfl) (aT (ab Qo (ab Qo aj))) (dw ok) (cZ _) cw (by rw[xF];cases a<;>decide)) bF) (aF (bx (Qp.eq (QJ.Rc (bI (ab (sN (vJ (ce 0 (aa t 0 rfl) ag rfl rfl) (lZ (vJ (ce 1 (aa t 0 rfl) ag rfl rfl) (lZ BJ)))) ?_) (ab (ce 2 (aa t 0 rfl) ag rfl rfl) aj)))) ?_)))))
  ·cases a<;>cases l<;>exact aL (m:=100) (by decide +kernel) (by decide)
  ·rw[xL,sE,br,br,br,br]
   simp[zg,CV]
 |two a s u=>
  have ok:PyData.strOk (S (aw a))=true:=eV (rS a)
  refine aG (b0 (Qs.eq (bP t (ce 0 (aa t 0 rfl) ag rfl rfl) Qo ok) (by cases a<;>decide +kernel)) bF) (aG (b0 (Qs.eq (bP t (ce 0 (aa t 0 rfl) ag rfl rfl) Qo ok) (by cases a<;>decide +kernel)) bF) (dI (c7 (iz (r:=true) t (ce 0 (aa t 0 rfl) ag rfl rfl) (aT (ab Qo (ab Qo aj))) (dw ok) (cZ _) cw (by rw[xF];cases a<;>decide)) (aF (bx (Qp.eq (QJ.Rc (bI (ab Qo (ab (ce 1 (aa t 0 rfl) ag rfl rfl) (ab (sN (lZ (vJ (ce 0 (aa t 0 rfl) ag rfl rfl) (lZ BJ))) ?_) (ab (ce 2 (aa t 0 rfl) ag rfl rfl) (ab Qo aj))))))) ?_))))))
  ·cases a<;>exact aL (m:=100) (by decide +kernel) (by decide)
  ·rw[xL,sE,br,br,br,show("[" : Str)=S [91] by decide +kernel,show("]" : Str)=S [93] by decide +kernel]
   simp[zg,CV]
end
def hG:Sg->Nat
 |.is _ _=>0
 |.neg s=>hG s+1
 |.qu _ _ s=>hG s+1
 |.two _ s t=>max (hG s) (hG t)+1
def JW:Sg->Nat
 |.is _ _=>2
 |.neg s=>JW s+2
 |.qu _ _ s=>JW s+2
 |.two _ s t=>JW s+JW t+4
theorem Fn.le{m:Nat}(h:Fn n d)(hm:n<=m):Fn m d:=⟨h.1,aL h.2.1 hm,h.2.2⟩
theorem D0:∀y:Sg,Fn (4+hG y) (dS y)
 |.is b p=>by
  rw[show dS (.is b p)=.tup [.str (S [105,115]),aA b,bE p.2] by rw[<-PR];rfl]
  refine Fn.tup (n:=3) fun x hx=>?_
  simp at hx
  rcases hx with rfl | rfl | rfl
  ·exact Fn.str 3 (by decide)
  ·exact Ap b
  ·exact(BA p.2).le (by decide)
 |.neg s=>by
  rw[show dS (.neg s)=.tup [.str (S kU),dS s] by rw[<-JK];rfl]
  refine Fn.tup (n:=4+hG s) fun x hx=>?_
  simp at hx
  rcases hx with rfl | rfl
  ·exact Fn.str _ (by decide)
  ·exact D0 s
 |.qu a l s=>by
  refine Fn.tup (n:=4+hG s) fun x hx=>?_
  simp at hx
  rcases hx with rfl | rfl | rfl
  ·exact Fn.str _ (by cases a<;>decide)
  ·exact Fn.str _ (by cases l<;>decide)
  ·exact D0 s
 |.two a s t=>by
  refine Fn.tup (n:=4+max (hG s) (hG t)) fun x hx=>?_
  simp at hx
  rcases hx with rfl | rfl | rfl
  ·exact Fn.str _ (rS a)
  ·exact(D0 s).le (by omega)
  ·exact(D0 t).le (by omega)
def HW:It->Prop
 |.t u=>u≠[]/\∀c∈u,c<128
 |.s y=>Ec y/\hG y<=40
def JV:It->Nat
 |.t _=>1
 |.s y=>JW y
theorem Jd(y:Sg):fE y≠[]:=by
 cases y with
 |is b p=>simp[fE]
 |neg s=>simp[fE]
 |qu a l s=>simp[fE]
 |two a s t=>simp[fE]
theorem Ie{x:It}(h:HW x):1<=(G2 x).length:=by
 cases x with
 |t u=>exact bO.mpr h.1
 |s y=>exact bO.mpr (Jd y)
theorem Jj:∀{st:List It},(∀x∈st,HW x)->st.length<=(st.flatMap G2).length
 |[],_=>ak _
 |x::st,h=>by
  have:=Jj (st:=st) fun z hz=>h z (by simp[hz])
  have:=Ie (h x (by simp))
  simp at *;omega
theorem KE{x:It}(h:HW x):Fn 44 (CV x):=by
 cases x with
 |t u=>exact Fn.str _ h.2
 |s y=>exact(D0 y).le (by have:=h.2;omega)
theorem J5(h:SB b):∀c∈zT b,c<128:=by
 unfold zT
 split
 ·decide
 ·exact so (h.RY b.length)
theorem Kq(h:Ec y)(hh:hG y<=40):∀x∈zg y,HW x:=by
 cases y with
 |is b p=>
  intro x hx
  simp[zg] at hx;subst hx
  refine⟨Jd _,fun c hc=>?_⟩
  have hg:=(ye (vK h.2)).1
  simp[fE] at hc
  rcases hc with hc | rfl | hc | rfl | rfl
  ·exact J5 h.1 c hc
  ·decide
  ·exact hg c hc
  ·decide
  ·decide
 |neg s=>
  intro x hx
  simp[zg] at hx
  rcases hx with rfl | rfl
  ·exact⟨by decide,by decide⟩
  ·exact⟨h,by simp[hG] at hh;omega⟩
 |qu a l s=>
  intro x hx
  simp[zg] at hx
  rcases hx with rfl | rfl
  ·exact⟨by simp,by cases a<;>cases l<;>decide⟩
  ·exact⟨h,by simp[hG] at hh;omega⟩
 |two a s t=>
  intro x hx
  simp[zg] at hx
  simp[hG] at hh
  rcases hx with rfl | rfl | rfl | rfl | rfl
  ·exact⟨by decide,by decide⟩
  ·exact⟨h.1,by omega⟩
  ·exact⟨by simp,by cases a<;>decide⟩
  ·exact⟨h.2,by omega⟩
  ·exact⟨by decide,by decide⟩
theorem Kp(y:Sg):((zg y).map JV).sum<JW y:=by cases y<;>simp[zg,JV,JW]<;>omega
def lq(ds:List D)(d:D):Prop:=∃y,ds=[dS y]/\Ec y/\hG y<=40/\(fE y).length<=2000/\d=.str (S (fE y))
theorem tL:∀ds d,lq ds d->ds.length=1:=by rintro _ _ ⟨_,rfl,_⟩;rfl
theorem Gu(y:Sg):∃xs,dS y=.tup xs:=by cases y<;>exact⟨_,rfl⟩
theorem CP{α:Type}(xs:List α):xs=[]\/∃ys y,xs=ys++[y]:=by
 rcases cz xs with h | ⟨ys,y,h⟩
 ·exact .inl h
 ·exact .inr ⟨ys,y,by rw[h];simp⟩
section
variable {K:PySem.W.Frag}
theorem wD(h:DefX P w K mg base k lb (ai iK) X)(Qw:mg "isinstance"=none)(Q4:mg "str"=none)(c1:EV.Callee X "pieces_of" oA):
  Go X lb iK lq:=by
 rintro ds d ⟨y,rfl,hy,hh,hz,rfl⟩
 have t:=h.at'
 haveI:=h.Q7
 have b1:=h.bt Qw
 have b2:=h.bt Q4
 show Qr X [.val (dS y),.un,.un,.un] _ _
 refine aG (Ht t 1 2 Qo (bI (ab (aa t 0 rfl) aj)) (by decide)) ?_
 show Qr X [.val (dS y),.val (.str ""),.own [dS y],.un] _ _
 rw[zE]
 refine sP t (fun s:List Nat×List It=>[.val (dS y),.val (.str (S s.1)),.own (s.2.map CV),.un]) (fun s=>s.1++s.2.reverse.flatMap G2=fE y/\∀x∈s.2,HW x) (fun s=>s.1=fE y) (fun s=>(s.2.map JV).sum) ([],[.s y]) ⟨by simp[G2],fun x hx=>by simp at hx;subst hx;exact⟨hy,hh⟩⟩ ?_ ?_
 ·rintro⟨u,st⟩ ⟨i1,i2⟩
  have i1:u++st.reverse.flatMap G2=fE y:=i1
  have i2:∀x∈st,HW x:=i2
  have sh:SeqAt.shaped (PyData.list (QA (st.map CV)))=true:=(Fn.lst (n:=44) fun x hx=>by
   obtain⟨z,hz,rfl⟩:=a6.mp hx
   exact KE (i2 z hz)).sh (by decide)
  rcases CP st with rfl | ⟨st,it,rfl⟩
  ·refine .inl ⟨iy (q:=.list []) t (Sw.p (eL t 2 rfl)) (bI aj).toQ.p sh rfl rfl,?_⟩
   simpa using i1
  ·have hl:(st++[it]).length<=2000:=by
    have a:=Jj (st:=(st++[it]).reverse) fun x hx=>i2 x (jg.mp hx)
    have b:=bJ List.length i1
    rw[ac] at b
    rw[dz] at a
    omega
   refine .inr ⟨iy (q:=.list []) t (Sw.p (eL t 2 rfl)) (bI aj).toQ.p sh rfl (by cases st<;>rfl),.inr ?_⟩
   have hit:=i2 it (by simp)
   have Vi:∀x∈st,HW x:=fun x hx=>i2 x (by simp[hx])
   have ho:[.val (dS y),.val (.str (S u)),.own ((st++[it]).map CV),.un]=([.val (dS y),.val (.str (S u)),.own (st.map CV++[CV it]),.un]:cp):=by simp
   cases it with
   |t v=>
    refine⟨(u++v,st),?_,⟨by simpa [G2] using i1,Vi⟩,by simp[JV]⟩
    show Qr X [.val (dS y),.val (.str (S u)),.own ((st++[It.t v]).map CV),.un] _ (.nx [.val (dS y),.val (.str (S (u++v))),.own (st.map CV),.un])
    rw[ho,<-br]
    refine Qr.weak (aG (zV t 2 3 rfl (by decide)) (aF (c7 (fB (Qp.eq (rD t b1 b2 (aa t 3 rfl) rfl) rfl)) (aF (Bf t 1 rfl (aa t 3 rfl) ?_))))) (.keep (.keep (.keep (.forget .nil))))
    have b:=bJ List.length i1
    simp[G2] at b
    rw[bn,bn]
    exact aL (m:=2000) (by omega) (by decide)
   |s z=>
    obtain⟨zs,ez⟩:=Gu z
    refine⟨(u,st++(zg z).reverse),?_,⟨by simpa [G2,Ko] using i1,fun x hx=>?_⟩,?_⟩
    ·show Qr X [.val (dS y),.val (.str (S u)),.own ((st++[It.s z]).map CV),.un] _ (.nx [.val (dS y),.val (.str (S u)),.own ((st++(zg z).reverse).map CV),.un])
     rw[ho,aX,GU]
     have hp:(zg z).length<=5:=by cases z<;>simp[zg]
     refine Qr.weak (aG (zV t 2 3 rfl (by decide)) (aF (b0 (fB (Qp.eq (rD t b1 b2 (aa t 3 rfl) (by show Pk (dS z)=true;rw[ez];rfl)) (by show D.bl (Jx (dS z))=_;rw[ez];rfl))) (aF (EQ t 2 rfl (QJ.Rc (C8 (Qp.ql (a4 t c1 (ab (aa t 3 rfl) aj) ⟨z,rfl,hit.1,rfl⟩)) (eO ag))) ?_))))) (.keep (.keep (.keep (.forget .nil))))
     rw[dz,af,af]
     simp at hl
     exact aL (m:=3000) (by omega) (by decide)
    ·rcases aM.mp hx with hx | hx
     ·exact Vi x hx
     ·exact Kq hit.1 hit.2 x (by simpa using hx)
    ·have:=Kp z
     show((st++(zg z).reverse).map JV).sum<((st++[It.s z]).map JV).sum
     rw[aX,aX,I9,I9,GU,List.sum_reverse]
     simp[JV];omega
 ·rintro⟨u,st⟩ hu
  have hu:u=fE y:=hu
  subst hu
  exact aF (bx (aa t 1 rfl))
end
def fG(ns:List Int):Int:=ns.getLast?.getD 0
def L8(bs:List Bd)(ns:List Int):Sg:=.is (bs.getD (fG ns / 6%(bs.length:Int)).toNat []) (Rn.getD (fG ns%6).toNat ([60],[-1]))
def ge(bs:List Bd):Nat->List Int->Sg×List Int
 |0,ns=>(L8 bs ns.dropLast,ns.dropLast.dropLast)
 |m+1,ns=>
  if fG ns%6=0 then (L8 bs ns.dropLast,ns.dropLast.dropLast)
  else if fG ns%6=1 then (.neg (ge bs m ns.dropLast).1,(ge bs m ns.dropLast).2)
  else if fG ns%6<4 then (.two (decide (fG ns%2=0)) (ge bs m ns.dropLast).1 (ge bs m (ge bs m ns.dropLast).2).1,(ge bs m (ge bs m ns.dropLast).2).2)
  else (.qu (decide (fG ns%2=0)) (decide (fG ns / 6%2=0)) (ge bs m ns.dropLast).1,(ge bs m ns.dropLast).2)
abbrev iL(ns:List Int):List D:=ns.map D.int
def kT(ds xs:List D)(d:D)(xs':List D):Prop:=∃ns:List Int,ds=[]/\xs=iL ns/\d=.int (fG ns)/\xs'=iL ns.dropLast
theorem wm:∀ds xs d xs',kT ds xs d xs'->ds.length+1=1:=by rintro _ _ _ _ ⟨_,rfl,_⟩;rfl
def s9(ds xs:List D)(d:D)(xs':List D):Prop:=∃(bs:List Bd) (ns:List Int),ds=[.lst (bs.map aA)]/\bs≠[]/\bs.length<=1000/\xs=iL ns/\d=dS (L8 bs ns)/\xs'=iL ns.dropLast
theorem Ak:∀ds xs d xs',s9 ds xs d xs'->ds.length+1=2:=by rintro _ _ _ _ ⟨_,_,rfl,_⟩;rfl
def gN:Nat->List D->List D->D->List D->Prop
 |0,_,_,_,_=>False
 |n+1,ds,xs,d,xs'=>∃(bs:List Bd) (m:Nat) (ns:List Int),ds=[.lst (bs.map aA),.int (m:Int)]/\m<=n/\bs≠[]/\bs.length<=1000/\xs=iL ns/\d=dS (ge bs m ns).1/\xs'=iL (ge bs m ns).2
theorem pN:∀n ds xs d xs',gN n ds xs d xs'->ds.length+1=3
 |0,_,_,_,_,h=>h.elim
 |n+1,_,_,_,_,⟨_,_,_,h,_⟩=>by rw[h];rfl
theorem OT(x:Int):l8 [bE [-1],bE [0],bE [1],bE [-1,0],bE [0,1],bE [-1,1]] (x%6)=some (bE (Rn.getD (x%6).toNat ([60],[-1])).2):=by
 have h:x%6=0\/x%6=1\/x%6=2\/x%6=3\/x%6=4\/x%6=5:=by omega
 rcases h with e | e | e | e | e | e<;>rw[e]<;>rfl
theorem Nu{u v:Str}{f:Bool->Str}(hu:f true=u)(hv:f false=v)(i:Int):l8 [D.str u,.str v] (i%2)=some (.str (f (decide (i%2=0)))):=by
 have h:i%2=0\/i%2=1:=by omega
 rcases h with e | e
 ·rw[e,aB rfl,hu];rfl
 ·rw[e,ao (by omega),hv];rfl
theorem P6{z:Str}{a b:Nat}{f:Bool->Str}(hz:z.cps.toList=[a,b])(hu:f true=⟨#[a]⟩)(hv:f false=⟨#[b]⟩)(i:Int):∃c,l8 z.cps.toList (i%2)=some c/\(⟨#[c]⟩:Str)=f (decide (i%2=0)):=by
 rw[hz]
 have h:i%2=0\/i%2=1:=by omega
 rcases h with e | e
 ·exact⟨a,by rw[e];rfl,by rw[e,aB rfl,hu]⟩
 ·exact⟨b,by rw[e];rfl,by rw[e,ao (by omega),hv]⟩
section
theorem Nd{i:Int}(hb:Qp X ρ b (.int (i%2)))(hs:iV b:=by intro _ _;rfl):Qp X ρ (.Subscript (.Constant (.str "xy") j p) b pos) (.str (S (lw (decide (i%2=0))))):=by
 obtain⟨c,h1,h2⟩:=P6 (z := "xy") (a:=120) (b:=121) (f:=fun l=>S (lw l)) (by decide +kernel) (by decide +kernel) (by decide +kernel) i
 exact Qp.eq (ga Qo hb (by decide +kernel) h1 hs) (by rw[h2])
end
section
variable {K:PySem.W.Frag}
theorem yQ(h:DefX P w K mg base k om (ai kL) X):
  Pe X om kL kT:=by
 rintro q ds xs d xs' ⟨ns,rfl,rfl,rfl,rfl⟩
 have t:=h.at'
 haveI:=h.Q7
 show xI X q [.val (.SA q)] _ _ _ _
 rcases M2 ns with rfl | ⟨m,i,rfl⟩
 ·exact CL (kR (zH t 0 rfl (ns:=[]) rfl rfl) (cu (sC (Qp.em ag))))
 ·refine e9 (fT (zH t 0 rfl (ns:=m++[i]) rfl (by cases m<;>rfl)) CJ) (cu (sC (Lv t 0 rfl ?_)))
  rw[ni]
  show iL (m++[i])=iL m++[.int (fG (m++[i]))]
  unfold fG iL
  rw[List.getLast?_concat,aX];rfl
end
section
variable {K:PySem.W.Frag}
theorem BQ(h:DefX P w K mg base k sZ (ai oQ) X)(Qv:mg "len"=none)(c1:Rk X "_law_pick" kT):
  Pe X sZ oQ s9:=by
 rintro q ds xs d xs' ⟨bs,ns,rfl,hb,hb2,rfl,rfl,rfl⟩
 have t:=h.at'
 haveI:=h.Q7
 have b1:=h.bt Qv
 show xI X q [.val (.SA q),.val (.lst (bs.map aA)),.un,.un] _ _ _ _
 have hl:0<bs.length:=bO.mpr hb
 refine e9 (iw t 2 (uA t c1 (Q2.am (ab (aa t 0 rfl) aj)) ⟨ns,rfl,rfl,rfl,rfl⟩)) ?_
 refine e9 (QQ.m (c6 t 3 (bW (QJ.toQ (bI (ab (aT (ab (eO ag) aj)) (ab (aT (ab ag aj)) (ab (aT (ab ag aj)) (ab (aT (ab (eO ag) (ab ag aj))) (ab (aT (ab ag (ab ag aj))) (ab (aT (ab (eO ag) (ab ag aj))) aj)))))))) (bU (aa t 2 rfl) ag (by decide)) (OT _)))) ?_
 refine Qr.m (aF (bx (aT (ab Qo (ab (bW (Qp.ql (aa t 1 rfl)) (bU (rJ t (aa t 2 rfl) ag (by decide)) (dB t b1 (Qp.ql (aa t 1 rfl))) (by rw[af];omega)) ?_) (ab (aa t 3 rfl) aj))))))
 rw[GD (m:=(bs.map aA).length) rfl (by rw[af];exact hl) (aA []),af]
 congr 1
 rw[ah,ah,aI]
 cases bs[(fG ns / 6%(bs.length:Int)).toNat]?<;>rfl
end
section
variable {K:PySem.W.Frag}
theorem yP(h:DefX P w K mg base k oj (ai kK) X)(c1:Rk X "_law_pick" kT)(c2:Rk X "_law_is" s9)(n:Nat)(c3:Rk X "_law_said" (gN n)):
  Pe X oj kK (gN (n+1)):=by
 rintro q ds xs d xs' ⟨bs,m,ns,rfl,hm,hb,hb2,rfl,rfl,rfl⟩
 have t:=h.at'
 haveI:=h.Q7
 show xI X q [.val (.SA q),.val (.lst (bs.map aA)),.val (.int m),.un,.un] _ _ _ _
 refine e9 (iw t 3 (uA t c1 (Q2.am (ab (aa t 0 rfl) aj)) ⟨ns,rfl,rfl,rfl,rfl⟩)) ?_
 show xI X q [.val (.SA q),.val (.lst (bs.map aA)),.val (.int m),.val (.int (fG ns)),.un] _ _ _ _
 have x6:∀{p1 p2 p3:Pos} {j:Nat},Qp X [.val (.SA q),.val (.lst (bs.map aA)),.val (.int m),.val (.int (fG ns)),.un] (.BinOp (.Name "_law_x" p1) .Mod (.Constant (.int 6) j p2) p3) (.int (fG ns%6)):=bU (aa t 3 rfl) ag (by decide)
 by_cases h0:m=0\/fG ns%6=0
 ·have e:ge bs m ns=(L8 bs ns.dropLast,ns.dropLast.dropLast):=by
   cases m with
   |zero=>rfl
   |succ m=>
         rcases h0 with z | z
         ·cases z
         ·show(if _ then _ else _)=_;rw[ay z]
  rw[e]
  refine CL (kR (Qs.l (Qs.eq (kc (dC (aa t 2 rfl) ag) fun _=>dC x6 ag) ?_)) (cu (sC (uA t c2 (Q2.am (ab (aa t 0 rfl) (ab (aa t 1 rfl) aj))) ⟨bs,ns.dropLast,rfl,hb,hb2,rfl,rfl,rfl⟩))))
  rcases h0 with z | z
  ·subst z;rfl
  ·rw[aB z,Bool.or_true]
 obtain⟨m,rfl⟩:∃r,m=r+1:=⟨m-1,by omega⟩
 have hx:¬fG ns%6=0:=fun z=>h0 (.inr z)
 have dd:∀{p1 p2 p3:Pos} {j:Nat} {s:Sl},Qp X [.val (.SA q),.val (.lst (bs.map aA)),.val (.int ((m+1:Nat):Int)),.val (.int (fG ns)),s] (.BinOp (.Name "_law_deep" p1) .Sub (.Constant (.int 1) j p2) p3) (.int (m:Nat)):=Qp.eq (eJ (aa t 2 rfl) ag) (by rw[show((m+1:Nat):Int)-1=(m:Nat) by omega])
 obtain⟨n,rfl⟩:∃r,n=r+1:=⟨n-1,by omega⟩
 have cc:∀ms:List Int,gN (n+1) [.lst (bs.map aA),.int (m:Int)] (iL ms) (dS (ge bs m ms).1) (iL (ge bs m ms).2):=fun ms=>⟨bs,m,ms,rfl,by omega,hb,hb2,rfl,rfl,rfl⟩
 refine e9 (fT (Qs.l (Qs.eq (kc (dC (aa t 2 rfl) ag) fun _=>dC x6 ag) (by rw[ao hx,ao (by omega)];rfl))) CJ) ?_
 have call:∀(ms:List Int) {p1 p2 p3 p4 p5 p6 p7:Pos} {j:Nat} {s:Sl},R3 X q [.val (.SA q),.val (.lst (bs.map aA)),.val (.int ((m+1:Nat):Int)),.val (.int (fG ns)),s] (.Call (.Name "_law_said" p1) [.Name "_law_state" p2,.Name "_law_boards" p3,.BinOp (.Name "_law_deep" p4) .Sub (.Constant (.int 1) j p5) p6] [] p7) (dS (ge bs m ms).1) (iL ms) (iL (ge bs m ms).2):=fun ms=>uA t c3 (Q2.am (ab (aa t 0 rfl) (ab (aa t 1 rfl) (ab dd aj)))) (cc ms)
 show xI X q _ _ (.rt (dS (if _ then _ else if _ then _ else if _ then _ else _:Sg×List Int).1)) _ (iL (if _ then _ else if _ then _ else if _ then _ else _:Sg×List Int).2)
 rw[aq hx]
 by_cases h1:fG ns%6=1
 ·rw[ay h1]
  exact CL (kR (Qs.l (Qs.eq (dC x6 ag) (aB h1))) (cu (sC (vI (eG (Qp.em Qo) (eG (call ns.dropLast) (Q2.am aj)))))))
 rw[aq h1]
 refine e9 (fT (Qs.l (Qs.eq (dC x6 ag) (ao h1))) CJ) ?_
 by_cases h4:fG ns%6<4
 ·rw[ay h4]
  refine CL (kR (Qs.l (Qs.eq (eQ x6 ag) (aB h4))) (e9 (iw t 4 (call ns.dropLast)) (cu (sC (vI (eG (Qp.em (bW (QJ.toQ (bI (ab Qo (ab Qo aj)))) (bU (aa t 3 rfl) ag (by decide)) (Nu (f:=fun a=>S (aw a)) (by decide +kernel) (by decide +kernel) _))) (eG (Qp.em (aa t 4 rfl)) (eG (call _) (Q2.am aj)))))))))
 rw[aq h4]
 refine e9 (fT (Qs.l (Qs.eq (eQ x6 ag) (ao h4))) CJ) ?_
 exact cu (sC (vI (eG (Qp.em (bW (QJ.toQ (bI (ab Qo (ab Qo aj)))) (bU (aa t 3 rfl) ag (by decide)) (Nu (f:=fun a=>S (qw a)) (by decide +kernel) (by decide +kernel) _))) (eG (Qp.em (Nd (bU (rJ t (aa t 3 rfl) ag (by decide)) ag (by decide)))) (eG (call _) (Q2.am aj))))))
end
theorem uI:∀{y:Sg},Ec y->(fE y).length+50<=2100*2 ^ hG y
 |.is b p,h=>by
  have:=xV h.1
  have:p.1.length<=2:=(show ∀p∈Rn,p.1.length<=2 by decide) p h.2
  simp[fE,hG];omega
 |.neg s,h=>by
  have:=uI (y:=s) h
  have:=Pm (n:=2) (m:=hG s)
  simp[fE,hG,kU];omega
 |.qu a l s,h=>by
  have:=uI (y:=s) h
  have:=Pm (n:=2) (m:=hG s)
  have:(qw a).length<=4:=by cases a<;>decide
  have:(lw l).length=1:=by cases l<;>rfl
  simp[fE,hG];omega
 |.two a s t,h=>by
  have:=uI (y:=s) h.1
  have:=uI (y:=t) h.2
  have e:=Pm (n:=2) (m:=max (hG s) (hG t))
  have:2 ^ hG s<=2 ^ max (hG s) (hG t):=y8 (by decide) (Nat.le_max_left ..)
  have:2 ^ hG t<=2 ^ max (hG s) (hG t):=y8 (by decide) (Nat.le_max_right ..)
  have:(aw a).length<=3:=by cases a<;>decide
  simp only[fE,hG,a5,ac,fC]
  rw[e];omega
theorem zC(h:Ec y)(hh:hG y<=12):(fE y).length<=sizeLine:=by
 have:=uI h
 have:2 ^ hG y<=2 ^ 12:=y8 (by decide) hh
 rw[jQ];omega
def gL:Nat->List D->D->Prop
 |0,_,_=>False
 |n+1,ds,d=>∃y,ds=[dS y]/\Ec y/\hG y<=n/\hG y<=12/\d=.str (S (fE y))
theorem pM:∀n ds d,gL n ds d->ds.length=1
 |0,_,_,h=>h.elim
 |n+1,_,_,⟨_,h,_⟩=>by rw[h];rfl
theorem zA{n:Nat}(h:Ec y)(hn:hG y+1<=n)(Uw:hG y<=12):gL n [dS y] (.str (S (fE y))):=by
 obtain⟨m,rfl⟩:∃m,n=m+1:=⟨n-1,by omega⟩
 exact⟨y,rfl,h,by omega,Uw,rfl⟩
def wK:JH:=[([-1], "<"),([0], "="),([1], ">"),([-1,0], "<="),([0,1], ">="),([-1,1], "!=")]
theorem Mo:∀p∈Rn,((wK.find? fun q=>decide (q.1=p.2)).map (·.2))=some (S p.1):=by decide +kernel
section
variable {K:PySem.W.Frag}
theorem AN(h:DefX P w K mg base k oh (ai kJ) X)(c1:EV.Callee X "_law_shown" mX)(n:Nat)(c0:EV.Callee X "_law_text" (gL n)):
  Go X oh kJ (gL (n+1)):=by
 rintro ds d ⟨y,rfl,hy,hn,Uw,rfl⟩
 have t:=h.at'
 haveI:=h.Q7
 show Qr X [.val (dS y),.un] _ _
 have hz:=zC hy Uw
 cases y with
 |is b p=>
  obtain⟨hb,hp⟩:=hy
  have hl:=xV hb
  have hg:p.1.length<=2:=(show ∀p∈Rn,p.1.length<=2 by decide) p hp
  refine dI (c7 (Qs.eq (bP t (ce 0 (aa t 0 rfl) ag rfl rfl) Qo (by decide +kernel)) (by decide +kernel)) ?_)
  refine Gh t 1 (kts:=wK) (IE t (.cons (k:=[-1]) (aT (ab (eO ag) aj)) Qo (.cons (k:=[0]) (aT (ab ag aj)) Qo (.cons (k:=[1]) (aT (ab ag aj)) Qo (.cons (k:=[-1,0]) (aT (ab (eO ag) (ab ag aj))) Qo (.cons (k:=[0,1]) (aT (ab ag (ab ag aj))) Qo (.cons (k:=[-1,1]) (aT (ab (eO ag) (ab ag aj))) Qo .nil)))))) (by decide)) fun q=>Tn.eq (yB (yB (yB (Qp.k (a4 t c1 (ab (ce 1 (aa t 0 rfl) ag rfl rfl) aj) ⟨b,rfl,hb,rfl⟩)) (Qp.k Qo) ?_) (Nf t 1 rfl (ce 2 (aa t 0 rfl) ag rfl rfl) (Mo p hp)) ?_) (Qp.k Qo) ?_) ?_
  ·rw[xL,bn,bn];exact aL (m:=3000) (by simp;omega) (by decide)
  ·rw[xL,br,bn,bn];exact aL (m:=3000) (by simp;omega) (by decide)
  ·rw[NU,xL,br,br,bn,bn];exact aL (m:=3000) (by simp;omega) (by decide)
  ·rw[NU,xL,br,br,br];simp[fE]
 |neg s=>
  refine aG (b0 (Qs.eq (bP t (ce 0 (aa t 0 rfl) ag rfl rfl) Qo (by decide +kernel)) (by decide +kernel)) bF) (dI (c7 (Qs.eq (bP t (ce 0 (aa t 0 rfl) ag rfl rfl) Qo (by decide +kernel)) (by decide +kernel)) (aF (bx (Qp.eq (dR Qo (a4 t c0 (ab (ce 1 (aa t 0 rfl) ag rfl rfl) aj) (zA hy (by simpa [hG] using hn) (by simp[hG] at Uw;omega))) ?_) ?_)))))
  ·rw[show("not " : Str)=S (kU++[32]) by decide +kernel,bn,bn]
   simp[fE] at hz ⊢;omega
  ·rw[show("not " : Str)=S (kU++[32]) by decide +kernel,br];simp[fE]
 |qu a l s=>
  have ok:PyData.strOk (S (qw a))=true:=by cases a<;>decide +kernel
  simp[fE] at hz
  refine aG (b0 (Qs.eq (bP t (ce 0 (aa t 0 rfl) ag rfl rfl) Qo ok) (by cases a<;>decide +kernel)) bF) (aG (b0 (Qs.eq (bP t (ce 0 (aa t 0 rfl) ag rfl rfl) Qo ok) (by cases a<;>decide +kernel)) bF) (dI (c7 (Qs.eq (BH t (ce 0 (aa t 0 rfl) ag rfl rfl) ok) (by cases a<;>decide +kernel)) (aF (bx (Qp.eq (dR (dR (dR (dR (ce 0 (aa t 0 rfl) ag rfl rfl) Qo ?_) (ce 1 (aa t 0 rfl) ag rfl rfl) ?_) Qo ?_) (a4 t c0 (ab (ce 2 (aa t 0 rfl) ag rfl rfl) aj) (zA hy (by simpa [hG] using hn) (by simp[hG] at Uw;omega))) ?_) ?_))))))
  ·rw[xL,bn,bn];simp;omega
  ·rw[xL,br,bn,bn];simp;omega
  ·rw[xL,br,br,bn,bn];simp;omega
  ·rw[xL,br,br,br,bn,bn];simp;omega
  ·rw[xL,br,br,br,br];simp[fE]
 |two a s u=>
  have ok:PyData.strOk (S (aw a))=true:=eV (rS a)
  simp[fE] at hz
  simp[hG] at Uw hn
  have VZ:("[" : Str)=S [91]:=by decide +kernel
  have z93:("]" : Str)=S [93]:=by decide +kernel
  refine aG (b0 (Qs.eq (bP t (ce 0 (aa t 0 rfl) ag rfl rfl) Qo ok) (by cases a<;>decide +kernel)) bF) (aG (b0 (Qs.eq (bP t (ce 0 (aa t 0 rfl) ag rfl rfl) Qo ok) (by cases a<;>decide +kernel)) bF) (aG (b0 (Qs.eq (BH t (ce 0 (aa t 0 rfl) ag rfl rfl) ok) (by cases a<;>decide +kernel)) bF) (aF (bx (Qp.eq (dR (dR (dR (dR (dR (dR Qo (a4 t c0 (ab (ce 1 (aa t 0 rfl) ag rfl rfl) aj) (zA hy.1 (by omega) (by omega))) ?_) Qo ?_) (ce 0 (aa t 0 rfl) ag rfl rfl) ?_) Qo ?_) (a4 t c0 (ab (ce 2 (aa t 0 rfl) ag rfl rfl) aj) (zA hy.2 (by omega) (by omega))) ?_) Qo ?_) ?_)))))
  ·rw[VZ,bn,bn];simp;omega
  ·rw[VZ,xL,br,bn,bn];simp;omega
  ·rw[VZ,xL,br,br,bn,bn];simp;omega
  ·rw[VZ,xL,br,br,br,bn,bn];simp;omega
  ·rw[VZ,xL,br,br,br,br,bn,bn];simp;omega
  ·rw[VZ,xL,z93,br,br,br,br,br,bn,bn];simp;omega
  ·rw[VZ,xL,z93,br,br,br,br,br,br];simp[fE]
end
def GoodG:Sg->Prop
 |.is b p=>SB b/\QD b/\Sb 1000 b/\p∈Rn
 |.neg s=>GoodG s
 |.qu _ _ s=>GoodG s
 |.two _ s t=>GoodG s/\GoodG t
theorem GoodG.ok:∀{y:Sg},GoodG y->Ec y
 |.is b p,h=>⟨h.1,h.2.2.2⟩
 |.neg s,h=>GoodG.ok (y:=s) h
 |.qu _ _ s,h=>GoodG.ok (y:=s) h
 |.two _ s t,h=>⟨GoodG.ok (y:=s) h.1,GoodG.ok (y:=t) h.2⟩
theorem EN:SB []:=⟨⟨by decide,fun i=>by simp⟩,fun i k=>by show(0:Int).natAbs<_;decide⟩
theorem Dm:QD []:=⟨.inl rfl,fun r hr=>nomatch hr⟩
theorem GoodG.rd:∀{y:Sg},GoodG y->hG y<=20->∃ps c,Rd y ps c/\ps.length<=hG y/\zh c<=hG y
 |.is b p,h,_=>by
  obtain⟨T,hT⟩:=xb h.1 h.2.1
  obtain⟨U,hU⟩:=xb EN Dm
  exact⟨[],_,.is hT hU h.2.2.1 h.2.1 h.2.2.2,ak _,ak _⟩
 |.neg s,h,hh=>by
  obtain⟨ps,c,h1,h2,h3⟩:=GoodG.rd (y:=s) h (by simp[hG] at hh;omega)
  exact⟨_,c,.neg h1,by simp[hG];exact h2,by simp[hG];omega⟩
 |.qu a l s,h,hh=>by
  obtain⟨ps,c,h1,h2,h3⟩:=GoodG.rd (y:=s) h (by simp[hG] at hh;omega)
  exact⟨_,c,.qu h1,by simp[hG];exact h2,by simp[hG];omega⟩
 |.two a s t,h,hh=>by
  simp[hG] at hh
  obtain⟨p,c,h1,h2,h3⟩:=GoodG.rd (y:=s) h.1 (by omega)
  obtain⟨q,e,g1,g2,g3⟩:=GoodG.rd (y:=t) h.2 (by omega)
  exact⟨[],_,.two h1 (by omega) g1 (by omega),bu _,by simp[zh,hG];omega⟩
def fS:Nat->List D->D->Prop
 |0,_,_=>False
 |n+1,ds,d=>∃y,ds=[dS y]/\GoodG y/\hG y<=n/\hG y<=12/\d=.bl true
theorem nQ:∀n ds d,fS n ds d->ds.length=1
 |0,_,_,h=>h.elim
 |n+1,_,_,⟨_,h,_⟩=>by rw[h];rfl
theorem Jm{n:Nat}(h:GoodG y)(hn:hG y+1<=n)(Uw:hG y<=12):fS n [dS y] (.bl true):=by
 obtain⟨m,rfl⟩:∃m,n=m+1:=⟨n-1,by omega⟩
 exact⟨y,rfl,h,by omega,Uw,rfl⟩
theorem Nk(x:D)(xs:List D):EV.cutD (x::xs) (some 1) none=xs:=by
 unfold EV.cutD
 simp[HT.QH]
def Lc:Sg->Str
 |.is _ _=> "is"
 |.neg _=> "not"
 |.qu a _ _=>S (qw a)
 |.two a _ _=>S (aw a)
def NX:Sg->List D
 |.is b p=>[aA b,bE p.2]
 |.neg s=>[dS s]
 |.qu _ l s=>[.str (S (lw l)),dS s]
 |.two _ s t=>[dS s,dS t]
def Pz:Sg->Nat
 |.is _ _=>0
 |.neg _=>1
 |.qu _ _ _=>1
 |.two _ _ _=>2
theorem JG(y:Sg):dS y=.tup (.str (Lc y)::NX y):=by cases y<;>rfl
theorem Hc(y:Sg):(NX y).length<=2:=by cases y<;>simp[NX]
theorem KJ(y:Sg):(List.replicate (Pz y) true).all id=true:=by cases y<;>rfl
theorem Lb(y:Sg):PyData.strOk (Lc y)=true:=by
 cases y with
 |is=>exact(show PyData.strOk "is"=true by decide +kernel)
 |neg=>exact(show PyData.strOk "not"=true by decide +kernel)
 |qu a=>exact eV (by cases a<;>decide)
 |two a=>exact eV (rS a)
section
variable {K:PySem.W.Frag}
theorem y0(h:DefX P w K mg base k mO (ai jG) X)(Tr:mg "all"=none)(Qv:mg "len"=none)(Qw:mg "isinstance"=none)(Q4:mg "str"=none)(QB:mg "tuple"=none)(c1:EV.Callee X "_law_text" (gL 13))(c2:EV.Callee X "show_saying" lq)(c3:EV.Callee X "read_saying" (iX R1))(n:Nat)(c0:EV.Callee X "_law_right" (fS n)):
  Go X mO jG (fS (n+1)):=by
 rintro ds d ⟨y,rfl,hg,hn,Uw,rfl⟩
 have t:=h.at'
 haveI:=h.Q7
 have b1:=h.bt Tr
 have b2:=h.bt Qv
 have b3:=h.bt Qw
 have b4:=h.bt Q4
 have hy:=hg.ok
 have hz:=zC hy Uw
 show Qr X [.val (dS y),.un,.un] _ _
 refine aG (c6 t 1 (a4 t c1 (ab (aa t 0 rfl) aj) (zA hy (by omega) Uw))) ?_
 show Qr X [.val (dS y),.val (.str (S (fE y))),.un] _ _
 by_cases hl:2000<(fE y).length
 ·refine dI (c7 (Qs.eq (hV (fb t b2 (aa t 1 rfl) (by rw[bn];exact hz)) ag) ?_) (aF (bx Ar)))
  rw[bn];exact aB (by omega)
 refine aG (b0 (Qs.eq (hV (fb t b2 (aa t 1 rfl) (by rw[bn];exact hz)) ag) (by rw[bn];exact ao (by omega))) bF) ?_
 refine aG (c6 t 2 (a4 t c2 (ab (aa t 0 rfl) aj) ⟨y,rfl,hy,by omega,by omega,rfl⟩)) ?_
 show Qr X [.val (dS y),.val (.str (S (fE y))),.val (.str (S (fE y)))] _ _
 obtain⟨ps,c,hr,hp,hd⟩:=hg.rd (by omega)
 have ft:Fn 44 (.str (S (fE y))):=Fn.str _ hr.lt
 have fy:Fn 44 (dS y):=(D0 y).le (by omega)
 refine aG (b0 (Qs.eq (Gc (u:=false) (v:=false) (w:=false) (Qs.eq (nU (fB (rD t b3 b4 (aa t 2 rfl) rfl))) rfl) (fun _=>iy t (aa t 2 rfl).p (aa t 1 rfl).p (ft.sh (by decide)) (ft.sh (by decide)) (by rw[ft.2.2];rfl)) fun _ _=>iy t (a4 t c3 (ab (aa t 2 rfl) aj) (hr.back (by omega) (by omega) (by omega))).p (aa t 0 rfl).p (fy.sh (by decide)) (fy.sh (by decide)) (by rw[fy.2.2];rfl)) rfl) bF) ?_
 refine aF (bx (Qp.eq (Gb (bs:=List.replicate (Pz y) true) t b1 (QJ.toQ (kS t ["_law_saying", "_law_due", "_law_text_here", "_law_part"] (IL (by decide +kernel)) (Ti.eq (yC (Ix (Qp.eq (aa t 0 rfl) (JG y)) (fQ ag) eM)) (Nk _ _)) (dL (Hc y) (by decide)) fun X' cx=>?_))) (by rw[KJ])))
 have t':=cx.at'
 have XE:∀(d:D) {p1 p2 p3:Pos} {j:Nat},Qp X' [.val (dS y),.val (.str (S (fE y))),.val (.str (S (fE y))),.val d] (.Subscript (.Name "_law_saying" p1) (.Constant (.int 0) j p2) p3) (.str (Lc y)):=fun d {p1 p2 p3 j}=>ce 0 (Qp.eq (aa t' 0 rfl) (JG y)) ag rfl rfl
 have X8:∀(d:D),Pk d=true->∀{p1 p2 p3 p4 p5 p6 p7 p8 p9 pa:Pos} {j j2:Nat},Qs X' [.val (dS y),.val (.str (S (fE y))),.val (.str (S (fE y))),.val d] (.BoolOp .And [.Call (.Name "isinstance" p1) [.Name "_law_part" p2,.Name "tuple" p3] [] p4,.Compare (.Subscript (.Name "_law_saying" p5) (.Constant (.int 0) j p6) p7) [.NotEq] [.Constant (.str "is") j2 p8] p9] pa) (FO d && !decide (Lc y="is")):=fun d hd {p1 p2 p3 p4 p5 p6 p7 p8 p9 pa j j2}=>
  rK (fB (FY t' (vR (by rw[cx.Sm,h.Sm];exact Qw)) (vR (by rw[cx.Sm,h.Sm];exact QB)) (aa t' 3 rfl) hd)) fun _=>iy t' (XE d).p Qo.p (dO (Lb y)) (dO (by decide +kernel)) (by show(!(Lc y == "is"))=_;rw[eF])
 have gt:∀(s:Sg),GoodG s->hG s+1<=n->hG s<=12->∀{p1 p2 p3:Pos},Qp X' [.val (dS y),.val (.str (S (fE y))),.val (.str (S (fE y))),.val (dS s)] (.Call (.Name "_law_right" p1) [.Name "_law_part" p2] [] p3) (.bl true):=fun s h1 h2 h3 {p1 p2 p3}=>a4 t' (cx.callee c0) (ab (aa t' 3 rfl) aj) (Jm h1 h2 h3)
 have pk:∀s:Sg,Pk (dS s)=true/\FO (dS s)=true:=fun s=>by obtain⟨xs,e⟩:=Gu s;rw[e];exact⟨rfl,rfl⟩
 have tk:∀(s:Sg),Lc y ≠ "is" -> ∀{p1 p2 p3 p4 p5 p6 p7 p8 p9 pa:Pos} {j j2:Nat},Qs X' [.val (dS y),.val (.str (S (fE y))),.val (.str (S (fE y))),.val (dS s)] (.BoolOp .And [.Call (.Name "isinstance" p1) [.Name "_law_part" p2,.Name "tuple" p3] [] p4,.Compare (.Subscript (.Name "_law_saying" p5) (.Constant (.int 0) j p6) p7) [.NotEq] [.Constant (.str "is") j2 p8] p9] pa) true:=fun s hw {p1 p2 p3 p4 p5 p6 p7 p8 p9 pa j j2}=>Qs.eq (X8 (dS s) (pk s).1) (by rw[(pk s).2,ao hw];rfl)
 show QY X' _ _ _ (NX y) [.val (dS y),.val (.str (S (fE y))),.val (.str (S (fE y))),.un] _
 cases y with
 |is b p=>
  refine .skip (ρ1:=[_,_,_,.val (aA b)]) (cm t' 3) rfl (Qs.eq (X8 (aA b) rfl) rfl) (.skip (ρ1:=[_,_,_,.val (bE p.2)]) (cm t' 3) rfl (Qs.eq (X8 (bE p.2) rfl) rfl) .nil)
 |neg s=>
  refine .take (ρ1:=[_,_,_,.val (dS s)]) (cm t' 3) (.inr ⟨_,rfl,tk s (show("not" : Str) ≠ "is" by decide +kernel)⟩) (gt s hg (by simpa [hG] using hn) (by simp[hG] at Uw;omega)) .nil
 |qu a l s=>
  refine .skip (ρ1:=[_,_,_,.val (.str (S (lw l)))]) (cm t' 3) rfl (Qs.eq (X8 (.str (S (lw l))) rfl) rfl) (.take (ρ1:=[_,_,_,.val (dS s)]) (cm t' 3) (.inr ⟨_,rfl,tk s (show S (qw a) ≠ "is" by cases a<;>decide +kernel)⟩) (gt s hg (by simpa [hG] using hn) (by simp[hG] at Uw;omega)) .nil)
 |two a s u=>
  simp[hG] at Uw hn
  have hw:Lc (.two a s u) ≠ "is" := show S (aw a) ≠ "is" by cases a<;>decide +kernel
  refine .take (ρ1:=[_,_,_,.val (dS s)]) (cm t' 3) (.inr ⟨_,rfl,tk s hw⟩) (gt s hg.1 (by omega) (by omega)) (.take (ρ1:=[_,_,_,.val (dS u)]) (cm t' 3) (.inr ⟨_,rfl,tk u hw⟩) (gt u hg.2 (by omega) (by omega)) .nil)
end
theorem UR.up{m:Nat}(h:UR n b)(hm:n<=m):UR m b:=⟨aL h.1 hm,fun k=>aL (h.2 k) hm⟩
theorem LB.sb(h:LB b):SB b:=⟨h.fit.up (by decide),fun i k=>dL (h.bb i k) (by decide)⟩
def GB(b:Bd):Prop:=SB b/\QD b/\Sb 1000 b
theorem LB.gb(h:LB b):GB b:=⟨h.sb,h.ok,h.fit.sm (by decide)⟩
theorem IM(x:Int):Rn.getD (x%6).toNat ([60],[-1])∈Rn:=by
 have h:x%6=0\/x%6=1\/x%6=2\/x%6=3\/x%6=4\/x%6=5:=by omega
 rcases h with e | e | e | e | e | e<;>rw[e]<;>decide
theorem ut{bs:List Bd}(hb:∀b∈bs,GB b)(ns:List Int):GoodG (L8 bs ns)/\hG (L8 bs ns)=0:=by
 refine⟨?_,rfl⟩
 have h:GB (bs.getD (fG ns / 6%(bs.length:Int)).toNat []):=by
  rw[ah]
  cases e:bs[(fG ns / 6%(bs.length:Int)).toNat]? with
  |none=>exact⟨EN,Dm,EM⟩
  |some b=>exact hb b (cJ e)
 exact⟨h.1,h.2.1,h.2.2,IM _⟩
theorem sr{bs:List Bd}(hb:∀b∈bs,GB b):∀(m:Nat) (ns:List Int),GoodG (ge bs m ns).1/\hG (ge bs m ns).1<=m
 |0,ns=>⟨(ut hb _).1,gI (ut hb _).2⟩
 |m+1,ns=>by
  have i1:=sr hb m ns.dropLast
  have i2:=sr hb m (ge bs m ns.dropLast).2
  rw[ge]
  split
  ·exact⟨(ut hb _).1,by rw[(ut hb _).2];omega⟩
  split
  ·exact⟨i1.1,GS i1.2⟩
  split
  ·exact⟨⟨i1.1,i2.1⟩,GS (Nat.max_le.mpr ⟨i1.2,i2.2⟩)⟩
  ·exact⟨i1.1,GS i1.2⟩
def zr(xs:List Int)(s:Sg):Nat->Sg
 |0=>s
 |k+1=>[Sg.neg (zr xs s k),.qu true true (zr xs s k),.qu false false (zr xs s k)].getD (xs.getD (2+k) 0%3).toNat (.neg (zr xs s k))
theorem Mq(i:Int):(i%3).toNat=0\/(i%3).toNat=1\/(i%3).toNat=2:=by omega
theorem B7(h:GoodG s):∀k,GoodG (zr xs s k)/\hG (zr xs s k)=hG s+k
 |0=>⟨h,rfl⟩
 |k+1=>by
  have ih:=B7 (xs:=xs) h k
  rw[zr]
  rcases Mq (xs.getD (2+k) 0) with e | e | e<;>rw[e]<;>exact⟨ih.1,by show hG (zr xs s k)+1=_;rw[ih.2];omega⟩
theorem P7{ys:List Sg}(hy:ys.length=3)(i:Int)(z:Sg):l8 (ys.map dS) (i%3)=some (dS (ys.getD (i%3).toNat z)):=by
 have e:=GD (xs:=ys.map dS) (i:=i) (m:=3) (by rw[af,hy]) (by decide) (dS z)
 refine e.trans (bJ some ?_)
 show(ys.map dS).getD (i%3).toNat (dS z)=_
 rw[ah,ah,aI,Option.getD_map]
def xJ(ds:List D)(d:D):Prop:=∃ns:List Int,ds=[.R8 ns]/\ns.length<=63/\d=.bl true
theorem H9:∀ds d,xJ ds d->ds.length=1:=by rintro _ _ ⟨_,rfl,_⟩;rfl
theorem FJ(ns:List Int)(h:ns.length<=63):xJ [.R8 ns] (.bl true):=⟨ns,rfl,h,rfl⟩
theorem Gv{xs:List Int}{n:Nat}:EV.cutD (xs.map D.int) (some (n:Int)) none=(xs.drop n).map D.int:=by rw[IK,List.map_drop]
def L9(ns:List Int):List Bd:=(List.range 3).map fun(i:Nat)=>KU (rP ns (1+(i:Int)))
section
variable {K:PySem.W.Frag}
theorem Nt(h:DefX P w K mg base k GJ (ai uX) X)(Qz:mg "range"=none)(cB:EV.Callee X "_law_board" mZ)(cN:EV.Callee X "_law_numbers" ij)(cK:Rk X "_law_said" (gN 5))(cC:EV.Callee X "_law_cell" oG)(cR:EV.Callee X "_law_right" (fS 13)):
  Go X GJ uX xJ:=by
 rintro ds d ⟨ns,rfl,hn,rfl⟩
 have t:=h.at'
 haveI:=h.Q7
 have b1:=h.bt Qz
 show Qr X [.val (.R8 ns),.un,.un,.un,.un,.un] _ _
 refine aG (DE t 1 ["_law_script", "_law_boards", "_law_cell_here", "_law_xs", "_law_saying", "", "_law_k"] (IL (by decide +kernel)) (fR t b1 ag (by decide) (by decide)) (by simp[fZ];decide) (rs:=(List.range 3).map fun(i:Nat)=>aA (KU (rP ns (1+(i:Int))))) fun X' cx=>QY.gen (fun(i:Nat)=>D.int (i:Int)) (fun(i:Nat)=>aA (KU (rP ns (1+(i:Int))))) (fun(i:Nat)=>[.val (.R8 ns),.un,.un,.un,.un,.un,.val (.int (i:Int))]) (List.range 3) _ (fun p hp=>cm cx.at' 6) (fun p hp q hq=>cm cx.at' 6) fun p hp=>?_) ?_
 ·have t':=cx.at'
  have WL:=qj.mp hp
  exact a4 t' (cx.callee cB) (ab (a4 t' (cx.callee cC) (ab (aa t' 0 rfl) (ab (cQ ag (aa t' 6 rfl)) aj)) ⟨ns,1+(p:Int),rfl,by omega,by omega,rfl⟩) aj) ⟨_,rfl,rfl⟩
 refine fv 1 rfl ?_
 rw[show(List.range 3).map (fun(i:Nat)=>aA (KU (rP ns (1+(i:Int)))))=(L9 ns).map aA by rw[L9,cD];rfl]
 have hb:∀b∈L9 ns,GB b:=fun b hb=>by
  obtain⟨k,_,rfl⟩:=a6.mp hb
  exact(KS _).gb
 have ZZ:(L9 ns).length=3:=by simp[L9]
 generalize L9 ns=bs at hb ZZ ⊢
 have hbn:bs≠[]:=fun z=>by rw[z] at ZZ;cases ZZ
 show Qr X [.val (.R8 ns),.val (.lst (bs.map aA)),.un,.un,.un,.un] _ _
 have hz:=Gw ns (some 4) (some 9)
 refine aG (gK t (ds:=((rP ns 0)::fK ns (some 4) (some 9)).map D.int) (yD (Qp.eq (QJ.Rc (yA (QJ.Rc (bI (ab (a4 t cC (ab (aa t 0 rfl) (ab ag aj)) ⟨ns,0,rfl,by decide,by decide,rfl⟩) aj))) (Qp.eq (QJ.Rc (hJ (Qp.qs (aa t 0 rfl)) (fQ ag) (fQ ag))) (by rw[ja])) ?_)) rfl)) (QI.same [.val (.R8 ns),.val (.lst (bs.map aA)),.un,.un,.un,.un] _ fun d hd=>?_)) (aF (bx Ar))
 ·have:=xp;simp;omega
 obtain⟨cc,_,rfl⟩:=a6.mp hd
 have hxl:(fq cc 60).length=60:=sy _ _
 have hk:=sr hb ((fq cc 60).getD 0 0%5).toNat ((fq cc 60).drop 5)
 have h5:((fq cc 60).getD 0 0%5).toNat<=4:=by omega
 generalize es:(ge bs ((fq cc 60).getD 0 0%5).toNat ((fq cc 60).drop 5)).1=s at hk
 refine⟨_,dN t 2,Qr.weak (ρ1:=[.val (.R8 ns),.val (.lst (bs.map aA)),.val (.int cc),.val (df (fq cc 60)),.val (dS (zr (fq cc 60) s ((fq cc 60).getD 1 0%4).toNat)),.un]) ?_ (.keep (.keep (.forget (.forget (.forget (.keep .nil))))))⟩
 refine aG (c6 t 3 (a4 t cN (ab (aa t 2 rfl) (ab ag aj)) ⟨cc,60,rfl,by decide,rfl⟩)) ?_
 refine aG (c6 t 4 (d:=dS s) (Ga t cK (QJ.eq (hJ (Qp.ql (aa t 3 rfl)) (fQ ag) eM) (Gv (n:=5))) (ab (aa t 1 rfl) (ab (Qp.eq (bU (bW (Qp.ql (aa t 3 rfl)) ag (jl (n:=0) (by rw[hxl];decide))) ag (by decide)) (show _=D.int ((((fq cc 60).getD 0 0%5).toNat:Nat):Int) by rw[AW (by omega)])) aj)) ⟨bs,_,(fq cc 60).drop 5,rfl,h5,hbn,by omega,rfl,by rw[es],rfl⟩)) ?_
 generalize fq cc 60=xs at hxl hk h5 ⊢
 show Qr X [.val (.R8 ns),.val (.lst (bs.map aA)),.val (.int cc),.val (df xs),.val (dS s),.un] _ _
 have hw:=B7 (xs:=xs) hk.1 (xs.getD 1 0%4).toNat
 have h4:(xs.getD 1 0%4).toNat<=3:=by omega
 refine aG (ρ':=[.val (.R8 ns),.val (.lst (bs.map aA)),.val (.int cc),.val (df xs),.val (dS (zr xs s (xs.getD 1 0%4).toNat)),.un]) (gK t (fR t b1 (bU (i:=xs.getD 1 0) (bW (Qp.ql (aa t 3 rfl)) ag (jl (n:=1) (by omega))) ag (by decide)) (by omega) (by omega)) (QI.QZ (fun j=>[.val (.R8 ns),.val (.lst (bs.map aA)),.val (.int cc),.val (df xs),.val (dS (zr xs s j)),.un]) (fun j d hj=>?_) rfl ?_)) ?_
 ·obtain⟨hjl,rfl⟩:=oU hj
  have e1:(2:Int)+(j:Int)=((2+j:Nat):Int):=by omega
  have hx:l8 (xs.map D.int) (2+(j:Int))=some (.int (xs.getD (2+j) 0)):=by rw[e1];exact jl (by omega)
  refine⟨_,dN t 5,Qr.weak (ρ1:=[.val (.R8 ns),.val (.lst (bs.map aA)),.val (.int cc),.val (df xs),.val (dS (zr xs s (j+1))),.val (.int (j:Int))]) ?_ (.keep (.keep (.keep (.keep (.keep (.forget .nil))))))⟩
  refine aF (c6 t 4 (d:=dS (zr xs s (j+1))) (bW (xs:=[Sg.neg (zr xs s j),.qu true true (zr xs s j),.qu false false (zr xs s j)].map dS) (QJ.toQ (QJ.eq (bI (ab (aT (ab Qo (ab (aa t 4 rfl) aj))) (ab (aT (ab Qo (ab Qo (ab (aa t 4 rfl) aj)))) (ab (aT (ab Qo (ab Qo (ab (aa t 4 rfl) aj)))) aj)))) ?_)) (bU (bW (Qp.ql (aa t 3 rfl)) (cQ ag (aa t 5 rfl)) hx) ag (by decide)) (P7 rfl _ _)))
  rw[show("some" : Str)=S (qw true) by decide +kernel,show("all" : Str)=S (qw false) by decide +kernel,show("x" : Str)=S (lw true) by decide +kernel,show("y" : Str)=S (lw false) by decide +kernel]
  rfl
 ·simp[fZ]
 generalize zr xs s (xs.getD 1 0%4).toNat=z at hw ⊢
 exact aF (b0 (Qs.eq (nU (fB (a4 t cR (ab (aa t 4 rfl) aj) (Jm hw.1 (by omega) (by omega))))) rfl) bF)
end
abbrev KT(K:PySem.W.Frag)(l:Addr)(ns:List Int):Prop:=∃(od:Option Addr) (its:Array Value) (n:Nat) (sl:Array (Option Value)),K.lookup l=some ⟨.type "tuple",od,.seq its n,sl⟩/\its.size<=sizeLine/\Vals (ns.map V.int) its.toList
theorem KT.g{K:PySem.W.Frag}(h:KT K l ns):R6 K l ns:=let ⟨od,its,n,sl,h1,h2,h3⟩:=h;⟨_,its,n,h1,rfl,rfl,h2,h3⟩
theorem KT.mk{K:PySem.W.Frag}{l:Addr}{ns:List Int}(h1:K.lookup l=some ⟨.type "tuple",od,.seq its n,sl⟩)(h2:its.size<=sizeLine)(h3:Vals (ns.map V.int) its.toList):KT K l ns:=⟨od,its,n,sl,h1,h2,h3⟩
inductive Ta(p:Params)(K:PySem.W.Frag):List DictEntry->List (List Nat×List Int)->List (List Nat×Addr)->Prop where
 |nil:Ta p K [] [] []
 |cons {z:Str} {tk:Tok} {l:Addr} {u:List Nat} {ns:List Int} {es:List DictEntry} {cs:List (List Nat×List Int)} {ls:List (List Nat×Addr)}:z=S u->KT K l ns->Ta p K es cs ls->Ta p K (⟨PyData.keyHash p z,.str z tk,.ref l⟩::es) ((u,ns)::cs) ((u,l)::ls)
theorem Ta.keys{K:PySem.W.Frag}{p:Params}{es:List DictEntry}{cs:List (List Nat×List Int)}{ls:List (List Nat×Addr)}(h:Ta p K es cs ls):ls.map (·.1)=cs.map (·.1):=by
 induction h with
 |nil=>rfl
 |cons _ _ _ ih=>rw[aS,aS,ih]
theorem Ta.at'{K:PySem.W.Frag}{p:Params}{es:List DictEntry}{cs:List (List Nat×List Int)}{ls:List (List Nat×Addr)}(h:Ta p K es cs ls):(cs.map (·.1)).Nodup->∀q∈cs,∃l,KP ls q.1=some l/\R6 K l q.2:=by
 induction h with
 |nil=>exact fun _ _ z=>nomatch z
 |@cons z tk l u ns es cs ls _ hk _ ih=>
  intro nd q hq
  rw[aS,c8] at nd
  rcases aC.mp hq with rfl | hq
  ·exact⟨l,by show(if u=u then _ else _)=_;rw[ay rfl],hk.g⟩
  ·obtain⟨m,e1,e2⟩:=ih nd.2 q hq
   have ne:u≠q.1:=fun e=>nd.1 (e ▸ a6.mpr ⟨q,hq,rfl⟩)
   exact⟨m,by show(if u=q.1 then _ else _)=_;rw[aq ne];exact e1,e2⟩
theorem CQ:∀{ls:List (List Nat×Addr)},(ls.map (·.1)).Nodup->((sJ (rh ls)).map (·.1)).Nodup
 |[],_=>.nil
 |(u,l)::ls,h=>by
  rw[aS,c8] at h
  show(((Sum.inr (S u):rX))::(sJ (rh ls)).map (·.1)).Nodup
  rw[c8]
  refine⟨fun z=>?_,CQ h.2⟩
  obtain⟨x,hx,e⟩:=a6.mp z
  obtain⟨y,hy,rfl⟩:=a6.mp hx
  obtain⟨v,hv,rfl⟩:=a6.mp hy
  exact h.1 (a6.mpr ⟨v,hv,dX (Qd e)⟩)
theorem Ta.pairs{w:World}{K:PySem.W.Frag}{es:List DictEntry}{cs:List (List Nat×List Int)}{ls:List (List Nat×Addr)}(h:Ta w.params K es cs ls):(∀e∈es,∃k,(gy P w).is k e.key=true/\e.hash=(gy P w).hash k)/\Pairs (gy P w) es (sJ (rh ls)):=by
 induction h with
 |nil=>exact⟨(fun _ z=>nomatch z),.nil⟩
 |@cons z tk l u ns es cs ls hz hk _ ih=>
  subst hz
  refine⟨fun e he=>?_,.cons (oX (S u) tk) rfl ih.2⟩
  rcases aC.mp he with rfl | he
  ·exact⟨Sum.inr (S u),oX (S u) tk,rfl⟩
  ·exact ih.1 e he
theorem yr{w:World}{K:PySem.W.Frag}{q:Addr}{ls:List (List Nat×Addr)}(hq:(q==sysModules)=false)(e:K.lookup q=some ⟨.type "dict",none,.dict es ep,#[]⟩)(c:Ta w.params K es.toList Rn ls):NJ P w K q ls ep:=by
 have nd:(Rn.map (·.1)).Nodup:=by decide
 refine⟨⟨hq,fun h hk=>⟨_,es,hk _ _ e,⟨rfl,rfl,rfl⟩,rfl,fun x hx=>?_,(c.pairs (P:=P)).2,CQ (by rw[c.keys];exact nd)⟩⟩,c.keys,c.at' nd⟩
 exact(c.pairs (P:=P)).1 x (by simpa using hx)
inductive VP(K:PySem.W.Frag):List DictEntry->List (List Nat×List Int)->List (List Int×Addr×Value)->Prop where
 |nil:VP K [] [] []
 |cons {z:Str} {tk:Tok} {l:Addr} {hs:Int} {u:List Nat} {ns:List Int} {es:List DictEntry} {cs:List (List Nat×List Int)} {xs:List (List Int×Addr×Value)}:z=S u->hs=M0 ns->KT K l ns->VP K es cs xs->VP K (⟨hs,.ref l,.str z tk⟩::es) ((u,ns)::cs) ((ns,l,.str z tk)::xs)
theorem VP.ents{K:PySem.W.Frag}{es:List DictEntry}{cs:List (List Nat×List Int)}{xs:List (List Int×Addr×Value)}(h:VP K es cs xs):es=xs.map (entryOfKey (tupleKind (intKind P w)))/\xs.map (·.1)=cs.map (·.2)/\∀g:Heap,K.In g->∀x∈xs,(tupleKind (intKind P w)).is g x.1 x.2.1:=by
 induction h with
 |nil=>exact⟨rfl,rfl,fun _ _ _ z=>nomatch z⟩
 |@cons z tk l hs u ns es cs xs hz hh hk _ ih=>
  refine⟨?_,by rw[aS,aS,ih.2.1],fun g hg x hx=>?_⟩
  ·rw[aS,<-ih.1,hh];rfl
  ·rcases aC.mp hx with rfl | hx
   ·obtain⟨od,its,n,sl,h1,h2,h3⟩:=hk
    exact⟨_,its,n,hg _ _ h1,rfl,rfl,items_int h3⟩
   ·exact ih.2.2 g hg x hx
theorem VP.at'{K:PySem.W.Frag}{es:List DictEntry}{cs:List (List Nat×List Int)}{xs:List (List Int×Addr×Value)}(h:VP K es cs xs):(cs.map (·.2)).Nodup->∀q∈cs,∃c tk,atKey xs q.2=some (c,.str (S q.1) tk):=by
 induction h with
 |nil=>exact fun _ _ z=>nomatch z
 |@cons z tk l hs u ns es cs xs hz hh hk _ ih=>
  subst hz
  intro nd q hq
  rw[aS,c8] at nd
  rcases aC.mp hq with rfl | hq
  ·refine⟨l,tk,?_⟩
   show(List.find? _ ((ns,l,Value.str (S u) tk)::xs)).map _=_
   rw[c9,show decide (ns=ns)=true by simp];rfl
  ·obtain⟨c,t,e⟩:=ih nd.2 q hq
   have ne:ns≠q.2:=fun e=>nd.1 (e ▸ a6.mpr ⟨q,hq,rfl⟩)
   refine⟨c,t,?_⟩
   show(List.find? _ ((ns,l,Value.str (S u) tk)::xs)).map _=_
   rw[c9,show decide (ns=q.2)=false by simp[ne]];exact e
theorem DY{K:PySem.W.Frag}{q:Addr}{xs:List (List Int×Addr×Value)}(e:K.lookup q=some ⟨.type "dict",none,.dict es ep,#[]⟩)(c:VP K es.toList Rn xs):GL P w K q xs:=by
 have nd:(Rn.map (·.2)).Nodup:=by decide
 exact⟨fun h hk=>⟨_,es,ep,hk _ _ e,⟨rfl,rfl,rfl⟩,rfl,(c.ents (P:=P) (w:=w)).1,(c.ents (P:=P) (w:=w)).2.2 h hk,by rw[(c.ents (P:=P) (w:=w)).2.1];exact nd⟩,c.at' nd⟩
theorem Nr{ps:List Str}{us:List Value}(h:us.length=2)(k:∀a0 a1,bindArgs fd ⟨[a0,a1],[]⟩=pure (ps.zip [a0,a1])):bindArgs fd ⟨us,[]⟩=pure (ps.zip us):=match us,h with | [a0,a1],_=>k a0 a1
set_option maxHeartbeats 4000000 in
theorem all_mk{w:World}{K:PySem.W.Frag}{l:PySem.W.OpenLaw}(ht:l.prog.given.tree=none)(X:K.In h)(G:h.Ns mainGlobals mg)(Wk:mg "law"=some (.ref fa))(d1:Kd K "without_end" iI f1 g1)(d2:Kd K "part_at" oO f2 g2)(d3:Kd K "row_of" qO f3 g3)(d4:Kd K "row_plus" mn f4 g4)(d5:Kd K "other_sign" jB f5 g5)(d6:Kd K "row_times" i7 f6 g6)(d7:Kd K "board_of" mq f7 g7)(d8:Kd K "board_plus" jE f8 g8)(d9:Kd K "board_minus" iQ f9 g9)(d10:Kd K "board_times" gi f10 g10)(d11:Kd K "told_anew" gJ f11 g11)(d12:Kd K "is_number" i8 f12 g12)(d13:Kd K "end_of_run" jD f13 g13)(d14:Kd K "refuse_wrong_run" dG f14 g14)(d15:Kd K "token_at" ml f15 g15)(d16:Kd K "tokens_of" kB f16 g16)(d17:Kd K "refuse_deep" gh f17 g17)(d18:Kd K "reader_of" kE f18 g18)(d19:Kd K "next_token" jC f19 g19)(d20:Kd K "take_token" jy f20 g20)(d21:Kd K "take_one_of" iJ f21 g21)(d22:Kd K "refuse_more" iM f22 g22)(d23:Kd K "read_atom" kF f23 g23)(d24:Kd K "read_power" jA f24 g24)(d25:Kd K "read_factor" iO f25 g25)(d26:Kd K "read_product" gT f26 g26)(d27:Kd K "read_sum" mo f27 g27)(d28:Kd K "atom_of" oP f28 g28)(d29:Kd K "power_of_board" fO f29 g29)(d30:Kd K "take_term_step" fN f30 g30)(d31:Kd K "letters_shown" gw f31 g31)(d32:Kd K "product_shown" gv f32 g32)(d33:Kd K "products_of" iP f33 g33)(d34:Kd K "show_term" kD f34 g34)(d35:Kd K "read_comparison" fA f35 g35)(d36:Kd K "read_prefixes" gu f36 g36)(d37:Kd K "saying_ended" gS f37 g37)(d38:Kd K "read_steps" jz f38 g38)(d39:Kd K "take_step" kC f39 g39)(d40:Kd K "read_saying" iN f40 g40)(d41:Kd K "pieces_of" kG f41 g41)(d42:Kd K "show_saying" iK f42 g42)(d43:Kd K "_law_cell" kN f43 g43)(d44:Kd K "_law_numbers" gV f44 g44)(d45:Kd K "_law_trim" kH f45 g45)(d46:Kd K "_law_board_of" gx f46 g46)(d47:Kd K "_law_product" gU f47 g47)(d48:Kd K "_law_line" kM f48 g48)(d49:Kd K "_law_conic" jH f49 g49)(d50:Kd K "_law_board" jI f50 g50)(d51:Kd K "_law_pick" kL f51 g51)(d52:Kd K "_law_is" oQ f52 g52)(d53:Kd K "_law_said" kK f53 g53)(d54:Kd K "_law_letter" iR f54 g54)(d55:Kd K "_law_shown" jF f55 g55)(d56:Kd K "_law_text" kJ f56 g56)(d57:Kd K "_law_right" jG f57 g57)(d58:Kd K "law" uX f58 g58)(WY:PySem.W.nsIn K mainGlobals "len"=some none)(Vo:PySem.W.nsIn K mainGlobals "tuple"=some none)(WX:PySem.W.nsIn K mainGlobals "max"=some none)(Vp:PySem.W.nsIn K mainGlobals "range"=some none)(TL:PySem.W.nsIn K mainGlobals "enumerate"=some none)(Tu:PySem.W.nsIn K mainGlobals "isinstance"=some none)(W0:PySem.W.nsIn K mainGlobals "all"=some none)(WW:PySem.W.nsIn K mainGlobals "str"=some none)(VY:PySem.W.nsIn K mainGlobals "list"=some none)(WZ:PySem.W.nsIn K mainGlobals "int"=some none)(W2:PySem.W.nsIn K mainGlobals "abs"=some none)(U6:PySem.W.nsIn K mainGlobals "WORDS"=some (some (.ref Ux)))(U4:K.lookup Ux=some ⟨.type "tuple",XN,.seq U5 XO,XJ⟩)(gp_WORDS:Vn K U5.toList [.str "x",.str "y",.str "not",.str "and",.str "or",.str "some",.str "all"])(SR:PySem.W.nsIn K mainGlobals "DOUBLE_SIGNS"=some (some (.ref RQ)))(SN:K.lookup RQ=some ⟨.type "tuple",UM,.seq SO UN,UL⟩)(gp_DOUBLE_SIGNS:Vn K SO.toList [.str "<=",.str ">=",.str "!="]){S2:List (List Nat×Addr)}(RP:PySem.W.nsIn K mainGlobals "COMPARISONS"=some (some (.ref R5)))(Rm:K.lookup R5=some ⟨.type "dict",none,.dict S5 U9,#[]⟩)(gb_COMPARISONS:(R5==sysModules)=false)(gt_COMPARISONS:Ta w.params K S5.toList Rn S2){RK:List (List Int×Addr×Value)}(RO:PySem.W.nsIn K mainGlobals "COMPARISONS_SHOWN"=some (some (.ref Rf)))(RN:K.lookup Rf=some ⟨.type "dict",none,.dict RT TR,#[]⟩)(gb_COMPARISONS_SHOWN:(Rf==sysModules)=false)(gt_COMPARISONS_SHOWN:VP K RT.toList Rn RK)(Sa:PySem.W.nsIn K mainGlobals "FIGURES"=some (some (.str ("0123456789" : Str) R7)))(TB:PySem.W.nsIn K mainGlobals "MOST_OPEN"=some (some (.int 20 Tv)))(SQ:PySem.W.nsIn K mainGlobals "MOST_MINUSES"=some (some (.int 20 SK)))(SE:PySem.W.nsIn K mainGlobals "MOST_PREFIXES"=some (some (.int 20 Sz)))(Tg:PySem.W.nsIn K mainGlobals "MOST_SIGNS"=some (some (.int 2000 Te)))(eR:PySem.W.nsIn K mainGlobals "Reader"=some (some (.ref cR)))(r1:PySem.W.makesIn K cR=true)(r2:PySem.W.findIn K (.ref cR) "__init__"=some (some (.ref fI)))(r3:PySem.W.isFn K (.ref fI)=true)(r4:PySem.W.keepIn K (.ref cR)=true)(r5:PySem.W.plainGet K cR Str.empty=true)(r6:PySem.W.hasDictIn K cR=true)(r7:PySem.W.plainOver K cR=true)(r8:PySem.W.findIn K (.ref cR) "__setattr__"=some (some (.builtin "object.__setattr__")))(r9:PySem.W.findIn K (.ref cR) "tokens"=some none)(r10:PySem.W.findIn K (.ref cR) "done"=some none)(r11:PySem.W.findIn K (.ref cR) "steps"=some none)(lI:K.lookup fI=some ⟨ocI,odI,.func (PySem.W.fnOf "__init__" "Reader.__init__" (hZ gj) (bw gj) (ai gj) .none kVI dcI pmI anI cdI ctI),slI⟩)(cI:PySem.W.codeIn K cdI "Reader.__init__"=true)(kI:PySem.W.keepIn K (.ref fI)=true)
  : ∃fd:FuncData,(∀(s:Shared) (v:Value),BindsTo s fd ⟨[v],[]⟩ [("_law_script",v)])/\∀base:Heap,K.In base->base.Ns mainGlobals mg->dJ l.prog w K mg base gH 31 fa fd ["_law_script"] (GY K xJ):=by
 have e:=Wk.symm.trans (bV X G d58.a)
 cases e
 have Qv:=cn X G WY
 have QB:=cn X G Vo
 have Tq:=cn X G WX
 have Qz:=cn X G Vp
 have Q0:=cn X G TL
 have Qw:=cn X G Tu
 have Tr:=cn X G W0
 have Q4:=cn X G WW
 have R9:=cn X G VY
 have Rl:=cn X G WZ
 have Sn:=cn X G W2
 have b1:=d1.b2 X G nq
 have b2:=d2.b3 X G uT
 have b3:=d3.b1 X G xc
 have b4:=d4.b2 X G tm
 have b5:=d5.b1 X G pD
 have b6:=d6.b2 X G qE
 have b7:=d7.b1 X G tq
 have b8:=d8.b2 X G pG
 have b9:=d9.b2 X G nE
 have b10:=d10.b2 X G nD
 have b11:=d11.b1 X G mh
 have b12:=d12.b1 X G qI
 have b13:=d13.b2 X G pF
 have b14:=d14.b1 X G ju
 have b15:=d15.b2 X G tj
 have b16:=d16.b1 X G qB
 have b17:=d17.b3 X G ny
 have b18:=d18.b2 X G qF
 have Wz:=d19.b1 X G pE
 have VX:=d20.b1 X G pA
 have X6:=d21.b2 X G nt
 have b22:=d22.b1 X G nv
 have b23:=d23.b1 X G qG
 have b24:=d24.b1 X G pC
 have b25:=d25.b1 X G nB
 have b26:=d26.b1 X G m5
 have b27:=d27.b1 X G nz
 have b28:=d28.b1 X G uU
 have b29:=d29.b2 X G kz
 have b30:=d30.b2 X G ky
 have b31:=d31.b2 X G lP
 have b32:=d32.b3 X G lO
 have b33:=d33.b1 X G nC
 have b34:=d34.b1 X G qD
 have b35:=d35.b1 X G j6
 have b36:=d36.b1 X G lN
 have b37:=d37.b2 X G m4
 have b38:=d38.b1 X G pB
 have b39:=d39.b2 X G qC
 have b40:=d40.b1 X G nA
 have b41:=d41.b1 X G qH
 have b42:=d42.b1 X G nu
 have b43:=d43.b2 X G qM
 have b44:=d44.b2 X G m7
 have b45:=d45.b1 X G qJ
 have b46:=d46.b1 X G lQ
 have b47:=d47.b2 X G m6
 have b48:=d48.b1 X G qL
 have b49:=d49.b1 X G pI
 have b50:=d50.b1 X G pJ
 have b51:=d51.b1 X G qK
 have b52:=d52.b2 X G uV
 have b53:=d53.b3 X G mj
 have b54:=d54.b2 X G nF
 have b55:=d55.b1 X G pH
 have b56:=d56.b1 X G mi
 have b57:=d57.b1 X G kY
 obtain⟨_,_,kV,dc,pm,an,cd,ct,_,rfl,_,_⟩:=d58.F.ex
 refine⟨PySem.W.fnOf "law" "law" (hZ uX) (bw uX) (ai uX) .none kV dc pm an cd ct,fun s v=>.of_eq rfl,fun base KB _=>?_⟩
 have FI:=FT (st:=gj) lI cI kI
 have bdI:=FI.binds (ps:=["self", "tokens"]) fun _ _ _ _ _ _ us hl=>Nr hl fun _ _=>rfl
 have HW:dJ l.prog w K mg base gH 1 _ _ _ (xS cR):=Ik ht FI uW ⟨r5,r6,r7,r8⟩ r9 r10 r11 rfl rfl rfl
 have f_:=@Na l.prog ht w K mg base
 have f_O:=@Lh l.prog ht w K mg base
 have Z9:=@Il l.prog ht w K mg base
 have UI:=@Lg l.prog ht w K mg base
 have XS:=@Io l.prog ht w K mg base
 have f_RL:=@Im l.prog ht w K mg base
 have f_D:=@Li l.prog ht w K mg base
 have Yr:=@Lf l.prog ht w K mg base
 have ok1:=f_ (k:=0) d1.F nq tJ fun _ hX=>wC hX Qv QB
 have ok2:=f_ (k:=0) d2.F uT Ai fun _ hX=>D7 hX Qv
 have ok3:=f_ (k:=1) d3.F xc Bx fun _ hX=>GC hX  (hX.ca ok1 b1)
 have ok4:=f_ (k:=2) d4.F tm ym fun _ hX=>BV hX Tq Qv Qz (hX.ca ok3 b3) (hX.ca ok2 b2)
 have ok5:=f_ (k:=0) d5.F pD vm fun _ hX=>yW hX QB
 have ok6:=f_ (k:=2) d6.F qE we fun _ hX=>AJ hX Q0 Qv (hX.ca ok3 b3)
 have ok7:=f_ (k:=1) d7.F tq yn fun _ hX=>BW hX  (hX.ca ok1 b1)
 have ok8:=f_ (k:=3) d8.F pG vp fun _ hX=>yY hX Tq Qv Qz (hX.ca ok7 b7) (hX.ca ok4 b4) (hX.ca ok2 b2)
 have ok9:=f_ (k:=4) d9.F nE tT fun _ hX=>wM hX QB (hX.ca ok8 b8) (hX.ca ok5 b5)
 have Xk:=f_ (k:=3) d10.F nD tS fun _ hX=>wL hX Q0 Qv (hX.ca ok7 b7) (hX.ca ok4 b4) (hX.ca ok6 b6)
 have Xh:=f_ (k:=0) d11.F mh (pL (K:=K) 1) fun _ hX=>yV hX Qw QB
 have Zh:=f_ (k:=1) d11.F mh (pL (K:=K) 2) fun _ hX=>yU hX Qw QB (hX.ca Xh b11)
 have Zg:=f_ (k:=0) d12.F qI wk fun _ hX=>AL hX   ⟨R7,bV X G Sa⟩
 have Zf:=f_ (k:=0) d13.F pF vo fun _ hX=>yX hX Qv
 have Ze:=f_O (k:=0) d14.F ju nP fun _ hX=>qc hX Tr Qv  ⟨Ux,bV X G U6,.tup U4 rfl rfl gp_WORDS⟩ ⟨R7,bV X G Sa⟩
 have Zd:=f_ (k:=1) d15.F tj yk fun _ hX=>BU hX  (hX.ca Ze b14) (hX.ca Zf b13) ⟨RQ,bV X G SR,.tup SN rfl rfl gp_DOUBLE_SIGNS⟩
 have Zc:=f_ (k:=2) d16.F qB wc fun _ hX=>AH hX Qv (hX.ca Zd b15)
 have Zb:=f_O (k:=0) d17.F ny tO fun _ hX=>wF hX   ⟨Tv,bV X G TB⟩
 have Za:=Z9 (k:=5) d18.F qF wf fun _ hX=>yR hX Qw Q4 Qv (hX.ca Zc b16) (hX.ca Zb b17) (hX.mkR HW (by decide) ⟨r1,r2,r3,r4⟩ (bV X G eR) bdI ⟨r5,r6,r7,r8⟩ r9 r10 r11)
 have T9:=UI (k:=0) d19.F pE vn fun _ hX=>wz hX Qv
 have TM:=UI (k:=1) d20.F pA vi fun _ hX=>ww hX  (hX.Sh T9 Wz)
 have UX:=UI (k:=2) d21.F nt tK fun _ hX=>vM hX  (hX.Sh TM VX)
 have Y9:=UI (k:=0) d22.F nv tN fun _ hX=>vO hX Qv
 have YE:∀n,dJ l.prog w K mg base gH (5*n+5) f27 g27 ["reader"] (MH K (kl (AR n))):=fun n=>by
  induction n with
  |zero=>exact UI (k:=4) d27.F nz (q9 _) (fun XX hX r ok ds s d s' z=>by obtain⟨_,_,T,_,_,_,hT,_⟩:=z;exact hT.1.1.2.1.elim)
  |succ n ih=>
  have o1:=UI (k:=5*n+5) d23.F qG (wg _) fun _ hX=>yN (n:=n) hX  (hX.Sh TM VX (by omega)) (hX.Sh ih b27 (by omega)) (hX.Sh UX X6 (by omega)) (hX.ca Zg b12 (by omega))
  have o2:=UI (k:=5*n+6) d24.F pC (vk _) fun _ hX=>wy (R:=AR (n+1)) hX R9 (hX.Sh o1 b23 (by omega)) (hX.Sh T9 Wz (by omega)) (hX.Sh TM VX (by omega)) (hX.Sh UX X6 (by omega)) ⟨R7,bV X G Sa⟩
  have o3:=UI (k:=5*n+7) d25.F nB (tQ _) fun _ hX=>vP (ON (n+1)) hX  (hX.Sh o2 b24 (by omega)) (hX.Sh T9 Wz (by omega)) (hX.Sh TM VX (by omega)) ⟨SK,bV X G SQ⟩
  have o4:=UI (k:=5*n+8) d26.F m5 (sF _) fun _ hX=>tW (R:=AR (n+1)) hX  (hX.Sh o3 b25 (by omega)) (hX.Sh T9 Wz (by omega)) (hX.Sh TM VX (by omega))
  have o5:=UI (k:=5*n+9) d27.F nz (q9 _) fun _ hX=>AD (R:=AR (n+1)) hX  (hX.Sh o4 b26 (by omega)) (hX.Sh T9 Wz (by omega)) (hX.Sh TM VX (by omega))
  rw[show 5*(n+1)+5=5*n+9+1 by omega];exact o5
 have Y8:=YE 1
 have Y7:=f_ (k:=0) d28.F uU Aj fun _ hX=>D8 hX Rl
 have Y6:=f_ (k:=4) d29.F kz pZ fun _ hX=>sU hX Qz (hX.ca Xk b10)
 have Y5:=XS (k:=5) d30.F ky rfl fun _ hX=>rR hX Rl (hX.ca Xk b10) (hX.ca ok9 b9) (hX.ca ok8 b8) (hX.ca Y6 b29) (hX.ca Y7 b28)
 have Y4:=f_ (k:=0) d31.F lP rf fun _ hX=>t4 hX
 have Y3:=f_ (k:=1) d32.F lO re fun _ hX=>t3 hX Q4 (hX.ca Y4 b31)
 have Y2:=f_ (k:=0) d33.F nC tR fun _ hX=>wJ hX Qz Qv
 have Y1:=f_ (k:=2) d34.F qD wd fun _ hX=>AI hX Sn (hX.ca Y2 b33) (hX.ca Y3 b32)
 have Y0:=UI (k:=10) d35.F j6 (pe (AR 1)) fun _ hX=>qb hX  (hX.Sh Y8 b27) (hX.Sh UX X6) (FE hX.at' (vR (by rw[hX.Sm];exact R9)) (by rw[hX.Sm];exact bV X G RP) (by obtain⟨_,e1,e2,e3,_⟩:=hX;rw[e1,e2,e3];exact(yr (P:=l.prog) (w:=w) gb_COMPARISONS Rm gt_COMPARISONS).QM) (yr (P:=l.prog) (w:=w) gb_COMPARISONS Rm gt_COMPARISONS).keys rfl)
 have YZ:=UI (k:=3) d36.F lN rc fun _ hX=>sR hX Qv (hX.Sh T9 Wz) (hX.Sh TM VX) (hX.Sh UX X6) ⟨Sz,bV X G SE⟩
 have YY:=f_RL (k:=3) d37.F m4 rfl fun _ hX=>tX hX  (hX.Sh UX X6)
 have YX:=UI (k:=11) d38.F pB (vj (AR 1)) fun _ hX=>wx (P3 1) hX  (hX.Sh YZ b36) (hX.Sh T9 Wz) (hX.Sh TM VX) (hX.Sh Y0 b35) (hX.caRL YY b37)
 have YW:=XS (k:=6) d39.F qC rfl fun _ hX=>yS hX  (hX.ca ok9 b9) (hX.ca Zh b11) (hX.X5 Y5 b30) (bV X G RP) (yr gb_COMPARISONS Rm gt_COMPARISONS)
 have YV:=f_ (k:=12) d40.F nA (tP (AR 1)) fun _ hX=>wH hX  (hX.caRN Za b18) (hX.Sh YX b38) (hX.Sh Y9 b22) (hX.X5 YW b39) ⟨Te,bV X G Tg⟩
 have YU:=f_ (k:=3) d41.F qH wj fun _ hX=>AK hX  (hX.ca Y1 b34) (bV X G RO) (DY RN gt_COMPARISONS_SHOWN)
 have YT:=f_ (k:=4) d42.F nu tL fun _ hX=>wD hX Qw Q4 (hX.ca YU b41)
 have YS:=f_ (k:=0) d43.F qM wo fun _ hX=>AO hX Qv
 have Xj:=f_ (k:=0) d44.F m7 sH fun _ hX=>vT hX Qz Sn Rl
 have YR:=f_ (k:=0) d45.F qJ wl fun _ hX=>AM hX R9 QB Qv
 have YQ:=f_ (k:=1) d46.F lQ rg fun _ hX=>t5 hX Qz QB Qv (hX.ca YR b45)
 have YO:=f_D (k:=0) d47.F m6 sG fun _ hX=>tY hX
 have YN:=f_D (k:=0) d48.F qL wn fun _ hX=>yT hX
 have YM:=f_D (k:=0) d49.F pI vt fun _ hX=>wB hX Qz
 have YL:=f_ (k:=2) d50.F pJ vv fun _ hX=>y3 hX  (hX.ca Xj b44) (hX.ca YQ b46) (hX.caD YN b48) (hX.caD YM b49) (hX.caD YO b47)
 have Xi:=Yr (k:=0) d51.F qK wm fun _ hX=>yQ hX
 have YK:=Yr (k:=1) d52.F uV Ak fun _ hX=>BQ hX Qv (hX.X4 Xi b51)
 have Xg:∀n,dJ l.prog w K mg base gH (n+3) f53 g53 ["_law_state", "_law_boards", "_law_deep"] (MG K (gN n)):=fun n=>by induction n with | zero=>exact Yr d53.F mj (pN 0) (fun _ _ _ _ _ _ _ z=>z.elim) | succ n ih=>exact Yr d53.F mj (pN (n+1)) fun _ hX=>yP hX  (hX.X4 Xi b51 (by omega)) (hX.X4 YK b52 (by omega)) n (hX.X4 ih b53 (by omega))
 have YJ:=Xg 5
 have YI:=f_ (k:=0) d54.F nF tU fun _ hX=>wN hX Rl Q4
 have YH:=f_ (k:=1) d55.F pH vq fun _ hX=>yZ hX Qz Rl Qv Sn Q4 (hX.ca YI b54)
 have Xf:∀n,dJ l.prog w K mg base gH (n+3) f56 g56 ["_law_saying"] (GY K (gL n)):=fun n=>by induction n with | zero=>exact f_ d56.F mi (pM 0) (fun _ _ _ _ z=>z.elim) | succ n ih=>exact f_ d56.F mi (pM (n+1)) fun _ hX=>AN hX  (hX.ca YH b55 (by omega)) n (hX.ca ih b56 (by omega))
 have YG:=Xf 13
 have Xe:∀n,dJ l.prog w K mg base gH (n+17) f57 g57 ["_law_saying"] (GY K (fS n)):=fun n=>by induction n with | zero=>exact f_ d57.F kY (nQ 0) (fun _ _ _ _ z=>z.elim) | succ n ih=>exact f_ d57.F kY (nQ (n+1)) fun _ hX=>y0 hX Tr Qv Qw Q4 QB (hX.ca YG b56 (by omega)) (hX.ca YT b42 (by omega)) (hX.ca YV b40 (by omega)) n (hX.ca ih b57 (by omega))
 have YF:=Xe 13
 exact f_ d58.F J8 H9 fun _ hX=>Nt hX Qz (hX.ca YL b50) (hX.ca Xj b44) (hX.X4 YJ b53) (hX.ca YS b43) (hX.ca YF b57)
theorem walk{q:Program}{l:PySem.W.OpenLaw}{XP:(Str->Option Value)->Heap->Prop}{YP:World->Heap->Prop}{d:DefRec}{K:Params->PySem.W.Frag}(hq:importsNone q=true)(hn:l.most=some 63)(XD:d.params.defaults=[])(hY:∀(w:World) (h:Heap),YP w h->(K w.params).In h)(F:∀(w:World) (mg:Str->Option Value) (fa:Addr) (h:Heap),(K w.params).In h->h.Ns mainGlobals mg->mg d.name=some (.ref fa) ->
   ∃fd:FuncData,(∀(s:Shared) (u:Value),BindsTo s fd ⟨[u],[]⟩ [("_law_script",u)])/\∀base:Heap,(K w.params).In base->base.Ns mainGlobals mg->dJ l.prog w (K w.params) mg base gH 31 fa fd ["_law_script"] (GY (K w.params) xJ)):
  PySem.W.WalkO q loose XP YP l.row.toRowW d [] (fun f vs=>PySem.call f vs):=
 L2.Vq (n:=63) (k:=31) (x := "_law_script") (CX:=fun _=>gH) (sp:=fun w=>GY (K w.params) xJ) hq hn (by decide) XD ⟨rfl,by decide,by decide⟩ hY F (fun _ H a ns hl hO hS=>⟨H,[.R8 ns],.bl true,.refl _,.cons (.R8 hS) .nil,FJ ns hl,fun v F' H' x r=>by cases r;rfl⟩) fun _ _ _ _ _ z=>z
end My
def PySem.W.Fast.tw10523599487621345327:PySem.Program:=PySem.Challenge.pw_planestacks_k36_whole_sayings_shown_and
theorem PySem.W.Fast.te10523599487621345327:PySem.Challenge.pw_planestacks_k36_whole_sayings_shown_and=PySem.W.Fast.tw10523599487621345327:=rfl
namespace PySem.W.Fast
def tw17146264449767782915:=0
def tw3192903423464523808:=0
def tw9548244011605419581:=0
def tw17551060740472480169:=0
def tw15488986161912347260:=0
def tw13872962269134692318:=0
def tw16887677522104811054:=0
def tw6388923108949614748:=0
def tw7761660840554782994:=0
def tw16189976918770375032:=0
def tw4124223142650323624:=0
def tw15039236039365515101:=0
def tw14751191105486710672:=0
def tw12587909451519012828:=0
def tw7439339970310209581:=0
def tw6480158039727344951:=0
def tw11690589137745143257:=0
def tw4800017392986518671:=0
def tw997234059161997252:=0
def tw489622177302003200:=0
def tw2139866519418920896:=0
def tw15057058446943613229:=0
def tw6564092714166869357:=0
def tw11815586556200805612:=0
def tw1351164775298969636:=0
def tw17432245245133833342:=0
def tw11854070752997923236:=0
def tw4422802377254066587:=0
def tw9373984680000726783:=0
def tw1603852569577506640:=0
def tw1171001288034977418:=0
def tw3960526927986282389:=0
def tw472224171570551723:=0
def tw8825484740096175685:=0
def tw7273806428258807109:=0
def tw3348329913138648896:=0
def tw14926496108964203431:=0
def tw11961769519212098854:=0
def tw7751713470714450343:=0
def tw12874136583034179857:=0
def tw12296853192243021260:=0
def tw14833614116380728120:=0
def tw7609773386101084985:=0
def tw7402997193954781230:=0
def tw4436049591863616309:=0
def tw10425878403337446578:=0
def tw3459241472502898098:=0
def tw13806138340290568771:=0
def tw18135556606796119269:=0
def tw14490880446902607628:=0
def tw13456869797068299216:=0
def tw8159653216543359285:=0
def tw13465531004796585822:=0
def tw8043492396881140092:=0
def tw7492592768758361812:=0
def tw17463862582834537357:=0
def tw10053504955279909531:=0
def tw8266873218855505461:=0
def tw8501216799074605769:=0
def tw17975865565089099867:=0
def tw5340194665667135799:=0
def tw3368296075863273685:=0
def tw4177228052766547955:=0
def tw1572715859351631571:=0
def tw1821380348192627567:=0
def tw16942134857131626584:=0
def tw3933144858920095229:=0
def tw6293876517692916392:=0
def tw17017177897059683461:=0
def tw15844732656612481908:=0
def tw14448745018576706885:=0
def tw2701297790790046743:=0
def tw8651409848140719199:=0
def tw4675023694948749867:=0
def tw3946656090944408478:=0
def tw4578321382259220399:=0
def tw272910201252599230:=0
def tw9883160189928904712:=0
def tw12227850527318456259:=0
def tw13525290948195990351:=0
def tw17352419521674965463:=0
def tw2491052467142238083:=0
def tw18267821095049920337:=0
def tw7972925577846123746:=0
def tw6281062004588260469:=0
def tw11473896408467466562:=0
def tw1495623271435449840:=0
def tw10885498382227177354:=0
def tw5980338730025590460:=0
def tw7049743800910800829:=0
def tw360473818342159593:=0
def tw15008992352815321306:=0
def tw3520087233042379694:=0
def tw17729331996404787401:=0
def tw7778376004901344960:=0
def tw12269621692911767322:=0
def tw5126395643638782293:=0
def tw18292123924654154891:=0
def tw11774322903491481766:=0
def tw3099839140083753018:=0
def tw17174020101614542076:=0
def tw9072691980072381727:=0
def tw16950155589878280090:=0
def tw12928364774789718614:=0
def tw13477044987433022718:=0
def tw235554365925067596:=0
def tw9169473275779557138:=0
def tw3959854566808033422:=0
def tw8319370078658327711:=0
def te17890539189475577504:=0
def tw8272826009250559258:=0
def tw17220474046565238548:=0
def tw15904302867919176003:=0
def tw16700205486007668804:=0
def tw6302021526466075517:=0
def tw9491346753890267296:=0
def tw17540413009506894562:=0
def tw7840217255541858702:=0
def tw10064827777028899883:=0
def tw13311696298210604579:=0
def tw4087318352164467805:=0
def tw16976689632301599456:=0
def tw2755502805944737584:=0
def tw17866141111405227895:=0
def tw18385942935012419192:=0
def tw15642237510596630528:=0
def tw1585387297014188005:=0
def tw15728402848108923204:=0
def tw7824971479183569457:=0
def tw8372521761087307360:=0
def tw2185699622037743548:=0
def tw18249215740394866916:=0
def tw15043963594366612223:=0
def tw8036976560631442124:=0
def tw12704110020265263603:=0
def tw12806863013959151509:=0
def tw4776420032668007827:=0
def tw8852324767450197427:=0
def tw2043199079209560668:=0
def tw6412538449101456949:=0
def tw3048503771207801603:=0
def tw3540547254752989798:=0
def tw16094801803332014455:=0
def tw11149209042720103584:=0
def tw10159771106675057930:=0
def tw3176244169705992749:=0
def tw18228367464141947004:=0
def tw360513785915939436:=0
def tw11321327301975454275:=0
def tw9834898020928849412:=0
def tw4420292870847349757:=0
def tw15357483907780790055:=0
def tw18058665285290462662:=0
def tw769449595876489367:=0
def tw4915775538969075527:=0
def tw6411171683933646028:=0
def tw1618177417510521771:=0
def tw851306047936146799:=0
def tw6840492453244556836:=0
def tw14995532698534567373:=0
def tw7130875152021742324:=0
def tw15146364812290270582:=0
def tw13784367661655377211:=0
def tw13850180056647436073:=0
def tw356559567356680725:=0
def tw6397112552318459973:=0
def tw16187189287844696927:=0
def tw16271922366115538602:=0
def tw17675411521483502303:=0
def tw4818243470773060843:=0
def tw12660824804654988322:=0
def tw13670452002115355155:=0
def tw1293948863863112240:=0
def tw5975304306271302401:=0
def tw1194470626201800544:=0
def tw3970708356880762068:=0
def tw17336864046158571569:=0
def tw7031963081352153109:=0
def tw13601434018693245163:=0
def tw14652106686072617989:=0
def tw17120387105491067058:=0
def tw17692974892945864807:=0
def tw12777877325167482775:=0
def tw5731099891581504594:=0
def tw5462646367014904322:=0
def tw5950862021352839047:=0
def tw974760097161343294:=0
def tw10850151799698481531:=0
def tw7596563671708488226:=0
def tw12642542159384142910:=0
def tw10188690176792950288:=0
def tw1667757512408940826:=0
def tw8131169372685648916:=0
def tw10727207508440360649:=0
def tw10071765032347947271:=0
def tw3402445564146018112:=0
def tw17714251347910189445:=0
def tw12796453918511020555:=0
def tw1499964828313165230:=0
def tw3351363710188252666:=0
def tw11602831640031880475:=0
def tw9523237836724660814:=0
def tw16761578620373534271:=0
def tw7958513323935295995:=0
def tw4870528867305928045:=0
def tw167661570664691381:=0
def tw491487280073830799:=0
def tw8079601229876199964:=0
def tw6858877011451553923:=0
def tw10951203617913264037:=0
def tw7337755590620318240:=0
def tw9583442333824186497:=0
def tw14724057710524538132:=0
def tw14491022331141099989:=0
def tw10726403035794370804:=0
def tw17239990219724090848:=0
def tw8130722785721827858:=0
def tw2113730901934403179:=0
def tw1107430824090596147:=0
def tw13086839161313713391:=0
def tw5931463520698780022:=0
def tw15508296851992227548:=0
def tw11707012040576633525:=0
def tw8343442935879156482:=0
def tw14190122519975180001:=0
def tw16606067474725475930:=0
def tw7917458234170816284:=0
def tw15471378333397738352:=0
def tw10398550322670926125:=0
def tw41359208853559172:=0
def tw7232780108642242392:=0
def tw4861141612284564258:=0
def tw14090508870273254663:=0
def tw14158604820545852084:=0
def tw4199129978779805638:=0
def tw12092443216737119362:=0
def tw6941469979608991251:=0
def tw726432449724895961:=0
def tw857674995623869835:=0
def tw2709322824880488166:=0
def tw16028667220155676881:=0
def tw13707729480788463258:=0
def tw17703647523030454150:=0
def tw13656620641095734536:=0
def tw14885776714741284745:=0
def tw16888637105737678627:=0
def tw15161987153149854711:=0
def tw4022782960135662784:=0
def tw2475636572112951252:=0
def tw13292461632037971682:=0
def tw12523358937253158596:=0
def tw10308194668885695209:=0
def tw17758826103769959229:=0
def tw550910425688432256:=0
def tw6730934739766605278:=0
def tw11675660324399018233:=0
def tw10097264559468319564:=0
def tw4290290751038509630:=0
def tw1792099915380655278:=0
def tw2205103259996460803:=0
def tw10360464974417587611:=0
def tw9679997241863351987:=0
def tw6676841512406254659:=0
def tw17695068087969440845:=0
def tw6060873858108810185:=0
def tw3839021591116110120:=0
def tw1087714051795129530:=0
def tw9173930533294276062:=0
def tw17649695084940925835:=0
def tw10518358463641823774:=0
def tw6472201226834084093:=0
def tw18076583731265676365:=0
def tw18280763245670429330:=0
def tw8544757682061653739:=0
def tw16784100428775235960:=0
def tw10385313270900289768:=0
def tw5423756611971109664:=0
def tw6978129852480358475:=0
def tw12741707750193786546:=0
def tw16822771956010072656:=0
def tw8296448632049464134:=0
def tw14941680664681064098:=0
def tw8075579296909841153:=0
def tw15254291854688547541:=0
def tw15785610422296513100:=0
def tw14004260462454935469:=0
def tw15901284280795955488:=0
def tw10680858539431123189:=0
def tw4727204379286914328:=0
def tw10077205993875792532:=0
def tw13863278678078633891:=0
def tw12378250958872696164:=0
def tw10443209686326077633:=0
def tw1178960966311481676:=0
def tw6759654079373109566:=0
def tw2789711270942959122:=0
def tw9455043529381485351:=0
def tw16429532367567975573:=0
def tw10088303570744589679:=0
def tw12735134183733951340:=0
def tw14918377896035824311:=0
def tw16780851833969046036:=0
def tw8758477342949064563:=0
def tw8502853753214719528:=0
def tw37267568577818392:=0
def tw6067186434134700800:=0
def tw14977005584754386371:=0
def tw433022606895838701:=0
def tw8941301565939074336:=0
def tw13785025986716898981:=0
def tw3694593925596880018:=0
def tw14742073677884864515:=0
def tw4692822823473786166:=0
def tw12521187111427452862:=0
def tw5600404217183406198:=0
def tw11268408273103853225:=0
def tw8143167176528375081:=0
def tw11939356261786851229:=0
def tw6512029126028016251:=0
def tw14836433748819337132:=0
def tw5031134844915039398:=0
def tw29335782357572168:=0
def tw12475356143479548791:=0
def tw10243641669604003172:=0
def tw2568963382495302500:=0
def tw8033291496983600206:=0
def tw13663968035717945517:=0
def tw1754309209846181109:=0
def tw7013838558020671701:=0
def tw17465074550267367901:=0
def tw2231553293441192932:=0
def tw7186552992301101564:=0
def tw8904861023736287619:=0
def tw15788802672302395517:=0
def tw6089664957186145600:=0
def tw16716056955376534552:=0
def tw4474737855818246385:=0
def tw11994664801814264919:=0
def tw4040748510083013781:=0
def tw12527238336373433944:=0
def tw14003266849558530000:=0
def tw2505575682923596215:=0
def tw13198865489007315809:=0
def tw13242278557846066201:=0
def tw11921307578715168775:=0
def tw4722406076946078129:=0
def tw554552209791430712:=0
def tw11394517190032624592:=0
def tw6221245692223209161:=0
def tw18287530663232015528:=0
def tw15777789629846768969:=0
def tw10452562787195560210:=0
def tw17147004709919081558:=0
def tw16238012630548263197:=0
def tw7644129956165653685:=0
def tw319063896540557940:=0
def tw2600263447552602177:=0
def tw13747692193759283101:=0
def tw5819325500852230956:=0
def tw10919325419201069107:=0
def tw6827406183263833333:=0
def tw15604992175422247339:=0
def tw12348844711199078150:=0
def tw798530027904678325:=0
def tw6443663337397499731:=0
def tw4655312451424003884:=0
def tw5032147444600252545:=0
def tw11501419776272378260:=0
def tw4806720490445352022:=0
def tw6010770336806858126:=0
def tw15351535442410237854:=0
def tw9679679647698259152:=0
def tw2609715135188451362:=0
def tw12204987269194968575:=0
def tw15088706183941813278:=0
def tw14557433484569015222:=0
def tw916443761433782022:=0
def tw6469638434285647382:=0
def tw6059154439362843332:=0
def tw4176032045589455887:=0
def tw6066714196871656284:=0
def tw1903177940405045592:=0
def tw8232586368395771306:=0
def tw5568078590121246320:=0
def tw12619441369130200883:=0
def tw4934498987697377137:=0
def tw2595996668542508164:=0
def tw3661485218649272673:=0
def tw42402910586239623:=0
def tw12292404763673279961:=0
def tw10512033423490044233:=0
def tw17834216309215926735:=0
def tw15613033728379804464:=0
def tw14423013544013294020:=0
def tw5342147449809817061:=0
def tw8625933114532026224:=0
def tw4594013085340808980:=0
def tw13904000148407121497:=0
def tw9979676609165723030:=0
def tw14271152501597543502:=0
def tw16216889460405992777:=0
end PySem.W.Fast
open PySem PySem.W PyProof.Rows
set_option maxRecDepth 100000 in
set_option maxHeartbeats 0 in
theorem PySem.Challenge.cw_planestacks_k36_whole_sayings_shown_and_holds : PySem.Challenge.rw_planestacks_k36_whole_sayings_shown_and.Holds := by
 w_on; o_law; k_head; (case hw => w_witness2)
 k_fill
 refine My.walk (l := PySem.Challenge.rw_planestacks_k36_whole_sayings_shown_and) (by decide +kernel) rfl rfl (fun w h Y => PySem.W.kIn_of Y) ?F
 case F =>
  intro w mg fa h KX G hmg
  refine' My.all_mk rfl KX G hmg (L2.EV.kd ?_ ?_ ?_ ?_) (L2.EV.kd ?_ ?_ ?_ ?_) (L2.EV.kd ?_ ?_ ?_ ?_) (L2.EV.kd ?_ ?_ ?_ ?_) (L2.EV.kd ?_ ?_ ?_ ?_) (L2.EV.kd ?_ ?_ ?_ ?_) (L2.EV.kd ?_ ?_ ?_ ?_) (L2.EV.kd ?_ ?_ ?_ ?_) (L2.EV.kd ?_ ?_ ?_ ?_) (L2.EV.kd ?_ ?_ ?_ ?_) (L2.EV.kd ?_ ?_ ?_ ?_) (L2.EV.kd ?_ ?_ ?_ ?_) (L2.EV.kd ?_ ?_ ?_ ?_) (L2.EV.kd ?_ ?_ ?_ ?_) (L2.EV.kd ?_ ?_ ?_ ?_) (L2.EV.kd ?_ ?_ ?_ ?_) (L2.EV.kd ?_ ?_ ?_ ?_) (L2.EV.kd ?_ ?_ ?_ ?_) (L2.EV.kd ?_ ?_ ?_ ?_) (L2.EV.kd ?_ ?_ ?_ ?_) (L2.EV.kd ?_ ?_ ?_ ?_) (L2.EV.kd ?_ ?_ ?_ ?_) (L2.EV.kd ?_ ?_ ?_ ?_) (L2.EV.kd ?_ ?_ ?_ ?_) (L2.EV.kd ?_ ?_ ?_ ?_) (L2.EV.kd ?_ ?_ ?_ ?_) (L2.EV.kd ?_ ?_ ?_ ?_) (L2.EV.kd ?_ ?_ ?_ ?_) (L2.EV.kd ?_ ?_ ?_ ?_) (L2.EV.kd ?_ ?_ ?_ ?_) (L2.EV.kd ?_ ?_ ?_ ?_) (L2.EV.kd ?_ ?_ ?_ ?_) (L2.EV.kd ?_ ?_ ?_ ?_) (L2.EV.kd ?_ ?_ ?_ ?_) (L2.EV.kd ?_ ?_ ?_ ?_) (L2.EV.kd ?_ ?_ ?_ ?_) (L2.EV.kd ?_ ?_ ?_ ?_) (L2.EV.kd ?_ ?_ ?_ ?_) (L2.EV.kd ?_ ?_ ?_ ?_) (L2.EV.kd ?_ ?_ ?_ ?_) (L2.EV.kd ?_ ?_ ?_ ?_) (L2.EV.kd ?_ ?_ ?_ ?_) (L2.EV.kd ?_ ?_ ?_ ?_) (L2.EV.kd ?_ ?_ ?_ ?_) (L2.EV.kd ?_ ?_ ?_ ?_) (L2.EV.kd ?_ ?_ ?_ ?_) (L2.EV.kd ?_ ?_ ?_ ?_) (L2.EV.kd ?_ ?_ ?_ ?_) (L2.EV.kd ?_ ?_ ?_ ?_) (L2.EV.kd ?_ ?_ ?_ ?_) (L2.EV.kd ?_ ?_ ?_ ?_) (L2.EV.kd ?_ ?_ ?_ ?_) (L2.EV.kd ?_ ?_ ?_ ?_) (L2.EV.kd ?_ ?_ ?_ ?_) (L2.EV.kd ?_ ?_ ?_ ?_) (L2.EV.kd ?_ ?_ ?_ ?_) (L2.EV.kd ?_ ?_ ?_ ?_) (L2.EV.kd ?_ ?_ ?_ ?_) ?_ ?_ ?_ ?_ ?_ ?_ ?_ ?_ ?_ ?_ ?_ ?_ ?_ ?gp_WORDS ?_ ?_ ?gp_DOUBLE_SIGNS ?_ ?_ ?gb_COMPARISONS ?gt_COMPARISONS ?_ ?_ ?gb_COMPARISONS_SHOWN ?gt_COMPARISONS_SHOWN ?_ ?_ ?_ ?_ ?_ ?_ ?_ ?_ ?_ ?_ ?_ ?_ ?_ ?_ ?_ ?_ ?_ ?_ ?_ ?_
  all_goals try k_is
  (case gp_WORDS => refine' (.cons (.str _ _) (.cons (.str _ _) (.cons (.str _ _) (.cons (.str _ _) (.cons (.str _ _) (.cons (.str _ _) (.cons (.str _ _) .nil))))))))
  (case gp_DOUBLE_SIGNS => refine' (.cons (.str _ _) (.cons (.str _ _) (.cons (.str _ _) .nil))))
  (case gb_COMPARISONS => decide)
  (case gt_COMPARISONS => refine' (.cons (by decide +kernel) (My.KT.mk ?ha0 ?hb0 ?hc0) (.cons (by decide +kernel) (My.KT.mk ?ha1 ?hb1 ?hc1) (.cons (by decide +kernel) (My.KT.mk ?ha2 ?hb2 ?hc2) (.cons (by decide +kernel) (My.KT.mk ?ha3 ?hb3 ?hc3) (.cons (by decide +kernel) (My.KT.mk ?ha4 ?hb4 ?hc4) (.cons (by decide +kernel) (My.KT.mk ?ha5 ?hb5 ?hc5) .nil)))))); (case ha0 => k_is); (case hb0 => exact Nat.le_of_ble_eq_true rfl); (case hc0 => exact .cons ⟨_, rfl⟩ (.nil)); (case ha1 => k_is); (case hb1 => exact Nat.le_of_ble_eq_true rfl); (case hc1 => exact .cons ⟨_, rfl⟩ (.nil)); (case ha2 => k_is); (case hb2 => exact Nat.le_of_ble_eq_true rfl); (case hc2 => exact .cons ⟨_, rfl⟩ (.nil)); (case ha3 => k_is); (case hb3 => exact Nat.le_of_ble_eq_true rfl); (case hc3 => exact .cons ⟨_, rfl⟩ (.cons ⟨_, rfl⟩ (.nil))); (case ha4 => k_is); (case hb4 => exact Nat.le_of_ble_eq_true rfl); (case hc4 => exact .cons ⟨_, rfl⟩ (.cons ⟨_, rfl⟩ (.nil))); (case ha5 => k_is); (case hb5 => exact Nat.le_of_ble_eq_true rfl); (case hc5 => exact .cons ⟨_, rfl⟩ (.cons ⟨_, rfl⟩ (.nil))))
  (case gb_COMPARISONS_SHOWN => decide)
  (case gt_COMPARISONS_SHOWN => refine' (.cons (by decide +kernel) (by decide +kernel) (My.KT.mk ?ha0 ?hb0 ?hc0) (.cons (by decide +kernel) (by decide +kernel) (My.KT.mk ?ha1 ?hb1 ?hc1) (.cons (by decide +kernel) (by decide +kernel) (My.KT.mk ?ha2 ?hb2 ?hc2) (.cons (by decide +kernel) (by decide +kernel) (My.KT.mk ?ha3 ?hb3 ?hc3) (.cons (by decide +kernel) (by decide +kernel) (My.KT.mk ?ha4 ?hb4 ?hc4) (.cons (by decide +kernel) (by decide +kernel) (My.KT.mk ?ha5 ?hb5 ?hc5) .nil)))))); (case ha0 => k_is); (case hb0 => exact Nat.le_of_ble_eq_true rfl); (case hc0 => exact .cons ⟨_, rfl⟩ (.nil)); (case ha1 => k_is); (case hb1 => exact Nat.le_of_ble_eq_true rfl); (case hc1 => exact .cons ⟨_, rfl⟩ (.nil)); (case ha2 => k_is); (case hb2 => exact Nat.le_of_ble_eq_true rfl); (case hc2 => exact .cons ⟨_, rfl⟩ (.nil)); (case ha3 => k_is); (case hb3 => exact Nat.le_of_ble_eq_true rfl); (case hc3 => exact .cons ⟨_, rfl⟩ (.cons ⟨_, rfl⟩ (.nil))); (case ha4 => k_is); (case hb4 => exact Nat.le_of_ble_eq_true rfl); (case hc4 => exact .cons ⟨_, rfl⟩ (.cons ⟨_, rfl⟩ (.nil))); (case ha5 => k_is); (case hb5 => exact Nat.le_of_ble_eq_true rfl); (case hc5 => exact .cons ⟨_, rfl⟩ (.cons ⟨_, rfl⟩ (.nil))))
