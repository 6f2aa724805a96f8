import PyProof.Rows.All
import Wide.All
import OpenK.AllK
import Wide.FinOn
import Lean
import PyProof.EqAt
import PyProof.EqKinds
import PyProof.TupleCall
import PyProof.NeKinds
import PyProof.SumWalkG
import PyProof.Rows.CallKwBuiltin
import PyProof.Rows.FStr
import PyProof.ListRange
import PyProof.ZipIter
import PyProof.CompFree
import KE.KIntText
import PyProof.StrWalks
import PyProof.Rows.StrMul
import PyProof.ConsumeWalk
import Wide.Txt
import PySem.Challenge.RW_beltshares_k44_whole_made_works_are_even
open PySem.W (instObj methodObj lookIn plainGet hasDictIn findIn handedIn plainGet_of isFn plainOver takerIn any_some makesIn emptyDict looks_findIn keepIn specialIn takesIn mroIn fnOf codeIn callWith_K methodCall_KW kitOne excIn nsIn mg_of readsIn findCls binds_K mg_none_of)
set_option Elab.async false
set_option linter.all false
set_option maxRecDepth 100000
set_option compiler.extract_closed false
set_option bootstrap.genMatcherCode false
set_option hygiene false
local macro_rules | `(tactic| walk_at "p")=>`(tactic| first|exact Or.inl rfl|exact Or.inr rfl|assumption)
local macro_rules | `(tactic| walk_at "q")=>`(tactic| first|exact L2.nobehind _ (by decide) (by decide)|rfl)
set_option hygiene true
open List (nodup_append cons_append nodup_range of_mem_zip nil_append find?_some nodup_nil any_cons)
def aa:=@List.getElem?_eq_some_iff
def ae:=@List.getElem?_eq_getElem
def af:=@PySem.wpAny_bind
def ah:=@List.getD_eq_getElem?_getD
def ai:=@List.length_map
def aj:=@List.mem_of_getElem?
def ak:=@PySem.Heap.get?_push_of_some
def am:=@List.getElem?_map
def ao:=@PySem.wpAny_pure
def ap:=@List.mem_singleton
def aq:=@if_neg
def ar:=@Option.map_eq_some_iff
def au:=@Nat.le_refl
def av:=@List.size_toArray
def aw:=@PySem.Heap.lt_size
def ax:=@if_pos
def ay:=@PySem.Heap.get?_push_size
def az:=@List.mem_cons
def aA:=@List.mem_cons_of_mem
def aB:=@List.mem_append
def aC:=@Bool.false_ne_true
def aD:=@List.length_append
def aE:=@Int.toNat_natCast
def aF:=@Nat.ne_of_lt
def aG:=@List.take_add_one
def aH:=@List.take_length
def aI:=@Nat.lt_of_lt_of_le
def aJ:=@Option.getD_some
def aK:=@PySem.F.plainAttrs_list
def aM:=@Array.length_toList
def aN:=@List.mem_map
def aO:=@Option.some.inj
def aP:=@List.length_take
def aQ:=@List.getElem?_append_right
def aR:=@Bool.false_eq_true
def aS:=@List.all_eq_true
def aT:=@List.getElem?_append_left
def aU:=@List.getElem?_of_mem
def aV:=@PySem.F.type_list_append
def aW:=@PySem.F.slot_list_append
def aX:=@beq_eq_false_iff_ne
def aY:=@decide_eq_false
def aZ:=@List.map_append
def a7:=@List.mem_append_right
def a8:=@List.length_replicate
def a9:=@List.getElem?_set_self
def ba:=@Ne.symm
def bb:=@List.length_cons
def bc:=@decide_eq_true_eq
def bd:=@Nat.le_trans
def be:=@List.mem_range
def bg:=@PySem.wpAny_mono
def bh:=@List.mem_cons_self
def bj:=@Nat.lt_of_le_of_lt
def bn:=@Int.natAbs_natCast
def bp:=@of_decide_eq_true
def br:=@List.map_cons
def bu:=@decide_eq_true
def bw:=@Nat.le_of_lt
def bx:=@PySem.wpAny_field
def bz:=@PySem.Heap.size_push
def bA:=@PyProof.Rows.callWith_type1
def bB:=@Array.getD_eq_getD_getElem?
def bD:=@Array.getElem?_eq_some_iff
def bE:=@Array.getElem?_eq_getElem
def bF:=@PySem.wpAny_seqItems
def bH:=@PySem.Heap.get?_update_other
def bI:=@beq_iff_eq
def bJ:=@List.mem_filterMap
def bK:=@PySem.Heap.get?_update_self
def bL:=@PySem.wpAny_Call_Name_kw
def bM:=@PySem.W.mg_none_of
def bN:=@List.getLastD_eq_getLast?
def bO:=@if_false
def bP:=@congrArg
def bQ:=@PySem.mem_of_lookup
def bR:=@PySem.wpAny_truthy_bool
def bS:=@List.mem_append_left
def bT:=@List.getElem?_set_ne
def bU:=@List.mem_replicate
def bV:=@Int.natCast_nonneg
def bW:=@Classical.byContradiction
def bX:=@List.length_set
def bY:=@List.filterMap_cons
def bZ:=@Option.map_some
def b5:=@Option.some.injEq
def b6:=@PySem.Obj.data_mapFields
def b7:=@Nat.zero_le
def b8:=@Int.le_refl
def b9:=@List.take_zero
def cc:=@Int.toNat_of_nonneg
def cf:=@PySem.wpAny_pyIter_list
def cg:=@Option.bind_eq_some_iff
def ci:=@Nat.lt_succ_self
def cj:=@Bool.and_false
def ck:=@Bool.and_eq_true
def cm:=@Nat.mod_lt
def cn:=@List.mem_filter
def cr:=@Nat.le_of_ble_eq_true
def cu:=@Array.getElem?_toList
def cx:=@List.append_assoc
def cy:=@Option.isSome_map
def cz:=@PySem.wpAny_setField_rec
def cA:=@PySem.wpAny_passesOwn
def cB:=@PySem.wpAny_holding
def cD:=@PySem.Paired.length
def cE:=@Nat.mod_eq_of_lt
def cF:=@Int.mul_comm
def cG:=@List.replicate_succ
def cH:=@PySem.W.mg_of
def cI:=@List.map_congr_left
def cJ:=@PySem.F.type_list_extend
def cK:=@PySem.F.slot_list_extend
def cM:=@Nat.lt_irrefl
def cO:=@PySem.F.slot_tuple_iterator_next
def cP:=@Bool.not_true
def cQ:=@List.getElem?_eq_none
def cR:=@List.nodup_cons
def cS:=@List.cons.injEq
def cT:=@Int.emod_nonneg
def cU:=@PySem.codeAny_mono
def cV:=@Int.emod_lt_of_pos
def cW:=@PySem.F.called_set
def cX:=@List.length_eq_zero_iff
def cY:=@List.map_map
def cZ:=@List.append_nil
def c7:=@List.not_mem_nil
def c8:=@List.lookup_cons
def c9:=@PySem.SeqAt.EqAt.of_refs
def da:=@PySem.wpAny_callSpecial?_slot
def db:=@Int.natAbs_dvd_natAbs
def dc:=@List.take_of_length_le
def dg:=@PySem.wpAny_setState_of
def dh:=@PySem.SeqAt.RcAt.tuples
def di:=@Nat.le_succ
def dj:=@Bool.and_eq_true_iff
def dq:=@List.find?_cons
def du:=@PySem.Obj.isFreed_of_fields
def dA:=@Nat.ne_of_gt
def dB:=@Nat.mul_comm
def dC:=@Int.le_of_lt
def dD:=@List.length_drop
def dE:=@List.getElem_mem
def dF:=@List.pairwise_cons
def dG:=@Int.add_mul_emod_self_left
def dH:=@Array.forIn_toList
def dI:=@List.set_eq_of_length_le
def dJ:=@List.pairwise_iff_getElem
def dL:=@List.getElem?_eq_none_iff
def dM:=@List.length_range
def dN:=@Nat.lt_succ_of_lt
def dO:=@Int.gcd_dvd_right
def dP:=@PySem.Heap.SameBut.update
def dQ:=@Nat.mul_assoc
def dR:=@List.range_succ
def dS:=@List.length_nil
def dU:=@List.getElem?_replicate
def dW:=@PySem.wpAny_setField
def dX:=@or_false
def dY:=@beq_self_eq_true
def dZ:=@Nat.le_add_right
def d5:=@List.mem_flatMap
def d6:=@if_true
def d7:=@PySem.W.callWith_K
def d8:=@Nat.pow_succ
def d9:=@Nat.add_zero
def ef:=@Int.zero_add
def eu:=@PySem.wpAny_newObj_type
def eB:=@Bool.eq_iff_iff
def eC:=@List.length_singleton
def eD:=@List.getElem?_zipWith
def eE:=@PySem.wpAny_forIn_list
def eI:=@PySem.wpAny_call_entry
def eJ:=@PySem.W.methodCall_KW
def eK:=@PySem.Around.in1_units
def eM:=@List.map_set
def eP:=@List.flatten_cons
def eQ:=@List.length_pos_iff
def eR:=@PySem.wpAny_execs_nil
def eT:=@List.exists_cons_of_ne_nil
def eU:=@PySem.codeAny_builtin
def eV:=@PySem.SeqAt.EqAt.same
def eX:=@Nat.add_assoc
def eY:=@PySem.F.slot_zip_next
def eZ:=@Bool.true_and
def e6:=@Int.mul_nonpos_of_nonneg_of_nonpos
def fe:=@List.getElem_of_mem
def ff:=@PySem.wpAny_updateSeq_pair
def fh:=@Nat.zero_add
def fk:=@Nat.lt_trichotomy
def fo:=@Nat.lt_trans
def fq:=@Int.sub_self
def ft:=@Int.add_emod
def fu:=@Function.comp_def
def fv:=@PySem.Around.under_plainId
def fA:=@Option.getD_none
def fB:=@Int.natCast_emod
def fC:=@PySem.wpAny_onRaise
def fD:=@Nat.mul_pos
def fE:=@PySem.wpAny_call
def fF:=@PySem.tupleKind_room_in1
def fG:=@PySem.Walks.list
def fH:=@Nat.min_le_left
def fI:=@Int.natCast_mul
def fJ:=@Int.natCast_add
def fK:=@List.map_nil
def fM:=@and_true
def fN:=@Int.fdiv_eq_ediv_of_nonneg
def fO:=@Int.eq_of_mul_eq_mul_right
def fP:=@List.take_succ
def fQ:=@PySem.F.slot_dict_getitem
def fR:=@Nat.eq_of_mul_eq_mul_left
def fS:=@List.getLast?_eq_getElem?
def fT:=@PySem.wpAny_isInstance
def fU:=@PySem.wpAny_execs_cons
def fV:=@PySem.SeqAt.RcAt.lists
def fW:=@Option.isSome_iff_exists
def fX:=@Int.mul_assoc
def fY:=@Bool.and_true
def fZ:=@PySem.sizeLine_eq
def f9:=@PySem.seqIndex_of
def gc:=@PySem.wpAny_specialOf
def gd:=@PySem.W.cellsFrom_some
def gf:=@PyProof.noPylong_small
def gg:=@Nat.succ_mul
def gi:=@Nat.sub_self
def gj:=@Nat.min_self
def gk:=@List.drop_of_length_le
def gm:=@List.Perm.append_right
def gq:=@Int.add_zero
def gu:=@PySem.F.args_tuple_iterator_next_1
def gw:=@List.length_zipWith
def gx:=@List.length_reverse
def gy:=@List.forIn_cons
def gz:=@List.flatMap_append
def gA:=@List.mem_iff_getElem?
def gC:=@List.getElem?_reverse
def gD:=@List.Perm.append_left
def gE:=@PySem.F.entry_tuple_iterator_next
def gF:=@PySem.call_meets
def gG:=@Nat.pow_lt_pow_right
def gH:=@Nat.one_mul
def gI:=@Nat.mul_one
def gJ:=@Nat.add_mod
def gL:=@List.mem_of_mem_take
def gM:=@Int.one_dvd
def gO:=@Int.emod_emod_of_dvd
def gP:=@Decidable.of_not_not
def gQ:=@PySem.Calls.Name_function_global
def gR:=@PySem.W.binds_K
def gS:=@PySem.intBits_le_64
def gU:=@PySem.W.pyHash_slot
def gW:=@PySem.W.callWith_K0
def gX:=@Nat.add_le_add_left
def gY:=@List.toList_toArray
def gZ:=@List.getElem?_range
def g6:=@PySem.wpAny_standAt
def g7:=@PySem.wpAny_comprehension_free
def g8:=@PySem.wpAny_attempt
def g9:=@PySem.SeqAt.RcAt.lists_lengths
def hJ:=@Option.toList_some
def hW:=@Nat.mod_eq_sub_mod
def hX:=@List.find?_eq_none
def ia:=@Int.lt_of_lt_of_le
def ib:=@Array.append_assoc
abbrev A0:=PySem.W.Frag
abbrev A1:=List (Int × Int)
abbrev A2:=List (PySem.Addr × PySem.Obj)
abbrev A3:=PySem.Value->PySem.Shared->Prop
abbrev A4:=PySem.Str->Option PySem.Value
abbrev A5:=PySem.Addr->Prop
abbrev A6:=List Int
abbrev A7:=List PySem.Value
abbrev A8:=List PySem.Str
abbrev A9:=Option Int
abbrev Aa:=Option PySem.Addr
abbrev Ab:=List PySem.Addr
abbrev Ac:=Array PySem.Value
abbrev Ae:=Array (Option PySem.Value)
abbrev Af:=PySem.Program
abbrev Ag:=Unit->PySem.Shared->Prop
abbrev Ah:=Int × Int->Int × Int->Prop
abbrev Ai:=List Bool
abbrev Aj:=List Nat
abbrev Ak:=Option Nat × Option Nat × Nat
abbrev Al:=PySem.Value->PySem.Value->PySem.Sem PySem.Value
abbrev Am:=PySem.Value
abbrev An:=PySem.Shared
abbrev Ao:=PySem.Around
namespace L2
open PySem PySem.Spec PyProof.Rows
variable {A:Ao} {s:An} {K:A0} {m5:A2} {w:World} {P:Af} {x:Str} {E Q:A3} {u:Am} {us:A7} {k t' i:Nat} {b C:Addr} {M:Model} {mg:A4} {base:Heap} {pos:Pos} {op:CmpOp} {f:Al} {tg:Expr} {fd:FuncData}
abbrev Key:=Sum Int Str
noncomputable def XY:Key->Value->Bool
 | .inl k,v=>Value.isInt k v
 | .inr x,v=>Value.isStrOf x v
noncomputable def zjk (w:World):Key->Int
 | .inl k=>hashInt k
 | .inr x=>hashStr w x
theorem qx:∀ {k:Key} {v:Am},XY k v=true->(∃ i t,k=Sum.inl i/\v=Value.int i t)\/(∃ x t,k=Sum.inr x/\v=Value.str x t)
 | .inl i,v,h=>by
  obtain ⟨t,e⟩:=Value.isInt_shape (k:=i) (v:=v) h;exact .inl ⟨i,t,rfl,e⟩
 | .inr x,v,h=>by
  obtain ⟨t,e⟩:=Value.isStrOf_shape (x:=x) (v:=v) h;exact .inr ⟨x,t,rfl,e⟩
def zdu (i:Int) (t:Tok):XY (.inl i) (.int i t)=true:=by simp [XY,Value.isInt]
def zdt (x:Str) (t:Tok):XY (.inr x) (.str x t)=true:=by simp [XY,Value.isStrOf]
def zhP (a b:Int):decide ((Sum.inl a:Key)=Sum.inl b)=(a == b):=by
 by_cases e:a=b
 ·subst e;simp
 ·have h:¬ (Sum.inl a:Key)=Sum.inl b:=λ q=>e (Sum.inl.inj q);rw [aY h];exact (aX.mpr e).symm
def zhM (a b:Str):decide ((Sum.inr a:Key)=Sum.inr b)=decide (a=b):=by
 by_cases e:a=b
 ·subst e;simp
 ·have h:¬ (Sum.inr a:Key)=Sum.inr b:=λ q=>e (Sum.inr.inj q);rw [aY h,aY e]
def zhO (a:Int) (b:Str):decide ((Sum.inl a:Key)=Sum.inr b)=false:=aY (λ q=>nomatch q)
def zhN (a:Str) (b:Int):decide ((Sum.inr a:Key)=Sum.inl b)=false:=aY (λ q=>nomatch q)
noncomputable def qM (prog:Af) (w:World):PySem.KeyKind prog w Key where
 is:=XY
 hash:=zjk w
 inj:=λ v a b ha hb=>by
  rcases qx ha with ⟨i,t,rfl,rfl⟩|⟨x,t,rfl,rfl⟩
  ·rcases qx hb with ⟨j,u,rfl,e⟩|⟨y,u,rfl,e⟩
   ·injection e with e1 _;rw [e1]
   ·exact nomatch e
  ·rcases qx hb with ⟨j,u,rfl,e⟩|⟨y,u,rfl,e⟩
   ·exact nomatch e
   ·injection e with e1 _;rw [e1]
 byValue:=λ k v h=>by
  rcases qx h with ⟨i,t,rfl,rfl⟩|⟨x,t,rfl,rfl⟩ <;> rfl
 pyHash:=λ hv h=>by
  rcases qx hv with ⟨i,t,rfl,rfl⟩|⟨x,t,rfl,rfl⟩
  ·exact wpAny_pyHash_int h
  ·exact wpAny_pyHash_str h
 eqBool:=λ hu hv h=>by
  rcases qx hu with ⟨i,t,rfl,rfl⟩|⟨x,t,rfl,rfl⟩
  ·rcases qx hv with ⟨j,u,rfl,rfl⟩|⟨y,u,rfl,rfl⟩
   ·rw [zhP] at h;exact wpAny_eqBool_int h
   ·rw [zhO] at h;exact SeqAt.EqAt.int_str i t y u _ _ _ _ h
  ·rcases qx hv with ⟨j,u,rfl,rfl⟩|⟨y,u,rfl,rfl⟩
   ·rw [zhN] at h;exact SeqAt.EqAt.str_int x t j u _ _ _ _ h
   ·rw [zhM] at h;exact wpAny_eqBool_str h
 «strs»:=λ k x t v h=>by
  rcases qx h with ⟨i,u,rfl,e⟩|⟨y,u,rfl,e⟩
  ·exact nomatch e
  ·injection e with e1 _
   subst e1;cases v <;> rfl
def zab (prog:Af) (w:World) (i:Int) (t:Tok):(qM prog w).is (.inl i) (.int i t)=true:=zdu i t
def zaa (prog:Af) (w:World) (x:Str) (t:Tok):(qM prog w).is (.inr x) (.str x t)=true:=zdt x t
inductive V where
 | non|bl (b:Bool)|int (i:Int)|str (x:Str)|byt (b:Array UInt8)|flt (b:UInt64)|ref (a:Addr)|ty (n:String)
 deriving DecidableEq
abbrev As:=List (List Key × V)
abbrev Ar:=List (Str × V)
abbrev Aq:=Option V
abbrev Ap:=List V
def RelV:V->Value->Prop
 | .non,u=>u=Value.none
 | .bl b,u=>u=Value.bool b
 | .int i,u=>∃ t,u=Value.int i t
 | .str x,u=>∃ t,u=Value.str x t
 | .byt b,u=>∃ t,u=Value.bytes b t
 | .flt b,u=>∃ t,u=Value.float b t
 | .ref a,u=>u=Value.ref a
 | .ty n,u=>u=Value.type n
abbrev Vals:List V->List Value->Prop:=Paired RelV
def Vals.length {xs:Ap} (r:Vals xs us):xs.length=us.length:=cD r
theorem Vals.get:∀ {xs:Ap} {us:A7} {i:Nat} {x:V},Vals xs us->xs[i]?=some x->∃ u,us[i]?=some u/\RelV x u
 | _,_,_,_,.nil,e=>by simp at e
 | _,_,0,_,.cons r _,e=>by simp at e;subst e;exact ⟨_,rfl,r⟩
 | _,_,i + 1,x,.cons _ t,e=>by
  obtain ⟨u,h1,h2⟩:=Vals.get (i:=i) (x:=x) t (by simpa using e);exact ⟨u,by simpa using h1,h2⟩
theorem Vals.set {x:V} {u:Am} (r:RelV x u):∀ {xs:Ap} {us:A7} (i:Nat),Vals xs us->Vals (xs.set i x) (us.set i u)
 | _,_,_,.nil=>.nil
 | _,_,0,.cons _ t=>.cons r t
 | _,_,i + 1,.cons q t=>.cons q (Vals.set r i t)
theorem Vals.append:∀ {xs ys:Ap} {us ws:A7},Vals xs us->Vals ys ws->Vals (xs ++ ys) (us ++ ws)
 | _,_,_,_,.nil,s=>s
 | _,_,_,_,.cons r t,s=>.cons r (Vals.append t s)
theorem Vals.take:∀ {xs:Ap} {us:A7} (n:Nat),Vals xs us->Vals (xs.take n) (us.take n)
 | _,_,0,_=>.nil
 | _,_,_ + 1,.nil=>.nil
 | _,_,n + 1,.cons r t=>.cons r (Vals.take n t)
theorem Vals.drop:∀ {xs:Ap} {us:A7} (n:Nat),Vals xs us->Vals (xs.drop n) (us.drop n)
 | _,_,0,r=>r
 | _,_,_ + 1,.nil=>.nil
 | _,_,n + 1,.cons _ t=>Vals.drop n t
def Vals.none_of:∀ {xs:Ap} {us:A7} {i:Nat},Vals xs us->xs[i]?=none->us[i]?=none:=λ {xs us i} r e=>by
 have h1:=r.length;have h2:xs.length<=i:=dL.mp e;exact dL.mpr (by lia)
def RelO:Option V->Option Value->Prop
 | some v,some u=>RelV v u
 | none,none=>True
 | _,_=>False
def KV {κ:Type}:List (κ × V)->List (κ × Value)->Prop:=Paired λ (p:κ × V) (q:κ × Value)=>p.1=q.1/\RelV p.2 q.2
noncomputable def kV:Key->V
 | .inl i=>.int i
 | .inr x=>.str x
inductive HO where
 | lst (xs:Ap)
 | tup (xs:Ap)
 | dK (n9:List (Key × V))|dT (n9:As)
 | set (S:Int->Bool) (n:Nat)
 | ins (C dx:Addr) (fs:Ar)
 | own (x:Addr)
 | xd (fs:Ar)
 | met (f x:Addr)
 | rng (lo hi:Int)
 | frz (o:Obj) (u:HO)
 | tbl (ps:Ac)
 | ext (φ:Heap->Prop)
variable {o:HO}
abbrev Hp:=Addr->Option HO
variable {H:Hp}
noncomputable def upd (H:Hp) (a:Addr) (o:HO):Hp:=λ b=>if b=a then some o else H b
def upd_same {a:Addr}:upd H a o a=some o:=by unfold upd;rw [ax rfl]
def nE:=@upd_same
def upd_ne {a b:Addr} (h:b≠a):upd H a o b=H b:=by unfold upd;rw [aq h]
def nF:=@upd_ne
def vD {a:Addr} {o u:HO}:upd (upd H a o) a u=upd H a u:=by
 funext b;unfold upd;split <;> rfl
def JU {a b:Addr} {o u:HO} (h:H a=some o) (h':H b=some u) (d:o≠u):a≠b:=by
 intro e;subst e;rw [h] at h';exact d (aO h')
def ne_of_none {a b:Addr} (h:H a=some o) (h':H b=none):a≠b:=by
 intro e;subst e;rw [h] at h';cases h'
def nH:=@ne_of_none
section
variable (P:Af) (w:World)
def ObjOk (H:Hp) (h:Heap) (a:Addr):HO->Prop
 | .lst xs=>xs.length<=sizeLine/\∃ (ni:A7) (n:Nat),Vals xs ni/\h.get? a=some { cls:=.type "list",data:=.seq ni.toArray n }
 | .tup xs=>xs.length<=sizeLine/\∃ ni:List Value,Vals xs ni/\IsTup h a ni.toArray
 | .dK n9=>n9.length<=sizeLine/\(a == sysModules)=false/\∃ vs,KV n9 vs/\h.DictOf (qM P w) a vs
 | .dT n9=>n9.length<=sizeLine/\(a == sysModules)=false/\∃ xs:List (List Key × Addr × Value),
   Paired (λ (p:List Key × V) (q:List Key × Addr × Value)=>p.1=q.1/\H q.2.1=some (.tup (p.1.map kV))/\RelV p.2 q.2.2) n9 xs /\
   ∃ o es ep,h.get? a=some o/\o.ExactDict/\o.data=.dict es ep/\es.toList=xs.map (entryOfKey (tupleKind (qM P w)))/\(xs.map (·.1)).Nodup
 | .set S n=>h.SetOf (intKind P w) a S n
 | .ins C dx fs=>H dx=some (.own a)/\fs.length<=1000/\dx≠a/\h.get? a=some (instObj C dx) /\
   ∃ mA,h.Ns1 dx mA/\(∀ f,RelO (fs.lookup f) (mA f))/\PySem.Within mA (fs.map (·.1))
 | .own _=>∃ o,h.get? a=some o
 | .xd fs=>∃ mA,h.Ns1 a mA/\∀ f,RelO (fs.lookup f) (mA f)
 | .rng lo hi=>∃ t u v,h.get? a=some { cls:=.type "range",data:=.fields #[.int lo t,.int hi u,.int 1 v] }
 | .frz o u=>h.get? a=some o/\ObjOk H h a u
 | .tbl ps=>h.get? a=some { cls:=.none,data:=.fields ps }
 | .met f x=>h.get? a=some (methodObj (.ref f) (.ref x))
 | .ext φ=>φ h/\(∃ o,h.get? a=some o)/\∀ h1 h2:Heap,φ h1->(∀ o,h1.get? a=some o->h2.get? a=some o)->φ h2
def HOk (H:Hp) (h:Heap):Prop:=∀ a o,H a=some o->ObjOk P w H h a o
end
section
variable {P:Af} {w:World} {H H':Hp} {h h':Heap} {a:Addr} {o:HO}
def ObjOk.lt (x:ObjOk P w H h a o):a < h.objs.size:=by
 cases o with
 | lst xs=>obtain ⟨_,_,_,_,e⟩:=x;exact aw e
 | tup xs=>obtain ⟨_,_,_,p⟩:=x;exact p.lt
 | dK n9=>obtain ⟨_,_,_,_,o,_,_,e,_⟩:=x;exact aw e
 | dT n9=>obtain ⟨_,_,_,_,o,_,_,e,_⟩:=x;exact aw e
 | set S n=>obtain ⟨o,_,_,_,e,_⟩:=x;exact aw e
 | ins C dx fs=>obtain ⟨_,_,_,e,_⟩:=x;exact aw e
 | own y=>obtain ⟨_,e⟩:=x;exact aw e
 | xd fs=>obtain ⟨_,⟨_,_,_,e,_⟩,_⟩:=x;exact aw e
 | rng lo hi=>obtain ⟨_,_,_,e⟩:=x;exact aw e
 | frz ob u=>obtain ⟨e,_⟩:=x;exact aw e
 | tbl ps=>exact aw (show h.get? a=some _ from x)
 | met f y=>exact aw (show h.get? a=some _ from x)
 | ext φ=>obtain ⟨_,⟨_,e⟩,_⟩:=x;exact aw e
theorem Paired.mapP {α β:Type} {F G:α->β->Prop}:∀ {l₁:List α} {l₂:List β},Paired F l₁ l₂->(∀ a b,F a b->G a b)->Paired G l₁ l₂
 | _,_,.nil,_=>.nil
 | _,_,.cons r t,f=>.cons (f _ _ r) (Paired.mapP t f)
theorem ObjOk.stay (x:ObjOk P w H h a o) (k:∀ b u,(b=a\/H b=some (.own a))->h.get? b=some u->h'.get? b=some u)
  (ho:∀ b,H b=some (.own a)->H' b=some (.own a)) (ht:∀ b xs,H b=some (.tup xs)->H' b=some (.tup xs)):ObjOk P w H' h' a o:=by
 induction o with
 | lst xs=>obtain ⟨z,ni,n,r,e⟩:=x;exact ⟨z,ni,n,r,k _ _ (.inl rfl) e⟩
 | tup xs=>obtain ⟨z,ni,r,ob,e,c⟩:=x;exact ⟨z,ni,r,ob,k _ _ (.inl rfl) e,c⟩
 | dK n9=>obtain ⟨z,y,vs,r,ob,es,ep,e,c⟩:=x;exact ⟨z,y,vs,r,ob,es,ep,k _ _ (.inl rfl) e,c⟩
 | dT n9 =>
  obtain ⟨z,y,xs,r,ob,es,ep,e,c⟩:=x;exact ⟨z,y,xs,Paired.mapP r λ p q z=>⟨z.1,ht _ _ z.2.1,z.2.2⟩,ob,es,ep,k _ _ (.inl rfl) e,c⟩
 | set S n=>obtain ⟨ob,es,ep,t,e,c⟩:=x;exact ⟨ob,es,ep,t,k _ _ (.inl rfl) e,c⟩
 | ins C dx fs =>
  obtain ⟨d,z,ne,e,mA,⟨od,es,ep,e2,c⟩,r⟩:=x;exact ⟨ho _ d,z,ne,k _ _ (.inl rfl) e,mA,⟨od,es,ep,k _ _ (.inr d) e2,c⟩,r⟩
 | own y=>obtain ⟨ob,e⟩:=x;exact ⟨ob,k _ _ (.inl rfl) e⟩
 | xd fs=>obtain ⟨mA,⟨od,es,ep,e,c⟩,r⟩:=x;exact ⟨mA,⟨od,es,ep,k _ _ (.inl rfl) e,c⟩,r⟩
 | rng lo hi=>obtain ⟨t,u,v,e⟩:=x;exact ⟨t,u,v,k _ _ (.inl rfl) e⟩
 | frz ob u ih=>obtain ⟨e,q⟩:=x;exact ⟨k _ _ (.inl rfl) e,ih q⟩
 | tbl ps =>
  have e:h.get? a=some { cls:=.none,data:=.fields ps }:=x;show h'.get? a=some { cls:=.none,data:=.fields ps }
  exact k a _ (.inl rfl) e
 | met f y =>
  have e:h.get? a=some (methodObj (.ref f) (.ref y)):=x;show h'.get? a=some (methodObj (.ref f) (.ref y))
  exact k a _ (.inl rfl) e
 | ext φ=>obtain ⟨p,⟨o,e⟩,st⟩:=x;exact ⟨st _ _ p λ o q=>k _ _ (.inl rfl) q,⟨o,k _ _ (.inl rfl) e⟩,st⟩
def HOk.lt (x:HOk P w H h) (e:H a=some o):a < h.objs.size:=(x a o e).lt
def HOk.fresh (x:HOk P w H h) (e:h.objs.size<=a):H a=none:=by
 cases q:H a with
 | none=>rfl
 | some u=>exact absurd (aI (x.lt q) e) (cM _)
def HOk.kept (x:HOk P w H h) (k:∀ b u,h.get? b=some u->h'.get? b=some u):HOk P w H h':=λ a o e =>
 (x a o e).stay (λ b u _ q=>k b u q) (λ _ q=>q) λ _ _ q=>q
def HOk.laid (x:HOk P w H h) (k:∀ b u,h.get? b=some u->h'.get? b=some u) (hp:h.objs.size<=a) (new:ObjOk P w (upd H a o) h' a o):HOk P w (upd H a o) h':=λ b u e=>by
 have hn:=x.fresh hp;by_cases hb:b=a
 ·subst hb;rw [nE] at e;cases e;exact new
 ·rw [nF hb] at e;exact (x b u e).stay (λ c v _ q=>k c v q) (λ c q=>by rw [nF (nH q hn)];exact q) λ c xs q=>by rw [nF (nH q hn)];exact q
end
def Rd (H:Hp) (a:Addr) (u:HO):Prop:=H a=some u\/∃ o,H a=some (.frz o u)
def Rd.of {a:Addr} {u:HO} (h:H a=some u):Rd H a u:=.inl h
def Rd.ok {h:Heap} {a:Addr} {u:HO} (r:Rd H a u) (x:HOk P w H h):ObjOk P w H h a u:=by
 rcases r with r|⟨o,r⟩
 ·exact x a u r
 ·obtain ⟨_,q⟩:=x a _ r;exact q
def Mut:Option HO->Prop
 | some (.lst _)=>True
 | some (.dK _)=>True
 | some (.dT _)=>True
 | some (.set _ _)=>True
 | some (.ins _ _ _)=>True
 | some (.ext _)=>True
 | _=>False
section
variable {P:Af} {w:World} {H:Hp} {h h':Heap} {x e:Addr} {o':HO}
def HOk.write (ok:HOk P w H h) (mu:Mut (H x)) (he:e=x\/H e=some (.own x)) (k:∀ b u,b≠e->h.get? b=some u->h'.get? b=some u) (heo:∃ u,h'.get? e=some u)
  (new:ObjOk P w (upd H x o') h' x o'):HOk P w (upd H x o') h':=λ b u q=>by
 have nown:∀ c y,H c=some (.own y)->c≠x:=λ c y r z=>by subst z;rw [r] at mu;exact mu
 have ntup:∀ c xs,H c=some (.tup xs)->c≠x:=λ c xs r z=>by subst z;rw [r] at mu;exact mu
 by_cases hb:b=x
 ·subst hb;rw [nE] at q;cases q;exact new
 ·rw [nF hb] at q;by_cases hbe:b=e
  ·have q':H b=some (.own x):=by
    rcases he with z|z
    ·exact absurd (hbe.trans z) hb
    ·rw [hbe];exact z
   rw [q] at q';cases q';obtain ⟨v,hv⟩:=heo;exact ⟨v,by rw [hbe];exact hv⟩
  ·refine (ok b u q).stay (λ c v hc r=>k c v ?_ r) (λ c r=>by rw [nF (nown c b r)];exact r) λ c xs r=>by rw [nF (ntup c xs r)];exact r
   rcases hc with rfl|hc
   ·exact hbe
   ·rintro rfl;rcases he with z|z
    ·exact nown c b hc z
    ·rw [hc] at z;cases z;exact hb rfl
end
structure Un (fs ex:Ab) (H H':Hp) (h h':Heap):Prop where
 keep:∀ b o,h.get? b=some o->H b=none->b ∉ fs->b ∉ ex->h'.get? b=some o
 slot:∀ b o,h.get? b=some o->H b=none->b∈fs->b ∉ ex->∃ sl,h'.get? b=some { o with slots:=sl }
 free:∀ b o,h.get? b=some o->H b=none->b ∉ ex->H' b=none
 there:∀ b o,h.get? b=some o->b ∉ ex->∃ o',h'.get? b=some o'
 tups:∀ b xs,H b=some (.tup xs)->H' b=some (.tup xs)
 frzs:∀ b o u,H b=some (.frz o u)->H' b=some (.frz o u)
 tbls:∀ b ps,H b=some (.tbl ps)->∃ more,H' b=some (.tbl (ps ++ more))
section
variable {fs fs' ex ex':Ab} {H H1 H2:Hp} {h h1 h2 h':Heap} {a x e:Addr} {o:HO}
def Un.any (u:Un fs ex H H1 h h1) {ob:Obj} (q:h.get? b=some ob) (n:H b=none) (hx:b ∉ ex):∃ sl,h1.get? b=some { ob with slots:=sl }:=by
 by_cases hb:b∈fs
 ·exact u.slot b ob q n hb hx
 ·exact ⟨ob.slots,u.keep b ob q n hb hx⟩
def Un.trans (a:Un fs ex H H1 h h1) (b:Un fs ex H1 H2 h1 h2):Un fs ex H H2 h h2 where
 keep:=λ c ob q n hc hx=>b.keep c ob (a.keep c ob q n hc hx) (a.free c ob q n hx) hc hx
 slot:=λ c ob q n hc hx=>by
  obtain ⟨sl,e1⟩:=a.slot c ob q n hc hx;obtain ⟨sl',e2⟩:=b.slot c _ e1 (a.free c ob q n hx) hc hx;exact ⟨sl',e2⟩
 free:=λ c ob q n hx=>by
  obtain ⟨o',e1⟩:=a.there c ob q hx;exact b.free c o' e1 (a.free c ob q n hx) hx
 there:=λ c ob q hx=>by
  obtain ⟨o',e1⟩:=a.there c ob q hx;exact b.there c o' e1 hx
 tups:=λ c xs q=>b.tups c xs (a.tups c xs q)
 frzs:=λ c ob xs q=>b.frzs c ob xs (a.frzs c ob xs q)
 tbls:=λ c ps q=>by
  obtain ⟨m1,e1⟩:=a.tbls c ps q;obtain ⟨m2,e2⟩:=b.tbls c _ e1;exact ⟨m1 ++ m2,by rw [e2,ib]⟩
def Un.kept (k:∀ b u,h.get? b=some u->h'.get? b=some u):Un fs ex H H h h' :=
 ⟨λ b ob q _ _ _=>k b ob q,λ b ob q _ _ _=>⟨ob.slots,k b ob q⟩,λ _ _ _ n _=>n,λ b ob q _=>⟨ob,k b ob q⟩,λ _ _ q=>q,λ _ _ _ q=>q,λ _ ps q=>⟨#[],by rw [q];simp⟩⟩
def Un.refl:Un fs ex H H h h:=Un.kept λ _ _ q=>q
def Un.laid (k:∀ b u,h.get? b=some u->h'.get? b=some u) (hp:h.objs.size<=a) (hn:H a=none):Un fs ex H (upd H a o) h h' where
 keep:=λ b u q _ _ _=>k b u q
 slot:=λ b u q _ _ _=>⟨u.slots,k b u q⟩
 free:=λ b u q n _=>by rw [nF (aF (aI (aw q) hp))];exact n
 there:=λ b u q _=>⟨u,k b u q⟩
 tups:=λ b xs q=>by rw [nF (nH q hn)];exact q
 frzs:=λ b u xs q=>by rw [nF (nH q hn)];exact q
 tbls:=λ b ps q=>⟨#[],by rw [nF (nH q hn),q];simp⟩
def Un.write (mu:Mut (H x)) (he:e=x\/H e=some (.own x)) (k:∀ b u,b≠e->h.get? b=some u->h'.get? b=some u) (heo:∃ u,h'.get? e=some u):Un fs ex H (upd H x o) h h':=by
 have hx:∀ b,H b=none->b≠x:=λ b n z=>by subst z;rw [n] at mu;exact mu
 have hb:∀ b,H b=none->b≠e:=λ b n z=>by
  subst z;rcases he with r|r
  ·exact hx b n r
  ·rw [n] at r;cases r
 have hm:∀ b u,H b=some u->¬ Mut (some u)->b≠x:=λ b u q nm z=>by subst z;rw [q] at mu;exact nm mu
 refine ⟨λ b u q n _ _=>k b u (hb b n) q,λ b u q n _ _=>⟨u.slots,k b u (hb b n) q⟩,λ b u q n _=>by rw [nF (hx b n)];exact n,λ b u q _=>?_,
  λ b xs q=>by rw [nF (hm b _ q λ z=>z)];exact q,λ b u xs q=>by rw [nF (hm b _ q λ z=>z)];exact q,λ b ps q=>⟨#[],by rw [nF (hm b _ q λ z=>z),q];simp⟩⟩
 by_cases hbe:b=e
 ·subst hbe;exact heo
 ·exact ⟨u,k b u hbe q⟩
def Un.mono (u:Un fs ex H H1 h h1) (hs:∀ b∈fs,b∈fs') (hx:∀ b∈ex,b∈ex'):Un fs' ex' H H1 h h1 :=
 ⟨λ b ob q n hb he=>u.keep b ob q n (λ z=>hb (hs b z)) λ z=>he (hx b z),λ _ _ q n _ he=>u.any q n λ z=>he (hx _ z),λ b ob q n he=>u.free b ob q n λ z=>he (hx b z),λ b ob q he=>u.there b ob q λ z=>he (hx b z),u.tups,u.frzs,u.tbls⟩
end
noncomputable def trk (h:Heap) (H:Hp):List Addr:=(List.range h.objs.size).filter λ a=>(H a).isSome
noncomputable def W2 (h:Heap) (H:Hp):Heap:=PySem.W.hideAll h (trk h H)
def zdw (h:Heap) (H:Hp):(W2 h H).objs.size=h.objs.size:=PySem.W.hideAll_size _ _
def zff {h:Heap} {o:Obj} (e:h.get? b=some o) (n:H b=none):(W2 h H).get? b=some o :=
 PySem.W.hideAll_get _ e λ hm=>by
  have q:(H b).isSome=true:=(cn.mp hm).2;rw [n] at q;simp at q
def zgk {h:Heap} {o:Obj} (e:(W2 h H).get? b=some o):h.get? b=some o/\H b=none:=by
 have e':h.get? b=some o:=PySem.W.of_hideAll (trk h H) e;refine ⟨e',?_⟩;cases q:H b with
 | none=>rfl
 | some x =>
  have hm:b∈trk h H:=cn.mpr ⟨be.mpr (aw e'),by simp [q]⟩;have z:(W2 h H).get? b=none:=PySem.W.hideAll_none (trk h H) hm;rw [z] at e;cases e
noncomputable def zgM (g h:Heap) (L:Addr):List (Addr × Obj):=(List.range h.objs.size).filterMap λ a=>if a=L\/(g.get? a).isSome=true then none else (h.get? a).map λ o=>(a,o)
noncomputable def rest (g h:Heap) (L d:Addr):List (Addr × Obj):=(zgM g h L).filter λ p=>decide (p.1≠d)
structure Mod (K:A0) (mg:A4) (base:Heap):Prop where
 kin:K.In base
 glob:base.Ns mainGlobals mg
 blt:∃ mb,base.Ns builtinsNs mb/\∀ x:Str,x≠"__name__"->mb x=bootBuiltins x
 nolimit:base.NoLimit
structure Cx where
 prog:Program
 w:World
 K:PySem.W.Frag
 mg:Str->Option Value
 base:Heap
 A:Around
 N:List Str
 s₀:Shared
 H₀:Hp
 env:Env
 outer:List Env
 stack:List Env
 ex:List Addr
 fn:Str->Bool
 calm:Bool
 pn:List (Addr × Obj)
 xe:Value->Shared->Prop
variable {X:Cx}
noncomputable def frs (l:List Env):List Addr:=l.filterMap (·.frame)
noncomputable abbrev Cx.fs (X:Cx):List Addr:=frs X.outer
def Vis (sc:Scope) (x:Str):Prop:=sc.names.lookup x=some .local\/sc.names.lookup x=some .cell\/sc.names.lookup x=some .free
def Loc (sc:Scope) (x:Str):Prop:=sc.names.lookup x=some .local\/sc.names.lookup x=some .cell
def zjo (env:Env) (h:Heap) (m:A4) (x:Str) (u:Am):Prop :=
 (env.kindOf x=some .local/\m x=some u)\/((env.kindOf x=some .cell\/env.kindOf x=some .free)/\∃ c,env.cells.lookup x=some c/\h.IsCell c (some u))
structure Cx.Ok (X:Cx):Prop where
 mod:Mod X.K X.mg X.base
 kind:X.env.scope.kind=.function
 glob:X.env.globals=mainGlobals
 blt:X.env.builtins=builtinsNs
 above:X.s₀.heap.objs.size<=X.env.locals
 inj:∀ x y c,X.env.cells.lookup x=some c->X.env.cells.lookup y=some c->x=y
 has:∀ x,(X.env.kindOf x=some .cell\/X.env.kindOf x=some .free)->∃ c,X.env.cells.lookup x=some c
 cab:∀ x c,X.fn x=true->X.env.cells.lookup x=some c->X.s₀.heap.objs.size<=c
 hd:X.calm=true->X.A.handled=none
 frames:X.A.frames=some X.stack
 stk:X.stack=X.outer\/(X.stack=X.env :: X.outer/\X.env.frame=some X.env.locals)
 exf:∀ b∈X.ex,b≠X.env.locals/\∀ x c,X.env.cells.lookup x=some c->c≠b
 bs:∀ b o,X.base.get? b=some o->X.s₀.heap.get? b=some o/\X.H₀ b=none
 bsz:X.base.objs.size<=X.s₀.heap.objs.size
 noex:∀ b o,X.base.get? b=some o->b ∉ X.ex
 exfs:∀ b∈X.ex,b ∉ X.fs
 funs:X.s₀.heap.FunFrames X.base X.outer
 frf:∀ b∈X.fs,X.H₀ b=none
structure Inv (X:Cx) (m5:A2) (σ:List Aq) (H:Hp) (s:An):Prop where
 ok:X.Ok
 os:s.os=X.s₀.os
 bare:AllBare s.gens
 base:Un X.fs X.ex X.H₀ H X.s₀.heap s.heap
 loc:∃ m,s.heap.Ns X.env.locals m/\∀ (i:Nat) (x:Str) (v:V),X.N[i]?=some x->σ[i]?=some (some v)->Vis X.env.scope x->∃ u,RelV v u/\zjo X.env s.heap m x u
 cell:∀ x c,X.env.cells.lookup x=some c->∃ v,s.heap.IsCell c v
 free:H X.env.locals=none
 freeC:∀ x c,X.env.cells.lookup x=some c->H c=none
 pin:∀ p∈X.pn ++ m5,s.heap.get? p.1=some p.2/\H p.1=none/\p.1≠X.env.locals/\p.1 ∉ X.fs/\∀ v,p.2.data≠.cell v
 hok:HOk X.prog X.w H s.heap
 len:σ.length=X.N.length
section
variable {X:Cx} {m5:A2} {σ:List Aq} {H H':Hp} {s:An} {h':Heap}
def Cx.Ok.nofr (ok:X.Ok) {o:Obj} (e:X.base.get? b=some o):b ∉ X.fs:=λ hb=>by
 have:=(ok.funs.mem hb).1;rw [e] at this;cases this
def Inv.bs (I:Inv X m5 σ H s):∀ b o,X.base.get? b=some o->s.heap.get? b=some o/\H b=none:=λ b o e =>
 ⟨I.base.keep b o (I.ok.bs b o e).1 (I.ok.bs b o e).2 (I.ok.nofr e) (I.ok.noex b o e),I.base.free b o (I.ok.bs b o e).1 (I.ok.bs b o e).2 (I.ok.noex b o e)⟩
def Inv.bk (I:Inv X m5 σ H s):∀ b o,X.base.get? b=some o->s.heap.get? b=some o:=λ b o e=>(I.bs b o e).1
def Inv.mod (I:Inv X m5 σ H s):Mod X.K X.mg X.base:=I.ok.mod
def Inv.kIn (I:Inv X m5 σ H s):X.K.In s.heap:=I.ok.mod.kin.keeps I.bk
def Inv.nolimit (I:Inv X m5 σ H s):s.heap.NoLimit:=I.ok.mod.nolimit.keeps I.bk
def Inv.fr (I:Inv X m5 σ H s):∃ m,Fr X.base X.env.locals s.heap m :=
 let ⟨m,hn,_⟩:=I.loc
 ⟨m,hn,I.bk,bd I.ok.bsz I.ok.above⟩
def Inv.lt (I:Inv X m5 σ H s):X.env.locals < s.heap.objs.size:=by
 obtain ⟨_,hn,_⟩:=I.loc;exact hn.lt
def Inv.sz (I:Inv X m5 σ H s):X.s₀.heap.objs.size<=s.heap.objs.size:=bd I.ok.above (bw I.lt)
def Inv.nofs (I:Inv X m5 σ H s) {a:Addr} (h:s.heap.objs.size<=a):a ∉ X.fs:=λ hb=>by
 obtain ⟨_,o,ho,_⟩:=I.ok.funs.mem hb;exact absurd (aI (aw ho) (bd I.sz h)) (cM _)
def Inv.cne (I:Inv X m5 σ H s):∀ x c,X.env.cells.lookup x=some c->c≠X.env.locals:=λ x c e z=>by
 obtain ⟨v,o,ho,hd⟩:=I.cell x c e;obtain ⟨m,⟨o',es,ep,ho',hd',_⟩,_⟩:=I.loc;rw [z,ho'] at ho;cases ho;rw [hd'] at hd;cases hd
def Inv.funs (I:Inv X m5 σ H s):s.heap.FunFrames X.base X.outer:=by
 have all:∀ (l:List Env),(∀ b∈frs l,b∈X.fs)->X.s₀.heap.FunFrames X.base l->s.heap.FunFrames X.base l:=by
  intro l
  induction l with
  | nil=>intro _ _;trivial
  | cons env r ih =>
   intro hs hl;obtain ⟨hk,⟨L,o,hf,hn,ho,hd⟩,hr⟩:=hl;have hL:L∈X.fs:=hs L (by unfold frs;rw [bY,hf];exact bh);obtain ⟨sl,e⟩:=I.base.slot L o ho (I.ok.frf L hL) hL λ z=>I.ok.exfs L z hL;exact ⟨hk,⟨L,_,hf,hn,e,hd⟩,ih (λ b hb=>hs b (by unfold frs;rw [bY,hf];exact aA _ hb)) hr⟩
 exact all X.outer (λ _ hb=>hb) I.ok.funs
def Inv.stack (I:Inv X m5 σ H s):s.heap.FunFrames X.base X.stack:=by
 rcases I.ok.stk with e|⟨e,hf⟩
 ·rw [e];exact I.funs
 ·rw [e];obtain ⟨m,hn,_⟩:=I.loc;refine .cons (by rw [I.ok.kind];decide) hf hn ?_ I.funs;exact Heap.get?_none_of_le (bd I.ok.bsz I.ok.above)
def Inv.stkSub (I:Inv X m5 σ H s):∀ b∈frs X.stack,b∈X.env.locals :: X.fs:=λ b hb=>by
 rcases I.ok.stk with e|⟨e,hf⟩
 ·rw [e] at hb;exact aA _ hb
 ·rw [e] at hb;unfold frs at hb;rw [bY,hf] at hb;exact hb
def Inv.stkFree (I:Inv X m5 σ H s):∀ b∈frs X.stack,H b=none:=λ b hb=>by
 rcases az.mp (I.stkSub b hb) with e|hb
 ·rw [e];exact I.free
 ·obtain ⟨_,o,ho,_⟩:=I.ok.funs.mem hb;exact I.base.free b o ho (I.ok.frf b hb) λ z=>I.ok.exfs b z hb
def Inv.step {g':Array GenState} {d':Drawn} {ch:Ab} (I:Inv X m5 σ H s)
  (hch:∀ b∈ch,(b∈X.ex\/X.s₀.heap.objs.size<=b)/\b≠X.env.locals/\(∀ x c,X.env.cells.lookup x=some c->c≠b)/\∀ p∈X.pn ++ m5,p.1≠b)
  (keep:∀ b o,b≠X.env.locals->b ∉ X.fs->b ∉ ch->s.heap.get? b=some o->H b=none->h'.get? b=some o)
  (slot:∀ b o,b≠X.env.locals->b∈X.fs->b ∉ ch->s.heap.get? b=some o->H b=none->∃ sl,h'.get? b=some { o with slots:=sl }) (free:∀ b o,b ∉ ch->s.heap.get? b=some o->H b=none->H' b=none)
  (there:∀ b o,b ∉ ch->s.heap.get? b=some o->∃ o',h'.get? b=some o')
  (tups:∀ b xs,H b=some (.tup xs)->H' b=some (.tup xs)) (frzs:∀ b o u,H b=some (.frz o u)->H' b=some (.frz o u)) (tbls:∀ b ps,H b=some (.tbl ps)->∃ more,H' b=some (.tbl (ps ++ more)))
  (ns:∀ m,s.heap.Ns X.env.locals m->h'.Ns X.env.locals m) (hok:HOk X.prog X.w H' h') (hg:AllBare g') :
  Inv X m5 σ H' { s with heap:=h',gens:=g',drawn:=d',toks:=t' }:=by
 have neL:∀ b o,X.s₀.heap.get? b=some o->b≠X.env.locals:=λ b o e=>aF (aI (aw e) I.ok.above);have neC:∀ b o,X.s₀.heap.get? b=some o->b ∉ X.ex->b ∉ ch:=λ b o e hx hb=>by
  rcases (hch b hb).1 with z|z
  ·exact hx z
  ·exact absurd (aI (aw e) z) (cM _)
 have cellK:∀ x c,X.env.cells.lookup x=some c->∀ v,s.heap.IsCell c v->h'.IsCell c v:=λ x c e v ⟨o,ho,hd⟩=>by
  have nch:c ∉ ch:=λ z=>(hch c z).2.2.1 x c e rfl;by_cases hc:c∈X.fs
  ·obtain ⟨sl,q⟩:=slot c o (I.cne x c e) hc nch ho (I.freeC x c e);exact ⟨_,q,hd⟩
  ·exact ⟨o,keep c o (I.cne x c e) hc nch ho (I.freeC x c e),hd⟩
 refine ⟨I.ok,I.os,hg,⟨λ b o e n hb hx=>?_,λ b o e n hb hx=>?_,λ b o e n hx=>?_,λ b o e hx=>?_,λ b xs e=>tups b xs (I.base.tups b xs e),λ b o xs e=>frzs b o xs (I.base.frzs b o xs e),λ b ps e=>?_⟩,?_,λ x c e=>?_,?_,λ x c e=>?_,λ p hp=>?_,hok,I.len⟩
 ·exact keep b o (neL b o e) hb (neC b o e hx) (I.base.keep b o e n hb hx) (I.base.free b o e n hx)
 ·obtain ⟨sl,e1⟩:=I.base.slot b o e n hb hx;obtain ⟨sl',e2⟩:=slot b _ (neL b o e) hb (neC b o e hx) e1 (I.base.free b o e n hx);exact ⟨sl',e2⟩
 ·obtain ⟨o',e1⟩:=I.base.there b o e hx;exact free b o' (neC b o e hx) e1 (I.base.free b o e n hx)
 ·obtain ⟨o',e1⟩:=I.base.there b o e hx;exact there b o' (neC b o e hx) e1
 ·obtain ⟨m1,e1⟩:=I.base.tbls b ps e;obtain ⟨m2,e2⟩:=tbls b _ e1;exact ⟨m1 ++ m2,by rw [e2,ib]⟩
 ·obtain ⟨m,hn,hl⟩:=I.loc;refine ⟨m,ns m hn,λ i x v e1 e2 e3=>?_⟩;obtain ⟨u,r,l⟩:=hl i x v e1 e2 e3;refine ⟨u,r,?_⟩;rcases l with l|⟨k,c,e,z⟩
  ·exact .inl l
  ·exact .inr ⟨k,c,e,cellK x c e _ z⟩
 ·obtain ⟨v,z⟩:=I.cell x c e;exact ⟨v,cellK x c e v z⟩
 ·obtain ⟨m,⟨o,_,_,ho,_⟩,_⟩:=I.loc;exact free _ o (λ z=>(hch _ z).2.1 rfl) ho I.free
 ·obtain ⟨v,o,ho,hd⟩:=I.cell x c e;exact free c o (λ z=>(hch c z).2.2.1 x c e rfl) ho (I.freeC x c e)
 ·obtain ⟨e,n,ne,nf,d⟩:=I.pin p hp;have nch:p.1 ∉ ch:=λ z=>(hch p.1 z).2.2.2 p hp rfl;exact ⟨keep p.1 p.2 ne nf nch e n,free p.1 p.2 nch e n,ne,nf,d⟩
def Inv.un (I:Inv X m5 σ H s) (u:Un X.fs [] H H' s.heap h') (hok:HOk X.prog X.w H' h'):Inv X m5 σ H' { s with heap:=h',toks:=t' }:=by
 obtain ⟨m,⟨o,es,ep,ho,r⟩,_⟩:=id I.loc;obtain ⟨sl,hL⟩:=u.any ho I.free (by simp);exact I.step (g':=s.gens) (d':=s.drawn) (ch:=[]) (λ _ z=>nomatch z) (λ b o _ hb _ e n=>u.keep b o e n hb (by simp)) (λ b o _ hb _ e n=>u.slot b o e n hb (by simp)) (λ b o _ e n=>u.free b o e n (by simp)) (λ b o _ e=>u.there b o e (by simp)) u.tups u.frzs u.tbls (λ m' hm=>by
  obtain ⟨o',es',ep',ho',r'⟩:=hm;rw [ho] at ho';cases ho';exact ⟨_,es',ep',hL,r'⟩) hok I.bare
def Inv.call {g':Array GenState} {d':Drawn} {ch:Ab} (I:Inv X m5 σ H s) (u:Un (frs X.stack) ch H H' s.heap h') (hok:HOk X.prog X.w H' h') (hg:AllBare g')
  (hch:∀ b∈ch,(b∈X.ex\/X.s₀.heap.objs.size<=b)/\b≠X.env.locals/\(∀ x c,X.env.cells.lookup x=some c->c≠b)/\∀ p∈X.pn ++ m5,p.1≠b) :
  Inv X m5 σ H' { s with heap:=h',gens:=g',drawn:=d',toks:=t' }:=by
 obtain ⟨m,⟨o,es,ep,ho,r⟩,_⟩:=id I.loc;obtain ⟨sl,hL⟩:=u.any ho I.free λ z=>(hch _ z).2.1 rfl;exact I.step (ch:=ch) hch (λ b o hL hb hc e n=>u.keep b o e n (λ z=>(az.mp (I.stkSub b z)).elim hL hb) hc) (λ b o _ _ hc e n=>u.any e n hc) (λ b o hc e n=>u.free b o e n hc) (λ b o hc e=>u.there b o e hc) u.tups u.frzs u.tbls (λ m' hm=>by
  obtain ⟨o',es',ep',ho',r'⟩:=hm;rw [ho] at ho';cases ho';exact ⟨_,es',ep',hL,r'⟩) hok hg
def Inv.turned {it:Addr} (I:Inv X m5 σ H s) (k:∀ b o,b≠it->s.heap.get? b=some o->h'.get? b=some o) (hn:H it=none) (hL:it≠X.env.locals)
  (h1:it∈X.ex\/X.s₀.heap.objs.size<=it) (h2:∀ x c,X.env.cells.lookup x=some c->c≠it) (h3:∀ p∈X.pn ++ m5,p.1≠it):Inv X m5 σ H { s with heap:=h',toks:=t' }:=by
 have nit:∀ b u,H b=some u->b≠it:=λ b u e z=>by rw [z,hn] at e;cases e
 refine I.step (g':=s.gens) (d':=s.drawn) (ch:=[it]) (λ b hb=>?_) (λ b o _ _ hc e _=>k b o (λ z=>hc (by simp [z])) e) (λ b o _ _ hc e _=>⟨o.slots,k b o (λ z=>hc (by simp [z])) e⟩) (λ _ _ _ _ n=>n)
  (λ b o hc e=>⟨o,k b o (λ z=>hc (by simp [z])) e⟩) (λ _ _ e=>e) (λ _ _ _ e=>e) (λ b ps e=>⟨#[],by rw [e];simp⟩) (λ m hm=>?_) (λ b u e=>?_) I.bare
 ·have e:b=it:=by simpa using hb
  subst e;exact ⟨h1,hL,h2,h3⟩
 ·obtain ⟨o,es,ep,ho,r⟩:=hm;exact ⟨o,es,ep,k _ o (ba hL) ho,r⟩
 ·refine (I.hok b u e).stay (λ c v hc q=>k c v ?_ q) (λ _ q=>q) λ _ _ q=>q;rcases hc with z|z
  ·rw [z];exact nit b u e
  ·exact nit c _ z
def Inv.tok (I:Inv X m5 σ H s) (t:Nat):Inv X m5 σ H { s with toks:=t }:=I.un (h':=s.heap) (t':=t) Un.refl I.hok
def Inv.kept (I:Inv X m5 σ H s) (k:∀ b u,s.heap.get? b=some u->h'.get? b=some u):Inv X m5 σ H { s with heap:=h',toks:=t' }:=I.un (Un.kept k) (I.hok.kept k)
def Inv.laid {a:Addr} (I:Inv X m5 σ H s) (k:∀ b u,s.heap.get? b=some u->h'.get? b=some u) (hp:s.heap.objs.size<=a) (new:ObjOk X.prog X.w (upd H a o) h' a o) :
  Inv X m5 σ (upd H a o) { s with heap:=h',toks:=t' }:=I.un (Un.laid k hp (I.hok.fresh hp)) (I.hok.laid k hp new)
def Inv.write {x e:Addr} (I:Inv X m5 σ H s) (mu:Mut (H x)) (he:e=x\/H e=some (.own x)) (k:∀ b u,b≠e->s.heap.get? b=some u->h'.get? b=some u) (heo:∃ u,h'.get? e=some u)
  (new:ObjOk X.prog X.w (upd H x o) h' x o):Inv X m5 σ (upd H x o) { s with heap:=h',toks:=t' }:=I.un (Un.write mu he k heo) (I.hok.write mu he k heo new)
def Inv.pins_of {pins':A2} (I:Inv X m5 σ H s) (h:∀ p∈pins',s.heap.get? p.1=some p.2/\H p.1=none/\p.1≠X.env.locals/\p.1 ∉ X.fs/\∀ v,p.2.data≠.cell v):Inv X pins' σ H s :=
 ⟨I.ok,I.os,I.bare,I.base,I.loc,I.cell,I.free,I.freeC,λ p hp=>(aB.mp hp).elim (λ z=>I.pin p (bS _ z)) (h p),I.hok,I.len⟩
def V7 {N:A8} (hN:N.Nodup) {i j:Nat} (a:N[i]?=some x) (b:N[j]?=some x):i=j:=by
 obtain ⟨h1,e1⟩:=aa.mp a;obtain ⟨h2,e2⟩:=aa.mp b;exact (List.getElem_inj hN).mp (e1.trans e2.symm)
def XG {v:V} {Q:Ag} (I:Inv X m5 σ H s) (hN:X.N.Nodup) (hi:X.N[i]?=some x) (hx:Loc X.env.scope x) (r:RelV v u)
  (h:∀ s',Inv X m5 (σ.set i (some v)) H s'->(∃ a,Heap.SameBut a s.heap s'.heap/\(a=X.env.locals\/X.env.cells.lookup x=some a))->Q () s') (hf:X.fn x=true\/X.env.scope.names.lookup x=some .local:=by walk_at "p"):wpAny M A (storeName X.env x u) Q E s:=by
 obtain ⟨m,hn,hl⟩:=id I.loc;have hcls:(X.env.scope.kind == .class || (X.env.scope.kind == .module && X.env.locals != X.env.globals))=false:=by rw [I.ok.kind];rfl
 have hiσ:i < σ.length:=by rw [I.len];exact (aa.mp hi).1
 have cne:=I.cne;have tracked:∀ {a:Addr} {h':Heap},(∃ o,s.heap.get? a=some o/\H a=none)->Heap.SameBut a s.heap h'->HOk X.prog X.w H h':=λ {a h'} ha hs b ob e=>by
  obtain ⟨_,_,hfree⟩:=ha;refine (I.hok b ob e).stay (λ c w' hc q=>(hs.2 c ?_).trans q) (λ _ q=>q) λ _ _ q=>q;rintro rfl;rcases hc with rfl|hc
  ·rw [hfree] at e;cases e
  ·rw [hfree] at hc;cases hc
 rcases hx with hk|hk
 ·refine wpAny_storeName_local hk hn (λ h' hn' hs=>?_) hcls;obtain ⟨oL,_,_,hoL,_⟩:=id hn;refine h _ ⟨I.ok,I.os,I.bare,⟨λ b o e n hb hx=>?_,λ b o e n hb hx=>?_,I.base.free,λ b o e hx=>?_,I.base.tups,I.base.frzs,I.base.tbls⟩,⟨_,hn',λ j y v' e1 e2 e3=>?_⟩,λ y c e=>?_,I.free,I.freeC,λ p hp=>?_,tracked ⟨oL,hoL,I.free⟩ hs,by simpa using I.len⟩ ⟨_,hs,.inl rfl⟩
  ·exact (hs.2 b (aF (aI (aw e) I.ok.above))).trans (I.base.keep b o e n hb hx)
  ·obtain ⟨sl,e1⟩:=I.base.slot b o e n hb hx;exact ⟨sl,(hs.2 b (aF (aI (aw e) I.ok.above))).trans e1⟩
  ·obtain ⟨o',e1⟩:=I.base.there b o e hx;exact ⟨o',(hs.2 b (aF (aI (aw e) I.ok.above))).trans e1⟩
  ·by_cases hj:j=i
   ·subst hj;rw [hi] at e1;cases e1;rw [a9 hiσ] at e2;cases e2;exact ⟨u,r,.inl ⟨hk,by simp⟩⟩
   ·rw [bT (ba hj)] at e2;obtain ⟨u',r',q⟩:=hl j y v' e1 e2 e3;refine ⟨u',r',?_⟩;rcases q with ⟨k,e⟩|⟨k,c,e,z⟩
    ·refine .inl ⟨k,?_⟩;have:y≠x:=λ e=>hj (V7 hN e1 (e ▸ hi));simp [this,e]
    ·exact .inr ⟨k,c,e,z.sameBut hs (cne y c e)⟩
  ·obtain ⟨w',z⟩:=I.cell y c e;exact ⟨w',z.sameBut hs (cne y c e)⟩
  ·obtain ⟨e,n,ne,nf,d⟩:=I.pin p hp;exact ⟨(hs.2 p.1 ne).trans e,n,ne,nf,d⟩
 ·have hfn:X.fn x=true:=by
   rcases hf with z|z
   ·exact z
   ·rw [z] at hk;cases hk
  obtain ⟨c,hc⟩:=I.ok.has x (.inl hk);obtain ⟨w',z⟩:=I.cell x c hc;refine wpAny_storeName_cell I.ok.kind hk hc z (λ h' hc' hs=>?_);obtain ⟨oc,hoc,hocd⟩:=id z;refine h { s with heap:=h' } ⟨I.ok,I.os,I.bare,⟨λ b o e n hb hx=>?_,λ b o e n hb hx=>?_,I.base.free,λ b o e hx=>?_,I.base.tups,I.base.frzs,I.base.tbls⟩,⟨m,hn.sameBut hs (ba (cne x c hc)),λ j y v' e1 e2 e3=>?_⟩,λ y c' e=>?_,I.free,I.freeC,λ p hp=>?_,tracked ⟨oc,hoc,I.freeC x c hc⟩ hs,by simpa using I.len⟩ ⟨c,hs,.inr hc⟩
  ·exact (hs.2 b (aF (aI (aw e) (I.ok.cab x c hfn hc)))).trans (I.base.keep b o e n hb hx)
  ·obtain ⟨sl,e1⟩:=I.base.slot b o e n hb hx;exact ⟨sl,(hs.2 b (aF (aI (aw e) (I.ok.cab x c hfn hc)))).trans e1⟩
  ·obtain ⟨o',e1⟩:=I.base.there b o e hx;exact ⟨o',(hs.2 b (aF (aI (aw e) (I.ok.cab x c hfn hc)))).trans e1⟩
  ·by_cases hj:j=i
   ·subst hj;rw [hi] at e1;cases e1;rw [a9 hiσ] at e2;cases e2;exact ⟨u,r,.inr ⟨.inl hk,c,hc,hc'⟩⟩
   ·rw [bT (ba hj)] at e2;obtain ⟨u',r',q⟩:=hl j y v' e1 e2 e3;refine ⟨u',r',?_⟩;rcases q with q|⟨k,c',e,z'⟩
    ·exact .inl q
    ·refine .inr ⟨k,c',e,z'.sameBut hs ?_⟩;rintro rfl;exact hj (V7 hN e1 (I.ok.inj _ _ _ e hc ▸ hi))
  ·by_cases hcc:c'=c
   ·subst hcc;exact ⟨_,hc'⟩
   ·obtain ⟨w2,z2⟩:=I.cell y c' e;exact ⟨w2,z2.sameBut hs hcc⟩
  ·obtain ⟨e,n,ne,nf,d⟩:=I.pin p hp;refine ⟨(hs.2 p.1 ?_).trans e,n,ne,nf,d⟩;intro q;rw [q,hoc] at e;have q':oc=p.2:=aO e;exact d w' (by rw [<- q'];exact hocd)
def Jh {v:V} {Q:Ag} (I:Inv X m5 σ H s) (hN:X.N.Nodup) (hi:X.N[i]?=some x) (hx:Loc X.env.scope x) (r:RelV v u)
  (h:∀ s',Inv X m5 (σ.set i (some v)) H s'->Q () s') (hf:X.fn x=true\/X.env.scope.names.lookup x=some .local:=by walk_at "p"):wpAny M A (storeName X.env x u) Q E s :=
 XG I hN hi hx r (λ s' I' _=>h s' I') hf
def Inv.call' {s':An} {ch:Ab} (I:Inv X m5 σ H s) (ho:s'.os=s.os) (u:Un (frs X.stack) ch H H' s.heap s'.heap) (hok:HOk X.prog X.w H' s'.heap) (hg:AllBare s'.gens)
  (hch:∀ b∈ch,(b∈X.ex\/X.s₀.heap.objs.size<=b)/\b≠X.env.locals/\(∀ x c,X.env.cells.lookup x=some c->c≠b)/\∀ p∈X.pn ++ m5,p.1≠b):Inv X m5 σ H' s':=by
 obtain ⟨h',g',d',t',o'⟩:=s';have e:o'=s.os:=ho;subst e;exact I.call (g':=g') (t':=t') (d':=d') u hok hg hch
end
abbrev XK:=Value->Option Addr->Hp->Prop
abbrev St:=List Aq
variable {σ:St}
abbrev VK:=V->Hp->Prop
abbrev TE:=St->Hp->VK->Prop
abbrev TT:=St->Hp->(Bool->Hp->Prop)->Prop
abbrev TA:=St->Hp->(List V->Hp->Prop)->Prop
structure Ends where
 nx:St->Hp->Prop
 rt:VK
 bk:St->Hp->Prop:=λ _ _=>False
 ct:St->Hp->Prop:=λ _ _=>False
abbrev TS:=Ends->St->Hp->Prop
def EP (X:Cx) (m5:A2) (σ:St) (Q:VK) (u:Am) (s':An):Prop:=∃ v H',Inv X m5 σ H' s'/\RelV v u/\Q v H'
def TP (X:Cx) (m5:A2) (σ:St) (Q:Bool->Hp->Prop) (b:Bool) (s':An):Prop:=∃ H',Inv X m5 σ H' s'/\Q b H'
def AP (X:Cx) (m5:A2) (σ:St) (Q:List V->Hp->Prop) (us:A7) (s':An):Prop:=∃ vs H',Inv X m5 σ H' s'/\Vals vs us/\Q vs H'
def SP (X:Cx) (m5:A2) (D:Ends) (f:Flow) (s':An):Prop :=
 match f with
 | .next=>∃ σ' H',Inv X m5 σ' H' s'/\D.nx σ' H'
 | .brk=>∃ σ' H',Inv X m5 σ' H' s'/\D.bk σ' H'
 | .cont=>∃ σ' H',Inv X m5 σ' H' s'/\D.ct σ' H'
 | .ret u=>∃ v σ' H',Inv X m5 σ' H' s'/\RelV v u/\D.rt v H'
def PE (X:Cx) (e:Expr) (t:TE):Prop :=
 ∀ (m5:A2) (s:An) (σ:St) (H:Hp) (Q:VK),Inv X m5 σ H s->t σ H Q->wpAny (model X.prog X.w) X.A (eval e X.env) (EP X m5 σ Q) X.xe s
def PT (X:Cx) (e:Expr) (t:TT):Prop :=
 ∀ (m5:A2) (s:An) (σ:St) (H:Hp) (Q:Bool->Hp->Prop),Inv X m5 σ H s->t σ H Q->wpAny (model X.prog X.w) X.A (isTrue e X.env (eval e X.env)) (TP X m5 σ Q) X.xe s
def PW (X:Cx) (e:Expr) (t:TT):Prop :=
 ∀ (whole:Sem Value) (m5:A2) (s:An) (σ:St) (H:Hp) (Q:Bool->Hp->Prop),Inv X m5 σ H s->t σ H Q->wpAny (model X.prog X.w) X.A (isTrue e X.env whole) (TP X m5 σ Q) X.xe s
def PW.pt {e:Expr} {t:TT} (h:PW X e t):PT X e t:=h _
def PA (X:Cx) (es:List Expr) (t:TA):Prop :=
 ∀ (pos:Pos) (m5:A2) (s:An) (σ:St) (H:Hp) (Q:List V->Hp->Prop),Inv X m5 σ H s->t σ H Q->wpAny (model X.prog X.w) X.A (spliced (backTo pos (starEach es X.env))) (AP X m5 σ Q) X.xe s
def PS (X:Cx) (st:Stmt) (t:TS):Prop :=
 ∀ (m5:A2) (s:An) (σ:St) (H:Hp) (D:Ends),Inv X m5 σ H s->t D σ H->wpAny (model X.prog X.w) X.A (exec st X.env) (SP X m5 D) X.xe s
def PSs (X:Cx) (st:List Stmt) (t:TS):Prop :=
 ∀ (m5:A2) (s:An) (σ:St) (H:Hp) (D:Ends),Inv X m5 σ H s->t D σ H->wpAny (model X.prog X.w) X.A (execs st X.env) (SP X m5 D) X.xe s
def thn {α:Type} {t:Sem α} {Q Q':α->Shared->Prop} (h:wpAny M A t Q E s) (hQ:∀ a s,Q a s->Q' a s):wpAny M A t Q' E s:=bg h hQ λ _ _ x=>x
def qy {Q:VK} {t:Sem Value} {Q':A3} (h:wpAny M A t (EP X m5 σ Q) E s) (k:∀ u s1 x H1,Inv X m5 σ H1 s1->RelV x u->Q x H1->Q' u s1):wpAny M A t Q' E s:=thn h λ u s1 e=>by
 obtain ⟨x,H1,I1,r,q⟩:=e;exact k u s1 x H1 I1 r q
def wW {Q:List V->Hp->Prop} {t:Sem A7} {Q':List Value->Shared->Prop} (h:wpAny M A t (AP X m5 σ Q) E s) (k:∀ us s1 vs H1,Inv X m5 σ H1 s1->Vals vs us->Q vs H1->Q' us s1):wpAny M A t Q' E s:=thn h λ u s1 e=>by
 obtain ⟨x,H1,I1,r,q⟩:=e;exact k u s1 x H1 I1 r q
section
variable {X:Cx}
def bq:V->(Bool->Prop)->Prop
 | .bl k,P=>P k
 | _,_=>False
def Xd {x:V} {P:Bool->Prop} (h:bq x P):∃ k,x=.bl k/\P k:=by
 cases x <;> first|exact ⟨_,rfl,h⟩|exact False.elim h
def iq:V->(Int->Prop)->Prop
 | .int i,P=>P i
 | _,_=>False
def ZQ {x:V} {P:Int->Prop} (h:iq x P):∃ i,x=.int i/\P i:=by
 cases x <;> first|exact ⟨_,rfl,h⟩|exact False.elim h
def Qs {x y:V} {P:Int->Int->Prop} (h:iq x λ i=>iq y λ j=>P i j):∃ i j,x=.int i/\y=.int j/\P i j:=by
 obtain ⟨i,e,h⟩:=ZQ h;obtain ⟨j,e2,h⟩:=ZQ h;exact ⟨i,j,e,e2,h⟩
def nq:V->Prop->Prop
 | .non,P=>P
 | _,_=>False
def zb9 {x:V} {P:Prop} (h:nq x P):x=.non/\P:=by
 cases x <;> first|exact ⟨rfl,h⟩|exact False.elim h
def lq:List V->(V->Prop)->Prop
 | [v],P=>P v
 | _,_=>False
theorem zeU:∀ {xs:Ap} {P:V->Prop},lq xs P->∃ v,xs=[v]/\P v
 | [_],_,h=>⟨_,rfl,h⟩
 | [],_,h=>h.elim
 | _ :: _ :: _,_,h=>h.elim
def vq:Option Aq->(V->Prop)->Prop
 | some (some v),P=>P v
 | _,_=>False
theorem zgU:∀ {o:Option Aq} {P:V->Prop},vq o P->∃ v,o=some (some v)/\P v
 | some (some v),_,h=>⟨v,rfl,h⟩
 | some none,_,h=>h.elim
 | none,_,h=>h.elim
def szl (xs:Ap) (P:Prop):Prop:=cond (Nat.ble xs.length 12) P False
def zaV {xs:Ap} {P:Prop} (h:szl xs P):xs.length<=sizeLine/\P:=by
 unfold szl at h;cases e:Nat.ble xs.length 12 with
 | true=>rw [e] at h;exact ⟨bd (cr e) (by decide),h⟩
 | false=>rw [e] at h;exact h.elim
def tVar (i:Nat):TE:=λ σ H Q=>vq σ[i]? λ v=>Q v H
def tC (v:V):TE:=λ _ H Q=>Q v H
def zht (hN:X.N[i]?=some x) (hv:Vis X.env.scope x) (hd:(x == ("__debug__":Str))=false:=by decide) (hcd:(x == ("__classdict__":Str))=false:=by decide):PE X (.Name x pos) (tVar i):=by
 intro m5 s σ H Q I h;obtain ⟨v,e,h⟩:=zgU h;obtain ⟨m,hn,hl⟩:=I.loc;obtain ⟨u,r,l⟩:=hl i x v hN e hv;have fin:EP X m5 σ Q u s:=⟨v,H,I,r,h⟩;rcases l with ⟨hk,hm⟩|⟨hk,c,hc,hcell⟩
 ·exact wpAny_Name (wpAny_loadName_local I.ok.kind hk hn hm fin) hd
 ·rcases hk with hk|hk
  ·exact wpAny_Name (wpAny_loadName_cell I.ok.kind hk hc hcell fin) hd
  ·exact wpAny_Name (wpAny_loadName_free I.ok.kind hk hc hcell fin hcd) hd
def zh {i j pos}:PE X (.Constant (.int i) j pos) (tC (.int i)):=λ _ _ _ H _ I h=>wpAny_Constant_int ⟨.int i,H,I.tok _,⟨_,rfl⟩,h⟩
def V1 {b j pos}:PE X (.Constant (.bool b) j pos) (tC (.bl b)):=λ _ _ _ H _ I h=>Constant_bool ⟨.bl b,H,I,rfl,h⟩
def zM {j pos}:PE X (.Constant .none j pos) (tC .non):=λ _ _ _ H _ I h=>Constant_none ⟨.non,H,I,rfl,h⟩
def jb {x j pos}:PE X (.Constant (.str x) j pos) (tC (.str x)):=λ _ _ _ H _ I h=>Calls.Constant_str ⟨.str x,H,I.tok _,⟨_,rfl⟩,h⟩
def Gl (X:Cx) (x:Str):Prop:=X.env.kindOf x=some .globalImplicit
def wH (I:Inv X m5 σ H s) (hg:Gl X x) (hm:X.mg x=some u) (h:Q u s)
  (hd:(x == ("__debug__":Str))=false:=by decide):wpAny (model X.prog X.w) X.A (eval (.Name x pos) X.env) Q E s :=
 gQ I.ok.kind hg (Calls.loadGlobal_global (by rw [I.ok.glob];exact I.mod.glob.keeps I.bk) hm h) hd
def Zn (I:Inv X m5 σ H s) (hg:Gl X x) (hm:X.mg x=none) (hv:bootBuiltins x=some u) (h:Q u s)
  (hn:x≠"__name__":=by decide) (hd:(x == ("__debug__":Str))=false:=by decide):wpAny (model X.prog X.w) X.A (eval (.Name x pos) X.env) Q E s:=by
 obtain ⟨mb,h1,h2⟩:=I.mod.blt;exact gQ I.ok.kind hg (Calls.loadGlobal_builtin (by rw [I.ok.glob];exact I.mod.glob.keeps I.bk) hm (by rw [I.ok.blt];exact h1.keeps I.bk) ((h2 x hn).trans hv) h) hd
variable {a b:Expr} {ta tb:TE} {pos:Pos}
def PC (X:Cx) (op:CmpOp) (a b:Expr) (t:TE):Prop :=
 ∀ (m5:A2) (s:An) (σ:St) (H:Hp) (Q:VK),Inv X m5 σ H s->t σ H Q ->
  wpAny (model X.prog X.w) X.A (eval a X.env) (λ v s₁=>wpAny (model X.prog X.w) X.A (eval b X.env) (λ u s₂=>wpAny (model X.prog X.w) X.A (compareOp op v u) (EP X m5 σ Q) X.xe s₂) X.xe s₁) X.xe s
def nobehind (b:Expr) (h:op≠.In) (h2:op≠.NotIn):behindInMarks op b=false:=by
 have e1:(op == CmpOp.In)=false:=by cases op <;> first|rfl|exact absurd rfl h
 have e2:(op == CmpOp.NotIn)=false:=by cases op <;> first|rfl|exact absurd rfl h2
 cases b <;> simp [behindInMarks,e1,e2]
def RelV.none_iff {x:V} {v:Am} (r:RelV x v):(v == Value.none)=decide (x=.non):=by
 cases x with
 | non=>cases r;rfl
 | bl _=>cases r;rfl
 | int _=>obtain ⟨t,rfl⟩:=r;rfl
 | str _=>obtain ⟨t,rfl⟩:=r;rfl
 | byt _=>obtain ⟨t,rfl⟩:=r;rfl
 | flt _=>obtain ⟨t,rfl⟩:=r;rfl
 | ref _=>cases r;rfl
 | ty _=>cases r;rfl
def tB (t:TE):TT:=λ σ H Q=>t σ H λ x H1=>bq x λ c=>Q c H1
def zev {t:TE} (h:PC X op a b t) (h1:behindInMarks op b=false:=by walk_at "q"):PT X (.Compare a [op] [b] pos) (tB t):=by
 intro m5 s σ H Q I hw;refine wpAny_isTrue_Compare1 (thn (h m5 s σ H _ I hw) λ v s1 h1=>thn h1 λ u s2 h2=>thn h2 λ c s3 ⟨x,H1,I1,r1,q1⟩=>?_) h1;obtain ⟨d,rfl,q⟩:=Xd q1;cases r1;exact bR ⟨H1,I1,q⟩
variable {tA tB':TT} {rest:List Expr}
def tOr (t u:TT):TT:=λ σ H Q=>t σ H λ c H1=>if c=true then Q true H1 else u σ H1 Q
def tNot (t:TT):TT:=λ σ H Q=>t σ H λ c H1=>Q (!c) H1
def pw_or1 (ha:PT X a tA):PW X (.BoolOp .Or [a] pos) tA:=by
 intro wh m5 s σ H Q I h;refine isTrue_or (thn (ha m5 s σ H Q I h) λ c s1 e=>?_);cases c with
 | false=>exact isTrue_or_nil e
 | true=>exact e
def pw_or (ha:PT X a tA) (hb:PW X (.BoolOp .Or (b :: rest) pos) tB'):PW X (.BoolOp .Or (a :: b :: rest) pos) (tOr tA tB'):=by
 intro wh m5 s σ H Q I h;refine isTrue_or (thn (ha m5 s σ H _ I h) λ c s1 ⟨H1,I1,q1⟩=>?_);cases c with
 | true=>exact ⟨H1,I1,q1⟩
 | false=>exact hb wh m5 s1 σ H1 Q I1 q1
def jx (ha:PT X a tA):PT X (.UnaryOp .Not a pos) (tNot tA):=by
 intro m5 s σ H Q I h;exact isTrue_not (ha m5 s σ H (λ c H1=>Q (!c) H1) I h)
def tAndV (ta tb:TE):TE:=λ σ H Q=>ta σ H λ x H1=>bq x λ c=>if c=true then tb σ H1 Q else Q (.bl false) H1
def zhv {op} {t:TE} (h:PE X a t):PE X (.BoolOp op [a] pos) t:=λ m5 s σ H Q I hw=>BoolOp_one (h m5 s σ H Q I hw)
def zhx (ha:PE X a ta) (hb:PE X (.BoolOp .And (b :: rest) pos) tb):PE X (.BoolOp .And (a :: b :: rest) pos) (tAndV ta tb):=by
 intro m5 s σ H Q I h;refine BoolOp_and (qy (ha m5 s σ H _ I h) λ v s1 x H1 I1 r1 q1=>?_);obtain ⟨c,rfl,q1⟩:=Xd q1;cases r1;refine bR ?_;cases c with
 | true=>exact hb m5 s1 σ H1 Q I1 q1
 | false=>exact ⟨.bl false,H1,I1,rfl,q1⟩
def tIf (t:TT) (ta tb:TE):TE:=λ σ H Q=>t σ H λ c H1=>if c=true then ta σ H1 Q else tb σ H1 Q
def we {c:Expr} (hc:PT X c tA) (ha:PE X a ta) (hb:PE X b tb):PE X (.IfExp c a b pos) (tIf tA ta tb):=by
 intro m5 s σ H Q I h;refine wpAny_IfExp (thn (hc m5 s σ H _ I h) λ d s1 ⟨H1,I1,q1⟩=>?_);cases d with
 | true=>exact ha m5 s1 σ H1 Q I1 q1
 | false=>exact hb m5 s1 σ H1 Q I1 q1
end
def SqL (K:A0) (H:Hp) (a:Addr) (xs:Ap):Prop :=
 Rd H a (.lst xs) \/
  ∃ (o:Obj) (ni:Ac) (n:Nat),K.lookup a=some o/\o.cls=.type "list"/\o.dict=none/\o.data=.seq ni n/\ni.size<=sizeLine/\Vals xs ni.toList
def SqT (K:A0) (H:Hp) (a:Addr) (xs:Ap):Prop :=
 Rd H a (.tup xs) \/
  ∃ (o:Obj) (ni:Ac) (n:Nat),K.lookup a=some o/\o.cls=.type "tuple"/\o.data=.seq ni n/\ni.size<=sizeLine/\Vals xs ni.toList
noncomputable def zjm:Value->Option V
 | .none=>some .non
 | .bool b=>some (.bl b)
 | .int i _=>some (.int i)
 | .str x _=>some (.str x)
 | .bytes b _=>some (.byt b)
 | .float b _=>some (.flt b)
 | .ref a=>some (.ref a)
 | .type n=>some (.ty n)
 | _=>none
def RelV.abs {x:V} (r:RelV x u):zjm u=some x:=by
 cases x with
 | non=>cases r;rfl
 | bl _=>cases r;rfl
 | int _=>obtain ⟨t,rfl⟩:=r;rfl
 | str _=>obtain ⟨t,rfl⟩:=r;rfl
 | byt _=>obtain ⟨t,rfl⟩:=r;rfl
 | flt _=>obtain ⟨t,rfl⟩:=r;rfl
 | ref _=>cases r;rfl
 | ty _=>cases r;rfl
def RelV.inj {x y:V} (r:RelV x u) (q:RelV y u):x=y:=aO (r.abs.symm.trans q.abs)
theorem Vals.inj:∀ {xs ys:Ap} {us:A7},Vals xs us->Vals ys us->xs=ys
 | _,_,_,.nil,.nil=>rfl
 | _,_,_,.cons r t,.cons r' t'=>by rw [r.inj r',Vals.inj t t']
section
variable {X:Cx} {m5:A2} {σ:St} {H:Hp} {s:An} {a:Addr} {xs ys:Ap}
def SqL.of (h:H a=some (.lst xs)):SqL K H a xs:=.inl (.inl h)
def SqT.of (h:H a=some (.tup xs)):SqT K H a xs:=.inl (.inl h)
def Inv.list (I:Inv X m5 σ H s) (h:SqL X.K H a xs):∃ ni:List Value,Vals xs ni/\PlainL s.heap a ni.toArray/\xs.length<=sizeLine:=by
 rcases h with h|⟨o,ni,n,hk,hc,hd,hs,hz,r⟩
 ·obtain ⟨z,ni,n,r,e⟩:=h.ok I.hok;exact ⟨ni,r,⟨_,n,e,rfl,rfl,rfl⟩,z⟩
 ·refine ⟨ni.toList,r,⟨o,n,I.kIn a o hk,hc,hd,by simpa using hs⟩,?_⟩;have e:=r.length;simp only [aM] at e
  lia
def Inv.tuple (I:Inv X m5 σ H s) (h:SqT X.K H a xs):∃ ni:List Value,Vals xs ni/\IsTup s.heap a ni.toArray/\xs.length<=sizeLine:=by
 rcases h with h|⟨o,ni,n,hk,hc,hs,hz,r⟩
 ·obtain ⟨z,ni,r,p⟩:=h.ok I.hok;exact ⟨ni,r,p,z⟩
 ·refine ⟨ni.toList,r,⟨o,I.kIn a o hk,hc,n,by simpa using hs⟩,?_⟩;have e:=r.length;simp only [aM] at e
  lia
def Inv.list_inj (I:Inv X m5 σ H s) (h:SqL X.K H a xs) (h':SqL X.K H a ys):xs=ys:=by
 obtain ⟨ni,r,⟨o,n,e,_,_,d⟩,_⟩:=I.list h;obtain ⟨its',r',⟨o',n',e',_,_,d'⟩,_⟩:=I.list h';rw [e] at e';cases e';rw [d] at d';injection d' with d1 _
 have:ni=its':=by simpa using bP Array.toList d1
 subst this;exact r.inj r'
def Inv.tuple_inj (I:Inv X m5 σ H s) (h:SqT X.K H a xs) (h':SqT X.K H a ys):xs=ys:=by
 obtain ⟨ni,r,⟨o,e,_,n,d⟩,_⟩:=I.tuple h;obtain ⟨its',r',⟨o',e',_,n',d'⟩,_⟩:=I.tuple h';rw [e] at e';cases e';rw [d] at d';injection d' with d1 _
 have:ni=its':=by simpa using bP Array.toList d1
 subst this;exact r.inj r'
end
noncomputable abbrev Cx.wish (X:Cx) (E:A3):Cx:={ X with xe:=E }
noncomputable abbrev Cx.nox (X:Cx):Cx:=X.wish λ _ _=>False
def Cx.Ok.wish (ok:X.Ok) (E:A3):(X.wish E).Ok :=
 ⟨ok.mod,ok.kind,ok.glob,ok.blt,ok.above,ok.inj,ok.has,ok.cab,ok.hd,ok.frames,ok.stk,ok.exf,ok.bs,ok.bsz,ok.noex,ok.exfs,ok.funs,ok.frf⟩
def Cx.Ok.unwish (ok:(X.wish E).Ok):X.Ok :=
 ⟨ok.mod,ok.kind,ok.glob,ok.blt,ok.above,ok.inj,ok.has,ok.cab,ok.hd,ok.frames,ok.stk,ok.exf,ok.bs,ok.bsz,ok.noex,ok.exfs,ok.funs,ok.frf⟩
section
variable {X:Cx} {m5:A2} {σ:St} {H:Hp} {s:An} {E:A3}
def Inv.wish (I:Inv X m5 σ H s) (E:A3):Inv (X.wish E) m5 σ H s:=⟨I.ok.wish E,I.os,I.bare,I.base,I.loc,I.cell,I.free,I.freeC,I.pin,I.hok,I.len⟩
def Inv.unwish (I:Inv (X.wish E) m5 σ H s):Inv X m5 σ H s:=⟨I.ok.unwish,I.os,I.bare,I.base,I.loc,I.cell,I.free,I.freeC,I.pin,I.hok,I.len⟩
def SP.unwish {D:Ends} {f:Flow} {s':An} (h:SP (X.wish E) m5 D f s'):SP X m5 D f s':=by
 cases f with
 | next=>obtain ⟨σ',H',I,q⟩:=h;exact ⟨σ',H',I.unwish,q⟩
 | brk=>obtain ⟨σ',H',I,q⟩:=h;exact ⟨σ',H',I.unwish,q⟩
 | cont=>obtain ⟨σ',H',I,q⟩:=h;exact ⟨σ',H',I.unwish,q⟩
 | ret u=>obtain ⟨v,σ',H',I,r,q⟩:=h;exact ⟨v,σ',H',I.unwish,r,q⟩
def PE.nox {e:Expr} {t:TE} (h:PE X.nox e t):PE X e t:=λ m5 s σ H Q I hw =>
 bg (h m5 s σ H Q (I.wish _) hw) (λ _ _ ⟨v,H',I',r,q⟩=>⟨v,H',I'.unwish,r,q⟩) λ _ _ z=>False.elim z
def PT.nox {e:Expr} {t:TT} (h:PT X.nox e t):PT X e t:=λ m5 s σ H Q I hw =>
 bg (h m5 s σ H Q (I.wish _) hw) (λ _ _ ⟨H',I',q⟩=>⟨H',I'.unwish,q⟩) λ _ _ z=>False.elim z
def PSs.nox {st:List Stmt} {t:TS} (h:PSs X.nox st t):PSs X st t:=λ m5 s σ H D I hw =>
 bg (h m5 s σ H D (I.wish _) hw) (λ _ _ q=>q.unwish) λ _ _ z=>False.elim z
end
section
variable {X:Cx} {st:Stmt} {rest:List Stmt} {t u:TS} {e:Expr} {te:TE} {pos:Pos}
def tNext:TS:=λ D σ H=>D.nx σ H
def tSeq (t u:TS):TS:=λ D σ H=>t { D with nx:=u D } σ H
def zu:PSs X [] tNext:=λ _ _ σ H _ I h=>eR ⟨σ,H,I,h⟩
def ze (h1:PS X st t) (h2:PSs X rest u):PSs X (st :: rest) (tSeq t u):=by
 intro m5 s σ H D I h;refine fU (thn (h1 m5 s σ H { D with nx:=u D } I h) λ f s1 q=>?_);cases f with
 | next =>
  obtain ⟨σ',H',I',q⟩:=q;exact h2 m5 s1 σ' H' D I' q
 | ret v=>exact q
 | brk=>exact q
 | cont=>exact q
def zd (h1:PS X st t):PSs X [st] t:=by
 intro m5 s σ H D I h;refine fU (thn (h1 m5 s σ H D I h) λ f s1 q=>?_);cases f with
 | next=>exact eR q
 | ret v=>exact q
 | brk=>exact q
 | cont=>exact q
def Inv.quiet (I:Inv X m5 σ H s):interactive X.env=false:=by simp [interactive,I.ok.kind]
def tDrop (te:TE):TS:=λ D σ H=>te σ H λ _ H1=>D.nx σ H1
def zO (he:PE X e te) (hs:swapsWith e none pos.line X.env=pure false:=by rfl):PS X (.Expr e pos) (tDrop te):=by
 intro m5 s σ H D I h;exact wpAny_Expr_any (qy (he m5 s σ H _ I h) λ v s1 x H1 I1 r1 q1=>⟨σ,H1,I1,q1⟩) I.quiet hs
def tRet (te:TE):TS:=λ D σ H=>te σ H D.rt
def zl (he:PE X e te):PS X (.Return (some e) pos) (tRet te):=by
 intro m5 s σ H D I h;exact wpAny_Return_some (qy (he m5 s σ H _ I h) λ v s1 x H1 I1 r1 q1=>⟨x,σ,H1,I1,r1,q1⟩)
def tIfS (c:TT) (t u:TS):TS:=λ D σ H=>c σ H λ b H1=>if b=true then t D σ H1 else u D σ H1
def zT {c:Expr} {a b:List Stmt} {tc:TT} (hc:PT X c tc) (ha:PSs X a t) (hb:PSs X b u):PS X (.If c a b pos) (tIfS tc t u):=by
 intro m5 s σ H D I h;refine wpAny_If (thn (hc m5 s σ H _ I h) λ d s1 ⟨H1,I1,q1⟩=>?_);cases d with
 | true=>exact ha m5 s1 σ H1 D I1 q1
 | false=>exact hb m5 s1 σ H1 D I1 q1
end
abbrev TG:=V->St->Hp->(St->Hp->Prop)->Prop
abbrev TGs:=List V->St->Hp->(St->Hp->Prop)->Prop
def PG (X:Cx) (target:Expr) (t:TG):Prop :=
 ∀ (m5:A2) (s:An) (σ:St) (H:Hp) (v:V) (u:Am) (Q:St->Hp->Prop),Inv X m5 σ H s->RelV v u->t v σ H Q ->
  wpAny (model X.prog X.w) X.A (assign target X.env u) (λ _ s'=>∃ σ' H',Inv X m5 σ' H' s'/\Q σ' H') X.xe s
def PGs (X:Cx) (ts:List Expr) (t:TGs):Prop :=
 ∀ (m5:A2) (s:An) (σ:St) (H:Hp) (vs:Ap) (us:A7) (Q:St->Hp->Prop),Inv X m5 σ H s->Vals vs us->t vs σ H Q ->
  wpAny (model X.prog X.w) X.A (assignInOrder ((assignEach ts X.env).map (·.2)) us) (λ _ s'=>∃ σ' H',Inv X m5 σ' H' s'/\Q σ' H') X.xe s
abbrev zfM:=V->V->V->Hp->(Hp->Prop)->Prop
def zii (X:Cx) (t:zfM):Prop :=
 ∀ (m5:A2) (s:An) (σ:St) (H:Hp) (o i v:V) (ov iv u:Am) (Q:Hp->Prop),Inv X m5 σ H s->RelV o ov->RelV i iv->RelV v u->t o i v H Q ->
  wpAny (model X.prog X.w) X.A (setItem ov iv u) (λ _ s'=>∃ H',Inv X m5 σ H' s'/\Q H') X.xe s
abbrev TIp:=V->V->Hp->VK->Prop
def PIp (X:Cx) (op:Operator) (t:TIp):Prop :=
 ∀ (m5:A2) (s:An) (σ:St) (H:Hp) (x y:V) (v u:Am) (Q:VK),Inv X m5 σ H s->RelV x v->RelV y u->t x y H Q ->
  wpAny (model X.prog X.w) X.A (inplaceOp op v u) (EP X m5 σ Q) X.xe s
section
variable {X:Cx} {pos:Pos}
def gName (i:Nat):TG:=λ v σ H Q=>Q (σ.set i (some v)) H
def vH (hN:X.N.Nodup) (hi:X.N[i]?=some x) (hx:Loc X.env.scope x) (hf:X.fn x=true\/X.env.scope.names.lookup x=some .local:=by walk_at "p"):PG X (.Name x pos) (gName i):=by
 intro m5 s σ H v u Q I r h;exact wpAny_assign_Name (Jh I hN hi hx r (λ s' I'=>⟨_,H,I',h⟩) hf)
def gNil:TGs:=λ vs σ H Q=>vs=[]/\Q σ H
def gCons (t:TG) (u:TGs):TGs:=λ vs σ H Q=>∃ v r,vs=v :: r/\t v σ H λ σ' H'=>u r σ' H' Q
def xH:PGs X [] gNil:=by
 intro m5 s σ H vs us Q I r h;obtain ⟨e,h⟩:=h;subst e;cases r;exact assignInOrder_nil ⟨σ,H,I,h⟩
theorem qk {e:Expr} {es:List Expr} {t:TG} {u:TGs} (h1:PG X e t) (h2:PGs X es u)
  (hs:(assignEach (e :: es) X.env).map (·.2)=assign e X.env :: (assignEach es X.env).map (·.2):=by rfl):PGs X (e :: es) (gCons t u):=by
 intro m5 s σ H vs us Q I r h;obtain ⟨v,vr,e1,h⟩:=h;subst e1;cases r with
 | cons r rr =>
  rw [hs];refine assignInOrder_cons (thn (h1 m5 s σ H _ _ _ I r h) λ _ s1 ⟨σ1,H1,I1,q1⟩=>?_);exact h2 m5 s1 σ1 H1 _ _ Q I1 rr q1
def gTup (K:A0) (n:Nat) (t:TGs):TG:=λ v σ H Q=>∃ a xs,v=.ref a/\SqT K H a xs/\xs.length=n/\t xs σ H Q
def vj {es:List Expr} {t:TGs} {n:Nat} (hc:X.calm=true) (h:PGs X es t)
  (hn:(assignEach es X.env).length=n:=by rfl) (hst:(assignEach es X.env).findIdx? (·.1)=none:=by rfl):PG X (.Tuple es k pos) (gTup X.K n t):=by
 intro m5 s σ H v u Q I r hw;obtain ⟨a,xs,e1,hq,hl,hw⟩:=hw;subst e1;cases r;obtain ⟨ni,rv,ht,hz⟩:=I.tuple hq;refine assign_Tuple_tuple (I.ok.hd hc) ht (by simp [hn,<- hl,rv.length]) hst λ h' hx=>?_;have I1:Inv X m5 σ H { s with heap:=h' }:=I.kept (t':=s.toks) λ b o e=>hx b o (aF (aw e)) e;exact h m5 _ σ H xs _ Q I1 (by simpa using rv) hw
def gSub (to ti:TE) (t:zfM):TG:=λ v σ H Q=>to σ H λ o H1=>ti σ H1 λ i H2=>t o i v H2 λ H3=>Q σ H3
def JH {o i:Expr} {to ti:TE} {t:zfM} (ho:PE X o to) (hi:PE X i ti) (hs:zii X t)
  (ha:∀ v,assign (.Subscript o i pos) X.env v=(do
   let ov <- holding [v] (eval o X.env)
   let iv <- holding [v,ov] (eval i X.env)
   standAt pos
   holding [v,ov,iv] (setItem ov iv v)
   release [v,ov,iv] []):=by intro _;rfl):PG X (.Subscript o i pos) (gSub to ti t):=by
 intro m5 s σ H v u Q I r h;rw [ha];refine af (cB (qy (ho m5 s σ H _ I h) λ ov s1 x H1 I1 r1 q1=>?_));refine af (cB (qy (hi m5 s1 σ H1 _ I1 q1) λ iv s2 y H2 I2 r2 q2=>?_));refine af (g6 (af (cB (thn (hs m5 s2 σ H2 x y v ov iv u _ I2 r1 r2 r q2) λ _ s3 ⟨H3,I3,q3⟩=>?_))));exact wpAny_release ⟨σ,H3,I3,q3⟩
def tAsg (te:TE) (g:TG):TS:=λ D σ H=>te σ H λ x H1=>g x σ H1 D.nx
def JD {tg e:Expr} {te:TE} {g:TG} (he:PE X e te) (hg:PG X tg g) (hs:swapsWithSole [tg] e pos.line X.env=pure false:=by rfl) (hw:swappedStores [tg] e X.env=pure none:=by rfl)
  (h1:(assignEach [tg] X.env).map (·.2)=[assign tg X.env]:=by rfl):PS X (.Assign [tg] e pos) (tAsg te g):=by
 intro m5 s σ H D I h;refine wpAny_Assign_stores (qy (he m5 s σ H _ I h) λ v s1 x H1 I1 r1 q1=>?_) hs hw;rw [h1];exact thn (hg m5 s1 σ H1 x v _ I1 r1 q1) λ _ s2 q=>q
def JB {e:Expr} {te:TE} {pos':Pos} (hN:X.N.Nodup) (hi:X.N[i]?=some x) (hx:Loc X.env.scope x) (he:PE X e te) (hs:swapsWith e (some (.Name x pos')) pos.line X.env=pure false:=by rfl) (hf:X.fn x=true\/X.env.scope.names.lookup x=some .local:=by walk_at "p") :
  PS X (.Assign [.Name x pos'] e pos) (tAsg te (gName i)):=by
 intro m5 s σ H D I h;refine wpAny_Assign_Name (qy (he m5 s σ H _ I h) λ v s1 y H1 I1 r1 q1=>?_) hs;exact Jh I1 hN hi hx r1 (λ s2 I2=>⟨_,H1,I2,q1⟩) hf
def tAug (i:Nat) (te:TE) (ti:TIp):TS:=λ D σ H=>vq σ[i]? λ x=>te σ H λ y H1=>ti x y H1 λ z H2=>D.nx (σ.set i (some z)) H2
def zew {e:Expr} {te:TE} {op:Operator} {ti:TIp} {pos':Pos} (hN:X.N.Nodup) (hi:X.N[i]?=some x) (hx:Loc X.env.scope x) (he:PE X e te) (ho:PIp X op ti) (hf:X.fn x=true\/X.env.scope.names.lookup x=some .local:=by walk_at "p") :
  PS X (.AugAssign (.Name x pos') op e pos) (tAug i te ti):=by
 intro m5 s σ H D I h;obtain ⟨v,e1,h⟩:=zgU h;obtain ⟨m,hn,hl⟩:=I.loc;have vis:Vis X.env.scope x:=by rcases hx with k|k;exact .inl k;exact .inr (.inl k)
 obtain ⟨u,r,l⟩:=hl i x v hi e1 vis;refine wpAny_AugAssign_Name ?_;have go:wpAny (model X.prog X.w) X.A (eval e X.env) (λ w s₂=>wpAny (model X.prog X.w) X.A (inplaceOp op u w) (λ r s₃=>wpAny (model X.prog X.w) X.A (storeName X.env x r) (λ _=>SP X m5 D .next) X.xe s₃) X.xe s₂) X.xe s:=by
  refine qy (he m5 s σ H _ I h) λ w s1 y H1 I1 r1 q1=>?_;refine qy (ho m5 s1 σ H1 v y u w _ I1 r r1 q1) λ z s2 zv H2 I2 r2 q2=>?_;exact Jh I2 hN hi hx r2 (λ s3 I3=>⟨_,H2,I3,q2⟩) hf
 rcases l with ⟨hk,hm⟩|⟨hk,c,hc,hcell⟩
 ·exact wpAny_loadName_local I.ok.kind hk hn hm go
 ·rcases hk with hk|hk
  ·exact wpAny_loadName_cell I.ok.kind hk hc hcell go
  ·rcases hx with k|k
   ·have:X.env.scope.names.lookup x=some .free:=hk;rw [k] at this;cases this
   ·have:X.env.scope.names.lookup x=some .free:=hk;rw [k] at this;cases this
def zgX (to ti te:TE) (tget:V->V->Hp->VK->Prop) (tip:TIp) (tset:zfM):TS:=λ D σ H=>to σ H λ o H1=>ti σ H1 λ i H2=>tget o i H2 λ x H3=>te σ H3 λ y H4=>tip x y H4 λ z H5=>tset o i z H5 λ H6=>D.nx σ H6
def zi4 (X:Cx) (t:V->V->Hp->VK->Prop):Prop :=
 ∀ (m5:A2) (s:An) (σ:St) (H:Hp) (o i:V) (ov iv:Am) (Q:VK),Inv X m5 σ H s->RelV o ov->RelV i iv->t o i H Q ->
  wpAny (model X.prog X.w) X.A (getItem ov iv) (EP X m5 σ Q) X.xe s
def zgc {o i e:Expr} {to ti te:TE} {tget:V->V->Hp->VK->Prop} {tip:TIp} {tset:zfM} {op:Operator} {tpos:Pos} (ho:PE X o to) (hi:PE X i ti) (hg:zi4 X tget) (he:PE X e te) (hp:PIp X op tip) (hs:zii X tset)
  (ha:∀ ov iv new,augStore i ov iv new=(do holding [new,ov,iv] (setItem ov iv new);release [new,ov,iv] [];pure .next):=by intros;rfl):PS X (.AugAssign (.Subscript o i tpos) op e pos) (zgX to ti te tget tip tset):=by
 intro m5 s σ H D I h;refine wpAny_AugAssign_SubscriptAny (qy (ho m5 s σ H _ I h) λ ov s1 x1 H1 I1 r1 q1=>?_) ha;refine qy (hi m5 s1 σ H1 _ I1 q1) λ iv s2 x2 H2 I2 r2 q2=>?_;refine qy (hg m5 s2 σ H2 x1 x2 ov iv _ I2 r1 r2 q2) λ old s3 x3 H3 I3 r3 q3=>?_;refine qy (he m5 s3 σ H3 _ I3 q3) λ v s4 x4 H4 I4 r4 q4=>?_;refine qy (hp m5 s4 σ H4 x3 x4 old v _ I4 r3 r4 q4) λ new s5 x5 H5 I5 r5 q5=>?_;exact thn (hs m5 s5 σ H5 x1 x2 x5 ov iv new _ I5 r1 r2 r5 q5) λ _ s6 ⟨H6,I6,q6⟩=>⟨σ,H6,I6,q6⟩
def ipI (f:Int->Int->Int):TIp:=λ x y H Q=>iq x λ i=>iq y λ j=>Q (.int (f i j)) H
def zfc:PIp X .Add (ipI λ i j=>i + j):=by
 intro m5 s σ H x y v u Q I r1 r2 h;obtain ⟨i,j,e1,e2,q⟩:=Qs h;subst e1;subst e2;obtain ⟨t,rfl⟩:=r1;obtain ⟨t',rfl⟩:=r2;exact iadd_int ⟨.int _,H,I.tok _,⟨_,rfl⟩,q⟩
def zhV:PIp X .Sub (ipI λ i j=>i - j):=by
 intro m5 s σ H x y v u Q I r1 r2 h;obtain ⟨i,j,e1,e2,q⟩:=Qs h;subst e1;subst e2;obtain ⟨t,rfl⟩:=r1;obtain ⟨t',rfl⟩:=r2;exact isub_int ⟨.int _,H,I.tok _,⟨_,rfl⟩,q⟩
end
section
variable {X:Cx} {pos:Pos}
def zhg (c:TT) (tb:TS):TS:=λ D σ H=>∃ W:Nat->St->Hp->Prop,(∃ m,W m σ H)/\∀ m σ H,W m σ H ->
 c σ H λ b H1=>if b=true then ∃ N:St->Hp->Prop,(∀ σ' H',N σ' H'->∃ m',m' < m/\W m' σ' H')/\tb { D with nx:=N,ct:=N,bk:=D.nx } σ H1 else D.nx σ H1
def ZF {c:Expr} {body:List Stmt} {tc:TT} {tb:TS} (hp:PassesOwn (model X.prog X.w) X.A X.env X.xe) (hc:PT X c tc) (hb:PSs X body tb):PS X (.While c body [] pos) (zhg tc tb):=by
 intro m5 s σ H D I h;obtain ⟨W,⟨m0,w0⟩,turn⟩:=h;refine wpAny_While (codeAny_whileLoop (λ n s'=>∃ σ' H',Inv X m5 σ' H' s'/\W n σ' H') ?_ m0 ⟨σ,H,I,w0⟩);rintro n s1 ⟨σ1,H1,I1,w1⟩;refine cA hp (thn (hc m5 s1 σ1 H1 _ I1 (turn n σ1 H1 w1)) λ b s2 ⟨H2,I2,q2⟩=>?_);cases b with
 | true =>
  obtain ⟨N,hN,q2⟩:=q2;rw [ax rfl];refine cA hp (thn (hb m5 s2 σ1 H2 _ I2 q2) λ f s3 q3=>?_);cases f with
  | next =>
   obtain ⟨σ3,H3,I3,n3⟩:=q3;obtain ⟨m',hm,w3⟩:=hN σ3 H3 n3;exact ⟨m',hm,σ3,H3,I3,w3⟩
  | cont =>
   obtain ⟨σ3,H3,I3,n3⟩:=q3;obtain ⟨m',hm,w3⟩:=hN σ3 H3 n3;exact ⟨m',hm,σ3,H3,I3,w3⟩
  | brk=>exact q3
  | ret v=>exact q3
 | false =>
  rw [aq aC];exact eR ⟨σ1,H2,I2,q2⟩
end
structure It where
 go:Nat->Hp->Prop
 yld:Nat->Hp->V->Hp->Prop
 stop:Nat->Hp->Prop
def Qy (X:Cx) (m5:A2) (H:Hp) (b:Addr):Prop :=
 H b=none/\b≠X.env.locals/\b ∉ X.fs/\(b∈X.ex\/X.s₀.heap.objs.size<=b)/\(∀ x c,X.env.cells.lookup x=some c->c≠b)/\∀ p∈X.pn ++ m5,p.1≠b
def Inv.fpOk {H H':Hp} (I:Inv X m5 σ H s) (hb:s.heap.objs.size<=b) (hn:H' b=none):Qy X m5 H' b:=by
 refine ⟨hn,dA (aI I.lt hb),I.nofs hb,.inr (bd I.sz hb),λ x c e z=>?_,λ p hp z=>?_⟩
 ·obtain ⟨v,q⟩:=I.cell x c e;exact absurd (aI q.lt (by rw [z];exact hb)) (cM _)
 ·exact absurd (aI (aw (I.pin p hp).1) (by rw [z];exact hb)) (cM _)
structure Turn (P:Af) (w:World) (K:A0) (tg:Expr) (J:It) (fp:Ab) (it:Addr) (tn:Nat->Heap->Prop):Prop where
 mem:it∈fp
 obj:∀ i h,tn i h->∀ b∈fp,∃ o,h.get? b=some o/\∀ v,o.data≠.cell v
 keep:∀ i h h',tn i h->(∀ b∈fp,∀ o,h.get? b=some o->h'.get? b=some o)->tn i h'
 item:∀ (X:Cx),X.prog=P->X.w=w->X.K=K->X.calm=true->∀ (i:Nat) (m5:A2) (s:An) (σ:St) (H:Hp) (E:A3),Inv X m5 σ H s->(∀ b∈fp,Qy X m5 H b)->tn i s.heap->J.go i H ->
  wpAny (model P w) X.A (pyNext (.ref it)) (λ r s1=>∃ u,r=some u /\
   wpAny (model P w) X.A (letOwnedTupleGo tg (.ref it) u) (λ _ s2=>∃ x H',Inv X m5 σ H' s2/\RelV x u/\J.yld i H x H'/\tn (i + 1) s2.heap/\∀ b∈fp,H' b=none) E s1) E s
 done:∀ (X:Cx),X.prog=P->X.w=w->X.K=K->X.calm=true->∀ (i:Nat) (m5:A2) (s:An) (σ:St) (H:Hp) (E:A3),Inv X m5 σ H s->(∀ b∈fp,Qy X m5 H b)->tn i s.heap->J.stop i H ->
  wpAny (model P w) X.A (pyNext (.ref it)) (λ r s1=>r=none/\Inv X m5 σ H s1) E s
 self:∀ (A:Ao) (i:Nat) (s:An) (Q:A3) (E:A3),tn i s.heap->Q (.ref it) s->wpAny (model P w) A (pyIter (.ref it)) Q E s
abbrev TI:=St->Hp->(It->Hp->Prop)->Prop
def PIE (X:Cx) (m5:A2) (σ:St) (tg:Expr) (R:It->Hp->Prop) (itv:Am) (s2:An):Prop :=
 ∃ (it:Addr) (fp:Ab) (tn:Nat->Heap->Prop) (J:It) (H':Hp),itv=.ref it/\Inv X m5 σ H' s2/\Turn X.prog X.w X.K tg J fp it tn/\tn 0 s2.heap/\(∀ b∈fp,Qy X m5 H' b)/\R J H'
def PI (X:Cx) (tg iter:Expr) (wi:TI):Prop :=
 ∀ (m5:A2) (s:An) (σ:St) (H:Hp) (R:It->Hp->Prop),Inv X m5 σ H s->wi σ H R ->
  wpAny (model X.prog X.w) X.A (eval iter X.env) (λ v s1=>wpAny (model X.prog X.w) X.A (pyIter v) (PIE X m5 σ tg R) X.xe s1) X.xe s
theorem zcn {it:Addr} {o:Obj} {n:String} {vs:Ac} {Q:Ag} (ho:s.heap.get? it=some o) (hc:o.cls=.type n) (hd:o.data=.fields vs)
  (hn:["enumerate","zip","dict_itemiterator","dict_reverseitemiterator","odict_iterator","itertools.zip_longest","itertools.pairwise"].contains n=false) (hQ:Q () s):wpAny M A (letOwnedTupleGo tg (.ref it) u) Q E s:=by
 unfold letOwnedTupleGo;cases tg <;> first
  | exact ao hQ
  | (cases u <;> first
    | exact ao hQ
    | (refine af (wpAny_load ho ?_)
       rw [hc,hd];show wpAny M A (if (["enumerate","zip","dict_itemiterator","dict_reverseitemiterator","odict_iterator","itertools.zip_longest","itertools.pairwise"].contains n && vs[0]? == some (rawInt _))=true then _ else _) Q E s
       rw [aq (by intro h;rw [hn,Bool.false_and] at h;cases h)];exact ao hQ))
noncomputable def Itl (K:A0) (a:Addr):It :=
 ⟨λ i H=>∃ xs x,SqL K H a xs/\xs[i]?=some x,λ i H x H'=>H'=H/\∀ xs,SqL K H a xs->xs[i]?=some x,λ i H=>∃ xs,SqL K H a xs/\xs.length<=i⟩
noncomputable def Itt (K:A0) (a:Addr):It :=
 ⟨λ i H=>∃ xs x,SqT K H a xs/\xs[i]?=some x,λ i H x H'=>H'=H/\∀ xs,SqT K H a xs->xs[i]?=some x,λ i H=>∃ xs,SqT K H a xs/\xs.length<=i⟩
noncomputable def Itr (lo:Int) (n:Nat):It:=⟨λ i _=>i < n,λ i H x H'=>H'=H/\x=.int (lo + i),λ i _=>n<=i⟩
def zcM (a it:Addr):Turn P w K tg (Itl K a) [it] it (λ i h=>h.IsListIter it a i) where
 mem:=by simp
 obj:=λ i h st b hb=>by
  have e:b=it:=by simpa using hb
  subst e;obtain ⟨o,e,c,d⟩:=st;exact ⟨o,e,λ v z=>by rw [d] at z;cases z⟩
 keep:=λ i h h' st k=>st.at λ o e=>k it (by simp) o e
 item:=by
  intro X hP hw hK hc i m5 s σ H E I hf st hg;subst hP hw hK;obtain ⟨xs,x,hq,hx⟩:=hg;obtain ⟨ni,rv,p,hz⟩:=I.list hq;obtain ⟨u,hu,ru⟩:=rv.get hx;obtain ⟨f0,f1,f2,f3,f4,f5⟩:=hf it (by simp);refine wpAny_pyNext_list_item st p.isList (x:=u) (by simpa using hu) λ h' st' sb=>?_;have I1:Inv X m5 σ H { s with heap:=h' }:=I.turned (t':=s.toks) (λ b o hb e=>(sb.2 b hb).trans e) f0 f1 f3 f4 f5;obtain ⟨o,e,c,d⟩:=id st';exact ⟨u,rfl,zcn (s:={ s with heap:=h' }) e c d (by decide) ⟨x,H,I1,ru,⟨rfl,λ ys hy=>by rw [I.list_inj hy hq];exact hx⟩,st',λ b hb=>(hf b hb).1⟩⟩
 done:=by
  intro X hP hw hK hc i m5 s σ H E I hf st hg;subst hP hw hK;obtain ⟨xs,hq,hx⟩:=hg;obtain ⟨ni,rv,p,hz⟩:=I.list hq;obtain ⟨f0,f1,f2,f3,f4,f5⟩:=hf it (by simp);have hl:=rv.length;exact wpAny_pyNext_list_end (I.ok.hd hc) st p.isList (by simp;lia) λ h' eb=>⟨rfl,I.turned (t':=s.toks) (λ b o hb e=>eb b o hb e) f0 f1 f3 f4 f5⟩
 self:=λ _ _ _ _ _ st h=>wpAny_pyIter_listiter st h
def zaT (a it:Addr):Turn P w K tg (Itt K a) [it] it (λ i h=>h.IsTupleIter it a i) where
 mem:=by simp
 obj:=λ i h st b hb=>by
  have e:b=it:=by simpa using hb
  subst e;obtain ⟨o,e,c,d⟩:=st;exact ⟨o,e,λ v z=>by rw [d] at z;cases z⟩
 keep:=λ i h h' st k=>st.at λ o e=>k it (by simp) o e
 item:=by
  intro X hP hw hK hc i m5 s σ H E I hf st hg;subst hP hw hK;obtain ⟨xs,x,hq,hx⟩:=hg;obtain ⟨ni,rv,p,hz⟩:=I.tuple hq;obtain ⟨u,hu,ru⟩:=rv.get hx;obtain ⟨f0,f1,f2,f3,f4,f5⟩:=hf it (by simp);refine wpAny_pyNext_tuple_item st (show s.heap.IsTuple a ni.toArray from p) (x:=u) (by simpa using hu) λ h' st' sb=>?_;have I1:Inv X m5 σ H { s with heap:=h' }:=I.turned (t':=s.toks) (λ b o hb e=>(sb.2 b hb).trans e) f0 f1 f3 f4 f5;obtain ⟨o,e,c,d⟩:=id st';exact ⟨u,rfl,zcn (s:={ s with heap:=h' }) e c d (by decide) ⟨x,H,I1,ru,⟨rfl,λ ys hy=>by rw [I.tuple_inj hy hq];exact hx⟩,st',λ b hb=>(hf b hb).1⟩⟩
 done:=by
  intro X hP hw hK hc i m5 s σ H E I hf st hg;subst hP hw hK;obtain ⟨xs,hq,hx⟩:=hg;obtain ⟨ni,rv,p,hz⟩:=I.tuple hq;obtain ⟨f0,f1,f2,f3,f4,f5⟩:=hf it (by simp);have hl:=rv.length;exact wpAny_pyNext_tuple_end (I.ok.hd hc) st (show s.heap.IsTuple a ni.toArray from p) (by simp;lia) λ h' eb=>⟨rfl,I.turned (t':=s.toks) (λ b o hb e=>eb b o hb e) f0 f1 f3 f4 f5⟩
 self:=λ _ _ _ _ _ st h=>wpAny_pyIter_tupleiter st h
def zaU (it:Addr) (lo:Int) (n:Nat):Turn P w K tg (Itr lo n) [it] it (λ i h=>IsRangeIter h it (lo + (i:Nat) * 1) ((n:Int) - (i:Nat)) 1) where
 mem:=by simp
 obj:=λ i h st b hb=>by
  have e:b=it:=by simpa using hb
  subst e;exact ⟨_,st,λ v z=>by
   have z':Data.fields _=Data.cell v:=z;cases z'⟩
 keep:=λ i h h' st k=>k it (by simp) _ st
 item:=by
  intro X hP hw hK hc i m5 s σ H E I hf st hg;subst hP hw hK;obtain ⟨f0,f1,f2,f3,f4,f5⟩:=hf it (by simp);have W:=Walks.range (prog:=X.prog) (w:=X.w) (I.ok.hd hc) it lo 1 n;refine W.item i s _ _ hg st λ v h' tk hv st' kk=>?_;obtain ⟨t,rfl⟩:=hv;have I1:Inv X m5 σ H { s with heap:=h',toks:=tk }:=I.turned (λ b o hb e=>kk b o (by simpa using hb) e) f0 f1 f3 f4 f5;refine ⟨_,rfl,zcn (s:={ s with heap:=h',toks:=tk }) (n:="range_iterator") st' rfl rfl (by decide) ⟨.int (lo + i),H,I1,⟨t,?_⟩,⟨rfl,rfl⟩,st',λ b hb=>(hf b hb).1⟩⟩;rw [Int.mul_one]
 done:=by
  intro X hP hw hK hc i m5 s σ H E I hf st hg;subst hP hw hK;obtain ⟨f0,f1,f2,f3,f4,f5⟩:=hf it (by simp);exact wpAny_pyNext_range_end (I.ok.hd hc) st (by have:n<=i:=hg;lia) λ h' eb=>⟨rfl,I.turned (t':=s.toks) (λ b o hb e=>eb b o hb e) f0 f1 f3 f4 f5⟩
 self:=λ _ _ _ _ _ st h=>wpAny_pyIter_rangeiter st h
section
variable {X:Cx} {tg:Expr}
def zer {R:It->Hp->Prop} {lo hi:Int} {t u v:Tok} {tk:Nat} (I:Inv X m5 σ H s) (h1:-(2 ^ 62)<=lo) (h2:lo < 2 ^ 62) (h3:-(2 ^ 62)<=hi) (h4:hi < 2 ^ 62)
  (q:R (Itr lo (hi - lo).toNat) H):wpAny (model X.prog X.w) X.A (pyIter (.ref s.heap.objs.size)) (PIE X m5 σ tg R) E { s with heap:=s.heap.push { cls:=.type "range",data:=.fields #[.int lo t,.int hi u,.int 1 v] },toks:=tk }:=by
 refine wpAny_pyIter_range (IsRange.new ..) (small_one h1 h2 h3 h4) ?_;have I1:Inv X m5 σ H { s with heap:=s.heap.push { cls:=.type "range",data:=.fields #[.int lo t,.int hi u,.int 1 v] },toks:=tk }:=I.kept λ b o e=>ak _ e;refine ⟨(s.heap.push { cls:=.type "range",data:=.fields #[.int lo t,.int hi u,.int 1 v] }).objs.size,[(s.heap.push { cls:=.type "range",data:=.fields #[.int lo t,.int hi u,.int 1 v] }).objs.size],_,_,H,rfl,
  I1.kept (t':=tk) λ b o e=>ak _ e,zaU _ lo (hi - lo).toNat,?_,λ b hb=>?_,q⟩
 ·have e1:lo + ((0:Nat):Int) * 1=lo:=by simp
  have e2:(((hi - lo).toNat:Nat):Int) - ((0:Nat):Int)=Builtin.Range.rangeSize lo hi 1:=by rw [rangeSize_one];split <;> lia
  show IsRangeIter _ _ (lo + ((0:Nat):Int) * 1) ((((hi - lo).toNat:Nat):Int) - ((0:Nat):Int)) 1
  rw [e1,e2];exact ay _ rfl
 ·have e:b=(s.heap.push { cls:=.type "range",data:=.fields #[.int lo t,.int hi u,.int 1 v] }).objs.size:=by simpa using hb
  subst e;exact I1.fpOk (au _) (I1.hok.fresh (au _))
def iRng1 (ta:TA):TI:=λ σ H R=>ta σ H λ vs H1=>lq vs λ v=>iq v λ j=>-(2 ^ 62)<=j/\j < 2 ^ 62/\R (Itr 0 j.toNat) H1
def zdc {a:Expr} {ta:TA} {p pos:Pos} (hg:Gl X "range") (hm:X.mg "range"=none) (ha:PA X [a] ta) (hs:starEach [a] X.env=[(false,eval a X.env)]:=by rfl):PI X tg (.Call (.Name "range" p) [a] [] pos) (iRng1 ta):=by
 intro m5 s σ H R I h;refine Call_ (Zn I hg hm boot_range (bA (wW (ha pos m5 s σ H _ I h) λ us s1 vs H1 I1 r1 q1=>?_) hs rfl));obtain ⟨v,e,q0⟩:=zeU q1;clear q1;obtain ⟨j,e2,q1,q2,q⟩:=ZQ q0;subst e2;subst e;cases r1 with
 | cons r rr =>
  cases rr;obtain ⟨t,rfl⟩:=r;exact call_range_1 (zer I1 (by lia) (by lia) q1 q2 (by simpa using q))
def tFor (wi:TI) (g:TG) (tb:TS):TS:=λ D σ H=>wi σ H λ J H1=>∃ W:Nat->Nat->St->Hp->Prop,(∃ m,W 0 m σ H1)/\∀ i m σ H,W i m σ H ->
 (J.stop i H/\D.nx σ H)\/(J.go i H/\∃ N:St->Hp->Prop,(∀ σ' H',N σ' H'->∃ m',m' < m/\W (i + 1) m' σ' H')/\∀ x H',J.yld i H x H'->g x σ H' λ σ2 H2=>tb { D with nx:=N,ct:=N,bk:=D.nx } σ2 H2)
noncomputable def JF (fp:Ab) (h:Heap):List (Addr × Obj):=fp.filterMap λ b=>(h.get? b).map λ o=>(b,o)
def wG {fp:Ab} {h:Heap} {o:Obj} (hb:b∈fp) (e:h.get? b=some o):(b,o)∈JF fp h:=bJ.mpr ⟨b,hb,by rw [e];rfl⟩
def zdh {fp:Ab} {h:Heap} {p:Addr × Obj} (hp:p∈JF fp h):p.1∈fp/\h.get? p.1=some p.2:=by
 obtain ⟨b,hb,e⟩:=bJ.mp hp;cases q:h.get? b with
 | none=>rw [q] at e;cases e
 | some o =>
  rw [q] at e;have e':(b,o)=p:=aO e;subst e';exact ⟨hb,q⟩
def Inv.pinned {fp:Ab} (I:Inv X m5 σ H s) (hf:∀ b∈fp,Qy X m5 H b) (ho:∀ b∈fp,∃ o,s.heap.get? b=some o/\∀ v,o.data≠.cell v):Inv X (m5 ++ JF fp s.heap) σ H s :=
 I.pins_of λ p hp=>(aB.mp hp).elim (λ z=>I.pin p (a7 _ z)) λ z=>by
  obtain ⟨hb,e⟩:=zdh z;obtain ⟨f0,f1,f2,_⟩:=hf p.1 hb;obtain ⟨o,e',d⟩:=ho p.1 hb;rw [e] at e';cases e';exact ⟨e,f0,f1,f2,d⟩
def Inv.unpinned {m5 pl:A2} (I:Inv X (m5 ++ pl) σ H s):Inv X m5 σ H s:=I.pins_of λ p hp=>I.pin p (a7 _ (bS _ hp))
theorem qo {iter:Expr} {body:List Stmt} {wi:TI} {g:TG} {tb:TS} (hp:PassesOwn (model X.prog X.w) X.A X.env X.xe) (hc:X.calm=true) (hi:PI X tg iter wi) (hg:PG X tg g) (hb:PSs X body tb)
  (hs:∀ x,foldedSetIterable iter X.env x=pure x:=by intro _;rfl):PS X (.For tg iter body [] pos) (tFor wi g tb):=by
 intro m5 s σ H D I h;refine wpAny_For (thn (hi m5 s σ H _ I h) λ v s1 h1=>thn h1 λ itv s2 h2=>?_) hs;obtain ⟨it,fp,tn,J,H2,e,I2,T,st2,f2,W,⟨m0,w0⟩,turn⟩:=h2;subst e;have stat:∀ {H':Hp},(∀ b∈fp,H' b=none)->∀ b∈fp,Qy X m5 H' b:=λ hn b hb=>⟨hn b hb,(f2 b hb).2⟩;refine codeAny_forLoop_any (λ n s'=>∃ i σ' H',Inv X m5 σ' H' s'/\tn i s'.heap/\(∀ b∈fp,H' b=none)/\W i n σ' H') ?_ m0 ⟨0,σ,H2,I2,st2,λ b hb=>(f2 b hb).1,w0⟩;rintro n s3 ⟨i,σ3,H3,I3,st3,fr3,w3⟩;rcases turn i n σ3 H3 w3 with ⟨stop,qn⟩|⟨go,N,hN,step⟩
 ·refine cA hp (thn (T.done X rfl rfl rfl hc i m5 s3 σ3 H3 X.xe I3 (stat fr3) st3 stop) λ r s4 ⟨hr,I4⟩=>?_);subst hr;exact eR ⟨σ3,H3,I4,qn⟩
 ·refine cA hp (thn (T.item X rfl rfl rfl hc i m5 s3 σ3 H3 X.xe I3 (stat fr3) st3 go) λ r s4 ⟨u,hr,h4⟩=>?_);subst hr;refine cA hp (thn h4 λ _ s5 ⟨x,H5,I5,r5,y5,st5,fr5⟩=>?_);have I5':=I5.pinned (stat fr5) (T.obj _ _ st5);refine cA hp (thn (hg _ s5 σ3 H5 x u _ I5' r5 (step x H5 y5)) λ _ s6 ⟨σ6,H6,I6,q6⟩=>?_);refine cA hp (thn (hb _ s6 σ6 H6 _ I6 q6) λ f s7 q7=>?_);have again:∀ {σ7:St} {H7:Hp},Inv X (m5 ++ JF fp s5.heap) σ7 H7 s7->N σ7 H7->∃ m,m < n/\∃ i σ' H',Inv X m5 σ' H' s7/\tn i s7.heap/\(∀ b∈fp,H' b=none)/\W i m σ' H':=λ {σ7 H7} I7 n7=>by
   obtain ⟨m',hm,w7⟩:=hN σ7 H7 n7;refine ⟨m',hm,i + 1,σ7,H7,I7.unpinned,T.keep _ _ _ st5 λ b hb o e=>(I7.pin (b,o) (a7 _ (a7 _ (wG hb e)))).1,λ b hb=>?_,w7⟩;obtain ⟨o,e,d⟩:=T.obj _ _ st5 b hb;exact (I7.pin (b,o) (a7 _ (a7 _ (wG hb e)))).2.1
  cases f with
  | next=>obtain ⟨σ7,H7,I7,n7⟩:=q7;exact again I7 n7
  | cont=>obtain ⟨σ7,H7,I7,n7⟩:=q7;exact again I7 n7
  | brk=>obtain ⟨σ7,H7,I7,q7⟩:=q7;exact ⟨σ7,H7,I7.unpinned,q7⟩
  | ret v=>obtain ⟨x7,σ7,H7,I7,r7,q7⟩:=q7;exact ⟨x7,σ7,H7,I7.unpinned,r7,q7⟩
end
abbrev R2:=V->V->Hp->VK->Prop
def OpR (X:Cx) (f:Al) (r:R2):Prop :=
 ∀ (m5:A2) (s:An) (σ:St) (H:Hp) (x y:V) (v u:Am) (Q:VK),Inv X m5 σ H s->RelV x v->RelV y u->r x y H Q ->
  wpAny (model X.prog X.w) X.A (f v u) (EP X m5 σ Q) X.xe s
def UnR (X:Cx) (f:Value->Sem Value) (r:V->Hp->VK->Prop):Prop :=
 ∀ (m5:A2) (s:An) (σ:St) (H:Hp) (x:V) (v:Am) (Q:VK),Inv X m5 σ H s->RelV x v->r x H Q ->
  wpAny (model X.prog X.w) X.A (f v) (EP X m5 σ Q) X.xe s
def CallR (X:Cx) (f:Am) (r:List V->Hp->VK->Prop):Prop :=
 ∀ (m5:A2) (s:An) (σ:St) (H:Hp) (xs:Ap) (us:A7) (Q:VK),Inv X m5 σ H s->Vals xs us->r xs H Q ->
  wpAny (model X.prog X.w) X.A (call f us) (EP X m5 σ Q) X.xe s
def zjn (X:Cx) (r:V->Hp->(Bool->Hp->Prop)->Prop):Prop :=
 ∀ (m5:A2) (s:An) (σ:St) (H:Hp) (x:V) (v:Am) (Q:Bool->Hp->Prop),Inv X m5 σ H s->RelV x v->r x H Q ->
  wpAny (model X.prog X.w) X.A (truthy v) (TP X m5 σ Q) X.xe s
def tOp (r:R2) (ta tb:TE):TE:=λ σ H Q=>ta σ H λ x H1=>tb σ H1 λ y H2=>r x y H2 Q
def tUn (r:V->Hp->VK->Prop) (ta:TE):TE:=λ σ H Q=>ta σ H λ x H1=>r x H1 Q
def rI (C:Int->Int->Prop) (g:Int->Int->V):R2:=λ x y H Q=>iq x λ i=>iq y λ j=>C i j/\Q (g i j) H
def rI0 (g:Int->Int->V):R2:=λ x y H Q=>iq x λ i=>iq y λ j=>Q (g i j) H
def rU (g:Int->V):V->Hp->VK->Prop:=λ x H Q=>iq x λ i=>Q (g i) H
section
variable {X:Cx} {a b c:Expr} {ta tb tc:TE} {pos:Pos}
def zic (ha:PE X a ta) (hb:PE X b tb) {R:V->V->Hp->Prop} (I:Inv X m5 σ H s)
  (h:ta σ H λ x H1=>tb σ H1 λ y H2=>R x y H2)
  (hf:∀ v u s2 x y H2,Inv X m5 σ H2 s2->RelV x v->RelV y u->R x y H2->wpAny (model X.prog X.w) X.A (f v u) Q X.xe s2) :
  wpAny (model X.prog X.w) X.A (eval a X.env) (λ v s₁=>wpAny (model X.prog X.w) X.A (eval b X.env) (λ u s₂=>wpAny (model X.prog X.w) X.A (f v u) Q X.xe s₂) X.xe s₁) X.xe s:=by
 refine qy (ha m5 s σ H _ I h) λ v s1 x H1 I1 r1 q1=>?_;refine qy (hb m5 s1 σ H1 _ I1 q1) λ u s2 y H2 I2 r2 q2=>?_;exact hf v u s2 x y H2 I2 r1 r2 q2
def zD {op:Operator} {r:R2} (ho:OpR X (binaryOp op) r) (ha:PE X a ta) (hb:PE X b tb):PE X (.BinOp a op b pos) (tOp r ta tb):=by
 intro m5 s σ H Q I h;exact wpAny_BinOp (zic ha hb I h λ v u s2 x y H2 I2 rx ry q=>ho m5 s2 σ H2 x y v u Q I2 rx ry q)
def JI {op:UnaryOp} {r:V->Hp->VK->Prop} (ho:UnR X (unaryOp op) r) (ha:PE X a ta):PE X (.UnaryOp op a pos) (tUn r ta):=by
 intro m5 s σ H Q I h;exact UnaryOp_ (qy (ha m5 s σ H _ I h) λ v s1 x H1 I1 r1 q1=>ho m5 s1 σ H1 x v Q I1 r1 q1)
def opI {C:Int->Int->Prop} {g:Int->Int->Int}
  (rule:∀ (i j:Int) (t u:Tok) (s:An) (Q:A3) (E:A3),C i j->Q (.int (g i j) s.toks) { s with toks:=s.toks + 1 }->wpAny (model X.prog X.w) X.A (f (.int i t) (.int j u)) Q E s) :
  OpR X f (rI C λ i j=>.int (g i j)):=by
 intro m5 s σ H x y v u Q I rx ry h;obtain ⟨i,j,rfl,rfl,hc,q⟩:=Qs h;obtain ⟨t,rfl⟩:=rx;obtain ⟨t',rfl⟩:=ry;exact rule i j t t' s _ _ hc ⟨.int (g i j),H,I.tok _,⟨_,rfl⟩,q⟩
def ziD {g:Int->Int->Int}
  (rule:∀ (i j:Int) (t u:Tok) (s:An) (Q:A3) (E:A3),Q (.int (g i j) s.toks) { s with toks:=s.toks + 1 }->wpAny (model X.prog X.w) X.A (f (.int i t) (.int j u)) Q E s) :
  OpR X f (rI0 λ i j=>.int (g i j)):=by
 intro m5 s σ H x y v u Q I rx ry h;obtain ⟨i,j,rfl,rfl,q⟩:=Qs h;obtain ⟨t,rfl⟩:=rx;obtain ⟨t',rfl⟩:=ry;exact rule i j t t' s _ _ ⟨.int (g i j),H,I.tok _,⟨_,rfl⟩,q⟩
def zhB {g:Int->Int->Bool}
  (rule:∀ (i j:Int) (t u:Tok) (s:An) (Q:A3) (E:A3),Q (.bool (g i j)) s->wpAny (model X.prog X.w) X.A (f (.int i t) (.int j u)) Q E s) :
  OpR X f (rI0 λ i j=>.bl (g i j)):=by
 intro m5 s σ H x y v u Q I rx ry h;obtain ⟨i,j,rfl,rfl,q⟩:=Qs h;obtain ⟨t,rfl⟩:=rx;obtain ⟨t',rfl⟩:=ry;exact rule i j t t' s _ _ ⟨.bl (g i j),H,I,rfl,q⟩
def zjp (i j:Int):Prop:=0 < j/\j < 1073741824
def zi7 (i j:Int):Prop:=0<=j/\j<=1000000/\i.natAbs < 2 ^ 64
def CMul (i j:Int):Prop:=(-(2 ^ 64) < i/\i < 2 ^ 64)\/(-(2 ^ 64) < j/\j < 2 ^ 64)
def CMul.ok {i j:Int} (h:CMul i j):IntMulOk i j:=by
 rcases h with ⟨h1,h2⟩|⟨h1,h2⟩
 ·exact .of_left (intBits_le_64 h1 h2)
 ·exact .of_right (intBits_le_64 h1 h2)
def op_add:OpR X (binaryOp .Add) (rI0 λ i j=>.int (i + j)):=ziD λ _ _ _ _ _ _ _ q=>add_int q
def xv:OpR X (binaryOp .Sub) (rI0 λ i j=>.int (i - j)):=ziD λ _ _ _ _ _ _ _ q=>sub_int q
def zgh:OpR X (binaryOp .FloorDiv) (rI zjp λ i j=>.int (i / j)):=opI λ i j _ _ _ _ _ hc q=>by
 have h1:(0:Int) < j:=hc.1;have h2:j < 1073741824:=hc.2;exact floordiv_int (by lia) (by rw [fN i (by lia)];exact q) (.inl (gf (by lia)))
def jn:OpR X (binaryOp .Mod) (rI (λ _ j=>0 < j) λ i j=>.int (i % j)):=opI λ i j _ _ _ _ _ hc q=>by
 have h1:(0:Int) < j:=hc;exact mod_int' (by lia) (by rw [Int.fmod_eq_emod_of_nonneg i (by lia)];exact q)
def zhA:OpR X (binaryOp .Pow) (rI zi7 λ i j=>.int (i ^ j.toNat)):=opI λ _ _ _ _ _ _ _ hc q=>pow_int_small hc.1 hc.2.1 hc.2.2 q
def unI {f:Value->Sem Value} {g:Int->Int}
  (rule:∀ (i:Int) (t:Tok) (s:An) (Q:A3) (E:A3),Q (.int (g i) s.toks) { s with toks:=s.toks + 1 }->wpAny (model X.prog X.w) X.A (f (.int i t)) Q E s) :
  UnR X f (rU λ i=>.int (g i)):=by
 intro m5 s σ H x v Q I rx h;obtain ⟨i,rfl,q⟩:=ZQ h;obtain ⟨t,rfl⟩:=rx;exact rule i t s _ _ ⟨.int (g i),H,I.tok _,⟨_,rfl⟩,q⟩
def vY:UnR X (unaryOp .USub) (rU λ i=>.int (-i)):=unI λ _ _ _ _ _ q=>neg_int q
end
noncomputable def zis:V->V->Bool
 | .non,.non=>true | .non,.int _=>true | .int _,.non=>true | .non,.bl _=>true | .bl _,.non=>true | .non,.str _=>true | .str _,.non=>true
 | .int _,.int _=>true | .bl _,.bl _=>true | .str _,.str _=>true | .byt _,.byt _=>true
 | .int _,.str _=>true | .str _,.int _=>true | .bl _,.str _=>true | .str _,.bl _=>true
 | _,_=>false
def rEq:R2:=λ x y H Q=>zis x y=true/\Q (.bl (decide (x=y))) H
def rNe:R2:=λ x y H Q=>zis x y=true/\Q (.bl (!decide (x=y))) H
def zcw {i j:Int}:decide (V.int i=V.int j)=(i == j):=by
 rw [eB];simp
def zfs {i j:Bool}:decide (V.bl i=V.bl j)=(i == j):=by
 rw [eB];simp
def zcv {i j:Str}:decide (V.str i=V.str j)=(i == j):=by
 rw [eB];simp
def zcx {i j:Array UInt8}:decide (V.byt i=V.byt j)=(i.toList == j.toList):=by
 rw [eB];cases i;cases j;simp
section
variable {X:Cx} {a b c:Expr} {ta tb tc:TE} {pos:Pos}
def zW {Q:VK} {k k':Bool} (I:Inv X m5 σ H s) (q:Q (.bl k) H) (e:k=k'):EP X m5 σ Q (.bool k') s:=by
 subst e;exact ⟨.bl k,H,I,rfl,q⟩
def op_eq:OpR X (compareOp .Eq) rEq:=by
 intro m5 s σ H x y v u Q I rx ry h;obtain ⟨hs,q⟩:=h;cases x with
 | non =>
  cases rx;cases y with
  | non=>cases ry;exact PySem.EqNone.eq_none_none (zW I q (by simp))
  | bl j=>cases ry;exact PySem.EqNone.eq_none_bool (zW I q (by simp))
  | int j=>obtain ⟨t',rfl⟩:=ry;exact PySem.EqNone.eq_none_int (zW I q (by simp))
  | str j=>obtain ⟨t',rfl⟩:=ry;exact PySem.EqNone.eq_none_str (zW I q (by simp))
  | _=>exact absurd (show false=true from hs) aC
 | bl i =>
  cases rx;cases y with
  | non=>cases ry;exact PySem.EqNone.eq_bool_none (zW I q (by simp))
  | bl j=>cases ry;exact eq_bool (zW I q zfs)
  | str j=>obtain ⟨t',rfl⟩:=ry;exact PySem.EqMixed.eq_bool_str (zW I q (by simp))
  | _=>exact absurd (show false=true from hs) aC
 | int i =>
  obtain ⟨t,rfl⟩:=rx;cases y with
  | non=>cases ry;exact PySem.EqNone.eq_int_none (zW I q (by simp))
  | int j=>obtain ⟨t',rfl⟩:=ry;exact eq_int (zW I q zcw)
  | str j=>obtain ⟨t',rfl⟩:=ry;exact PySem.EqMixed.eq_int_str (zW I q (by simp))
  | _=>exact absurd (show false=true from hs) aC
 | str i =>
  obtain ⟨t,rfl⟩:=rx;cases y with
  | non=>cases ry;exact PySem.EqNone.eq_str_none (zW I q (by simp))
  | bl j=>cases ry;exact PySem.EqMixed.eq_str_bool (zW I q (by simp))
  | int j=>obtain ⟨t',rfl⟩:=ry;exact PySem.EqMixed.eq_str_int (zW I q (by simp))
  | str j=>obtain ⟨t',rfl⟩:=ry;exact eq_str (zW I q zcv)
  | _=>exact absurd (show false=true from hs) aC
 | byt i =>
  obtain ⟨t,rfl⟩:=rx;cases y with
  | byt j=>obtain ⟨t',rfl⟩:=ry;exact PySem.W.eq_bytes (zW I q zcx)
  | _=>exact absurd (show false=true from hs) aC
 | _=>cases y <;> exact absurd (show false=true from hs) aC
def op_ne:OpR X (compareOp .NotEq) rNe:=by
 intro m5 s σ H x y v u Q I rx ry h;obtain ⟨hs,q⟩:=h;cases x with
 | non =>
  cases rx;cases y with
  | non=>cases ry;exact PySem.EqNone.ne_none_none (zW I q (by simp))
  | bl j=>cases ry;exact PySem.EqNone.ne_none_bool (zW I q (by simp))
  | int j=>obtain ⟨t',rfl⟩:=ry;exact PySem.EqNone.ne_none_int (zW I q (by simp))
  | str j=>obtain ⟨t',rfl⟩:=ry;exact PySem.EqNone.ne_none_str (zW I q (by simp))
  | _=>exact absurd (show false=true from hs) aC
 | bl i =>
  cases rx;cases y with
  | non=>cases ry;exact PySem.EqNone.ne_bool_none (zW I q (by simp))
  | bl j=>cases ry;exact ne_bool (zW I q (bP not zfs))
  | str j=>obtain ⟨t',rfl⟩:=ry;exact PySem.EqMixed.ne_bool_str (zW I q (by simp))
  | _=>exact absurd (show false=true from hs) aC
 | int i =>
  obtain ⟨t,rfl⟩:=rx;cases y with
  | non=>cases ry;exact PySem.EqNone.ne_int_none (zW I q (by simp))
  | int j=>obtain ⟨t',rfl⟩:=ry;exact ne_int (zW I q (bP not zcw))
  | str j=>obtain ⟨t',rfl⟩:=ry;exact PySem.EqMixed.ne_int_str (zW I q (by simp))
  | _=>exact absurd (show false=true from hs) aC
 | str i =>
  obtain ⟨t,rfl⟩:=rx;cases y with
  | non=>cases ry;exact PySem.EqNone.ne_str_none (zW I q (by simp))
  | bl j=>cases ry;exact PySem.EqMixed.ne_str_bool (zW I q (by simp))
  | int j=>obtain ⟨t',rfl⟩:=ry;exact PySem.EqMixed.ne_str_int (zW I q (by simp))
  | str j=>obtain ⟨t',rfl⟩:=ry;exact ne_str (zW I q (bP not zcv))
  | _=>exact absurd (show false=true from hs) aC
 | byt i =>
  obtain ⟨t,rfl⟩:=rx;cases y with
  | byt j=>obtain ⟨t',rfl⟩:=ry;exact PySem.W.ne_bytes (zW I q (bP not zcx))
  | _=>exact absurd (show false=true from hs) aC
 | _=>cases y <;> exact absurd (show false=true from hs) aC
def op_lt:OpR X (compareOp .Lt) (rI0 λ i j=>.bl (decide (i < j))):=zhB λ _ _ _ _ _ _ _ q=>lt_int q
def op_le:OpR X (compareOp .LtE) (rI0 λ i j=>.bl (decide (i<=j))):=zhB λ _ _ _ _ _ _ _ q=>le_int q
def op_gt:OpR X (compareOp .Gt) (rI0 λ i j=>.bl (decide (j < i))):=zhB λ _ _ _ _ _ _ _ q=>gt_int q
def op_isN:OpR X (compareOp .Is) (λ x y H Q=>nq y (Q (.bl (decide (x=.non))) H)):=by
 intro m5 s σ H x y v u Q I rx ry h;obtain ⟨rfl,q⟩:=zb9 h;cases ry;refine is_none_gen (zW I q ?_);cases x <;> first
  | (cases rx;rfl)
  | (obtain ⟨t,rfl⟩:=rx;rfl)
def op_notN:OpR X (compareOp .IsNot) (λ x y H Q=>nq y (Q (.bl (!decide (x=.non))) H)):=by
 intro m5 s σ H x y v u Q I rx ry h;obtain ⟨rfl,q⟩:=zb9 h;cases ry;refine isnot_none_gen (zW I q ?_);cases x <;> first
  | (cases rx;rfl)
  | (obtain ⟨t,rfl⟩:=rx;rfl)
def OpR.or {r r':R2} (h:OpR X f r) (h':OpR X f r'):OpR X f (λ x y H Q=>r x y H Q\/r' x y H Q):=by
 intro m5 s σ H x y v u Q I rx ry q;rcases q with q|q
 ·exact h m5 s σ H x y v u Q I rx ry q
 ·exact h' m5 s σ H x y v u Q I rx ry q
def zC (b:Expr) (h:op≠.In:=by decide) (h2:op≠.NotIn:=by decide):behindInMarks op b=false:=by
 have e1:(op == CmpOp.In)=false:=by cases op <;> first|rfl|exact absurd rfl h
 have e2:(op == CmpOp.NotIn)=false:=by cases op <;> first|rfl|exact absurd rfl h2
 cases b <;> simp [behindInMarks,e1,e2]
def vI {r:R2} (ho:OpR X (compareOp op) r) (ha:PE X a ta) (hb:PE X b tb) (hm:behindInMarks op b=false):PE X (.Compare a [op] [b] pos) (tOp r ta tb):=by
 intro m5 s σ H Q I h;exact wpAny_Compare1 (zic ha hb I h λ v u s2 x y H2 I2 rx ry q=>ho m5 s2 σ H2 x y v u Q I2 rx ry q) hm
def tTest (t:TE):TT:=λ σ H Q=>t σ H λ x H'=>bq x λ k=>Q k H'
def zz {r:R2} (ho:OpR X (compareOp op) r) (ha:PE X a ta) (hb:PE X b tb) (hm:behindInMarks op b=false):PT X (.Compare a [op] [b] pos) (tTest (tOp r ta tb)):=by
 intro m5 s σ H Q I h;refine wpAny_isTrue_Compare1 (qy (ha m5 s σ H _ I h) λ v s1 x H1 I1 r1 q1=>qy (hb m5 s1 σ H1 _ I1 q1) λ u s2 y H2 I2 r2 q2 =>
  thn (ho m5 s2 σ H2 x y v u _ I2 r1 r2 q2) λ c s3 ⟨z,H3,I3,r3,q3⟩=>?_) hm
 obtain ⟨k,e,q3⟩:=Xd q3;subst e;cases r3;exact bR ⟨H3,I3,q3⟩
def tChain (r r':R2) (ta tb tc:TE):TE:=λ σ H Q=>ta σ H λ x H1=>tb σ H1 λ y H2=>r x y H2 λ z H3=>bq z λ k =>
 (if k=true then tc σ H3 λ w' H4=>r' y w' H4 Q else Q (.bl false) H3)
theorem zeC {op op':CmpOp} {r r':R2} (ho:OpR X (compareOp op) r) (ho':OpR X (compareOp op') r') (ha:PE X a ta) (hb:PE X b tb) (hc:PE X c tc)
  (hm:lastMarks [op,op'] [b,c]=false:=by with_unfolding_all rfl):PE X (.Compare a [op,op'] [b,c] pos) (tChain r r' ta tb tc):=by
 intro m5 s σ H Q I h;refine Compare_chain (qy (ha m5 s σ H _ I h) λ v s1 x H1 I1 r1 q1=>chain_link (qy (hb m5 s1 σ H1 _ I1 q1) λ u s2 y H2 I2 r2 q2 =>
  thn (ho m5 s2 σ H2 x y v u _ I2 r1 r2 q2) λ d s3 ⟨z,H3,I3,r3,q3⟩=>?_)) hm
 obtain ⟨k,e,q3⟩:=Xd q3;subst e;cases r3;refine bR ?_;cases k with
 | false=>exact ite_ff ⟨.bl false,H3,I3,rfl,q3⟩
 | true=>exact ite_tt (chain_last (thn (hc m5 s3 σ H3 _ I3 q3) λ w' s4 ⟨z',H4,I4,r4,q4⟩=>ho' m5 s4 σ H4 y z' u w' Q I4 r2 r4 q4))
theorem jf {op op':CmpOp} {r r':R2} (ho:OpR X (compareOp op) r) (ho':OpR X (compareOp op') r') (ha:PE X a ta) (hb:PE X b tb) (hc:PE X c tc)
  (hm:lastMarks [op,op'] [b,c]=false:=by with_unfolding_all rfl):PT X (.Compare a [op,op'] [b,c] pos) (tTest (tChain r r' ta tb tc)):=by
 intro m5 s σ H Q I h;refine isTrue_chain (qy (ha m5 s σ H _ I h) λ v s1 x H1 I1 r1 q1=>test_link (qy (hb m5 s1 σ H1 _ I1 q1) λ u s2 y H2 I2 r2 q2 =>
  thn (ho m5 s2 σ H2 x y v u _ I2 r1 r2 q2) λ d s3 ⟨z,H3,I3,r3,q3⟩=>?_)) hm
 obtain ⟨k,e,q3⟩:=Xd q3;subst e;cases r3;refine bR ?_;cases k with
 | false =>
  obtain ⟨k',e',q'⟩:=Xd q3;cases e';exact ite_ff ⟨H3,I3,q'⟩
 | true =>
  refine ite_tt (test_last (thn (hc m5 s3 σ H3 _ I3 q3) λ w' s4 ⟨z',H4,I4,r4,q4⟩=>thn (ho' m5 s4 σ H4 y z' u w' _ I4 r2 r4 q4) λ d' s5 ⟨z2,H5,I5,r5,q5⟩=>?_));obtain ⟨k2,e2,q5⟩:=Xd q5;subst e2;cases r5;exact bR ⟨H5,I5,q5⟩
def zdU (K:A0) (x:V) (H:Hp) (k:Bool):Prop :=
 match x with
 | .non=>k=false
 | .bl b=>k=b
 | .int i=>k=(i != 0)
 | .str y=>y.length<=sizeLine/\k=((y.length:Int) != 0)
 | .byt y=>y.size<=sizeLine/\k=((y.size:Int) != 0)
 | .ref p=>(∃ xs,SqL K H p xs/\k=!xs.isEmpty)\/(∃ xs,SqT K H p xs/\k=!xs.isEmpty)\/∃ n9,H p=some (.dK n9)/\k=!n9.isEmpty
 | _=>False
def zbA {κ:Type} {n9:List (κ × V)} {vs:List (κ × Value)} (r:KV n9 vs):(!vs.isEmpty)=!n9.isEmpty:=by
 cases r <;> rfl
def J4 {xs:Ap} {ni:A7} (r:Vals xs ni):(!ni.toArray.isEmpty)=!xs.isEmpty:=by
 cases r <;> simp
def Zm:(sizeLine:Nat) < 2 ^ 63:=by rw [fZ];decide
def zhe:zjn X (λ x H Q=>∃ k,zdU X.K x H k/\Q k H):=by
 intro m5 s σ H x v Q I rx h;obtain ⟨k,e,q⟩:=h;have hl:=Zm;have hs:sizeLine=16777216:=fZ;cases x with
 | non =>
  cases rx;have e':k=false:=e;subst e';exact truthy_none ⟨H,I,q⟩
 | bl b =>
  cases rx;have e':k=b:=e;subst e';exact bR ⟨H,I,q⟩
 | int i =>
  obtain ⟨t,rfl⟩:=rx;have e':k=(i != 0):=e;subst e';exact PySem.P.truthy_int ⟨H,I,q⟩
 | str y =>
  obtain ⟨t,rfl⟩:=rx;obtain ⟨hy,e'⟩:y.length<=sizeLine/\k=((y.length:Int) != 0):=e;subst e';exact PySem.P.truthy_str (by lia) ⟨H,I.tok _,q⟩
 | byt y =>
  obtain ⟨t,rfl⟩:=rx;obtain ⟨hy,e'⟩:y.size<=sizeLine/\k=((y.size:Int) != 0):=e;subst e';exact PySem.W.truthy_bytes (by lia) ⟨H,I.tok _,q⟩
 | ref p =>
  cases rx;have e':(∃ xs,SqL X.K H p xs/\k=!xs.isEmpty)\/(∃ xs,SqT X.K H p xs/\k=!xs.isEmpty)\/∃ n9,H p=some (.dK n9)/\k=!n9.isEmpty:=e;rcases e' with ⟨xs,hx,e'⟩|⟨xs,hx,e'⟩|⟨n9,hx,e'⟩
  ·subst e';obtain ⟨ni,r,pl,hz⟩:=I.list hx;have hlen:=r.length;exact wpAny_truthy_list pl.isList (by simp only [av];lia) ⟨H,I.tok _,by rw [J4 r];exact q⟩
  ·subst e';obtain ⟨ni,r,pl,hz⟩:=I.tuple hx;have hlen:=r.length;exact truthy_tuple pl (by simp only [av];lia) ⟨H,I.tok _,by rw [J4 r];exact q⟩
  ·subst e';obtain ⟨hz,hS,vs,r,m⟩:n9.length<=sizeLine/\(p == sysModules)=false/\∃ vs,KV n9 vs/\s.heap.DictOf (qM X.prog X.w) p vs:=I.hok p _ hx;have hlen:n9.length=vs.length:=cD r;exact wpAny_truthy_dict hS m (by lia) ⟨H,I.tok _,by rw [zbA r];exact q⟩
 | _=>exact (show False from e).elim
def trq (K:A0) (x:V) (H:Hp) (Q:Bool->Hp->Prop):Prop :=
 match x with
 | .bl b=>Q b H
 | x=>∃ k,zdU K x H k/\Q k H
def zhf {x:V} {Q:Bool->Hp->Prop} (h:trq K x H Q):∃ k,zdU K x H k/\Q k H:=by
 cases x <;> first|exact ⟨_,rfl,h⟩|exact h
def tTru (K:A0) (ta:TE):TT:=λ σ H Q=>ta σ H λ x H'=>trq K x H' Q
def jT (ha:PE X a ta) (he:∀ whole,isTrue a X.env whole=(do let v <- whole;standAt a.pos;holding [v] (truthy v))) :
  PT X a (tTru X.K ta):=by
 intro m5 s σ H Q I h;exact isTrue_plain (qy (ha m5 s σ H _ I h) λ v s1 x H1 I1 r1 q1=>zhe m5 s1 σ H1 x v Q I1 r1 (zhf q1)) (he _)
def op_add_str:OpR X (binaryOp .Add) (λ x y H Q=>∃ i j,x=.str i/\y=.str j/\i.length + j.length<=sizeLine/\Q (.str (i ++ j)) H):=by
 intro m5 s σ H x y v u Q I rx ry h;obtain ⟨i,j,rfl,rfl,hz,q⟩:=h;obtain ⟨t,rfl⟩:=rx;obtain ⟨t',rfl⟩:=ry;exact add_str (λ t' tk=>⟨.str (i ++ j),H,I.tok _,⟨_,rfl⟩,q⟩) hz
def xk {x:V} (r:Vals [x] us):∃ u,us=[u]/\RelV x u:=by
 cases r with
 | cons r1 r2=>cases r2;exact ⟨_,rfl,r1⟩
def zgV {x y:V} (r:Vals [x,y] us):∃ u w',us=[u,w']/\RelV x u/\RelV y w':=by
 cases r with
 | cons r1 r2 =>
  cases r2 with
  | cons r3 r4=>cases r4;exact ⟨_,_,rfl,r1,r3⟩
def zfB:CallR X (.builtin "abs") (λ xs H Q=>∃ i,xs=[.int i]/\Q (.int (if i < 0 then -i else i)) H):=by
 intro m5 s σ H xs us Q I r h;obtain ⟨i,rfl,q⟩:=h;obtain ⟨u,rfl,t,rfl⟩:=xk r;exact call_abs_int λ u tk=>⟨.int (if i < 0 then -i else i),H,I.tok _,⟨_,rfl⟩,q⟩
def zdK (hc:X.calm=true):CallR X (.builtin "max") (λ xs H Q=>∃ i j,xs=[.int i,.int j]/\Q (.int (if j > i then j else i)) H):=by
 intro m5 s σ H xs us Q I r h;obtain ⟨i,j,rfl,q⟩:=h;obtain ⟨u,w',rfl,⟨t,rfl⟩,⟨t',rfl⟩⟩:=zgV r;refine max_two_ints (I.ok.hd hc) λ h' tk k=>⟨_,H,I.kept k,?_,q⟩;by_cases hj:j > i
 ·rw [ax hj,ax hj];exact ⟨_,rfl⟩
 ·rw [aq hj,aq hj];exact ⟨_,rfl⟩
def zdL:CallR X (.type "int") (λ xs H Q=>(∃ i,xs=[.int i]/\Q (.int i) H)\/∃ k,xs=[.bl k]/\Q (.int (if k then 1 else 0)) H):=by
 intro m5 s σ H xs us Q I r h;rcases h with ⟨i,rfl,q⟩|⟨k,rfl,q⟩
 ·obtain ⟨u,rfl,t,rfl⟩:=xk r;exact call_int_int ⟨.int i,H,I,⟨_,rfl⟩,q⟩
 ·obtain ⟨u,rfl,r1⟩:=xk r;cases r1;exact call_int_bool ⟨.int (if k then 1 else 0),H,I.tok _,⟨_,rfl⟩,q⟩
def zi5 (K:A0) (x:V) (H:Hp) (n:Nat):Prop :=
 match x with
 | .str y=>y.length<=sizeLine/\n=y.length
 | .byt y=>y.size<=sizeLine/\n=y.size
 | .ref p=>(∃ xs,SqL K H p xs/\n=xs.length)\/∃ xs,SqT K H p xs/\n=xs.length
 | _=>False
def zfA:CallR X (.builtin "len") (λ xs H Q=>∃ x n,xs=[x]/\zi5 X.K x H n/\Q (.int n) H):=by
 intro m5 s σ H xs us Q I r h;obtain ⟨x,n,rfl,e,q⟩:=h;obtain ⟨u,rfl,rx⟩:=xk r;have hl:=Zm;have hs:sizeLine=16777216:=fZ;cases x with
 | str y =>
  obtain ⟨t,rfl⟩:=rx;obtain ⟨hy,e'⟩:y.length<=sizeLine/\n=y.length:=e;subst e';exact len_str (by lia) ⟨.int _,H,I.tok _,⟨_,rfl⟩,q⟩
 | byt y =>
  obtain ⟨t,rfl⟩:=rx;obtain ⟨hy,e'⟩:y.size<=sizeLine/\n=y.size:=e;subst e';exact PySem.W.len_bytes (by lia) ⟨.int _,H,I.tok _,⟨_,rfl⟩,q⟩
 | ref p =>
  cases rx;have e':(∃ xs,SqL X.K H p xs/\n=xs.length)\/∃ xs,SqT X.K H p xs/\n=xs.length:=e;rcases e' with ⟨xs,hx,e'⟩|⟨xs,hx,e'⟩
  ·subst e';obtain ⟨ni,r',pl,hz⟩:=I.list hx;have hlen:=r'.length;exact Calls.call_len_list pl.isList (by simp only [av];lia) ⟨.int xs.length,H,I.tok _,⟨_,by simp only [av];rw [hlen]⟩,q⟩
  ·subst e';obtain ⟨ni,r',pl,hz⟩:=I.tuple hx;have hlen:=r'.length;exact len_tuple pl (by simp only [av];lia) ⟨.int xs.length,H,I.tok _,⟨_,by simp only [av];rw [hlen]⟩,q⟩
 | _=>exact (show False from e).elim
end
structure ObjM (h:Heap) (x dx C:Addr) (mA:A4):Prop where
 obj:h.get? x=some (instObj C dx)
 ns:h.Ns1 dx mA
 ne:dx≠x
def zdn {h:Heap} {dx:Addr} {mA:A4} (n:h.Ns1 dx mA):∃ od,h.get? dx=some od/\∀ name,lookIn name od=some (mA name):=by
 obtain ⟨o,es,ep,ho,hd,hk,_,hm⟩:=n;refine ⟨o,ho,λ name=>?_⟩;have e:=hm name;unfold nsFind findBy at e;rw [<- Array.find?_toList] at e;unfold lookIn;rw [hd];dsimp only
 split
 ·rename_i y q;rw [q] at e;exact bP some e
 ·rename_i q;rw [q] at e;have a:es.toList.any (·.refKey)=false:=by
   rw [List.any_eq_false];intro y hy;obtain ⟨z,t,hkey⟩:=hk y (Array.mem_toList_iff.mp hy);simp [DictEntry.refKey,hkey]
  have a':¬ es.toList.any (·.refKey)=true:=by rw [a];exact aC
  rw [aq a'];exact bP some e
def ObjM.look {h:Heap} {x dx C:Addr} {mA:A4} (I:ObjM h x dx C mA):∃ od,PySem.W.InstAt h x (instObj C dx) C (some od)/\∀ name,lookIn name od=some (mA name) :=
 let ⟨od,ho,hl⟩:=zdn I.ns
 ⟨od,⟨I.obj,rfl,rfl,ho⟩,hl⟩
section
variable {prog:Af} {w:World} {A:Ao} {E:A3} {s:An} {K:A0} {x dx C f:Addr} {mA:A4} {name:Str} {v:Am}
def zgv {expr:Bool} (X:K.In s.heap) (I:ObjM s.heap x dx C mA) (hg:plainGet K C name=true) (hh:hasDictIn K C=true)
  (ha:findIn K (.ref C) name=some none) (hv:mA name=some v) (hv':handedIn v=true) (h:Q v { s with toks:=s.toks + 1 }) :
  wpAny (model prog w) A (getAttr (.ref x) name expr) Q E s:=by
 obtain ⟨od,J,hl⟩:=I.look;exact PySem.W.get_value X J (plainGet_of hg).1 (PySem.W.findObj_own hh ha rfl (by rw [hl,hv])) hv' h
def zfj {pl:Sem Bool} {Q:Value × List Value->Shared->Prop} (X:K.In s.heap) (I:ObjM s.heap x dx C mA) (hg:plainGet K C name=true)
  (hf:findIn K (.ref C) name=some (some (.ref f))) (ht:isFn K (.ref f)=true) (hv:mA name=none) (h:Q (.ref f,[.ref x]) s) :
  wpAny (model prog w) A (getMethod (.ref x) name pl) Q E s:=by
 obtain ⟨od,J,hl⟩:=I.look;exact PySem.W.method_fn X J (plainGet_of hg).1 (plainGet_of hg).2 hf (bI.mp ht) (by show (lookIn name od).map (·.isSome)=some false;rw [hl,hv];rfl) h
def zfY {ns:A8} {Q:Ag} (X:K.In s.heap) (I:ObjM s.heap x dx C mA)
  (hs:findIn K (.ref C) "__setattr__"=some (some (.builtin "object.__setattr__"))) (hp:plainOver K C=true) (ht:takerIn K C name=some none) (hh:hasDictIn K C=true)
  (hw:PySem.Within mA ns) (hsz:ns.length<=sizeLine)
  (h:∀ h',ObjM h' x dx C (λ y=>if y=name then some v else mA y)->Heap.SameBut dx s.heap h'->Q () { s with heap:=h',toks:=s.toks + 2 }) :
  wpAny (model prog w) A (setAttr (.ref x) name v) Q E s:=by
 obtain ⟨od,J,hl⟩:=I.look;refine PySem.W.set_plain X J hs (PySem.W.osa_open (s:={ s with toks:=s.toks + 1 }) (r:=none) X J hp ht λ b=>?_);obtain ⟨cd,hc,hd'⟩:=any_some hh;have hx:s.heap.get? x=some ⟨.ref C,some dx,.plain,#[]⟩:=I.obj;refine af (ao (af (af (wpAny_loadPart hx (af (PySem.W.Looks.here (s:={ s with toks:=s.toks + 1 }) (PySem.W.looks_clsIn X hc) ?_))))));rw [hd'];refine ao (a:=some dx) (af (ao (af ?_)));refine wpAny_nsSet1 (s:={ s with toks:=s.toks + 1 }) I.ns λ h' hn2 hs2=>?_;obtain ⟨oD,esD,epD,hoD,hdD,hcD⟩:=hn2.count (PySem.Within.cons name v hw);refine af (wpAny_lookBehind hoD (by rw [hdD];exact pastItsLine_dict (bd hcD (by rw [bb];lia))) ?_);exact ao (h _ ⟨(hs2.2 _ (ba I.ne)).trans I.obj,hn2,I.ne⟩ hs2)
def zad {R:Result->Shared->Prop} {vs:A7} {kw:List (Str × Value)} (X:K.In s.heap) (hm:makesIn K C=true)
  (hi:findIn K (.ref C) "__init__"=some (some (.ref f))) (hf:PySem.W.typeIn K (.ref f)=some (.type "function"))
  (h:codeAny (model prog w) (A.under (.builtin "type.__call__" ⟨.ref C :: vs,kw⟩)) (.call (.ref f) ⟨.ref (s.heap.objs.size + 1) :: vs,kw⟩) (PySem.W.InitBack (s.heap.objs.size + 1) R)
   { s with heap:=(s.heap.push emptyDict).push (instObj C s.heap.objs.size) }) :
  codeAny (model prog w) A (.call (.ref C) ⟨vs,kw⟩) R s:=by
 obtain ⟨hh,g,d,t,os⟩:=s;exact PySem.W.make_core (PySem.W.makes_of X hm) (looks_findIn X hi) (λ self=>PySem.W.bind_fn X self hf) (.inl rfl) h
end
noncomputable def zL (f:Str) (v:V):List (Str × V)->List (Str × V)
 | []=>[(f,v)]
 | (g,x) :: r=>if g=f then (g,v) :: r else (g,x) :: zL f v r
theorem zB (f g:Str) (v:V):∀ fs:List (Str × V),(zL f v fs).lookup g=if g=f then some v else fs.lookup g
 | []=>by
  show List.lookup g [(f,v)]=_
  by_cases h:g=f
  ·have hb:(g == f)=true:=bI.mpr h;simp only [List.lookup,hb,ax h]
  ·have hb:(g == f)=false:=aX.mpr h;simp only [List.lookup,hb,aq h]
 | (k,x) :: r=>by
  have ih:=zB f g v r;rw [show zL f v ((k,x) :: r)=(if k=f then (k,v) :: r else (k,x) :: zL f v r) from rfl];by_cases hk:k=f
  ·rw [ax hk];by_cases h:g=k
   ·have hb:(g == k)=true:=bI.mpr h;simp only [List.lookup,hb,ax (h.trans hk)]
   ·have hb:(g == k)=false:=aX.mpr h;simp only [List.lookup,hb,aq (λ e:g=f=>h (e.trans hk.symm))]
  ·rw [aq hk];by_cases h:g=k
   ·have hb:(g == k)=true:=bI.mpr h;simp only [List.lookup,hb,aq (λ e:g=f=>hk (h.symm.trans e))]
   ·have hb:(g == k)=false:=aX.mpr h;simp only [List.lookup,hb];exact ih
theorem Qq (f:Str) (v:V):∀ fs:List (Str × V),f∈(zL f v fs).map (·.1)/\∀ g,g∈fs.map (·.1)->g∈(zL f v fs).map (·.1)
 | []=>⟨by simp [zL],λ g h=>by simp at h⟩
 | (k,x) :: r=>by
  obtain ⟨i1,i2⟩:=Qq f v r;rw [show zL f v ((k,x) :: r)=(if k=f then (k,v) :: r else (k,x) :: zL f v r) from rfl];by_cases hk:k=f
  ·rw [ax hk];subst hk;exact ⟨by simp,λ g h=>by simpa using h⟩
  ·rw [aq hk];refine ⟨?_,λ g h=>?_⟩
   ·rw [br];exact aA _ i1
   ·rw [br] at h ⊢;rcases az.mp h with e|e
    ·exact az.mpr (.inl e)
    ·exact aA _ (i2 g e)
theorem xO (f:Str) (v:V):∀ fs:List (Str × V),(zL f v fs).length<=fs.length + 1
 | []=>by simp [zL]
 | (k,x) :: r=>by
  have ih:=xO f v r;rw [show zL f v ((k,x) :: r)=(if k=f then (k,v) :: r else (k,x) :: zL f v r) from rfl];by_cases hk:k=f
  ·rw [ax hk,bb,bb];lia
  ·rw [aq hk,bb,bb];lia
def RelO.some_of {v:V} {o:Option Value} (r:RelO (some v) o):∃ u,o=some u/\RelV v u:=by
 cases o with
 | none=>exact (show False from r).elim
 | some u=>exact ⟨u,rfl,r⟩
def RelO.none_of {o:Option Value} (r:RelO none o):o=none:=by
 cases o with
 | none=>rfl
 | some u=>exact (show False from r).elim
def zdA {v:V} (r:RelV v u):handedIn u=true:=by
 cases v with
 | non=>cases (show u=Value.none from r);rfl
 | bl b=>cases (show u=Value.bool b from r);rfl
 | int i=>obtain ⟨t,e⟩:=(show ∃ t,u=Value.int i t from r);cases e;rfl
 | str x=>obtain ⟨t,e⟩:=(show ∃ t,u=Value.str x t from r);cases e;rfl
 | byt b=>obtain ⟨t,e⟩:=(show ∃ t,u=Value.bytes b t from r);cases e;rfl
 | flt b=>obtain ⟨t,e⟩:=(show ∃ t,u=Value.float b t from r);cases e;rfl
 | ref a=>cases (show u=Value.ref a from r);rfl
 | ty n=>cases (show u=Value.type n from r);rfl
section
variable {P:Af} {w:World} {H H':Hp} {h h':Heap} {a C dx:Addr} {fs fs':Ar}
def Jc (hok:HOk P w H h) (e:H a=some (.ins C dx fs)):∃ mA,ObjM h a dx C mA/\(∀ f,RelO (fs.lookup f) (mA f))/\PySem.Within mA (fs.map (·.1))/\fs.length<=1000/\H dx=some (.own a):=by
 obtain ⟨d,z,ne,ob,mA,n,r,q⟩:=(show ObjOk P w H h a (.ins C dx fs) from hok a _ e);exact ⟨mA,⟨ob,n,ne⟩,r,q,z,d⟩
end
structure Cls (K:A0) (C:Addr):Prop where
 pg:plainGet K C Str.empty=true
 hd:hasDictIn K C=true
 po:plainOver K C=true
 sa:findIn K (.ref C) "__setattr__"=some (some (.builtin "object.__setattr__"))
def Cls.get (c:Cls K C) (f:Str):plainGet K C f=true:=c.pg
def NoAttr (K:A0) (C:Addr) (f:Str):Prop:=findIn K (.ref C) f=some none
def NoAttr.taker {f:Str} (n:NoAttr K C f):takerIn K C f=some none:=by
 unfold takerIn;rw [show findIn K (.ref C) f=some none from n]
 rfl
structure Meth (K:A0) (C:Addr) (m:Str) (f:Addr):Prop where
 at_:findIn K (.ref C) m=some (some (.ref f))
 fn:isFn K (.ref f)=true
 kp:keepIn K (.ref f)=true
section
variable {X:Cx} {m5:A2} {σ:St} {H:Hp} {s:An} {a C dx:Addr} {fs:Ar} {f:Str} {v:V} {A:Ao} {E:A3}
def J5 {b:Bool} (I:Inv X m5 σ H s) (e:H a=some (.ins C dx fs)) (c:Cls X.K C) (n:NoAttr X.K C f) (l:fs.lookup f=some v)
  (h:∀ u s',Inv X m5 σ H s'->RelV v u->Q u s'):wpAny (model X.prog X.w) A (getAttr (.ref a) f b) Q E s:=by
 obtain ⟨mA,O,r,_,_,_⟩:=Jc I.hok e;obtain ⟨u,hu,ru⟩:=RelO.some_of (v:=v) (o:=mA f) (by rw [<- l];exact r f);exact zgv I.kIn O (c.get f) c.hd n hu (zdA ru) (h u _ (I.tok _) ru)
def wI {m:Str} {g:Addr} {pl:Sem Bool} {Q:Value × List Value->Shared->Prop} (I:Inv X m5 σ H s) (e:H a=some (.ins C dx fs)) (c:Cls X.K C) (k:Meth X.K C m g) (l:fs.lookup m=none)
  (h:Q (.ref g,[.ref a]) s):wpAny (model X.prog X.w) A (getMethod (.ref a) m pl) Q E s:=by
 obtain ⟨mA,O,r,_,_,_⟩:=Jc I.hok e;have hn:mA m=none:=RelO.none_of (by rw [<- l];exact r m);exact zfj I.kIn O (c.get m) k.at_ k.fn hn h
def Jo {y:V} {Q:Ag} (I:Inv X m5 σ H s) (e:H a=some (.ins C dx fs)) (c:Cls X.K C) (n:NoAttr X.K C f) (hl:fs.length < 1000) (ry:RelV y u)
  (h:∀ s',Inv X m5 σ (upd H a (.ins C dx (zL f y fs))) s'->Q () s'):wpAny (model X.prog X.w) A (setAttr (.ref a) f u) Q E s:=by
 obtain ⟨mA,O,r,wi,_,ho⟩:=Jc I.hok e;have hz:(fs.map (·.1)).length<=sizeLine:=by rw [ai,fZ];lia
 refine zfY I.kIn O c.sa c.po n.taker c.hd wi hz λ h' O' sb=>h _ ?_;have hd:∃ o,h'.get? dx=some o:=let ⟨o,_,_,e',_⟩:=O'.ns;⟨o,e'⟩
 refine I.write (x:=a) (e:=dx) (by rw [e];exact True.intro) (.inr ho) (λ b q hb z=>(sb.2 b hb).trans z) hd ?_;refine ⟨by rw [nF O.ne];exact ho,?_,O.ne,O'.obj,_,O'.ns,λ g=>?_,λ g hg=>?_⟩
 ·have:=xO f y fs;lia
 ·show RelO ((zL f y fs).lookup g) (if g=f then some u else mA g)
  rw [zB];by_cases q:g=f
  ·rw [ax q,ax q];exact ry
  ·rw [aq q,aq q];exact r g
 ·by_cases q:g=f
  ·rw [q];exact (Qq f y fs).1
  ·refine (Qq f y fs).2 g (wi g λ z=>hg ?_);show (if g=f then some u else mA g)=none
   rw [aq q];exact z
def Inv.made (I:Inv X m5 σ H s):Inv X m5 σ (upd (upd H s.heap.objs.size (.own (s.heap.objs.size + 1))) (s.heap.objs.size + 1) (.ins C s.heap.objs.size []))
  { s with heap:=(s.heap.push emptyDict).push (instObj C s.heap.objs.size) }:=by
 have e1:(s.heap.push emptyDict).get? s.heap.objs.size=some emptyDict:=ay s.heap rfl;have e2:((s.heap.push emptyDict).push (instObj C s.heap.objs.size)).get? (s.heap.objs.size + 1)=some (instObj C s.heap.objs.size):=by
  have:=ay (s.heap.push emptyDict) (o:=instObj C s.heap.objs.size) rfl
  rwa [bz] at this
 have e3:(s.heap.push emptyDict).Ns s.heap.objs.size (λ _=>none):=⟨emptyDict,#[],_,e1,rfl,(λ e he=>absurd he (by simp)),λ _=>rfl⟩;have I1:=I.laid (a:=s.heap.objs.size) (o:=.own (s.heap.objs.size + 1)) (h':=s.heap.push emptyDict) (t':=s.toks) (λ b u q=>ak _ q) (au _) ⟨_,e1⟩;refine I1.laid (a:=s.heap.objs.size + 1) (o:=.ins C s.heap.objs.size []) (t':=s.toks) (λ b u q=>ak _ q) (Nat.le_of_eq (bz _ _)) ?_;have ne:s.heap.objs.size≠s.heap.objs.size + 1:=aF (ci _);refine ⟨by rw [nF ne,nE],b7 _,ne,e2,λ _=>none,(Heap.Ns1.of_empty e3).at λ o q=>ak _ q,λ _=>True.intro,λ y hy=>absurd rfl hy⟩
def zgL {prog:Af} {env:Env} {e:Expr} {f:Str} {s:An} (hb:attributeBase e f env (eval e env)=eval e env)
  (h:wpAny (model prog w) A (eval e env) (λ o s₁=>wpAny (model prog w) A (getAttr o f true) Q E s₁) E s):wpAny (model prog w) A (eval (.Attribute e f pos) env) Q E s :=
 Attribute_any_ h (by rw [arm_eval_Attribute,hb])
end
def tFld (K:A0) (ta:TE) (f:Str):TE:=λ σ H Q=>ta σ H λ x H1=>∃ a C dx fs v,x=.ref a/\H1 a=some (.ins C dx fs)/\Cls K C/\NoAttr K C f/\fs.lookup f=some v/\Q v H1
def sFld (K:A0) (ta tv:TE) (f:Str):TS:=λ D σ H=>tv σ H λ y H1=>ta σ H1 λ x H2=>∃ a C dx fs,x=.ref a/\H2 a=some (.ins C dx fs)/\Cls K C/\NoAttr K C f/\fs.length < 1000 /\
 D.nx σ (upd H2 a (.ins C dx (zL f y fs)))
def zi6 (X:Cx) (op:Operator) (rd:V->V->Hp->VK->Prop):Prop :=
 ∀ (m5:A2) (s:An) (σ:St) (H:Hp) (x y:V) (u v:Am) (Q:VK),Inv X m5 σ H s->RelV x u->RelV y v->rd x y H Q->wpAny (model X.prog X.w) X.A (inplaceOp op u v) (EP X m5 σ Q) X.xe s
def zf0 (K:A0) (ta tv:TE) (rd:V->V->Hp->VK->Prop) (f:Str):TS:=λ D σ H=>ta σ H λ x H1=>∃ a C dx fs v,x=.ref a/\H1 a=some (.ins C dx fs)/\Cls K C/\NoAttr K C f/\fs.lookup f=some v /\
 tv σ H1 λ y H2=>rd v y H2 λ z H3=>∃ dx' fs',H3 a=some (.ins C dx' fs')/\fs'.length < 1000/\D.nx σ (upd H3 a (.ins C dx' (zL f z fs')))
section
variable {X:Cx} {o e value:Expr} {f:Str} {pos pos' tpos:Pos} {ta tv:TE}
def zi (he:PE X e ta) (hb:attributeBase e f X.env (eval e X.env)=eval e X.env):PE X (.Attribute e f pos) (tFld X.K ta f):=by
 intro m5 s σ H Q I h;refine zgL hb (qy (he m5 s σ H _ I h) λ u s1 x H1 I1 rx qq_=>?_);obtain ⟨a,C,dx,fs,v,ex,ea,c,n,l,q⟩:=qq_;subst ex;obtain rfl:u=Value.ref a:=rx;exact J5 I1 ea c n l λ u' s2 I2 ru=>⟨v,H1,I2,ru,q⟩
def qT (ha:PE X o ta) (hv:PE X value tv) (hs:swapsWith value (some (.Attribute o f pos')) pos.line X.env=pure false):PS X (.Assign [.Attribute o f pos'] value pos) (sFld X.K ta tv f):=by
 intro m5 s σ H D I h;refine plainObj_wpAny_Assign_Attribute (qy (hv m5 s σ H _ I h) λ u s1 y H1 I1 ry q=>qy (ha m5 s1 σ H1 _ I1 q) λ ov s2 x H2 I2 rx qq_=>?_) hs;obtain ⟨a,C,dx,fs,ex,ea,c,n,l,q2⟩:=qq_;subst ex;obtain rfl:ov=Value.ref a:=rx;exact Jo I2 ea c n l ry λ s3 I3=>⟨σ,_,I3,q2⟩
def zda {op:Operator} {rd:V->V->Hp->VK->Prop} (ha:PE X o ta) (hv:PE X value tv) (hop:zi6 X op rd):PS X (.AugAssign (.Attribute o f tpos) op value pos) (zf0 X.K ta tv rd f):=by
 intro m5 s σ H D I h;refine wpAny_AugAssign_AttributeAny (qy (ha m5 s σ H _ I h) λ ov s1 x H1 I1 rx qq_=>?_);obtain ⟨a,C,dx,fs,v,ex,ea,c,n,l,q⟩:=qq_;subst ex;obtain rfl:ov=Value.ref a:=rx;refine J5 I1 ea c n l λ u s2 I2 ru=>qy (hv m5 s2 σ H1 _ I2 q) λ w3 s3 y H2 I3 ry q3=>thn (hop m5 s3 σ H2 v y u w3 _ I3 ru ry q3) λ w4 s4 ⟨z,H3,I4,rz,dx',fs',ea',l',q4⟩=>?_;exact Jo I4 ea' c n l' rz λ s5 I5=>⟨σ,_,I5,q4⟩
def zjf:V->V->Hp->VK->Prop:=λ x y H Q=>∃ i j,x=.int i/\y=.int j/\Q (.int (i + j)) H
def zhW:zi6 X .Add zjf:=by
 rintro m5 s σ H x y u v Q I rx ry ⟨i,j,rfl,rfl,q⟩;obtain ⟨t,rfl⟩:=(show ∃ t,u=Value.int i t from rx);obtain ⟨t',rfl⟩:=(show ∃ t',v=Value.int j t' from ry);exact PyProof.Rows.iadd_int ⟨.int (i + j),H,I.tok _,⟨_,rfl⟩,q⟩
end
section
variable {X:Cx} {m5:A2} {σ:St} {H:Hp} {s:An} {A:Ao} {E:A3} {Q:A3} {c:Am} {b:Bool}
inductive TyOf (K:A0) (H:Hp):V->Value->Prop where
 | non:TyOf K H .non (.type "NoneType")
 | bl (x:Bool):TyOf K H (.bl x) (.type "bool")
 | int (i:Int):TyOf K H (.int i) (.type "int")
 | str (x:Str):TyOf K H (.str x) (.type "str")
 | flt (x:UInt64):TyOf K H (.flt x) (.type "float")
 | lst {a:Addr} {xs:Ap} (e:H a=some (.lst xs)):TyOf K H (.ref a) (.type "list")
 | frz {a:Addr} {o:Obj} {xs:Ap} (e:H a=some (.frz o (.lst xs))):TyOf K H (.ref a) (.type "list")
 | tup {a:Addr} {xs:Ap} (e:H a=some (.tup xs)):TyOf K H (.ref a) (.type "tuple")
 | dK {a:Addr} {n9:List (Key × V)} (e:H a=some (.dK n9)):TyOf K H (.ref a) (.type "dict")
 | dT {a:Addr} {n9:As} (e:H a=some (.dT n9)):TyOf K H (.ref a) (.type "dict")
 | ins {a C dx:Addr} {fs:Ar} (e:H a=some (.ins C dx fs)) (cl:Cls K C) (ha:findIn K (.ref C) "__class__"=some (some (.builtin "object.__class__")))
   (hn:specialIn K (.builtin "object.__class__") "__get__"=some (some (.builtin "getset_descriptor.__get__"))) (htk:takesIn K (.builtin "object.__class__")=some true)
   (hm:mroIn K C (.type "object")=some true):TyOf K H (.ref a) (.ref C)
end
structure Room (k:Nat) (A:Ao):Prop where
 hd:A.handled=none
 dp:A.depth + 3 * k + 5 < recursionLimit
 un:A.units + 16 * k + 200 < cLine
def Room.mono {j k:Nat} (r:Room k A) (h:j<=k):Room j A:=⟨r.hd,by have:=r.dp;lia,by have:=r.un;lia⟩
def Room.deeper (r:Room (k + 1) A) (env:Env):Room k (A.deeper env) :=
 ⟨r.hd,by have:=r.dp;show A.depth + 1 + 3 * k + 5 < _;lia,by have:=r.un;show A.units + 3 + 16 * k + 200 < _;lia⟩
def Room.in1 (r:Room (k + 1) A):Room k A.in1 :=
 ⟨r.hd,by have:=r.dp;show A.depth + 3 * k + 5 < _;lia,by have:=r.un;show A.units + 1 + 16 * k + 200 < _;lia⟩
def zbx {kw:List (Str × Value)}:(A.under (.builtin "type.__call__" ⟨.ref C :: us,kw⟩)).depth=A.depth + 1:=by
 first|rfl|simp [Around.under,Code.weight,Code.isCreation,Code.isGuard,Code.isCaller,Code.frames,Code.isFrame,guardIds]
def zbw {kw:List (Str × Value)}:(A.under (.builtin "type.__call__" ⟨.ref C :: us,kw⟩)).units=A.units + 1:=by
 first|rfl|simp [Around.under,Code.cUnits,Code.frames,Code.isFrame]
def Room.make (r:Room (k + 1) A) (C:Addr) (us:A7) (kw:List (Str × Value)):Room k (A.under (.builtin "type.__call__" ⟨.ref C :: us,kw⟩)) :=
 ⟨r.hd,by have:=r.dp;rw [zbx];lia,by have:=r.un;rw [zbw];lia⟩
def Room.depth (r:Room k A):A.depth < recursionLimit:=by have:=r.dp;lia
def Room.units (r:Room k A):A.units + 64 < cLine:=by have:=r.un;lia
def tNil:TA:=λ _ H Q=>Q [] H
def tCons (ta:TE) (tr:TA):TA:=λ σ H Q=>ta σ H λ x H1=>tr σ H1 λ xs H2=>Q (x :: xs) H2
section
variable {X:Cx} {e:Expr} {es:List Expr} {te:TE} {t:TA} {pos:Pos}
def zb:PA X [] tNil:=λ _ _ _ _ H Q I h=>Calls.spliced_nil ⟨[],H,I,.nil,h⟩
def za (ha:PE X e te) (hr:PA X es t) (hs:starEach (e :: es) X.env=(false,eval e X.env) :: starEach es X.env:=by rfl):PA X (e :: es) (tCons te t):=by
 intro pos m5 s σ H Q I h;rw [hs];show wpAny _ _ (spliced ((false,eval e X.env) :: backTo pos (starEach es X.env))) _ _ s
 refine Calls.spliced_cons (qy (ha m5 s σ H _ I h) λ u s1 x H1 I1 r1 q1=>?_);exact wW (hr pos m5 s1 σ H1 _ I1 q1) λ us s2 xs H2 I2 r2 q2=>⟨x :: xs,H2,I2,.cons r1 r2,q2⟩
def tTup (t:TA):TE:=λ σ H Q=>t σ H λ xs H1=>szl xs (∀ p,H1 p=none->Q (.ref p) (upd H1 p (.tup xs)))
def tLst (t:TA):TE:=λ σ H Q=>t σ H λ xs H1=>szl xs (∀ p,H1 p=none->Q (.ref p) (upd H1 p (.lst xs)))
def jm {x1} (h:PA X es t):PE X (.Tuple es x1 pos) (tTup t):=by
 intro m5 s σ H Q I hq;refine wpAny_Tuple_spliced (wW (h pos m5 s σ H _ I hq) λ us s1 xs H1 I1 r q=>let ⟨z,q⟩:=zaV q;⟨by rw [<- r.length];exact z,?_⟩);have hf:H1 s1.heap.objs.size=none:=I1.hok.fresh (au _);refine ⟨.ref s1.heap.objs.size,upd H1 s1.heap.objs.size (.tup xs),I1.laid (t':=s1.toks) (λ b u e=>ak _ e) (au _) ?_,rfl,q _ hf⟩;exact ⟨z,us,r,⟨_,ay _ rfl,rfl,_,rfl⟩⟩
def qe (h:PA X es t):PE X (.List es pos) (tLst t):=by
 intro m5 s σ H Q I hq;refine wpAny_List_spliced (wW (h pos m5 s σ H _ I hq) λ us s1 xs H1 I1 r q=>let ⟨z,q⟩:=zaV q;⟨by rw [<- r.length];exact z,?_⟩);have hf:H1 s1.heap.objs.size=none:=I1.hok.fresh (au _);refine ⟨.ref s1.heap.objs.size,upd H1 s1.heap.objs.size (.lst xs),I1.laid (t':=s1.toks) (λ b u e=>ak _ e) (au _) ?_,rfl,q _ hf⟩;exact ⟨z,us,0,r,ay _ rfl⟩
end
abbrev Sp:=List V->Hp->VK->XK->Prop
abbrev CXT:=List Env->Hp->Shared->XK->Value->Shared->Prop
variable {CX:CXT}
structure Env0 (P:Af) (w:World) (K:A0) (mg:A4) (base:Heap) (A:Ao) (outer:List Env) (s:An) (H:Hp):Prop where
 frames:A.frames=some outer
 mod:Mod K mg base
 bs:∀ b o,base.get? b=some o->s.heap.get? b=some o/\H b=none
 bsz:base.objs.size<=s.heap.objs.size
 funs:s.heap.FunFrames base outer
 frf:∀ b∈frs outer,H b=none
 hok:HOk P w H s.heap
 bare:AllBare s.gens
def CE (outer:List Env) (P:Af) (w:World) (H:Hp) (s:An) (Q:VK) (u:Am) (s':An):Prop :=
 ∃ v H',s'.os=s.os/\AllBare s'.gens/\Un (frs outer) [] H H' s.heap s'.heap/\HOk P w H' s'.heap/\RelV v u/\Q v H'
def CR (CX:CXT) (outer:List Env) (P:Af) (w:World) (H:Hp) (s:An) (Q:VK) (E:XK) (r:Result) (s':An):Prop :=
 match r with
 | .ok (.ret u)=>CE outer P w H s Q u s'
 | .ok _=>False
 | .error e=>CX outer H s E e s'
structure FnOk (P:Af) (w:World) (K:A0) (mg:A4) (base:Heap) (CX:CXT) (k:Nat) (f:Addr) (fd:FuncData) (ps:A8) (sp:Sp):Prop where
 len:∀ vs H Q E,sp vs H Q E->vs.length=ps.length
 run:∀ (A:Ao) (outer:List Env) (s:An) (H:Hp) (args:Args) (us:A7) (vs:Ap) (Q:VK) (E:XK),Room k A->Env0 P w K mg base A outer s H->BindsTo s fd args (ps.zip us)->Vals vs us->sp vs H Q E ->
  codeAny (model P w) A (.call (.ref f) args) (CR CX outer P w H s Q E) s
def FnOk.mono {j k:Nat} {f:Addr} {ps:A8} {sp:Sp} (F:FnOk P w K mg base CX j f fd ps sp) (h:j<=k) :
  FnOk P w K mg base CX k f fd ps sp:=⟨F.len,λ A outer s H args us vs Q E hr=>F.run A outer s H args us vs Q E (hr.mono h)⟩
def FnOk.imp {f:Addr} {ps:A8} {sp sp':Sp} (F:FnOk P w K mg base CX k f fd ps sp)
  (h:∀ vs H Q E,sp' vs H Q E->sp vs H Q E):FnOk P w K mg base CX k f fd ps sp' :=
 ⟨λ vs H Q E q=>F.len vs H Q E (h _ _ _ _ q),λ A outer s H args us vs Q E hr he hb hv hs=>F.run A outer s H args us vs Q E hr he hb hv (h _ _ _ _ hs)⟩
def Env0.make {outer:List Env} (e:Env0 P w K mg base A outer s H) (C:Addr) (us:A7) (kw:List (Str × Value)) :
  Env0 P w K mg base (A.under (.builtin "type.__call__" ⟨.ref C :: us,kw⟩)) outer s H:=⟨by first|exact e.frames|(simpa [Around.under,Code.envs,Code.isFrame,pushEnvs] using e.frames),e.mod,e.bs,e.bsz,e.funs,e.frf,e.hok,e.bare⟩
def Env0.in1 {outer:List Env} (e:Env0 P w K mg base A outer s H) :
  Env0 P w K mg base A.in1 outer s H:=⟨e.frames,e.mod,e.bs,e.bsz,e.funs,e.frf,e.hok,e.bare⟩
section
variable {X:Cx} {m5:A2} {σ:St} {H:Hp} {s s':An}
def Inv.env0 (I:Inv X m5 σ H s):Env0 X.prog X.w X.K X.mg X.base X.A X.stack s H :=
 ⟨I.ok.frames,I.ok.mod,I.bs,bd I.ok.bsz I.sz,I.stack,I.stkFree,I.hok,I.bare⟩
def Inv.after {Q:VK} (I:Inv X m5 σ H s) (h:CE X.stack X.prog X.w H s Q u s'):EP X m5 σ Q u s':=by
 obtain ⟨v,H',os,bare,un,hok,r,q⟩:=h;obtain ⟨hh,g,d,t,os'⟩:=s';obtain rfl:os'=s.os:=os;exact ⟨v,H',I.call (h':=hh) (g':=g) (d':=d) (t':=t) (ch:=[]) un hok bare (λ b z=>absurd z (by simp)),r,q⟩
end
def Binds (K:A0) (fd:FuncData) (ps:A8) (ds:A7):Prop :=
 ∀ (s:An) (us:A7),K.In s.heap->(us ++ ds).length=ps.length->BindsTo s fd ⟨us,[]⟩ (ps.zip (us ++ ds))
def Binds.all {ps:A8} (h:∀ us:List Value,us.length=ps.length->bindArgs fd ⟨us,[]⟩=pure (ps.zip us)):Binds K fd ps []:=λ s us _ hl=>by
 rw [cZ] at hl ⊢;exact .of_eq (h us hl)
def zbW (CX:CXT) (X:Cx) (E:XK):Prop:=∀ (m5:A2) (σ:St) (H:Hp) (s:An) (e:Am) (s':An),Inv X m5 σ H s->CX X.stack H s E e s'->X.xe e s'
section
variable {X:Cx} {CX:CXT} {k:Nat} {f C:Addr} {fd:FuncData} {ps:A8} {sp:Sp} {dvs:Ap} {ds:A7} {E:XK} {x m:Str} {p pos apos:Pos} {e o:Expr} {es:List Expr} {ta:TE} {t:TA}
theorem zba {Q:VK} {vs:Ap} (F:FnOk X.prog X.w X.K X.mg X.base CX k f fd ps sp) (hr:Room k X.A) (hb:Binds X.K fd ps ds) (hd:Vals dvs ds) (hx:zbW CX X E)
  (I:Inv X m5 σ H s) (r:Vals vs us) (h:sp (vs ++ dvs) H Q E):wpAny (model X.prog X.w) X.A (call (.ref f) us) (EP X m5 σ Q) X.xe s:=by
 have r2:Vals (vs ++ dvs) (us ++ ds):=r.append hd;have hl:(us ++ ds).length=ps.length:=by rw [<- r2.length];exact F.len _ _ _ _ h
 refine fE (cU (F.run X.A X.stack s H ⟨us,[]⟩ (us ++ ds) (vs ++ dvs) Q E hr I.env0 (hb s us I.kIn hl) r2 h) λ r s' hq=>?_);cases r with
 | error e=>exact hx m5 σ H s e s' I hq
 | ok fl =>
  cases fl with
  | ret u=>exact I.after hq
  | next=>exact False.elim hq
  | brk=>exact False.elim hq
  | cont=>exact False.elim hq
structure Mk (K:A0) (C f:Addr):Prop where
 makes:makesIn K C=true
 init:findIn K (.ref C) "__init__"=some (some (.ref f))
 fn:isFn K (.ref f)=true
 kp:keepIn K (.ref C)=true
theorem zem {Q:VK} {vs:Ap} (M:Mk X.K C f) (F:FnOk X.prog X.w X.K X.mg X.base CX k f fd ps sp) (hr:Room (k + 1) X.A) (hb:Binds X.K fd ps ds) (hd:Vals dvs ds)
  (hx:zbW CX X E) (I:Inv X m5 σ H s) (r:Vals vs us)
  (h:∀ x dx,H x=none->H dx=none->dx≠x->sp (.ref x :: (vs ++ dvs)) (upd (upd H dx (.own x)) x (.ins C dx [])) (λ v H2=>v=.non/\Q (.ref x) H2) E) :
  wpAny (model X.prog X.w) X.A (call (.ref C) us) (EP X m5 σ Q) X.xe s:=by
 have hq:=h (s.heap.objs.size + 1) s.heap.objs.size (I.hok.fresh (di _)) (I.hok.fresh (au _)) (aF (ci _));have I2:=Inv.made (C:=C) I;have r2:Vals (V.ref (s.heap.objs.size + 1) :: (vs ++ dvs)) (Value.ref (s.heap.objs.size + 1) :: (us ++ ds)):=.cons rfl (r.append hd);have hl:(Value.ref (s.heap.objs.size + 1) :: us ++ ds).length=ps.length:=by
  have e:=r2.length;rw [F.len _ _ _ _ hq] at e;exact e.symm
 refine fE (zad (f:=f) I.kIn M.makes M.init (bI.mp M.fn) (cU (F.run _ X.stack _ _ ⟨Value.ref (s.heap.objs.size + 1) :: us,[]⟩ (Value.ref (s.heap.objs.size + 1) :: (us ++ ds)) _ _ E (hr.make C us [])
  (I2.env0.make C us []) (hb _ (Value.ref (s.heap.objs.size + 1) :: us) I2.kIn hl) r2 hq) λ r s' hq'=>?_))
 cases r with
 | error e=>exact hx m5 σ _ _ e s' I2 hq'
 | ok fl =>
  cases fl with
  | ret u =>
   obtain ⟨v,H',I3,rv,ev,q3⟩:=I2.after hq';subst ev;exact ⟨rv,⟨V.ref (s.heap.objs.size + 1),H',I3,rfl,q3⟩⟩
  | next=>exact False.elim hq'
  | brk=>exact False.elim hq'
  | cont=>exact False.elim hq'
end
def PK (X:Cx) (kws:List Keyword) (t:TA):Prop :=
 ∀ (pos:Pos) (m5:A2) (s:An) (σ:St) (H:Hp) (Q:List V->Hp->Prop),Inv X m5 σ H s->t σ H Q->wpAny (model X.prog X.w) X.A (evalAll ((backToKw pos (keywordEach kws X.env)).map (·.2))) (AP X m5 σ Q) X.xe s
section
variable {X:Cx} {CX:CXT} {k:Nat} {f C:Addr} {fd:FuncData} {ps ks:A8} {sp:Sp} {E:XK} {x m:Str} {p pos apos kpos:Pos} {e o:Expr} {es:List Expr} {kws:List Keyword} {te ta:TE} {t tk:TA} {nm:Option Str}
variable {g:List Value->List Value->List Value} {gV:List V->List V->List V}
end
structure FnScope (N P:A8) (sc:Scope):Prop where
 kind:sc.kind=.function
 co:sc.isCoroutine=false
 gen:sc.isGenerator=false
 nd:N.Nodup
 pre:N.take P.length=P
 par:∀ x∈P,sc.names.lookup x=some .local\/sc.names.lookup x=some .cell
 nofree:∀ y∈sc.names,y.2≠.free
theorem Wa {kindOf:Str->Option NameKind} {x:Str}:∀ {binds:List (Str × Value)} {m:A4},(∀ v,(x,v) ∉ binds)->bindL kindOf binds m x=m x
 | [],_,_=>rfl
 | (n,v) :: r,m,h=>by
  unfold bindL;rw [Wa λ w hw=>h w (aA _ hw)]
  split
  ·have:x≠n:=by rintro rfl;exact h v bh
   simp [this]
  ·rfl
theorem Wc {kindOf:Str->Option NameKind} {x:Str}:∀ {binds:List (Str × Value)} {m:A4},(∀ v,(x,v) ∉ binds)->bindC kindOf binds m x=m x
 | [],_,_=>rfl
 | (n,v) :: r,m,h=>by
  unfold bindC;rw [Wc λ w hw=>h w (aA _ hw)]
  split
  ·rfl
  ·have:x≠n:=by rintro rfl;exact h v bh
   simp [this]
theorem Wb {kindOf:Str->Option NameKind} {x:Str} {v:Am}:∀ {P:A8} {vs:A7} {i:Nat} {m:A4},P.Nodup->P[i]?=some x->vs[i]?=some v->kindOf x=some .local ->
  bindL kindOf (P.zip vs) m x=some v
 | [],_,_,_,_,h,_,_=>by simp at h
 | _ :: _,[],_,_,_,_,h,_=>by simp at h
 | p :: P,w :: vs,0,m,nd,h1,h2,hk=>by
  simp at h1 h2;subst h1;subst h2;show bindL kindOf ((p,w) :: P.zip vs) m p=_
  unfold bindL;rw [Wa λ v hv=>(cR.mp nd).1 (of_mem_zip hv).1,ax hk];simp
 | p :: P,w :: vs,i + 1,m,nd,h1,h2,hk=>by
  show bindL kindOf ((p,w) :: P.zip vs) m x=_
  unfold bindL;exact Wb (i:=i) (cR.mp nd).2 (by simpa using h1) (by simpa using h2) hk
theorem We {kindOf:Str->Option NameKind} {x:Str} {v:Am}:∀ {P:A8} {vs:A7} {i:Nat} {m:A4},P.Nodup->P[i]?=some x->vs[i]?=some v->kindOf x≠some .local ->
  bindC kindOf (P.zip vs) m x=some v
 | [],_,_,_,_,h,_,_=>by simp at h
 | _ :: _,[],_,_,_,_,h,_=>by simp at h
 | p :: P,w :: vs,0,m,nd,h1,h2,hk=>by
  simp at h1 h2;subst h1;subst h2;show bindC kindOf ((p,w) :: P.zip vs) m p=_
  unfold bindC;rw [Wc λ v hv=>(cR.mp nd).1 (of_mem_zip hv).1,aq hk];simp
 | p :: P,w :: vs,i + 1,m,nd,h1,h2,hk=>by
  show bindC kindOf ((p,w) :: P.zip vs) m x=_
  unfold bindC;exact We (i:=i) (cR.mp nd).2 (by simpa using h1) (by simpa using h2) hk
noncomputable def start (N:A8) (vs:Ap):St:=vs.map some ++ List.replicate (N.length - vs.length) none
noncomputable def QX (CX:CXT) (P:Af) (w:World) (K:A0) (mg:A4) (base:Heap) (N:A8) (qual:Str) (scope:Scope) (f:Addr) (cd:Am) (A:Ao) (outer:List Env) (s:An) (H:Hp) (E:XK):Cx where
 prog:=P
 w:=w
 K:=K
 mg:=mg
 base:=base
 A:=A.deeper (envOfC qual scope s.heap.objs.size f cd)
 N:=N
 s₀:=s
 H₀:=H
 env:=envOfC qual scope s.heap.objs.size f cd
 outer:=outer
 stack:=envOfC qual scope s.heap.objs.size f cd :: outer
 ex:=[]
 calm:=true
 fn:=λ _=>true
 pn:=[]
 xe:=λ e s'=>wpAny (model P w) (A.deeper (envOfC qual scope s.heap.objs.size f cd)) (leaving (envOfC qual scope s.heap.objs.size f cd) e) (λ _ s''=>CX outer H s E e s'') (λ e' s''=>CX outer H s E e' s'') s'
def zaz {sc:Scope} {n:Nat} (h:sc.names.lookup x=some .cell):∃ c,(cellsFrom n sc.names []).lookup x=some c:=by
 have q:=gd sc.names n [] (.inl h);exact fW.mp q
theorem zdv {N ps:A8} {qual:Str} {scope:Scope} {f:Addr} {cd:Am} {outer:List Env} {s s1:An} {E:XK} {vs:Ap}
  (S:FnScope N ps scope) (hd:A.handled=none) (e0:Env0 P w K mg base A outer s H) (hl:vs.length=ps.length) (r:Vals vs us)
  (x:InCallC s s.heap.objs.size (bindL (envOfC qual scope s.heap.objs.size f cd).kindOf (ps.zip us) λ _=>none) (cellsFrom (s.heap.objs.size + 1) scope.names []) (bindC (envOfC qual scope s.heap.objs.size f cd).kindOf (ps.zip us) λ _=>none) s1) :
  Inv (QX CX P w K mg base N qual scope f cd A outer s H E) [] (start N vs) H s1:=by
 have hpl:ps.length<=N.length:=by have:=bP List.length S.pre;rw [aP] at this;lia
 obtain ⟨h1,tk,rfl,hk⟩:=x.done;have noA:∀ b:Addr,b ∉ (QX CX P w K mg base N qual scope f cd A outer s H E).ex:=λ b z=>absurd (show b∈([]:Ab) from z) (by simp);refine ⟨⟨e0.mod,S.kind,rfl,rfl,au _,λ y z c h1 h2=>?_,λ y hy=>?_,λ y c _ h=>?_,λ _=>hd,Around.frames_deeper e0.frames,.inr ⟨rfl,rfl⟩,λ b z=>absurd z (noA b),e0.bs,e0.bsz,λ b _ _=>noA b,λ b z=>absurd z (noA b),e0.funs,e0.frf⟩,
  rfl,e0.bare,Un.kept hk,⟨_,x.toInCall.ns,λ i y v h1 h2 h3=>?_⟩,λ y c h=>⟨_,x.cell y c h⟩,e0.hok.fresh (au _),λ y c h=>?_,λ p hp=>absurd (show p∈([]:A2) from hp) (by simp),e0.hok.kept hk,?_⟩
 ·exact name_of_addr x.apart (bQ h1) (bQ h2)
 ·have hy:scope.names.lookup y=some .cell\/scope.names.lookup y=some .free:=hy;rcases hy with hy|hy
  ·exact zaz hy
  ·exact absurd rfl (S.nofree _ (bQ hy))
 ·exact bw (x.above y c (bQ h))
 ·have hi:i < vs.length:=by
   unfold start at h2;by_cases hi:i < vs.length
   ·exact hi
   ·rw [aQ (by simpa using hi)] at h2;rw [dU] at h2
    split at h2 <;> cases h2
  have ha:vs[i]?=some v:=by
   unfold start at h2;rw [aT (by simpa using hi),am] at h2;cases e:vs[i]? with
   | none=>rw [e] at h2;cases h2
   | some a=>rw [e] at h2;cases h2;rfl
  obtain ⟨u,hu,rv⟩:=r.get ha;have hp:ps[i]?=some y:=by
   rw [<- S.pre,List.getElem?_take_of_lt (by lia)];exact h1
  have ndP:ps.Nodup:=by rw [<- S.pre];exact S.nd.sublist (List.take_sublist _ _)
  refine ⟨u,rv,?_⟩;rcases S.par y (aj hp) with k|k
  ·exact .inl ⟨k,Wb ndP hp hu k⟩
  ·obtain ⟨c,e⟩:=zaz (n:=s.heap.objs.size + 1) k;refine .inr ⟨.inl k,c,e,?_⟩;have q:=x.cell y c e;rw [We ndP hp hu (by show scope.names.lookup y≠_;rw [k];decide)] at q;exact q
 ·exact e0.hok.fresh (bw (x.above y c (bQ h)))
 ·unfold start;show _=N.length
  rw [aD,ai,a8]
  lia
theorem zfm {f:Addr} {name qual:Str} {params:Arguments} {body:List Stmt} {scope:Scope} {dV kV doc pm cdv ct oc:Am} {an od:Aa}
  {osl:Ae} {N ps:A8} {sp:Sp} (lk:K.lookup f=some ⟨oc,od,.func (fnOf name qual params body scope dV kV doc pm an cdv ct),osl⟩) (hcd:codeIn K cdv qual=true) (S:FnScope N ps scope)
  (len:∀ vs H Q E,sp vs H Q E->vs.length=ps.length)
  (hbody:∀ (A:Ao) (outer:List Env) (s:An) (H:Hp) (vs:Ap) (Q:VK) (E:XK),Room k (A.deeper (envOfC qual scope s.heap.objs.size f cdv))->sp vs H Q E ->
   ∃ t,PSs (QX CX P w K mg base N qual scope f cdv A outer s H E) body t/\t { nx:=λ _ H'=>Q .non H',rt:=Q } (start N vs) H) :
  FnOk P w K mg base CX (k + 1) f (fnOf name qual params body scope dV kV doc pm an cdv ct) ps sp:=by
 refine ⟨len,λ A outer s H args us vs Q E hr e0 hb r hsp=>?_⟩;have hl:=len _ _ _ _ hsp;have KX:K.In s.heap:=e0.mod.kin.keeps λ b o e=>(e0.bs b o e).1;have lim:s.heap.NoLimit:=e0.mod.nolimit.keeps λ b o e=>(e0.bs b o e).1;have hkind:∀ y∈ps.zip us,scope.names.lookup y.1=some .local\/(scope.names.lookup y.1=some .cell/\((cellsFrom (s.heap.objs.size + 1) scope.names []).lookup y.1).isSome=true):=λ ⟨n,v⟩ hy=>by
  rcases S.par n (of_mem_zip hy).1 with q|q
  ·exact .inl q
  ·exact .inr ⟨q,gd _ _ _ (.inl q)⟩
 refine codeAny_call_function hr.depth (KX _ _ lk) rfl S.co S.gen rfl (PySem.W.codeRec_of KX hcd) (hb _ _ _ _ ?_);refine wpAny_newFunctionEnv_cells S.kind hkind λ env he s1 x=>?_;subst he;refine ⟨lim.keeps x.toInCall.keep,codeAny_func ?_⟩;obtain ⟨t,ht,hq⟩:=hbody A outer s H vs Q E (hr.deeper _) hsp;have I:Inv (QX CX P w K mg base N qual scope f cdv A outer s H E) [] (start N vs) H s1:=zdv S hr.hd e0 hl r x;refine bg (ht [] s1 (start N vs) H _ I hq) (λ fl s' hs=>?_) λ e s' hs=>hs;have fin:∀ {σ':St} {H':Hp} {v:V} {u:Am},Inv (QX CX P w K mg base N qual scope f cdv A outer s H E) [] σ' H' s'->RelV v u->Q v H'->CE outer P w H s Q u s' :=
  λ {σ' H' v u} J rv q=>⟨v,H',J.os,J.bare,J.base,J.hok,rv,q⟩
 cases fl with
 | ret u =>
  obtain ⟨v,σ',H',J,rv,q⟩:=hs;exact fin J rv q
 | next =>
  obtain ⟨σ',H',J,q⟩:=hs;exact fin (v:=V.non) (u:=Value.none) J rfl q
 | brk =>
  obtain ⟨_,_,_,q⟩:=hs;exact False.elim q
 | cont =>
  obtain ⟨_,_,_,q⟩:=hs;exact False.elim q
section
variable {X:Cx} {x:Str} {p pos:Pos} {e:Expr} {es:List Expr} {t:TA} {id T:String} {r:List V->Hp->VK->Prop}
def tCB (r:List V->Hp->VK->Prop) (t:TA):TE:=λ σ H Q=>t σ H λ vs H1=>r vs H1 Q
def zeD (hc:CallR X (.builtin id) r) (hg:Gl X x) (hm:X.mg x=none) (hv:bootBuiltins x=some (.builtin id)) (ha:PA X (e :: es) t) (hn:x≠"__name__":=by decide) (hdb:(x == ("__debug__":Str))=false:=by decide)
  (he:starEach (e :: es) X.env=(false,eval e X.env) :: starEach es X.env:=by rfl) (hpl:(backTo pos (starEach es X.env)).any (·.1)=false:=by rfl):PE X (.Call (.Name x p) (e :: es) [] pos) (tCB r t):=by
 intro m5 s σ H Q I h;refine bL (Zn I hg hm hv ?_ hn hdb);exact PyProof.Rows.callWith_builtin1 (wW (ha pos m5 s σ H _ I h) λ us s1 vs H1 I1 r1 q1=>hc m5 s1 σ H1 vs us Q I1 r1 q1) he hpl
def zdd (hc:CallR X (.type T) r) (hg:Gl X x) (hm:X.mg x=none) (hv:bootBuiltins x=some (.type T)) (ha:PA X (e :: es) t) (hn:x≠"__name__":=by decide) (hdb:(x == ("__debug__":Str))=false:=by decide)
  (he:starEach (e :: es) X.env=(false,eval e X.env) :: starEach es X.env:=by rfl) (hpl:(backTo pos (starEach es X.env)).any (·.1)=false:=by rfl):PE X (.Call (.Name x p) (e :: es) [] pos) (tCB r t):=by
 intro m5 s σ H Q I h;refine bL (Zn I hg hm hv ?_ hn hdb);exact bA (wW (ha pos m5 s σ H _ I h) λ us s1 vs H1 I1 r1 q1=>hc m5 s1 σ H1 vs us Q I1 r1 q1) he hpl
end
end L2
namespace HT
open PySem PyProof.Rows
section
open PySem.SeqAt
open PySem.AutoSeq1 (wpAny_loadPart')
open PySem.MeetsSeq PySem.MeetsSeq2 PySem.MeetsSeq3
end
section
variable {prog:Af} {w:World} {A:Ao} {E:A3} {s:An}
noncomputable def sIx (n d:Nat):Option Int->Nat
 | none=>d
 | some v=>if v < 0 then (v + (n:Int)).toNat else min v.toNat n
theorem sIx_none (n d:Nat):sIx n d none=d:=rfl
def sIx_nat (n d k:Nat):sIx n d (some (k:Int))=min k n:=by
 show (if (k:Int) < 0 then ((k:Int) + (n:Int)).toNat else min (k:Int).toNat n)=min k n
 rw [aq (by lia),aE]
end
end HT
namespace L2
open PySem PySem.Spec PyProof.Rows
abbrev TO:=St->Hp->(Option Int->Hp->Prop)->Prop
def PO (X:Cx) (e:Option Expr) (t:TO):Prop :=
 ∀ (m5:A2) (s:An) (σ:St) (H:Hp) (Q:Option Int->Hp->Prop),Inv X m5 σ H s->t σ H Q ->
  wpAny (model X.prog X.w) X.A (evalPart e X.env) (λ u s'=>∃ o H',Inv X m5 σ H' s'/\IsPart u o/\Q o H') X.xe s
def tNoPart:TO:=λ _ H Q=>Q none H
def tPart (t:TE):TO:=λ σ H Q=>t σ H λ x H1=>iq x λ i=>Q (some i) H1
def zbC {ns:A6}:∀ {us:A7},Vals (ns.map V.int) us->IntsAre us ns:=by
 induction ns with
 | nil=>intro us r;rw [fK] at r;cases r;exact .nil
 | cons n ns ih =>
  intro us r;rw [br] at r;cases r with
  | cons r1 r2 =>
   obtain ⟨t,e⟩:=r1;subst e;exact .cons n t (ih r2)
section
variable {X:Cx} {e:Expr} {te:TE} {lo hi:Option Expr} {tl th:TO} {pos p2:Pos}
def WL:PO X none tNoPart:=by
 intro m5 s σ H Q I h;rw [evalPart_none];exact ao ⟨none,H,I,.none,h⟩
def WK (h:PE X e te):PO X (some e) (tPart te):=by
 intro m5 s σ H Q I hw;rw [evalPart_some];refine qy (h m5 s σ H _ I hw) λ u s1 x H1 I1 r1 q1=>?_;obtain ⟨i,rfl,q⟩:=ZQ q1;obtain ⟨t,rfl⟩:=r1;exact ⟨some i,H1,I1,.int i t,q⟩
def SlR (X:Cx) (r:V->Option Int->Option Int->Hp->VK->Prop):Prop :=
 ∀ (m5:A2) (s:An) (σ:St) (H:Hp) (x:V) (v vl vu:Am) (lo hi:A9) (sl:Addr) (Q:VK),Inv X m5 σ H s->RelV x v->s.heap.IsSliceOf sl vl vu .none->IsPart vl lo->IsPart vu hi->r x lo hi H Q ->
  ∃ T id,typeLookup (.type T) "__getitem__"=pure (some (.builtin id))/\s.TypeIs v T/\wpAny (model X.prog X.w) X.A (getItem v (.ref sl)) (EP X m5 σ Q) X.xe s
def SlR.or {r r':V->Option Int->Option Int->Hp->VK->Prop} (h:SlR X r) (h':SlR X r'):SlR X (λ x lo hi H Q=>r x lo hi H Q\/r' x lo hi H Q):=by
 intro m5 s σ H x v vl vu lo hi sl Q I rx hs pl pu q;rcases q with q|q
 ·exact h m5 s σ H x v vl vu lo hi sl Q I rx hs pl pu q
 ·exact h' m5 s σ H x v vl vu lo hi sl Q I rx hs pl pu q
def tSl (r:V->Option Int->Option Int->Hp->VK->Prop) (te:TE) (tl th:TO):TE:=λ σ H Q=>te σ H λ x H1=>tl σ H1 λ l H2=>th σ H2 λ u H3=>r x l u H3 Q
def JJ {r:V->Option Int->Option Int->Hp->VK->Prop} (hr:SlR X r) (he:PE X e te) (hl:PO X lo tl) (hu:PO X hi th):PE X (.Subscript e (.Slice lo hi none p2) pos) (tSl r te tl th):=by
 intro m5 s σ H Q I h;refine Subscript_ (qy (he m5 s σ H _ I h) λ v s1 x H1 I1 r1 q1=>?_);refine wpAny_Slice (thn (hl m5 s1 σ H1 _ I1 q1) λ vl s2 ⟨l,H2,I2,pl,q2⟩=>thn (hu m5 s2 σ H2 _ I2 q2) λ vu s3 ⟨u,H3,I3,pu,q3⟩=>?_);rw [evalPart_none];refine ao ?_;have I4:Inv X m5 σ H3 { s3 with heap:=s3.heap.push { cls:=.type "slice",data:=.fields #[vl,vu,.none] } }:=I3.kept (t':=s3.toks) λ b ob q=>ak _ q;obtain ⟨T,id,hT,ht,hg⟩:=hr m5 { s3 with heap:=s3.heap.push { cls:=.type "slice",data:=.fields #[vl,vu,.none] } } σ H3 x v vl vu l u s3.heap.objs.size Q I4 r1 (Heap.IsSliceOf.new ..) pl pu q3;show wpAny (model X.prog X.w) X.A (subscriptTail e (.Slice lo hi none p2) v (.ref s3.heap.objs.size)) (EP X m5 σ Q) X.xe { s3 with heap:=s3.heap.push { cls:=.type "slice",data:=.fields #[vl,vu,.none] } }
 exact tail_any (ops:=[.ref s3.heap.objs.size,v]) ht hT hg (by with_unfolding_all rfl)
noncomputable def Va (xs:Ap) (lo hi:A9):List V:=(xs.drop (HT.sIx xs.length 0 lo)).take (HT.sIx xs.length xs.length hi - HT.sIx xs.length 0 lo)
def zau (xs:Ap) (lo hi:A9):(Va xs lo hi).length<=xs.length:=by
 unfold Va;rw [aP,dD]
 lia
end
noncomputable def ixN (n:Nat) (i:Int):Option Nat:=if 0<=i then (if i < n then some i.toNat else none) else if -(n:Int)<=i then some (i + n).toNat else none
noncomputable def atI {α:Type} (xs:List α) (i:Int):Option α:=(ixN xs.length i).bind λ j=>xs[j]?
def zcj {n:Nat} {i:Int} {j:Nat} (h:ixN n i=some j):seqIndex? i n=some j/\j < n/\-(n:Int)<=i/\i < n:=by
 unfold ixN at h;by_cases h0:0<=i
 ·rw [ax h0] at h;by_cases h1:i < n
  ·rw [ax h1] at h;have e:i.toNat=j:=aO h;exact ⟨by rw [f9 h0 h1,e],by lia,by lia,h1⟩
  ·rw [aq h1] at h;cases h
 ·rw [aq h0] at h;by_cases h1:-(n:Int)<=i
  ·rw [ax h1] at h;have e:(i + n).toNat=j:=aO h;exact ⟨by rw [seqIndex_neg (by lia) h1,e],by lia,h1,by lia⟩
  ·rw [aq h1] at h;cases h
def Jd {α:Type} {xs:List α} {i:Int} {v:α} (h:atI xs i=some v):∃ j,seqIndex? i xs.length=some j/\xs[j]?=some v/\j < xs.length/\-(xs.length:Int)<=i/\i < xs.length:=by
 unfold atI at h;cases e:ixN xs.length i with
 | none=>rw [e] at h;cases h
 | some j =>
  rw [e] at h;obtain ⟨h1,h2,h3,h4⟩:=zcj e;exact ⟨j,h1,h,h2,h3,h4⟩
def zw {α:Type} {xs:List α} {j:Nat} {v:α} (h:xs[j]?=some v):atI xs (j:Int)=some v:=by
 have hj:j < xs.length:=(aa.mp h).1;have e:ixN xs.length (j:Int)=some j:=by
  unfold ixN;rw [ax (by lia),ax (by lia)];simp
 unfold atI;rw [e];exact h
def zcI (b:Expr):Prop:=∀ o i,subscripted b false o i=operate [o,i] (getItem o i)
def IxR (X:Cx) (r:R2):Prop :=
 ∀ (value slice:Expr) (m5:A2) (s:An) (σ:St) (H:Hp) (x y:V) (v u:Am) (Q:VK),Inv X m5 σ H s->RelV x v->RelV y u->r x y H Q ->
  subscripted slice false v u=operate [v,u] (getItem v u)->wpAny (model X.prog X.w) X.A (subscriptTail value slice v u) (EP X m5 σ Q) X.xe s
def MtR (X:Cx) (id:String) (r:V->List V->Hp->VK->Prop):Prop :=
 ∀ (m5:A2) (s:An) (σ:St) (H:Hp) (x:V) (xs:Ap) (v:Am) (us:A7) (Q:VK),Inv X m5 σ H s->RelV x v->Vals xs us->r x xs H Q ->
  wpAny (model X.prog X.w) X.A (call (.builtin id) (v :: us)) (EP X m5 σ Q) X.xe s
section
variable {X:Cx} {a b:Expr} {ta tb:TE} {pos:Pos}
def IxR.or {r r':R2} (h:IxR X r) (h':IxR X r'):IxR X (λ x y H Q=>r x y H Q\/r' x y H Q):=by
 intro value slice m5 s σ H x y v u Q I rx ry q hs;rcases q with q|q
 ·exact h value slice m5 s σ H x y v u Q I rx ry q hs
 ·exact h' value slice m5 s σ H x y v u Q I rx ry q hs
def MtR.or {id:String} {r r':V->List V->Hp->VK->Prop} (h:MtR X id r) (h':MtR X id r'):MtR X id (λ x xs H Q=>r x xs H Q\/r' x xs H Q):=by
 intro m5 s σ H x xs v us Q I rx rs q;rcases q with q|q
 ·exact h m5 s σ H x xs v us Q I rx rs q
 ·exact h' m5 s σ H x xs v us Q I rx rs q
def ziB {r:R2} (hr:IxR X r) (ha:PE X a ta) (hb:PE X b tb) (hs:zcI b):PE X (.Subscript a b pos) (tOp r ta tb):=by
 intro m5 s σ H Q I h;exact Subscript_ (zic ha hb I h λ v u s2 x y H2 I2 rx ry q=>hr a b m5 s2 σ H2 x y v u Q I2 rx ry q (hs _ _))
def ziz (K:A0):R2:=λ x y H Q=>∃ p xs i v,x=.ref p/\y=.int i/\SqL K H p xs/\atI xs i=some v/\Q v H
def zix (K:A0):R2:=λ x y H Q=>∃ p xs i v,x=.ref p/\y=.int i/\SqT K H p xs/\atI xs i=some v/\Q v H
def ziy:R2:=λ x y H Q=>∃ z i c,x=.str z/\y=.int i/\z.length<=sizeLine/\atI z.cps.toList i=some c/\Q (.str ⟨#[c]⟩) H
def ix_list:IxR X (ziz X.K):=by
 intro value slice m5 s σ H x y v u Q I rx ry h hs;obtain ⟨p,xs,i,z,rfl,rfl,hq,he,q⟩:=h;cases rx;obtain ⟨t,rfl⟩:=ry;obtain ⟨ni,r,pl,hz⟩:=I.list hq;obtain ⟨j,h1,h2,h3,h4,h5⟩:=Jd he;obtain ⟨w,ew,rw'⟩:=r.get h2;have hl:=r.length;have hn:=Zm;have fin:EP X m5 σ Q w s:=⟨z,H,I,rw',q⟩;by_cases h0:0<=i
 ·have hj:i.toNat=j:=by
   rw [f9 h0 h5] at h1;exact aO h1
  exact item_listR pl.isList h0 (by lia) (by rw [hj];simpa using ew) fin hs
 ·have hj:(i + (ni.toArray.size:Int)).toNat=j:=by
   rw [seqIndex_neg (by lia) h4] at h1;rw [av,<- hl];exact aO h1
  exact subscriptTail_builtinR (x:=w) pl.isList.typeIs slot_list_getitem.lookup
   (wpAny_getItem_list_neg (Q:=λ r s'=>r=w/\EP X m5 σ Q r s') pl.isList (by lia) (by rw [av] <;> lia) (by lia) (by rw [hj];simpa using ew) ⟨rfl,fin⟩) hs
def ix_tup:IxR X (zix X.K):=by
 intro value slice m5 s σ H x y v u Q I rx ry h hs;obtain ⟨p,xs,i,z,rfl,rfl,hq,he,q⟩:=h;cases rx;obtain ⟨t,rfl⟩:=ry;obtain ⟨ni,r,pl,hz⟩:=I.tuple hq;obtain ⟨j,h1,h2,h3,h4,h5⟩:=Jd he;obtain ⟨w,ew,rw'⟩:=r.get h2;have hl:=r.length;have hn:=Zm;have fin:EP X m5 σ Q w s:=⟨z,H,I,rw',q⟩;exact subscriptTail_builtinR (x:=w) pl.typeIs slot_tuple_getitem.lookup
  (getItem_tuple (j:=j) (Q:=λ r s'=>r=w/\EP X m5 σ Q r s') pl (by lia) (by lia) (by rw [av,<- hl];exact h1) (by simpa using ew) ⟨rfl,fin⟩) hs
def zhS:IxR X ziy:=by
 intro value slice m5 s σ H x y v u Q I rx ry h hs;obtain ⟨z,i,c,rfl,rfl,hz,he,q⟩:=h;obtain ⟨t,rfl⟩:=rx;obtain ⟨t',rfl⟩:=ry;obtain ⟨j,h1,h2,h3,h4,h5⟩:=Jd he;have hl:z.cps.toList.length=z.length:=by simp [Str.length]
 rw [hl] at h1 h4 h5;have hn:=Zm;exact tail_any (typeIs_str s z t) slot_str_getitem.lookup (getItem_str (c:=c) (by
  have e1:decide (i < -(2 ^ 63:Int))=false:=aY (by lia);have e2:decide (i ≥ 2 ^ 63)=false:=aY (by lia);rw [e1,e2,Bool.or_false]) (by rw [h1];simpa using h2) ⟨.str ⟨#[c]⟩,H,I.tok _,⟨_,rfl⟩,q⟩) hs
def rIx (K:A0):R2:=λ x y H Q=>ziz K x y H Q\/zix K x y H Q\/ziy x y H Q
def zhT:IxR X (rIx X.K):=ix_list.or (ix_tup.or zhS)
def zbv (ni:A7) (n j:Nat) (u:Am):Obj.mapSeq (·.setIfInBounds j u) { cls:=.type "list",data:=.seq ni.toArray n }={ cls:=.type "list",data:=.seq (ni.set j u).toArray n }:=by
 simp [Obj.mapSeq]
def Inv.lst {m5:A2} {σ:St} {H:Hp} {s:An} {p:Addr} {xs:Ap} (I:Inv X m5 σ H s) (h:H p=some (.lst xs)) :
  ∃ (ni:A7) (n:Nat),Vals xs ni/\s.heap.get? p=some { cls:=.type "list",data:=.seq ni.toArray n }/\xs.length<=sizeLine:=by
 obtain ⟨z,ni,n,r,e⟩:=I.hok p _ h;exact ⟨ni,n,r,e,z⟩
def Inv.lstUpd {m5:A2} {σ:St} {H:Hp} {s:An} {p:Addr} {xs ys:Ap} {ni its':A7} {n n':Nat} {f:Obj->Obj} (I:Inv X m5 σ H s) (h:H p=some (.lst xs))
  (ho:s.heap.get? p=some { cls:=.type "list",data:=.seq ni.toArray n }) (hf:f { cls:=.type "list",data:=.seq ni.toArray n }={ cls:=.type "list",data:=.seq its'.toArray n' }) (r:Vals ys its') (hz:ys.length<=sizeLine) (t:Nat) :
  Inv X m5 σ (upd H p (.lst ys)) { s with heap:=s.heap.update p f,toks:=t }:=by
 have e:(s.heap.update p f).get? p=some { cls:=.type "list",data:=.seq its'.toArray n' }:=by
  rw [bK f ho (by rw [hf] <;> rfl),hf]
 refine I.write (x:=p) (e:=p) (by rw [h];trivial) (.inl rfl) (λ b u hb q=>(bH _ _ (ba hb)).trans q) ⟨_,e⟩ ?_;exact ⟨hz,its',n',r,e⟩
def zg2:V->V->V->Hp->(Hp->Prop)->Prop:=λ o i v H Q=>∃ p xs k j,o=.ref p/\i=.int k/\H p=some (.lst xs)/\ixN xs.length k=some j/\Q (upd H p (.lst (xs.set j v)))
def x6:zii X zg2:=by
 intro m5 s σ H o i v ov iv u Q I ro ri rv h;obtain ⟨p,xs,k,j,rfl,rfl,hp,hj,q⟩:=h;cases ro;obtain ⟨t,rfl⟩:=ri;obtain ⟨ni,n,r,ho,hz⟩:=I.lst hp;obtain ⟨h1,h2,h3,h4⟩:=zcj hj;have hl:=r.length;have hn:=Zm;have I':Inv X m5 σ (upd H p (.lst (xs.set j v))) { s with heap:=s.heap.update p (Obj.mapSeq (·.setIfInBounds j u)) } :=
  I.lstUpd hp ho (zbv ni n j u) (r.set rv j) (by rw [bX];exact hz) s.toks
 by_cases h0:0<=k
 ·have hk:k.toNat=j:=by
   rw [f9 h0 h4] at h1;exact aO h1
  exact PySem.W.ki_setAt ho h0 (by lia) (by rw [av,<- hl];exact h4) (by rw [hk];exact ⟨_,I',q⟩)
 ·have hk:(k + (ni.toArray.size:Int)).toNat=j:=by
   rw [seqIndex_neg (by lia) h3] at h1;rw [av,<- hl];exact aO h1
  exact PySem.W.ki_setBack ho (by lia) (by rw [av,<- hl];exact h3) (by lia) (by rw [hk];exact ⟨_,I',q⟩)
def Wr (lo hi:A9) (n:Nat):(sliceBounds lo hi none n).1=((HT.sIx n 0 lo:Nat):Int)/\(sliceBounds lo hi none n).2.1=((HT.sIx n n hi:Nat):Int)/\(sliceBounds lo hi none n).2.2=1:=by
 refine ⟨?_,?_,rfl⟩
 ·cases lo with
  | none=>simp [sliceBounds,HT.sIx]
  | some i =>
   simp only [sliceBounds,HT.sIx,fA,show (1:Int) > 0 by decide,d6];by_cases h:i < 0
   ·simp only [h,d6] <;> lia
   ·simp only [h,bO] <;> lia
 ·cases hi with
  | none=>simp [sliceBounds,HT.sIx]
  | some i =>
   simp only [sliceBounds,HT.sIx,fA,show (1:Int) > 0 by decide,d6];by_cases h:i < 0
   ·simp only [h,d6] <;> lia
   ·simp only [h,bO] <;> lia
def Xj (ni:A7) (lo hi:A9):slicePick ni.toArray lo hi none=((ni.drop (HT.sIx ni.length 0 lo)).take (HT.sIx ni.length ni.length hi - HT.sIx ni.length 0 lo)).toArray:=by
 obtain ⟨h1,h2,h3⟩:=Wr lo hi ni.toArray.size;unfold slicePick;rw [h1,h2,h3];simp only [sliceRange_one,pick_run,av] <;> rfl
def zhr (K:A0):V->Option Int->Option Int->Hp->VK->Prop:=λ x lo hi H Q=>∃ a xs,x=.ref a/\SqL K H a xs/\∀ p,H p=none->Q (.ref p) (upd H p (.lst (Va xs lo hi)))
def zfU:SlR X (zhr X.K):=by
 intro m5 s σ H x v vl vu lo hi sl Q I rx hs pl pu h;obtain ⟨a,xs,rfl,hx,q⟩:=h;cases rx;obtain ⟨ni,r,ht,hz⟩:=I.list hx;have hlen:=r.length;refine ⟨"list",_,slot_list_getitem.lookup,ht.isList.typeIs,?_⟩;refine wpAny_getItem_list_slice ht.isList hs pl pu .none (by simp) ?_ (by rw [av] <;> lia);rw [Xj,<- hlen];refine ⟨.ref s.heap.objs.size,_,I.laid (t':=s.toks) (o:=.lst (Va xs lo hi)) (λ b ob q=>ak _ q) (au _) ?_,rfl,q _ (I.hok.fresh (au _))⟩;exact ⟨bd (zau xs lo hi) hz,_,0,(r.drop (HT.sIx xs.length 0 lo)).take (HT.sIx xs.length xs.length hi - HT.sIx xs.length 0 lo),ay _ rfl⟩
noncomputable def vT:V->Bool
 | .non=>true
 | .bl _=>true
 | .int _=>true
 | .str _=>true
 | _=>false
noncomputable def eqV:V->V->Bool
 | .non,.non=>true
 | .bl a,.bl b=>a == b
 | .bl a,.int b=>(if a then 1 else 0) == b
 | .int a,.bl b=>a == (if b then 1 else 0)
 | .int a,.int b=>a == b
 | .str a,.str b=>a == b
 | _,_=>false
def Qu {A:Ao} {s:An} {y x:V} {u v:Am} (ry:RelV y u) (rx:RelV x v) (fy:vT y=true) (fx:vT x=true):SeqAt.EqAt A s u v (eqV y x):=by
 cases y with
 | non =>
  cases ry;cases x with
  | non=>cases rx;exact eV _
  | bl b=>cases rx;exact SeqAt.EqAt.none_bool b
  | int b=>obtain ⟨t,rfl⟩:=rx;exact SeqAt.EqAt.none_int b t
  | str b=>obtain ⟨t,rfl⟩:=rx;exact SeqAt.EqAt.none_str b t
  | _=>exact absurd (show false=true from fx) aC
 | bl a =>
  cases ry;cases x with
  | non=>cases rx;exact SeqAt.EqAt.bool_none a
  | bl b=>cases rx;exact SeqAt.EqAt.bool_bool a b
  | int b=>obtain ⟨t,rfl⟩:=rx;exact SeqAt.EqAt.bool_int a b t
  | str b=>obtain ⟨t,rfl⟩:=rx;exact SeqAt.EqAt.bool_str a b t
  | _=>exact absurd (show false=true from fx) aC
 | int a =>
  obtain ⟨t',rfl⟩:=ry;cases x with
  | non=>cases rx;exact SeqAt.EqAt.int_none a t'
  | bl b=>cases rx;exact SeqAt.EqAt.int_bool a t' b
  | int b=>obtain ⟨t,rfl⟩:=rx;exact SeqAt.EqAt.int_int a t' b t
  | str b=>obtain ⟨t,rfl⟩:=rx;exact SeqAt.EqAt.int_str a t' b t
  | _=>exact absurd (show false=true from fx) aC
 | str a =>
  obtain ⟨t',rfl⟩:=ry;cases x with
  | non=>cases rx;exact SeqAt.EqAt.str_none a t'
  | bl b=>cases rx;exact SeqAt.EqAt.str_bool a t' b
  | int b=>obtain ⟨t,rfl⟩:=rx;exact SeqAt.EqAt.str_int a t' b t
  | str b=>obtain ⟨t,rfl⟩:=rx;exact SeqAt.EqAt.str_str a t' b t
  | _=>exact absurd (show false=true from fx) aC
 | _=>exact absurd (show false=true from fy) aC
def CallR.or {f:Am} {r r':List V->Hp->VK->Prop} (h:CallR X f r) (h':CallR X f r'):CallR X f (λ xs H Q=>r xs H Q\/r' xs H Q):=by
 intro m5 s σ H xs us Q I rs q;rcases q with q|q
 ·exact h m5 s σ H xs us Q I rs q
 ·exact h' m5 s σ H xs us Q I rs q
def Vc:CallR X (.type "list") (λ xs H Q=>∃ p ys,xs=[.ref p]/\(SqL X.K H p ys\/SqT X.K H p ys)/\∀ l,H l=none->Q (.ref l) (upd H l (.lst ys))):=by
 intro m5 s σ H xs us Q I r h;obtain ⟨p,ys,rfl,hq,q⟩:=h;obtain ⟨u,rfl,rx⟩:=xk r;cases rx;have fin:∀ (ni:A7),Vals ys ni->ys.length<=sizeLine->∀ (h':Heap) (c':Nat),(∀ b o',s.heap.get? b=some o'->h'.get? b=some o') ->
   h'.get? s.heap.objs.size=some { cls:=.type "list",dict:=none,data:=.seq ni.toArray c',slots:=#[] }->EP X m5 σ Q (.ref s.heap.objs.size) { s with heap:=h' }:=λ ni r' hz h' c' kp e =>
  ⟨.ref s.heap.objs.size,_,I.laid (t':=s.toks) kp (au _) (show ObjOk X.prog X.w _ h' _ (.lst ys) from ⟨hz,ni,c',r',e⟩),rfl,q _ (I.hok.fresh (au _))⟩
 rcases hq with hq|hq
 ·obtain ⟨ni,r',pl,hz⟩:=I.list hq;have hlen:=r'.length;obtain ⟨o,ho,hc,n,hd⟩:=pl.isList;exact call_list_seq p (.inl rfl) ho hc hd (λ h' c' kp e=>fin ni r' hz h' c' kp e) (by simp only [av] <;> lia)
 ·obtain ⟨ni,r',pl,hz⟩:=I.tuple hq;have hlen:=r'.length;obtain ⟨o,ho,hc,n,hd⟩:=pl;exact call_list_seq p (.inr rfl) ho hc hd (λ h' c' kp e=>fin ni r' hz h' c' kp e) (by simp only [av] <;> lia)
def Xz:CallR X (.type "tuple") (λ xs H Q=>∃ p ys,xs=[.ref p]/\((SqL X.K H p ys/\∀ l,H l=none->Q (.ref l) (upd H l (.tup ys)))\/(SqT X.K H p ys/\Q (.ref p) H))):=by
 intro m5 s σ H xs us Q I r h;obtain ⟨p,ys,rfl,h⟩:=h;obtain ⟨u,rfl,rx⟩:=xk r;cases rx;rcases h with ⟨hq,q⟩|⟨hq,q⟩
 ·obtain ⟨ni,r',pl,hz⟩:=I.list hq;have hlen:=r'.length;refine call_tuple_list pl.isList (λ h' kp=>?_) (by simp only [av] <;> lia);have I1:Inv X m5 σ H { s with heap:=h' }:=I.kept (t':=s.toks) kp;have I2:Inv X m5 σ (upd H h'.objs.size (.tup ys)) { s with heap:=h'.push { cls:=.type "tuple",data:=.seq ni.toArray } } :=
   I1.laid (t':=s.toks) (λ b o e=>ak _ e) (au _) (show ObjOk X.prog X.w _ _ _ (.tup ys) from ⟨hz,ni,r',IsTup.new _ _⟩)
  exact ⟨.ref h'.objs.size,_,I2,rfl,q _ (I1.hok.fresh (au _))⟩
 ·obtain ⟨ni,r',pl,hz⟩:=I.tuple hq;exact call_tuple_same pl ⟨.ref p,H,I,rfl,q⟩
def tyV (K:A0) (T:String) (x:V) (H:Hp):Prop:=match x with
 | .str _=>T="str"
 | .int _=>T="int"
 | .ref p=>(T="list"/\∃ xs,SqL K H p xs)\/(T="tuple"/\∃ o,K.lookup p=some o/\o.cls=.type "tuple"/\o.dict=none) \/
   (T="dict"/\((∃ n9,H p=some (.dK n9))\/∃ n9,H p=some (.dT n9)))\/(T="set"/\∃ S n,H p=some (.set S n))
 | _=>False
theorem zhd {m5:A2} {σ:St} {H:Hp} {s:An} {T:String} {x:V} {v:Am} (I:Inv X m5 σ H s) (r:RelV x v) (ty:tyV X.K T x H) :
  s.TypeIs v T/\∀ a,v=.ref a->∃ ob,s.heap.get? a=some ob/\ob.dict=none:=by
 cases x with
 | str z =>
  obtain ⟨t,rfl⟩:=r;cases (show T="str" from ty);exact ⟨typeIs_str s z t,λ _ e=>nomatch e⟩
 | int i =>
  obtain ⟨t,rfl⟩:=r;cases (show T="int" from ty);exact ⟨typeIs_int s i t,λ _ e=>nomatch e⟩
 | ref p =>
  cases r;rcases ty with ⟨rfl,xs,hq⟩|⟨rfl,o,hk,hc,hd⟩|⟨rfl,hk⟩|⟨rfl,S,n,hk⟩
  ·obtain ⟨ni,_,pl,_⟩:=I.list hq;refine ⟨pl.isList.typeIs,λ a e=>?_⟩;cases e;obtain ⟨o,n,e,c,hd,_⟩:=pl;exact ⟨o,e,hd⟩
  ·refine ⟨⟨o,I.kIn p o hk,hc⟩,λ a e=>?_⟩;cases e;exact ⟨o,I.kIn _ o hk,hd⟩
  ·have z:∃ o,s.heap.get? p=some o/\o.ExactDict:=by
    rcases hk with ⟨n9,hk⟩|⟨n9,hk⟩
    ·obtain ⟨_,_,_,_,o,_,_,e,ex,_⟩:=I.hok p _ hk;exact ⟨o,e,ex⟩
    ·obtain ⟨_,_,_,_,o,_,_,e,ex,_⟩:=I.hok p _ hk;exact ⟨o,e,ex⟩
   obtain ⟨o,e,ex⟩:=z;refine ⟨⟨o,e,ex.1⟩,λ a e2=>?_⟩;cases e2;exact ⟨o,e,ex.2.1⟩
  ·obtain ⟨o,_,_,_,e,ex,_⟩:=I.hok p _ hk;refine ⟨⟨o,e,ex.1⟩,λ a e2=>?_⟩;cases e2;exact ⟨o,e,ex.2.1⟩
 | _=>exact False.elim ty
def tBM (K:A0) (T:String) (r:V->List V->Hp->VK->Prop) (to:TE) (t:TA):TE:=λ σ H Q=>to σ H λ x H1=>tyV K T x H1/\t σ H1 λ xs H2=>r x xs H2 Q
variable {o e:Expr} {es:List Expr} {to:TE} {t:TA} {name:Str} {apos cpos:Pos} {T id:String} {r:V->List V->Hp->VK->Prop}
def xK (pa:PlainAttrs T) (slot:Slot T name id) (hty:typeOf (.builtin id)=pure (.type "method_descriptor")) (hm:MtR X id r) (ho:PE X o to) (ha:PA X (e :: es) t)
  (hbase:attributeBase o name X.env (eval o X.env)=eval o X.env:=by rfl)
  (hfew:((backTo cpos (starEach (e :: es) X.env)).all (λ x=>!x.1) && (backToKw cpos (keywordEach [] X.env)).all (λ x=>x.1.isSome)
   && decide ((e :: es).length + ([]:List Keyword).length + (if ([]:List Keyword).isEmpty then 0 else 1) < 30))=true:=by rfl)
  (hline:(apos.endLine == cpos.line)=true:=by rfl) (hs:starEach (e :: es) X.env=(false,eval e X.env) :: starEach es X.env:=by rfl) (hplain:(backTo cpos (starEach es X.env)).any (·.1)=false:=by rfl) :
  PE X (.Call (.Attribute o name apos) (e :: es) [] cpos) (tBM X.K T r to t):=by
 intro m5 s σ H Q I h;refine wpAny_Call_method_late hbase hfew hline rfl (qy (ho m5 s σ H _ I h) λ v s1 x H1 I1 r1 qq_=>?_);obtain ⟨ty,q1⟩:=qq_;obtain ⟨h1,h2⟩:=zhd I1 r1 ty;refine ⟨T,id,pa,slot,hty,h1,h2,?_⟩;have hA:=ha cpos m5 s1 σ H1 _ I1 q1;rw [hs] at hA ⊢;refine Calls.callWith_builtin (by show (false || (backTo cpos (starEach es X.env)).any (·.1))=false;rw [hplain] <;> rfl) (Calls.evalArgs_plain ?_);exact thn hA λ us s2 ⟨vs,H2,I2,r2,q2⟩=>hm m5 s2 σ H2 x vs v us Q I2 r1 r2 q2
end
def MtM (X:Cx) (id:String) (r:V->List V->Hp->VK->Prop):Prop :=
 ∀ (m5:A2) (s:An) (σ:St) (H:Hp) (x:V) (xs:Ap) (v:Am) (us:A7) (Q:VK),Inv X m5 σ H s->RelV x v->Vals xs us->r x xs H Q ->
  wpAny (model X.prog X.w) X.A (call (.builtin id) (v :: us)) (EP X m5 σ Q) X.xe s
def Vals.one {x:V} {us:A7} (h:Vals [x] us):∃ u,us=[u]/\RelV x u:=by
 cases h with
 | cons r t=>cases t;exact ⟨_,rfl,r⟩
def Vals.two {x y:V} {us:A7} (h:Vals [x,y] us):∃ u v,us=[u,v]/\RelV x u/\RelV y v:=by
 cases h with
 | cons r t =>
  obtain ⟨v,rfl,q⟩:=Vals.one t;exact ⟨_,_,rfl,r,q⟩
theorem Vals.zero:∀ {us:A7},Vals [] us->us=[]
 | _,.nil=>rfl
def Vals.reverse {xs:Ap} {us:A7} (h:Vals xs us):Vals xs.reverse us.reverse:=by
 induction h with
 | nil=>exact .nil
 | cons r t ih=>rw [List.reverse_cons,List.reverse_cons];exact Vals.append ih (.cons r .nil)
theorem Vals.rep {xs:Ap} {us:A7} (h:Vals xs us):∀ k:Nat,Vals (List.replicate k xs).flatten (List.replicate k us).flatten
 | 0=>.nil
 | k + 1=>by
  rw [cG,cG,eP,eP];exact Vals.append h (Vals.rep h k)
theorem X3 (ni:A7):∀ (k:Nat) (nj:A7),
  List.foldl (λ x1 x2=>x1 ++ x2) nj.toArray (List.replicate k ni.toArray)=(nj ++ (List.replicate k ni).flatten).toArray
 | 0,nj=>by simp
 | k + 1,nj=>by
  have e:nj.toArray ++ ni.toArray=(nj ++ ni).toArray:=by simp
  have e2:(nj ++ ni) ++ (List.replicate k ni).flatten=nj ++ (List.replicate (k + 1) ni).flatten:=by
   rw [cG,eP,cx]
  rw [<- e2,<- X3 ni k (nj ++ ni),<- e,cG,List.foldl_cons]
section
variable {X:Cx} {m5:A2} {σ:St} {H:Hp} {s:An} {l b:Addr} {xs ys zs:Ap}
def Inv.lset {ni its':A7} {n:Nat} {f:Array Value->Array Value} {t':Nat} (I:Inv X m5 σ H s) (hH:H l=some (.lst xs))
  (e:s.heap.get? l=some { cls:=.type "list",data:=.seq ni.toArray n }) (hf:f ni.toArray=its'.toArray) (hv:Vals ys its') (hz:ys.length<=sizeLine) :
  Inv X m5 σ (upd H l (.lst ys)) { s with heap:=s.heap.update l (Obj.mapSeq f),toks:=t' }:=by
 have q:=PySem.IsL.update e f;rw [hf] at q;refine I.write (x:=l) (e:=l) (by rw [hH];exact trivial) (.inl rfl) (λ b' u hb hu=>(bH s.heap (Obj.mapSeq f) (ba hb)).trans hu) ⟨_,q⟩ ?_;exact ⟨hz,its',_,hv,q⟩
def Inv.lnew {ni:A7} {t':Nat} (I:Inv X m5 σ H s) (hv:Vals ys ni) (hz:ys.length<=sizeLine) :
  Inv X m5 σ (upd H s.heap.objs.size (.lst ys)) { s with heap:=s.heap.push { cls:=.type "list",data:=.seq ni.toArray },toks:=t' } :=
 I.laid (λ _ _ q=>ak _ q) (au _) ⟨hz,ni,0,hv,ay _ rfl⟩
def Inv.fresh (I:Inv X m5 σ H s):H s.heap.objs.size=none:=I.hok.fresh (au _)
def Inv.lstM (I:Inv X m5 σ H s) (hH:H l=some (.lst xs)):xs.length<=sizeLine/\∃ (ni:A7) (n:Nat),Vals xs ni/\xs.length=ni.length/\s.heap.get? l=some { cls:=.type "list",data:=.seq ni.toArray n }:=by
 obtain ⟨z,ni,n,r,e⟩:=I.hok l _ hH;exact ⟨z,ni,n,r,r.length,e⟩
def V6 {n:Nat} (h:n<=sizeLine):Builtin.List.listTooLong n=false:=by
 unfold Builtin.List.listTooLong;exact aY (by lia)
end
section
variable {X:Cx}
def zf9:V->List V->Hp->VK->Prop:=λ x vs H Q=>∃ l xs y,x=.ref l/\vs=[y]/\H l=some (.lst xs)/\xs.length < sizeLine/\Q .non (upd H l (.lst (xs ++ [y])))
def qD:MtM X "list.append" zf9:=by
 intro m5 s σ H x vs v us Q I rx rv h;obtain ⟨l,xs,y,rfl,rfl,hH,hz,q⟩:=h;cases rx;obtain ⟨u,rfl,ru⟩:=rv.one;obtain ⟨z,ni,n,r,hl,e⟩:=I.lstM hH;refine gF F.slot_list_append ⟨_,e,rfl⟩ F.entry_list_append (F.args_list_append_2 _ _) (PySem.list_append l ni.toArray n u (by rw [av];lia)) ⟨e,?_⟩;refine ⟨.non,_,I.lset (its':=ni ++ [u]) hH e (by simp) (r.append (.cons ru .nil)) ?_,rfl,q⟩;rw [aD,eC]
 lia
def zf6:V->List V->Hp->VK->Prop:=λ x vs H Q=>∃ l b xs zs,x=.ref l/\vs=[.ref b]/\H l=some (.lst xs)/\H b=some (.lst zs)/\xs.length + zs.length<=sizeLine/\Q .non (upd H l (.lst (xs ++ zs)))
def vJ:MtM X "list.extend" zf6:=by
 intro m5 s σ H x vs v us Q I rx rv h;obtain ⟨l,b,xs,zs,rfl,rfl,hH,hB,hz,q⟩:=h;cases rx;obtain ⟨u,rfl,ru⟩:=rv.one;cases ru;obtain ⟨z,ni,n,r,hl,e⟩:=I.lstM hH;obtain ⟨z2,its2,n2,r2,hl2,e2⟩:=I.lstM hB;have hsz:ni.toArray.size + its2.toArray.size<=sizeLine:=by rw [av,av];lia
 have hlong:¬ (!ni.toArray.isEmpty && Builtin.List.listTooLong (ni.toArray.size + its2.toArray.size))=true:=by
  rw [V6 hsz,cj];exact aC
 refine gF F.slot_list_extend ⟨_,e,rfl⟩ F.entry_list_extend (F.args_list_extend_2 _ _)
  (AutoSeq1.list_extend_list_list_0 l ni.toArray n b its2.toArray n2 hlong (by rw [av];lia) (by lia)) ⟨e,e2,?_⟩
 refine ⟨.non,_,I.lset (its':=ni ++ its2) hH e (by simp) (r.append r2) ?_,rfl,q⟩;rw [aD]
 lia
def zje:R2:=λ x y H Q=>∃ l k xs,x=.ref l/\y=.int k/\H l=some (.lst xs)/\-(2 ^ 63)<=k/\k < 2 ^ 63/\xs.length * k.toNat<=sizeLine /\
 ∀ p,H p=none->Q (.ref p) (upd H p (.lst (List.replicate k.toNat xs).flatten))
def zgp {α:Type} (xs:List α) (k:Nat):(List.replicate k xs).flatten.length=k * xs.length:=by
 induction k with
 | zero=>simp
 | succ k ih=>rw [cG,eP,aD,ih,gg,Nat.add_comm]
def zbp:OpR X (binaryOp .Mult) zje:=by
 intro m5 s σ H x y v u Q I rx ry h;obtain ⟨l,k,xs,rfl,rfl,hH,h1,h2,hz,q⟩:=h;cases rx;obtain ⟨t,rfl⟩:=ry;obtain ⟨z,ni,n,r,hl,e⟩:=I.lstM hH;have hlen:ni.toArray.size * k.toNat<=sizeLine:=by rw [av,<- hl];exact hz
 have hcap:¬ ni.toArray.size * k.toNat > (2 ^ 63 - 1) / 8:=by
  have:(sizeLine:Nat)<=(2 ^ 63 - 1) / 8:=by decide
  lia
 have hfit:¬ (!Builtin.List.listFitsIndex k)=true:=by
  rw [fitsIndex_both h1 h2];exact aC
 have hlong:¬ Builtin.List.listTooLong (ni.toArray.size * k.toNat)=true:=by
  rw [V6 hlen];exact aC
 have hnew:List.foldl (λ x1 x2=>x1 ++ x2) #[] (List.replicate (if ni.toArray.isEmpty=true then 0 else k.toNat) ni.toArray)=(List.replicate k.toNat ni).flatten.toArray:=by
  have f0:∀ m:Nat,List.foldl (λ x1 x2=>x1 ++ x2) #[] (List.replicate m ni.toArray)=(List.replicate m ni).flatten.toArray:=λ m=>by
   have:=X3 ni m [];rw [nil_append] at this;exact this
  rw [f0];cases ni with
  | nil=>simp
  | cons a r'=>rw [aq (by simp)]
 refine wpAny_binaryOp_repeat_ref (T:="list") (U:="int") (by decide) ⟨_,e,rfl⟩ (λ s'=>typeIs_int s' k t) noFill_list_mul F.fills_int_mul F.slot_int_rmul repeat_list F.slot_int_index.lookup
  (gF F.slot_int_rmul (typeIs_int s k t) F.entry_int_rmul (F.args_int_rmul_2 _ _) (int___rmul___int_list k t l ni.toArray n)
   ⟨e,rfl,⟨_,e,rfl⟩,gF F.slot_list_mul ⟨_,e,rfl⟩ F.entry_list_mul (F.args_list_mul_2 _ _) (AutoListH.list___mul___list_int_3 l ni.toArray n k t hfit hcap hlong) ⟨e,?_⟩⟩)
 rw [hnew];exact ⟨.ref _,_,I.lnew (t':=s.toks) (r.rep k.toNat) (by rw [zgp,dB];exact hz),rfl,q _ I.fresh⟩
end
section
variable {prog:Af} {w:World} {A:Ao} {E:A3} {s:An}
end
section
variable {X:Cx}
end
end L2
namespace Att
open PySem PySem.W PySem.Calls PyProof.Rows
def QW {P:Params} {h:Heap}:∀ (ns:A6) (vs:A7),WellAll P h vs (ns.map WData.int)->IntsAre vs ns:=by
 intro ns
 induction ns with
 | nil =>
  intro vs w;rw [fK] at w;cases w;exact .nil
 | cons n ns ih =>
  intro vs w;rw [br] at w;cases w with
  | cons a b =>
   cases a;exact .cons _ _ (ih _ b)
theorem zcX {l:OpenLaw} {n:Nat} (hn:l.most=some n) {P:Params} {h:Heap} {args:List WData} {vals:A7}
  (hpre:l.row.toRowW.claim.pre args=true) (hwl:WellAll P h vals args) :
  ∃ a vs ns,vals=[Value.ref a]/\args=[WData.list (ns.map WData.int)]/\h.get? a=some { cls:=.type "list",data:=.seq vs.toArray }/\IntsAre vs ns/\ns.length<=n:=by
 have hsh:WShape.hasAll [] args [.list .int]=true:=(pre_splitW hpre).1;have hc:l.pre.holds [] { args:=args }=true:=(pre_splitW hpre).2;obtain ⟨d,r,rfl,h1,h2⟩:=hasAllW_cons hsh;obtain rfl:=hasAllW_nil h2;obtain ⟨xs,rfl,h3⟩:=hasW_list h1;obtain ⟨ns,rfl⟩:=items_int h3;have hlen:ns.length<=n:=by
  unfold OpenLaw.pre at hc;have h4:(WTm.not (.lt (.lit (.int (n:Int))) (.len (.arg 0)))).holds [] { args:=[.list (ns.map .int)] }=true:=by
   have h4:=(holds_andW hc).1;rw [hn] at h4;exact h4
  have h5:=condW_of h4 (w_not (w_lt w_lit (w_len_list (w_arg rfl))));rw [ai] at h5;refine Nat.le_of_not_lt λ q=>?_;have q':(n:Int) < ((ns.length:Nat):Int):=by lia
  first
   | (rw [bu q'] at h5;exact absurd h5 (by decide))
   | (simp at h5;lia)
 cases hwl with
 | cons w1 w2 =>
  cases w2;cases w1 with
  | list ho hall=>exact ⟨_,_,ns,rfl,rfl,ho,QW ns _ hall,hlen⟩
def zdb (l:OpenLaw) (args:List WData):l.row.toRowW.claim.post args (.bool true) args=true :=
 postW_of (r:=l.row.toRowW) (X:=(true == true))
  (show WShape.has [] (.bool true) .bool=true by first|rfl|decide|simp [WShape.has,WShape.arms,WShape.armsAll])
  (show (WTm.eq .res (.lit (.bool true))).value [] { args:=args,res:=some (.bool true),after:=args }=some (.bool (true == true)) from w_eq_bool (w_res rfl) w_lit) rfl
def attach_call {l:OpenLaw} {n:Nat} {q:Af} {loose:A8} {XP:(Str->Option Value)->Heap->Prop} {YP:World->Heap->Prop} {d:DefRec}
  (hn:l.most=some n) (hdf:d.params.defaults=[])
  (call:∀ (w:World) (s₀ s₁:An) (mg mb:A4) (fa:Addr) (o:Obj) (pm cd doc:Am) (a:Addr) (vs:A7) (ns:A6),
   Ground q loose [] XP w s₀ mg mb s₁.heap->YP w s₁.heap ->
   s₁.heap.get? fa=some o->o.data=.func (docDef d.name d.params d.body d.scope pm cd doc)->s₁.heap.CodeRec cd d.name->mg d.name=some (.ref fa) ->
   s₁.heap.get? a=some { cls:=.type "list",data:=.seq vs.toArray }->IntsAre vs ns->ns.length<=n->s₁.gens=#[] ->
   codeAny (model l.prog w) callerA (.call (.ref fa) ⟨[.ref a],[]⟩) (λ r s'=>r=.ok (.ret (.bool true))/\OldK s₁.heap s'.heap/\s'.os=s₁.os/\AllBare s'.gens) s₁) :
  WalkO q loose XP YP l.row.toRowW d [] (λ f vs=>PySem.call f vs):=by
 intro w s₀ s₁ mg mb G Y fa o pm cd doc dV kV ho hd hcd hD hmg hg args vals as hpre hlay hrd hwl hlo;obtain rfl:dV=.none:=Dflts.none hD hdf;obtain rfl:kV=.none:=Dflts.noKw hD;obtain ⟨a,vs,ns,rfl,rfl,hobj,hints,hlen⟩:=zcX hn hpre hwl;refine enter_call (cU (call w s₀ s₁ mg mb fa o pm cd doc a vs ns G Y ho (fd_plain hd) hcd hmg hobj hints hlen hg) λ r s' hq=>?_);obtain ⟨rfl,h2,h3,h4⟩:=hq;exact ⟨.inl ⟨.bool true,.bool true,[],rfl,λ _=>rfl,.bool true,zdb l _,λ _=>⟨List.Pairwise.nil,λ _ hm=>(nomatch hm)⟩⟩,h2,h3,h4⟩
section
variable {prog:Af} {w:World} {A:Ao} {E:A3} {s:An} {K:Frag}
noncomputable def ledger (h:Heap) (L d:Addr):List (Addr × Obj):=(List.range h.objs.size).filterMap λ a=>if a=L\/a=d then none else (h.get? a).map λ o=>(a,o)
end
end Att
namespace L2
open PySem PySem.Spec PyProof.Rows
variable {fd:FuncData}
theorem XD:∀ {vs:A7} {ns:A6},IntsAre vs ns->Vals (ns.map V.int) vs
 | _,_,.nil=>.nil
 | _,_,.cons n t h=>.cons ⟨t,rfl⟩ (XD h)
def zij (H:Hp):Prop:=∀ b,H b=none\/∃ o xs,H b=some (.frz o (.lst xs))
theorem zeY {P:Af} {w:World} {K:A0} {mg mb:A4} {CX:CXT} {k:Nat} {fa a:Addr} {x:Str} {sp:Sp} {s₁:An} {vs:A7} {ns:A6}
  (KX:K.In s₁.heap) (hns:s₁.heap.Ns mainGlobals mg) (hb:s₁.heap.Ns builtinsNs mb) (hbb:∀ x:Str,x≠"__name__"->mb x=bootBuiltins x) (hlim:s₁.heap.NoLimit) (hg:s₁.gens=#[])
  (ha:s₁.heap.get? a=some { cls:=.type "list",data:=.seq vs.toArray }) (hi:IntsAre vs ns) (hl:ns.length<=sizeLine) (hr:Room k callerA)
  (F:∀ base:Heap,K.In base->base.Ns mainGlobals mg->FnOk P w K mg base CX k fa fd [x] sp) (hbind:∀ (s:An) (u:Am),BindsTo s fd ⟨[u],[]⟩ [(x,u)])
  (hsp:∀ H:Hp,zij H->SqL K H a (ns.map V.int)->sp [.ref a] H (λ v _=>v=.bl true) λ _ _ _=>False)
  (hCX:∀ H e s',CX [] H s₁ (λ _ _ _=>False) e s'->False) :
  codeAny (model P w) callerA (.call (.ref fa) ⟨[.ref a],[]⟩) (λ r s'=>r=.ok (.ret (.bool true))/\OldK s₁.heap s'.heap/\s'.os=s₁.os/\AllBare s'.gens) s₁:=by
 have rv:=XD hi;have lenV:=hi.length;have core:∀ H:Hp,zij H->SqL K H a (ns.map V.int)->HOk P w H s₁.heap->(∀ b,H b≠none->b=a)->(H a≠none->K.lookup a=none) ->
   codeAny (model P w) callerA (.call (.ref fa) ⟨[.ref a],[]⟩) (λ r s'=>r=.ok (.ret (.bool true))/\OldK s₁.heap s'.heap/\s'.os=s₁.os/\AllBare s'.gens) s₁:=by
  intro H hO hS hok hA hK;have base_of:∀ {b:Addr} {o:Obj},s₁.heap.get? b=some o->H b=none->(W2 s₁.heap H).get? b=some o:=λ e n=>zff e n;have noA:∀ {b:Addr} {o:Obj} {es:Array DictEntry} {ep:Nat},s₁.heap.get? b=some o->o.data=.dict es ep->H b=none:=λ {b o es ep} e d=>by
   cases q:H b with
   | none=>rfl
   | some u =>
    have e':b=a:=hA b (by rw [q];simp);subst e';rw [ha] at e;cases e;have d':Data.seq vs.toArray _=Data.dict es ep:=d;cases d'
  have nsK:∀ {b:Addr} {m:A4},s₁.heap.Ns b m->(W2 s₁.heap H).Ns b m:=λ {b m} ⟨o,es,ep,e,d,r⟩=>⟨o,es,ep,base_of e (noA e d),d,r⟩;have hKb:K.In (W2 s₁.heap H):=λ b o e=>base_of (KX b o e) (by
   cases q:H b with
   | none=>rfl
   | some u =>
    have e':b=a:=hA b (by rw [q];simp);subst e';rw [hK (by rw [q];simp)] at e;cases e)
  have hM:Mod K mg (W2 s₁.heap H):=⟨hKb,nsK hns,⟨mb,nsK hb,hbb⟩,let ⟨mc,h1,h2⟩:=hlim;⟨mc,nsK h1,h2⟩⟩;have e0:Env0 P w K mg (W2 s₁.heap H) callerA [] s₁ H:=⟨rfl,hM,λ b o e=>zgk e,Nat.le_of_eq (zdw _ _),trivial,λ b hb=>absurd (show b∈([]:Ab) from hb) (by simp),hok,.of_eq hg⟩;refine cU ((F _ hKb (nsK hns)).run callerA [] s₁ H ⟨[.ref a],[]⟩ [.ref a] [.ref a] _ _ hr e0 (hbind s₁ (.ref a)) (.cons rfl .nil) (hsp H hO hS)) λ r s' h=>?_;cases r with
  | error e=>exact (hCX H e s' h).elim
  | ok fl =>
   cases fl with
   | next=>exact False.elim h
   | brk=>exact False.elim h
   | cont=>exact False.elim h
   | ret u =>
    obtain ⟨v,H',os,bare,un,hok',r',q⟩:=h;have q':v=.bl true:=q;subst q';obtain rfl:u=Value.bool true:=r';refine ⟨rfl,OldK.of_keep λ b o e=>?_,os,bare⟩;cases q:H b with
    | none=>exact un.keep b o e q (by intro z;exact absurd (show b∈([]:Ab) from z) (by simp)) (by simp)
    | some u =>
     rcases hO b with z|⟨ob,xs,z⟩
     ·rw [q] at z;cases z
     ·have z2:=un.frzs b ob _ z;obtain ⟨e1,_⟩:=hok b _ z;obtain ⟨e2,_⟩:=hok' b _ z2;rw [e] at e1;cases e1;exact e2
 cases hk:K.lookup a with
 | some o =>
  have e:=KX a o hk;rw [ha] at e;cases e;refine core (λ _=>none) (λ _=>.inl rfl) (.inr ⟨_,vs.toArray,_,hk,rfl,rfl,rfl,by rw [av,lenV];exact hl,by simpa using rv⟩) (λ b u z=>by have z':(none:Option HO)=some u:=z;cases z') (λ b z=>absurd rfl z) λ z=>absurd rfl z
 | none =>
  refine core (λ b=>if b=a then some (.frz { cls:=.type "list",data:=.seq vs.toArray } (.lst (ns.map V.int))) else none) (λ b=>?_) (.inl (.inr ⟨{ cls:=.type "list",data:=.seq vs.toArray },ax rfl⟩)) (λ b u z=>?_) (λ b z=>?_) λ _=>hk
  ·by_cases hb:b=a
   ·exact .inr ⟨_,_,ax hb⟩
   ·exact .inl (aq hb)
  ·by_cases hb:b=a
   ·have z':=(ax hb).symm.trans z;cases z';subst hb;exact ⟨ha,by rw [ai];exact hl,vs,_,rv,ha⟩
   ·have z':=(aq hb).symm.trans z;cases z'
  ·by_cases hb:b=a
   ·exact hb
   ·exact absurd (aq hb) z
def walk_of {l:PySem.W.OpenLaw} {n k:Nat} {q:Af} {loose:A8} {XP:(Str->Option Value)->Heap->Prop} {YP:World->Heap->Prop} {d:DefRec} {K:Params->PySem.W.Frag} {CX:World->CXT} {sp:World->Sp} {x:Str}
  (hn:l.most=some n) (hn2:n<=sizeLine) (hdf:d.params.defaults=[]) (hr:Room k callerA)
  (hY:∀ (w:World) (h:Heap),YP w h->(K w.params).In h)
  (F:∀ (w:World) (mg:A4) (fa:Addr) (h:Heap),(K w.params).In h->h.Ns mainGlobals mg->mg d.name=some (.ref fa) ->
   ∃ fd:FuncData,(∀ (s:An) (u:Am),BindsTo s fd ⟨[u],[]⟩ [(x,u)]) /\
    ∀ base:Heap,(K w.params).In base->base.Ns mainGlobals mg->FnOk l.prog w (K w.params) mg base (CX w) k fa fd [x] (sp w))
  (hsp:∀ (w:World) (H:Hp) (a:Addr) (ns:A6),ns.length<=n->zij H->SqL (K w.params) H a (ns.map V.int)->sp w [.ref a] H (λ v _=>v=.bl true) λ _ _ _=>False)
  (hCX:∀ (w:World) (H:Hp) (s:An) (e:Am) (s':An),CX w [] H s (λ _ _ _=>False) e s'->False) :
  PySem.W.WalkO q loose XP YP l.row.toRowW d [] (λ f vs=>PySem.call f vs):=by
 refine Att.attach_call hn hdf λ w s₀ s₁ mg mb fa o pm cd doc a vs ns G Y ho hd hcd hmg hobj hints hlen hg=>?_;have KX:=hY w _ Y;obtain ⟨fd,hb,hF⟩:=F w mg fa _ KX G.T.g hmg;exact zeY KX G.T.g G.T.b G.T.builtins G.T.nolimit hg hobj hints (bd hlen hn2) hr hF hb (λ H hO hS=>hsp w H a ns hlen hO hS) λ H e s'=>hCX w H s₁ e s'
noncomputable def zY (s:Stmt) (j:Nat):Stmt:=match s with
 | .ClassDef _ _ _ body _ _ _ _ _ _ _=>body.getD j (.Pass ⟨0,0,0,0⟩)
 | _=>.Pass ⟨0,0,0,0⟩
noncomputable def zP (s:Stmt):Arguments:=match s with
 | .FunctionDef _ a _ _ _ _ _ _ _ _=>a
 | _=>{ posonlyargs:=[],args:=[],vararg:=none,kwonlyargs:=[],kw_defaults:=[],kwarg:=none,defaults:=[] }
noncomputable def zK (s:Stmt):List Stmt:=match s with
 | .FunctionDef _ _ b _ _ _ _ _ _ _=>b
 | _=>[]
noncomputable def zc (s:Stmt):Scope:=match s with
 | .FunctionDef _ _ _ _ _ _ sc _ _ _=>sc
 | _=>{ kind:=.function,names:=[],isGenerator:=false,isCoroutine:=false }
abbrev CX0:CXT:=λ _ _ _ _ _ _=>False
structure Fun (K:A0) (x qual:Str) (st:Stmt) (f:Addr) (fd:FuncData):Prop where
 ex:∃ (oc:Am) (od:Aa) (kV doc pm:Am) (an:Aa) (cdv ct:Am) (osl:Ae),
  fd=fnOf x qual (zP st) (zK st) (zc st) .none kV doc pm an cdv ct/\K.lookup f=some ⟨oc,od,.func fd,osl⟩/\codeIn K cdv qual=true
 kp:keepIn K (.ref f)=true
section
variable {P:Af} {w:World} {K:A0} {mg:A4} {base:Heap}
def Fun.ok {x qual:Str} {st:Stmt} {f:Addr} {N ps:A8} {k:Nat} {sp:Sp} (F:Fun K x qual st f fd) (S:FnScope N ps (zc st)) (len:∀ vs H Q E,sp vs H Q E->vs.length=ps.length)
  (hbody:∀ (cdv:Am) (A:Ao) (outer:List Env) (s:An) (H:Hp) (vs:Ap) (Q:VK) (E:XK),Room k (A.deeper (envOfC qual (zc st) s.heap.objs.size f cdv))->sp vs H Q E ->
   ∃ t,PSs (QX CX0 P w K mg base N qual (zc st) f cdv A outer s H E).nox (zK st) t/\t { nx:=λ _ H'=>Q .non H',rt:=Q } (start N vs) H):FnOk P w K mg base CX0 (k + 1) f fd ps sp:=by
 obtain ⟨oc,od,kV,doc,pm,an,cdv,ct,osl,rfl,lk,hcd⟩:=F.ex;refine zfm lk hcd S len λ A outer s H vs Q E hr hsp=>?_;obtain ⟨t,h,q⟩:=hbody cdv A outer s H vs Q E hr hsp;exact ⟨t,h.nox,q⟩
def Fun.binds {x qual:Str} {st:Stmt} {f:Addr} {ps:A8} (F:Fun K x qual st f fd)
  (h:∀ (kV doc pm:Am) (an:Aa) (cdv ct:Am) (us:A7),us.length=ps.length->bindArgs (fnOf x qual (zP st) (zK st) (zc st) .none kV doc pm an cdv ct) ⟨us,[]⟩=pure (ps.zip us)):Binds K fd ps []:=by
 obtain ⟨oc,od,kV,doc,pm,an,cdv,ct,osl,rfl,lk,hcd⟩:=F.ex;exact .all (h kV doc pm an cdv ct)
def wJ {x qual:Str} {st:Stmt} {f:Addr} {oc:Am} {od an:Aa} {osl:Ae} {kV doc pm cdv ct:Am} (l:K.lookup f=some ⟨oc,od,.func (fnOf x qual (zP st) (zK st) (zc st) .none kV doc pm an cdv ct),osl⟩)
  (c:codeIn K cdv qual=true) (k:keepIn K (.ref f)=true):Fun K x qual st f (fnOf x qual (zP st) (zK st) (zc st) .none kV doc pm an cdv ct):=⟨⟨oc,od,kV,doc,pm,an,cdv,ct,osl,rfl,l,c⟩,k⟩
end
def zcl {A:Ao} {k:Nat} (hr:Room k A):A.units + 1 < cLine:=bj (gX (by decide:1<=64) _) hr.units
def zk {n:Nat} (h:n<=1000):n < sizeLine:=bj h (by decide)
section
variable {X:Cx}
end
def zU {c A B:Prop} [Decidable c] (h1:c->A) (h2:¬ c->B):if c then A else B:=by
 by_cases h:c
 ·rw [ax h];exact h1 h
 ·rw [aq h];exact h2 h
def Same (H H':Hp):Prop:=∀ b o,H b=some o->H' b=some o
def Same.refl (H:Hp):Same H H:=λ _ _ h=>h
def Same.trans {H H1 H2:Hp} (a:Same H H1) (b:Same H1 H2):Same H H2:=λ c o h=>b c o (a c o h)
def Same.free {H H':Hp} (e:Same H H') {l:Addr} (h:H' l=Option.none):H l=Option.none:=by
 cases q:H l with
 | none=>rfl
 | some o =>
  rw [e l o q] at h;cases h
def Same.seq {K:A0} {H H':Hp} {a:Addr} {xs:Ap} (e:Same H H') (h:SqL K H a xs):SqL K H' a xs:=by
 rcases h with (h|⟨o,h⟩)|h
 ·exact .inl (.inl (e _ _ h))
 ·exact .inl (.inr ⟨o,e _ _ h⟩)
 ·exact .inr h
end L2
set_option maxHeartbeats 4000000
namespace L2
open PySem PySem.Spec PyProof.Rows
variable {H:Hp} {K:A0} {P:Af} {w:World} {base:Heap} {s:An} {sp:Sp} {mg:A4} {ps:A8} {m5:A2} {x:Str}
abbrev GK:=Value->St->Hp->Prop
structure Exc (g h:Heap) (H:Hp) (pn:A2) (a:Addr) (cls:Am):Prop where
 ex:∃ (oe:Obj) (vs:Ac) (T:Addr) (oT:Obj) (ts:Ac),h.get? a=some oe/\oe.cls=cls/\oe.dict=none/\oe.data=.fields vs/\vs[1]?=some (.ref T)/\T≠a /\
  h.get? T=some oT/\oT.data=.fields ts/\ts[3]?=some .none/\g.get? T=none/\H T=none/\∀ p∈pn,p.1≠T
 ga:g.get? a=none
 Ha:H a=none
 pa:∀ p∈pn,p.1≠a
def ObjOk.there {h:Heap} {a:Addr} {o:HO} (x:ObjOk P w H h a o):∃ ob,h.get? a=some ob:=by
 cases o with
 | lst xs=>obtain ⟨_,_,_,_,e⟩:=x;exact ⟨_,e⟩
 | tup xs=>obtain ⟨_,_,_,ob,e,_⟩:=x;exact ⟨_,e⟩
 | dK n9=>obtain ⟨_,_,_,_,o,_,_,e,_⟩:=x;exact ⟨_,e⟩
 | dT n9=>obtain ⟨_,_,_,_,o,_,_,e,_⟩:=x;exact ⟨_,e⟩
 | set S n=>obtain ⟨o,_,_,_,e,_⟩:=x;exact ⟨_,e⟩
 | ins C dx fs=>obtain ⟨_,_,_,e,_⟩:=x;exact ⟨_,e⟩
 | own y=>obtain ⟨_,e⟩:=x;exact ⟨_,e⟩
 | xd fs=>obtain ⟨_,⟨_,_,_,e,_⟩,_⟩:=x;exact ⟨_,e⟩
 | rng lo hi=>obtain ⟨_,_,_,e⟩:=x;exact ⟨_,e⟩
 | frz ob u=>obtain ⟨e,_⟩:=x;exact ⟨_,e⟩
 | tbl ps=>exact ⟨_,(show h.get? a=some _ from x)⟩
 | met f y=>exact ⟨_,(show h.get? a=some _ from x)⟩
 | ext φ=>obtain ⟨_,⟨_,e⟩,_⟩:=x;exact ⟨_,e⟩
section
variable {M:Model} {A:Ao} {E:A3} {s:An}
def X5 {env:Env} {outer:List Env} {L e:Addr} {oe:Obj} {vs:Ac} {head:Am} {hadNext:Bool} {Q:Ag}
  (hfr:A.frames=some (env :: outer)) (hl:s.heap.FunFrames base (env :: outer)) (hf:env.frame=some L) (he:s.heap.get? e=some oe) (hd:oe.data=.fields vs) (hsz:1 < vs.size)
  (h:∀ h' T,(∀ b o,b ∉ (env :: outer).filterMap (·.frame)->b≠e->s.heap.get? b=some o->h'.get? b=some o)->(∀ b o,b≠e->s.heap.get? b=some o->∃ sl,h'.get? b=some { o with slots:=sl }) ->
   s.heap.get? T=none->T≠e->h'.get? e=some (oe.mapFields (·.setIfInBounds 1 (.ref T)))->(∃ oT ts,h'.get? T=some oT/\oT.data=.fields ts/\ts[3]?=some .none)->Q () { s with heap:=h' }) :
  wpAny M A (do let a <- frameOf env;let pl <- entryPlaceOf L hadNext;let b <- EntryCells.newEntry head a .none (rawInt L) .none pl;setField (.ref e) 1 b) (λ _ s'=>wpAny M A (setFlight (.ref e) none) Q E s') E s:=by
 have hene:e ∉ (env :: outer).filterMap (·.frame):=λ hm=>by
  obtain ⟨_,o,ho,hnf⟩:=hl.mem hm;rw [he] at ho;injection ho with ho;subst ho;exact hnf vs hd
 refine af (wpAny_frameOf_fun hfr hl hf λ h₁ hs₁=>?_);refine af (wpAny_entryPlaceOf λ pl hpl=>?_);unfold EntryCells.newEntry newFields;refine af (eu ?_ (hpl.sizeOk5 _ _ _ _ _));have he₁:h₁.get? e=some oe:=(hs₁.2.1 e hene).trans he;have he₂:=ak (h:=h₁) { cls:=.type "traceback",dict:=none,data:=.fields ([head,.ref L,.none,rawInt L,.none] ++ (if pl.isEmpty then List.replicate 6 Value.none else pl)).toArray } he₁;refine dW he₂ hd hsz ?_;have hTe:h₁.objs.size≠e:=dA (aw he₁);have hd₃:=b6 hd (·.setIfInBounds 1 (Value.ref h₁.objs.size));have he₃:=bK (Obj.mapFields (·.setIfInBounds 1 (Value.ref h₁.objs.size))) he₂ (du hd₃);have hT₃:=(bH (h₁.push { cls:=.type "traceback",dict:=none,data:=.fields ([head,.ref L,.none,rawInt L,.none] ++ (if pl.isEmpty then List.replicate 6 Value.none else pl)).toArray })
  (Obj.mapFields (·.setIfInBounds 1 (Value.ref h₁.objs.size))) (ba hTe)).trans (ay h₁ rfl)
 unfold setFlight;refine af (bx he₃ hd₃ (x:=.ref h₁.objs.size) (by simp [hsz]) ?_);rw [ax (show (Value.ref h₁.objs.size != Value.none)=true from by simp)];refine dW hT₃ rfl (by simp only [av,aD,bb,dS] <;> lia) ?_;have keep:∀ b o,b≠e->h₁.get? b=some o ->
   (((h₁.push { cls:=.type "traceback",dict:=none,data:=.fields ([head,.ref L,.none,rawInt L,.none] ++ (if pl.isEmpty then List.replicate 6 Value.none else pl)).toArray }).update e (Obj.mapFields (·.setIfInBounds 1 (Value.ref h₁.objs.size)))).update h₁.objs.size
    (Obj.mapFields (·.setIfInBounds 3 ((none:Aa).elim Value.none λ f=>rawInt f)))).get? b=some o:=λ b o hbe hb=>by
  have hbT:h₁.objs.size≠b:=dA (aw hb);rw [bH _ _ hbT,bH _ _ (ba hbe)];exact ak _ hb
 refine h _ h₁.objs.size (λ b o hb hbe q=>keep b o hbe ((hs₁.2.1 b hb).trans q)) (λ b o hbe q=>?_) (Heap.get?_none_of_le (by rw [hs₁.1];exact au _)) hTe ?_ ?_
 ·obtain ⟨sl,hs⟩:=hs₁.2.2 b o q;exact ⟨sl,keep b _ hbe hs⟩
 ·rw [bH _ _ hTe];exact he₃
 ·exact ⟨_,_,bK _ hT₃ (du (b6 rfl _)),b6 rfl _,by first|(simp;done)|(rcases hpl with rfl|⟨_,_,_,_,_,_,_,rfl⟩ <;> simp)⟩
def XS {env:Env} {outer:List Env} {L e:Addr} {oe:Obj} {vs:Ac} {ch:Ab} {Q:Ag}
  (hfr:A.frames=some (env :: outer)) (hl:s.heap.FunFrames base (env :: outer)) (hf:env.frame=some L) (he:s.heap.get? e=some oe) (hd:oe.data=.fields vs)
  (h1:(vs[1]?=some .none/\ch=[e])\/∃ T oT ts,vs[1]?=some (.ref T)/\T≠e/\s.heap.get? T=some oT/\oT.data=.fields ts/\ts[3]?=some .none/\ch=[e,T])
  (h:∀ h' T,(∀ b o,b ∉ (env :: outer).filterMap (·.frame)->b ∉ ch->s.heap.get? b=some o->h'.get? b=some o)->(∀ b o,b ∉ ch->s.heap.get? b=some o->∃ sl,h'.get? b=some { o with slots:=sl }) ->
   (∀ b∈ch,∃ o,h'.get? b=some o)->s.heap.get? T=none->T≠e->h'.get? e=some (oe.mapFields (·.setIfInBounds 1 (.ref T)))->(∃ oT ts,h'.get? T=some oT/\oT.data=.fields ts/\ts[3]?=some .none)->Q () { s with heap:=h' }) :
  wpAny M A (noteFrame (.ref e) env) (λ _ s'=>wpAny M A (setFlight (.ref e) none) Q E s') E s:=by
 rcases h1 with ⟨h1,rfl⟩|⟨T,oT,ts,h1,hTe,hT,hdT,h3,rfl⟩
 ·unfold noteFrame;simp only [hf];refine af (bx he hd h1 ?_);rw [aq (by decide)];refine X5 hfr hl hf he hd (bD.mp h1).1 λ h' T k1 k2 k3 k4 k5 k6=>?_;refine h h' T (λ b o hb hc q=>k1 b o hb (λ z=>hc (by simp [z])) q) (λ b o hc q=>k2 b o (λ z=>hc (by simp [z])) q) (λ b hb=>?_) k3 k4 k5 k6;obtain rfl:b=e:=by simpa using hb
  exact ⟨_,k5⟩
 ·unfold noteFrame;simp only [hf];refine af (bx he hd h1 ?_);rw [ax (show (Value.ref T != Value.none)=true from by simp)];refine af (bx hT hdT h3 ?_);rw [aq (show ¬ ((Value.none == rawInt L)=true) from by simp [rawInt])];refine af (dW hT hdT (bD.mp h3).1 ?_);have other:∀ b,b≠T->(s.heap.update T (Obj.mapFields (·.setIfInBounds 3 Value.none))).get? b=s.heap.get? b:=λ b hb=>bH _ _ (ba hb);have noRecord:∀ b o,s.heap.get? b=some o->(∀ vs,o.data≠.fields vs)->b≠T:=λ b o hb hnf q=>by
   rw [q,hT] at hb;injection hb with hb;subst hb;exact hnf ts hdT
  have hT':=bK (Obj.mapFields (·.setIfInBounds 3 Value.none)) hT (du (b6 hdT _));refine X5 hfr (hl.of_keeps λ b o hb hnf=>⟨o,(other b (noRecord b o hb hnf)).trans hb,rfl⟩) hf ((other e (ba hTe)).trans he) hd (bD.mp h1).1 λ h' T' k1 k2 k3 k4 k5 k6=>?_;have hTT:T'≠T:=λ z=>by rw [z,hT'] at k3;cases k3
  refine h h' T' (λ b o hb hc q=>k1 b o hb (λ z=>hc (by simp [z])) ((other b (λ z=>hc (by simp [z]))).trans q)) (λ b o hc q=>k2 b o (λ z=>hc (by simp [z])) ((other b (λ z=>hc (by simp [z]))).trans q)) (λ b hb=>?_) ((other T' hTT).symm.trans k3) k4 k5 k6;rcases az.mp hb with rfl|hb
  ·exact ⟨_,k5⟩
  ·obtain rfl:b=T:=by simpa using hb
   obtain ⟨sl,q⟩:=k2 b _ hTe hT';exact ⟨_,q⟩
end
section
variable {X:Cx} {m5:A2} {σ:List Aq} {H:Hp} {s:An} {h':Heap}
def Inv.stepx {ch:Ab} (I:Inv X m5 σ H s)
  (hch:∀ b∈ch,X.s₀.heap.get? b=none/\H b=none/\∀ p∈X.pn ++ m5,p.1≠b) (hrec:∀ b∈ch,∃ o vs,s.heap.get? b=some o/\o.data=.fields vs)
  (keep:∀ b o,b ∉ frs X.stack->b ∉ ch->s.heap.get? b=some o->h'.get? b=some o)
  (slot:∀ b o,b ∉ ch->s.heap.get? b=some o->∃ sl,h'.get? b=some { o with slots:=sl }) (there:∀ b∈ch,∃ o,h'.get? b=some o):Inv X m5 σ H { s with heap:=h' }:=by
 have neL:∀ b∈ch,b≠X.env.locals:=λ b hb z=>by
  obtain ⟨o,vs,ho,hd⟩:=hrec b hb;obtain ⟨m,⟨o',es,ep,ho',hd',_⟩,_⟩:=I.loc;rw [z,ho'] at ho;cases ho;rw [hd'] at hd;cases hd
 have neC:∀ b∈ch,∀ x c,X.env.cells.lookup x=some c->c≠b:=λ b hb x c e z=>by
  obtain ⟨o,vs,ho,hd⟩:=hrec b hb;obtain ⟨v,o',ho',hd'⟩:=I.cell x c e;rw [z,ho] at ho';cases ho';rw [hd] at hd';cases hd'
 have nch:∀ b o,X.s₀.heap.get? b=some o->b ∉ ch:=λ b o e hb=>by rw [(hch b hb).1] at e;cases e
 have trk:∀ b u,H b=some u->b ∉ ch/\b ∉ frs X.stack:=λ b u e=>⟨(λ hb=>by rw [(hch b hb).2.1] at e;cases e),(λ hb=>by rw [I.stkFree b hb] at e;cases e)⟩;have nfs:∀ b,b ∉ X.fs->b≠X.env.locals->b ∉ frs X.stack:=λ b h1 h2 z=>(az.mp (I.stkSub b z)).elim h2 h1;have ltL:∀ b o,X.s₀.heap.get? b=some o->b≠X.env.locals:=λ b o e=>aF (aI (aw e) I.ok.above);have cellK:∀ x c,X.env.cells.lookup x=some c->∀ v,s.heap.IsCell c v->h'.IsCell c v:=λ x c e v ⟨o,ho,hd⟩=>by
  obtain ⟨sl,q⟩:=slot c o (λ z=>neC c z x c e rfl) ho;exact ⟨_,q,hd⟩
 have hok:HOk X.prog X.w H h':=λ b u e=>(I.hok b u e).stay (λ c v hc q=>by
  have hcH:∃ u',H c=some u':=by
   rcases hc with rfl|z
   ·exact ⟨_,e⟩
   ·exact ⟨_,z⟩
  obtain ⟨u',hu⟩:=hcH;exact keep c v (trk c u' hu).2 (trk c u' hu).1 q) (λ _ q=>q) λ _ _ q=>q
 refine ⟨I.ok,I.os,I.bare,⟨λ b o e n hb hx=>?_,λ b o e n hb hx=>?_,I.base.free,λ b o e hx=>?_,I.base.tups,I.base.frzs,I.base.tbls⟩,?_,λ x c e=>?_,I.free,I.freeC,λ p hp=>?_,hok,I.len⟩
 ·exact keep b o (nfs b hb (ltL b o e)) (nch b o e) (I.base.keep b o e n hb hx)
 ·obtain ⟨sl,e1⟩:=I.base.slot b o e n hb hx;obtain ⟨sl',e2⟩:=slot b _ (nch b o e) e1;exact ⟨sl',e2⟩
 ·obtain ⟨o',e1⟩:=I.base.there b o e hx;obtain ⟨sl',e2⟩:=slot b _ (nch b o e) e1;exact ⟨_,e2⟩
 ·obtain ⟨m,⟨o,es,ep,ho,r⟩,hl⟩:=I.loc;obtain ⟨sl,q⟩:=slot _ o (λ z=>neL _ z rfl) ho;refine ⟨m,⟨_,es,ep,q,r⟩,λ i x v e1 e2 e3=>?_⟩;obtain ⟨u,r',l⟩:=hl i x v e1 e2 e3;refine ⟨u,r',?_⟩;rcases l with l|⟨k,c,e,z⟩
  ·exact .inl l
  ·exact .inr ⟨k,c,e,cellK x c e _ z⟩
 ·obtain ⟨v,z⟩:=I.cell x c e;exact ⟨v,cellK x c e v z⟩
 ·obtain ⟨e,n,ne,nf,d⟩:=I.pin p hp;exact ⟨keep p.1 p.2 (nfs _ nf ne) (λ z=>(hch p.1 z).2.2 p hp rfl) e,n,ne,nf,d⟩
theorem XT {a:Addr} {oe:Obj} {vs:Ac} {E:A3} {Q:Ag} (I:Inv X m5 σ H s) (hst:X.stack=X.env :: X.outer) (hfr:X.env.frame=some X.env.locals) (hex:X.ex=[])
  (he:s.heap.get? a=some oe) (hdict:oe.dict=none) (hd:oe.data=.fields vs) (ga:X.s₀.heap.get? a=none) (Ha:H a=none) (hpa:∀ p∈X.pn ++ m5,p.1≠a)
  (h1:vs[1]?=some .none\/∃ T oT ts,vs[1]?=some (.ref T)/\T≠a/\s.heap.get? T=some oT/\oT.data=.fields ts/\ts[3]?=some .none/\X.s₀.heap.get? T=none/\H T=none/\∀ p∈X.pn ++ m5,p.1≠T)
  (hQ:∀ s',Inv X m5 σ H s'->Exc X.s₀.heap s'.heap H (X.pn ++ m5) a oe.cls->Q () s') :
  wpAny (model X.prog X.w) X.A (noteFrame (.ref a) X.env) (λ _ s'=>wpAny (model X.prog X.w) X.A (setFlight (.ref a) none) Q E s') E s:=by
 have hfs:=I.ok.frames;have hFF:=I.stack;rw [hst] at hfs hFF;have hS:frs X.stack=(X.env :: X.outer).filterMap (·.frame):=by rw [hst];rfl
 have fin:∀ (ch:Ab),(∀ b∈ch,X.s₀.heap.get? b=none/\H b=none/\∀ p∈X.pn ++ m5,p.1≠b)->(∀ b∈ch,∃ o vs,s.heap.get? b=some o/\o.data=.fields vs)->a∈ch ->
   ∀ h' T,(∀ b o,b ∉ (X.env :: X.outer).filterMap (·.frame)->b ∉ ch->s.heap.get? b=some o->h'.get? b=some o)->(∀ b o,b ∉ ch->s.heap.get? b=some o->∃ sl,h'.get? b=some { o with slots:=sl }) ->
   (∀ b∈ch,∃ o,h'.get? b=some o)->s.heap.get? T=none->T≠a->h'.get? a=some (oe.mapFields (·.setIfInBounds 1 (.ref T)))->(∃ oT ts,h'.get? T=some oT/\oT.data=.fields ts/\ts[3]?=some .none)->Q () { s with heap:=h' }:=by
  intro ch hch hrec ha h' T k1 k2 k3 k4 k5 k6 k7;have I':=I.stepx (h':=h') hch hrec (λ b o hb hc q=>k1 b o (by rw [<- hS];exact hb) hc q) k2 k3;refine hQ _ I' ⟨?_,ga,Ha,hpa⟩;obtain ⟨oT,ts,q1,q2,q3⟩:=k7;have hsz:1 < vs.size:=by
   rcases h1 with z|⟨_,_,_,z,_⟩ <;> exact (bD.mp z).1
  refine ⟨_,_,T,oT,ts,k6,Obj.cls_mapFields _ _,by obtain ⟨c,d,dt,sl⟩:=oe;cases dt <;> exact hdict,b6 hd _,by simp [hsz],k5,q1,q2,q3,?_,?_,λ p hp z=>?_⟩
  ·cases e:X.s₀.heap.get? T with
   | none=>rfl
   | some o =>
    obtain ⟨o',e'⟩:=I.base.there T o e (by rw [hex];simp);rw [k4] at e';cases e'
  ·cases e:H T with
   | none=>rfl
   | some u =>
    obtain ⟨o',e'⟩:=(I.hok T u e).there;rw [k4] at e';cases e'
  ·have:=(I.pin p hp).1;rw [z,k4] at this;cases this
 rcases h1 with h1|⟨T,oT,ts,h1,hTa,hT,hdT,h3,gT,HT,pT⟩
 ·refine XS (ch:=[a]) hfs hFF hfr he hd (.inl ⟨h1,rfl⟩) (fin [a] (λ b hb=>?_) (λ b hb=>?_) (by simp))
  ·obtain rfl:b=a:=by simpa using hb
   exact ⟨ga,Ha,hpa⟩
  ·obtain rfl:b=a:=by simpa using hb
   exact ⟨oe,vs,he,hd⟩
 ·refine XS (ch:=[a,T]) hfs hFF hfr he hd (.inr ⟨T,oT,ts,h1,hTa,hT,hdT,h3,rfl⟩) (fin [a,T] (λ b hb=>?_) (λ b hb=>?_) (by simp))
  ·rcases az.mp hb with rfl|hb
   ·exact ⟨ga,Ha,hpa⟩
   ·obtain rfl:b=T:=by simpa using hb
    exact ⟨gT,HT,pT⟩
  ·rcases az.mp hb with rfl|hb
   ·exact ⟨oe,vs,he,hd⟩
   ·obtain rfl:b=T:=by simpa using hb
    exact ⟨oT,ts,hT,hdT⟩
end
def JG (X:Cx) (G:GK) (e:Am) (s:An):Prop:=∃ a cls σ H,e=Value.ref a/\Inv X [] σ H s/\Exc X.s₀.heap s.heap H X.pn a cls/\G cls σ H
def xeG (X:Cx) (G:GK) (e:Am) (s:An):Prop:=wpAny (model X.prog X.w) X.A (noteFrame e X.env) (λ _ s'=>wpAny (model X.prog X.w) X.A (setFlight e none) (λ _ s''=>JG X G e s'') (λ _ _=>False) s') (λ _ _=>False) s
noncomputable abbrev Cx.exg (X:Cx) (G:GK):Cx:=X.wish (xeG X G)
structure Bod (X:Cx):Prop where
 st:X.stack=X.env :: X.outer
 fr:X.env.frame=some X.env.locals
 ex:X.ex=[]
def qC {X:Cx} {G:GK}:PassesOwn (model X.prog X.w) X.A X.env (xeG X G):=PassesOwn.looking
def Inv.nopins {X:Cx} {σ:St} (I:Inv X m5 σ H s):Inv X [] σ H s:=I.pins_of λ p hp=>absurd hp (by simp)
def Exc.less {g h:Heap} {pn pn':A2} {a:Addr} {cls:Am} (x:Exc g h H pn a cls) (hp:∀ p∈pn',p∈pn):Exc g h H pn' a cls:=by
 obtain ⟨⟨oe,vs,T,oT,ts,h1,h2,h3,h4,h5,h6,h7,h8,h9,h10,h11,h12⟩,ga,Ha,pa⟩:=x;exact ⟨⟨oe,vs,T,oT,ts,h1,h2,h3,h4,h5,h6,h7,h8,h9,h10,h11,λ p q=>h12 p (hp p q)⟩,ga,Ha,λ p q=>pa p (hp p q)⟩
def CXr (P:Af) (w:World):CXT:=λ outer H s E e s'=>∃ a cls H',e=Value.ref a/\s'.os=s.os/\AllBare s'.gens/\Un (frs outer) [] H H' s.heap s'.heap/\HOk P w H' s'.heap /\
 Exc s.heap s'.heap H' [] a cls/\E cls none H'
section
variable {X:Cx} {m5:A2} {σ:St} {H:Hp} {s:An} {G:GK}
def Qz {e:Am} {s':An} (B:Bod X) (I:Inv X m5 σ H s) (h:CXr X.prog X.w X.stack H s (λ cls _ H'=>G cls σ H') e s'):xeG X G e s':=by
 obtain ⟨a,cls,H',rfl,os,bare,un,hok,⟨⟨oe,vs,T,oT,ts,h1,h2,h3,h4,h5,h6,h7,h8,h9,h10,h11,_⟩,ga,Ha,_⟩,hG⟩:=h;have I':Inv X m5 σ H' s':=I.call' os un hok bare (λ b z=>absurd z (by simp));have old:∀ b,s.heap.get? b=none->X.s₀.heap.get? b=none:=λ b hb=>by
  cases e:X.s₀.heap.get? b with
  | none=>rfl
  | some o =>
   obtain ⟨o',e'⟩:=I.base.there b o e (by rw [B.ex];simp);rw [hb] at e';cases e'
 have pin:∀ b,s.heap.get? b=none->∀ p∈X.pn ++ m5,p.1≠b:=λ b hb p hp z=>by
  have:=(I.pin p hp).1;rw [z,hb] at this;cases this
 refine XT I' B.st B.fr B.ex h1 h3 h4 (old a ga) Ha (pin a ga) (.inr ⟨T,oT,ts,h5,h6,h7,h8,h9,old T h10,h11,pin T h10⟩) λ s'' I2 x=>?_;exact ⟨a,oe.cls,σ,H',rfl,I2.nopins,x.less λ p hp=>bS _ hp,h2 ▸ hG⟩
def zaP {a:Addr} {cls:Am} {args:A7} {h':Heap} (B:Bod X) (I:Inv X m5 σ H s) (hm:Heap.MadeExcOf s.heap h' a cls args) (hG:G cls σ H):xeG X G (.ref a) { s with heap:=h' }:=by
 obtain ⟨t,h1,h2,h3⟩:=hm.there;have I':Inv X m5 σ H { s with heap:=h' }:=I.kept (t':=s.toks) hm.keeps;have ga:X.s₀.heap.get? a=none:=by
  cases e:X.s₀.heap.get? a with
  | none=>rfl
  | some o =>
   obtain ⟨o',e'⟩:=I.base.there a o e (by rw [B.ex];simp);rw [hm.new] at e';cases e'
 have Ha:H a=none:=by
  cases e:H a with
  | none=>rfl
  | some u =>
   obtain ⟨o',e'⟩:=(I.hok a u e).there;rw [hm.new] at e';cases e'
 refine XT (s:={ s with heap:=h' }) I' B.st B.fr B.ex h1 rfl rfl ga Ha (λ p hp z=>?_) (.inl rfl) λ s'' I2 x=>?_
 ·have:=(I.pin p hp).1;rw [z,hm.new] at this;cases this
 ·exact ⟨a,cls,σ,H,rfl,I2.nopins,x.less λ p hp=>bS _ hp,hG⟩
end
section
variable {P:Af} {w:World} {K:A0} {mg:A4} {base:Heap}
noncomputable abbrev cxR (P:Af) (w:World) (K:A0) (mg:A4) (base:Heap) (N:A8) (qual:Str) (scope:Scope) (f:Addr) (cd:Am) (A:Ao) (outer:List Env) (s:An) (H:Hp) (E:XK):Cx :=
 QX (CXr P w) P w K mg base N qual scope f cd A outer s H E
def Fun.okx {x qual:Str} {st:Stmt} {f:Addr} {fd:FuncData} {N ps:A8} {k:Nat} (F:Fun K x qual st f fd) (S:FnScope N ps (zc st)) (len:∀ vs H Q E,sp vs H Q E->vs.length=ps.length)
  (hbody:∀ (cdv:Am) (A:Ao) (outer:List Env) (s:An) (H:Hp) (vs:Ap) (Q:VK) (E:XK),Room k (A.deeper (envOfC qual (zc st) s.heap.objs.size f cdv))->sp vs H Q E ->
   ∃ t,PSs ((cxR P w K mg base N qual (zc st) f cdv A outer s H E).exg λ cls _ H'=>E cls none H') (zK st) t/\t { nx:=λ _ H'=>Q .non H',rt:=Q } (start N vs) H):FnOk P w K mg base (CXr P w) (k + 1) f fd ps sp:=by
 obtain ⟨oc,od,kV,doc,pm,an,cdv,ct,osl,rfl,lk,hcd⟩:=F.ex;refine zfm lk hcd S len λ A outer s H vs Q E hr hsp=>?_;obtain ⟨t,h,q⟩:=hbody cdv A outer s H vs Q E hr hsp;refine ⟨t,λ m5 s σ H' D I hw=>?_,q⟩;refine bg (h m5 s σ H' D (I.wish _) hw) (λ _ _ z=>z.unwish) λ e s' z=>?_;refine af (bg (show wpAny _ _ _ _ _ _ from z) (λ _ s1 y1=>bg y1 (λ _ s'' y=>?_) λ _ _ y=>y.elim) λ _ _ y=>y.elim);obtain ⟨a,cls,σ2,H2,rfl,J,xx,g⟩:=y;exact ⟨a,cls,H2,rfl,J.os,J.bare,J.base,J.hok,xx.less (λ p hp=>absurd hp (by simp)),g⟩
end
structure Cal (P:Af) (w:World) (K:A0) (mg:A4) (base:Heap) (x:Str) (k:Nat) (ps:A8) (dvs:Ap) (sp:Sp):Prop where
 ex:∃ f fd ds,FnOk P w K mg base (CXr P w) k f fd ps sp/\mg x=some (.ref f)/\keepIn K (.ref f)=true/\Binds K fd ps ds/\Vals dvs ds
structure MCal (P:Af) (w:World) (K:A0) (mg:A4) (base:Heap) (C:Addr) (m:Str) (k:Nat) (ps:A8) (dvs:Ap) (sp:Sp):Prop where
 cl:Cls K C
 ex:∃ f fd ds,FnOk P w K mg base (CXr P w) k f fd ps sp/\Meth K C m f/\Binds K fd ps ds/\Vals dvs ds
structure KCal (P:Af) (w:World) (K:A0) (mg:A4) (base:Heap) (x:Str) (C:Addr) (k:Nat) (ps:A8) (dvs:Ap) (sp:Sp):Prop where
 gl:mg x=some (.ref C)
 ex:∃ f fd ds,FnOk P w K mg base (CXr P w) k f fd ps sp/\Mk K C f/\Binds K fd ps ds/\Vals dvs ds
def Cal.mono {j k:Nat} {dvs:Ap} (c:Cal P w K mg base x j ps dvs sp) (h:j<=k:=by decide):Cal P w K mg base x k ps dvs sp:=by
 obtain ⟨f,fd,ds,a,b⟩:=c.ex;exact ⟨f,fd,ds,a.mono h,b⟩
def MCal.mono {C:Addr} {m:Str} {j k:Nat} {dvs:Ap} (c:MCal P w K mg base C m j ps dvs sp) (h:j<=k:=by decide):MCal P w K mg base C m k ps dvs sp:=by
 obtain ⟨f,fd,ds,a,b⟩:=c.ex;exact ⟨c.cl,f,fd,ds,a.mono h,b⟩
def KCal.mono {C:Addr} {j k:Nat} {dvs:Ap} (c:KCal P w K mg base x C j ps dvs sp) (h:j<=k:=by decide):KCal P w K mg base x C k ps dvs sp:=by
 obtain ⟨f,fd,ds,a,b⟩:=c.ex;exact ⟨c.gl,f,fd,ds,a.mono h,b⟩
section
variable {X:Cx} {G:GK} {k:Nat} {f C:Addr} {fd:FuncData} {ps:A8} {sp:Sp} {dvs:Ap} {ds:A7} {x m:Str} {p pos apos:Pos} {e o:Expr} {es:List Expr} {ta:TE} {t:TA}
theorem Q4 {σ:St} {Q:VK} {us:A7} {vs:Ap} (B:Bod X) (F:FnOk X.prog X.w X.K X.mg X.base (CXr X.prog X.w) k f fd ps sp) (hr:Room k X.A) (hb:Binds X.K fd ps ds) (hd:Vals dvs ds)
  (I:Inv (X.exg G) m5 σ H s) (r:Vals vs us) (h:sp (vs ++ dvs) H Q (λ cls _ H'=>G cls σ H')):wpAny (model X.prog X.w) X.A (call (.ref f) us) (EP (X.exg G) m5 σ Q) (xeG X G) s:=by
 have r2:Vals (vs ++ dvs) (us ++ ds):=r.append hd;have hl:(us ++ ds).length=ps.length:=by rw [<- r2.length];exact F.len _ _ _ _ h
 refine fE (cU (F.run X.A X.stack s H ⟨us,[]⟩ (us ++ ds) (vs ++ dvs) Q _ hr I.unwish.env0 (hb s us I.kIn hl) r2 h) λ r s' hq=>?_);cases r with
 | error e=>exact Qz B I.unwish hq
 | ok fl =>
  cases fl with
  | ret u=>exact I.after hq
  | next=>exact False.elim hq
  | brk=>exact False.elim hq
  | cont=>exact False.elim hq
theorem zc2 {σ:St} {Q:VK} {us:A7} {vs:Ap} (B:Bod X) (M:Mk X.K C f) (F:FnOk X.prog X.w X.K X.mg X.base (CXr X.prog X.w) k f fd ps sp) (hr:Room (k + 1) X.A) (hb:Binds X.K fd ps ds) (hd:Vals dvs ds)
  (I:Inv (X.exg G) m5 σ H s) (r:Vals vs us)
  (h:∀ x dx,H x=none->H dx=none->dx≠x->sp (.ref x :: (vs ++ dvs)) (upd (upd H dx (.own x)) x (.ins C dx [])) (λ v H2=>v=.non/\Q (.ref x) H2) (λ cls _ H'=>G cls σ H')) :
  wpAny (model X.prog X.w) X.A (call (.ref C) us) (EP (X.exg G) m5 σ Q) (xeG X G) s:=by
 have hq:=h (s.heap.objs.size + 1) s.heap.objs.size (I.hok.fresh (di _)) (I.hok.fresh (au _)) (aF (ci _));have I2:=Inv.made (C:=C) I;have r2:Vals (V.ref (s.heap.objs.size + 1) :: (vs ++ dvs)) (Value.ref (s.heap.objs.size + 1) :: (us ++ ds)):=.cons rfl (r.append hd);have hl:(Value.ref (s.heap.objs.size + 1) :: us ++ ds).length=ps.length:=by
  have e:=r2.length;rw [F.len _ _ _ _ hq] at e;exact e.symm
 refine fE (zad (f:=f) I.kIn M.makes M.init (bI.mp M.fn) (cU (F.run _ X.stack _ _ ⟨Value.ref (s.heap.objs.size + 1) :: us,[]⟩ (Value.ref (s.heap.objs.size + 1) :: (us ++ ds)) _ _ _ (hr.make C us [])
  (I2.unwish.env0.make C us []) (hb _ (Value.ref (s.heap.objs.size + 1) :: us) I2.kIn hl) r2 hq) λ r s' hq'=>?_))
 cases r with
 | error e=>exact Qz B I2.unwish hq'
 | ok fl =>
  cases fl with
  | ret u =>
   obtain ⟨v,H',I3,rv,ev,q3⟩:=I2.after hq';subst ev;exact ⟨rv,⟨V.ref (s.heap.objs.size + 1),H',I3,rfl,q3⟩⟩
  | next=>exact False.elim hq'
  | brk=>exact False.elim hq'
  | cont=>exact False.elim hq'
def tCl (X:Cx) (k:Nat) (x:Str) (G:GK) (t:TA):TE:=λ σ H Q=>∃ ps dvs sp,Cal X.prog X.w X.K X.mg X.base x k ps dvs sp/\t σ H λ vs H1=>sp (vs ++ dvs) H1 Q (λ cls _ H'=>G cls σ H')
def zN (B:Bod X) (hr:Room k X.A) (ha:PA (X.exg G) (e :: es) t) (hg:Gl X x:=by rfl) (hdb:(x == ("__debug__":Str))=false:=by decide)
  (he:starEach (e :: es) X.env=(false,eval e X.env) :: starEach es X.env:=by rfl) (hpl:(backTo pos (starEach es X.env)).any (·.1)=false:=by rfl) :
  PE (X.exg G) (.Call (.Name x p) (e :: es) [] pos) (tCl X k x G t):=by
 intro m5 s σ H Q I h;obtain ⟨ps,dvs,sp,⟨f,fd,ds,F,hm,hk,hb,hd⟩,h⟩:=h;refine bL (wH I hg hm ?_ hdb);refine d7 (h₀:=X.base) I.ok.mod.kin hk (wW (ha pos m5 s σ H _ I h) λ us s1 vs H1 I1 r q=>⟨I1.kIn,?_⟩) he hpl;exact Q4 B F hr hb hd I1 r q
def tMk (X:Cx) (k:Nat) (x:Str) (G:GK) (t:TA):TE:=λ σ H Q=>∃ C ps dvs sp,KCal X.prog X.w X.K X.mg X.base x C k ps dvs sp/\t σ H λ vs H1=>∀ y dx,H1 y=none->H1 dx=none->dx≠y ->
 sp (.ref y :: (vs ++ dvs)) (upd (upd H1 dx (.own y)) y (.ins C dx [])) (λ v H2=>v=.non/\Q (.ref y) H2) (λ cls _ H'=>G cls σ H')
def wR (B:Bod X) (hr:Room (k + 1) X.A) (ha:PA (X.exg G) (e :: es) t) (hg:Gl X x:=by rfl) (hdb:(x == ("__debug__":Str))=false:=by decide)
  (he:starEach (e :: es) X.env=(false,eval e X.env) :: starEach es X.env:=by rfl) (hpl:(backTo pos (starEach es X.env)).any (·.1)=false:=by rfl) :
  PE (X.exg G) (.Call (.Name x p) (e :: es) [] pos) (tMk X k x G t):=by
 intro m5 s σ H Q I h;obtain ⟨C,ps,dvs,sp,⟨hm,f,fd,ds,F,M,hb,hd⟩,h⟩:=h;refine bL (wH I hg hm ?_ hdb);refine d7 (h₀:=X.base) I.ok.mod.kin M.kp (wW (ha pos m5 s σ H _ I h) λ us s1 vs H1 I1 r q=>⟨I1.kIn,?_⟩) he hpl;exact zc2 B M F hr hb hd I1 r q
def tMth (X:Cx) (k:Nat) (m:Str) (G:GK) (ta:TE) (t:TA):TE:=λ σ H Q=>ta σ H λ y H1=>∃ a C dx fs ps dvs sp,y=.ref a/\H1 a=some (.ins C dx fs)/\fs.lookup m=none /\
 MCal X.prog X.w X.K X.mg X.base C m k ps dvs sp/\t σ H1 λ vs H2=>sp (.ref a :: (vs ++ dvs)) H2 Q (λ cls _ H'=>G cls σ H')
def JK {pl:Sem Bool} (B:Bod X) (hr:Room k X.A) (he:PE (X.exg G) o ta) (ha:PA (X.exg G) (e :: es) t)
  (hst:starEach (e :: es) X.env=(false,eval e X.env) :: starEach es X.env:=by rfl) (hpl:(backTo pos (starEach es X.env)).any (·.1)=false:=by rfl)
  (ht:eval (.Call (.Attribute o m apos) (e :: es) [] pos) X.env=(do
   let ov <- eval o X.env
   standAt apos.atName
   let (f,first) <- holding [ov] (getMethod ov m pl)
   callWith pos f first (backTo pos (starEach (e :: es) X.env)) (backToKw pos (keywordEach [] X.env))):=by rfl) :
  PE (X.exg G) (.Call (.Attribute o m apos) (e :: es) [] pos) (tMth X k m G ta t):=by
 intro m5 s σ H Q I h;refine eJ (pl:=pl) (thn (he m5 s σ H _ I h) λ u s1 hz=>?_) ht;obtain ⟨x,H1,I1,rx,a,C,dx,fs,ps,dvs,sp,ex,ea,l,⟨c,f,fd,ds,F,hm,hb,hd⟩,q⟩:=hz;subst ex;obtain rfl:u=Value.ref a:=rx;refine wI I1 ea c hm l ?_;refine d7 (first:=[.ref a]) (h₀:=X.base) I.ok.mod.kin hm.kp (wW (ha pos m5 s1 σ H1 _ I1 q) λ us s2 vs H2 I2 r q2=>⟨I2.kIn,?_⟩) hst hpl;exact Q4 (us:=.ref a :: us) (vs:=.ref a :: vs) B F hr hb hd I2 (.cons rfl r) q2
def xI {pl:Sem Bool} (B:Bod X) (hr:Room k X.A) (he:PE (X.exg G) o ta)
  (ht:eval (.Call (.Attribute o m apos) [] [] pos) X.env=(do
   let ov <- eval o X.env
   standAt apos.atName
   let (f,first) <- holding [ov] (getMethod ov m pl)
   callWith pos f first (backTo pos (starEach [] X.env)) (backToKw pos (keywordEach [] X.env))):=by rfl) :
  PE (X.exg G) (.Call (.Attribute o m apos) [] [] pos) (tMth X k m G ta tNil):=by
 intro m5 s σ H Q I h;refine eJ (pl:=pl) (thn (he m5 s σ H _ I h) λ u s1 hz=>?_) ht;obtain ⟨x,H1,I1,rx,a,C,dx,fs,ps,dvs,sp,ex,ea,l,⟨c,f,fd,ds,F,hm,hb,hd⟩,q⟩:=hz;subst ex;obtain rfl:u=Value.ref a:=rx;refine wI I1 ea c hm l ?_;exact gW (first:=[.ref a]) I1.kIn hm.kp (Q4 (us:=[.ref a]) (vs:=[.ref a]) B F hr hb hd I1 (.cons rfl .nil) q)
def tGl (X:Cx) (x:Str):TE:=λ _ H Q=>∃ v u,X.mg x=some u/\RelV v u/\Q v H
def xJ (hg:Gl X x:=by rfl) (hd:(x == ("__debug__":Str))=false:=by decide):PE X (.Name x pos) (tGl X x):=λ _ _ _ H _ I h=>by
 obtain ⟨v,u,hm,r,h⟩:=h;exact wH I hg hm ⟨v,H,I,r,h⟩ hd
def tBi (X:Cx) (x:Str) (r:List V->Hp->VK->Prop) (t:TA):TE:=λ σ H Q=>X.mg x=none/\t σ H λ vs H1=>r vs H1 Q
def qd {id:String} {r:List V->Hp->VK->Prop} (hc:CallR X (.builtin id) r) (hv:bootBuiltins x=some (.builtin id)) (ha:PA X (e :: es) t) (hg:Gl X x:=by rfl) (hn:x≠"__name__":=by decide) (hdb:(x == ("__debug__":Str))=false:=by decide)
  (he:starEach (e :: es) X.env=(false,eval e X.env) :: starEach es X.env:=by rfl) (hpl:(backTo pos (starEach es X.env)).any (·.1)=false:=by rfl):PE X (.Call (.Name x p) (e :: es) [] pos) (tBi X x r t):=λ m5 s σ H Q I h =>
 zeD hc hg h.1 hv ha hn hdb he hpl m5 s σ H Q I h.2
def wg {T:String} {r:List V->Hp->VK->Prop} (hc:CallR X (.type T) r) (hv:bootBuiltins x=some (.type T)) (ha:PA X (e :: es) t) (hg:Gl X x:=by rfl) (hn:x≠"__name__":=by decide) (hdb:(x == ("__debug__":Str))=false:=by decide)
  (he:starEach (e :: es) X.env=(false,eval e X.env) :: starEach es X.env:=by rfl) (hpl:(backTo pos (starEach es X.env)).any (·.1)=false:=by rfl):PE X (.Call (.Name x p) (e :: es) [] pos) (tBi X x r t):=λ m5 s σ H Q I h =>
 zdd hc hg h.1 hv ha hn hdb he hpl m5 s σ H Q I h.2
end
section
variable {X:Cx} {tg:Expr} {a b c e o:Expr} {ta tb tc:TE} {pos:Pos}
def iSeq (K:A0) (tl:TE):TI:=λ σ H R=>tl σ H λ x H1=>∃ a,x=.ref a/\(((∃ xs,SqL K H1 a xs)/\R (Itl K a) H1)\/((∃ xs,SqT K H1 a xs)/\R (Itt K a) H1))
def zV {l:Expr} {tl:TE} (hl:PE X l tl):PI X tg l (iSeq X.K tl):=by
 intro m5 s σ H R I h;refine qy (hl m5 s σ H _ I h) λ v s1 x H1 I1 r1 q1=>?_;obtain ⟨a,e,q⟩:=q1;subst e;cases r1;rcases q with ⟨⟨xs,hq⟩,q⟩|⟨⟨xs,hq⟩,q⟩
 ·obtain ⟨ni,rv,p,hz⟩:=I1.list hq;refine cf p.isList ?_;refine ⟨s1.heap.objs.size,[s1.heap.objs.size],_,_,H1,rfl,I1.kept (t':=s1.toks) λ b o e=>ak _ e,zcM a _,⟨_,ay _ rfl,rfl,rfl⟩,λ b hb=>?_,q⟩;have e:b=s1.heap.objs.size:=by simpa using hb
  subst e;exact I1.fpOk (au _) (I1.hok.fresh (au _))
 ·obtain ⟨ni,rv,p,hz⟩:=I1.tuple hq;refine wpAny_pyIter_tuple (show s1.heap.IsTuple a ni.toArray from p) ?_;refine ⟨s1.heap.objs.size,[s1.heap.objs.size],_,_,H1,rfl,I1.kept (t':=s1.toks) λ b o e=>ak _ e,zaT a _,⟨_,ay _ rfl,rfl,rfl⟩,λ b hb=>?_,q⟩;have e:b=s1.heap.objs.size:=by simpa using hb
  subst e;exact I1.fpOk (au _) (I1.hok.fresh (au _))
def wE {ta:TA} {p pos:Pos} (ha:PA X [a] ta) (hg:Gl X "range":=by rfl) (hs:starEach [a] X.env=[(false,eval a X.env)]:=by rfl):PI X tg (.Call (.Name "range" p) [a] [] pos) (λ σ H R=>X.mg "range"=none/\iRng1 ta σ H R) :=
 λ m5 s σ H R I h=>zdc hg h.1 ha hs m5 s σ H R I h.2
def zet (K:A0):R2:=λ x y H Q=>∃ l b xs zs,x=.ref l/\y=.ref b/\SqL K H l xs/\SqL K H b zs/\xs.length + zs.length<=sizeLine/\∀ p,H p=none->Q (.ref p) (upd H p (.lst (xs ++ zs)))
def zgi:OpR X (binaryOp .Add) (zet X.K):=by
 intro m5 s σ H x y v u Q I rx ry h;obtain ⟨l,b,xs,zs,rfl,rfl,hH,hB,hz,q⟩:=h;cases rx;cases ry;obtain ⟨ni,r,p,z⟩:=I.list hH;obtain ⟨its2,r2,p2,z2⟩:=I.list hB;have e1:=r.length;have e2:=r2.length;obtain ⟨⟨cls,dd,data,sl⟩,n,ho,hc,hdd,hd⟩:=p;obtain ⟨⟨cls2,dd2,data2,sl2⟩,n2,ho2,hc2,hdd2,hd2⟩:=p2;simp only at hc hd hc2 hd2;subst hc hd hc2 hd2;have ea:ni.toArray ++ its2.toArray=(ni ++ its2).toArray:=by simp
 refine concat_meets ⟨_,ho,rfl⟩ ⟨_,ho2,rfl⟩ noFill_list_add seq_list_add PySem.F.slot_list_add PySem.F.entry_list_add (PySem.F.args_list_add_2 _ _) (list_addW l b ni.toArray its2.toArray n n2 dd dd2 sl sl2 (by simp only [av];lia)) ⟨ho,ho2,?_⟩;rw [ea];exact ⟨.ref _,_,I.lnew (t':=s.toks) (r.append r2) (by rw [aD];lia),rfl,q _ I.fresh⟩
def OpR.wk {f:Al} {r r':R2} (h:OpR X f r) (k:∀ x y H Q,r' x y H Q->r x y H Q):OpR X f r':=λ m5 s σ H x y v u Q I rx ry q=>h m5 s σ H x y v u Q I rx ry (k x y H Q q)
def VW (K:A0):R2:=λ x y H Q=>match x,y with
 | .int i,.int j=>Q (.int (i + j)) H
 | .str i,.str j=>i.length + j.length<=sizeLine/\Q (.str (i ++ j)) H
 | x,y=>zet K x y H Q
def qr:OpR X (binaryOp .Add) (VW X.K):=(op_add.or (op_add_str.or zgi)).wk λ x y H Q h=>by
 unfold VW at h
 split at h
 ·exact .inl h
 ·exact .inr (.inl ⟨_,_,rfl,rfl,h⟩)
 ·exact .inr (.inr h)
def rT (c:Int->Int->Prop) [∀ i j,Decidable (c i j)]:R2:=λ x y H Q=>iq x λ i=>iq y λ j=>if c i j then Q (.bl true) H else Q (.bl false) H
def zbz {c:Prop} [Decidable c] {Q:VK} (h:if c then Q (.bl true) H else Q (.bl false) H):Q (.bl (decide c)) H:=by
 by_cases e:c
 ·rw [ax e] at h;rw [bu e];exact h
 ·rw [aq e] at h;rw [aY e];exact h
def zck {c:Prop} [Decidable c] {Q:VK} (h:if ¬ c then Q (.bl true) H else Q (.bl false) H):Q (.bl (!decide c)) H:=by
 by_cases e:c
 ·rw [aq (λ z=>z e)] at h;rw [bu e];exact h
 ·rw [ax e] at h;rw [aY e];exact h
def OpR.t {f:Al} {c:Int->Int->Prop} [∀ i j,Decidable (c i j)] (h:OpR X f (rI0 λ i j=>.bl (decide (c i j)))):OpR X f (rT c):=h.wk λ x y H Q q=>by
 obtain ⟨i,j,rfl,rfl,q⟩:=Qs q;exact zbz q
def JO:OpR X (compareOp .Lt) (rT λ i j=>i < j):=op_lt.t
def jz:OpR X (compareOp .LtE) (rT λ i j=>i<=j):=op_le.t
def V2:OpR X (compareOp .Gt) (rT λ i j=>j < i):=op_gt.t
def jI:OpR X (compareOp .Is) (λ x y H Q=>nq y (if x=.non then Q (.bl true) H else Q (.bl false) H)):=op_isN.wk λ x y H Q q=>by
 obtain ⟨rfl,q⟩:=zb9 q;exact zbz q
def Q7:OpR X (compareOp .IsNot) (λ x y H Q=>nq y (if ¬ x=.non then Q (.bl true) H else Q (.bl false) H)):=op_notN.wk λ x y H Q q=>by
 obtain ⟨rfl,q⟩:=zb9 q;exact zck q
def zbl {op:Operator} {b:Expr} {y:V} {r:R2} (ho:OpR X (binaryOp op) r) (hb:PE X b (tC y)) {ta:TE} {r':V->Hp->VK->Prop} (k:∀ x H Q,r' x H Q->r x y H Q) {pos:Pos} (ha:PE X a ta):PE X (.BinOp a op b pos) (tUn r' ta):=by
 intro m5 s σ H Q I h;refine wpAny_BinOp (qy (ha m5 s σ H _ I h) λ v s1 x H1 I1 r1 q1=>thn (hb m5 s1 σ H1 (λ z H2=>z=y/\H2=H1) I1 ⟨rfl,rfl⟩) λ u s2 ⟨z,H2,I2,r2,e,e2⟩=>?_);subst e e2;exact ho m5 s2 σ H2 x z v u Q I2 r1 r2 (k x H2 Q q1)
def WO {k:Int} {j:Nat} {p2 pos:Pos} {ta:TE} (ha:PE X a ta) (h:decide (0 < k)=true:=by rfl):PE X (.BinOp a .Mod (.Constant (.int k) j p2) pos) (tUn (rU λ i=>.int (i % k)) ta) :=
 zbl jn zh (λ x H Q q=>by obtain ⟨i,rfl,q⟩:=ZQ q;exact ⟨bp h,q⟩) ha
def zhw {k:Int} {j:Nat} {p2 pos:Pos} {ta:TE} (ha:PE X a ta) (h:decide (0 < k/\k < 1073741824)=true:=by rfl):PE X (.BinOp a .FloorDiv (.Constant (.int k) j p2) pos) (tUn (rU λ i=>.int (i / k)) ta) :=
 zbl zgh zh (λ x H Q q=>by obtain ⟨i,rfl,q⟩:=ZQ q;have z:=bp h;exact ⟨z,q⟩) ha
def zez {b k:Int} {j j2:Nat} {p1 p2 pos:Pos} (h:decide (0<=k/\k<=1000000/\b.natAbs < 2 ^ 64)=true:=by rfl):PE X (.BinOp (.Constant (.int b) j p1) .Pow (.Constant (.int k) j2 p2) pos) (tC (.int (b ^ k.toNat))):=by
 intro m5 s σ H Q I q;have z:=bp h;exact zD zhA zh zh m5 s σ H Q I ⟨z,q⟩
def zbn {b k:Int} {j j2:Nat} {p1 p2 p3 pos:Pos} {ta:TE} (ha:PE X a ta) (h:decide (0<=k/\k<=1000000/\b.natAbs < 2 ^ 64)=true:=by rfl) (h0:decide (0 < b)=true:=by rfl) :
  PE X (.BinOp a .Mod (.BinOp (.Constant (.int b) j p1) .Pow (.Constant (.int k) j2 p2) p3) pos) (tUn (rU λ i=>.int (i % b ^ k.toNat)) ta) :=
 zbl jn (zez h) (λ x H Q q=>by obtain ⟨i,rfl,q⟩:=ZQ q;exact ⟨Int.pow_pos (bp h0),q⟩) ha
structure MulOk (i j:Int):Prop where
 h:IntMulOk i j
def vm:OpR X (binaryOp .Mult) (rI MulOk λ i j=>.int (i * j)):=opI λ _ _ _ _ _ _ _ hc q=>mul_int q hc.h
structure CFd (_ j:Int):Prop where
 a:j≠0
 b:j.natAbs.log2 < 9000
def Q8:OpR X (binaryOp .FloorDiv) (rI CFd λ i j=>.int (i.fdiv j)):=opI λ _ _ _ _ _ _ _ hc q=>floordiv_int hc.1 q (.inl (PyProof.noPylong_of_log2 hc.2))
def ziF:OpR X (compareOp .Lt) (rI0 λ i j=>.bl (decide (i < j))):=op_lt
def ziG:OpR X (compareOp .Gt) (rI0 λ i j=>.bl (decide (j < i))):=op_gt
def mul_okL {i j:Int} (h1:-(2 ^ 64) < i) (h2:i < 2 ^ 64):MulOk i j:=⟨PySem.IntMulOk.of_left (gS h1 h2)⟩
def mul_okR {i j:Int} (h1:-(2 ^ 64) < j) (h2:j < 2 ^ 64):MulOk i j:=⟨PySem.IntMulOk.of_right (gS h1 h2)⟩
def fd_ok {i j:Int} (h1:0 < j) (h2:j.natAbs < 2 ^ 8999):CFd i j:=⟨by lia,by
 have:=(Nat.log2_lt (n:=j.natAbs) (k:=8999) (by lia)).mpr h2
 lia⟩
def zhY {i j:Int} (h1:j≠0) (h2:j.natAbs < 2 ^ 8999):CFd i j:=⟨h1,by
 have:=(Nat.log2_lt (n:=j.natAbs) (k:=8999) (by lia)).mpr h2
 lia⟩
def fdiv_pos {i j:Int} (h:0 < j):i.fdiv j=i / j:=fN i (dC h)
noncomputable def wa:List V->List V->Bool
 | [],[]=>true
 | x :: xs,y :: ys=>eqV x y && wa xs ys
 | _,_=>false
theorem x8:∀ {xs ys:Ap},xs.length≠ys.length->wa xs ys=false
 | [],[],h=>absurd rfl h
 | [],_ :: _,_=>rfl
 | _ :: _,[],_=>rfl
 | x :: xs,y :: ys,h=>by
  have:=x8 (xs:=xs) (ys:=ys) (λ e=>h (by simp [e]));unfold wa;rw [this,cj]
theorem x9:∀ {xs ys:Ap},xs.length=ys.length->(List.range xs.length).all (λ j=>eqV (xs.getD j .non) (ys.getD j .non))=wa xs ys
 | [],[],_=>rfl
 | [],_ :: _,h=>by simp at h
 | _ :: _,[],h=>by simp at h
 | x :: xs,y :: ys,h=>by
  have ih:=x9 (xs:=xs) (ys:=ys) (by simpa using h);unfold wa;rw [<- ih,bb,List.range_succ_eq_map,List.all_cons,List.all_map]
  rfl
theorem Vals.getD:∀ {xs:Ap} {us:A7} {j:Nat} (h:j < us.length),Vals xs us->RelV (xs.getD j .non) us[j]
 | _,_,0,_,.cons r _=>r
 | _,_,j + 1,h,.cons _ t=>Vals.getD (j:=j) (by simpa using h) t
def jV {xs:Ap} (f:xs.all vT=true) (j:Nat):vT (xs.getD j .non)=true:=by
 rw [ah];cases e:xs[j]? with
 | none=>rfl
 | some x=>exact aS.mp f x (aj e)
def zf7 (K:A0) (neg:Bool):R2:=λ x y H Q=>∃ a b xs ys,x=.ref a/\y=.ref b/\((SqL K H a xs/\SqL K H b ys)\/(SqT K H a xs/\SqT K H b ys))/\xs.all vT=true/\ys.all vT=true/\Q (.bl (if neg then !wa xs ys else wa xs ys)) H
def zdf (hu:X.A.units < cLine):OpR X (compareOp .Eq) (zf7 X.K false):=by
 intro m5 s σ H x y v u Q I rx ry h;obtain ⟨a,b,xs,ys,rfl,rfl,hq,fx,fy,q⟩:=h;cases rx;cases ry;have fin:EP X m5 σ Q (.bool (wa xs ys)) s:=⟨.bl (wa xs ys),H,I,rfl,q⟩;rcases hq with ⟨h1,h2⟩|⟨h1,h2⟩
 ·obtain ⟨ni,r,p,_⟩:=I.list h1;obtain ⟨its2,r2,p2,_⟩:=I.list h2;have e1:=r.length;have e2:=r2.length;by_cases hl:xs.length=ys.length
  ·refine fV (e:=λ j=>eqV (xs.getD j .non) (ys.getD j .non)) p.isList p2.isList (by simp only [av];lia) hu (λ j h1 h2=>?_) _ _ _ _ ?_
   ·exact Qu (Vals.getD (by simpa using h1) r) (Vals.getD (by simpa using h2) r2) (jV fx j) (jV fy j)
   ·rw [av,<- e1,x9 hl];exact fin
  ·rw [x8 hl] at fin;exact g9 p.isList p2.isList (by simp only [av];simp;lia) hu _ _ _ _ fin
 ·obtain ⟨ni,r,p,_⟩:=I.tuple h1;obtain ⟨its2,r2,p2,_⟩:=I.tuple h2;have e1:=r.length;have e2:=r2.length;refine dh (e:=λ j=>eqV (xs.getD j .non) (ys.getD j .non)) p p2 hu (λ j h1 h2=>?_) _ _ _ _ ?_
  ·exact Qu (Vals.getD (by simpa using h1) r) (Vals.getD (by simpa using h2) r2) (jV fx j) (jV fy j)
  ·by_cases hl:xs.length=ys.length
   ·have em:min ni.toArray.size its2.toArray.size=xs.length:=by simp only [av];lia
    have es:(ni.toArray.size == its2.toArray.size)=true:=by simp only [av];rw [bI];lia
    rw [em,es,x9 hl,fY];exact fin
   ·have es:(ni.toArray.size == its2.toArray.size)=false:=by simp only [av];rw [aX];lia
    rw [es,cj];rw [x8 hl] at fin;exact fin
def zde (hu:X.A.units < cLine):OpR X (compareOp .NotEq) (zf7 X.K true):=by
 intro m5 s σ H x y v u Q I rx ry h;obtain ⟨a,b,xs,ys,rfl,rfl,hq,fx,fy,q⟩:=h;cases rx;cases ry;have fin:EP X m5 σ Q (.bool (!wa xs ys)) s:=⟨.bl (!wa xs ys),H,I,rfl,q⟩;rcases hq with ⟨h1,h2⟩|⟨h1,h2⟩
 ·obtain ⟨ni,r,p,_⟩:=I.list h1;obtain ⟨its2,r2,p2,_⟩:=I.list h2;have e1:=r.length;have e2:=r2.length;by_cases hl:xs.length=ys.length
  ·refine SeqAt.RcNeAt.lists (e:=λ j=>eqV (xs.getD j .non) (ys.getD j .non)) p.isList p2.isList (by simp only [av];lia) hu (λ j h1 h2=>?_) _ _ _ _ ?_
   ·exact Qu (Vals.getD (by simpa using h1) r) (Vals.getD (by simpa using h2) r2) (jV fx j) (jV fy j)
   ·rw [av,<- e1,x9 hl];exact fin
  ·rw [x8 hl] at fin;exact SeqAt.RcNeAt.lists_lengths p.isList p2.isList (by simp only [av];simp;lia) hu _ _ _ _ fin
 ·obtain ⟨ni,r,p,_⟩:=I.tuple h1;obtain ⟨its2,r2,p2,_⟩:=I.tuple h2;have e1:=r.length;have e2:=r2.length;refine SeqAt.RcNeAt.tuples (e:=λ j=>eqV (xs.getD j .non) (ys.getD j .non)) p p2 hu (λ j h1 h2=>?_) _ _ _ _ ?_
  ·exact Qu (Vals.getD (by simpa using h1) r) (Vals.getD (by simpa using h2) r2) (jV fx j) (jV fy j)
  ·by_cases hl:xs.length=ys.length
   ·have em:min ni.toArray.size its2.toArray.size=xs.length:=by simp only [av];lia
    have es:(ni.toArray.size == its2.toArray.size)=true:=by simp only [av];rw [bI];lia
    rw [em,es,x9 hl,fY];exact fin
   ·have es:(ni.toArray.size == its2.toArray.size)=false:=by simp only [av];rw [aX];lia
    rw [es,cj];rw [x8 hl] at fin;exact fin
inductive DE (K:A0) (H:Hp):Nat->V->V->Bool->Prop
 | flat {n:Nat} {x y:V}:vT x=true->vT y=true->DE K H n x y (eqV x y)
 | same {n:Nat} {p:Addr}:DE K H n (.ref p) (.ref p) true
 | lists {n:Nat} {p q:Addr} {xs ys:Ap} {e:Nat->Bool}:p≠q->SqL K H p xs->SqL K H q ys->xs.length=ys.length->(∀ j x y,xs[j]?=some x->ys[j]?=some y->DE K H n x y (e j))->DE K H (n + 1) (.ref p) (.ref q) ((List.range xs.length).all e)
 | listsL {n:Nat} {p q:Addr} {xs ys:Ap}:p≠q->SqL K H p xs->SqL K H q ys->xs.length≠ys.length->DE K H (n + 1) (.ref p) (.ref q) false
 | tuples {n:Nat} {p q:Addr} {xs ys:Ap} {e:Nat->Bool}:p≠q->SqT K H p xs->SqT K H q ys->(∀ j x y,xs[j]?=some x->ys[j]?=some y->DE K H n x y (e j))->DE K H (n + 1) (.ref p) (.ref q) ((List.range (min xs.length ys.length)).all e && xs.length == ys.length)
 | nt {n:Nat} {p:Addr} {xs:Ap}:SqT K H p xs->DE K H n .non (.ref p) false
 | tn {n:Nat} {p:Addr} {xs:Ap}:SqT K H p xs->DE K H n (.ref p) .non false
def Vals.at_ {xs:Ap} {us:A7} (r:Vals xs us) {j:Nat} (h:j < us.toArray.size):∃ x,xs[j]?=some x/\RelV x us.toArray[j]:=by
 have h':j < us.length:=by simpa using h
 have hl:j < xs.length:=by rw [r.length];exact h'
 obtain ⟨u,hu,ru⟩:=r.get (ae hl);have e:us.toArray[j]=u:=by
  have:=aa.mp hu;obtain ⟨_,e⟩:=this;simpa using e
 exact ⟨xs[j],ae hl,e ▸ ru⟩
def zcy {σ:St} {n:Nat} {x y:V} {b:Bool} (I:Inv X m5 σ H s) (h:DE X.K H n x y b):∀ {u v:Am} {A:Ao},RelV x u->RelV y v->A.units + n < cLine->SeqAt.EqAt A s u v b:=by
 induction h with
 | flat fx fy=>intro u v A rx ry _;exact Qu rx ry fx fy
 | same=>intro u v A rx ry _;cases rx;cases ry;exact eV _
 | lists hne h1 h2 hl _ ih =>
  intro u v A rx ry hu;cases rx;cases ry;obtain ⟨ni,r,p,_⟩:=I.list h1;obtain ⟨its2,r2,p2,_⟩:=I.list h2;have e1:=r.length;have e2:=r2.length;refine c9 hne ?_;have:=fV (A:=A) (s:=s) p.isList p2.isList (by simp only [av];lia) (by lia) (λ j h1 h2=>by
   obtain ⟨x,hx,rx⟩:=r.at_ h1;obtain ⟨y,hy,ry⟩:=r2.at_ h2;exact ih j x y hx hy rx ry (by show A.units + 1 + _ < _;lia))
  rw [av,<- e1] at this;exact this
 | listsL hne h1 h2 hl =>
  intro u v A rx ry hu;cases rx;cases ry;obtain ⟨ni,r,p,_⟩:=I.list h1;obtain ⟨its2,r2,p2,_⟩:=I.list h2;have e1:=r.length;have e2:=r2.length;exact c9 hne (g9 p.isList p2.isList (by simp only [av];simp;lia) (by lia))
 | tuples hne h1 h2 _ ih =>
  intro u v A rx ry hu;cases rx;cases ry;obtain ⟨ni,r,p,_⟩:=I.tuple h1;obtain ⟨its2,r2,p2,_⟩:=I.tuple h2;have e1:=r.length;have e2:=r2.length;refine c9 hne ?_;have:=dh (A:=A) (s:=s) p p2 (by lia) (λ j h1 h2=>by
   obtain ⟨x,hx,rx⟩:=r.at_ h1;obtain ⟨y,hy,ry⟩:=r2.at_ h2;exact ih j x y hx hy rx ry (by show A.units + 1 + _ < _;lia))
  simp only [av,<- e1,<- e2] at this;exact this
 | nt h1 =>
  intro u v A rx ry hu;cases rx;cases ry;obtain ⟨ni,r,p,_⟩:=I.tuple h1;exact SeqAt.EqAt.none_tuple p (by lia)
 | tn h1 =>
  intro u v A rx ry hu;cases rx;cases ry;obtain ⟨ni,r,p,_⟩:=I.tuple h1;exact SeqAt.EqAt.tuple_none p (by lia)
def zf8 (K:A0) (neg:Bool):R2:=λ x y H Q=>∃ p q xs ys n e,x=.ref p/\y=.ref q/\n<=8/\(∀ j x y,xs[j]?=some x->ys[j]?=some y->DE K H n x y (e j)) /\
 ((SqL K H p xs/\SqL K H q ys/\xs.length=ys.length/\Q (.bl (if neg then !((List.range xs.length).all e) else (List.range xs.length).all e)) H) \/
   (SqT K H p xs/\SqT K H q ys/\Q (.bl (if neg then !((List.range (min xs.length ys.length)).all e && xs.length == ys.length) else ((List.range (min xs.length ys.length)).all e && xs.length == ys.length))) H))
def zbr (hu:X.A.units + 100 < cLine):OpR X (compareOp .Eq) (zf8 X.K false):=by
 intro m5 s σ H x y v u Q I rx ry h;obtain ⟨p,q,xs,ys,n,e,rfl,rfl,hn,hde,h⟩:=h;cases rx;cases ry;rcases h with ⟨h1,h2,hl,q⟩|⟨h1,h2,q⟩
 ·obtain ⟨ni,r,p,_⟩:=I.list h1;obtain ⟨its2,r2,p2,_⟩:=I.list h2;have e1:=r.length;have e2:=r2.length;refine fV (e:=e) p.isList p2.isList (by simp only [av];lia) (by lia) (λ j h1 h2=>?_) _ _ _ _ ?_
  ·obtain ⟨x,hx,rx⟩:=r.at_ h1;obtain ⟨y,hy,ry⟩:=r2.at_ h2;exact zcy I (hde j x y hx hy) rx ry (by show X.A.units + 1 + _ < _;lia)
  ·rw [av,<- e1];exact ⟨.bl _,H,I,rfl,q⟩
 ·obtain ⟨ni,r,p,_⟩:=I.tuple h1;obtain ⟨its2,r2,p2,_⟩:=I.tuple h2;have e1:=r.length;have e2:=r2.length;refine dh (e:=e) p p2 (by lia) (λ j h1 h2=>?_) _ _ _ _ ?_
  ·obtain ⟨x,hx,rx⟩:=r.at_ h1;obtain ⟨y,hy,ry⟩:=r2.at_ h2;exact zcy I (hde j x y hx hy) rx ry (by show X.A.units + 1 + _ < _;lia)
  ·simp only [av,<- e1,<- e2];exact ⟨.bl _,H,I,rfl,q⟩
def zbq (hu:X.A.units + 100 < cLine):OpR X (compareOp .NotEq) (zf8 X.K true):=by
 intro m5 s σ H x y v u Q I rx ry h;obtain ⟨p,q,xs,ys,n,e,rfl,rfl,hn,hde,h⟩:=h;cases rx;cases ry;rcases h with ⟨h1,h2,hl,q⟩|⟨h1,h2,q⟩
 ·obtain ⟨ni,r,p,_⟩:=I.list h1;obtain ⟨its2,r2,p2,_⟩:=I.list h2;have e1:=r.length;have e2:=r2.length;refine SeqAt.RcNeAt.lists (e:=e) p.isList p2.isList (by simp only [av];lia) (by lia) (λ j h1 h2=>?_) _ _ _ _ ?_
  ·obtain ⟨x,hx,rx⟩:=r.at_ h1;obtain ⟨y,hy,ry⟩:=r2.at_ h2;exact zcy I (hde j x y hx hy) rx ry (by show X.A.units + 1 + _ < _;lia)
  ·rw [av,<- e1];exact ⟨.bl _,H,I,rfl,q⟩
 ·obtain ⟨ni,r,p,_⟩:=I.tuple h1;obtain ⟨its2,r2,p2,_⟩:=I.tuple h2;have e1:=r.length;have e2:=r2.length;refine SeqAt.RcNeAt.tuples (e:=e) p p2 (by lia) (λ j h1 h2=>?_) _ _ _ _ ?_
  ·obtain ⟨x,hx,rx⟩:=r.at_ h1;obtain ⟨y,hy,ry⟩:=r2.at_ h2;exact zcy I (hde j x y hx hy) rx ry (by show X.A.units + 1 + _ < _;lia)
  ·simp only [av,<- e1,<- e2];exact ⟨.bl _,H,I,rfl,q⟩
def VV (K:A0):R2:=λ x y H Q=>match x,y with
 | .int i,.int j=>Q (.bl (decide (i=j))) H
 | .str i,.str j=>Q (.bl (decide (i=j))) H
 | .bl i,.bl j=>Q (.bl (decide (i=j))) H
 | x,y=>rEq x y H Q\/zf7 K false x y H Q\/zf8 K false x y H Q
def zbk (K:A0):R2:=λ x y H Q=>match x,y with
 | .int i,.int j=>Q (.bl (!decide (i=j))) H
 | .str i,.str j=>Q (.bl (!decide (i=j))) H
 | .bl i,.bl j=>Q (.bl (!decide (i=j))) H
 | x,y=>rNe x y H Q\/zf7 K true x y H Q\/zf8 K true x y H Q
def zc8 (K:A0):R2:=λ x y H Q=>match x,y with
 | .int i,.int j=>if i=j then Q (.bl true) H else Q (.bl false) H
 | .str i,.str j=>if i=j then Q (.bl true) H else Q (.bl false) H
 | .bl i,.bl j=>if i=j then Q (.bl true) H else Q (.bl false) H
 | x,y=>VV K x y H Q
def zc7 (K:A0):R2:=λ x y H Q=>match x,y with
 | .int i,.int j=>if ¬ i=j then Q (.bl true) H else Q (.bl false) H
 | .str i,.str j=>if ¬ i=j then Q (.bl true) H else Q (.bl false) H
 | .bl i,.bl j=>if ¬ i=j then Q (.bl true) H else Q (.bl false) H
 | x,y=>zbk K x y H Q
def zb8 (hu:X.A.units + 100 < cLine):OpR X (compareOp .Eq) (VV X.K):=(op_eq.or ((zdf (by lia)).or (zbr hu))).wk λ x y H Q h=>by
 unfold VV at h
 split at h <;> first|exact h|exact .inl ⟨rfl,by simpa using h⟩
def ziE (hu:X.A.units + 100 < cLine):OpR X (compareOp .NotEq) (zbk X.K):=(op_ne.or ((zde (by lia)).or (zbq hu))).wk λ x y H Q h=>by
 unfold zbk at h
 split at h <;> first|exact h|exact .inl ⟨rfl,by simpa using h⟩
def JP (hu:X.A.units + 100 < cLine):OpR X (compareOp .Eq) (zc8 X.K):=(zb8 hu).wk λ x y H Q h=>by
 unfold zc8 at h
 split at h <;> first|exact h|exact zbz (Q:=Q) h
def JN (hu:X.A.units + 100 < cLine):OpR X (compareOp .NotEq) (zc7 X.K):=(ziE hu).wk λ x y H Q h=>by
 unfold zc7 at h
 split at h <;> first|exact h|exact zck (Q:=Q) h
def Room.units1 {k:Nat} {A:Ao} (r:Room k A):A.units + 100 < cLine:=by have:=r.un;lia
noncomputable def zh4:V->Option Value
 | .ty n=>some (.type n)
 | .ref a=>some (.ref a)
 | _=>none
def qg:bootBuiltins "len"=some (.builtin "len"):=by decide +kernel
def zfG:bootBuiltins "abs"=some (.builtin "abs"):=by decide +kernel
def xY:bootBuiltins "isinstance"=some (.builtin "isinstance"):=by decide +kernel
def zh7:bootBuiltins "sum"=some (.builtin "sum"):=by decide +kernel
def zfF:bootBuiltins "max"=some (.builtin "max"):=by decide +kernel
def zh9:bootBuiltins "min"=some (.builtin "min"):=by decide +kernel
def zib:bootBuiltins "all"=some (.builtin "all"):=by decide +kernel
def zdP:bootBuiltins "sorted"=some (.builtin "sorted"):=by decide +kernel
def zia:bootBuiltins "int"=some (.type "int"):=by decide +kernel
def wP:bootBuiltins "list"=some (.type "list"):=by decide +kernel
def Z3:bootBuiltins "tuple"=some (.type "tuple"):=by decide +kernel
def QD:kitOne K (.type "int") (.type "int")=some true:=by rfl
def ZO:kitOne K (.type "int") (.type "bool")=some false:=by rfl
def vS:kitOne K (.type "bool") (.type "bool")=some true:=by rfl
def QC:kitOne K (.type "str") (.type "str")=some true:=by rfl
def zhU:IxR X (rIx X.K):=zhT
def qi:CallR X (.builtin "len") (λ xs H Q=>lq xs λ x=>∃ n,zi5 X.K x H n/\Q (.int n) H):=λ m5 s σ H xs us Q I r h=>let ⟨x,e,n,h⟩:=zeU h;zfA m5 s σ H xs us Q I r ⟨x,n,e,h⟩
def zeT {xs:Ap} {P:Int->Prop} (h:lq xs λ v=>iq v P):∃ i,xs=[.int i]/\P i:=by
 obtain ⟨v,rfl,h⟩:=zeU h;obtain ⟨i,rfl,h⟩:=ZQ h;exact ⟨i,rfl,h⟩
def zfI:CallR X (.builtin "abs") (λ xs H Q=>lq xs λ v=>iq v λ i=>Q (.int (if i < 0 then -i else i)) H):=λ m5 s σ H xs us Q I r h=>zfB m5 s σ H xs us Q I r (zeT h)
end
abbrev bmV:List Value:=[.type "ValueError",.type "Exception",.type "BaseException",.type "object"]
structure XC (K:A0) (C:Addr):Prop where
 q:excIn K C bmV "ValueError.__new__"=true
def zhc {C:Addr} {h₀:Heap} (X:K.In h₀) (x:XC K C):∃ bm N nm q bs hdct sn sub ab col dd k0 k1 k2 k3 k5 mN,h₀.get? C=some (excClassObj nm q C N bs bm hdct sn sub ab col dd k0 k1 k2 k3 k5 "ValueError.__new__")/\h₀.Ns N mN/\mN "__init__"=none/\OwnTail h₀ bmV bm:=by
 have q:=x.q;unfold excIn at q
 split at q
 ·rename_i dd cd sl ho
  split at q
  ·rename_i C' bm k0 k1 k2 k3 n k5 hm hs;simp only [ck,bI,Bool.not_eq_true'] at q;obtain ⟨⟨⟨⟨⟨rfl,rfl⟩,hdel⟩,ht⟩,hok⟩,hni⟩:=q;obtain ⟨nm,bs,mro,ns,qn,hd,sn,sub,ab,col,del⟩:=cd;dsimp only at hm hdel hok hni;subst hm hdel;have hsl:sl=#[k0,k1,k2,k3,some (.builtin "ValueError.__new__"),k5]:=by
    obtain ⟨l⟩:=sl;simp only at hs;rw [hs]
   subst hsl;exact ⟨bm,ns,nm,qn,bs,hd,sn,sub,ab,col,dd,k0,k1,k2,k3,k5,_,X _ _ ho,.of_isNs (PySem.W.isNs_of_in X hok),PySem.W.nsMap_none_of_in X hok hni,PySem.W.tail_of_in X ht⟩
  ·cases q
 ·cases q
section
variable {X:Cx} {G:GK} {x n:Str} {np cpos pos hpos:Pos} {e₀:Expr} {es:List Expr} {t:TA}
def tRaise (X:Cx) (x:Str) (G:GK) (t:TA):TS:=λ _ σ H=>∃ C,X.mg x=some (.ref C)/\XC X.K C/\t σ H λ vs H1=>szl vs (G (.ref C) σ H1)
def qB (B:Bod X) (hc:X.calm=true) (ha:PA (X.exg G) (e₀ :: es) t) (hg:Gl X x:=by rfl) (hdb:(x == ("__debug__":Str))=false:=by decide)
  (he:starEach (e₀ :: es) X.env=(false,eval e₀ X.env) :: starEach es X.env:=by rfl) (hpl:(backTo cpos (starEach es X.env)).any (·.1)=false:=by rfl) :
  PS (X.exg G) (.Raise (some (.Call (.Name x np) (e₀ :: es) [] cpos)) none pos) (tRaise X x G t):=by
 intro m5 s σ H D I h;obtain ⟨C,hm,xc,h⟩:=h;obtain ⟨tl,N,nm,q,bs,hdct,sn,sub,ab,col,dd,k0,k1,k2,k3,k5,mN,hC,hN,hni,T⟩:=zhc I.ok.mod.kin xc;refine wpAny_Raise_call_subT (C:=C) (nm:=nm) (q:=q) (N:=N) (bs:=bs) (bm:=tl) (hdct:=hdct) (sn:=sn) (sub:=sub) (ab:=ab) (col:=col) (dd:=dd) (k0:=k0) (k1:=k1) (k2:=k2) (k3:=k3) (k5:=k5)
  F.excBase_ValueError (mN:=mN) (T.hasType F.excBase_ValueError.hasBase) (I.ok.hd hc) (by rw [he];show (false || (backTo cpos (starEach es X.env)).any (·.1))=false;rw [hpl];rfl) hni (wH I hg hm ⟨rfl,?_⟩ hdb)
 have hA:=ha cpos m5 s σ H _ I h;rw [he] at hA ⊢;refine Calls.evalArgs_plain (thn hA λ us s2 ⟨vs,H2,I2,r,g⟩=>?_);obtain ⟨hl,g⟩:=zaV g;exact ⟨rfl,by rw [<- r.length];exact hl,I2.bk _ _ hC,hN.keeps I2.bk,T.keeps I2.bk,λ h' a hm=>zaP B I2.unwish hm g⟩
end
noncomputable def ziR (a:Addr) (cls:Am):HO:=.ext λ h=>∃ o vs,h.get? a=some o/\o.cls=cls/\o.dict=none/\o.data=.fields vs
def Exc.obj {g h:Heap} {pn:A2} {a:Addr} {cls:Am} (x:Exc g h H pn a cls):∃ o vs,h.get? a=some o/\o.cls=cls/\o.dict=none/\o.data=.fields vs:=by
 obtain ⟨oe,vs,_,_,_,h1,h2,h3,h4,_⟩:=x.ex;exact ⟨oe,vs,h1,h2,h3,h4⟩
section
variable {X:Cx} {m5:A2} {σ:St} {H:Hp} {s:An}
end
noncomputable abbrev Cx.suite (X:Cx) (pn:A2) (a:Addr):Cx:={ X with pn:=pn,A:=X.A.mark (some (.ref a)),calm:=false,xe:=λ _ _=>False }
noncomputable abbrev Cx.pinned (X:Cx) (pn:A2):Cx:={ X with pn:=pn }
section
variable {X:Cx} {m5:A2} {σ:St} {H:Hp} {s:An}
end
section
variable {X:Cx} {G:GK} {x n:Str} {np pos hpos:Pos} {i:Nat} {body suite:List Stmt} {b₀:Stmt} {tb:List (Addr × Obj)->GK->TS} {th:List (Addr × Obj)->Addr->TS}
end
structure FA (K:A0) (mg:A4) (x:Str) (st:Stmt) (ps:A8):Prop where
 ex:∃ f fd,Fun K x x st f fd/\mg x=some (.ref f)/\Binds K fd ps []
def FA.cal {st:Stmt} {k:Nat} (h:FA K mg x st ps) (ok:∀ {f fd},Fun K x x st f fd->FnOk P w K mg base (CXr P w) k f fd ps sp) :
  Cal P w K mg base x k ps [] sp:=by
 obtain ⟨f,fd,F,m,b⟩:=h.ex;exact ⟨f,fd,[],ok F,m,F.kp,b,.nil⟩
def ziQ {h:Heap} {st:Stmt} {f:Addr} {oc:Am} {od an:Aa} {osl:Ae} {kV doc pm cdv ct:Am} (X:K.In h) (G:h.Ns mainGlobals mg)
  (a:nsIn K mainGlobals x=some (some (.ref f))) (l:K.lookup f=some ⟨oc,od,.func (fnOf x x (zP st) (zK st) (zc st) .none kV doc pm an cdv ct),osl⟩)
  (c:codeIn K cdv x=true) (k:keepIn K (.ref f)=true)
  (hb:∀ (kV doc pm:Am) (an:Aa) (cdv ct:Am) (us:A7),us.length=ps.length->bindArgs (fnOf x x (zP st) (zK st) (zc st) .none kV doc pm an cdv ct) ⟨us,[]⟩=pure (ps.zip us)):FA K mg x st ps :=
 ⟨f,_,wJ l c k,cH X G a,(wJ l c k).binds hb⟩
def zdH {e:Am} {s':An} (h:CXr P w [] H s (λ _ _ _=>False) e s'):False:=by
 obtain ⟨_,_,_,_,_,_,_,_,_,z⟩:=h;exact z
end L2
namespace L2
open PySem PySem.Spec PySem.Calls PyProof.Rows
variable {K:A0} {C:Addr} {st:Stmt} {ps:A8}
structure XI (K:A0) (C:Addr):Prop where
 ga:findIn K (.ref C) "__getattribute__"=some (some (.builtin "BaseException.__getattribute__"))
 gt:findIn K (.ref C) "__getattr__"=some none
 cl:findIn K (.ref C) "__class__"=some (some (.builtin "object.__class__"))
 hd:hasDictIn K C=true
 gn:specialIn K (.builtin "object.__class__") "__get__"=some (some (.builtin "getset_descriptor.__get__"))
 tk:takesIn K (.builtin "object.__class__")=some true
 mo:mroIn K C (.type "object")=some true
 mb:PySem.W.subIn K (.ref C) (.type "BaseException")=some true
section
variable {prog:Af} {w:World} {A:Ao} {E:A3} {s:An} {K:A0} {a C:Addr} {o:Obj} {vs:Ac}
def zas {hp:Heap} (hx:hp.get? a=some o) (hc:o.cls=.ref C) (hd:o.dict=none) (hv:o.data=.fields vs):PySem.W.InstAt hp a o C none:=by
 refine ⟨hx,hc,?_,?_⟩
 ·obtain ⟨c,d,dt,sl⟩:=o;simp only at hv;subst hv
  rfl
 ·rw [hd]
  trivial
def zdD {Q:Option Value->Shared->Prop} (X:K.In s.heap) (f:XI K C) (hx:s.heap.get? a=some o) (hc:o.cls=.ref C) (hd:o.dict=none) (hv:o.data=.fields vs)
  (h:Q (some (.ref C)) { s with toks:=s.toks + 1 }):wpAny (model prog w) A (getAttr? (.ref a) "__class__") Q E s:=by
 have I:=zas hx hc hd hv;have hf:PySem.W.findObj K C none "__class__"=some (.bind (.builtin "getset_descriptor.__get__") (.builtin "object.__class__")):=by
   obtain ⟨cd,hcd,_⟩:=any_some f.hd;simp [PySem.W.findObj,hcd,f.cl,f.gn,f.tk]
 obtain ⟨hh,g,d,t,os⟩:=s;have T0:=I.type (M:=model prog w);have T1:=looks_findIn (M:=model prog w) X f.ga;have T2:=PySem.W.looks_find (M:=model prog w) X I hf;have T3:=looks_findIn (M:=model prog w) X f.gt;have T4:=PySem.W.looks_subIn (M:=model prog w) X f.mb;have f3:=F.attr_ValueError.ga.bind (.ref a);unfold getAttr? getAttrBy? getAttrBy;refine af (wpAny_mkText (af (g8 (cB (af (T0.at (af (T1.at ?_))))))));dsimp only;have nga:(onTheHeap (Value.ref C) && Value.builtin "BaseException.__getattribute__" == Value.builtin "object.__getattribute__")=false:=by
  have z:(Value.builtin "BaseException.__getattribute__" == Value.builtin "object.__getattribute__")=false:=by decide +kernel
  rw [z,cj]
 rw [nga,aq aC];unfold getAttrByItsOwn
 repeat (any_goals (first|assumption|with_reducible refine T0.at ?_|with_reducible refine T3.at ?_|with_reducible refine T1.at ?_|wp_step))
 refine codeAny_call_builtin F.attr_ValueError.ga.plain F.entry_bexc_ga ?_;have hk:builtinKind "BaseException.__getattribute__"=some .slot:=by decide +kernel
 have hsp:splitId "BaseException.__getattribute__"=some ("BaseException","__getattribute__"):=by decide +kernel
 have hav:=F.args_bexc_ga (.ref a) (Value.str (Str.ofString "__class__") t);simp only [checkBuiltinCall,hk,hsp];refine af ?_;unfold isInstance
 repeat (first|with_reducible refine T2.at ?_|with_reducible refine T0.at ?_|with_reducible refine T4.at ?_|wp_step)
 refine PySem.W.class_get (s:=⟨hh,g,d,t + 1,os⟩) (ox:=o) (od:=none) X I f.mo ?_;refine ao ?_;refine PySem.W.handed_on rfl ?_;exact ao h
def ze4 {vs:Ac} (f:XI K C):PySem.W.KitX K (.ref a) (.ref C) (λ h=>∃ o vs,h.get? a=some o/\o.cls=.ref C/\o.dict=none/\o.data=.fields vs) where
 ty:=λ M h _ ⟨o,vs,e,c,d,v⟩=>(zas e c d v).type
 it:=λ _ _ X _=>by
  obtain ⟨cd,hcd,_⟩:=any_some f.hd;unfold PySem.W.clsIn at hcd
  split at hcd
  ·rename_i c' d' cd' sl' ho;intro A' Q' E' s' k q;unfold isType loadHead;exact af (wpAny_loadPart (k _ _ (X _ _ ho)) (ao q))
  ·cases hcd
 ne:=λ h tp dd ni n sl X htp=>by
  obtain ⟨cd,hcd,_⟩:=any_some f.hd;refine Bool.eq_false_iff.mpr λ q=>?_;have e:C=tp:=Value.ref.inj (bI.mp q);subst e;unfold PySem.W.clsIn at hcd
  split at hcd
  ·rename_i ho;have z:=(X _ _ ho).symm.trans htp;cases z
  ·cases hcd
 ca:=λ X ⟨o,vs,e,c,d,v⟩ k=>zdD X f e c d v k
end
inductive TyX (K:A0) (H:Hp):V->Value->Prop where
 | old {x:V} {t:Am} (h:TyOf K H x t):TyX K H x t
 | exc {a C:Addr} (h:H a=some (ziR a (.ref C))) (f:XI K C):TyX K H (.ref a) (.ref C)
noncomputable def zcA:List V->Option A7
 | []=>some []
 | c :: r=>match zh4 c,zcA r with
  | some u,some us=>some (u :: us)
  | _,_=>none
def zcB {c:V} {u v:Am} (h:zh4 c=some u) (r:RelV c v):v=u:=by
 cases c with
 | ty n=>cases r;exact aO h
 | ref a=>cases r;exact aO h
 | _=>cases h
theorem zay:∀ {cs:Ap} {us vs:A7},zcA cs=some us->Vals cs vs->vs=us
 | [],_,_,h,.nil=>aO h
 | c :: r,us,v :: vs,h,.cons rc rr=>by
  unfold zcA at h
  split at h
  ·rename_i u us' h1 h2;cases h;rw [zcB h1 rc,zay h2 rr]
  ·cases h
theorem zhK {X:Cx} {m5:A2} {σ:St} {H:Hp} {s:An} {x:V} {u t:Am} (I:Inv X m5 σ H s) (rx:RelV x u) (ty:TyX X.K H x t) :
  ∃ Hx:Heap->Prop,PySem.W.KitX X.K u t Hx/\Hx s.heap/\u≠.builtin "__main__.__loader__#opaque":=by
 cases ty with
 | @exc a C ea f =>
  cases (show u=Value.ref a from rx);obtain ⟨p,_⟩:=(show ObjOk X.prog X.w H s.heap a (ziR a (.ref C)) from I.hok a _ ea);exact ⟨_,ze4 (vs:=#[]) f,p,λ z=>nomatch z⟩
 | old ty =>
  cases ty with
  | non=>cases (show u=Value.none from rx);exact ⟨_,PySem.W.kitx_none,True.intro,λ z=>nomatch z⟩
  | bl y=>cases (show u=Value.bool y from rx);exact ⟨_,PySem.W.kitx_bool,True.intro,λ z=>nomatch z⟩
  | int i=>obtain ⟨t,q⟩:=(show ∃ t,u=Value.int i t from rx);cases q;exact ⟨_,PySem.W.kitx_int,True.intro,λ z=>nomatch z⟩
  | str y=>obtain ⟨t,q⟩:=(show ∃ t,u=Value.str y t from rx);cases q;exact ⟨_,PySem.W.kitx_str,True.intro,λ z=>nomatch z⟩
  | flt y=>obtain ⟨t,q⟩:=(show ∃ t,u=Value.float y t from rx);cases q;exact ⟨_,PySem.W.kitx_float,True.intro,λ z=>nomatch z⟩
  | @lst a xs ea =>
   cases (show u=Value.ref a from rx);obtain ⟨_,_,n,_,h1⟩:=(show ObjOk X.prog X.w H s.heap a (.lst xs) from I.hok a _ ea);exact ⟨_,PySem.W.kitx_list,⟨_,h1,rfl⟩,λ z=>nomatch z⟩
  | @frz a ob xs ea =>
   cases (show u=Value.ref a from rx);obtain ⟨_,_,_,n,_,h1⟩:=(show ObjOk X.prog X.w H s.heap a (.frz ob (.lst xs)) from I.hok a _ ea);exact ⟨_,PySem.W.kitx_list,⟨_,h1,rfl⟩,λ z=>nomatch z⟩
  | @tup a xs ea =>
   cases (show u=Value.ref a from rx);obtain ⟨_,_,_,p⟩:=(show ObjOk X.prog X.w H s.heap a (.tup xs) from I.hok a _ ea);obtain ⟨o,h1,h2,_⟩:=p;exact ⟨_,PySem.W.kitx_tuple,⟨o,h1,h2⟩,λ z=>nomatch z⟩
  | @dK a n9 ea =>
   cases (show u=Value.ref a from rx);obtain ⟨_,_,vs,_,p⟩:=(show ObjOk X.prog X.w H s.heap a (.dK n9) from I.hok a _ ea);obtain ⟨o,es,ep,h1,h2,_⟩:=p;exact ⟨_,PySem.W.kitx_dict,⟨o,h1,h2.1⟩,λ z=>nomatch z⟩
  | @dT a n9 ea =>
   cases (show u=Value.ref a from rx);obtain ⟨_,_,xs,_,o,es,ep,h1,h2,_⟩:=(show ObjOk X.prog X.w H s.heap a (.dT n9) from I.hok a _ ea);exact ⟨_,PySem.W.kitx_dict,⟨o,h1,h2.1⟩,λ z=>nomatch z⟩
  | @ins a C dx fs ea cl ha hn htk hm =>
   cases (show u=Value.ref a from rx);obtain ⟨mA,O,_⟩:=Jc I.hok ea;obtain ⟨od,J,_⟩:=O.look;exact ⟨_,PySem.W.kitx_own (cl.get _) cl.hd ha hn htk hm,J,λ z=>nomatch z⟩
def zes (K:A0):List V->Hp->VK->Prop:=λ xs H Q=>∃ x c t b,xs=[x,c]/\TyX K H x t/\((∃ u,zh4 c=some u/\kitOne K t u=some b)\/(∃ p cs us,c=.ref p/\H p=some (.tup cs)/\zcA cs=some us/\PySem.W.kitAny K t us=some b))/\Q (.bl b) H
def zbT {X:Cx}:CallR X (.builtin "isinstance") (zes X.K):=by
 intro m5 s σ H xs us Q I r h;obtain ⟨x,c,t,b,rfl,ty,hc,q⟩:=h;obtain ⟨v,v2,rfl,rx,rc⟩:=r.two;obtain ⟨Hx,Z,p,nx⟩:=zhK I rx ty;rcases hc with ⟨u,hu,e⟩|⟨pt,cs,us,rfl,hp,hu,e⟩
 ·obtain rfl:=zcB hu rc;exact PySem.W.kia_one Z I.kIn p e nx λ tk=>⟨.bl b,H,I.tok tk,rfl,q⟩
 ·cases rc;obtain ⟨_,ni,rv,o,h1,h2,n,h3⟩:=(show ObjOk X.prog X.w H s.heap pt (.tup cs) from I.hok pt _ hp);obtain rfl:=zay hu rv;obtain ⟨cl,dd,dt,sl⟩:=o;simp only at h2 h3;subst h2 h3;exact PySem.W.kia_tup Z I.kIn p h1 e nx λ tk=>⟨.bl b,H,I.tok tk,rfl,q⟩
structure FK (K:A0) (C:Addr) (qual:Str) (st:Stmt) (ps:A8):Prop where
 ex:∃ f fd,Fun K "__init__" qual st f fd/\Mk K C f/\Binds K fd ps []
structure FM (K:A0) (C:Addr) (m qual:Str) (st:Stmt) (ps:A8):Prop where
 ex:∃ f fd,Fun K m qual st f fd/\Meth K C m f/\Binds K fd ps []
def FK.cal {P:Af} {w:World} {mg:A4} {base:Heap} {x:Str} {qual:Str} {k:Nat} {sp:Sp} (h:FK K C qual st ps) (gl:mg x=some (.ref C))
  (ok:∀ {f fd},Fun K "__init__" qual st f fd->FnOk P w K mg base (CXr P w) k f fd ps sp):KCal P w K mg base x C k ps [] sp:=by
 obtain ⟨f,fd,F,m,b⟩:=h.ex;exact ⟨gl,f,fd,[],ok F,m,b,.nil⟩
def FM.cal {P:Af} {w:World} {mg:A4} {base:Heap} {m qual:Str} {k:Nat} {sp:Sp} (h:FM K C m qual st ps) (cl:Cls K C)
  (ok:∀ {f fd},Fun K m qual st f fd->FnOk P w K mg base (CXr P w) k f fd ps sp):MCal P w K mg base C m k ps [] sp:=by
 obtain ⟨f,fd,F,mm,b⟩:=h.ex;exact ⟨cl,f,fd,[],ok F,mm,b,.nil⟩
def ziN {qual:Str} {f:Addr} {oc:Am} {od an:Aa} {osl:Ae} {kV doc pm cdv ct:Am} (mk:makesIn K C=true) (kc:keepIn K (.ref C)=true)
  (a:findIn K (.ref C) "__init__"=some (some (.ref f))) (i:isFn K (.ref f)=true) (l:K.lookup f=some ⟨oc,od,.func (fnOf "__init__" qual (zP st) (zK st) (zc st) .none kV doc pm an cdv ct),osl⟩)
  (c:codeIn K cdv qual=true) (k:keepIn K (.ref f)=true)
  (hb:∀ (kV doc pm:Am) (an:Aa) (cdv ct:Am) (us:A7),us.length=ps.length->bindArgs (fnOf "__init__" qual (zP st) (zK st) (zc st) .none kV doc pm an cdv ct) ⟨us,[]⟩=pure (ps.zip us)):FK K C qual st ps :=
 ⟨f,_,wJ l c k,⟨mk,a,i,kc⟩,(wJ l c k).binds hb⟩
def ziM {m qual:Str} {f:Addr} {oc:Am} {od an:Aa} {osl:Ae} {kV doc pm cdv ct:Am}
  (a:findIn K (.ref C) m=some (some (.ref f))) (i:isFn K (.ref f)=true) (l:K.lookup f=some ⟨oc,od,.func (fnOf m qual (zP st) (zK st) (zc st) .none kV doc pm an cdv ct),osl⟩)
  (c:codeIn K cdv qual=true) (k:keepIn K (.ref f)=true)
  (hb:∀ (kV doc pm:Am) (an:Aa) (cdv ct:Am) (us:A7),us.length=ps.length->bindArgs (fnOf m qual (zP st) (zK st) (zc st) .none kV doc pm an cdv ct) ⟨us,[]⟩=pure (ps.zip us)):FM K C m qual st ps :=
 ⟨f,_,wJ l c k,⟨a,i,k⟩,(wJ l c k).binds hb⟩
structure WI (K:A0) (C:Addr):Prop where
 c:findIn K (.ref C) "__class__"=some (some (.builtin "object.__class__"))
 m:mroIn K C (.type "object")=some true
 g:specialIn K (.builtin "object.__class__") "__get__"=some (some (.builtin "getset_descriptor.__get__"))
 t:takesIn K (.builtin "object.__class__")=some true
def WI.ty {H:Hp} {a C dx:Addr} {fs:Ar} (f:WI K C) (cl:Cls K C) (h:H a=some (.ins C dx fs)):TyX K H (.ref a) (.ref C):=.old (.ins h cl f.c f.g f.t f.m)
section
variable {prog:Af} {w:World} {A:Ao} {E:A3} {s:An}
theorem VX {ns:A6}:∀ k,k<=ns.length->preSum (λ i=>ns[i]?.getD 0) k=(ns.take k).sum
 | 0,_=>by simp [preSum]
 | k + 1,h=>by
  have h2:k < ns.length:=h;rw [preSum,VX k (by lia),fP,List.sum_append,ae h2];simp
theorem jE:∀ {ns:A6} {ni:A7},Vals (ns.map V.int) ni->∀ (i:Nat) (v:Am),ni[i]?=some v->∃ t,v=.int (ns[i]?.getD 0) t
 | [],_,.nil,i,v,h=>by simp at h
 | n :: ns,_,.cons (b:=y) ⟨t,e⟩ r,0,v,h=>by
  have:y=v:=by simpa using h
  exact ⟨t,by rw [<- this,e];rfl⟩
 | n :: ns,_,.cons _ r,i + 1,v,h=>by
  obtain ⟨t,e⟩:=jE r i v (by simpa using h);exact ⟨t,by simpa using e⟩
end
section
variable {X:Cx} {a e:Expr} {ta:TA} {te:TE} {pos p kp:Pos}
def za2:SlR X (zhr X.K):=zfU
def vP:CallR X (.type "list") (λ xs H Q=>∃ p ys,xs=[.ref p]/\(SqL X.K H p ys\/SqT X.K H p ys)/\∀ l,H l=none->Q (.ref l) (upd H l (.lst ys))):=Vc
def zh5:CallR X (.type "int") (λ xs H Q=>(∃ i,xs=[.int i]/\Q (.int i) H)\/∃ k,xs=[.bl k]/\Q (.int (if k then 1 else 0)) H):=zdL
end
section
variable {X:Cx} {v v1 v2:Expr} {es:List Expr} {te:TE} {pos p:Pos}
def zio (t u:TS):TS:=λ D σ H=>∃ M:St->Hp->Prop,t { D with nx:=M } σ H/\∀ σ' H',M σ' H'->u D σ' H'
def jO {st:Stmt} {rest:List Stmt} {t u:TS} (h1:PS X st t) (h2:PSs X rest u):PSs X (st :: rest) (zio t u):=by
 intro m5 s σ H D I ⟨M,ht,hu⟩;refine fU (thn (h1 m5 s σ H _ I ht) λ f s1 q=>?_);cases f with
 | next=>exact let ⟨σ',H',I',q⟩:=q;h2 m5 s1 σ' H' D I' (hu σ' H' q)
 | _=>exact q
def zgW (t u:TS):TS:=λ D σ H=>tSeq t u D σ H
def zo {st:Stmt} {rest:List Stmt} {t u:TS} (h1:PS X st t) (h2:PSs X rest u):PSs X (st :: rest) (zgW t u):=show PSs X (st :: rest) (tSeq t u) from ze h1 h2
structure Nx (N:St->Hp->Prop) (u:TS) (D:Ends):Prop where
 h:∀ σ H,u D σ H->N σ H
def nxt {t u:TS} {D:Ends} {σ:St} {H:Hp} (k:∀ N,Nx N u D->t { D with nx:=N } σ H):zgW t u D σ H:=k (u D) ⟨λ _ _ h=>h⟩
def useN {N:St->Hp->Prop} {u:TS} {D:Ends} {σ:St} {H:Hp} (n:Nx N u D) (q:u D σ H):N σ H:=n.h σ H q
def cut {t u:TS} {D:Ends} {σ:St} {H:Hp} (M:St->Hp->Prop) (h1:t { D with nx:=M } σ H) (h2:∀ σ' H',M σ' H'->u D σ' H'):zio t u D σ H:=⟨M,h1,h2⟩
end
section
variable {X:Cx} {k:Nat} {x m:Str} {p pos apos:Pos} {e o:Expr} {es:List Expr} {ta:TE} {t:TA}
def passF:zbW (CXr X.prog X.w) X (λ _ _ _=>False):=λ _ _ _ _ _ _ _ h=>let ⟨_,_,_,_,_,_,_,_,_,z⟩:=h;z.elim
def tClN (X:Cx) (k:Nat) (x:Str) (t:TA):TE:=λ σ H Q=>∃ ps dvs sp,Cal X.prog X.w X.K X.mg X.base x k ps dvs sp/\t σ H λ vs H1=>sp (vs ++ dvs) H1 Q (λ _ _ _=>False)
def Zi (hr:Room k X.A) (ha:PA X (e :: es) t) (hg:Gl X x:=by rfl) (hdb:(x == ("__debug__":Str))=false:=by decide)
  (he:starEach (e :: es) X.env=(false,eval e X.env) :: starEach es X.env:=by rfl) (hpl:(backTo pos (starEach es X.env)).any (·.1)=false:=by rfl) :
  PE X (.Call (.Name x p) (e :: es) [] pos) (tClN X k x t):=by
 intro m5 s σ H Q I h;obtain ⟨ps,dvs,sp,⟨f,fd,ds,F,hm,hk,hb,hd⟩,h⟩:=h;refine bL (wH I hg hm ?_ hdb);refine d7 (h₀:=X.base) I.ok.mod.kin hk (wW (ha pos m5 s σ H _ I h) λ us s1 vs H1 I1 r q=>⟨I1.kIn,?_⟩) he hpl;exact zba F hr hb hd passF I1 r q
def tMkN (X:Cx) (k:Nat) (x:Str) (t:TA):TE:=λ σ H Q=>∃ C ps dvs sp,KCal X.prog X.w X.K X.mg X.base x C k ps dvs sp/\t σ H λ vs H1=>∀ y dx,H1 y=none->H1 dx=none->dx≠y ->
 sp (.ref y :: (vs ++ dvs)) (upd (upd H1 dx (.own y)) y (.ins C dx [])) (λ v H2=>v=.non/\Q (.ref y) H2) (λ _ _ _=>False)
def zbm (hr:Room (k + 1) X.A) (ha:PA X (e :: es) t) (hg:Gl X x:=by rfl) (hdb:(x == ("__debug__":Str))=false:=by decide)
  (he:starEach (e :: es) X.env=(false,eval e X.env) :: starEach es X.env:=by rfl) (hpl:(backTo pos (starEach es X.env)).any (·.1)=false:=by rfl) :
  PE X (.Call (.Name x p) (e :: es) [] pos) (tMkN X k x t):=by
 intro m5 s σ H Q I h;obtain ⟨C,ps,dvs,sp,⟨hm,f,fd,ds,F,M,hb,hd⟩,h⟩:=h;refine bL (wH I hg hm ?_ hdb);refine d7 (h₀:=X.base) I.ok.mod.kin M.kp (wW (ha pos m5 s σ H _ I h) λ us s1 vs H1 I1 r q=>⟨I1.kIn,?_⟩) he hpl;exact zem M F hr hb hd passF I1 r q
def tMthN (X:Cx) (k:Nat) (m:Str) (ta:TE) (t:TA):TE:=λ σ H Q=>ta σ H λ y H1=>∃ a C dx fs ps dvs sp,y=.ref a/\H1 a=some (.ins C dx fs)/\fs.lookup m=none /\
 MCal X.prog X.w X.K X.mg X.base C m k ps dvs sp/\t σ H1 λ vs H2=>sp (.ref a :: (vs ++ dvs)) H2 Q (λ _ _ _=>False)
def zgf {pl:Sem Bool} (hr:Room k X.A) (he:PE X o ta) (ha:PA X (e :: es) t)
  (hst:starEach (e :: es) X.env=(false,eval e X.env) :: starEach es X.env:=by rfl) (hpl:(backTo pos (starEach es X.env)).any (·.1)=false:=by rfl)
  (ht:eval (.Call (.Attribute o m apos) (e :: es) [] pos) X.env=(do
   let ov <- eval o X.env
   standAt apos.atName
   let (f,first) <- holding [ov] (getMethod ov m pl)
   callWith pos f first (backTo pos (starEach (e :: es) X.env)) (backToKw pos (keywordEach [] X.env))):=by rfl) :
  PE X (.Call (.Attribute o m apos) (e :: es) [] pos) (tMthN X k m ta t):=by
 intro m5 s σ H Q I h;refine eJ (pl:=pl) (thn (he m5 s σ H _ I h) λ u s1 hz=>?_) ht;obtain ⟨x,H1,I1,rx,a,C,dx,fs,ps,dvs,sp,ex,ea,l,⟨c,f,fd,ds,F,hm,hb,hd⟩,q⟩:=hz;subst ex;obtain rfl:u=Value.ref a:=rx;refine wI I1 ea c hm l ?_;refine d7 (first:=[.ref a]) (h₀:=X.base) I.ok.mod.kin hm.kp (wW (ha pos m5 s1 σ H1 _ I1 q) λ us s2 vs H2 I2 r q2=>⟨I2.kIn,?_⟩) hst hpl;exact zba (us:=.ref a :: us) (vs:=.ref a :: vs) F hr hb hd passF I2 (.cons rfl r) q2
def zeA {pl:Sem Bool} (hr:Room k X.A) (he:PE X o ta)
  (ht:eval (.Call (.Attribute o m apos) [] [] pos) X.env=(do
   let ov <- eval o X.env
   standAt apos.atName
   let (f,first) <- holding [ov] (getMethod ov m pl)
   callWith pos f first (backTo pos (starEach [] X.env)) (backToKw pos (keywordEach [] X.env))):=by rfl) :
  PE X (.Call (.Attribute o m apos) [] [] pos) (tMthN X k m ta tNil):=by
 intro m5 s σ H Q I h;refine eJ (pl:=pl) (thn (he m5 s σ H _ I h) λ u s1 hz=>?_) ht;obtain ⟨x,H1,I1,rx,a,C,dx,fs,ps,dvs,sp,ex,ea,l,⟨c,f,fd,ds,F,hm,hb,hd⟩,q⟩:=hz;subst ex;obtain rfl:u=Value.ref a:=rx;refine wI I1 ea c hm l ?_;exact gW (first:=[.ref a]) I1.kIn hm.kp (zba (us:=[.ref a]) (vs:=[.ref a]) F hr hb hd passF I1 (.cons rfl .nil) q)
end
noncomputable def qW (cells:List (Str × Addr)):List (Str × NameKind)->List (Str × Addr)->List (Str × Addr)
 | [],cs=>cs
 | (n,k) :: r,cs=>if k=.free then qW cells r ((n,(cells.lookup n).getD 0) :: cs) else qW cells r cs
def zdJ (cells:List (Str × Addr)) (ns:List (Str × NameKind)):Prop:=∀ y∈ns,y.2=.free->∃ c,cells.lookup y.1=some c
def vV {scope:Scope} {env:Env} (h:zdJ env.cells scope.names):closureFor scope env=pure (qW env.cells scope.names []):=by
 simp only [closureFor];have key:∀ (ns:List (Str × NameKind)) (cs:List (Str × Addr)),zdJ env.cells ns ->
   (forIn ns cs λ x r=>if (x.2 == NameKind.free)=true then do let c <- cellOf env x.1;pure (ForInStep.yield ((x.1,c) :: r)) else pure (ForInStep.yield r):Sem (List (Str × Addr)))=pure (qW env.cells ns cs):=by
  intro ns
  induction ns with
  | nil=>intro cs _;rfl
  | cons y r ih =>
   intro cs hc;obtain ⟨n,k⟩:=y;have hr:zdJ env.cells r:=λ z hz=>hc z (aA _ hz);rw [gy];by_cases hk:k=.free
   ·subst hk;obtain ⟨c,e⟩:=hc (n,.free) bh rfl;have e':cellOf env n=pure c:=by unfold cellOf;simp only at e;rw [e]
    simp only [dY,d6,e',pure_bind];rw [ih _ hr];simp only at e;simp [qW,e]
   ·have hb:(k == NameKind.free)=false:=by simpa using hk
    simp only [hb,aR,bO,pure_bind];rw [ih _ hr];simp [qW,hk]
 have:=key scope.names [] h
 first
  | exact this
  | (simp only [bind_pure] at *;exact this)
theorem Zp {cells:List (Str × Addr)} {x:Str} {c:Addr}:∀ {ns:List (Str × NameKind)} {cs:List (Str × Addr)},zdJ cells ns->(∀ c,cs.lookup x=some c->cells.lookup x=some c)->(qW cells ns cs).lookup x=some c->cells.lookup x=some c
 | [],_,_,hs,h=>hs c h
 | (n,k) :: r,cs,hc,hs,h=>by
  have hr:zdJ cells r:=λ z hz=>hc z (aA _ hz);unfold qW at h
  split at h
  ·rename_i hk;obtain ⟨d,e⟩:=hc (n,k) bh hk;refine Zp hr (λ c' hc'=>?_) h;rw [c8] at hc'
   split at hc'
   ·rename_i hx;have hx:x=n:=by simpa using hx
    subst hx;simp only at e;rw [e] at hc' ⊢;exact hc'
   ·exact hs c' hc'
  ·exact Zp hr hs h
theorem vB {cells:List (Str × Addr)} {x:Str}:∀ {ns:List (Str × NameKind)} {cs:List (Str × Addr)},(∃ c,cs.lookup x=some c)->∃ c,(qW cells ns cs).lookup x=some c
 | [],_,h=>h
 | (n,k) :: r,cs,h=>by
  unfold qW
  split
  ·refine vB ?_;rw [c8]
   split
   ·exact ⟨_,rfl⟩
   ·exact h
  ·exact vB h
theorem Zo {cells:List (Str × Addr)} {x:Str}:∀ {ns:List (Str × NameKind)} {cs:List (Str × Addr)},(x,NameKind.free)∈ns->∃ c,(qW cells ns cs).lookup x=some c
 | [],_,h=>by simp at h
 | (n,k) :: r,cs,h=>by
  unfold qW;rcases az.mp h with h|h
  ·cases h;rw [ax rfl];exact vB ⟨(cells.lookup x).getD 0,by rw [c8];simp⟩
  ·split <;> exact Zo h
noncomputable def zep (scope osc:Scope):Scope :=
 { scope with names:=scope.names.map λ (n,k)=>if (k == .free && osc.kind == .function && osc.names.lookup n == some .cell) then (n,.cell) else (n,k) }
def zbi {scope osc:Scope} {x:Str} (hcell:∀ y∈scope.names,y.2≠.cell) (h:(zep scope osc).names.lookup x=some .cell\/(zep scope osc).names.lookup x=some .free):(x,NameKind.free)∈scope.names:=by
 have key:∀ k,(k=.cell\/k=.free)->(zep scope osc).names.lookup x=some k->(x,NameKind.free)∈scope.names:=λ k hk hl=>by
  have hm:=bQ hl;obtain ⟨⟨n,k'⟩,hm',e⟩:=aN.mp hm;simp only at e
  split at e
  ·rename_i hc;simp only [ck,bI] at hc;cases e;rw [<- hc.1.1];exact hm'
  ·cases e;rcases hk with rfl|rfl
   ·exact absurd rfl (hcell _ hm')
   ·exact hm'
 rcases h with h|h
 ·exact key _ (.inl rfl) h
 ·exact key _ (.inr rfl) h
noncomputable def cxC (X:Cx) (N:A8) (scope:Scope) (s:An) (H:Hp) (fp:Ab) (m5:A2):Cx where
 prog:=X.prog
 w:=X.w
 K:=X.K
 mg:=X.mg
 base:=X.base
 A:=X.A
 N:=N
 s₀:=s
 H₀:=H
 env:=compEnvC scope (qW X.env.cells scope.names []) s.heap.objs.size X.env
 outer:=X.stack
 stack:=X.stack
 ex:=fp
 fn:=λ _=>false
 calm:=X.calm
 pn:=X.pn ++ m5
 xe:=λ _ _=>False
noncomputable def stC (nv:Nat) (caps:Aj) (σ:St):St:=List.replicate nv none ++ caps.map λ k=>(σ[k]?).getD none
structure CompOk (osc scope:Scope) (ON:A8) (vars:A8) (caps:Aj):Prop where
 kind:scope.kind=.function
 cell:∀ y∈scope.names,y.2≠.cell
 loc:∀ y∈scope.names,y.2=.local->scope.names.lookup y.1=some .local
 free:∀ y∈scope.names,y.2=.free->osc.names.lookup y.1=some .cell\/osc.names.lookup y.1=some .free
 caps:∀ k∈caps,k < ON.length/\scope.names.lookup (ON.getD k Str.empty)=some .free
noncomputable def zcz (osc scope:Scope) (ON:A8) (caps:Aj):Bool :=
 scope.kind == .function && scope.names.all (λ y=>y.2 != .cell) && scope.names.all (λ y=>y.2 != .local || scope.names.lookup y.1 == some .local) &&
 scope.names.all (λ y=>y.2 != .free || (osc.names.lookup y.1 == some .cell || osc.names.lookup y.1 == some .free)) && caps.all λ k=>decide (k < ON.length) && scope.names.lookup (ON.getD k Str.empty) == some .free
def zaw {osc scope:Scope} {ON vars:A8} {caps:Aj} (h:zcz osc scope ON caps=true):CompOk osc scope ON vars caps:=by
 simp only [zcz,ck,aS,bI,bne_iff_ne,Bool.or_eq_true,bc] at h;obtain ⟨⟨⟨⟨h1,h2⟩,h3⟩,h4⟩,h5⟩:=h;refine ⟨h1,h2,λ y hy e=>(h3 y hy).resolve_left (λ z=>z e),λ y hy e=>(h4 y hy).resolve_left (λ z=>z e),λ k hk=>h5 k hk⟩
theorem JA {osc:Scope} {x:Str}:∀ {ns:List (Str × NameKind)},ns.lookup x=some .free ->
  (ns.map λ (n,k)=>if (k == NameKind.free && osc.kind == .function && osc.names.lookup n == some .cell) then (n,NameKind.cell) else (n,k)).lookup x=some .cell \/
  (ns.map λ (n,k)=>if (k == NameKind.free && osc.kind == .function && osc.names.lookup n == some .cell) then (n,NameKind.cell) else (n,k)).lookup x=some .free
 | [],h=>by simp at h
 | (n,k) :: r,h=>by
  have ih:=@JA osc x r;rw [br];show List.lookup x ((if (k == NameKind.free && osc.kind == .function && osc.names.lookup n == some .cell)=true then (n,NameKind.cell) else (n,k)) :: _)=_\/List.lookup x ((if (k == NameKind.free && osc.kind == .function && osc.names.lookup n == some .cell)=true then (n,NameKind.cell) else (n,k)) :: _)=_
  cases hx:x == n with
  | true =>
   simp only [c8,hx] at h;cases h
   split
   ·exact .inl (by simp [c8,hx])
   ·exact .inr (by simp [c8,hx])
  | false =>
   simp only [c8,hx] at h
   split <;> (simp only [c8,hx];exact ih h)
section
variable {X:Cx} {m5:A2} {σ:St} {H:Hp} {s:An} {fp:Ab} {N vars:A8} {caps:Aj} {scope osc:Scope}
theorem zfd (I:Inv X m5 σ H s) (hosc:X.env.scope=osc) (C:CompOk osc scope X.N vars caps) (hN:N=vars ++ caps.map λ k=>X.N.getD k Str.empty)
  (hf:∀ b∈fp,Qy X m5 H b) (hfo:∀ b∈fp,∃ o,s.heap.get? b=some o)
  {h':Heap} {tk:Nat} {mm:A4} (hns:h'.Ns s.heap.objs.size mm) (hk:∀ b o,s.heap.get? b=some o->h'.get? b=some o) :
  Inv (cxC X N scope s H fp m5) [] (stC vars.length caps σ) H { s with heap:=h',toks:=tk }:=by
 have hkf:∀ y∈scope.names,y.2=.free->X.env.kindOf y.1=some .cell\/X.env.kindOf y.1=some .free:=λ y hy e=>by
  have z:=C.free y hy e;rw [<- hosc] at z;exact z
 have hcl:zdJ X.env.cells scope.names:=λ y hy e=>I.ok.has y.1 (hkf y hy e);have get:∀ x c,(qW X.env.cells scope.names []).lookup x=some c->X.env.cells.lookup x=some c:=λ x c h=>Zp hcl (λ c h=>by simp at h) h;refine ⟨⟨I.ok.mod,C.kind,I.ok.glob,I.ok.blt,au _,λ x y c h1 h2=>I.ok.inj x y c (get x c h1) (get y c h2),λ x hx=>Zo (zbi (osc:=X.env.scope) C.cell hx),λ _ _ h _=>Bool.noConfusion h,I.ok.hd,I.ok.frames,.inl rfl,
   λ b hb=>⟨?_,λ x c h=>(hf b hb).2.2.2.2.1 x c (get x c h)⟩,I.bs,bd I.ok.bsz I.sz,λ b o e hb=>?_,λ b hb z=>(az.mp (I.stkSub b z)).elim (hf b hb).2.1 (hf b hb).2.2.1,I.stack,I.stkFree⟩,
  rfl,I.bare,Un.kept hk,⟨_,hns,λ i x v e1 e2 e3=>?_⟩,λ x c h=>?_,I.hok.fresh (au _),λ x c h=>I.freeC x c (get x c h),λ p hp=>?_,I.hok.kept hk,?_⟩
 ·obtain ⟨o,e⟩:=hfo b hb;exact aF (aw e)
 ·rcases (hf b hb).2.2.2.1 with z|z
  ·exact I.ok.noex b o e z
  ·exact absurd (aI (aw (I.ok.bs b o e).1) z) (cM _)
 ·have hi:¬ i < vars.length:=λ hi=>by
   unfold stC at e2;rw [aT (by simpa using hi),dU] at e2
   split at e2 <;> cases e2
  have e1':(vars ++ caps.map λ k=>X.N.getD k Str.empty)[i]?=some x:=by rw [<- hN];exact e1
  unfold stC at e2;rw [aQ (by simpa using hi),a8,am] at e2;rw [aQ (by lia),am] at e1';cases ek:caps[i - vars.length]? with
  | none=>rw [ek] at e2;cases e2
  | some k =>
   rw [ek] at e1' e2;obtain ⟨hkl,hlk⟩:=C.caps k (aj ek);have ex:X.N.getD k Str.empty=x:=by simpa using e1'
   have es:σ[k]?.getD none=some v:=by simpa using e2
   have es':σ[k]?=some (some v):=by
    cases q:σ[k]? with
    | none=>rw [q] at es;cases es
    | some z=>rw [q] at es;simp only [aJ] at es;rw [es]
   have eN:X.N[k]?=some x:=by
    rw [<- ex,ah,ae hkl];rfl
   rw [ex] at hlk;have hm:(x,NameKind.free)∈scope.names:=bQ hlk;have hkx:=hkf _ hm rfl;obtain ⟨m,_,hl⟩:=I.loc;obtain ⟨u,r,L⟩:=hl k x v eN es' (hkx.elim (λ z=>.inr (.inl z)) λ z=>.inr (.inr z));refine ⟨u,r,.inr ⟨JA (osc:=X.env.scope) hlk,?_⟩⟩;obtain ⟨c',ec⟩:=Zo (cells:=X.env.cells) (cs:=[]) hm;rcases L with ⟨z,_⟩|⟨_,c,ec2,o,ho,hd⟩
   ·rcases hkx with y|y <;> (simp only at y;rw [y] at z;cases z)
   ·have z:=get x c' ec;rw [ec2] at z;obtain rfl:c=c':=aO z;exact ⟨c,ec,o,hk _ _ ho,hd⟩
 ·obtain ⟨v,o,ho,hd⟩:=I.cell x c (get x c h);exact ⟨v,o,hk _ _ ho,hd⟩
 ·have hp':p∈X.pn ++ m5:=by simpa [cxC] using hp
  obtain ⟨e,n,ne,nf,d⟩:=I.pin p hp';exact ⟨hk _ _ e,n,aF (aw e),λ z=>(az.mp (I.stkSub _ z)).elim ne nf,d⟩
 ·show (stC vars.length caps σ).length=N.length
  rw [hN];simp [stC]
def zbB {σ':St} {H':Hp} {s':An} (I:Inv X m5 σ H s) (hf:∀ b∈fp,Qy X m5 H b) (I':Inv (cxC X N scope s H fp m5) [] σ' H' s'):Inv X m5 σ H' s' :=
 I.call' (ch:=fp) I'.os I'.base I'.hok I'.bare λ b hb=>⟨(hf b hb).2.2.2.1,(hf b hb).2.1,(hf b hb).2.2.2.2.1,(hf b hb).2.2.2.2.2⟩
end
section
variable {prog:Af} {w:World} {A:Ao} {R:Result->Shared->Prop} {s:An}
abbrev NoX:Value->Shared->Prop:=λ _ _=>False
theorem zdI {elt target iter:Expr} {ifs:List Expr} {scope:Scope} {pos:Pos} {it nj:Am} {env:Env} (I:Nat->Shared->Prop)
  (turn:∀ n s,I n s->wpAny (model prog w) A (pyNext it) (λ r s₁=>match r with
   | none=>R (.ok .next) s₁
   | some v=>wpAny (model prog w) A (letOwnedTupleGo target it v) (λ _ s₁'=>wpAny (model prog w) A (assign target env v) (λ _ s₂ =>
     wpAny (model prog w) A (forIn ifs true λ c r=>if r=true then do let ok <- isTrue c env (eval c env);pure (ForInStep.yield ok) else pure (ForInStep.yield r)) (λ ok s₃ =>
      if ok=true then wpAny (model prog w) A (eval elt env) (λ x s₄ =>
       wpAny (model prog w) A (call (.builtin "list.append") [nj,x]) (λ _ s₅=>∃ m,m < n/\I m s₅) NoX s₄) NoX s₃
      else ∃ m,m < n/\I m s₃) NoX s₂) NoX s₁') NoX s₁) NoX s)
  (n:Nat) (h:I n s) :
  codeAny (model prog w) A (.compLoop (.ListComp elt [⟨target,iter,ifs,0⟩] scope pos) 0 it nj env) R s:=by
 refine codeAny_loop rfl I (λ n s hI=>?_) n h;show wpAny _ A ((compTurn (.ListComp elt [⟨target,iter,ifs,0⟩] scope pos) 0 it nj env).onRaise (λ x=>do noteFrame x env;theTreesLotGoes x)) _ _ s
 refine wpAny_noted ?_;rw [compTurn_list];refine af (g6 (af (bg (turn n s hI) (λ r s₁ h₁=>?_) λ _ _ h'=>h'.elim)));cases r with
 | none=>exact ao h₁
 | some v =>
  refine af (bg h₁ (λ _ s₁' h₁'=>?_) λ _ _ h'=>h'.elim);refine af (bg h₁' (λ _ s₂ h₂=>af (bg h₂ (λ ok s₃ h₃=>?_) λ _ _ h'=>h'.elim)) λ _ _ h'=>h'.elim);cases ok with
  | false=>exact ao ⟨rfl,h₃⟩
  | true =>
   exact af (af (bg h₃ (λ x s₄ h₄=>af (bg h₄ (λ _ s₅ h₅=>ao (ao ⟨rfl,h₅⟩)) λ _ _ h'=>h'.elim)) λ _ _ h'=>h'.elim))
end
def zfN (X:Cx) (ifs:List Expr) (t:TT):Prop :=
 ∀ (m5:A2) (s:An) (σ:St) (H:Hp) (Q:Bool->Hp->Prop),Inv X m5 σ H s->t σ H Q ->
  wpAny (model X.prog X.w) X.A (forIn ifs true λ c r=>if r=true then do let ok <- isTrue c X.env (eval c X.env);pure (ForInStep.yield ok) else pure (ForInStep.yield r)) (TP X m5 σ Q) X.xe s
def tYes:TT:=λ _ H Q=>Q true H
def zX {X:Cx}:zfN X [] tYes:=λ _ _ _ H _ I h=>wpAny_tests_nil ⟨H,I,h⟩
def zb3 {X:Cx} {c:Expr} {t:TT} (h:PT X c t):zfN X [c] t:=λ m5 s σ H Q I hw=>wpAny_tests_one (h m5 s σ H Q I hw)
abbrev CB (α:Type):=Shared->Hp->List Addr->List (Addr × Obj)->α
def tLc (wi:TI) (nv:Nat) (caps:Aj) (g:CB TG) (tt:CB TT) (te:CB TE):TE:=λ σ H Q=>wi σ H λ J H1=>∀ (s3:An) (H3:Hp) (fp:Ab) (pns:A2) nj,H1 nj=none ->
 ∃ W:Nat->Nat->St->Hp->Prop,(∃ m,W 0 m (stC nv caps σ) (upd H1 nj (.lst [])))/\∀ i m σ' H',W i m σ' H' ->
  (J.stop i H'/\Q (.ref nj) H')\/(J.go i H'/\∃ N:St->Hp->Prop,(∀ σ'' H'',N σ'' H''->∃ m',m' < m/\W (i + 1) m' σ'' H'')/\∀ x H'',J.yld i H' x H''->g s3 H3 fp pns x σ' H'' λ σ2 H2=>tt s3 H3 fp pns σ2 H2 λ b H5 =>
   if b=true then te s3 H3 fp pns σ2 H5 λ y H4=>∃ ys,H4 nj=some (.lst ys)/\ys.length < sizeLine/\N σ2 (upd H4 nj (.lst (ys ++ [y]))) else N σ2 H5)
section
variable {X:Cx} {elt target iter:Expr} {ifs:List Expr} {scope osc:Scope} {pos:Pos} {wi:TI} {g:CB TG} {tt:CB TT} {te:CB TE} {N vars:A8} {caps:Aj}
theorem Xb {m5:A2} {σ:St} {H2:Hp} {s2:An} {it:Addr} {fp:Ab} {tn:Nat->Heap->Prop} {J:It} {Q:VK} {RR:Value->Addr->Result->Shared->Prop} {E:A3}
  (hosc:X.env.scope=osc) (C:CompOk osc scope X.N vars caps) (hN:N=vars ++ caps.map λ k=>X.N.getD k Str.empty) (hc:X.calm=true)
  (hg:∀ s H fp m5,PG (cxC X N scope s H fp m5) target (g s H fp m5)) (ht:∀ s H fp m5,zfN (cxC X N scope s H fp m5) ifs (tt s H fp m5)) (he:∀ s H fp m5,PE (cxC X N scope s H fp m5) elt (te s H fp m5))
  (I2:Inv X m5 σ H2 s2) (T:Turn X.prog X.w X.K target J fp it tn) (st2:tn 0 s2.heap) (hf:∀ b∈fp,Qy X m5 H2 b)
  (h:∀ (s3:An) (H3:Hp) (fp:Ab) (pns:A2) nj,H2 nj=none->∃ W:Nat->Nat->St->Hp->Prop,(∃ m,W 0 m (stC vars.length caps σ) (upd H2 nj (.lst [])))/\∀ i m σ' H',W i m σ' H' ->
   (J.stop i H'/\Q (.ref nj) H')\/(J.go i H'/\∃ N:St->Hp->Prop,(∀ σ'' H'',N σ'' H''->∃ m',m' < m/\W (i + 1) m' σ'' H'')/\∀ x H'',J.yld i H' x H''->g s3 H3 fp pns x σ' H'' λ σ2 H2=>tt s3 H3 fp pns σ2 H2 λ b H5 =>
    if b=true then te s3 H3 fp pns σ2 H5 λ y H4=>∃ ys,H4 nj=some (.lst ys)/\ys.length < sizeLine/\N σ2 (upd H4 nj (.lst (ys ++ [y]))) else N σ2 H5))
  (hRR:∀ nj C s' H' m,Inv X m5 σ H' s'->Q (.ref nj) H'->s'.heap.Ns C m->H' C=none->C≠X.env.locals->X.s₀.heap.objs.size<=C->(∀ x c,X.env.cells.lookup x=some c->c≠C)->(∀ p∈X.pn ++ m5,p.1≠C)->RR (.ref nj) C (.ok .next) s') :
  wpAny (model X.prog X.w) X.A (newList []) (λ nj s₃=>wpAny (model X.prog X.w) X.A (newFunctionEnv scope X.env.globals (qW X.env.cells scope.names []) [] X.env.qual none .none (some X.env)) (λ cenv s₄ =>
   codeAny (model X.prog X.w) X.A (.compStart (.ListComp elt [⟨target,iter,ifs,0⟩] scope pos) 0 (.ref it) nj { cenv with scope:=relabel scope X.env }) (RR nj cenv.locals) s₄) E s₃) E s2:=by
 refine eu (wpAny_newFunctionEnv C.cell (by intro y hy;simp at hy) (λ h₁ hns₁ hsb₁=>?_) C.kind);obtain ⟨W,⟨m0,w0⟩,turn⟩:=h { s2 with heap:=s2.heap.push { cls:=.type "list",dict:=none,data:=.seq ([]:A7).toArray } } (upd H2 s2.heap.objs.size (.lst [])) fp m5 s2.heap.objs.size I2.fresh;have I3:Inv X m5 σ (upd H2 s2.heap.objs.size (.lst [])) { s2 with heap:=s2.heap.push { cls:=.type "list",dict:=none,data:=.seq ([]:A7).toArray } }:=I2.lnew (ni:=[]) (t':=s2.toks) .nil (by decide);dsimp only at hns₁ hsb₁ ⊢;have hfo:∀ b∈fp,∃ o,s2.heap.get? b=some o:=λ b hb=>let ⟨o,e,_⟩:=T.obj _ _ st2 b hb;⟨o,e⟩
 have hf3:∀ b∈fp,Qy X m5 (upd H2 s2.heap.objs.size (.lst [])) b:=λ b hb=>by
  refine ⟨?_,(hf b hb).2⟩;obtain ⟨o,e⟩:=hfo b hb;rw [nF (aF (aw e))];exact (hf b hb).1
 generalize hs3:({ s2 with heap:=s2.heap.push { cls:=.type "list",dict:=none,data:=.seq ([]:A7).toArray } }:An)=s3 at I3 turn;have eh:s2.heap.push { cls:=.type "list",dict:=none,data:=.seq ([]:A7).toArray }=s3.heap:=by rw [<- hs3]
 have old:∀ b o,s2.heap.get? b=some o->s3.heap.get? b=some o:=λ b o e=>by rw [<- eh];exact ak _ e
 rw [eh] at hns₁ hsb₁ ⊢;have es:({ s2 with heap:=h₁,toks:=s2.toks + ([]:List (Str × Value)).length }:An)={ s3 with heap:=h₁,toks:=s2.toks }:=by rw [<- hs3];rfl
 rw [es];generalize hH3:upd H2 s2.heap.objs.size (.lst [])=H3 at *;have hk:∀ b o,s3.heap.get? b=some o->h₁.get? b=some o:=λ b o e=>hsb₁.extBut b o (aF (aw e)) (ak _ e);have I4:Inv (cxC X N scope s3 H3 fp m5) [] (stC vars.length caps σ) H3 { s3 with heap:=h₁,toks:=s2.toks }:=zfd I3 hosc C hN hf3 (λ b hb=>let ⟨o,e⟩:=hfo b hb;⟨o,old b o e⟩) hns₁ hk;have st4:tn 0 h₁:=T.keep _ _ _ st2 λ b hb o e=>hk b o (old b o e);have stat:∀ {H':Hp},(∀ b∈fp,H' b=none)->∀ b∈fp,Qy (cxC X N scope s3 H3 fp m5) [] H' b:=λ hn b hb =>
  ⟨hn b hb,(I4.ok.exf b hb).1,I4.ok.exfs b hb,.inl hb,(I4.ok.exf b hb).2,λ p hp=>(hf b hb).2.2.2.2.2 p (by simpa [cxC] using hp)⟩
 have loop:∀ s4:Shared,s4={ s3 with heap:=h₁,toks:=s2.toks } ->
   codeAny (model X.prog X.w) X.A (.compLoop (.ListComp elt [⟨target,iter,ifs,0⟩] scope pos) 0 (.ref it) (.ref s2.heap.objs.size) (cxC X N scope s3 H3 fp m5).env) (RR (.ref s2.heap.objs.size) s3.heap.objs.size) s4:=by
  rintro s4 rfl;refine zdI (λ n s'=>∃ i σ' H',Inv (cxC X N scope s3 H3 fp m5) [] σ' H' s'/\tn i s'.heap/\(∀ b∈fp,H' b=none)/\W i n σ' H') ?_ m0 ⟨0,_,H3,I4,st4,λ b hb=>(hf3 b hb).1,w0⟩;rintro n s5 ⟨i,σ5,H5,I5,st5,fr5,w5⟩;rcases turn i n σ5 H5 w5 with ⟨stop,qn⟩|⟨go,NN,hNN,step⟩
  ·refine thn (T.done (cxC X N scope s3 H3 fp m5) rfl rfl rfl hc i [] s5 σ5 H5 NoX I5 (stat fr5) st5 stop) λ r s6 ⟨hr,I6⟩=>?_;subst hr;obtain ⟨m,hn,_⟩:=I6.loc;have hlt:∀ b o,s3.heap.get? b=some o->b≠s3.heap.objs.size:=λ b o e=>aF (aw e);obtain ⟨m3,⟨oL,_,_,hoL,_⟩,_⟩:=I3.loc;refine hRR _ _ s6 H5 m (zbB I3 hf3 I6) qn hn I6.free (λ z=>hlt _ _ hoL z.symm) I3.sz (λ x c ec z=>?_) λ p hp z=>hlt _ _ (I3.pin p hp).1 z;obtain ⟨v,o,ho,_⟩:=I3.cell x c ec;exact hlt _ _ ho z
  ·refine thn (T.item (cxC X N scope s3 H3 fp m5) rfl rfl rfl hc i [] s5 σ5 H5 NoX I5 (stat fr5) st5 go) λ r s6 ⟨u,hr,h6⟩=>?_;subst hr;refine thn h6 λ _ s7 ⟨x,H7,I7,r7,y7,st7,fr7⟩=>?_;have I7':=I7.pinned (stat fr7) (T.obj _ _ st7);have again:∀ {σ8:St} {H8:Hp} {s8:An},Inv (cxC X N scope s3 H3 fp m5) ([] ++ JF fp s7.heap) σ8 H8 s8->NN σ8 H8->∃ m,m < n/\∃ i σ' H',Inv (cxC X N scope s3 H3 fp m5) [] σ' H' s8/\tn i s8.heap/\(∀ b∈fp,H' b=none)/\W i m σ' H':=λ {σ8 H8 s8} I8 n8=>by
    obtain ⟨m',hm,w8⟩:=hNN σ8 H8 n8;refine ⟨m',hm,i + 1,σ8,H8,I8.unpinned,T.keep _ _ _ st7 λ b hb o e=>(I8.pin (b,o) (a7 _ (a7 _ (wG hb e)))).1,λ b hb=>?_,w8⟩;obtain ⟨o,e,d⟩:=T.obj _ _ st7 b hb;exact (I8.pin (b,o) (a7 _ (a7 _ (wG hb e)))).2.1
   refine thn (hg s3 H3 fp m5 _ s7 σ5 H7 x u _ I7' r7 (step x H7 y7)) λ _ s8 ⟨σ8,H8,I8,q8⟩=>?_;refine thn (ht s3 H3 fp m5 _ s8 σ8 H8 _ I8 q8) λ b s9 ⟨H9,I9,q9⟩=>?_;cases b with
   | false=>exact again I9 q9
   | true =>
    refine qy (he s3 H3 fp m5 _ s9 σ8 H9 _ I9 q9) λ v s10 y H10 I10 r10 qq_=>?_;obtain ⟨ys,ea,hz,q10⟩:=qq_;refine thn (qD (X:=cxC X N scope s3 H3 fp m5) _ s10 σ8 H10 (.ref s2.heap.objs.size) [y] (.ref s2.heap.objs.size) [v] (λ _ H'=>NN σ8 H') I10 rfl (.cons r10 .nil) ⟨_,ys,y,rfl,rfl,ea,hz,q10⟩) λ _ s11 ⟨_,H11,I11,_,q11⟩=>?_;exact again I11 q11
 exact codeAny_compStart_list (loop _ rfl) (T.self X.A 0 _ _ _ st4 (loop _ rfl))
def jr {ON:A8} (hosc:X.env.scope=osc) (hON:X.N=ON) (hB:zcz osc scope ON caps=true) (hN:N=vars ++ caps.map λ k=>ON.getD k Str.empty) (hc:X.calm=true) (hi:PI X target iter wi)
  (hg:∀ s H fp m5,PG (cxC X N scope s H fp m5) target (g s H fp m5)) (ht:∀ s H fp m5,zfN (cxC X N scope s H fp m5) ifs (tt s H fp m5)) (he:∀ s H fp m5,PE (cxC X N scope s H fp m5) elt (te s H fp m5))
  (hs:∀ x,foldedSetIterable iter X.env x=pure x:=by intro _;rfl):PE X (.ListComp elt [⟨target,iter,ifs,0⟩] scope pos) (tLc wi vars.length caps g tt te):=by
 subst hON;intro m5 s σ H Q I h;have C:CompOk osc scope X.N vars caps:=zaw hB;have hclos:closureFor scope X.env=pure (qW X.env.cells scope.names []):=vV λ y hy e=>I.ok.has y.1 (by have z:=C.free y hy e;rw [<- hosc] at z;exact z);rw [eval_ListComp];refine g7 (use:=none) rfl hs hclos C.kind C.loc (thn (hi m5 s σ H _ I h) λ v s1 h1=>thn h1 λ itv s2 h2=>?_);obtain ⟨it,fp,tn,J,H2,e,I2,T,st2,f2,hw⟩:=h2;subst e;refine Xb (N:=N) (RR:=λ nj Cc=>compPost (model X.prog X.w) X.A X.xe none (EP X m5 σ Q) nj Cc) hosc C hN hc hg ht he I2 T st2 f2 hw λ nj Cc s' H' m I' q hn hC hL hsz hcc hpp=>?_;refine ⟨m,hn,λ h' hs'=>⟨.ref nj,H',?_,rfl,q⟩⟩;exact I'.turned (t':=s'.toks) (it:=Cc) (λ b o hb e=>(hs'.2 b hb).trans e) hC (λ z=>hL z) (.inr hsz) hcc hpp
def JC {ON:A8} {i:Nat} {x:Str} {pos' spos:Pos} (hNd:X.N.Nodup) (hix:X.N[i]?=some x) (hx:Loc X.env.scope x)
  (hosc:X.env.scope=osc) (hON:X.N=ON) (hB:zcz osc scope ON caps=true) (hN:N=vars ++ caps.map λ k=>ON.getD k Str.empty) (hc:X.calm=true) (hi:PI X target iter wi)
  (hg:∀ s H fp m5,PG (cxC X N scope s H fp m5) target (g s H fp m5)) (ht:∀ s H fp m5,zfN (cxC X N scope s H fp m5) ifs (tt s H fp m5)) (he:∀ s H fp m5,PE (cxC X N scope s H fp m5) elt (te s H fp m5))
  (hsw:swapsWith (.ListComp elt [⟨target,iter,ifs,0⟩] scope pos) (some (.Name x pos')) spos.line X.env=pure true:=by rfl)
  (hf:X.fn x=true\/X.env.scope.names.lookup x=some .local:=by walk_at "p")
  (hs:∀ x,foldedSetIterable iter X.env x=pure x:=by intro _;rfl):PS X (.Assign [.Name x pos'] (.ListComp elt [⟨target,iter,ifs,0⟩] scope pos) spos) (tAsg (tLc wi vars.length caps g tt te) (gName i)):=by
 subst hON;intro m5 s σ H D I h;have C:CompOk osc scope X.N vars caps:=zaw hB;have hclos:closureFor scope X.env=pure (qW X.env.cells scope.names []):=vV λ y hy e=>I.ok.has y.1 (by have z:=C.free y hy e;rw [<- hosc] at z;exact z);rw [exec_Assign_Name_used _ _ _ _ hsw];refine af (g6 (af ?_));show wpAny _ X.A (do let _ <- comprehension (.ListComp elt [⟨target,iter,ifs,0⟩] scope pos) scope X.env _ (newList []) false (eval iter X.env) (some (assign (.Name x pos') X.env))) _ _ s
 refine af (bg (g7 (use:=some (assign (.Name x pos') X.env)) (Q:=λ _ s'=>SP X m5 D .next s') rfl hs hclos C.kind C.loc (thn (hi m5 s σ H _ I h) λ v s1 h1=>thn h1 λ itv s2 h2=>?_)) (λ _ s' hq=>ao (ao hq)) λ _ _ e=>e);obtain ⟨it,fp,tn,J,H2,e,I2,T,st2,f2,hw⟩:=h2;subst e;refine Xb (N:=N) (Q:=λ v H1=>gName i v σ H1 D.nx) (RR:=λ nj Cc=>compPost (model X.prog X.w) X.A X.xe (some (assign (.Name x pos') X.env)) (λ _ s'=>SP X m5 D .next s') nj Cc) hosc C hN hc hg ht he I2 T st2 f2 hw λ nj Cc s' H' m I' q hn hC hL hsz hcc hpp=>?_;refine wpAny_assign_Name (XG I' hNd hix hx (v:=.ref nj) rfl (λ s3 I3 ⟨a,sb,ha⟩=>?_) hf);have hne:Cc≠a:=λ z=>by
  rcases ha with e|e
  ·exact hL (z.trans e)
  ·exact hcc x a e z.symm
 refine ⟨m,hn.sameBut sb hne,λ h' hs'=>⟨_,H',?_,q⟩⟩;exact I3.turned (t':=s3.toks) (it:=Cc) (λ b o hb e=>(hs'.2 b hb).trans e) hC (λ z=>hL z) (.inr hsz) hcc hpp
end
variable {b:Bool} {Q:A3} {i:Nat} {X:Cx}
section
variable {X:Cx} {m5:A2} {σ:St} {H:Hp} {s:An} {h':Heap} {ch:Ab}
def Inv.turnNew {T:Addr} {o:HO} {t':Nat} (I:Inv X m5 σ H s) (hch:∀ b∈ch,Qy X m5 H b) (hT:s.heap.objs.size<=T) (keep:∀ b o,b ∉ ch->s.heap.get? b=some o->h'.get? b=some o)
  (new:ObjOk X.prog X.w (upd H T o) h' T o):Inv X m5 σ (upd H T o) { s with heap:=h',toks:=t' }:=by
 have hn:H T=none:=I.hok.fresh hT;have lt:∀ b u,s.heap.get? b=some u->b≠T:=λ b u e=>aF (aI (aw e) hT);have nch:∀ b u,H b=some u->b ∉ ch:=λ b u e z=>by rw [(hch b z).1] at e;cases e
 refine I.step (g':=s.gens) (d':=s.drawn) (ch:=ch) (λ b hb=>⟨(hch b hb).2.2.2.1,(hch b hb).2.1,(hch b hb).2.2.2.2.1,(hch b hb).2.2.2.2.2⟩) (λ b o _ _ hc e _=>keep b o hc e) (λ b o _ _ hc e _=>⟨o.slots,keep b o hc e⟩)
  (λ b o _ e n=>by rw [nF (lt b o e)];exact n) (λ b o hc e=>⟨o,keep b o hc e⟩) (λ b xs e=>by rw [nF (nH e hn)];exact e) (λ b o u e=>by rw [nF (nH e hn)];exact e)
  (λ b ps e=>⟨#[],by rw [nF (nH e hn),e];simp⟩) (λ m hm=>?_) (λ b u e=>?_) I.bare
 ·obtain ⟨o,es,ep,ho,r⟩:=hm;exact ⟨o,es,ep,keep _ o (λ z=>(hch _ z).2.1 rfl) ho,r⟩
 ·by_cases hb:b=T
  ·subst hb;rw [nE] at e;cases e;exact new
  ·rw [nF hb] at e;refine (I.hok b u e).stay (λ c v hc q=>keep c v ?_ q) (λ c q=>by rw [nF (nH q hn)];exact q) λ c xs q=>by rw [nF (nH q hn)];exact q
   rcases hc with z|z
   ·rw [z];exact nch b u e
   ·exact nch c _ z
def Inv.turnL {t':Nat} (I:Inv X m5 σ H s) (hch:∀ b∈ch,Qy X m5 H b) (keep:∀ b o,b ∉ ch->s.heap.get? b=some o->h'.get? b=some o):Inv X m5 σ H { s with heap:=h',toks:=t' }:=by
 have nch:∀ b u,H b=some u->b ∉ ch:=λ b u e z=>by rw [(hch b z).1] at e;cases e
 refine I.step (g':=s.gens) (d':=s.drawn) (ch:=ch) (λ b hb=>⟨(hch b hb).2.2.2.1,(hch b hb).2.1,(hch b hb).2.2.2.2.1,(hch b hb).2.2.2.2.2⟩) (λ b o _ _ hc e _=>keep b o hc e) (λ b o _ _ hc e _=>⟨o.slots,keep b o hc e⟩)
  (λ _ _ _ _ n=>n) (λ b o hc e=>⟨o,keep b o hc e⟩) (λ _ _ e=>e) (λ _ _ _ e=>e) (λ b ps e=>⟨#[],by rw [e];simp⟩) (λ m hm=>?_) (λ b u e=>?_) I.bare
 ·obtain ⟨o,es,ep,ho,r⟩:=hm;exact ⟨o,es,ep,keep _ o (λ z=>(hch _ z).2.1 rfl) ho,r⟩
 ·refine (I.hok b u e).stay (λ c v hc q=>keep c v ?_ q) (λ _ q=>q) λ _ _ q=>q;rcases hc with z|z
  ·rw [z];exact nch b u e
  ·exact nch c _ z
end
noncomputable def Ite (K:A0) (a:Addr):It :=
 ⟨λ i H=>∃ xs x,SqL K H a xs/\xs[i]?=some x,λ i H v H'=>∃ t x,H t=none/\v=.ref t/\(∀ xs,SqL K H a xs->xs[i]?=some x)/\H'=upd H t (.tup [.int i,x]),λ i H=>∃ xs,SqL K H a xs/\xs.length<=i⟩
def zcN {P:Af} {w:World} {K:A0} {elts:List Expr} {x1} {pos:Pos} (a e it:Addr) (hne:e≠it) :
  Turn P w K (.Tuple elts x1 pos) (Ite K a) [e,it] e (λ i h=>(∃ old,IsEnum h e it i old)/\h.IsListIter it a i) where
 mem:=by simp
 obj:=λ i h st b hb=>by
  obtain ⟨⟨old,he⟩,o,ho,c,d⟩:=st;rcases az.mp hb with rfl|hb
  ·exact ⟨_,he,λ v z=>by cases z⟩
  ·obtain rfl:b=it:=by simpa using hb
   exact ⟨o,ho,λ v z=>by rw [d] at z;cases z⟩
 keep:=λ i h h' st k=>by
  obtain ⟨⟨old,he⟩,hi⟩:=st;exact ⟨⟨old,k e (by simp) _ he⟩,hi.at λ o z=>k it (by simp) o z⟩
 item:=by
  intro X hP hw hK hc i m5 s σ H E I hf st hg;subst hP hw hK;obtain ⟨⟨old,he⟩,hi⟩:=st;obtain ⟨xs,x,hq,hx⟩:=hg;obtain ⟨ni,rv,p,hz⟩:=I.list hq;obtain ⟨u,hu,ru⟩:=rv.get hx;refine wpAny_pyNext_enum_item he hi p.isList (x:=u) (by simpa using hu) hne λ h' he' hi' hT hsz hk=>?_;refine ⟨_,rfl,?_⟩;have I1:Inv X m5 σ (upd H s.heap.objs.size (.tup [.int i,x])) { s with heap:=h',toks:=s.toks + 1 }:=I.turnNew hf (au _) (λ b o hb q=>hk b o (λ z=>hb (by simp [z])) (λ z=>hb (by simp [z])) q)
   ⟨by show 2<=sizeLine;decide,[.int i s.toks,u],.cons ⟨_,rfl⟩ (.cons ru .nil),⟨_,hT,rfl,_,rfl⟩⟩
  have hn:H s.heap.objs.size=none:=I.hok.fresh (au _);have ne:∀ b∈[e,it],b≠s.heap.objs.size:=λ b hb=>by
   rcases az.mp hb with rfl|hb
   ·exact aF (aw he)
   ·obtain rfl:b=it:=by simpa using hb
    obtain ⟨o,ho,_⟩:=hi;exact aF (aw ho)
  have fr:∀ b∈[e,it],(upd H s.heap.objs.size (.tup [.int i,x])) b=none:=λ b hb=>by rw [nF (ne b hb)];exact (hf b hb).1
  refine wpAny_letOwnedTupleGo_enum he' λ h'' he'' hs''=>?_;refine ⟨.ref s.heap.objs.size,_,I1.turnL (t':=s.toks + 1) (ch:=[e]) (λ b hb=>?_) (λ b o hb q=>(hs''.2 b (λ z=>hb (by simp [z]))).trans q),rfl,
   ⟨s.heap.objs.size,x,hn,rfl,λ ys hy=>by rw [I.list_inj hy hq];exact hx,rfl⟩,⟨⟨u,?_⟩,hi'.extBut hs''.extBut (ba hne)⟩,fr⟩
  ·obtain rfl:b=e:=by simpa using hb
   exact ⟨fr b (by simp),(hf b (by simp)).2⟩
  ·exact he''
 done:=by
  intro X hP hw hK hc i m5 s σ H E I hf st hg;subst hP hw hK;obtain ⟨⟨old,he⟩,hi⟩:=st;obtain ⟨xs,hq,hx⟩:=hg;obtain ⟨ni,rv,p,hz⟩:=I.list hq;have hl:=rv.length;exact wpAny_pyNext_enum_end (I.ok.hd hc) he hi p.isList (by simp;lia) λ h' eb=>⟨rfl,I.turnL (t':=s.toks) hf λ b o hb q=>eb b o (λ z=>hb (by simp [z])) q⟩
 self:=λ _ _ _ _ _ st h=>by
  obtain ⟨⟨old,he⟩,_⟩:=st;exact wpAny_pyIter_enum he h
def Vi:bootBuiltins "enumerate"=some (.type "enumerate"):=by decide +kernel
def zh6:bootBuiltins "zip"=some (.type "zip"):=by decide +kernel
def iEnum (X:Cx) (ta:TA):TI:=λ σ H R=>X.mg "enumerate"=none/\ta σ H λ vs H1=>∃ a xs,vs=[.ref a]/\H1 a=some (.lst xs)/\R (Ite X.K a) H1
def qZ {a:Expr} {elts:List Expr} {x1} {tp p pos:Pos} {ta:TA} (ha:PA X [a] ta) (hg:Gl X "enumerate":=by rfl)
  (hs:starEach [a] X.env=(false,eval a X.env) :: starEach [] X.env:=by rfl) (hpl:(backTo pos (starEach [] X.env)).any (·.1)=false:=by rfl) :
  PI X (.Tuple elts x1 tp) (.Call (.Name "enumerate" p) [a] [] pos) (iEnum X ta):=by
 intro m5 s σ H R I h;refine bL (Zn I hg h.1 Vi ?_);refine bA (wW (ha pos m5 s σ H _ I h.2) λ us s1 vs H1 I1 r1 q1=>?_) hs hpl;obtain ⟨l,xs,rfl,hq,hR⟩:=q1;obtain ⟨u,rfl,rx⟩:=xk r1;cases rx;obtain ⟨hz,ni,n,rv,hl,e⟩:=I1.lstM hq;refine call_enumerate_1 e λ h' he hi hsz hk=>wpAny_pyIter_enum he ?_;refine ⟨s1.heap.objs.size + 1,[s1.heap.objs.size + 1,s1.heap.objs.size],_,_,H1,rfl,I1.kept (t':=s1.toks) hk,zcN l _ _ (Nat.succ_ne_self _),⟨⟨_,he⟩,hi⟩,λ b hb=>?_,hR⟩;rcases az.mp hb with rfl|hb
 ·exact I1.fpOk (di _) (I1.hok.fresh (di _))
 ·obtain rfl:b=s1.heap.objs.size:=by simpa using hb
  exact I1.fpOk (au _) (I1.hok.fresh (au _))
def ItAt (b:Bool) (h:Heap) (it a:Addr) (i:Nat):Prop:=if b=true then h.IsListIter it a i else h.IsTupleIter it a i
def SqAt (b:Bool) (h:Heap) (a:Addr) (items:Ac):Prop:=if b=true then h.IsList a items else h.IsTuple a items
noncomputable def Qr (b:Bool):String:=if b=true then "list_iterator" else "tuple_iterator"
def ItAt.at' {h h':Heap} {it a:Addr} (x:ItAt b h it a i) (hk:∀ o,h.get? it=some o->h'.get? it=some o):ItAt b h' it a i:=by
 cases b <;> exact let ⟨o,ho,r⟩:=x;⟨o,hk o ho,r⟩
def ItAt.obj {h:Heap} {it a:Addr} (x:ItAt b h it a i):∃ o,h.get? it=some o/\∀ v,o.data≠.cell v:=by
 cases b <;> exact let ⟨o,ho,_,hd⟩:=x;⟨o,ho,λ v z=>by rw [hd] at z;cases z⟩
def SqAt.at' {h h':Heap} {a:Addr} {items:Ac} (x:SqAt b h a items) (hk:∀ o,h.get? a=some o->h'.get? a=some o):SqAt b h' a items:=by
 cases b <;> exact let ⟨o,ho,r⟩:=x;⟨o,hk o ho,r⟩
section
variable {prog:Af} {w:World} {A:Ao} {E:A3} {s:An}
def ZJ {it t:Addr} {items} {x:Am} (hit:s.heap.IsTupleIter it t i) (ht:s.heap.IsTuple t items) (hx:items[i]?=some x)
  (hQ:∀ h',h'.IsTupleIter it t (i + 1)->Heap.SameBut it s.heap h'->Q x { s with heap:=h' }):wpAny (model prog w) A (Builtin.SmallTypes.nextOf (.ref it)) Q E s:=by
 obtain ⟨o,ho,hc,hd⟩:=id hit;obtain ⟨ol,hol,_,nl,hdl⟩:=ht;unfold Builtin.SmallTypes.nextOf;refine af (da (name:=Str.ofString "__next__") hit.typeIs cO
  (eI cO hit.typeIs gE ?_ (gu _)))
 show wpAny _ _ (field (.ref it) 0 >>= _) _ _ s
 refine af (bx ho hd (x:=.ref t) rfl ?_);show wpAny _ _ (if (Value.ref t == Value.none)=true then _ else _) _ _ s
 rw [aq (show ¬ ((Value.ref t == Value.none)=true) from aC)];show wpAny _ _ (field (.ref it) 1 >>= _) _ _ s
 refine af (bx ho hd (x:=.int i 0) rfl ?_);show wpAny _ _ (seqItems? (.ref t) >>= _) _ _ s
 refine af (bF hol hdl ?_);simp only [aE,hx];refine af (dW ho hd (by simp) (ao ⟨x,rfl,ao (hQ _ ?_ (dP ..))⟩));exact ⟨_,bK _ ho (du (b6 hd _)),(Obj.cls_mapFields ..).trans hc,by
  rw [b6 hd];simp [rawInt]⟩
def Qm {it t:Addr} {items} (hh:A.handled=none) (hit:s.heap.IsTupleIter it t i) (ht:s.heap.IsTuple t items) (hx:items[i]?=none)
  (hE:∀ h' e,Heap.ExtBut it s.heap h'->(∃ o,h'.get? e=some o/\o.cls=.type "StopIteration")->E (.ref e) { s with heap:=h' }) :
  wpAny (model prog w) A (Builtin.SmallTypes.nextOf (.ref it)) Q E s:=by
 obtain ⟨o,ho,hc,hd⟩:=id hit;obtain ⟨ol,hol,_,nl,hdl⟩:=ht;unfold Builtin.SmallTypes.nextOf;refine af (da (name:=Str.ofString "__next__") hit.typeIs cO
  (eI cO hit.typeIs gE ?_ (gu _)))
 show wpAny _ _ (field (.ref it) 0 >>= _) _ _ s
 refine af (bx ho hd (x:=.ref t) rfl ?_);show wpAny _ _ (if (Value.ref t == Value.none)=true then _ else _) _ _ s
 rw [aq (show ¬ ((Value.ref t == Value.none)=true) from aC)];show wpAny _ _ (field (.ref it) 1 >>= _) _ _ s
 refine af (bx ho hd (x:=.int i 0) rfl ?_);show wpAny _ _ (seqItems? (.ref t) >>= _) _ _ s
 refine af (bF hol hdl ?_);simp only [aE,hx];refine af (wpAny_rule (af (dW ho hd (by simp) ?_)));show wpAny _ _ (newExc (.type "StopIteration") [] >>= _) _ _ _
 refine af ?_;simp only [newExc,newTuple];refine af (eu ?_ (by size_fits));refine af (m:=firstArgMember _ _) (wpAny_of_eq (a:=Value.none) (by first|rfl|(simp only [firstArgMember];rfl)) ?_);refine eu ?_ (by size_fits);simp only [raiseNew];refine af (wpAny_handled ?_)
 first|rw [show A.in1.handled=none from hh] | rw [hh]
 refine af (ao (wpAny_throw ?_));exact hE _ _ (((dP ..).extBut.push _).push _) ⟨_,ay _ rfl,rfl⟩
def vn {it t:Addr} {items} {x:Am} (hit:ItAt b s.heap it t i) (ht:SqAt b s.heap t items) (hx:items[i]?=some x)
  (hQ:∀ h',ItAt b h' it t (i + 1)->Heap.SameBut it s.heap h'->Q x { s with heap:=h' }):wpAny (model prog w) A (Builtin.SmallTypes.nextOf (.ref it)) Q E s:=by
 cases b
 ·exact ZJ hit ht hx hQ
 ·exact wpAny_nextOf_list_item hit ht hx hQ
def JT {it t:Addr} {items} (hh:A.handled=none) (hit:ItAt b s.heap it t i) (ht:SqAt b s.heap t items) (hx:items[i]?=none)
  (hE:∀ h' e,Heap.ExtBut it s.heap h'->(∃ o,h'.get? e=some o/\o.cls=.type "StopIteration")->E (.ref e) { s with heap:=h' }) :
  wpAny (model prog w) A (Builtin.SmallTypes.nextOf (.ref it)) Q E s:=by
 cases b
 ·exact Qm hh hit ht hx hE
 ·exact wpAny_nextOf_list_end hh hit ht hx hE
def XO {t:Addr} {items} (ht:SqAt b s.heap t items)
  (hQ:Q (.ref s.heap.objs.size) { s with heap:=s.heap.push { cls:=.type (Qr b),data:=.fields #[.ref t,.int 0 0] } }):wpAny (model prog w) A (pyIter (.ref t)) Q E s:=by
 cases b
 ·exact wpAny_pyIter_tuple ht hQ
 ·exact cf ht hQ
def zdV {b1 b2:Bool} {z TI TO i1 i2 l1 l2:Addr} {k1 k2:Nat} {xs ys:Ac} {x y a b:Am} (D:ZipApart z TI TO i1 i2 l1 l2)
  (hz:IsZip s.heap z TI TO .none) (hTI:IsPair s.heap TI (.ref i1) (.ref i2)) (hTO:IsPair s.heap TO a b)
  (h1:ItAt b1 s.heap i1 l1 k1) (h2:ItAt b2 s.heap i2 l2 k2) (hl1:SqAt b1 s.heap l1 xs) (hl2:SqAt b2 s.heap l2 ys) (hx:xs[k1]?=some x) (hy:ys[k2]?=some y)
  (hQ:∀ h',IsZip h' z TI TO (rawInt s.heap.objs.size)->IsPair h' TO x y->ItAt b1 h' i1 l1 (k1 + 1)->ItAt b2 h' i2 l2 (k2 + 1)->IsPair h' s.heap.objs.size x y->h'.objs.size=s.heap.objs.size + 1 ->
   (∀ c o,c≠z->c≠TO->c≠i1->c≠i2->s.heap.get? c=some o->h'.get? c=some o)->Q (.ref s.heap.objs.size) { s with heap:=h' }) :
  wpAny (model prog w) A (Builtin.«zip.__next__» ⟨[.ref z],[]⟩) (λ fin s'=>∃ v,fin=.done (.ret v)/\Q v s') E s:=by
 show wpAny _ _ (field (.ref z) 2 >>= _) _ _ _
 refine af (bx hz rfl (x:=.bool false) rfl ?_);show wpAny _ _ (field (.ref z) 3 >>= _) _ _ _
 refine af (bx hz rfl (x:=.ref TI) rfl ?_);refine af (bF hTI rfl ?_);show wpAny _ _ (Builtin.SmallTypes.ownedTupleIsFree (.ref z) >>= _) _ _ _
 refine af ?_;unfold Builtin.SmallTypes.ownedTupleIsFree;refine af (bx hz rfl (x:=.none) rfl (ao ?_));simp only [d6];refine af (wpAny_rule ?_);refine af (bx hz rfl (x:=.ref TO) rfl ?_);refine af (cz hz (by simp) λ h₁ hz₁ hs₁=>?_);replace hz₁:IsZip h₁ z TI TO .ellipsis:=hz₁;refine af ?_;simp only [List.zipIdx_cons,List.zipIdx_nil,gy,List.forIn_nil];refine af (af (fC ?_));show wpAny _ _ (Builtin.SmallTypes.nextOf (.ref i1) >>= _) _ _ _
 refine af (vn (h1.at' λ o e=>hs₁.extBut _ _ D.i1z e) (hl1.at' λ o e=>hs₁.extBut _ _ D.l1z e) hx λ h₂ h1₂ hs₂=>ao ?_);have hTO₂:IsPair h₂ TO a b:=hs₂.extBut _ _ D.TOi1 (hs₁.extBut _ _ D.TOz hTO);refine af (bF hTO₂ rfl ?_);refine af (ff hTO₂ λ h₃ hTO₃ hs₃=>?_);replace hTO₃:IsPair h₃ TO x b:=hTO₃;refine af (wpAny_letGo (ao ?_));refine af (af (fC ?_));show wpAny _ _ (Builtin.SmallTypes.nextOf (.ref i2) >>= _) _ _ _
 refine af (vn (h2.at' λ o e=>hs₃.extBut _ _ D.TOi2.symm (hs₂.extBut _ _ D.i12.symm (hs₁.extBut _ _ D.i2z e)))
  (hl2.at' λ o e=>hs₃.extBut _ _ D.l2TO (hs₂.extBut _ _ D.l2i1 (hs₁.extBut _ _ D.l2z e))) hy λ h₄ h2₄ hs₄=>ao ?_)
 have hTO₄:IsPair h₄ TO x b:=hs₄.extBut _ _ D.TOi2 hTO₃;refine af (bF hTO₄ rfl ?_);refine af (ff hTO₄ λ h₅ hTO₅ hs₅=>?_);replace hTO₅:IsPair h₅ TO x y:=hTO₅;refine af (wpAny_letGo (ao (ao ?_)));refine af (bF hTO₅ rfl ?_);refine af (wpAny_newTuple ?_);have hsz:h₅.objs.size=s.heap.objs.size:=by rw [hs₅.1,hs₄.1,hs₃.1,hs₂.1,hs₁.1]
 have hz₅:IsZip h₅ z TI TO .ellipsis:=hs₅.extBut _ _ D.TOz.symm (hs₄.extBut _ _ D.i2z.symm (hs₃.extBut _ _ D.TOz.symm (hs₂.extBut _ _ D.i1z.symm hz₁)));have hk₅:∀ c o,c≠z->c≠TO->c≠i1->c≠i2->s.heap.get? c=some o->h₅.get? c=some o:=λ c o c1 c2 c3 c4 e =>
  hs₅.extBut _ _ c2 (hs₄.extBut _ _ c4 (hs₃.extBut _ _ c2 (hs₂.extBut _ _ c3 (hs₁.extBut _ _ c1 e))))
 have h1₅:ItAt b1 h₅ i1 l1 (k1 + 1):=h1₂.at' λ o e=>hs₅.extBut _ _ D.TOi1.symm (hs₄.extBut _ _ D.i12 (hs₃.extBut _ _ D.TOi1.symm e));have h2₅:ItAt b2 h₅ i2 l2 (k2 + 1):=h2₄.at' λ o e=>hs₅.extBut _ _ D.TOi2.symm e;have hzlt:z < h₅.objs.size:=aw hz₅;show wpAny _ _ (Builtin.SmallTypes.ownedTupleHandOut (.ref z) (.ref h₅.objs.size) >>= _) _ _ _
 refine af ?_;unfold Builtin.SmallTypes.ownedTupleHandOut;have hz₆:IsZip (h₅.push { cls:=.type "tuple",data:=.seq #[x,y] }) z TI TO .ellipsis:=ak _ hz₅;refine af (cz hz₆ (by simp) λ h₇ hz₇ hs₇=>?_);replace hz₇:IsZip h₇ z TI TO (rawInt h₅.objs.size):=hz₇;refine cz hz₇ (by simp) λ h₈ hz₈ hs₈=>?_;replace hz₈:IsZip h₈ z TI TO (rawInt h₅.objs.size):=hz₈;have up:∀ c o,c≠z->h₅.get? c=some o->h₈.get? c=some o:=λ c o c1 e=>hs₈.extBut _ _ c1 (hs₇.extBut _ _ c1 (ak _ e));have hT₈:IsPair h₈ h₅.objs.size x y:=hs₈.extBut _ _ (dA hzlt) (hs₇.extBut _ _ (dA hzlt) (ay _ rfl));have hz8:h₈.objs.size=h₅.objs.size + 1:=by rw [hs₈.1,hs₇.1,bz]
 rw [hsz] at hz₈ hT₈ hz8;refine ao ⟨_,rfl,?_⟩;show Q (.ref h₅.objs.size) _
 rw [hsz];exact hQ h₈ hz₈ (up _ _ D.TOz hTO₅) (h1₅.at' λ o e=>up _ o D.i1z e) (h2₅.at' λ o e=>up _ o D.i2z e) hT₈ hz8 λ c o c1 c2 c3 c4 e=>up c o c1 (hk₅ c o c1 c2 c3 c4 e)
theorem zfO {b1 b2:Bool} {z TI TO i1 i2 l1 l2:Addr} {k1 k2:Nat} {xs ys:Ac} {a b:Am} {Q:Fin->Shared->Prop} (hh:A.handled=none) (D:ZipApart z TI TO i1 i2 l1 l2)
  (hz:IsZip s.heap z TI TO .none) (hTI:IsPair s.heap TI (.ref i1) (.ref i2)) (hTO:IsPair s.heap TO a b)
  (h1:ItAt b1 s.heap i1 l1 k1) (h2:ItAt b2 s.heap i2 l2 k2) (hl1:SqAt b1 s.heap l1 xs) (hl2:SqAt b2 s.heap l2 ys) (hend:xs[k1]?=none\/ys[k2]?=none)
  (hE:∀ h' e,(∀ c o,c≠z->c≠TO->c≠i1->c≠i2->s.heap.get? c=some o->h'.get? c=some o)->(∃ o,h'.get? e=some o/\o.cls=.type "StopIteration")->E (.ref e) { s with heap:=h' }) :
  wpAny (model prog w) A (Builtin.«zip.__next__» ⟨[.ref z],[]⟩) Q E s:=by
 show wpAny _ _ (field (.ref z) 2 >>= _) _ _ _
 refine af (bx hz rfl (x:=.bool false) rfl ?_);show wpAny _ _ (field (.ref z) 3 >>= _) _ _ _
 refine af (bx hz rfl (x:=.ref TI) rfl ?_);refine af (bF hTI rfl ?_);show wpAny _ _ (Builtin.SmallTypes.ownedTupleIsFree (.ref z) >>= _) _ _ _
 refine af ?_;unfold Builtin.SmallTypes.ownedTupleIsFree;refine af (bx hz rfl (x:=.none) rfl (ao ?_));simp only [d6];refine af (wpAny_rule ?_);refine af (bx hz rfl (x:=.ref TO) rfl ?_);refine af (cz hz (by simp) λ h₁ hz₁ hs₁=>?_);replace hz₁:IsZip h₁ z TI TO .ellipsis:=hz₁;refine af ?_;simp only [List.zipIdx_cons,List.zipIdx_nil,gy,List.forIn_nil];refine af (af (fC ?_));show wpAny _ _ (Builtin.SmallTypes.nextOf (.ref i1) >>= _) _ _ _
 cases hx:xs[k1]? with
 | none =>
  refine af (JT hh (h1.at' λ o e=>hs₁.extBut _ _ D.i1z e) (hl1.at' λ o e=>hs₁.extBut _ _ D.l1z e) hx λ h₂ e hs₂ he=>?_);obtain ⟨oe,hoe,hce⟩:=he;have hz₂:IsZip h₂ z TI TO .ellipsis:=hs₂ _ _ D.i1z.symm hz₁;have hez:e≠z:=λ x=>by subst x;rw [hz₂] at hoe;cases hoe;simp at hce
  refine cz hz₂ (by simp) λ h₃ _ hs₃=>hE h₃ e (λ c o c1 _ c3 _ x=>hs₃.extBut _ _ c1 (hs₂ _ _ c3 (hs₁.extBut _ _ c1 x))) ⟨oe,hs₃.extBut _ _ hez hoe,hce⟩
 | some x =>
  have hy:ys[k2]?=none:=by rcases hend with h|h;rw [hx] at h;cases h;exact h
  refine af (vn (h1.at' λ o e=>hs₁.extBut _ _ D.i1z e) (hl1.at' λ o e=>hs₁.extBut _ _ D.l1z e) hx λ h₂ h1₂ hs₂=>ao ?_);have hTO₂:IsPair h₂ TO a b:=hs₂.extBut _ _ D.TOi1 (hs₁.extBut _ _ D.TOz hTO);refine af (bF hTO₂ rfl ?_);refine af (ff hTO₂ λ h₃ hTO₃ hs₃=>?_);refine af (wpAny_letGo (ao ?_));refine af (af (fC ?_));show wpAny _ _ (Builtin.SmallTypes.nextOf (.ref i2) >>= _) _ _ _
  refine af (JT hh (h2.at' λ o e=>hs₃.extBut _ _ D.TOi2.symm (hs₂.extBut _ _ D.i12.symm (hs₁.extBut _ _ D.i2z e)))
   (hl2.at' λ o e=>hs₃.extBut _ _ D.l2TO (hs₂.extBut _ _ D.l2i1 (hs₁.extBut _ _ D.l2z e))) hy λ h₄ e hs₄ he=>?_)
  obtain ⟨oe,hoe,hce⟩:=he;have hz₄:IsZip h₄ z TI TO .ellipsis:=hs₄ _ _ D.i2z.symm (hs₃.extBut _ _ D.TOz.symm (hs₂.extBut _ _ D.i1z.symm hz₁));have hez:e≠z:=λ x=>by subst x;rw [hz₄] at hoe;cases hoe;simp at hce
  refine cz hz₄ (by simp) λ h₅ _ hs₅=>hE h₅ e (λ c o c1 c2 c3 c4 x=>hs₅.extBut _ _ c1 (hs₄ _ _ c4 (hs₃.extBut _ _ c2 (hs₂.extBut _ _ c3 (hs₁.extBut _ _ c1 x))))) ⟨oe,hs₅.extBut _ _ hez hoe,hce⟩
noncomputable abbrev zH1 (h:Heap) (b1:Bool) (l1:Addr):Heap:=h.push { cls:=.type (Qr b1),data:=.fields #[.ref l1,.int 0 0] }
noncomputable abbrev zH2 (h:Heap) (b1 b2:Bool) (l1 l2:Addr):Heap:=(zH1 h b1 l1).push { cls:=.type (Qr b2),data:=.fields #[.ref l2,.int 0 0] }
noncomputable abbrev zH3 (h:Heap) (b1 b2:Bool) (l1 l2:Addr):Heap:=(zH2 h b1 b2 l1 l2).push { cls:=.type "tuple",data:=.seq #[.ref h.objs.size,.ref (zH1 h b1 l1).objs.size] }
noncomputable abbrev zH4 (h:Heap) (b1 b2:Bool) (l1 l2:Addr):Heap:=(zH3 h b1 b2 l1 l2).push { cls:=.type "tuple",data:=.seq #[.none,.none] }
noncomputable abbrev zH5 (h:Heap) (b1 b2:Bool) (l1 l2:Addr):Heap:=(zH4 h b1 b2 l1 l2).push { cls:=.type "zip",data:=.fields #[.none,.bool false,.bool false,.ref (zH2 h b1 b2 l1 l2).objs.size,.ref (zH3 h b1 b2 l1 l2).objs.size] }
end
def zdm {b1 b2:Bool} (l1 l2:Addr) (xs ys:Ac) :
  Meets (Builtin.«zip.__new__» ⟨[.type "zip",.ref l1,.ref l2],[]⟩) (λ _ R s=>SqAt b1 s.heap l1 xs/\SqAt b2 s.heap l2 ys /\
   R (.ok (.ret (.ref (zH4 s.heap b1 b2 l1 l2).objs.size))) { s with heap:=zH5 s.heap b1 b2 l1 l2 }) :=
 .of_wp λ prog w A R s h=>by
  obtain ⟨hp,g,d,tk,os⟩:=s;obtain ⟨hl1,hl2,h⟩:=h;have hsub:=sub_zip;have hL1:SqAt b1 (Shared.heap ⟨hp,g,d,tk,os⟩) l1 xs:=hl1;have hL2:SqAt b2 (Shared.heap ⟨hp.push { cls:=.type (Qr b1),data:=.fields #[.ref l1,.int 0 0] },g,d,tk,os⟩) l2 ys:=hl2.at' λ o e=>ak _ e
  wp_walk using XO hL1,XO hL2
  exact ⟨_,rfl,h⟩
section
variable {prog:Af} {w:World} {A:Ao} {E:A3} {s:An}
def ItAt.new {h:Heap} {it l:Addr} (e:h.get? it=some { cls:=.type (Qr b),data:=.fields #[.ref l,.int 0 0] }):ItAt b h it l 0:=by
 cases b <;> exact ⟨_,e,rfl,rfl⟩
def zfz {b1 b2:Bool} {l1 l2:Addr} {xs ys:Ac} (hl1:SqAt b1 s.heap l1 xs) (hl2:SqAt b2 s.heap l2 ys)
  (h:∀ h',IsZip h' (s.heap.objs.size + 4) (s.heap.objs.size + 2) (s.heap.objs.size + 3) .none->IsPair h' (s.heap.objs.size + 2) (.ref s.heap.objs.size) (.ref (s.heap.objs.size + 1)) ->
   IsPair h' (s.heap.objs.size + 3) .none .none->ItAt b1 h' s.heap.objs.size l1 0->ItAt b2 h' (s.heap.objs.size + 1) l2 0->h'.objs.size=s.heap.objs.size + 5 ->
   (∀ c o,s.heap.get? c=some o->h'.get? c=some o)->Q (.ref (s.heap.objs.size + 4)) { s with heap:=h' }) :
  wpAny (model prog w) A (call (.type "zip") [.ref l1,.ref l2]) Q E s:=by
 refine callType_new F.called_zip (by decide) (F.typeCall_zip_2 _ _) (F.newCall_zip_2 _ _) (λ obj=>F.args_object_init_3 obj _ _) F.entry_zip_new
  (zdm (b1:=b1) (b2:=b2) l1 l2 xs ys) ⟨hl1,hl2,?_⟩
 have z1:(zH1 s.heap b1 l1).objs.size=s.heap.objs.size + 1:=bz ..;have z2:(zH2 s.heap b1 b2 l1 l2).objs.size=s.heap.objs.size + 2:=by rw [bz,z1]
 have z3:(zH3 s.heap b1 b2 l1 l2).objs.size=s.heap.objs.size + 3:=by rw [bz,z2]
 have z4:(zH4 s.heap b1 b2 l1 l2).objs.size=s.heap.objs.size + 4:=by rw [bz,z3]
 have z5:(zH5 s.heap b1 b2 l1 l2).objs.size=s.heap.objs.size + 5:=by rw [bz,z4]
 have g5:(zH5 s.heap b1 b2 l1 l2).get? (zH4 s.heap b1 b2 l1 l2).objs.size=some _:=ay _ rfl;have g4:(zH5 s.heap b1 b2 l1 l2).get? (zH3 s.heap b1 b2 l1 l2).objs.size=some _:=ak _ (ay _ rfl);have g3:(zH5 s.heap b1 b2 l1 l2).get? (zH2 s.heap b1 b2 l1 l2).objs.size=some _:=ak _ (ak _ (ay _ rfl));have g2:(zH5 s.heap b1 b2 l1 l2).get? (zH1 s.heap b1 l1).objs.size=some _:=ak _ (ak _ (ak _ (ay _ rfl)));have g1:(zH5 s.heap b1 b2 l1 l2).get? s.heap.objs.size=some _:=ak _ (ak _ (ak _ (ak _ (ay _ rfl))));show _/\_
 rw [z2,z3,z4] at g5;rw [z1,z2] at g3;rw [z3] at g4;rw [z1] at g2;rw [z4];exact ⟨⟨_,g5,rfl⟩,h _ g5 g3 g4 (ItAt.new g1) (ItAt.new g2) z5 λ c o x =>
  ak _ (ak _ (ak _ (ak _ (ak _ x))))⟩
end
def SqB (b:Bool) (K:A0) (H:Hp) (a:Addr) (xs:Ap):Prop:=if b=true then SqL K H a xs else SqT K H a xs
def Inv.sqB {m5:A2} {σ:St} {H:Hp} {s:An} {a:Addr} {xs:Ap} (I:Inv X m5 σ H s) (h:SqB b X.K H a xs):∃ ni:List Value,Vals xs ni/\SqAt b s.heap a ni.toArray:=by
 cases b
 ·obtain ⟨ni,r,p,_⟩:=I.tuple (show SqT X.K H a xs from h);exact ⟨ni,r,p⟩
 ·obtain ⟨ni,r,p,_⟩:=I.list (show SqL X.K H a xs from h);exact ⟨ni,r,p.isList⟩
def Inv.sqB_inj {m5:A2} {σ:St} {H:Hp} {s:An} {a:Addr} {xs ys:Ap} (I:Inv X m5 σ H s) (h1:SqB b X.K H a xs) (h2:SqB b X.K H a ys):xs=ys:=by
 cases b
 ·exact I.tuple_inj (show SqT X.K H a xs from h1) (show SqT X.K H a ys from h2)
 ·exact I.list_inj (show SqL X.K H a xs from h1) (show SqL X.K H a ys from h2)
noncomputable def Itz (K:A0) (b1 b2:Bool) (a1 a2:Addr):It :=
 ⟨λ i H=>∃ xs ys x y,SqB b1 K H a1 xs/\SqB b2 K H a2 ys/\xs[i]?=some x/\ys[i]?=some y,
   λ i H v H'=>∃ t x y,H t=none/\v=.ref t/\(∀ xs,SqB b1 K H a1 xs->xs[i]?=some x)/\(∀ ys,SqB b2 K H a2 ys->ys[i]?=some y)/\H'=upd H t (.tup [x,y]),
   λ i H=>∃ xs ys,SqB b1 K H a1 xs/\SqB b2 K H a2 ys/\(xs.length<=i\/ys.length<=i)⟩
def SqB.there {m5:A2} {σ:St} {H:Hp} {s:An} {a:Addr} {xs:Ap} (I:Inv X m5 σ H s) (h:SqB b X.K H a xs):∃ o,s.heap.get? a=some o/\(o.cls=.type "list"\/o.cls=.type "tuple")/\∃ ni n,o.data=.seq ni n:=by
 obtain ⟨ni,_,p⟩:=I.sqB h;cases b
 ·obtain ⟨o,e,c,n,d⟩:=p;exact ⟨o,e,.inr c,_,n,d⟩
 ·obtain ⟨o,e,c,n,d⟩:=p;exact ⟨o,e,.inl c,_,n,d⟩
def zd2 {P:Af} {w:World} {K:A0} {elts:List Expr} {x1} {pos:Pos} {b1 b2:Bool} (z TI TO i1 i2 l1 l2:Addr) (D:ZipApart z TI TO i1 i2 l1 l2) :
  Turn P w K (.Tuple elts x1 pos) (Itz K b1 b2 l1 l2) [z,TI,TO,i1,i2] z (λ i h=>IsZip h z TI TO .none/\IsPair h TI (.ref i1) (.ref i2)/\(∃ a b,IsPair h TO a b)/\ItAt b1 h i1 l1 i/\ItAt b2 h i2 l2 i) where
 mem:=by simp
 obj:=λ i h st b hb=>by
  obtain ⟨hz,hTI,⟨a,b',hTO⟩,h1,h2⟩:=st;simp only [az,c7,dX] at hb;rcases hb with rfl|rfl|rfl|rfl|rfl
  ·exact ⟨_,hz,λ v z=>by cases z⟩
  ·exact ⟨_,hTI,λ v z=>by cases z⟩
  ·exact ⟨_,hTO,λ v z=>by cases z⟩
  ·exact h1.obj
  ·exact h2.obj
 keep:=λ i h h' st k=>by
  obtain ⟨hz,hTI,⟨a,b',hTO⟩,h1,h2⟩:=st;exact ⟨k z (by simp) _ hz,k TI (by simp) _ hTI,⟨a,b',k TO (by simp) _ hTO⟩,h1.at' λ o e=>k i1 (by simp) o e,h2.at' λ o e=>k i2 (by simp) o e⟩
 item:=by
  intro X hP hw hK hc i m5 s σ H E I hf st hg;subst hP hw hK;obtain ⟨hz,hTI,⟨a,b',hTO⟩,h1,h2⟩:=st;obtain ⟨xs,ys,x,y,q1,q2,hx,hy⟩:=hg;obtain ⟨its1,r1,p1⟩:=I.sqB q1;obtain ⟨its2,r2,p2⟩:=I.sqB q2;obtain ⟨u1,hu1,ru1⟩:=r1.get hx;obtain ⟨u2,hu2,ru2⟩:=r2.get hy;have hT:s.TypeIs (.ref z) "zip":=⟨_,hz,rfl⟩;unfold pyNext;refine af (g8 (da (name:=Str.ofString "__next__") hT eY (eI eY hT F.entry_zip_next
   (zdV D hz hTI hTO h1 h2 p1 p2 (x:=u1) (y:=u2) (by simpa using hu1) (by simpa using hu2) λ h' a1 a2 a3 a4 a5 a6 hk=>ao ?_) (F.args_zip_next_1 _))))
  refine ⟨_,rfl,?_⟩;have I1:Inv X m5 σ (upd H s.heap.objs.size (.tup [x,y])) { s with heap:=h' }:=I.turnNew (t':=s.toks) hf (au _) (λ b o hb q=>hk b o (λ z=>hb (by simp [z])) (λ z=>hb (by simp [z])) (λ z=>hb (by simp [z])) (λ z=>hb (by simp [z])) q)
   ⟨by show 2<=sizeLine;decide,[u1,u2],.cons ru1 (.cons ru2 .nil),⟨_,a5,rfl,_,rfl⟩⟩
  have hn:H s.heap.objs.size=none:=I.hok.fresh (au _);have ne:∀ b∈[z,TI,TO,i1,i2],b≠s.heap.objs.size:=λ b hb=>by
   have:∃ o,s.heap.get? b=some o:=by
    simp only [az,c7,dX] at hb;rcases hb with rfl|rfl|rfl|rfl|rfl
    ·exact ⟨_,hz⟩
    ·exact ⟨_,hTI⟩
    ·exact ⟨_,hTO⟩
    ·exact let ⟨o,e,_⟩:=h1.obj;⟨o,e⟩
    ·exact let ⟨o,e,_⟩:=h2.obj;⟨o,e⟩
   obtain ⟨o,e⟩:=this;exact aF (aw e)
  have fr:∀ b∈[z,TI,TO,i1,i2],(upd H s.heap.objs.size (.tup [x,y])) b=none:=λ b hb=>by rw [nF (ne b hb)];exact (hf b hb).1
  have hTI':IsPair h' TI (.ref i1) (.ref i2):=hk _ _ D.TIz D.TITO D.TIi1 D.TIi2 hTI;refine wpAny_letOwnedTupleGo_zip a1 λ h'' hz'' hs''=>?_;refine ⟨.ref s.heap.objs.size,_,I1.turnL (t':=s.toks) (ch:=[z]) (λ b hb=>?_) (λ b o hb q=>(hs''.2 b (λ z=>hb (by simp [z]))).trans q),rfl,
   ⟨s.heap.objs.size,x,y,hn,rfl,λ zs hy=>by rw [I.sqB_inj hy q1];exact hx,λ zs hz=>by rw [I.sqB_inj hz q2];exact hy,rfl⟩,
   ⟨hz'',hs''.extBut _ _ D.TIz hTI',⟨_,_,hs''.extBut _ _ D.TOz a2⟩,a3.at' λ o e=>hs''.extBut _ _ D.i1z e,a4.at' λ o e=>hs''.extBut _ _ D.i2z e⟩,fr⟩
  obtain rfl:b=z:=by simpa using hb
  exact ⟨fr b (by simp),(hf b (by simp)).2⟩
 done:=by
  intro X hP hw hK hc i m5 s σ H E I hf st hg;subst hP hw hK;obtain ⟨hz,hTI,⟨a,b',hTO⟩,h1,h2⟩:=st;obtain ⟨xs,ys,q1,q2,hx⟩:=hg;obtain ⟨its1,r1,p1⟩:=I.sqB q1;obtain ⟨its2,r2,p2⟩:=I.sqB q2;have e1:=r1.length;have e2:=r2.length;have hT:s.TypeIs (.ref z) "zip":=⟨_,hz,rfl⟩;have hend:its1.toArray[i]?=none\/its2.toArray[i]?=none:=by
   rcases hx with h|h
   ·exact .inl (by simp;lia)
   ·exact .inr (by simp;lia)
  unfold pyNext;refine af (g8 (da (name:=Str.ofString "__next__") hT eY
   (eI eY hT F.entry_zip_next (zfO (I.ok.hd hc) D hz hTI hTO h1 h2 p1 p2 hend λ h' e hk he=>?_) (F.args_zip_next_1 _))))
  obtain ⟨o,ho,hcl⟩:=he;refine af (fT (T:="StopIteration") (b:=true) ⟨o,ho,hcl⟩ isSubtype_stop ?_);exact ao ⟨rfl,I.turnL (t':=s.toks) hf λ b o hb q=>hk b o (λ z=>hb (by simp [z])) (λ z=>hb (by simp [z])) (λ z=>hb (by simp [z])) (λ z=>hb (by simp [z])) q⟩
 self:=λ _ _ _ _ _ st h=>wpAny_pyIter_zip st.1 h
def zcJ (n l1 l2:Nat) (h1:l1 < n) (h2:l2 < n):ZipApart (n + 4) (n + 2) (n + 3) n (n + 1) l1 l2:=by
 constructor <;> (show (_:Nat)≠_) <;> lia
def iZip (X:Cx) (ta:TA):TI:=λ σ H R=>X.mg "zip"=none/\ta σ H λ vs H1=>∃ b1 b2 l1 l2 xs ys,vs=[.ref l1,.ref l2]/\SqB b1 X.K H1 l1 xs/\SqB b2 X.K H1 l2 ys/\R (Itz X.K b1 b2 l1 l2) H1
def zey {a b:Expr} {elts:List Expr} {x1} {tp p pos:Pos} {ta:TA} (ha:PA X [a,b] ta) (hg:Gl X "zip":=by rfl)
  (hs:starEach [a,b] X.env=(false,eval a X.env) :: starEach [b] X.env:=by rfl) (hpl:(backTo pos (starEach [b] X.env)).any (·.1)=false:=by rfl) :
  PI X (.Tuple elts x1 tp) (.Call (.Name "zip" p) [a,b] [] pos) (iZip X ta):=by
 intro m5 s σ H R I h;refine bL (Zn I hg h.1 zh6 ?_);refine bA (wW (ha pos m5 s σ H _ I h.2) λ us s1 vs H1 I1 r1 q1=>?_) hs hpl;obtain ⟨b1,b2,l1,l2,xs,ys,rfl,q1,q2,hR⟩:=q1;obtain ⟨u1,u2,rfl,rx,ry⟩:=zgV r1;cases rx;cases ry;obtain ⟨its1,rv1,p1⟩:=I1.sqB q1;obtain ⟨its2,rv2,p2⟩:=I1.sqB q2;obtain ⟨o1,e1,_⟩:=SqB.there I1 q1;obtain ⟨o2,e2,_⟩:=SqB.there I1 q2;have n1:=aw e1;have n2:=aw e2;refine zfz p1 p2 λ h' hz hTI hTO h1 h2 hsz hk=>wpAny_pyIter_zip hz ?_;refine ⟨s1.heap.objs.size + 4,[s1.heap.objs.size + 4,s1.heap.objs.size + 2,s1.heap.objs.size + 3,s1.heap.objs.size,s1.heap.objs.size + 1],_,_,H1,rfl,I1.kept (t':=s1.toks) hk,
  zd2 _ _ _ _ _ l1 l2 (zcJ _ _ _ n1 n2),⟨hz,hTI,⟨_,_,hTO⟩,h1,h2⟩,λ b hb=>?_,hR⟩
 have ge:s1.heap.objs.size<=b:=by
  simp only [az,c7,dX] at hb;rcases hb with rfl|rfl|rfl|rfl|rfl
  ·exact dZ _ _
  ·exact dZ _ _
  ·exact dZ _ _
  ·exact au _
  ·exact dZ _ _
 exact I1.fpOk ge (I1.hok.fresh ge)
section
variable {K:A0} {σ:St} {H:Hp}
def X2 {a:Addr} {xs:Ap} {DN:St->Hp->Prop} {B:(St->Hp->Prop)->V->St->Hp->Prop} (Pv:Nat->St->Hp->Prop) (h0:Pv 0 σ H) (hl:∀ i σ H,i<=xs.length->Pv i σ H->SqL K H a xs)
  (hs:∀ i x t σ H,xs[i]?=some x->H t=none->Pv i σ H->B (Pv (i + 1)) (.ref t) σ (upd H t (.tup [.int i,x]))) (hd:∀ σ H,Pv xs.length σ H->DN σ H) :
  ∃ W:Nat->Nat->St->Hp->Prop,(∃ m,W 0 m σ H)/\∀ i m σ H,W i m σ H ->
   ((Ite K a).stop i H/\DN σ H)\/((Ite K a).go i H/\∃ N:St->Hp->Prop,(∀ σ' H',N σ' H'->∃ m',m' < m/\W (i + 1) m' σ' H')/\∀ x H',(Ite K a).yld i H x H'->B N x σ H'):=by
 refine ⟨λ i m σ H=>m=xs.length - i/\i<=xs.length/\Pv i σ H,⟨xs.length,by simp,b7 _,h0⟩,?_⟩;rintro i m σ H ⟨rfl,hi,p⟩;have q:=hl i σ H hi p;by_cases hlt:i < xs.length
 ·refine .inr ⟨⟨xs,xs[i],q,by simp [hlt]⟩,Pv (i + 1),λ σ' H' p'=>⟨xs.length - (i + 1),by lia,rfl,hlt,p'⟩,λ v H' y=>?_⟩;obtain ⟨t,x,ht,rfl,hx,rfl⟩:=y;exact hs i x t σ _ (hx xs q) ht p
 ·have e:i=xs.length:=by lia
  subst e;exact .inl ⟨⟨xs,q,au _⟩,hd σ H p⟩
def zg7 {b1 b2:Bool} {a1 a2:Addr} {xs ys:Ap} {DN:St->Hp->Prop} {B:(St->Hp->Prop)->V->St->Hp->Prop} (Pv:Nat->St->Hp->Prop) (h0:Pv 0 σ H) (hl:∀ i σ H,i<=min xs.length ys.length->Pv i σ H->SqB b1 K H a1 xs/\SqB b2 K H a2 ys)
  (hs:∀ i x y t σ H,xs[i]?=some x->ys[i]?=some y->H t=none->Pv i σ H->B (Pv (i + 1)) (.ref t) σ (upd H t (.tup [x,y]))) (hd:∀ σ H,Pv (min xs.length ys.length) σ H->DN σ H) :
  ∃ W:Nat->Nat->St->Hp->Prop,(∃ m,W 0 m σ H)/\∀ i m σ H,W i m σ H ->
   ((Itz K b1 b2 a1 a2).stop i H/\DN σ H)\/((Itz K b1 b2 a1 a2).go i H/\∃ N:St->Hp->Prop,(∀ σ' H',N σ' H'->∃ m',m' < m/\W (i + 1) m' σ' H')/\∀ x H',(Itz K b1 b2 a1 a2).yld i H x H'->B N x σ H'):=by
 refine ⟨λ i m σ H=>m=min xs.length ys.length - i/\i<=min xs.length ys.length/\Pv i σ H,⟨min xs.length ys.length,by simp,b7 _,h0⟩,?_⟩;rintro i m σ H ⟨rfl,hi,p⟩;obtain ⟨q1,q2⟩:=hl i σ H hi p;by_cases hlt:i < min xs.length ys.length
 ·have l1:i < xs.length:=by lia
  have l2:i < ys.length:=by lia
  refine .inr ⟨⟨xs,ys,xs[i],ys[i],q1,q2,by simp [l1],by simp [l2]⟩,Pv (i + 1),λ σ' H' p'=>⟨min xs.length ys.length - (i + 1),by lia,rfl,hlt,p'⟩,λ v H' y=>?_⟩;obtain ⟨t,x,y,ht,rfl,hx,hy,rfl⟩:=y;exact hs i x y t σ _ (hx xs q1) (hy ys q2) ht p
 ·have e:i=min xs.length ys.length:=by lia
  subst e;exact .inl ⟨⟨xs,ys,q1,q2,by lia⟩,hd σ H p⟩
end
section
variable {X:Cx} {N:A8} {scope:Scope} {s:An} {H:Hp} {fp:Ab} {m5:A2}
theorem cxC_K:(cxC X N scope s H fp m5).K=X.K:=rfl
theorem cxC_mg:(cxC X N scope s H fp m5).mg=X.mg:=rfl
theorem cxC_prog:(cxC X N scope s H fp m5).prog=X.prog:=rfl
theorem cxC_w:(cxC X N scope s H fp m5).w=X.w:=rfl
theorem cxC_base:(cxC X N scope s H fp m5).base=X.base:=rfl
end
structure BCal (P:Af) (w:World) (K:A0) (mg:A4) (base:Heap) (x m:Str) (k:Nat) (ps:A8) (dvs:Ap) (sp:Sp):Prop where
 ex:∃ C f fd ds,mg x=some (.ref C)/\specialIn K (.ref C) "__getattribute__"=some (some (.builtin "type.__getattribute__"))/\readsIn K C (.type "type")=true /\
  findCls K (.ref C) (.type "type") m=some (.val (.ref f))/\handedIn (.ref f)=true/\FnOk P w K mg base (CXr P w) k f fd ps sp/\keepIn K (.ref f)=true/\Binds K fd ps ds/\Vals dvs ds
def BCal.mono {P:Af} {w:World} {K:A0} {mg:A4} {base:Heap} {x m:Str} {j k:Nat} {ps:A8} {dvs:Ap} {sp:Sp} (c:BCal P w K mg base x m j ps dvs sp) (h:j<=k:=by decide):BCal P w K mg base x m k ps dvs sp:=by
 obtain ⟨C,f,fd,ds,a,b,c,d,e,g,r⟩:=c.ex;exact ⟨C,f,fd,ds,a,b,c,d,e,g.mono h,r⟩
section
variable {X:Cx} {G:GK} {k:Nat} {x m:Str} {p pos apos:Pos} {e:Expr} {es:List Expr} {t:TA}
def tBase (X:Cx) (k:Nat) (x m:Str) (G:GK) (t:TA):TE:=λ σ H Q=>∃ ps dvs sp,BCal X.prog X.w X.K X.mg X.base x m k ps dvs sp/\t σ H λ vs H1=>sp (vs ++ dvs) H1 Q (λ cls _ H'=>G cls σ H')
def Q6 {pl:Sem Bool} (B:Bod X) (hr:Room k X.A) (ha:PA (X.exg G) (e :: es) t) (hg:Gl X x:=by rfl) (hdb:(x == ("__debug__":Str))=false:=by decide)
  (hst:starEach (e :: es) X.env=(false,eval e X.env) :: starEach es X.env:=by rfl) (hpl:(backTo pos (starEach es X.env)).any (·.1)=false:=by rfl)
  (ht:eval (.Call (.Attribute (.Name x p) m apos) (e :: es) [] pos) X.env=(do
   let ov <- eval (.Name x p) X.env
   standAt apos.atName
   let (f,first) <- holding [ov] (getMethod ov m pl)
   callWith pos f first (backTo pos (starEach (e :: es) X.env)) (backToKw pos (keywordEach [] X.env))):=by rfl) :
  PE (X.exg G) (.Call (.Attribute (.Name x p) m apos) (e :: es) [] pos) (tBase X k x m G t):=by
 intro m5 s σ H Q I h;obtain ⟨ps,dvs,sp,⟨C,f,fd,ds,hm,hga,hrd,hfc,hhd,F,hk,hb,hd⟩,h⟩:=h;refine eJ (pl:=pl) (wH I hg hm ?_ hdb) ht;refine PySem.W.method_cls I.kIn hga (PySem.W.cls_value I.kIn hrd hfc hhd ?_);have I0:=I.tok (s.toks + 1);refine d7 (first:=[]) (h₀:=X.base) I.ok.mod.kin hk (wW (ha pos m5 _ σ H _ I0 h) λ us s1 vs H1 I1 r q=>⟨I1.kIn,?_⟩) hst hpl;exact Q4 B F hr hb hd I1 r q
end
structure FB (K:A0) (mg:A4) (x m qual:Str) (st:Stmt) (ps:A8):Prop where
 ex:∃ C f fd,mg x=some (.ref C)/\specialIn K (.ref C) "__getattribute__"=some (some (.builtin "type.__getattribute__"))/\readsIn K C (.type "type")=true /\
  findCls K (.ref C) (.type "type") m=some (.val (.ref f))/\Fun K m qual st f fd/\keepIn K (.ref f)=true/\Binds K fd ps []
def FB.cal {P:Af} {w:World} {K:A0} {mg:A4} {base:Heap} {x m qual:Str} {st:Stmt} {ps:A8} {k:Nat} {sp:Sp} (h:FB K mg x m qual st ps)
  (ok:∀ {f fd},Fun K m qual st f fd->FnOk P w K mg base (CXr P w) k f fd ps sp):BCal P w K mg base x m k ps [] sp:=by
 obtain ⟨C,f,fd,a,b,c,d,F,kp,bi⟩:=h.ex;exact ⟨C,f,fd,[],a,b,c,d,rfl,ok F,kp,bi,.nil⟩
def ziO {K:A0} {mg:A4} {C:Addr} {x m qual:Str} {st:Stmt} {ps:A8} {f:Addr} {oc:Am} {od an:Aa} {osl:Ae} {kV doc pm cdv ct:Am} (gl:mg x=some (.ref C))
  (ga:specialIn K (.ref C) "__getattribute__"=some (some (.builtin "type.__getattribute__"))) (rd:readsIn K C (.type "type")=true) (fc:findCls K (.ref C) (.type "type") m=some (.val (.ref f)))
  (l:K.lookup f=some ⟨oc,od,.func (fnOf m qual (zP st) (zK st) (zc st) .none kV doc pm an cdv ct),osl⟩)
  (c:codeIn K cdv qual=true) (k:keepIn K (.ref f)=true)
  (hb:∀ (kV doc pm:Am) (an:Aa) (cdv ct:Am) (us:A7),us.length=ps.length->bindArgs (fnOf m qual (zP st) (zK st) (zc st) .none kV doc pm an cdv ct) ⟨us,[]⟩=pure (ps.zip us)):FB K mg x m qual st ps :=
 ⟨C,f,_,gl,ga,rd,fc,wJ l c k,k,(wJ l c k).binds hb⟩
section
variable {X:Cx} {a b:Expr} {ta:TA} {p pos lp lpos:Pos}
noncomputable def rgL (lo:Int) (n:Nat):List V:=(List.range n).map λ (i:Nat)=>V.int (lo + (i:Int))
def zaS {lo:Int} {n:Nat} {nj:Ac} (h:ItemsOf (λ i v=>∃ t,v=.int (lo + i * 1) t) nj n):Vals (rgL lo n) nj.toList:=by
 have key:∀ (k:Nat) (l:A7) (m:Nat),l.length=m->(∀ i v,l[i]?=some v->∃ t,v=Value.int (lo + ((k + i:Nat):Int)) t)->Vals ((List.range' k m).map λ (i:Nat)=>V.int (lo + (i:Int))) l:=by
  intro k l
  induction l generalizing k with
  | nil=>intro m hm _;simp at hm;subst hm;exact .nil
  | cons x r ih =>
   intro m hm hv;obtain ⟨m,rfl⟩:∃ m',m=m' + 1:=⟨r.length,by simpa using hm.symm⟩;rw [List.range'_succ,br];refine .cons ?_ (ih (k + 1) m (by simpa using hm) λ i v e=>?_)
   ·obtain ⟨t,e⟩:=hv 0 x rfl;exact ⟨t,by simpa using e⟩
   ·obtain ⟨t,e'⟩:=hv (i + 1) v (by simpa using e);exact ⟨t,by rw [e'];congr 2;lia⟩
 have:=key 0 nj.toList n (by simpa using h.1) λ i v e=>by
  obtain ⟨t,e'⟩:=h.2 i v (by simpa using e);exact ⟨t,by rw [e'];simp⟩
 rw [rgL,List.range_eq_range'];exact this
def tRg1 (X:Cx) (ta:TA):TE:=λ σ H Q=>X.mg "range"=none/\ta σ H λ vs H1=>lq vs λ v=>iq v λ j=>∀ p,H1 p=none->Q (.ref p) (upd H1 p (.rng 0 j))
def zhu (ha:PA X [a] ta) (hg:Gl X "range":=by rfl) (hs:starEach [a] X.env=[(false,eval a X.env)]:=by rfl):PE X (.Call (.Name "range" p) [a] [] pos) (tRg1 X ta):=by
 intro m5 s σ H Q I h;refine Call_ (Zn I hg h.1 boot_range (bA (wW (ha pos m5 s σ H _ I h.2) λ us s1 vs H1 I1 r1 q1=>?_) hs rfl));obtain ⟨j,e,q⟩:=zeT q1;subst e;cases r1 with
 | cons r rr =>
  cases rr;obtain ⟨t,rfl⟩:=r;exact call_range_1 ⟨.ref _,_,I1.laid (o:=.rng 0 j) (λ b o e=>ak _ e) (au _) ⟨_,_,_,ay _ rfl⟩,rfl,q _ I1.fresh⟩
def zbf {lo:Int} {n:Nat}:(rgL lo n).length=n:=by simp [rgL]
def zfE (hc:X.calm=true):CallR X (.type "list") (λ xs H Q=>∃ p lo hi,xs=[.ref p]/\H p=some (.rng lo hi)/\(-(2 ^ 62)<=lo/\lo < 2 ^ 62/\-(2 ^ 62)<=hi/\hi < 2 ^ 62/\(hi - lo).toNat<=1000)/\∀ l,H l=none->Q (.ref l) (upd H l (.lst (rgL lo (hi - lo).toNat)))):=by
 intro m5 s σ H xs us Q I r h;obtain ⟨p,lo,hi,rfl,hq,⟨h1,h2,h3,h4,h5⟩,q⟩:=h;obtain ⟨u,rfl,rx⟩:=xk r;cases rx;obtain ⟨t,u,v,e⟩:=I.hok p _ hq;refine call_list_range (n:=(hi - lo).toNat) (I.ok.hd hc) e (small_one h1 h2 h3 h4) (by rw [rangeSize_one];split <;> lia) (by lia) λ h' tk acc' c' hk hS hit=>?_;exact ⟨.ref _,_,I.laid (o:=.lst (rgL lo (hi - lo).toNat)) (t':=tk) hk (au _) ⟨by rw [zbf];exact bw (zk h5),acc'.toList,c',zaS hit,by simpa using hS⟩,rfl,q _ I.fresh⟩
end
end L2
namespace L2
open PySem PySem.Spec PyProof.Rows
noncomputable def Itd (lo:Int) (n:Nat):It:=⟨λ i _=>i < n,λ i H x H'=>H'=H/\x=.int (lo - i),λ i _=>n<=i⟩
def zcO {P:Af} {w:World} {K:A0} {tg:Expr} (it:Addr) (lo:Int) (n:Nat):Turn P w K tg (Itd lo n) [it] it (λ i h=>IsRangeIter h it (lo + (i:Nat) * (-1)) ((n:Int) - (i:Nat)) (-1)) where
 mem:=by simp
 obj:=λ i h st b hb=>by
  have e:b=it:=by simpa using hb
  subst e;exact ⟨_,st,λ v z=>by
   have z':Data.fields _=Data.cell v:=z;cases z'⟩
 keep:=λ i h h' st k=>k it (by simp) _ st
 item:=by
  intro X hP hw hK hc i m5 s σ H E I hf st hg;subst hP hw hK;obtain ⟨f0,f1,f2,f3,f4,f5⟩:=hf it (by simp);have W:=Walks.range (prog:=X.prog) (w:=X.w) (I.ok.hd hc) it lo (-1) n;refine W.item i s _ _ hg st λ v h' tk hv st' kk=>?_;obtain ⟨t,rfl⟩:=hv;have I1:Inv X m5 σ H { s with heap:=h',toks:=tk }:=I.turned (λ b o hb e=>kk b o (by simpa using hb) e) f0 f1 f3 f4 f5;refine ⟨_,rfl,zcn (s:={ s with heap:=h',toks:=tk }) (n:="range_iterator") st' rfl rfl (by decide) ⟨.int (lo - i),H,I1,⟨t,?_⟩,⟨rfl,rfl⟩,st',λ b hb=>(hf b hb).1⟩⟩
  congr 1;lia
 done:=by
  intro X hP hw hK hc i m5 s σ H E I hf st hg;subst hP hw hK;obtain ⟨f0,f1,f2,f3,f4,f5⟩:=hf it (by simp);exact wpAny_pyNext_range_end (I.ok.hd hc) st (by have:n<=i:=hg;lia) λ h' eb=>⟨rfl,I.turned (t':=s.toks) (λ b o hb e=>eb b o hb e) f0 f1 f3 f4 f5⟩
 self:=λ _ _ _ _ _ st h=>wpAny_pyIter_rangeiter st h
def vf (a b:Int):Builtin.Range.rangeSize a b (-1)=((a - b).toNat:Int):=by
 unfold Builtin.Range.rangeSize;rw [aq (by decide),show (- (-1:Int))=1 from rfl,Int.ediv_one]
 split <;> lia
def za1 {a b:Int} (ha:-(2 ^ 62)<=a) (ha':a < 2 ^ 62) (hb:-(2 ^ 62)<=b) (hb':b < 2 ^ 62):Builtin.Range.small a b (-1)=true:=by
 unfold Builtin.Range.small;rw [vf];simp only [Builtin.Range.rangeFitsLong,ck,Bool.or_eq_true,bc,bI,show ¬ ((-1:Int) > 0) by decide,bO]
 lia
section
variable {X:Cx} {tg:Expr}
def zgz {m5:A2} {σ:St} {H:Hp} {s:An} {R:It->Hp->Prop} {E:A3} {lo hi:Int} {t u v:Tok} {tk:Nat} (I:Inv X m5 σ H s) (h1:-(2 ^ 62)<=lo) (h2:lo < 2 ^ 62) (h3:-(2 ^ 62)<=hi) (h4:hi < 2 ^ 62)
  (q:R (Itd lo (lo - hi).toNat) H):wpAny (model X.prog X.w) X.A (pyIter (.ref s.heap.objs.size)) (PIE X m5 σ tg R) E { s with heap:=s.heap.push { cls:=.type "range",data:=.fields #[.int lo t,.int hi u,.int (-1) v] },toks:=tk }:=by
 refine wpAny_pyIter_range (IsRange.new ..) (za1 h1 h2 h3 h4) ?_;have I1:Inv X m5 σ H { s with heap:=s.heap.push { cls:=.type "range",data:=.fields #[.int lo t,.int hi u,.int (-1) v] },toks:=tk }:=I.kept λ b o e=>ak _ e;refine ⟨(s.heap.push { cls:=.type "range",data:=.fields #[.int lo t,.int hi u,.int (-1) v] }).objs.size,[(s.heap.push { cls:=.type "range",data:=.fields #[.int lo t,.int hi u,.int (-1) v] }).objs.size],_,_,H,rfl,
  I1.kept (t':=tk) λ b o e=>ak _ e,zcO _ lo (lo - hi).toNat,?_,λ b hb=>?_,q⟩
 ·have e1:lo + ((0:Nat):Int) * (-1)=lo:=by simp
  have e2:(((lo - hi).toNat:Nat):Int) - ((0:Nat):Int)=Builtin.Range.rangeSize lo hi (-1):=by rw [vf];lia
  show IsRangeIter _ _ (lo + ((0:Nat):Int) * (-1)) ((((lo - hi).toNat:Nat):Int) - ((0:Nat):Int)) (-1)
  rw [e1,e2];exact ay _ rfl
 ·have e:b=(s.heap.push { cls:=.type "range",data:=.fields #[.int lo t,.int hi u,.int (-1) v] }).objs.size:=by simpa using hb
  subst e;exact I1.fpOk (au _) (I1.hok.fresh (au _))
def iRng3 (X:Cx) (ta:TA):TI:=λ σ H R=>X.mg "range"=none/\ta σ H λ vs H1=>∃ i j:Int,vs=[.int i,.int j,.int (-1)]/\(-1000<=i/\i < 1000/\-1000<=j/\j < 1000)/\R (Itd i (i - j).toNat) H1
theorem zhs {a b c:Expr} {ta:TA} {p pos:Pos} (ha:PA X [a,b,c] ta) (hg:Gl X "range":=by rfl) (hs:starEach [a,b,c] X.env=[(false,eval a X.env),(false,eval b X.env),(false,eval c X.env)]:=by rfl) (hs2:starEach [b,c] X.env=[(false,eval b X.env),(false,eval c X.env)]:=by rfl) :
  PI X tg (.Call (.Name "range" p) [a,b,c] [] pos) (iRng3 X ta):=by
 intro m5 s σ H R I h;refine Call_ (Zn I hg h.1 boot_range (bA (wW (ha pos m5 s σ H _ I h.2) λ us s1 vs H1 I1 r1 q1=>?_) (by rw [hs,hs2]) (by rw [hs2];rfl)));obtain ⟨i,j,e,⟨q1,q2,q3,q4⟩,q⟩:=q1;subst e;cases r1 with
 | cons r rr =>
  cases rr with
  | cons r' rr =>
   cases rr with
   | cons r'' rr =>
    cases rr;obtain ⟨t,rfl⟩:=r;obtain ⟨t',rfl⟩:=r';obtain ⟨t'',rfl⟩:=r'';exact call_range_3 (by decide) (zgz I1 (by lia) (by lia) (by lia) (by lia) q) (Or.inl (gf (by lia)))
def ziL {K:A0} {σ:St} {H:Hp} {lo:Int} {n:Nat} {DN:St->Hp->Prop} {B:(St->Hp->Prop)->V->St->Hp->Prop} (Pv:Nat->St->Hp->Prop) (h0:Pv 0 σ H)
  (hs:∀ i σ H,i < n->Pv i σ H->B (Pv (i + 1)) (.int (lo - i)) σ H) (hd:∀ σ H,Pv n σ H->DN σ H) :
  ∃ W:Nat->Nat->St->Hp->Prop,(∃ m,W 0 m σ H)/\∀ i m σ H,W i m σ H ->
   ((Itd lo n).stop i H/\DN σ H)\/((Itd lo n).go i H/\∃ N:St->Hp->Prop,(∀ σ' H',N σ' H'->∃ m',m' < m/\W (i + 1) m' σ' H')/\∀ x H',(Itd lo n).yld i H x H'->B N x σ H'):=by
 refine ⟨λ i m σ H=>m=n - i/\i<=n/\Pv i σ H,⟨n,by simp,b7 _,h0⟩,?_⟩;rintro i m σ H ⟨rfl,hi,p⟩;by_cases hlt:i < n
 ·refine .inr ⟨hlt,Pv (i + 1),λ σ' H' p'=>⟨n - (i + 1),by lia,rfl,hlt,p'⟩,λ x H' y=>?_⟩;obtain ⟨e,y⟩:=y;subst e y;exact hs i σ _ hlt p
 ·have e:i=n:=by lia
  subst e;exact .inl ⟨au _,hd σ H p⟩
end
section
variable {X:Cx} {tg:Expr}
def zie (hc:X.calm=true):CallR X (.builtin "all") (λ xs H Q=>∃ p,∃ bs:List Bool,xs=[.ref p]/\H p=some (.lst (bs.map V.bl))/\Q (.bl (bs.all id)) H):=by
 intro m5 s σ H xs us Q I r h;obtain ⟨p,bs,rfl,hp,q⟩:=h;obtain ⟨u,rfl,rx⟩:=xk r;cases rx;obtain ⟨ni,rv,hl,hz⟩:=I.list (SqL.of (K:=X.K) hp);have hl':=hl.isList;have hlt:p < s.heap.objs.size:=by obtain ⟨_,e,_⟩:=hl';exact aw e
 have hlen:ni.length=bs.length:=by have:=rv.length;rw [ai] at this;exact this.symm
 refine call_all_walk (cf hl' ?_);refine ⟨s.heap.objs.size,[s.heap.objs.size,p],[s.heap.objs.size],ni.toArray.size,_,_,λ i=>(bs[i]?).getD true,rfl,fG (A:=X.A.in1) (I.ok.hd hc) _ p (aF hlt) ni.toArray,
  ⟨⟨_,ay _ rfl,rfl,rfl⟩,hl'.push _⟩,λ i v s' Q' E' hP hQ=>?_,λ h' tk hk=>?_⟩
 ·have hP:ni[i]?=some v:=by simpa using hP
  have hib:i < bs.length:=by rw [<- hlen];exact (aa.mp hP).1
  obtain ⟨u,hu,ru⟩:=rv.get (i:=i) (x:=.bl bs[i]) (by rw [am,ae hib];rfl);rw [hu] at hP;cases hP;cases ru;have e:(bs[i]?).getD true=bs[i]:=by rw [ae hib];rfl
  simp only [e] at hQ;exact bR hQ
 ·have e:((List.range ni.toArray.size).all λ i=>(bs[i]?).getD true)=bs.all id:=by
   rw [av,hlen];cases hb:bs.all id with
   | true =>
    rw [aS] at hb ⊢;intro i hi;have hi:=be.mp hi;rw [ae hi];exact hb _ (dE hi)
   | false =>
    rw [List.all_eq_false] at hb ⊢;obtain ⟨b,hbm,hbf⟩:=hb;obtain ⟨i,hi,rfl⟩:=fe hbm;exact ⟨i,be.mpr hi,by rw [ae hi];exact hbf⟩
  rw [e];refine ⟨.bl (bs.all id),H,I.kept (t':=tk) (λ b o eb=>hk b o (λ hm=>?_) (ak _ eb)),rfl,q⟩;rw [ap.mp hm] at eb;exact cM _ (aw eb)
end
end L2
namespace L2
open PySem PySem.Spec PySem.Calls PyProof.Rows
theorem Zu:∀ {us:A7} {ns:A6},IntsAre us ns->Vals (ns.map V.int) us
 | _,_,.nil=>.nil
 | _,_,.cons n t h=>.cons ⟨t,rfl⟩ (Zu h)
section
variable {X:Cx}
def zdQ:CallR X (.builtin "sorted") (λ xs H Q=>∃ p,∃ ns:List Int,xs=[.ref p]/\SqL X.K H p (ns.map V.int)/\ns.length < 64 /\
  ∀ (ms:A6) l,ms.Perm ns->ms.Pairwise (·<=·)->H l=none->Q (.ref l) (upd H l (.lst (ms.map V.int)))):=by
 intro m5 s σ H xs us Q I r h;obtain ⟨p,ns,rfl,hp,h64,q⟩:=h;obtain ⟨u,rfl,rx⟩:=xk r;cases rx;obtain ⟨ni,rv,hl,hz⟩:=I.list hp;have hlen:ni.length=ns.length:=by have:=rv.length;rw [ai] at this;exact this.symm
 refine sorted_ints hl.isList (zbC rv) (by lia) λ out ms a1 a2 a3=>?_;obtain ⟨e,he⟩:=sortedAll_at s.heap ni out;exact ⟨.ref _,_,I.laid (a:=s.heap.objs.size + 1) (o:=.lst (ms.map V.int)) (t':=s.toks) (λ b o h=>sortedAll_old h) (di _) ⟨by rw [ai,a2.length_eq];exact bw (zk (by lia)),out.toList,e,Zu a1,by simpa using he⟩,rfl,q ms _ a2 a3 (I.hok.fresh (di _))⟩
def zid (hc:X.calm=true):CallR X (.builtin "sum") (λ xs H Q=>∃ p,∃ ns:List Int,xs=[.ref p]/\SqL X.K H p (ns.map V.int)/\Q (.int ns.sum) H):=by
 intro m5 s σ H xs us Q I r h;obtain ⟨p,ns,rfl,hp,q⟩:=h;obtain ⟨u,rfl,rx⟩:=xk r;cases rx;obtain ⟨ni,rv,hl,hz⟩:=I.list hp;have hl':=hl.isList;have hlt:p < s.heap.objs.size:=by obtain ⟨_,e,_⟩:=hl';exact aw e
 have hlen:ni.length=ns.length:=by have:=rv.length;rw [ai] at this;exact this.symm
 refine call_sum_walkG (cf hl' ?_);refine ⟨s.heap.objs.size,[s.heap.objs.size,p],[s.heap.objs.size],ni.toArray.size,_,_,λ i=>ns[i]?.getD 0,rfl,fG (A:=X.A.in1) (I.ok.hd hc) _ p (aF hlt) ni.toArray,
  ⟨⟨_,ay _ rfl,rfl,rfl⟩,hl'.push _⟩,λ b hb=>?_,λ i v hP=>jE rv i v (by simpa using hP),λ h' tk t' hk=>?_⟩
 ·simp only [az,c7,dX] at hb;simp only [bz];rcases hb with rfl|rfl
  ·exact ci _
  ·exact dN hlt
 ·have e0:=VX (ns:=ns) ns.length (au _);rw [aH] at e0;rw [av,hlen,e0];exact ⟨.int ns.sum,H,I.kept (t':=tk) (λ b o e=>hk b o (by simpa using aF (aw e)) (ak _ e)),⟨_,rfl⟩,q⟩
end
structure FunD (K:A0) (x qual:Str) (st:Stmt) (f:Addr) (fd:FuncData):Prop where
 ex:∃ (oc:Am) (od:Aa) (dV kV doc pm:Am) (an:Aa) (cdv ct:Am) (osl:Ae),
  fd=fnOf x qual (zP st) (zK st) (zc st) dV kV doc pm an cdv ct/\K.lookup f=some ⟨oc,od,.func fd,osl⟩/\codeIn K cdv qual=true
 kp:keepIn K (.ref f)=true
section
variable {P:Af} {w:World} {K:A0} {mg:A4} {base:Heap}
def FunD.okx {x qual:Str} {st:Stmt} {f:Addr} {fd:FuncData} {N ps:A8} {k:Nat} {sp:Sp} (F:FunD K x qual st f fd) (S:FnScope N ps (zc st)) (len:∀ vs H Q E,sp vs H Q E->vs.length=ps.length)
  (hbody:∀ (cdv:Am) (A:Ao) (outer:List Env) (s:An) (H:Hp) (vs:Ap) (Q:VK) (E:XK),Room k (A.deeper (envOfC qual (zc st) s.heap.objs.size f cdv))->sp vs H Q E ->
   ∃ t,PSs ((cxR P w K mg base N qual (zc st) f cdv A outer s H E).exg λ cls _ H'=>E cls none H') (zK st) t/\t { nx:=λ _ H'=>Q .non H',rt:=Q } (start N vs) H):FnOk P w K mg base (CXr P w) (k + 1) f fd ps sp:=by
 obtain ⟨oc,od,dV,kV,doc,pm,an,cdv,ct,osl,rfl,lk,hcd⟩:=F.ex;refine zfm lk hcd S len λ A outer s H vs Q E hr hsp=>?_;obtain ⟨t,h,q⟩:=hbody cdv A outer s H vs Q E hr hsp;refine ⟨t,λ m5 s σ H' D I hw=>?_,q⟩;refine bg (h m5 s σ H' D (I.wish _) hw) (λ _ _ z=>z.unwish) λ e s' z=>?_;refine af (bg (show wpAny _ _ _ _ _ _ from z) (λ _ s1 y1=>bg y1 (λ _ s'' y=>?_) λ _ _ y=>y.elim) λ _ _ y=>y.elim);obtain ⟨a,cls,σ2,H2,rfl,J,xx,g⟩:=y;exact ⟨a,cls,H2,rfl,J.os,J.bare,J.base,J.hok,xx.less (λ p hp=>absurd hp (by simp)),g⟩
structure FD (K:A0) (mg:A4) (x:Str) (st:Stmt) (ps:A8) (dvs:Ap):Prop where
 ex:∃ f fd ds,FunD K x x st f fd/\mg x=some (.ref f)/\Binds K fd ps []/\Binds K fd ps ds/\Vals dvs ds
def FD.cal {x:Str} {st:Stmt} {ps:A8} {dvs:Ap} {k:Nat} {sp:Sp} (h:FD K mg x st ps dvs) (ok:∀ {f fd},FunD K x x st f fd->FnOk P w K mg base (CXr P w) k f fd ps sp) :
  Cal P w K mg base x k ps [] sp:=by
 obtain ⟨f,fd,_,F,m,b,_⟩:=h.ex;exact ⟨f,fd,[],ok F,m,F.kp,b,.nil⟩
def zfo {h:Heap} {x:Str} {st:Stmt} {ps:A8} {dvs:Ap} {f dT:Addr} {oc toc:Am} {od an tod:Aa} {osl tsl:Ae} {items:Ac} {tn:Nat} {kV doc pm cdv ct:Am} (X:K.In h) (G:h.Ns mainGlobals mg)
  (a:nsIn K mainGlobals x=some (some (.ref f))) (l:K.lookup f=some ⟨oc,od,.func (fnOf x x (zP st) (zK st) (zc st) (.ref dT) kV doc pm an cdv ct),osl⟩)
  (c:codeIn K cdv x=true) (k:keepIn K (.ref f)=true) (lt:K.lookup dT=some ⟨toc,tod,.seq items tn,tsl⟩) (hv:Vals dvs items.toList)
  (hb:∀ (s:An) (us:A7),K.In s.heap->us.length=ps.length->BindsTo s (fnOf x x (zP st) (zK st) (zc st) (.ref dT) kV doc pm an cdv ct) ⟨us,[]⟩ (ps.zip us))
  (hd:∀ (s:An) (us:A7),K.In s.heap->(us ++ items.toList).length=ps.length->BindsTo s (fnOf x x (zP st) (zK st) (zc st) (.ref dT) kV doc pm an cdv ct) ⟨us,[]⟩ (ps.zip (us ++ items.toList))):FD K mg x st ps dvs :=
 ⟨f,_,items.toList,⟨⟨oc,od,.ref dT,kV,doc,pm,an,cdv,ct,osl,rfl,l,c⟩,k⟩,cH X G a,(λ s us hK hl=>by rw [cZ] at hl ⊢;exact hb s us hK hl),hd,hv⟩
end
section
variable {prog:Af} {w:World} {A:Ao} {E:A3} {s:An} {R:Result->Shared->Prop}
end
section
variable {X:Cx} {a:Expr} {ta:TA} {p p2 pos pos2:Pos}
end
section
variable {X:Cx}
end
end L2
namespace L2
open PySem PySem.Spec PyProof.Rows
variable {H:Hp} {n9:As} {v:V} {b l:Addr} {w:World} {u:Am} {i:Nat}
inductive D where
 | non|bl (b:Bool)|int (i:Int)|str (x:Str)|lst (xs:List D)|tup (xs:List D)|ob (C:Addr) (fs:List (Str × D))
inductive Rep (H:Hp) (p:A5):V->D->Prop where
 | non:Rep H p .non .non
 | bl {b:Bool}:Rep H p (.bl b) (.bl b)
 | int {i:Int}:Rep H p (.int i) (.int i)
 | str {x:Str}:Rep H p (.str x) (.str x)
 | lst {l:Addr} {vs:Ap} {ds:List D}:p l->H l=some (.lst vs)->vs.length=ds.length->(∀ (i:Nat) v d,vs[i]?=some v->ds[i]?=some d->Rep H p v d)->Rep H p (.ref l) (.lst ds)
 | tup {l:Addr} {vs:Ap} {ds:List D}:p l->H l=some (.tup vs)->vs.length=ds.length->(∀ (i:Nat) v d,vs[i]?=some v->ds[i]?=some d->Rep H p v d)->Rep H p (.ref l) (.tup ds)
 | ob {l C dx:Addr} {fs:Ar} {ds:List (Str × D)}:p l->H l=some (.ins C dx fs)->fs.map (·.1)=ds.map (·.1)->(∀ (i:Nat) f g,fs[i]?=some f->ds[i]?=some g->Rep H p f.2 g.2)->Rep H p (.ref l) (.ob C ds)
def Rep.keep {H H':Hp} {p q:A5} (s:∀ b o,p b->H b=some o->q b/\H' b=some o) {d:D} (h:Rep H p v d):Rep H' q v d:=by
 induction h with
 | non=>exact .non
 | bl=>exact .bl
 | int=>exact .int
 | str=>exact .str
 | lst pl hl e _ ih=>exact .lst (s _ _ pl hl).1 (s _ _ pl hl).2 e ih
 | tup pl hl e _ ih=>exact .tup (s _ _ pl hl).1 (s _ _ pl hl).2 e ih
 | ob pl hl e _ ih=>exact .ob (s _ _ pl hl).1 (s _ _ pl hl).2 e ih
structure Reps (H:Hp) (p:A5) (vs:Ap) (ds:List D):Prop where
 len:vs.length=ds.length
 g:∀ (i:Nat) v d,vs[i]?=some v->ds[i]?=some d->Rep H p v d
section
variable {H H':Hp} {p q:A5} {vs us:Ap} {ds es:List D} {v:V} {d:D}
def Reps.keep (s:∀ b o,p b->H b=some o->q b/\H' b=some o) (h:Reps H p vs ds):Reps H' q vs ds:=⟨h.len,λ i v d a b=>(h.g i v d a b).keep s⟩
def Reps.nil:Reps H p [] []:=⟨rfl,λ i v d h=>by simp at h⟩
theorem Reps.cons (h:Rep H p v d) (k:Reps H p vs ds):Reps H p (v :: vs) (d :: ds):=⟨by simp [k.len],λ i u e a b=>by
 cases i with
 | zero =>
  have a:v=u:=by simpa using a
  have b:d=e:=by simpa using b
  rw [<- a,<- b];exact h
 | succ i=>exact k.g i u e (by simpa using a) (by simpa using b)⟩
def Reps.one (h:Rep H p v d):Reps H p [v] [d]:=.cons h .nil
def Reps.append (h:Reps H p vs ds) (k:Reps H p us es):Reps H p (vs ++ us) (ds ++ es):=by
 refine ⟨by rw [aD,aD,h.len,k.len],λ i v r e1 e2=>?_⟩;by_cases hi:i < vs.length
 ·rw [aT hi] at e1;rw [aT (by rw [<- h.len];exact hi)] at e2;exact h.g i v r e1 e2
 ·rw [aQ (by lia)] at e1;rw [aQ (by rw [<- h.len];lia),<- h.len] at e2;exact k.g _ v r e1 e2
def Reps.at (h:Reps H p vs ds) (e:vs[i]?=some v):∃ d,ds[i]?=some d/\Rep H p v d:=by
 have hi:=(aa.mp e).1;have e2:ds[i]?=some (ds[i]'(by rw [<- h.len];exact hi)):=ae _;exact ⟨_,e2,h.g i v _ e e2⟩
def Reps.of (h:Reps H p vs ds) (e:ds[i]?=some d):∃ v,vs[i]?=some v/\Rep H p v d:=by
 have hi:=(aa.mp e).1;have e2:vs[i]?=some (vs[i]'(by rw [h.len];exact hi)):=ae _;exact ⟨_,e2,h.g i _ d e2 e⟩
def Reps.take (h:Reps H p vs ds) (n:Nat):Reps H p (vs.take n) (ds.take n):=⟨by rw [aP,aP,h.len],λ i v d a b=>by
 rw [List.getElem?_take] at a b;by_cases hn:i < n
 ·rw [ax hn] at a b;exact h.g i v d a b
 ·rw [aq hn] at a;cases a⟩
def Reps.drop (h:Reps H p vs ds) (n:Nat):Reps H p (vs.drop n) (ds.drop n):=⟨by rw [dD,dD,h.len],λ i v d a b=>by
 rw [List.getElem?_drop] at a b;exact h.g _ v d a b⟩
def Reps.reverse (h:Reps H p vs ds):Reps H p vs.reverse ds.reverse:=⟨by rw [gx,gx,h.len],λ i v d a b=>by
 have hi:i < vs.length:=by have:=(aa.mp a).1;rw [gx] at this;exact this
 rw [gC hi] at a;rw [gC (by rw [<- h.len];exact hi),<- h.len] at b;exact h.g _ v d a b⟩
def Reps.mk' (h:Reps H p vs ds) (pl:p l) (e:H l=some (.lst vs)):Rep H p (.ref l) (.lst ds):=.lst pl e h.len h.g
def Reps.mkT (h:Reps H p vs ds) (pl:p l) (e:H l=some (.tup vs)):Rep H p (.ref l) (.tup ds):=.tup pl e h.len h.g
def Rep.lst' (h:Rep H p v (.lst ds)):∃ l us,v=.ref l/\p l/\H l=some (.lst us)/\Reps H p us ds:=by
 cases h with|lst a b c e=>exact ⟨_,_,rfl,a,b,c,e⟩
def Rep.tup' (h:Rep H p v (.tup ds)):∃ l us,v=.ref l/\p l/\H l=some (.tup us)/\Reps H p us ds:=by
 cases h with|tup a b c e=>exact ⟨_,_,rfl,a,b,c,e⟩
theorem Zl {f:Str}:∀ {fs:Ar} {gs:List (Str × D)},fs.map (·.1)=gs.map (·.1)->(∀ (i:Nat) x y,fs[i]?=some x->gs[i]?=some y->Rep H p x.2 y.2) ->
  (∀ d,gs.lookup f=some d->∃ u,fs.lookup f=some u/\Rep H p u d)/\(gs.lookup f=none->fs.lookup f=none)
 | [],[],_,_=>⟨λ d h=>by simp at h,λ _=>rfl⟩
 | [],_ :: _,e,_=>by simp at e
 | _ :: _,[],e,_=>by simp at e
 | (a,u) :: fs,(b,c) :: gs,e,r=>by
  have e1:a=b:=by simpa using (List.cons.inj e).1
  subst e1;have ih:=Zl (f:=f) (fs:=fs) (gs:=gs) (List.cons.inj e).2 λ i x y hx hy=>r (i + 1) x y (by simpa using hx) (by simpa using hy);by_cases hf:f=a
  ·have hb:(f == a)=true:=bI.mpr hf;refine ⟨λ d h=>?_,λ h=>?_⟩
   ·simp only [List.lookup,hb] at h ⊢;cases h;exact ⟨_,rfl,r 0 (a,u) (a,c) rfl rfl⟩
   ·simp only [List.lookup,hb] at h;cases h
  ·have hb:(f == a)=false:=aX.mpr hf;simp only [List.lookup,hb];exact ih
def Rep.ob' {C:Addr} {gs:List (Str × D)} (h:Rep H p v (.ob C gs)):∃ l dx fs,v=.ref l/\p l/\H l=some (.ins C dx fs)/\(∀ f d,gs.lookup f=some d->∃ u,fs.lookup f=some u/\Rep H p u d)/\(∀ f,gs.lookup f=none->fs.lookup f=none):=by
 cases h with|ob a b c e=>exact ⟨_,_,_,rfl,a,b,λ f=>(Zl c e).1,λ f=>(Zl c e).2⟩
noncomputable abbrev D.ints (ns:A6):D:=.lst (ns.map D.int)
theorem reps_ints:∀ {ns:A6},Reps H p (ns.map V.int) (ns.map D.int)
 | []=>.nil
 | _ :: _=>.cons .int reps_ints
theorem Ja:∀ {ns:A6} {vs:Ap},Reps H p vs (ns.map D.int)->vs=ns.map V.int
 | [],[],_=>rfl
 | [],_ :: _,h=>by have:=h.len;simp at this
 | _ :: _,[],h=>by have:=h.len;simp at this
 | n :: ns,v :: vs,h=>by
  have h1:=h.g 0 v (.int n) rfl rfl;have h2:Reps H p vs (ns.map D.int):=⟨by have:=h.len;simpa using this,λ i u d a b=>h.g (i + 1) u d (by simpa using a) (by simpa using b)⟩;cases h1;rw [br,Ja h2]
def Rep.ints' {ns:A6} (h:Rep H p v (.ints ns)):∃ l,v=.ref l/\p l/\H l=some (.lst (ns.map V.int)):=by
 obtain ⟨l,us,e,a,b,c⟩:=h.lst';rw [Ja c] at b;exact ⟨l,e,a,b⟩
def qw {ns:A6} (pl:p l) (e:H l=some (.lst (ns.map V.int))):Rep H p (.ref l) (.ints ns):=reps_ints.mk' pl e
end
def Off (ms:Ab):Addr->Prop:=λ b=>b ∉ ms
def Fr (ms:Ab) (H H':Hp):Prop:=∀ b o,b ∉ ms->H b=some o->H' b=some o
section
variable {H H' H2:Hp} {ms ns:Ab} {x:Addr} {o:HO} {v:V} {d:D} {vs:Ap} {ds:List D}
def Fr.refl:Fr ms H H:=λ _ _ _ h=>h
def Fr.trans (a:Fr ms H H') (b:Fr ms H' H2):Fr ms H H2:=λ c o n h=>b c o n (a c o n h)
def Fr.more (a:Fr ms H H') (s:∀ b,b∈ms->b∈ns):Fr ns H H':=λ b o n h=>a b o (λ z=>n (s b z)) h
def Same.fr (a:Same H H'):Fr ms H H':=λ b o _ h=>a b o h
def jD (h:x∈ms):Fr ms H (upd H x o):=λ b u n hb=>by
 rw [nF (λ z=>n (by rw [z];exact h))];exact hb
def zbG (h:H x=none):Fr ms H (upd H x o):=(same_upd' h).fr where
 same_upd' {H:Hp} {x:Addr} {o:HO} (h:H x=none):Same H (upd H x o):=λ b u hb=>by rw [nF (nH hb h)];exact hb
def Fr.same (a:Fr ms H H') (h:∀ m∈ms,H m=none):Same H H':=λ b o hb=>a b o (λ z=>by rw [h b z] at hb;cases hb) hb
def Rep.fr (h:Rep H (Off ms) v d) (s:Fr ms H H'):Rep H' (Off ms) v d:=h.keep λ b o pb hb=>⟨pb,s b o pb hb⟩
def Reps.fr (h:Reps H (Off ms) vs ds) (s:Fr ms H H'):Reps H' (Off ms) vs ds:=h.keep λ b o pb hb=>⟨pb,s b o pb hb⟩
def Rep.more (h:Rep H (Off ms) v d) (s:∀ b,b∈ns->b∈ms\/H b=none):Rep H (Off ns) v d:=h.keep λ b o pb hb=>⟨λ z=>(s b z).elim pb (λ q=>by rw [q] at hb;cases hb),hb⟩
def Reps.more (h:Reps H (Off ms) vs ds) (s:∀ b,b∈ns->b∈ms\/H b=none):Reps H (Off ns) vs ds:=h.keep λ b o pb hb=>⟨λ z=>(s b z).elim pb (λ q=>by rw [q] at hb;cases hb),hb⟩
def Rep.same (h:Rep H (Off ms) v d) (s:Same H H'):Rep H' (Off ms) v d:=h.fr s.fr
def Reps.same (h:Reps H (Off ms) vs ds) (s:Same H H'):Reps H' (Off ms) vs ds:=h.fr s.fr
def Rep.ahead (h:Rep H (Off []) v d) (s:Same H H') (n:∀ m∈ms,H m=none):Rep H' (Off ms) v d:=h.keep λ b o _ hb=>⟨(λ z=>nomatch (n b z).symm.trans hb),s b o hb⟩
def Reps.ahead (h:Reps H (Off []) vs ds) (s:Same H H') (n:∀ m∈ms,H m=none):Reps H' (Off ms) vs ds:=h.keep λ b o _ hb=>⟨(λ z=>nomatch (n b z).symm.trans hb),s b o hb⟩
def Rep.all {p:A5} (h:Rep H p v d):Rep H (Off []) v d:=h.keep λ b o _ hb=>⟨(λ z=>nomatch z),hb⟩
def Reps.all {p:A5} (h:Reps H p vs ds):Reps H (Off []) vs ds:=h.keep λ b o _ hb=>⟨(λ z=>nomatch z),hb⟩
end
def fd_small {i j:Int} (h1:0 < j) (h2:j < 1000000):CFd i j:=fd_ok h1 (aI (show j.natAbs < 2 ^ 20 by lia) (Nat.pow_le_pow_right (by decide) (by decide)))
def zd6 {K:A0} {H H':Hp} {xs:Ap} (s:Same H H') (h:SqL K H l xs):SqL K H' l xs:=s.seq h
noncomputable def del (H:Hp) (x:Addr):Hp:=λ b=>if b=x then none else H b
section
variable {K:A0} {H:Hp} {Q:VK} {p:A5} {v:V} {d:D} {ds:List D} {f:Str}
def zhb {vs:Ap} {i:Int} (h:Reps H p vs ds) (e:atI ds i=some d):∃ u,atI vs i=some u/\Rep H p u d:=by
 unfold atI at e ⊢;rw [h.len];cases z:ixN ds.length i with
 | none=>rw [z] at e;cases e
 | some j=>rw [z] at e;exact h.of (i:=j) e
end
def je {H H':Hp} {p:A5} {d:D} (h:Rep H p v d) (s:Same H H'):Rep H' p v d:=h.keep λ b o pb hb=>⟨pb,s b o hb⟩
section
variable {X:Cx}
def ziA (K:A0):R2:=λ x y H Q=>∃ p xs i v,x=.ref p/\y=.int i/\SqL K H p xs/\0<=i/\atI xs i=some v/\Q v H
def zfk:zi4 X (ziA X.K):=by
 intro m5 s σ H x y v u Q I rx ry h;obtain ⟨p,xs,i,z,rfl,rfl,hq,h0,he,q⟩:=h;cases rx;obtain ⟨t,rfl⟩:=ry;obtain ⟨ni,r,pl,hz⟩:=I.list hq;obtain ⟨j,h1,h2,h3,h4,h5⟩:=Jd he;obtain ⟨w,ew,rw'⟩:=r.get h2;have hl:=r.length;have hn:=Zm;have hj:i.toNat=j:=by
  rw [f9 h0 h5] at h1;exact aO h1
 exact wpAny_getItem_list pl.isList h0 (by lia) (by rw [hj];simpa using ew) ⟨z,H,I,rw',q⟩
end
inductive Hard:D->Prop where
 | non:Hard .non
 | bl {b:Bool}:Hard (.bl b)
 | int {i:Int}:Hard (.int i)
 | str {x:Str}:Hard (.str x)
 | tup {ds:List D}:(∀ (i:Nat) d,ds[i]?=some d->Hard d)->Hard (.tup ds)
def Rep.hard {p q:A5} {d:D} (h:Rep H p v d) (hd:Hard d) (k:∀ b xs,p b->H b=some (.tup xs)->q b):Rep H q v d:=by
 induction h with
 | non=>exact .non
 | bl=>exact .bl
 | int=>exact .int
 | str=>exact .str
 | lst pl hl e _ ih=>cases hd
 | tup pl hl e _ ih =>
  cases hd with
  | tup hd=>exact .tup (k _ _ pl hl) hl e λ i v d a b=>ih i v d a b (hd i d b)
 | ob pl hl e _ ih=>cases hd
def zeO {as:Ab} (nd:as.Nodup) {i j:Nat} (h1:as[i]?=some b) (h2:as[j]?=some b):i=j:=by
 obtain ⟨hi,e1⟩:=aa.mp h1;obtain ⟨hj,e2⟩:=aa.mp h2;have P:=dJ.mp nd;rcases fk i j with h|h|h
 ·exact absurd (e1.trans e2.symm) (P i j hi hj h)
 ·exact h
 ·exact absurd (e2.trans e1.symm) (P j i hj hi h)
structure NL (H:Hp) (p:A5) (G:Addr) (as:Ab) (xss:List (List D)):Prop where
 out:H G=some (.lst (as.map V.ref))
 len:as.length=xss.length
 nd:as.Nodup
 nG:G ∉ as
 g:∀ (i:Nat) b xs,as[i]?=some b->xss[i]?=some xs->∃ vs,H b=some (.lst vs)/\Reps H p vs xs
section
variable {H H':Hp} {p q:A5} {G:Addr} {as:Ab} {xss:List (List D)}
def NL.keep (h:NL H p G as xss) (s:∀ b o,(b=G\/b∈as\/p b)->H b=some o->H' b=some o) (sp:∀ b,p b->H b≠none->q b):NL H' q G as xss:=by
 refine ⟨s _ _ (.inl rfl) h.out,h.len,h.nd,h.nG,λ i b xs e1 e2=>?_⟩;obtain ⟨vs,h1,h2⟩:=h.g i b xs e1 e2;exact ⟨vs,s _ _ (.inr (.inl (aj e1))) h1,h2.keep λ c o pc hc=>⟨sp c pc (by rw [hc];intro z;cases z),s c o (.inr (.inr pc)) hc⟩⟩
def NL.same (h:NL H p G as xss) (s:Same H H'):NL H' p G as xss:=h.keep (λ b o _ hb=>s b o hb) λ _ hp _=>hp
def NL.at (h:NL H p G as xss) {xs:List D} (e:xss[i]?=some xs):∃ b vs,as[i]?=some b/\H b=some (.lst vs)/\Reps H p vs xs:=by
 have hi:=(aa.mp e).1;have e2:as[i]?=some (as[i]'(by rw [h.len];exact hi)):=ae _;obtain ⟨vs,h1,h2⟩:=h.g i _ xs e2 e;exact ⟨_,vs,e2,h1,h2⟩
def WX {H:Hp} {p:A5} {G:Addr} (h:H G=some (.lst [])):NL H p G [] []:=⟨h,rfl,nodup_nil,by simp,λ i b xs e=>by simp at e⟩
def NL.rep (h:NL H p G as xss):Rep H (Off []) (.ref G) (.lst (xss.map D.lst)):=by
 refine .lst (λ z=>nomatch z) h.out (by rw [ai,ai,h.len]) λ i v d e1 e2=>?_;rw [am,ar] at e1 e2;obtain ⟨b,e1,rfl⟩:=e1;obtain ⟨xs,e2,rfl⟩:=e2;obtain ⟨vs,h1,h2⟩:=h.g i b xs e1 e2;exact h2.all.mk' (λ z=>nomatch z) h1
def NL.put {vs:Ap} {ys:List D} (h:NL H p G as xss) (e:as[i]?=some b) (np:¬ p b) (r:Reps H p vs ys):NL (upd H b (.lst vs)) p G as (xss.set i ys):=by
 have hb:=aj e;have nG:G≠b:=λ z=>h.nG (by rw [z];exact hb);have rk:∀ {us:Ap} {zs:List D},Reps H p us zs->Reps (upd H b (.lst vs)) p us zs:=λ r=>r.keep λ c o pc hc=>⟨pc,by rw [nF (λ z=>np (by rw [<- z];exact pc))];exact hc⟩;refine ⟨by rw [nF nG];exact h.out,by rw [bX,h.len],h.nd,h.nG,λ j c xs e1 e2=>?_⟩;by_cases hj:j=i
 ·subst hj;rw [e] at e1;cases e1;have hl:j < xss.length:=by rw [<- h.len];exact (aa.mp e).1
  rw [a9 hl] at e2;cases e2;exact ⟨vs,nE,rk r⟩
 ·rw [bT (ba hj)] at e2;have nc:c≠b:=λ z=>by
   subst z;exact hj (zeO h.nd e1 e)
  obtain ⟨us,h1,h2⟩:=h.g j c xs e1 e2;exact ⟨us,by rw [nF nc];exact h1,rk h2⟩
def NL.push {vs:Ap} {ys:List D} (h:NL H p G as xss) (hb:H b=some (.lst vs)) (nb:b ∉ as) (nG:b≠G) (np:¬ p G) (r:Reps H p vs ys):NL (upd H G (.lst (as.map V.ref ++ [.ref b]))) p G (as ++ [b]) (xss ++ [ys]):=by
 have rk:∀ {us:Ap} {zs:List D},Reps H p us zs->Reps (upd H G (.lst (as.map V.ref ++ [.ref b]))) p us zs:=λ r=>r.keep λ c o pc hc=>⟨pc,by rw [nF (λ z=>np (by rw [<- z];exact pc))];exact hc⟩;refine ⟨by rw [nE,aZ];rfl,by simp [h.len],?_,?_,λ j c xs e1 e2=>?_⟩
 ·rw [nodup_append];refine ⟨h.nd,by simp,?_⟩;intro x hx y hy z;rw [ap.mp hy] at z;exact nb (by rw [<- z];exact hx)
 ·intro z;rcases aB.mp z with z|z
  ·exact h.nG z
  ·exact nG (ap.mp z).symm
 ·by_cases hj:j < as.length
  ·rw [aT hj] at e1;rw [aT (by rw [<- h.len];exact hj)] at e2;obtain ⟨us,h1,h2⟩:=h.g j c xs e1 e2;have nc:c≠G:=λ z=>h.nG (by rw [<- z];exact aj e1);exact ⟨us,by rw [nF nc];exact h1,rk h2⟩
  ·rw [aQ (by lia)] at e1;rw [aQ (by rw [<- h.len];lia),<- h.len] at e2;have hj0:j - as.length=0:=by have:=(aa.mp e1).1;simp at this;lia
   rw [hj0] at e1 e2;have e1:b=c:=by simpa using e1
   have e2:ys=xs:=by simpa using e2
   subst e1 e2;exact ⟨vs,by rw [nF nG];exact hb,rk r⟩
end
def zG (H:Hp):Addr->Prop:=λ b=>∃ xs,H b=some (.tup xs)
def NL.tup {H H':Hp} {G:Addr} {as:Ab} {xss:List (List D)} (h:NL H (zG H) G as xss) (s:∀ b o,(b=G\/b∈as\/zG H b)->H b=some o->H' b=some o):NL H' (zG H') G as xss :=
 h.keep s λ b hb _=>by
  obtain ⟨xs,hx⟩:=hb;exact ⟨xs,s b _ (.inr (.inr ⟨xs,hx⟩)) hx⟩
def NL.isl {G:Addr} {as:Ab} {p:A5} {xss:List (List D)} (h:NL H p G as xss) (hb:b∈G :: as):∃ vs,H b=some (.lst vs):=by
 rcases az.mp hb with rfl|hb
 ·exact ⟨_,h.out⟩
 ·obtain ⟨j,hj⟩:=aU hb;obtain ⟨vs,h1,_⟩:=h.g j b _ hj (ae (by rw [<- h.len];exact (aa.mp hj).1));exact ⟨vs,h1⟩
def uc {P:Af} {K:A0} {mg:A4} {base:Heap} {x:Str} {k:Nat} {G:List V->Sp->Prop} {ps:A8} {dvs:Ap} {sp:Sp} (c:Cal P w K mg base x k ps dvs sp) (h:G dvs sp):∃ ps dvs sp,Cal P w K mg base x k ps dvs sp/\G dvs sp:=⟨ps,dvs,sp,c,h⟩
def un2 {K:A0} {t:Addr} {x y:V} {G:V->V->Prop} (h:H t=some (.tup [x,y])) (q:G x y):∃ a xs,V.ref t=.ref a/\SqT K H a xs/\xs.length=2/\∃ v r,xs=v :: r/\∃ v' r',r=v' :: r'/\r'=[]/\G v v':=⟨t,_,rfl,SqT.of h,rfl,x,_,rfl,y,_,rfl,rfl,q⟩
def ra {K:A0} {a C dx:Addr} {fs:Ar} {f:Str} {G:V->Prop} (h:H a=some (.ins C dx fs)) (c:Cls K C) (n:NoAttr K C f) (e:fs.lookup f=some v) (q:G v):∃ a' C dx fs v,V.ref a=.ref a'/\H a'=some (.ins C dx fs)/\Cls K C/\NoAttr K C f/\fs.lookup f=some v/\G v:=⟨a,C,dx,fs,v,rfl,h,c,n,e,q⟩
section
variable {prog:Af} {w:World} {A:Ao} {E:A3} {s:An}
noncomputable abbrev lit (l:Addr):Obj:={ cls:=.type (Qr true),data:=.fields #[.ref l,.int 0 0] }
end
section
variable {prog:Af} {w:World} {A:Ao} {E:A3} {s:An}
end
section
variable {X:Cx} {pos pos':Pos} {x:Str}
def zt (i:Nat) {e:Expr} {te:TE} (hN:X.N.Nodup) (he:PE X e te) (hi:X.N[i]?=some x:=by rfl) (hx:Loc X.env.scope x:=by exact Or.inl rfl) (hs:swapsWith e (some (.Name x pos')) pos.line X.env=pure false:=by rfl)
  (hf:Or (X.fn x=true) (X.env.scope.names.lookup x=some .local):=by walk_at "p"):PS X (.Assign [.Name x pos'] e pos) (tAsg te (gName i)):=JB hN hi hx he hs hf
def qf (i:Nat) (hN:X.N.Nodup) (hi:X.N[i]?=some x:=by rfl) (hx:Loc X.env.scope x:=by exact Or.inl rfl) (hf:Or (X.fn x=true) (X.env.scope.names.lookup x=some .local):=by walk_at "p"):PG X (.Name x pos) (gName i):=vH hN hi hx hf
def zm {a b:Expr} {ta tb:TE} (ha:PE X a ta) (hb:PE X b tb) (hs:zcI b:=by intro _ _;rfl):PE X (.Subscript a b pos) (tOp (rIx X.K) ta tb):=ziB zhU ha hb hs
end
section
variable {X:Cx}
end
section
variable {X:Cx} {G:GK} {x y:Str} {np mp pos hpos gpos:Pos} {body su sv:List Stmt} {b₀ c₀:Stmt} {tb:List (Addr × Obj)->GK->TS} {th ti:List (Addr × Obj)->Addr->TS}
end
section
variable {X:Cx}
end
section
variable {X:Cx}
end
section
variable {κ:Type} [DecidableEq κ]
noncomputable def jW (n9:List (κ × V)) (k:κ):Option V:=(n9.find? λ kv=>decide (kv.1=k)).map (·.2)
noncomputable def wU (n9:List (κ × V)) (k:κ) (v:V):List (κ × V) :=
 if (n9.any λ kv=>decide (kv.1=k))=true then n9.map (λ kv=>if kv.1=k then (kv.1,v) else kv) else n9 ++ [(k,v)]
noncomputable def zg9 (n9:List (κ × V)) (k:κ):List (κ × V):=n9.filter λ kv=>decide (kv.1≠k)
def qP {p:κ × V} {r:List (κ × V)} {k:κ} (e:p.1=k):jW (p :: r) k=some p.2:=by simp [jW,dq,e]
def qQ {p:κ × V} {r:List (κ × V)} {k:κ} (e:¬ p.1=k):jW (p :: r) k=jW r k:=by simp [jW,dq,e]
theorem Zv (k:κ):∀ n9:List (κ × V),(n9.any λ kv=>decide (kv.1=k))=(jW n9 k).isSome
 | []=>rfl
 | p :: r=>by
  rw [any_cons];by_cases e:p.1=k
  ·simp only [qP e,bu e,Bool.true_or,Option.isSome_some]
  ·rw [qQ e,aY e,Bool.false_or];exact Zv k r
theorem Vs (k j:κ) (y:V):∀ n9:List (κ × V),jW (n9.map λ kv=>if kv.1=k then (kv.1,y) else kv) j=(jW n9 j).map λ x=>if j=k then y else x
 | []=>rfl
 | p :: r=>by
  have ih:=Vs k j y r;rw [br];by_cases h:p.1=k
  ·rw [ax h];by_cases e:p.1=j
   ·rw [qP (p:=(p.1,y)) e,qP e,bZ,ax (e.symm.trans h)]
   ·rw [qQ (p:=(p.1,y)) e,qQ e,ih]
  ·rw [aq h];by_cases e:p.1=j
   ·rw [qP (p:=p) e,qP e,bZ,aq (λ z=>h (e.trans z))]
   ·rw [qQ (p:=p) e,qQ e,ih]
theorem XE (k j:κ) (y:V):∀ n9:List (κ × V),jW n9 k=none->jW (n9 ++ [(k,y)]) j=if j=k then some y else jW n9 j
 | [],_=>by
  by_cases e:k=j
  ·rw [ax e.symm];exact qP (p:=(k,y)) e
  ·rw [aq (λ z=>e z.symm)];exact qQ (p:=(k,y)) e
 | p :: r,hn=>by
  rw [cons_append];have hk:¬ p.1=k:=λ z=>by rw [qP z] at hn;cases hn
  rw [qQ hk] at hn;have ih:=XE k j y r hn;by_cases e:p.1=j
  ·rw [qP e,qP e,aq (λ z=>hk (e.trans z))]
  ·rw [qQ e,qQ e,ih]
def Vq (n9:List (κ × V)) (k j:κ) (y:V):jW (wU n9 k y) j=if j=k then some y else jW n9 j:=by
 unfold wU;by_cases a:(n9.any λ kv=>decide (kv.1=k))=true
 ·rw [ax a,Vs];rw [Zv] at a;by_cases e:j=k
  ·obtain ⟨x,hx⟩:=fW.mp a;rw [ax e,e,hx,bZ,ax rfl]
  ·rw [aq e];cases jW n9 j with
   | none=>rfl
   | some x=>rw [bZ,aq e]
 ·rw [aq a];refine XE k j y n9 ?_;rw [Zv] at a;cases q:jW n9 k with
  | none=>rfl
  | some x=>rw [q] at a;exact (a rfl).elim
def QB (n9:List (κ × V)) (k:κ) (v:V):(wU n9 k v).length<=n9.length + 1:=by
 unfold wU
 split
 ·rw [ai];lia
 ·rw [aD,bb,dS];lia
def RelO.isSome_eq {o:Aq} {u:Option Value} (r:RelO o u):o.isSome=u.isSome:=by
 cases o with
 | none=>cases u with
  | none=>rfl
  | some _=>exact (show False from r).elim
 | some _=>cases u with
  | none=>exact (show False from r).elim
  | some _=>rfl
def RelO.getD {o:Aq} {u:Option Value} {d:V} {d':Am} (r:RelO o u) (rd:RelV d d'):RelV (o.getD d) (u.getD d'):=by
 cases o with
 | none=>cases u with
  | none=>exact rd
  | some _=>exact (show False from r).elim
 | some _=>cases u with
  | none=>exact (show False from r).elim
  | some _=>exact r
def KV.val {n9:List (κ × V)} {vs:List (κ × Value)} (r:KV n9 vs) (k:κ):RelO (jW n9 k) (valueAt vs k):=by
 unfold KV at r
 induction r with
 | nil=>exact True.intro
 | @cons p q ps qs h t ih =>
  obtain ⟨h1,h2⟩:=h;by_cases e:p.1=k
  ·have e':q.1=k:=h1.symm.trans e;have b:valueAt (q :: qs) k=some q.2:=by simp [valueAt,dq,e']
   rw [qP e,b];exact h2
  ·have e':¬ q.1=k:=λ z=>e (h1.trans z);have b:valueAt (q :: qs) k=valueAt qs k:=by simp [valueAt,dq,e']
   rw [qQ e,b];exact ih
def KV.any {n9:List (κ × V)} {vs:List (κ × Value)} (r:KV n9 vs) (k:κ):(n9.any λ kv=>decide (kv.1=k))=vs.any λ kv=>decide (kv.1=k):=by
 unfold KV at r
 induction r with
 | nil=>rfl
 | cons h t ih=>rw [any_cons,any_cons,ih,h.1]
theorem KV.repl {n9:List (κ × V)} {vs:List (κ × Value)} (r:KV n9 vs) (k:κ) {y:V} (ry:RelV y u) :
  KV (n9.map λ kv=>if kv.1=k then (kv.1,y) else kv) (vs.map λ kv=>if kv.1=k then (kv.1,u) else kv):=by
 unfold KV at r ⊢
 induction r with
 | nil=>exact .nil
 | @cons p q ps qs h t ih =>
  rw [br,br];refine .cons ?_ ih;obtain ⟨h1,h2⟩:=h;by_cases e:p.1=k
  ·rw [ax e,ax (h1.symm.trans e)];exact ⟨h1,ry⟩
  ·rw [aq e,aq (λ z=>e (h1.trans z))];exact ⟨h1,h2⟩
def KV.put {n9:List (κ × V)} {vs:List (κ × Value)} (r:KV n9 vs) (k:κ) {y:V} (ry:RelV y u):KV (wU n9 k y) (stored vs k u):=by
 unfold wU stored;rw [r.any k];by_cases e:(vs.any λ kv=>decide (kv.1=k))=true
 ·rw [ax e,ax e];exact r.repl k ry
 ·rw [aq e,aq e];exact Paired.snoc r ⟨rfl,ry⟩
def KV.drop {n9:List (κ × V)} {vs:List (κ × Value)} (r:KV n9 vs) (k:κ):KV (zg9 n9 k) (without vs k):=by
 unfold KV at r ⊢;unfold zg9 without
 induction r with
 | nil=>exact .nil
 | @cons p q ps qs h t ih =>
  obtain ⟨h1,h2⟩:=h;rw [List.filter_cons,List.filter_cons];by_cases e:p.1=k
  ·have a:¬ decide (p.1≠k)=true:=by simp [e]
   have b:¬ decide (q.1≠k)=true:=by simp [h1.symm.trans e]
   rw [aq a,aq b];exact ih
  ·have e':¬ q.1=k:=λ z=>e (h1.trans z);have a:decide (p.1≠k)=true:=by simp [e]
   have b:decide (q.1≠k)=true:=by simp [e']
   rw [ax a,ax b];exact .cons ⟨h1,h2⟩ ih
def KV.keys {n9:List (κ × V)} {vs:List (κ × Value)} (r:KV n9 vs):n9.map (·.1)=vs.map (·.1):=by
 unfold KV at r
 induction r with
 | nil=>rfl
 | cons h t ih=>rw [br,br,ih,h.1]
def KV.length {n9:List (κ × V)} {vs:List (κ × Value)} (r:KV n9 vs):n9.length=vs.length:=cD r
end
def zch {P:Af} {k:Key} (r:RelV (kV k) u):(qM P w).is k u=true:=by
 cases k with
 | inl i=>obtain ⟨t,e⟩:=(show ∃ t,u=Value.int i t from r);subst e;exact zab P w i t
 | inr x=>obtain ⟨t,e⟩:=(show ∃ t,u=Value.str x t from r);subst e;exact zaa P w x t
theorem X0 {P:Af} {w:World}:∀ {ks:List Key} {us:A7},Vals (ks.map kV) us->ItemsAre (qM P w) ks us
 | [],_,r=>by rw [fK] at r;cases r;exact .nil
 | k :: ks,_,r=>by
  rw [br] at r;cases r with
  | cons h t=>exact .cons (zch h) (X0 t)
abbrev KT (H:Hp):List (List Key × V)->List (List Key × Addr × Value)->Prop:=Paired λ p q=>p.1=q.1/\H q.2.1=some (.tup (p.1.map kV))/\RelV p.2 q.2.2
def KT.val {xs:List (List Key × Addr × Value)} (r:KT H n9 xs) (k:List Key):RelO (jW n9 k) ((atKey xs k).map (·.2)):=by
 induction r with
 | nil=>exact True.intro
 | @cons p q ps qs h t ih =>
  obtain ⟨h1,_,h2⟩:=h;by_cases e:p.1=k
  ·have e':q.1=k:=h1.symm.trans e;have b:atKey (q :: qs) k=some q.2:=by simp [atKey,dq,e']
   rw [qP e,b];exact h2
  ·have e':¬ q.1=k:=λ z=>e (h1.trans z);have b:atKey (q :: qs) k=atKey qs k:=by simp [atKey,dq,e']
   rw [qQ e,b];exact ih
theorem KT.repl {xs:List (List Key × Addr × Value)} (r:KT H n9 xs) (k:List Key) {y:V} (ry:RelV y u) :
  KT H (n9.map λ kv=>if kv.1=k then (kv.1,y) else kv) (xs.map (putAt k u)):=by
 induction r with
 | nil=>exact .nil
 | @cons p q ps qs h t ih =>
  rw [br,br];refine .cons ?_ ih;obtain ⟨h1,h2,h3⟩:=h;unfold putAt;by_cases e:p.1=k
  ·rw [ax e,ax (h1.symm.trans e)];exact ⟨h1,h2,ry⟩
  ·rw [aq e,aq (λ z=>e (h1.trans z))];exact ⟨h1,h2,h3⟩
def KT.put {xs:List (List Key × Addr × Value)} (r:KT H n9 xs) (k:List Key) {y:V} (hb:H b=some (.tup (k.map kV))) (ry:RelV y u) :
  KT H (wU n9 k y) (storedH xs k b u):=by
 have e:(n9.any λ kv=>decide (kv.1=k))=(atKey xs k).isSome:=by
  rw [Zv,(r.val k).isSome_eq,cy]
 unfold wU storedH;rw [e];by_cases q:(atKey xs k).isSome=true
 ·rw [ax q,ax q];exact r.repl k ry
 ·rw [aq q,aq q];exact Paired.snoc r ⟨rfl,hb,ry⟩
def KT.keeps {H H':Hp} {xs:List (List Key × Addr × Value)} (r:KT H n9 xs) (ht:∀ b ys,H b=some (.tup ys)->H' b=some (.tup ys)):KT H' n9 xs :=
 Paired.mapP r λ _ _ z=>⟨z.1,ht _ _ z.2.1,z.2.2⟩
section
variable {P:Af} {w:World} {H:Hp} {h:Heap} {a:Addr}
def zg1 {u:HO} (ok:HOk P w H h) (e:Rd H a u):ObjOk P w H h a u:=e.ok ok
def zcu {n9:List (Key × V)} (ok:HOk P w H h) (e:Rd H a (.dK n9)):n9.length<=sizeLine/\(a == sysModules)=false/\∃ vs,KV n9 vs/\h.DictOf (qM P w) a vs :=
 show ObjOk P w H h a (.dK n9) from zg1 ok e
def ziT {n9:List (Key × V)} (ok:HOk P w H h) (e:H a=some (.dK n9)):n9.length<=sizeLine/\(a == sysModules)=false/\∃ vs,KV n9 vs/\h.DictOf (qM P w) a vs:=zcu ok (.inl e)
def WZ {ks:List Key} (ok:HOk P w H h) (e:H a=some (.tup (ks.map kV))):(tupleKind (qM P w)).is h ks a:=by
 obtain ⟨_,ni,r,o,h1,h2,n,h3⟩:=(show ObjOk P w H h a (.tup (ks.map kV)) from ok a _ e);exact ⟨o,ni.toArray,n,h1,h2,h3,by simpa using X0 r⟩
theorem zct (ok:HOk P w H h) (e:Rd H a (.dT n9)):n9.length<=sizeLine/\(a == sysModules)=false /\
  ∃ xs,KT H n9 xs/\h.DictOfH (tupleKind (qM P w)) a xs:=by
 obtain ⟨z,y,xs,r,o,es,ep,h1,h2,h3,h4,h5⟩:=(show ObjOk P w H h a (.dT n9) from zg1 ok e);refine ⟨z,y,xs,r,o,es,ep,h1,h2,h3,h4,λ x hx=>?_,h5⟩;have all:∀ {l:As} {m:List (List Key × Addr × Value)},KT H l m->∀ x∈m,(tupleKind (qM P w)).is h x.1 x.2.1:=by
  intro l m q
  induction q with
  | nil=>intro x hx;exact nomatch hx
  | @cons p q ps qs hq t ih =>
   intro x hx;rcases az.mp hx with e|hx
   ·subst e;exact WZ ok (by rw [<- hq.1];exact hq.2.1)
   ·exact ih x hx
 exact all r x hx
def ziS (ok:HOk P w H h) (e:H a=some (.dT n9)):n9.length<=sizeLine/\(a == sysModules)=false /\
  ∃ xs,KT H n9 xs/\h.DictOfH (tupleKind (qM P w)) a xs:=zct ok (.inl e)
end
def DGet (H:Hp) (a:Addr) (y:V) (r:Aq):Prop :=
 (∃ n9 k,Rd H a (.dK n9)/\y=kV k/\r=jW n9 k)\/∃ n9 k b,Rd H a (.dT n9)/\y=.ref b/\H b=some (.tup (k.map kV))/\r=jW n9 k
def DPut (H:Hp) (a:Addr) (y v:V) (H':Hp):Prop :=
 (∃ n9 k,H a=some (.dK n9)/\y=kV k/\n9.length < sizeLine/\H'=upd H a (.dK (wU n9 k v))) \/
 ∃ n9 k b,H a=some (.dT n9)/\y=.ref b/\H b=some (.tup (k.map kV))/\n9.length < sizeLine/\H'=upd H a (.dT (wU n9 k v))
def DGet.k {a:Addr} {n9:List (Key × V)} {k:Key} (e:H a=some (.dK n9)):DGet H a (kV k) (jW n9 k):=.inl ⟨n9,k,.inl e,rfl,rfl⟩
def DGet.t {a b:Addr} {k:List Key} (e:H a=some (.dT n9)) (eb:H b=some (.tup (k.map kV))):DGet H a (.ref b) (jW n9 k):=.inr ⟨n9,k,b,.inl e,rfl,eb,rfl⟩
def DPut.k {a:Addr} {n9:List (Key × V)} {k:Key} (e:H a=some (.dK n9)) (hl:n9.length < sizeLine):DPut H a (kV k) v (upd H a (.dK (wU n9 k v))):=.inl ⟨n9,k,e,rfl,hl,rfl⟩
def DPut.t {a b:Addr} {k:List Key} (e:H a=some (.dT n9)) (eb:H b=some (.tup (k.map kV))) (hl:n9.length < sizeLine) :
  DPut H a (.ref b) v (upd H a (.dT (wU n9 k v))):=.inr ⟨n9,k,b,e,rfl,eb,hl,rfl⟩
section
variable {X:Cx} {m5:A2} {σ:St} {H:Hp} {s:An} {a:Addr} {y v:V} {u r:Am} {o:Aq} {A:Ao} {E:A3}
def Inv.big (I:Inv X m5 σ H s):sysModules < s.heap.objs.size:=by
 have h:mainGlobals < s.heap.objs.size:=(I.mod.glob.keeps I.bk).lt;exact fo (by decide) h
def zdG {Q:A3} (hu:A.units + 1 < cLine) (I:Inv X m5 σ H s) (g:DGet H a y (some v)) (ry:RelV y u) (h:∀ w' s',Inv X m5 σ H s'->RelV v w'->Q w' s') :
  wpAny (model X.prog X.w) A (getItem (.ref a) u) Q E s:=by
 rcases g with ⟨n9,k,e,ey,l⟩|⟨n9,k,b,e,ey,eb,l⟩
 ·subst ey;obtain ⟨z,hd,vs,rel,dd⟩:=zcu I.hok e;obtain ⟨w',hw,rw'⟩:=RelO.some_of (v:=v) (o:=valueAt vs k) (by rw [l];exact rel.val k);exact wpAny_getItem_of (zch ry) dd.mapOf hw (h w' _ (I.tok _) rw')
 ·subst ey;cases (show u=Value.ref b from ry);obtain ⟨z,hd,xs,rel,dd⟩:=zct I.hok e;obtain ⟨w',hw,rw'⟩:=RelO.some_of (v:=v) (o:=(atKey xs k).map (·.2)) (by rw [l];exact rel.val k);obtain ⟨p,hp,hp2⟩:=ar.mp hw;refine wpAny_getItem_heap (fF hu) (WZ I.hok eb) dd hp ?_;rw [hp2];exact h w' _ (I.tok _) rw'
def zjl {Q:A3} (hu:A.units + 1 < cLine) (I:Inv X m5 σ H s) (g:DGet H a y o) (ry:RelV y u) (h:∀ s',Inv X m5 σ H s'->Q (.bool o.isSome) s') :
  wpAny (model X.prog X.w) A (compareOp .In u (.ref a)) Q E s:=by
 rcases g with ⟨n9,k,e,ey,l⟩|⟨n9,k,b,e,ey,eb,l⟩
 ·subst ey;obtain ⟨z,hd,vs,rel,dd⟩:=zcu I.hok e;refine wpAny_in_of (zch ry) hd dd.mapOf ?_;rw [<- (rel.val k).isSome_eq,<- l];exact h _ (I.tok _)
 ·subst ey;cases (show u=Value.ref b from ry);obtain ⟨z,hd,xs,rel,dd⟩:=zct I.hok e;refine wpAny_in_heap (fF hu) (WZ I.hok eb) hd dd ?_;have q:=(rel.val k).isSome_eq;rw [cy] at q;rw [<- q,<- l];exact h _ (I.tok _)
def W9 {h':Heap} {t':Nat} {ob:HO} (I:Inv X m5 σ H s) (mu:Mut (H a)) (hs:Heap.SameBut a s.heap h') (he:∃ q,h'.get? a=some q) (new:ObjOk X.prog X.w (upd H a ob) h' a ob) :
  Inv X m5 σ (upd H a ob) { s with heap:=h',toks:=t' } :=
 I.write (x:=a) (e:=a) mu (.inl rfl) (λ b q hb z=>(hs.2 b hb).trans z) he new
def zh0 {P:Af} {H':Hp} {h':Heap} {n9:List (Key × V)} {vs:List (Key × Value)} (z:n9.length<=sizeLine) (hd:(a == sysModules)=false) (rel:KV n9 vs) (dd:h'.DictOf (qM P w) a vs) :
  ObjOk P w H' h' a (.dK n9):=⟨z,hd,vs,rel,dd⟩
def zdF {H':Hp} {Q:Ag} (hu:A.units + 1 < cLine) (I:Inv X m5 σ H s) (g:DPut H a y v H') (ry:RelV y u) (rv:RelV v r) (h:∀ s',Inv X m5 σ H' s'->Q () s') :
  wpAny (model X.prog X.w) A (setItem (.ref a) u r) Q E s:=by
 rcases g with ⟨n9,k,e,ey,l,eH⟩|⟨n9,k,b,e,ey,eb,l,eH⟩
 ·subst ey eH;obtain ⟨z,hd,vs,rel,dd⟩:=ziT I.hok e;have hz:vs.length<=sizeLine:=by rw [<- rel.length];exact z
  have hl:(wU n9 k v).length<=sizeLine:=by have:=QB n9 k v;lia
  refine wpAny_setItem_pairs (hsz:=hz) (zch ry) dd λ h' dd' hs=>h _ ?_;have he:∃ q,h'.get? a=some q:=let ⟨q,_,_,hq,_⟩:=dd';⟨q,hq⟩
  exact W9 I (by rw [e];exact True.intro) hs he (zh0 hl hd (rel.put k rv) dd')
 ·subst ey eH;cases (show u=Value.ref b from ry);obtain ⟨z,hd,xs,rel,dd⟩:=ziS I.hok e;have hz:xs.length<=sizeLine:=by rw [<- cD rel];exact z
  have hl:(wU n9 k v).length<=sizeLine:=by have:=QB n9 k v;lia
  refine wpAny_setItem_heap (hsz:=hz) (fF hu) (WZ I.hok eb) dd λ h' dd' hs=>h _ ?_;obtain ⟨q,es,ep,hq,h2,h3,h4,_,h5⟩:=dd';refine W9 I (by rw [e];exact True.intro) hs ⟨q,hq⟩ ⟨hl,hd,_,(rel.put k eb rv).keeps λ c ys ec=>?_,q,es,ep,hq,h2,h3,h4,h5⟩;rw [nF (JU ec e (λ z=>nomatch z))];exact ec
end
section
variable {X:Cx} {m5:A2} {σ:St} {H:Hp} {s:An} {a:Addr} {n9:List (Key × V)} {k:Key} {u:Am} {A:Ao} {E:A3}
end
def zik (i:Expr):Prop:=∀ ov iv,subscripted i false ov iv=operate [ov,iv] (getItem ov iv)
theorem zbX {prog:Af} {A:Ao} {E:A3} {s:An} {env:Env} {value slice:Expr} {pos:Pos} {T id:String} {Q:A3}
  (hl:typeLookup (.type T) "__getitem__"=pure (some (.builtin id))) (hs:zik slice)
  (h:wpAny (model prog w) A (eval value env) (λ o s₁=>wpAny (model prog w) A (eval slice env) (λ i s₂=>s₂.TypeIs o T/\wpAny (model prog w) A (getItem o i) Q E s₂) E s₁) E s) :
  wpAny (model prog w) A (eval (.Subscript value slice pos) env) Q E s:=by
 refine Subscript_ (bg h (λ o s₁ h₁=>bg h₁ (λ i s₂ h₂=>?_) λ _ _ x=>x) λ _ _ x=>x);obtain ⟨hT,h₂⟩:=h₂;unfold subscriptTail;refine af ?_;rw [getitemInPython_of_ne hT.not_modules];refine af (gc hT hl ?_);have fin:wpAny (model prog w) A (subscripted slice false o i) (λ r s₃=>wpAny (model prog w) A (letTemporaryGo value o r >>= λ _=>pure r) Q E s₃) E s₂:=by
  rw [hs o i];exact wpAny_operating (bg h₂ (λ r s₃ h₃=>af (wpAny_letTemporaryGo (ao h₃))) λ _ _ x=>x)
 first
  | exact ao (af fin)
  | exact af (ao (af fin))
  | exact af fin
def zat {X:Cx} {m5:A2} {σ:St} {s:An} {a:Addr} {y:V} {o:Aq} (I:Inv X m5 σ H s) (g:DGet H a y o):s.TypeIs (.ref a) "dict":=by
 rcases g with ⟨n9,k,e,_,_⟩|⟨n9,k,b,e,_,_,_⟩
 ·obtain ⟨_,_,vs,_,dd⟩:=zcu I.hok e;exact dd.typeIs
 ·obtain ⟨_,_,xs,_,dd⟩:=zct I.hok e;exact dd.typeIs
def tDGet (td ty:TE):TE:=λ σ H Q=>td σ H λ x H1=>ty σ H1 λ y H2=>∃ a v,x=.ref a/\DGet H2 a y (some v)/\Q v H2
def tDIn (ty td:TE):TE:=λ σ H Q=>ty σ H λ y H1=>td σ H1 λ x H2=>∃ a o,x=.ref a/\DGet H2 a y o/\Q (.bl o.isSome) H2
def sDPut (td ty tv:TE):TS:=λ D σ H=>tv σ H λ v H1=>td σ H1 λ x H2=>ty σ H2 λ y H3=>∃ a H4,x=.ref a/\DPut H3 a y v H4/\D.nx σ H4
section
variable {X:Cx} {o i e value:Expr} {pos pos' tpos:Pos} {td ty tv:TE}
def zb4 (hu:X.A.units + 1 < cLine) (ho:PE X o td) (hi:PE X i ty) (hs:zik i):PE X (.Subscript o i pos) (tDGet td ty):=by
 intro m5 s σ H Q I h;refine zbX fQ.lookup hs (thn (ho m5 s σ H _ I h) λ u s1 ⟨x,H1,I1,rx,q1⟩=>thn (hi m5 s1 σ H1 _ I1 q1) λ iv s2 ⟨y,H2,I2,ry,a,v,ex,g,q2⟩=>?_);subst ex;obtain rfl:u=Value.ref a:=rx;exact ⟨zat I2 g,zdG hu I2 g ry λ w' s3 I3 rw'=>⟨v,H2,I3,rw',q2⟩⟩
def zhz (hu:X.A.units + 1 < cLine) (hi:PE X i ty) (ho:PE X o td):PC X .In i o (tDIn ty td):=by
 intro m5 s σ H Q I h;refine thn (hi m5 s σ H _ I h) λ iv s1 ⟨y,H1,I1,ry,q1⟩=>thn (ho m5 s1 σ H1 _ I1 q1) λ u s2 ⟨x,H2,I2,rx,a,ov,ex,g,q2⟩=>?_;subst ex;obtain rfl:u=Value.ref a:=rx;exact zjl hu I2 g ry λ s3 I3=>⟨.bl ov.isSome,H2,I3,rfl,q2⟩
def zgb (hu:X.A.units + 1 < cLine) (ho:PE X o td) (hi:PE X i ty) (hv:PE X value tv) (hs:swapsWith value (some (.Subscript o i pos')) pos.line X.env=pure false) :
  PS X (.Assign [.Subscript o i pos'] value pos) (sDPut td ty tv):=by
 intro m5 s σ H D I h;refine wpAny_Assign_Subscript (thn (hv m5 s σ H _ I h) λ r s1 ⟨v,H1,I1,rv,q1⟩=>thn (ho m5 s1 σ H1 _ I1 q1) λ u s2 ⟨x,H2,I2,rx,q2⟩=>thn (hi m5 s2 σ H2 _ I2 q2) λ iv s3 ⟨y,H3,I3,ry,a,H4,ex,g,q3⟩=>?_) hs;subst ex;obtain rfl:u=Value.ref a:=rx;exact zdF hu I3 g ry rv λ s4 I4=>⟨σ,H4,I4,q3⟩
end
def zfq {P:Af} (h:Heap) (hb:sysModules < h.objs.size):ObjOk P w H (h.push { cls:=.type "dict",data:=.dict #[] }) h.objs.size (.dT []) :=
 ⟨b7 _,aX.mpr (ba (aF hb)),[],.nil,_,#[],0,ay _ rfl,⟨rfl,rfl,rfl⟩,rfl,rfl,nodup_nil⟩
def tDNewT:TE:=λ _ H Q=>∀ p,H p=none->Q (.ref p) (upd H p (.dT []))
section
variable {X:Cx} {pos:Pos}
def zeB:PE X (.Dict [] [] pos) tDNewT:=λ m5 s σ H Q I h =>
 wpAny_Dict_empty ⟨.ref s.heap.objs.size,_,I.laid (a:=s.heap.objs.size) (o:=.dT []) (t':=s.toks) (λ _ _ q=>ak _ q) (au _) (zfq s.heap I.big),rfl,h _ (I.hok.fresh (au _))⟩
end
section
variable {X:Cx} {m5:A2} {σ:St} {H:Hp} {s:An} {a:Addr} {y d:V} {u r:Am} {o:Aq} {A:Ao} {E:A3}
end
section
variable {X:Cx} {o e f:Expr} {apos cpos:Pos} {td ty tx:TE}
end
section
variable {κ:Type} [DecidableEq κ]
end
end L2
namespace L2
open PySem PySem.Spec PySem.Calls PyProof.Rows
section
variable {X:Cx}
def zeM {ns:A6} {i:Nat} (h:i < ns.length):ns[i]?.getD 0∈ns:=by
 rw [ae h];exact dE h
def zgH (hc:X.calm=true):CallR X (.builtin "max") (λ xs H Q=>∃ p,∃ ns:List Int,xs=[.ref p]/\SqL X.K H p (ns.map V.int)/\0 < ns.length/\∀ m,m∈ns->(∀ n∈ns,n<=m)->Q (.int m) H):=by
 intro m5 s σ H xs us Q I r h;obtain ⟨p,ns,rfl,hp,hne,q⟩:=h;obtain ⟨u,rfl,rx⟩:=xk r;cases rx;obtain ⟨ni,rv,hl,hz⟩:=I.list hp;have hl':=hl.isList;have hlt:p < s.heap.objs.size:=by obtain ⟨_,e,_⟩:=hl';exact aw e
 have hlen:ni.length=ns.length:=by have:=rv.length;rw [ai] at this;exact this.symm
 refine call_max_walk (cf hl' ?_);refine ⟨s.heap.objs.size,[s.heap.objs.size,p],[s.heap.objs.size],ni.toArray.size,_,_,_,rfl,fG (A:=X.A.in1) (I.ok.hd hc) _ p (aF hlt) ni.toArray,
  ⟨⟨_,ay _ rfl,rfl,rfl⟩,hl'.push _⟩,λ b hb=>?_,by rw [av,hlen];exact hne,CmpOf.ints_gt (λ i=>ns[i]?.getD 0) (λ i v hP=>jE rv i v (by simpa using hP)),λ v h' tk hP hk=>?_⟩
 ·simp only [az,c7,dX] at hb;simp only [bz];rcases hb with rfl|rfl
  ·exact ci _
  ·exact dN hlt
 ·obtain ⟨t,rfl⟩:=jE rv _ v (by simpa using hP);obtain ⟨h1,h2⟩:=argBest_gt (λ i=>ns[i]?.getD 0) (ni.toArray.size - 1);have hs:ni.toArray.size=ns.length:=by rw [av,hlen]
  refine ⟨.int _,H,I.kept (t':=tk) (λ b o e=>hk b o (by simpa using aF (aw e)) (ak _ e)),⟨_,rfl⟩,q _ (zeM (bj h1 (by lia))) λ n hn=>?_⟩;obtain ⟨j,hj,rfl⟩:=fe hn;have:=h2 j (by lia);simp only [ae hj,aJ] at this;exact this
def zgG (hc:X.calm=true):CallR X (.builtin "min") (λ xs H Q=>∃ p,∃ ns:List Int,xs=[.ref p]/\SqL X.K H p (ns.map V.int)/\0 < ns.length/\∀ m,m∈ns->(∀ n∈ns,m<=n)->Q (.int m) H):=by
 intro m5 s σ H xs us Q I r h;obtain ⟨p,ns,rfl,hp,hne,q⟩:=h;obtain ⟨u,rfl,rx⟩:=xk r;cases rx;obtain ⟨ni,rv,hl,hz⟩:=I.list hp;have hl':=hl.isList;have hlt:p < s.heap.objs.size:=by obtain ⟨_,e,_⟩:=hl';exact aw e
 have hlen:ni.length=ns.length:=by have:=rv.length;rw [ai] at this;exact this.symm
 refine call_min_walk (cf hl' ?_);refine ⟨s.heap.objs.size,[s.heap.objs.size,p],[s.heap.objs.size],ni.toArray.size,_,_,_,rfl,fG (A:=X.A.in1) (I.ok.hd hc) _ p (aF hlt) ni.toArray,
  ⟨⟨_,ay _ rfl,rfl,rfl⟩,hl'.push _⟩,λ b hb=>?_,by rw [av,hlen];exact hne,CmpOf.ints_lt (λ i=>ns[i]?.getD 0) (λ i v hP=>jE rv i v (by simpa using hP)),λ v h' tk hP hk=>?_⟩
 ·simp only [az,c7,dX] at hb;simp only [bz];rcases hb with rfl|rfl
  ·exact ci _
  ·exact dN hlt
 ·obtain ⟨t,rfl⟩:=jE rv _ v (by simpa using hP);obtain ⟨h1,h2⟩:=argBest_lt (λ i=>ns[i]?.getD 0) (ni.toArray.size - 1);have hs:ni.toArray.size=ns.length:=by rw [av,hlen]
  refine ⟨.int _,H,I.kept (t':=tk) (λ b o e=>hk b o (by simpa using aF (aw e)) (ak _ e)),⟨_,rfl⟩,q _ (zeM (bj h1 (by lia))) λ n hn=>?_⟩;obtain ⟨j,hj,rfl⟩:=fe hn;have:=h2 j (by lia);simp only [ae hj,aJ] at this;exact this
end
end L2
namespace L2
open PySem PySem.Spec PyProof.Rows
variable {items:Ac}
section
variable {prog:Af} {w:World} {A:Ao} {E:A3} {s:An} {it d:Addr} {i ep:Nat} {es:Array DictEntry} {od:Obj}
end
theorem xi {α β:Type} {F:α->β->Prop}:∀ {l₁:List α} {l₂:List β},Paired F l₁ l₂->∀ {i:Nat} {x:α} {y:β},l₁[i]?=some x->l₂[i]?=some y->F x y
 | _,_,.nil,_,_,_,h,_=>nomatch h
 | _,_,.cons r t,0,_,_,h,h'=>by cases h;cases h';exact r
 | _,_,.cons r t,i + 1,_,_,h,h'=>xi t h h'
section
variable {prog:Af} {w:World}
structure KItem (prog:Af) (w:World) (κ:Type) [DecidableEq κ] (d:Nat) where
 is:Heap->κ->Value->Prop
 hash:κ->Int
 draws:κ->Nat
 inj:∀ {h:Heap} {v:Am} {x y:κ},is h x v->is h y v->x=y
 keeps:∀ {h h':Heap} {k:κ} {v:Am} {a:Addr} {o:Obj} {es:Array DictEntry} {ep:Nat},is h k v->h.get? a=some o->o.data=.dict es ep->Heap.SameBut a h h'->is h' k v
 pyHash:∀ {A:Ao} {E:A3} {s:An} {k:κ} {v:Am} {Q:Int->Shared->Prop},A.units + d < cLine->is s.heap k v->Q (hash k) { s with toks:=s.toks + draws k }->wpAny (model prog w) A (PySem.pyHash v) Q E s
 eq:∀ {A:Ao} {s:An} {x y:κ} {u v:Am},A.units + d < cLine->is s.heap x u->is s.heap y v->SeqAt.EqAt A s u v (decide (x=y))
 quiet:∀ {A:Ao} {E:A3} {s:An} {n:Nat} {k:κ} {v:Am} {Q:Bool->Shared->Prop},d<=n->is s.heap k v->Q true s->wpAny (model prog w) A (eqIsQuiet n v) Q E s
noncomputable def oiV:Option Int->V
 | none=>.non
 | some n=>.int n
def V4 (x:A9):vT (oiV x)=true:=by cases x <;> rfl
def zhE (x y:A9):eqV (oiV x) (oiV y)=decide (x=y):=by
 cases x with
 | none=>cases y <;> simp [oiV,eqV]
 | some a =>
  cases y with
  | none=>simp [oiV,eqV]
  | some b =>
   show (a == b)=decide (some a=some b)
   by_cases e:a=b <;> simp [e]
def zgj {x y:A9} {v:Am} (h1:RelV (oiV x) v) (h2:RelV (oiV y) v):x=y:=by
 cases x <;> cases y
 ·rfl
 ·cases h1;obtain ⟨t,e⟩:=h2;cases e
 ·cases h2;obtain ⟨t,e⟩:=h1;cases e
 ·obtain ⟨t,rfl⟩:=h1;obtain ⟨t,e⟩:=h2;cases e;rfl
noncomputable def ziK:Option Int->Int
 | none=>reduceHash 0xFCA86420
 | some n=>hashInt n
def V5 {x:A9} {v:Am} (h:RelV (oiV x) v):carriedByValue v=true:=by
 cases x with
 | none=>cases h;rfl
 | some n=>obtain ⟨t,rfl⟩:=h;rfl
noncomputable def qV (prog:Af) (w:World):KItem prog w A9 0 where
 is:=λ _ k v=>RelV (oiV k) v
 hash:=ziK
 draws:=λ _=>1
 inj:=zgj
 keeps:=λ h _ _ _=>h
 pyHash:=by
  intro A E s k v Q hu h q;cases k with
  | none =>
   cases h;exact gU (T:="NoneType") rfl F.slot_NoneType_hash F.entry_NoneType_hash (F.args_NoneType_hash_1 _) (beq_builtin_none _) (.inr (by lia)) (af (ao (af (wpAny_mkInt (ao ⟨_,_,rfl,q⟩)))))
  | some n =>
   obtain ⟨t,rfl⟩:=h;exact wpAny_pyHash_int q
 eq:=by
  intro A s x y u v hu h1 h2;rw [<- zhE];exact Qu h1 h2 (V4 x) (V4 y)
 quiet:=by
  intro A E s n k v Q _ h q;rw [eqIsQuiet_byValue _ (V5 h)];exact ao q
inductive HashAll (prog:Af) (w:World) (d:Nat) (hp:Heap):List Value->List (Int × Nat)->Prop
 | nil:HashAll prog w d hp [] []
 | cons {v:Am} {h:Int × Nat} {vs:A7} {hs:List (Int × Nat)}:(∀ (A:Ao) (E:A3) (s:An) (Q:Int->Shared->Prop),s.heap=hp->A.units + d < cLine->Q h.1 { s with toks:=s.toks + h.2 }->wpAny (model prog w) A (PySem.pyHash v) Q E s)->HashAll prog w d hp vs hs->HashAll prog w d hp (v :: vs) (h :: hs)
theorem X1 {d:Nat} {hp:Heap} {A:Ao} {E:A3} (hu:A.units + d < cLine):∀ {vs:A7} {hs:List (Int × Nat)} {s:An} {b:Array Int} {Q:Array Int->Shared->Prop},HashAll prog w d hp vs hs->s.heap=hp->(∀ b',b'.toList=b.toList ++ hs.map (·.1)->Q b' { s with toks:=s.toks + (hs.map (·.2)).sum }) ->
  wpAny (model prog w) A (forIn vs b λ x r=>do let h <- PySem.pyHash x;pure PUnit.unit;pure (ForInStep.yield (r.push h))) Q E s
 | _,_,s,b,Q,.nil,_,h=>ao (h b (by simp))
 | _,_,s,b,Q,.cons (h:=h0) x r,e,h=>by
  rw [gy];refine af (af (x A E s _ e hu ?_));refine af (ao (ao ?_));refine X1 hu r (by exact e) λ b' hb=>?_;have:=h b' (by simp [hb]);simpa [eX] using this
def zaq {d:Nat} {a:Addr} {hs:List (Int × Nat)} {A:Ao} {E:A3} {s:An} {Q:Int->Shared->Prop} (hT:IsTup s.heap a items) (all:HashAll prog w d s.heap items.toList hs) (hu:A.units + (d + 1) < cLine)
  (h:Q (reduceHash (Builtin.Tuple.tupleHashOf (hs.map (·.1)))) { s with toks:=s.toks + ((hs.map (·.2)).sum + 1) }):wpAny (model prog w) A (PySem.pyHash (.ref a)) Q E s:=by
 obtain ⟨o,ho,hc,n,hd⟩:=hT;refine gU (T:="tuple") ⟨_,ho,hc⟩ F.slot_tuple_hash F.entry_tuple_hash (F.args_tuple_hash_1 _) (beq_builtin_none _) (.inr (by lia)) ?_;show wpAny _ _ (Builtin.Tuple.tupleItemsOf (.ref a) >>= _) _ _ s
 refine af (wpAny_tupleItemsOf ho hd ?_);refine af ?_;rw [<- dH];refine X1 (d:=d) (by simp only [eK];lia) all rfl λ b hb=>?_;show wpAny _ _ (retInt (Builtin.Tuple.tupleHashOf b.toList)) _ _ _
 rw [hb];exact af (wpAny_mkInt (ao ⟨_,_,rfl,by simpa [eX] using h⟩))
def Ql {d:Nat} {a:Addr} {A:Ao} {E:A3} {s:An} {Q:Bool->Shared->Prop} {n:Nat} (hT:IsTup s.heap a items) (all:∀ v∈items.toList,∀ (A:Ao) (E:A3) (Q:Bool->Shared->Prop),Q true s->wpAny (model prog w) A (eqIsQuiet n v) Q E s) (h:Q true s):wpAny (model prog w) A (eqIsQuiet (n + 1) (.ref a)) Q E s:=by
 obtain ⟨o,ho,hc,m,hd⟩:=hT;have hT:s.TypeIs (.ref a) "tuple":=⟨o,ho,hc⟩;unfold eqIsQuiet;refine af (gc hT F.slot_tuple_eq.lookup ?_);show wpAny _ _ (isInstance (.ref a) (.type "tuple") >>= _) _ _ s
 refine af (fT hT isSubtype_tuple_tuple ?_);simp only [cP,aR,bO];refine af (bF ho hd ?_);refine af ?_;show wpAny _ _ (forIn items _ _) _ _ s
 rw [<- dH];refine eE _ (λ rest r s'=>r.1=none/\s'=s/\∀ v∈rest,v∈items.toList) _ ?_ ?_ _ _ ⟨rfl,rfl,λ v hv=>hv⟩
 ·rintro v rest r s' ⟨hr,rfl,hall⟩;refine af (all v (hall v bh) _ _ _ ?_);simp only [cP,aR,bO];exact ao ⟨rfl,rfl,λ u hu'=>hall u (aA _ hu')⟩
 ·rintro ⟨r1,r2⟩ s' ⟨hr,rfl,_⟩;simp only at hr;subst hr;exact ao h
def J3 {h h':Heap} {b a:Addr} {o:Obj} {es:Array DictEntry} {ep:Nat} (x:IsTup h b items) (ho:h.get? a=some o) (hd:o.data=.dict es ep) (hs:Heap.SameBut a h h'):IsTup h' b items:=by
 obtain ⟨o',h1,h2,n,h3⟩:=x;have ne:b≠a:=λ z=>by
  subst z;rw [ho] at h1;cases h1;rw [hd] at h3;cases h3
 exact ⟨o',(hs.2 b ne).trans h1,h2,n,h3⟩
def vM {h:Heap} {b:Addr} {xs ys:Ac} (x:IsTup h b xs) (y:IsTup h b ys):xs=ys:=by
 obtain ⟨o,h1,_,n,h3⟩:=x;obtain ⟨o',g1,_,m,g3⟩:=y;rw [h1] at g1;cases g1;rw [h3] at g3;injection g3
def zif {κ:Type} [DecidableEq κ] {xs ys:List κ}:((List.range (min xs.length ys.length)).all (λ j=>decide (xs[j]?=ys[j]?)) && xs.length == ys.length)=decide (xs=ys):=by
 by_cases e:xs=ys
 ·subst e;simp
 ·rw [aY e];by_cases hl:xs.length=ys.length
  ·have:¬ (List.range (min xs.length ys.length)).all (λ j=>decide (xs[j]?=ys[j]?))=true:=λ z=>e (List.ext_getElem? λ j=>by
    rw [aS] at z;by_cases hj:j < xs.length
    ·exact bp (z j (be.mpr (by lia)))
    ·rw [cQ (by lia),cQ (by lia)])
   simp only [Bool.not_eq_true] at this;rw [this]
   rfl
  ·have:(xs.length == ys.length)=false:=aX.mpr hl;rw [this,cj]
section
variable {κ:Type} [DecidableEq κ] {d:Nat}
theorem Zk {F:κ->Value->Prop} (f:∀ (x y:κ) (v:Am),F x v->F y v->x=y):∀ {xs ys:List κ} {vs:A7},Paired F xs vs->Paired F ys vs->xs=ys
 | _,_,_,.nil,h=>by cases h;rfl
 | _,_,_,.cons a t,h=>by
  cases h with
  | cons b u=>rw [f _ _ _ a b,Zk f t u]
def zah {n d e c:Nat} (l:d<=e) (h:n + e < c):n + d < c:=bj (gX l n) h
def ziJ {A:Ao} {e c:Nat} (h:A.units + (e + 1) < c):A.in1.units + e < c:=by
 simp only [eK]
 lia
def zd5 {n d:Nat} (h:d + 1<=n):∃ m,n=m + 1/\d<=m:=⟨n - 1,by lia,by lia⟩
noncomputable def xB (I:KItem prog w κ d):KItem prog w (List κ) (d + 1) where
 is:=λ h ks v=>∃ a items,v=.ref a/\IsTup h a items/\Paired (I.is h) ks items.toList
 hash:=λ ks=>reduceHash (Builtin.Tuple.tupleHashOf (ks.map I.hash))
 draws:=λ ks=>(ks.map I.draws).sum + 1
 inj:=by
  rintro h v x y ⟨a,items,rfl,h1,h2⟩ ⟨b,items',e,g1,g2⟩;cases e;have:=vM h1 g1;subst this;exact Zk (F:=I.is h) (λ _ _ _ p q=>I.inj p q) h2 g2
 keeps:=by
  rintro h h' k v a o es ep ⟨b,items,rfl,h1,h2⟩ ho hd hs;exact ⟨b,items,rfl,J3 h1 ho hd hs,Paired.mapP h2 λ p q z=>I.keeps z ho hd hs⟩
 pyHash:=by
  rintro A E s k v Q hu ⟨b,items,rfl,h1,h2⟩ q;have all:∀ {ks:List κ} {vs:A7},Paired (I.is s.heap) ks vs->HashAll prog w d s.heap vs (ks.map λ k=>(I.hash k,I.draws k)):=by
   intro ks vs p
   induction p with
   | nil=>exact .nil
   | cons z _ ih=>exact .cons (λ A E s' Q e hu q=>I.pyHash hu (by rw [e];exact z) q) ih
  refine zaq h1 (all h2) hu ?_;rw [cY,cY];exact q
 eq:=by
  rintro A s x y u v hu ⟨a,xs,rfl,h1,h2⟩ ⟨b,ys,rfl,g1,g2⟩;by_cases e:a=b
  ·subst e;have:=vM h1 g1;subst this;rw [Zk (F:=I.is s.heap) (λ _ _ _ p q=>I.inj p q) h2 g2,bu rfl];exact eV _
  ·refine c9 e ?_;have l1:x.length=xs.size:=by rw [cD h2,aM]
   have l2:y.length=ys.size:=by rw [cD g2,aM]
   have:=dh (A:=A) (s:=s) (e:=λ j=>decide (x[j]?=y[j]?)) h1 g1 (by lia) (λ j hj1 hj2=>by
    obtain ⟨k1,e1⟩:∃ k,x[j]?=some k:=⟨x[j]'(by lia),ae _⟩;obtain ⟨k2,e2⟩:∃ k,y[j]?=some k:=⟨y[j]'(by lia),ae _⟩;have p1:=xi h2 e1 (show xs.toList[j]?=some xs[j] by rw [cu,bE hj1]);have p2:=xi g2 e2 (show ys.toList[j]?=some ys[j] by rw [cu,bE hj2]);rw [e1,e2,show decide (some k1=some k2)=decide (k1=k2) by simp];exact I.eq (ziJ hu) p1 p2)
   rw [<- l1,<- l2,zif] at this;exact this
 quiet:=by
  rintro A E s n k v Q hn ⟨b,items,rfl,h1,h2⟩ q;obtain ⟨m,rfl,hm⟩:=zd5 hn;refine Ql (d:=d) h1 (λ v hv A E Q q=>?_) q;obtain ⟨j,hj⟩:=gA.mp hv;have hl:=(aa.mp hj).1;obtain ⟨k1,e1⟩:∃ x,k[j]?=some x:=⟨k[j]'(by rw [cD h2];exact hl),ae _⟩;exact I.quiet hm (xi h2 e1 hj) q
end
section
variable {κ1 κ2 κ3 κ4:Type} [DecidableEq κ1] [DecidableEq κ2] [DecidableEq κ3] [DecidableEq κ4] {d1 d2 d3 d4:Nat}
inductive QIs (I1:KItem prog w κ1 d1) (I2:KItem prog w κ2 d2) (I3:KItem prog w κ3 d3) (I4:KItem prog w κ4 d4) (h:Heap) (k:κ1 × κ2 × κ3 × κ4) (v:Am):Prop
 | i (a:Addr) (u1 u2 u3 u4:Am):v=.ref a->IsTup h a #[u1,u2,u3,u4]->I1.is h k.1 u1->I2.is h k.2.1 u2->I3.is h k.2.2.1 u3->I4.is h k.2.2.2 u4->QIs I1 I2 I3 I4 h k v
noncomputable def zeu (I1:KItem prog w κ1 d1) (I2:KItem prog w κ2 d2) (I3:KItem prog w κ3 d3) (I4:KItem prog w κ4 d4) (d:Nat) (l1:d1<=d) (l2:d2<=d) (l3:d3<=d) (l4:d4<=d):KItem prog w (κ1 × κ2 × κ3 × κ4) (d + 1) where
 is:=QIs I1 I2 I3 I4
 hash:=λ k=>reduceHash (Builtin.Tuple.tupleHashOf [I1.hash k.1,I2.hash k.2.1,I3.hash k.2.2.1,I4.hash k.2.2.2])
 draws:=λ k=>[I1.draws k.1,I2.draws k.2.1,I3.draws k.2.2.1,I4.draws k.2.2.2].sum + 1
 inj:=by
  rintro h v ⟨x1,x2,x3,x4⟩ ⟨y1,y2,y3,y4⟩ ⟨a,u1,u2,u3,u4,rfl,h1,i1,i2,i3,i4⟩ ⟨b,v1,v2,v3,v4,e,g1,j1,j2,j3,j4⟩;cases e;have:=vM h1 g1;cases this;simp only at i1 i2 i3 i4 j1 j2 j3 j4;rw [I1.inj i1 j1,I2.inj i2 j2,I3.inj i3 j3,I4.inj i4 j4]
 keeps:=by
  rintro h h' k v a o es ep ⟨b,u1,u2,u3,u4,rfl,h1,i1,i2,i3,i4⟩ ho hd hs;exact ⟨b,u1,u2,u3,u4,rfl,J3 h1 ho hd hs,I1.keeps i1 ho hd hs,I2.keeps i2 ho hd hs,I3.keeps i3 ho hd hs,I4.keeps i4 ho hd hs⟩
 pyHash:=by
  rintro A E s k v Q hu ⟨b,u1,u2,u3,u4,rfl,h1,i1,i2,i3,i4⟩ q;refine zaq (d:=d) (hs:=[(I1.hash k.1,I1.draws k.1),(I2.hash k.2.1,I2.draws k.2.1),(I3.hash k.2.2.1,I3.draws k.2.2.1),(I4.hash k.2.2.2,I4.draws k.2.2.2)]) h1 ?_ hu q;exact .cons (λ A E s' Q e hu q=>I1.pyHash (zah l1 hu) (by rw [e];exact i1) q) (.cons (λ A E s' Q e hu q=>I2.pyHash (zah l2 hu) (by rw [e];exact i2) q) (.cons (λ A E s' Q e hu q=>I3.pyHash (zah l3 hu) (by rw [e];exact i3) q) (.cons (λ A E s' Q e hu q=>I4.pyHash (zah l4 hu) (by rw [e];exact i4) q) .nil)))
 eq:=by
  rintro A s ⟨x1,x2,x3,x4⟩ ⟨y1,y2,y3,y4⟩ u v hu ⟨a,u1,u2,u3,u4,rfl,h1,i1,i2,i3,i4⟩ ⟨b,v1,v2,v3,v4,rfl,g1,j1,j2,j3,j4⟩;simp only at i1 i2 i3 i4 j1 j2 j3 j4;by_cases e:a=b
  ·subst e;have:=vM h1 g1;cases this;rw [I1.inj i1 j1,I2.inj i2 j2,I3.inj i3 j3,I4.inj i4 j4,bu rfl];exact eV _
  ·refine c9 e ?_;have hu':=ziJ hu;have:=dh (A:=A) (s:=s) (e:=λ j=>[decide (x1=y1),decide (x2=y2),decide (x3=y3),decide (x4=y4)].getD j true) h1 g1 (by lia) (λ j hj1 hj2=>by
    match j,hj1,hj2 with
    | 0,_,_=>exact I1.eq (zah l1 hu') i1 j1
    | 1,_,_=>exact I2.eq (zah l2 hu') i2 j2
    | 2,_,_=>exact I3.eq (zah l3 hu') i3 j3
    | 3,_,_=>exact I4.eq (zah l4 hu') i4 j4)
   have z:((List.range (min (#[u1,u2,u3,u4]:Ac).size (#[v1,v2,v3,v4]:Ac).size)).all (λ j=>[decide (x1=y1),decide (x2=y2),decide (x3=y3),decide (x4=y4)].getD j true) && (#[u1,u2,u3,u4]:Ac).size == (#[v1,v2,v3,v4]:Ac).size)=decide ((x1,x2,x3,x4)=(y1,y2,y3,y4)):=by
    show ((List.range 4).all _ && true)=_
    rw [show List.range 4=[0,1,2,3] from rfl];simp only [List.all_cons,List.all_nil,fY,List.getD_cons_zero,List.getD_cons_succ,Prod.mk.injEq,Bool.decide_and]
   rw [z] at this;exact this
 quiet:=by
  rintro A E s n k v Q hn ⟨b,u1,u2,u3,u4,rfl,h1,i1,i2,i3,i4⟩ q;obtain ⟨m,rfl,hm⟩:=zd5 hn;refine Ql (d:=d) h1 (λ v hv A E Q q=>?_) q;have hv:v=u1\/v=u2\/v=u3\/v=u4:=by simpa using hv
  rcases hv with rfl|rfl|rfl|rfl
  ·exact I1.quiet (bd l1 hm) i1 q
  ·exact I2.quiet (bd l2 hm) i2 q
  ·exact I3.quiet (bd l3 hm) i3 q
  ·exact I4.quiet (bd l4 hm) i4 q
end
abbrev ShK:=Option Int × List (List A9) × List A9 × List A9
noncomputable def jp (prog:Af) (w:World):KItem prog w ShK 3:=zeu (qV prog w) (xB (xB (qV prog w))) (xB (qV prog w)) (xB (qV prog w)) 2 (by decide) (by decide) (by decide) (by decide)
noncomputable def xZ (prog:Af) (w:World):HeapKind prog w ShK where
 is:=λ h k a=>(jp prog w).is h k (.ref a)
 hash:=(jp prog w).hash
 draws:=(jp prog w).draws
 room:=λ A=>A.units + 3 < cLine
 inj:=λ hx hy=>(jp prog w).inj hx hy
 keeps:=λ x ho hd hs=>(jp prog w).keeps x ho hd hs
 pyHash:=λ hu hk h=>(jp prog w).pyHash hu hk h
 eqBool:=λ hu hx hy h=>(jp prog w).eq hu hx hy prog w _ _ h
 quiet:=λ hk h=>(jp prog w).quiet (by decide) hk h
end
noncomputable def oiD:Option Int->D
 | none=>.non
 | some n=>.int n
noncomputable def shD (k:ShK):D:=.tup [oiD k.1,.tup (k.2.1.map λ r=>.tup (r.map oiD)),.tup (k.2.2.1.map oiD),.tup (k.2.2.2.map oiD)]
theorem XQ {α β:Type} {F:α->β->Prop}:∀ {xs:List α} {ys:List β},xs.length=ys.length->(∀ (i:Nat) x y,xs[i]?=some x->ys[i]?=some y->F x y)->Paired F xs ys
 | [],[],_,_=>.nil
 | [],_ :: _,h,_=>by simp at h
 | _ :: _,[],h,_=>by simp at h
 | x :: xs,y :: ys,h,f=>.cons (f 0 x y rfl rfl) (XQ (by simpa using h) λ i a b e1 e2=>f (i + 1) a b e1 e2)
section
variable {P:Af} {w:World} {H:Hp} {h:Heap} {p:A5}
def vx {x:A9} {v:V} {u:Am} (r:Rep H p v (oiD x)) (e:RelV v u):(qV P w).is h x u:=by
 cases x with
 | none =>
  have r:Rep H p v .non:=r;cases r;exact e
 | some n =>
  have r:Rep H p v (.int n):=r;cases r;exact e
def Zw {κ:Type} [DecidableEq κ] {d:Nat} (ok:HOk P w H h) {I:KItem P w κ d} {f:κ->D} (hI:∀ x v u,Rep H p v (f x)->RelV v u->I.is h x u) {xs:List κ} {v:V} {u:Am} (r:Rep H p v (.tup (xs.map f))) (e:RelV v u):(xB I).is h xs u:=by
 obtain ⟨t,us,rfl,_,ht,rr⟩:=Rep.tup' r;obtain ⟨_,ni,vals,isT⟩:=(show ObjOk P w H h t (.tup us) from ok t _ ht);refine ⟨t,ni.toArray,e,isT,XQ ?_ λ i x y e1 e2=>?_⟩
 ·rw [gY,<- vals.length,rr.len,ai]
 ·rw [gY] at e2;obtain ⟨v',hv',rv⟩:=rr.of (i:=i) (d:=f x) (by rw [am,e1];rfl);exact hI x v' y rv (xi vals hv' e2)
theorem zav {α:Type} {n:Nat}:∀ {us:List α},us.length=n + 1->∃ v w,us=v :: w/\w.length=n
 | v :: w,h=>⟨v,w,rfl,by simpa using h⟩
def zb6 {v:V} {vs:Ap} {us:A7} (h:Vals (v :: vs) us):∃ u ws,us=u :: ws/\RelV v u/\Vals vs ws:=by
 cases h with
 | cons a b=>exact ⟨_,_,rfl,a,b⟩
def vE (ok:HOk P w H h) {k:ShK} {b:Addr} (r:Rep H p (.ref b) (shD k)):(xZ P w).is h k b:=by
 obtain ⟨t,us,e,_,ht,rr⟩:=Rep.tup' r;cases e;obtain ⟨_,ni,vals,isT⟩:=(show ObjOk P w H h b (.tup us) from ok b _ ht);have g:=rr.g;obtain ⟨v1,w1,rfl,l1⟩:=zav rr.len;obtain ⟨v2,w2,rfl,l2⟩:=zav l1;obtain ⟨v3,w3,rfl,l3⟩:=zav l2;obtain ⟨v4,w4,rfl,l4⟩:=zav l3;cases cX.mp l4;obtain ⟨u1,z1,rfl,q1,vals⟩:=zb6 vals;obtain ⟨u2,z2,rfl,q2,vals⟩:=zb6 vals;obtain ⟨u3,z3,rfl,q3,vals⟩:=zb6 vals;obtain ⟨u4,z4,rfl,q4,vals⟩:=zb6 vals;cases vals;have k1:=vx (P:=P) (w:=w) (h:=h) (g 0 v1 _ rfl rfl) q1;have k2:=Zw ok (I:=xB (qV P w)) (λ x v u r e=>Zw ok (I:=qV P w) (λ x v u r e=>vx r e) r e) (g 1 v2 _ rfl rfl) q2;have k3:=Zw ok (I:=qV P w) (λ x v u r e=>vx r e) (g 2 v3 _ rfl rfl) q3;have k4:=Zw ok (I:=qV P w) (λ x v u r e=>vx r e) (g 3 v4 _ rfl rfl) q4;exact ⟨b,u1,u2,u3,u4,rfl,isT,k1,k2,k3,k4⟩
end
noncomputable def toV (x:ShK × Addr × Addr):ShK × Addr × Value:=(x.1,x.2.1,.ref x.2.2)
noncomputable def sdO (P:Af) (w:World) (D:Addr) (xs:List (ShK × Addr × Addr)):HO:=.ext λ h=>((D == sysModules)=false/\xs.length<=sizeLine/\(xs.map (·.1)).Nodup)/\∃ o es ep,h.get? D=some o/\o.ExactDict/\o.data=.dict es ep/\es.toList=(xs.map toV).map (entryOfKey (xZ P w))
def keysOk (H:Hp) (xs:List (ShK × Addr × Addr)):Prop:=∀ x∈xs,∃ p:Addr->Prop,Rep H p (.ref x.2.1) (shD x.1)
noncomputable def xM (xs:List (ShK × Addr × Addr)) (k:ShK):Option Addr:=(xs.find? λ x=>decide (x.1=k)).map (·.2.2)
theorem ZN (k:ShK):∀ xs:List (ShK × Addr × Addr),(atKey (xs.map toV) k).map (·.2)=(xM xs k).map Value.ref
 | []=>rfl
 | x :: xs=>by
  have ih:=ZN k xs;unfold atKey xM at ih ⊢;rw [br,dq,dq];show Option.map _ (Option.map _ (match decide (x.1=k) with|true=>some (toV x)|false=>_))=_
  by_cases e:x.1=k
  ·rw [bu e];rfl
  ·rw [aY e];exact ih
def keysOk.same {H H':Hp} {xs:List (ShK × Addr × Addr)} (h:keysOk H xs) (s:∀ b ys,H b=some (.tup ys)->H' b=some (.tup ys)) (t:∀ x∈xs,∃ p:Addr->Prop,Rep H p (.ref x.2.1) (shD x.1)/\∀ b o,p b->H b=some o->H' b=some o):keysOk H' xs:=λ x hx=>by
 obtain ⟨p,r,k⟩:=t x hx;exact ⟨p,r.keep λ b o pb hb=>⟨pb,k b o pb hb⟩⟩
def zb0 {P:Af} {w:World} {H:Hp} {h:Heap} {D:Addr} {xs:List (ShK × Addr × Addr)} (ok:HOk P w H h) (e:H D=some (sdO P w D xs)) (ks:keysOk H xs):(D == sysModules)=false/\xs.length<=sizeLine/\(xs.map (·.1)).Nodup/\h.DictOfH (xZ P w) D (xs.map toV):=by
 obtain ⟨⟨⟨h1,h2,h3⟩,o,es,ep,g1,g2,g3,g4⟩,_,_⟩:=(show ObjOk P w H h D (sdO P w D xs) from ok D _ e);refine ⟨h1,h2,h3,o,es,ep,g1,g2,g3,g4,λ x hx=>?_,by rw [cY];exact h3⟩;obtain ⟨y,hy,rfl⟩:=aN.mp hx;obtain ⟨p,r⟩:=ks y hy;exact vE ok r
def zg0 {P:Af} {w:World} {H:Hp} {h:Heap} {D:Addr} {xs:List (ShK × Addr × Addr)} (h1:(D == sysModules)=false) (h2:xs.length<=sizeLine) (h3:(xs.map (·.1)).Nodup) (g:∃ o es ep,h.get? D=some o/\o.ExactDict/\o.data=.dict es ep/\es.toList=(xs.map toV).map (entryOfKey (xZ P w))):ObjOk P w H h D (sdO P w D xs):=by
 refine ⟨⟨⟨h1,h2,h3⟩,g⟩,?_,?_⟩
 ·obtain ⟨o,_,_,g1,_⟩:=g;exact ⟨o,g1⟩
 ·rintro k1 k2 ⟨a,o,es,ep,g1,g2⟩ k;exact ⟨a,o,es,ep,k o g1,g2⟩
section
variable {X:Cx} {m5:A2} {σ:St} {H:Hp} {s:An} {D b y:Addr} {A:Ao} {E:A3} {xs:List (ShK × Addr × Addr)} {k:ShK} {p:A5}
def Za (hu:A.units + 100 < cLine):(xZ X.prog X.w).room A.in1:=by
 show A.in1.units + 3 < cLine
 simp only [eK]
 lia
def zjc {Q:A3} (hu:A.units + 100 < cLine) (I:Inv X m5 σ H s) (e:H D=some (sdO X.prog X.w D xs)) (ks:keysOk H xs) (r:Rep H p (.ref b) (shD k)) (h:∀ s',Inv X m5 σ H s'->Q (.bool (xM xs k).isSome) s'):wpAny (model X.prog X.w) A (compareOp .In (.ref b) (.ref D)) Q E s:=by
 obtain ⟨h1,h2,h3,dd⟩:=zb0 I.hok e ks;refine wpAny_in_heap (Za hu) (vE I.hok r) h1 dd ?_;have q:=bP Option.isSome (ZN k xs);rw [cy,cy] at q;rw [q];exact h _ (I.tok _)
def ziu {Q:A3} (hu:A.units + 100 < cLine) (I:Inv X m5 σ H s) (e:H D=some (sdO X.prog X.w D xs)) (ks:keysOk H xs) (r:Rep H p (.ref b) (shD k)) (l:xM xs k=some y) (h:∀ s',Inv X m5 σ H s'->Q (.ref y) s'):wpAny (model X.prog X.w) A (getItem (.ref D) (.ref b)) Q E s:=by
 obtain ⟨h1,h2,h3,dd⟩:=zb0 I.hok e ks;have q:=ZN k xs;rw [l] at q;obtain ⟨z,hz,e2⟩:=ar.mp q;refine wpAny_getItem_heap (Za hu) (vE I.hok r) dd hz ?_;rw [e2];exact h _ (I.tok _)
def zit {Q:Ag} (hu:A.units + 100 < cLine) (I:Inv X m5 σ H s) (e:H D=some (sdO X.prog X.w D xs)) (ks:keysOk H xs) (r:Rep H p (.ref b) (shD k)) (l:xM xs k=none) (hl:xs.length < sizeLine) (h:∀ s',Inv X m5 σ (upd H D (sdO X.prog X.w D (xs ++ [(k,b,y)]))) s'->Q () s'):wpAny (model X.prog X.w) A (setItem (.ref D) (.ref b) (.ref y)) Q E s:=by
 obtain ⟨h1,h2,h3,dd⟩:=zb0 I.hok e ks;have q:=ZN k xs;rw [l] at q;have q:atKey (xs.map toV) k=none:=by simpa using q
 refine wpAny_setItem_heap (hsz:=by rw [ai];exact h2) (Za hu) (vE I.hok r) dd λ h' dd' hs=>h _ ?_;rw [storedH_new q] at dd';obtain ⟨o,es,ep,g1,g2,g3,g4,_,g5⟩:=dd';refine W9 I (by rw [e];exact True.intro) hs ⟨o,g1⟩ (zg0 h1 (by simp;lia) ?_ ⟨o,es,ep,g1,g2,g3,?_⟩)
 ·have:(xs ++ [(k,b,y)]).map (·.1)=((xs.map toV ++ [(k,b,Value.ref y)]).map (·.1)):=by simp [toV]
  rw [this];exact g5
 ·rw [g4];simp [toV]
end
def tSIn (P:Af) (w:World) (ty td:TE):TE:=λ σ H Q=>ty σ H λ y H1=>td σ H1 λ x H2=>∃ D b xs k p,x=.ref D/\y=.ref b/\H2 D=some (sdO P w D xs)/\keysOk H2 xs/\Rep H2 p (.ref b) (shD k)/\Q (.bl (xM xs k).isSome) H2
def tSGet (P:Af) (w:World) (td ty:TE):TE:=λ σ H Q=>td σ H λ x H1=>ty σ H1 λ y H2=>∃ D b xs k p z,x=.ref D/\y=.ref b/\H2 D=some (sdO P w D xs)/\keysOk H2 xs/\Rep H2 p (.ref b) (shD k)/\xM xs k=some z/\Q (.ref z) H2
def sSPut (P:Af) (w:World) (td ty tv:TE):TS:=λ N σ H=>tv σ H λ v H1=>td σ H1 λ x H2=>ty σ H2 λ y H3=>∃ D b xs k p z,x=.ref D/\y=.ref b/\v=.ref z/\H3 D=some (sdO P w D xs)/\keysOk H3 xs/\Rep H3 p (.ref b) (shD k)/\xM xs k=none/\xs.length < sizeLine/\N.nx σ (upd H3 D (sdO P w D (xs ++ [(k,b,z)])))
def tSNew (P:Af) (w:World):TE:=λ _ H Q=>∀ p,H p=none->Q (.ref p) (upd H p (sdO P w p []))
section
variable {X:Cx} {o i value:Expr} {pos pos':Pos} {td ty tv:TE}
def zhy (hu:X.A.units + 100 < cLine) (hi:PE X i ty) (ho:PE X o td):PC X .In i o (tSIn X.prog X.w ty td):=by
 intro m5 s σ H Q I h;refine qy (hi m5 s σ H _ I h) λ iv s1 y H1 I1 ry q1=>qy (ho m5 s1 σ H1 _ I1 q1) λ u s2 x H2 I2 rx qq_=>?_;obtain ⟨D,b,xs,k,p,ex,ey,e,ks,r,q2⟩:=qq_;subst ex ey;obtain rfl:u=Value.ref D:=rx;obtain rfl:iv=Value.ref b:=ry;exact zjc hu I2 e ks r λ s3 I3=>⟨.bl _,H2,I3,rfl,q2⟩
def zge (hu:X.A.units + 100 < cLine) (ho:PE X o td) (hi:PE X i ty) (hs:zik i):PE X (.Subscript o i pos) (tSGet X.prog X.w td ty):=by
 intro m5 s σ H Q I h;refine zbX fQ.lookup hs (qy (ho m5 s σ H _ I h) λ u s1 x H1 I1 rx q1=>qy (hi m5 s1 σ H1 _ I1 q1) λ iv s2 y H2 I2 ry qq_=>?_);obtain ⟨D,b,xs,k,p,z,ex,ey,e,ks,r,l,q2⟩:=qq_;subst ex ey;obtain rfl:u=Value.ref D:=rx;obtain rfl:iv=Value.ref b:=ry;exact ⟨(zb0 I2.hok e ks).2.2.2.typeIs,ziu hu I2 e ks r l λ s3 I3=>⟨.ref z,H2,I3,rfl,q2⟩⟩
def zga (hu:X.A.units + 100 < cLine) (ho:PE X o td) (hi:PE X i ty) (hv:PE X value tv) (hs:swapsWith value (some (.Subscript o i pos')) pos.line X.env=pure false) :
  PS X (.Assign [.Subscript o i pos'] value pos) (sSPut X.prog X.w td ty tv):=by
 intro m5 s σ H N I h;refine wpAny_Assign_Subscript (qy (hv m5 s σ H _ I h) λ r s1 v H1 I1 rv q1=>qy (ho m5 s1 σ H1 _ I1 q1) λ u s2 x H2 I2 rx q2=>qy (hi m5 s2 σ H2 _ I2 q2) λ iv s3 y H3 I3 ry qq_=>?_) hs;obtain ⟨D,b,xs,k,p,z,ex,ey,ez,e,ks,r',l,hl,q3⟩:=qq_;subst ex ey ez;obtain rfl:u=Value.ref D:=rx;obtain rfl:iv=Value.ref b:=ry;obtain rfl:r=Value.ref z:=rv;exact zit hu I3 e ks r' l hl λ s4 I4=>⟨σ,_,I4,q3⟩
def zgd:PE X (.Dict [] [] pos) (tSNew X.prog X.w):=λ m5 s σ H Q I h =>
 wpAny_Dict_empty ⟨.ref s.heap.objs.size,_,I.laid (a:=s.heap.objs.size) (o:=sdO X.prog X.w s.heap.objs.size []) (t':=s.toks) (λ _ _ q=>ak _ q) (au _) (zg0 (aX.mpr (ba (aF I.big))) (b7 _) nodup_nil ⟨_,#[],0,ay _ rfl,⟨rfl,rfl,rfl⟩,rfl,rfl⟩),rfl,h _ (I.hok.fresh (au _))⟩
end
section
variable {X:Cx} {G:GK} {x:Str} {np pos hpos:Pos} {body su:List Stmt} {b₀:Stmt} {tb:List (Addr × Obj)->GK->TS} {th:List (Addr × Obj)->Addr->TS}
end
def Z1 {X:Cx}:CallR X (.type "tuple") (λ xs H Q=>∃ p ys,xs=[.ref p]/\((SqL X.K H p ys/\∀ l,H l=none->Q (.ref l) (upd H l (.tup ys)))\/(SqT X.K H p ys/\Q (.ref p) H))):=Xz
end L2
namespace L2
open PySem PySem.Spec PySem.Calls PyProof.Rows
section
variable {X:Cx}
def zh8:bootBuiltins "set"=some (.type "set"):=by decide +kernel
end
def Jf (a:Am):checkTypeCall "set" ⟨[a],[]⟩=pure ():=by kernel_rfl
def Xx (a:Am):checkBuiltinCall "set.__new__" ⟨[.type "set",a],[]⟩=pure ():=by kernel_rfl
def vy:entryFor table "set.update.loop"=some Builtin.«set.update.loop»:=entryFor_of_tree (by kernel_rfl)
def xu:plainId "set.update.loop"=true:=by decide +kernel
section
variable {prog:Af} {w:World} {A:Ao} {E:A3} {s:An}
def Xy (a:Am) {Q₁:A3}
  (h:∀ led:Bool,Q₁ (.ref s.heap.objs.size) { s with heap:=s.heap.push { cls:=.type "set",dict:=none,data:=.set #[] 0 (.fresh 0 0 led) } }) :
  codeAny (model prog w) A (.call (.builtin "set.__new__") ⟨[.type "set",a],[]⟩) (wants Q₁ E) s:=by
 refine codeAny_of_tree ?_;show wpAny _ A.in1 (do checkBuiltinCall "set.__new__" ⟨[.type "set",a],[]⟩;again (.builtin "set.__new__" ⟨[.type "set",a],[]⟩)) _ _ s
 refine af (wpAny_of_eq (Xx a) (ao ⟨plainId_quiet F.plain_set_new _,eU F.entry_set_new ?_⟩));rw [fv F.plain_set_new _];unfold Builtin.«set.__new__» Builtin.Frozenset.newClass;have hsub:=sub_set_self;obtain ⟨hp,g,d,tk,os⟩:=s;dsimp only
 wp_walk
 refine wpAny_askSetting (ao ?_);dsimp only;simp only [newObj];refine af (wpAny_alloc (ao ?_));exact ao (h _)
variable {R:Result->Shared->Prop} {I:Addr} {fp wr:Ab} {n:Nat} {P:Nat->Value->Prop} {St:Nat->Heap->Prop}
end
section
variable {prog:Af} {w:World} {A:Ao} {E:A3} {s:An}
def QY {M:Model} {self x:Am} {Q:Ag} (hT:s.TypeIs self "set") (hQ:Q () s):wpAny M A (checkBuiltinCall "set.__init__" ⟨[self,x],[]⟩) Q E s:=by
 simp only [checkBuiltinCall,kind_set_init,split_set_init,sig_set_init];refine af (fT hT sub_set_self ?_);simp only [cP,aR,bO];unfold Bind.checkArgs;dsimp only;refine af (m:=Bind.printed "set" true _ _) (PyProof.Rows.printed_name (by decide) ?_);refine af (m:=Bind.printed "*" false _ _) (PyProof.Rows.printed_star (self:=self) rfl hT λ short=>?_);have hrn:(Manifest.Receiver.self == Manifest.Receiver.none)=false:=by decide
 have hn:(if (Manifest.Receiver.self == Manifest.Receiver.none)=true then [self,x].length else [self,x].length - 1)=1:=by simp [hrn]
 rw [hn];simp only [fK];have hc:Bind.check ⟨.positional,"set","*",.self,[⟨"iterable",.posOnly,false⟩]⟩ "set" short 1 []=pure ():=by
  simp +decide [Bind.check,Bind.checkCount,Bind.isPositional]
 rw [hc];exact ao hQ
set_option maxHeartbeats 1000000 in
theorem zbN {x:Am} {Q:A3}
  (h:∀ (led:Bool) (s₁:An),s₁={ s with heap:=s.heap.push { cls:=.type "set",dict:=none,data:=.set #[] 0 (.fresh 0 0 led) } }->wpAny (model prog w) A.in1.in1 (Builtin.«set.__init__» ⟨[.ref s.heap.objs.size,x],[]⟩) (λ fin s'=>match fin with | .done f=>wants (λ r s₂=>r=.none/\Q (.ref s.heap.objs.size) s₂) E (.ok f) s' | .again c'=>c'.quiet=true/\codeAny (model prog w) A.in1 c' (wants (λ r s₂=>r=.none/\Q (.ref s.heap.objs.size) s₂) E) s') (λ e s'=>wants (λ r s₂=>r=.none/\Q (.ref s.heap.objs.size) s₂) E (.error e) s') s₁) :
  wpAny (model prog w) A (call (.type "set") [x]) Q E s:=by
 obtain ⟨c,tl,hmro⟩:=cW.mro;have hmade:=cW.made;have hsub:=cW.sub;refine fE (codeAny_of_tree ?_);show wpAny _ _ (callAny (.type "set") _) _ _ _
 refine ao ⟨Code.quiet_builtin _ (by decide +kernel),eU F.entry_type_call ?_⟩;rw [Around.under_plain (weight_type_call_type "set" [x] []) rfl];have h1:=cW.notType;have h2:=cW.canCreate;have hct:=Jf x
 repeat (any_goals (first|assumption|wp_step))
 refine cU (Xy x (E:=E) (Q₁:=λ obj s₁=>∃ led:Bool,obj=.ref s.heap.objs.size/\s₁={ s with heap:=s.heap.push { cls:=.type "set",dict:=none,data:=.set #[] 0 (.fresh 0 0 led) } }) λ led=>⟨led,rfl,rfl⟩) λ r s₁ hr=>?_;cases r with
 | error e=>exact hr
 | ok fl =>
  cases fl with
  | ret obj =>
   obtain ⟨led,rfl,rfl⟩:=hr;have hS:(s.heap.push { cls:=.type "set",dict:=none,data:=.set #[] 0 (.fresh 0 0 led) }).get? s.heap.objs.size=some { cls:=.type "set",dict:=none,data:=.set #[] 0 (.fresh 0 0 led) }:=ay _ rfl;have hT:Shared.TypeIs { s with heap:=s.heap.push { cls:=.type "set",dict:=none,data:=.set #[] 0 (.fresh 0 0 led) } } (.ref s.heap.objs.size) "set":=⟨_,hS,rfl⟩;have hli:=cW.init.lookup;have hbi:=cW.init.bind (.ref s.heap.objs.size)
   repeat (any_goals (first|assumption|wp_step))
   refine cU (codeAny_call_builtin (R:=wants (λ r s₂=>r=.none/\Q (.ref s.heap.objs.size) s₂) E) cW.init.plain F.entry_set_init (QY hT (h led _ rfl))) λ r₂ s₂ hr₂=>?_;cases r₂ with
   | error e=>exact hr₂
   | ok fl₂ =>
    cases fl₂ with
    | ret r =>
     obtain ⟨rfl,hq⟩:=hr₂
     repeat (any_goals (first|assumption|wp_step))
    | _=>exact hr₂.elim
  | _=>exact hr.elim
end
section
variable {X:Cx}
end
end L2
namespace L2
open PySem
def sN:Nat->Nat
 | 0=>0
 | n + 1=>5 * sN n + 1
theorem za9 (a:Nat):∀ b,sN (a + b)=sN a + sN b + 4 * (sN a * sN b)
 | 0=>by simp [sN]
 | b + 1=>by
  rw [<- eX,sN,za9 a b,sN,Nat.mul_add (sN a),Nat.mul_left_comm (sN a) 5]
  lia
theorem zel:∀ k,∃ u,sN (2 ^ k)=2 ^ k * (2 * u + 1)
 | 0=>⟨0,rfl⟩
 | k + 1=>by
  obtain ⟨u,hu⟩:=zel k;refine ⟨u + (2 * u + 1) * sN (2 ^ k),?_⟩;rw [d8,Nat.mul_two,za9];generalize sN (2 ^ k)=z at hu ⊢;generalize 2 ^ k=p at hu ⊢
  grind
def wc (x n:Nat):Nat:=x + sN n * (4 * x + 1)
def zbe (x n:Nat):wc x (n + 1)=wc x n * 5 + 1:=by
 unfold wc;rw [sN,Nat.add_mul,gH,dQ,Nat.add_mul,dB _ 5]
 lia
def zc3 (x n k:Nat):∃ v,wc x (n + 2 ^ k)=wc x n + 2 ^ k * (2 * v + 1):=by
 obtain ⟨u,hu⟩:=zel k;unfold wc;rw [za9,hu];generalize sN n=s;generalize 2 ^ k=p;exact ⟨u * (4 * s + 1) * (4 * x + 1) + 2 * s * (4 * x + 1) + 2 * x,by grind⟩
theorem VR (x:Nat):∀ k e,∃ n,n < 2 ^ k/\wc x n % 2 ^ k=e % 2 ^ k
 | 0,e=>⟨0,by decide,by lia⟩
 | k + 1,e=>by
  obtain ⟨n,hn,he⟩:=VR x k e;have p2:2 ^ (k + 1)=2 * 2 ^ k:=by rw [d8,dB]
  have pp:0 < 2 ^ k:=Nat.two_pow_pos k;by_cases h:wc x n % 2 ^ (k + 1)=e % 2 ^ (k + 1)
  ·exact ⟨n,by lia,h⟩
  ·refine ⟨n + 2 ^ k,by lia,?_⟩;obtain ⟨v,hv⟩:=zc3 x n k;rw [hv,p2] at *;generalize wc x n=r at *;generalize 2 ^ k=p at *;have m:∀ a,a % (2 * p)=a % p\/a % (2 * p)=a % p + p:=λ a=>by
    have:=Nat.mod_mul (x:=a) (a:=p) (b:=2);rw [dB p 2] at this;rw [this];rcases Nat.mod_two_eq_zero_or_one (a / p) with z|z <;> rw [z]
    ·left;lia
    ·right;lia
   have q:(r + p * (2 * v + 1)) % (2 * p)=(r + p) % (2 * p):=by
    rw [show r + p * (2 * v + 1)=r + p + (2 * p) * v by rw [Nat.mul_add,gI];simp only [dQ,Nat.mul_left_comm];lia,Nat.add_mul_mod_self_left]
   rw [q];have hr:(r + p) % (2 * p)=if r % (2 * p) < p then r % (2 * p) + p else r % (2 * p) - p:=by
    rw [gJ,cE (a:=p) (by lia)];have:=cm r (show 0 < 2 * p by lia)
    split
    ·rw [cE (by lia)]
    ·rw [hW (by lia),cE (by lia)];lia
   rw [hr];have m1:=m r;have m2:=m e;have l1:=cm r pp;have l2:=cm e pp
   split <;> lia
section
variable (t:SetTable)
def Zs:Nat->SetTable.Probe->SetTable.Probe
 | 0,p=>p
 | n + 1,p=>Zs n (t.advance p)
def zaL (a:Nat):∀ b p,Zs t (a + b) p=Zs t b (Zs t a p):=by
 induction a with
 | zero=>intro b p;rw [fh];rfl
 | succ a ih=>intro b p;rw [Nat.succ_add];exact ih b _
def Wf (p:SetTable.Probe):(t.advance p).dummy=p.dummy:=by
 unfold SetTable.advance
 split <;> rfl
def Zx (i pt:Nat):SetTable.Probe:={ j:=i,more:=SetTable.runEnd t.mask i - i,i:=i,perturb:=pt,dummy:=none }
def zgO:∀ m (p:SetTable.Probe),p.more=m->p.dummy=none->Zs t (m + 1) p=Zx t (SetTable.leap t.mask p.i p.perturb).1 (SetTable.leap t.mask p.i p.perturb).2:=by
 intro m
 induction m with
 | zero =>
  intro p h hd;show t.advance p=_
  unfold SetTable.advance;rw [aq (by lia)];simp only [Zx,hd]
 | succ m ih =>
  intro p h hd;show Zs t (m + 1) (t.advance p)=_
  have e:t.advance p={ p with j:=p.j + 1,more:=p.more - 1 }:=by unfold SetTable.advance;rw [ax (by lia)]
  rw [e];exact ih { p with j:=p.j + 1,more:=p.more - 1 } (show p.more - 1=m by lia) hd
def jB (x:Nat × Nat):Nat->Nat × Nat
 | 0=>x
 | l + 1=>SetTable.leap t.mask (jB x l).1 (jB x l).2
theorem vp (x:Nat × Nat):∀ l,jB t x (l + 1)=jB t (SetTable.leap t.mask x.1 x.2) l
 | 0=>rfl
 | l + 1=>by rw [jB,vp x l];rfl
def zjg:∀ l i pt,∃ d,d<=10 * l/\(Zs t d (Zx t i pt)).j=(jB t (i,pt) l).1:=by
 intro l
 induction l with
 | zero=>intro i pt;exact ⟨0,by lia,rfl⟩
 | succ l ih =>
  intro i pt;obtain ⟨d,hd,e⟩:=ih (SetTable.leap t.mask i pt).1 (SetTable.leap t.mask i pt).2;have m9:SetTable.runEnd t.mask i - i<=9:=by unfold SetTable.runEnd;split <;> lia
  refine ⟨SetTable.runEnd t.mask i - i + 1 + d,by lia,?_⟩;rw [zaL,zgO t (SetTable.runEnd t.mask i - i) (Zx t i pt) rfl rfl,vp];exact e
theorem zag (x:Nat × Nat):∀ l,(jB t x l).2=x.2 / 32 ^ l
 | 0=>by rw [Nat.pow_zero,Nat.div_one];rfl
 | l + 1=>by
  show (jB t x l).2 / 32=_
  rw [zag x l,Nat.div_div_eq_div_mul,d8]
theorem J0 {k:Nat} (hk:t.mask + 1=2 ^ k) {x:Nat} (hx:x < 2 ^ k):∀ n,jB t (x,0) n=(wc x n % 2 ^ k,0)
 | 0=>by
  show (x,0)=_
  rw [show wc x 0=x by simp [wc,sN],cE hx]
 | n + 1=>by
  rw [jB,J0 hk hx n];show ((wc x n % 2 ^ k * 5 + 1 + 0 / 32) % (t.mask + 1),0 / 32)=_
  rw [hk,zbe,Nat.zero_div,d9,gJ,Nat.mod_mul_mod,<- gJ]
def zg5 {k:Nat} (hk:t.mask + 1=2 ^ k) {e:Nat} (he:e<=t.mask) (i:Nat) {pt:Nat} (hp:pt < 2 ^ 64):∃ l,l<=t.mask + 13/\(jB t (i,pt) l).1=e:=by
 have z:(jB t (i,pt) 13).2=0:=by
  rw [zag];exact Nat.div_eq_of_lt (aI hp (by decide))
 have hx:(jB t (i,pt) 13).1 < 2 ^ k:=by
  rw [<- hk];exact cm _ (Nat.succ_pos _)
 obtain ⟨n,hn,hr⟩:=VR (jB t (i,pt) 13).1 k e;have key:∀ n,jB t (i,pt) (13 + n)=jB t ((jB t (i,pt) 13).1,0) n:=λ n=>by
  induction n with
  | zero=>exact Prod.ext rfl z
  | succ n ih=>rw [<- eX,jB,ih];rfl
 refine ⟨13 + n,by lia,?_⟩;rw [key,J0 t hk hx,hr];exact cE (by lia)
theorem Wl:∀ {xs ys:Aj},xs.Nodup->(∀ x∈xs,x∈ys)->xs.length<=ys.length
 | [],_,_,_=>b7 _
 | x :: xs,ys,nd,h=>by
  have hx:=h x (bh ..);obtain ⟨n1,n2⟩:=cR.mp nd;have:=Wl (xs:=xs) (ys:=ys.erase x) n2 λ y hy=>(List.mem_erase_of_ne (λ z=>n1 (by rw [<- z];exact hy))).mpr (h y (aA _ hy));rw [List.length_erase_of_mem hx] at this;have:=List.length_pos_of_mem hx;rw [bb]
  lia
def V8 (hd:t.dummies=#[]) (j:Nat):t.slot j≠.dummy:=by
 unfold SetTable.slot;dsimp only
 split
 ·exact λ z=>nomatch z
 ·rw [hd,show SetTable.has #[] j=false by simp [SetTable.has]];exact λ z=>nomatch z
def zcd {j i:Nat} (h:t.slot j=.live i):t.place[i]?=some j:=by
 unfold SetTable.slot at h;dsimp only at h
 split at h
 ·rename_i e;cases h;exact bp (by simpa using e)
 ·split at h <;> cases h
def za0 (hd:t.dummies=#[]) (hs:t.place.size<=t.mask):∃ e,e<=t.mask/\t.slot e=.empty:=by
 refine bW λ no=>?_;have all:∀ x∈List.range (t.mask + 1),x∈t.place.toList:=λ x hx=>by
  have hx:=be.mp hx;cases e:t.slot x with
  | empty=>exact absurd ⟨x,by lia,e⟩ no
  | dummy=>exact absurd e (V8 t hd x)
  | live i=>exact aj (by rw [cu];exact zcd t e)
 have:=Wl nodup_range all;rw [dM,aM] at this
 lia
def zbd {k:Nat} (hk:t.mask + 1=2 ^ k) (hd:t.dummies=#[]) (hs:t.place.size<=t.mask) (h:Int):∃ d,d < 10 * SetTable.turns t.mask/\t.slot (Zs t d (t.probeStart h)).j=.empty:=by
 obtain ⟨e,he,hm⟩:=za0 t hd hs;have hp:SetTable.bits h < 2 ^ 64:=by
  unfold SetTable.bits;have h1:=cV h (show (0:Int) < 2 ^ 64 by decide);have h0:=cT h (show (2 ^ 64:Int)≠0 by decide)
  lia
 obtain ⟨l,hl,el⟩:=zg5 t hk he (SetTable.bits h % (t.mask + 1)) hp;obtain ⟨d,dl,ed⟩:=zjg t l (SetTable.bits h % (t.mask + 1)) (SetTable.bits h);refine ⟨d,by unfold SetTable.turns;lia,?_⟩;rw [show t.probeStart h=Zx t (SetTable.bits h % (t.mask + 1)) (SetTable.bits h) from rfl,ed,el];exact hm
def zfi {hashAt:Nat->Int} {h:Int} (hd:t.dummies=#[]):∀ d fuel (p:SetTable.Probe),d < fuel->t.slot (Zs t d p).j=.empty->p.dummy=none->∃ r,SetTable.probe.go t hashAt h fuel p=some r/\((∃ j,r=.empty j none/\t.slot j=.empty)\/∃ j i d',r=.candidate j i (Zs t d' p)/\t.slot j=.live i/\hashAt i=h/\1<=d'/\d'<=d):=by
 intro d
 induction d with
 | zero =>
  intro fuel p hf he hdm;obtain ⟨f,rfl⟩:∃ f,fuel=f + 1:=⟨fuel - 1,by lia⟩;unfold SetTable.probe.go;rw [show t.slot p.j=.empty from he];exact ⟨_,rfl,.inl ⟨p.j,by rw [hdm],he⟩⟩
 | succ d ih =>
  intro fuel p hf he hdm;obtain ⟨f,rfl⟩:∃ f,fuel=f + 1:=⟨fuel - 1,by lia⟩;unfold SetTable.probe.go;cases e:t.slot p.j with
  | empty=>exact ⟨_,rfl,.inl ⟨p.j,by rw [hdm],e⟩⟩
  | dummy=>exact absurd e (V8 t hd _)
  | live i =>
   dsimp only;by_cases eh:hashAt i=h
   ·rw [ax (by simpa using eh)];exact ⟨_,rfl,.inr ⟨p.j,i,1,rfl,e,eh,by lia,by lia⟩⟩
   ·rw [aq (by simpa using eh)];obtain ⟨r,hr,h1⟩:=ih f (t.advance p) (by lia) he (by rw [Wf];exact hdm);refine ⟨r,hr,h1.imp id ?_⟩;rintro ⟨j,i',d',q1,q2,q3,q4,q5⟩;exact ⟨j,i',d' + 1,q1,q2,q3,by lia,by lia⟩
end
section
variable {mask:Nat}
def JL (mask:Nat) (owner:Array (Option Nat)):List (Nat × Nat):=(List.range (mask + 1)).filterMap λ j=>(owner.getD j none).map (j,·)
theorem zfn {α:Type} {f g:Nat->Option α} {j:Nat} {v:α}:∀ {xs:Aj},xs.Nodup->j∈xs->f j=none->g j=some v->(∀ i,i≠j->g i=f i)->(xs.filterMap g).Perm (v :: xs.filterMap f)
 | [],_,h,_,_,_=>nomatch h
 | x :: xs,nd,h,hf,hg,e=>by
  obtain ⟨n1,n2⟩:=cR.mp nd;by_cases ex:x=j
  ·subst ex;have:∀ ys:List Nat,x ∉ ys->ys.filterMap g=ys.filterMap f:=λ ys hy=>by
    induction ys with
    | nil=>rfl
    | cons y ys ih=>rw [bY,bY,e y λ z=>hy (by rw [z];exact bh ..),ih λ z=>hy (aA _ z)]
   rw [bY,hg,bY,hf,this xs n1]
  ·have hj:j∈xs:=(az.mp h).resolve_left (ba ex);have ih:=zfn n2 hj hf hg e;rw [bY,bY,e x ex];cases f x with
   | none=>exact ih
   | some y=>exact (ih.cons y).trans (List.Perm.swap ..)
def zeG {owner:Array (Option Nat)} {j k:Nat} (hs:owner.size=mask + 1) (hj:j < owner.size) (hn:owner.getD j none=none):(JL mask (owner.setIfInBounds j (some k))).Perm ((j,k) :: JL mask owner):=by
 refine zfn (j:=j) nodup_range (be.mpr (by lia)) (by rw [hn];rfl) ?_ λ i hi=>?_
 ·rw [bB,Array.getElem?_setIfInBounds_self_of_lt hj];rfl
 ·rw [bB,Array.getElem?_setIfInBounds_ne (ba hi),<- bB]
def zbF {owner:Array (Option Nat)} (t:SetTable) (hm:t.mask=mask):∀ l fuel i pt,l < fuel->(owner.getD (jB t (i,pt) l).1 (some 0)).isNone=true->∃ j,SetTable.layClean.free mask owner fuel i pt=some j/\(owner.getD j (some 0)).isNone=true:=by
 intro l
 induction l with
 | zero =>
  intro fuel i pt hf he;obtain ⟨f,rfl⟩:∃ f,fuel=f + 1:=⟨fuel - 1,by lia⟩;have he:(owner.getD i (some 0)).isNone=true:=he;unfold SetTable.layClean.free;cases e:(List.range (SetTable.runEnd mask i + 1 - i)).find? λ k=>(owner.getD (i + k) (some 0)).isNone with
  | some k=>exact ⟨_,rfl,find?_some (p:=λ k=>(owner.getD (i + k) (some 0)).isNone) e⟩
  | none =>
   have:=hX.mp e 0 (be.mpr (by unfold SetTable.runEnd;split <;> lia));exact absurd he this
 | succ l ih =>
  intro fuel i pt hf he;obtain ⟨f,rfl⟩:∃ f,fuel=f + 1:=⟨fuel - 1,by lia⟩;unfold SetTable.layClean.free;cases e:(List.range (SetTable.runEnd mask i + 1 - i)).find? λ k=>(owner.getD (i + k) (some 0)).isNone with
  | some k=>exact ⟨_,rfl,find?_some (p:=λ k=>(owner.getD (i + k) (some 0)).isNone) e⟩
  | none =>
   rw [vp,hm] at he;exact ih f _ _ (by lia) he
def zdC {owner:Array (Option Nat)} {k:Nat} (hk:mask + 1=2 ^ k) (hs:owner.size=mask + 1) {c:Nat} (hc:(JL mask owner).length=c) (lt:c<=mask) (h:Int):∃ j,SetTable.layClean.free mask owner (SetTable.turns mask) (SetTable.bits h % (mask + 1)) (SetTable.bits h)=some j/\j < owner.size/\owner.getD j none=none:=by
 have:∃ e,e<=mask/\owner.getD e none=none:=by
  refine bW λ no=>?_;have all:∀ x∈List.range (mask + 1),x∈(JL mask owner).map (·.1):=λ x hx=>by
   cases e:owner.getD x none with
   | none=>exact absurd ⟨x,by have:=be.mp hx;lia,e⟩ no
   | some v=>exact aN.mpr ⟨(x,v),bJ.mpr ⟨x,hx,by rw [e];rfl⟩,rfl⟩
  have:=Wl nodup_range all;rw [dM,ai] at this
  lia
 obtain ⟨e,he,hn⟩:=this;have hp:SetTable.bits h < 2 ^ 64:=by
  unfold SetTable.bits;have h1:=cV h (show (0:Int) < 2 ^ 64 by decide);have h0:=cT h (show (2 ^ 64:Int)≠0 by decide)
  lia
 have cv:∀ j,(owner.getD j (some 0)).isNone=true->j < owner.size/\owner.getD j none=none:=λ j hj=>by
  rw [bB] at hj ⊢;cases e:owner[j]? with
  | none=>rw [e] at hj;cases hj
  | some v =>
   rw [e] at hj;refine ⟨(bD.mp e).1,?_⟩;cases v with
   | none=>rfl
   | some v=>cases hj
 let t:SetTable:={ mask,place:=#[],dummies:=#[],finger:=0,led:=true,moves:=0,plain:=true };obtain ⟨l,hl,el⟩:=zg5 t hk he (SetTable.bits h % (mask + 1)) hp;have en:(owner.getD e (some 0)).isNone=true:=by
  rw [bB,bE (by lia)] at hn ⊢;have hn:owner[e]=none:=hn;show owner[e].isNone=true
  rw [hn];rfl
 obtain ⟨j,hj,hjn⟩:=zbF (owner:=owner) (mask:=mask) t rfl l (SetTable.turns mask) _ _ (by unfold SetTable.turns;show l < mask + 15;have:l<=mask + 13:=hl;lia) (by rw [el];exact en);exact ⟨j,hj,cv j hjn⟩
theorem zeX {k:Nat} (hk:mask + 1=2 ^ k):∀ (hs:A6) (owner:Array (Option Nat)) (c:Nat),owner.size=mask + 1->((JL mask owner).map (·.2)).Perm (List.range c)->c + hs.length<=mask ->
  ∃ owner',(hs.foldl (init:=some (owner,c)) λ nj h=>do
   let (owner,k) <- nj
   let j <- SetTable.layClean.free mask owner (SetTable.turns mask) (SetTable.bits h % (mask + 1)) (SetTable.bits h)
   pure (owner.setIfInBounds j (some k),k + 1))=some (owner',c + hs.length)/\owner'.size=mask + 1/\((JL mask owner').map (·.2)).Perm (List.range (c + hs.length))
 | [],owner,c,h1,h2,_=>⟨owner,rfl,h1,h2⟩
 | h :: hs,owner,c,h1,h2,h3=>by
  have hl:=h2.length_eq;rw [ai,dM] at hl;rw [bb] at h3;obtain ⟨j,hj,hjl,hjn⟩:=zdC hk h1 hl (by lia) h;have h2':((JL mask (owner.setIfInBounds j (some c))).map (·.2)).Perm (List.range (c + 1)):=by
   refine ((zeG h1 hjl hjn).map (·.2)).trans ?_;rw [br,dR];exact (h2.cons c).trans (List.perm_append_comm (l₁:=[c]))
  obtain ⟨o',e,s',p'⟩:=zeX hk hs (owner.setIfInBounds j (some c)) (c + 1) (by rw [Array.size_setIfInBounds];exact h1) h2' (by lia);refine ⟨o',?_,s',?_⟩
  ·rw [List.foldl_cons];show List.foldl _ ((SetTable.layClean.free mask owner (SetTable.turns mask) (SetTable.bits h % (mask + 1)) (SetTable.bits h)).bind λ j=>some (owner.setIfInBounds j (some c),c + 1)) hs=_
   rw [hj];show List.foldl _ (some (owner.setIfInBounds j (some c),c + 1)) hs=_
   rw [e,bb,show c + 1 + hs.length=c + (hs.length + 1) by lia]
  ·rw [bb,show c + (hs.length + 1)=c + 1 + hs.length by lia];exact p'
def zeH:JL mask (Array.replicate (mask + 1) none)=[]:=by
 unfold JL;rw [List.filterMap_eq_nil_iff];intro j _;rw [bB,Array.getElem?_replicate]
 split <;> rfl
def zgq {k finger moves:Nat} {led plain:Bool} {hs:Array Int} (hk:mask + 1=2 ^ k) (hl:hs.size<=mask):∃ t order,SetTable.laid mask finger moves led plain hs=some (t,order)/\t.mask=mask/\t.dummies=#[]/\t.place.size=hs.size/\t.led=led/\order.toList.Perm (List.range hs.size):=by
 obtain ⟨o,e,s',p'⟩:=zeX hk hs.toList (Array.replicate (mask + 1) none) 0 (Array.size_replicate ..) (by rw [zeH];exact List.Perm.refl _) (by rw [aM];lia);rw [fh,aM] at p';have e2:SetTable.layClean mask hs=some o:=by
  unfold SetTable.layClean;rw [<- Array.foldl_toList,e]
  rfl
 unfold SetTable.laid;rw [e2];refine ⟨_,_,rfl,rfl,rfl,?_,rfl,?_⟩
 ·have:=p'.length_eq;rw [ai,dM] at this;simpa [JL] using this
 ·simpa [JL] using p'
def zfV:∀ fuel size n,(∃ k,size=2 ^ k)->(∃ k,SetTable.sizeAbove.go n fuel size=2 ^ k)/\(n < size * 2 ^ fuel->n < SetTable.sizeAbove.go n fuel size)/\size<=SetTable.sizeAbove.go n fuel size/\(SetTable.sizeAbove.go n fuel size<=max size (2 * n)):=by
 intro fuel
 induction fuel with
 | zero=>intro size n h;exact ⟨h,λ z=>by rw [Nat.pow_zero,gI] at z;exact z,au _,Nat.le_max_left ..⟩
 | succ f ih =>
  intro size n ⟨k,hk⟩;unfold SetTable.sizeAbove.go
  split
  ·obtain ⟨a,b,c,d⟩:=ih (size * 2) n ⟨k + 1,by rw [hk,d8]⟩;exact ⟨a,λ z=>b (by rw [dQ,<- Nat.pow_succ'];exact z),by lia,by lia⟩
  ·exact ⟨⟨k,hk⟩,λ _=>by lia,au _,Nat.le_max_left ..⟩
def za3 {n:Nat} (h:n<=1000000):(∃ k,SetTable.sizeAbove n=2 ^ k)/\n < SetTable.sizeAbove n/\8<=SetTable.sizeAbove n/\SetTable.sizeAbove n<=max 8 (2 * n):=by
 obtain ⟨a,b,c,d⟩:=zfV 64 8 n ⟨3,rfl⟩;exact ⟨a,b (bj h (by decide)),c,d⟩
end
end L2
namespace L2
open PySem PySem.Spec PySem.Calls PyProof.Rows
section
variable {prog:Af} {w:World} {A:Ao} {E:A3} {s:An}
inductive TV (h:Heap):Nat->Value->Prop
 | non {n:Nat}:TV h n .none
 | int {n:Nat} {i:Int} {t:Tok}:TV h n (.int i t)
 | tup {n:Nat} {a:Addr} {items:Ac}:IsTup h a items->(∀ v∈items.toList,TV h n v)->TV h (n + 1) (.ref a)
def Vt:∀ {n:Nat} {v:Am} {A:Ao} {E:A3} {Q:Bool->Shared->Prop},TV s.heap n v->Q true s->wpAny (model prog w) A (eqIsQuiet n v) Q E s:=by
 intro n
 induction n with
 | zero=>intro v A E Q h q;cases h <;> exact ao q
 | succ n ih =>
  intro v A E Q h q;cases h with
  | non=>exact ao q
  | int=>exact ao q
  | tup hT all=>exact Ql (d:=n) hT (λ v hv A E Q q=>ih (all v hv) q) q
def zd1:∀ {n:Nat} {v:Am} {A:Ao} {E:A3} {Q:Bool->Shared->Prop},TV s.heap n v->Q false s->wpAny (model prog w) A (ofAClassStatement n v) Q E s:=by
 intro n
 induction n with
 | zero=>intro v A E Q h q;cases h <;> exact ao q
 | succ n ih =>
  intro v A E Q h q;cases h with
  | non=>exact ao q
  | int=>exact ao q
  | tup hT all =>
   obtain ⟨o,ho,hc,m,hd⟩:=hT;unfold ofAClassStatement;refine af (wpAny_typeOf (T:="tuple") ⟨o,ho,hc⟩ ?_);show wpAny _ _ (pure true >>= _) _ _ s
   refine af (ao ?_);simp only [cP,aR,bO];refine af (bF ho hd ?_);dsimp only;refine af ?_;rw [<- dH];refine eE _ (λ rest r s'=>r.1=none/\s'=s/\∀ v∈rest,TV s.heap n v) _ ?_ ?_ _ _ ⟨rfl,rfl,all⟩
   ·rintro v rest r s' ⟨hr,rfl,hall⟩;refine af (ih (hall v bh) ?_);simp only [aR,bO];exact ao ⟨rfl,rfl,λ u hu'=>hall u (aA _ hu')⟩
   ·rintro ⟨r1,r2⟩ s' ⟨hr,rfl,_⟩;simp only at hr;subst hr;exact ao q
def zd0:∀ {n:Nat} {v:Am} {A:Ao} {E:A3} {Q:Bool->Shared->Prop},TV s.heap n v->(∀ b,Q b s)->wpAny (model prog w) A (hashByValue n v) Q E s:=by
 intro n
 induction n with
 | zero=>intro v A E Q h q;cases h <;> exact ao (q _)
 | succ n ih =>
  intro v A E Q h q;cases h with
  | non=>exact ao (q _)
  | int=>exact ao (q _)
  | tup hT all =>
   obtain ⟨o,ho,hc,m,hd⟩:=hT;unfold hashByValue;refine af (gc (T:="tuple") ⟨o,ho,hc⟩ F.slot_tuple_hash.lookup ?_);show wpAny _ _ (seqItems? _ >>= _) _ _ s
   refine af (bF ho hd ?_);refine af ?_;show wpAny _ _ (forIn _ _ _) _ _ s
   rw [<- dH];refine eE _ (λ rest r s'=>r.1=none/\s'=s/\∀ v∈rest,TV s.heap n v) _ ?_ ?_ _ _ ⟨rfl,rfl,all⟩
   ·rintro v rest r s' ⟨hr,rfl,hall⟩;refine af (ih (hall v bh) λ b=>?_);cases b
    ·exact ao (ao (q _))
    ·exact ao ⟨rfl,rfl,λ u hu'=>hall u (aA _ hu')⟩
   ·rintro ⟨r1,r2⟩ s' ⟨hr,rfl,_⟩;simp only at hr;subst hr;exact ao (q _)
def zeN {x:Addr} {A:Ao} {E:A3} {Q:Bool->Shared->Prop} (hx:TV s.heap 8 (.ref x)) {ys:A7} (hy:∀ v∈ys,(∃ b,v=.ref b)/\TV s.heap 8 v) (q:Q false s):wpAny (model prog w) A (searchCouldBeSeen (.ref x) ys) Q E s:=by
 unfold searchCouldBeSeen;refine af ?_;refine eE _ (λ rest r s'=>r.1=none/\s'=s/\∀ v∈rest,(∃ b,v=.ref b)/\TV s.heap 8 v) _ ?_ ?_ _ _ ⟨rfl,rfl,hy⟩
 ·rintro v rest r s' ⟨hr,rfl,hall⟩;obtain ⟨⟨b,rfl⟩,hv⟩:=hall v bh;by_cases e:(x == b)=true
  ·dsimp only;rw [e];exact ao ⟨rfl,rfl,λ u hu'=>hall u (aA _ hu')⟩
  ·dsimp only;rw [Bool.not_eq_true] at e;rw [e];simp only [Bool.false_or,carriedByValue,cj,aR,bO];refine af (Vt hx ?_);simp only [cP,aR,bO];refine af (Vt hv ?_);simp only [cP,aR,bO];refine af (zd1 hx ?_);simp only [aR,bO];refine af (zd1 hv ?_);simp only [aR,bO];exact ao ⟨rfl,rfl,λ u hu'=>hall u (aA _ hu')⟩
 ·rintro ⟨r1,r2⟩ s' ⟨hr,rfl,_⟩;simp only at hr;subst hr;exact ao q
theorem Xf (t:SetTable):∀ n p,(Zs t n p).dummy=p.dummy
 | 0,_=>rfl
 | n + 1,p=>(Xf t n _).trans (Wf t p)
def zhG {α:Type} {c:Bool} {m rest:Sem α} {Q:α->Shared->Prop} (h1:wpAny (model prog w) A rest Q E s) (h2:wpAny (model prog w) A rest Q E s->wpAny (model prog w) A m Q E s):wpAny (model prog w) A (if (!c)=true then m else rest) Q E s:=by
 split
 ·exact h2 h1
 ·exact h1
theorem zcK {a x:Addr} {o:Obj} {es:Array (Int × Value)} {ep:Nat} {t:SetTable} {hsh:Int} {Q:SetFound->Shared->Prop} (ho:s.heap.get? a=some o) (hd:o.data=.set es ep t) (hf:t.fits es.size=true) (dm:t.dummies=#[]) (odd:t.gaveWay=false)
  (hx:TV s.heap 8 (.ref x)) (hy:∀ e∈es.toList,(∃ b,e.2=.ref b)/\TV s.heap 8 e.2) (eqs:∀ e∈es.toList,∀ {Q':Bool->Shared->Prop},Q' false s->wpAny (model prog w) A (eqBool e.2 (.ref x)) Q' E s) (q:∀ j,t.slot j=.empty->Q (.free j false) s) :
  ∀ d fuel stand,d < fuel->d < 10 * SetTable.turns t.mask->t.slot (Zs t d (stand.getD (t.probeStart hsh))).j=.empty->(stand.getD (t.probeStart hsh)).dummy=none->wpAny (model prog w) A (setSearchFrom a (.ref x) hsh true fuel stand) Q E s:=by
 have fz:t.place.size=es.size:=by
  simp only [SetTable.fits,ck,bI] at hf;exact hf.1
 intro d
 induction d using Nat.strongRecOn with
 | ind d ih =>
  intro fuel stand hfu ht he hdm;obtain ⟨f,rfl⟩:∃ f,fuel=f + 1:=⟨fuel - 1,by lia⟩;obtain ⟨r,hr,hc⟩:=zfi t (hashAt:=λ i=>(es[i]?.map (·.1)).getD 0) (h:=hsh) dm d _ _ ht he hdm;unfold setSearchFrom;refine af (dg ho hd hf ?_);dsimp only;rw [odd];simp only [aR,bO];have hp:t.probe (λ i=>(es[i]?.map (·.1)).getD 0) hsh (stand.getD (t.probeStart hsh))=some r:=hr;generalize hpe:t.probe _ hsh (stand.getD (t.probeStart hsh))=pr;have er:pr=some r:=hpe.symm.trans hp;subst er;rcases hc with ⟨j,rfl,hj⟩|⟨j,i,d',rfl,hj,hh,d1,d2⟩
  ·exact ao (q j hj)
  ·have hi:i < es.size:=by rw [<- fz];exact (bD.mp (zcd t hj)).1
   have hei:es[i]?=some es[i]:=bE hi;have hem:es[i]∈es.toList:=by rw [<- Array.getElem_toList hi];exact dE _
   obtain ⟨⟨b,hb⟩,hv⟩:=hy _ hem;dsimp only;refine zhG ?_ λ hrest=>af (zeN hx (λ v hv=>by
    obtain ⟨e,he,rfl⟩:=aN.mp hv;rw [Array.toList_filter] at he;exact hy e (cn.mp he).1) hrest)
   rw [hei];dsimp only;refine af (cB (eqs _ hem ?_));refine af (dg ho hd hf ?_);dsimp only;rw [show t.sameMemory t.moves t.mask=some true by simp [SetTable.sameMemory]];simp only [cj,aR,bO,d6];rw [hj];dsimp only;rw [hei];dsimp only;rw [hb];refine af (wpAny_isSame_ref_self ?_);refine af (ao ?_);simp only [d6,aR,bO];refine ih (d - d') (by lia) f (some _) (by lia) (by lia) ?_ ?_
   ·show t.slot (Zs t (d - d') (Zs t d' (stand.getD (t.probeStart hsh)))).j=.empty
    rw [<- zaL,show d' + (d - d')=d by lia];exact he
   ·show (Zs t d' (stand.getD (t.probeStart hsh))).dummy=none
    rw [Xf];exact hdm
def zaO (h:Heap) (a:Addr) (xs:List (Int × Addr)):Prop :=
 ∃ o es ep t,h.get? a=some o/\o.ExactSet/\o.data=.set es ep t/\es.toList.Perm (xs.map λ x=>(x.1,Value.ref x.2))/\t.dummies=#[]/\t.place.size=es.size/\(∃ k,t.mask + 1=2 ^ k)/\7<=t.mask/\es.size * 5 < t.mask * 3/\t.mask<=8 * xs.length + 7
def zdo {es:Array (Int × Value)} {order:Array Nat} (h:order.toList.Perm (List.range es.size)):(order.filterMap (es[·]?)).toList.Perm es.toList:=by
 rw [Array.toList_filterMap];refine (h.filterMap _).trans ?_;have:∀ n,n<=es.size->(List.range n).filterMap (es[·]?)=es.toList.take n:=λ n=>by
  induction n with
  | zero=>intro _;rfl
  | succ n ih =>
   intro hn;rw [dR,List.filterMap_append,ih (by lia),aG,cu,bE (by lia)];simp [bE (show n < es.size by lia)]
 rw [this _ (au _),<- aM,aH]
def zdX {a:Addr} {o:Obj} {es:Array (Int × Value)} {ep:Nat} {t:SetTable} {xs:List (Int × Addr)} {Q:Ag} (ho:s.heap.get? a=some o) (hex:o.ExactSet) (hd:o.data=.set es ep t) (hf:t.fits es.size=true) (pm:es.toList.Perm (xs.map λ x=>(x.1,Value.ref x.2))) (h1:1<=es.size) (hn:es.size<=1100)
  (q:∀ h',Heap.SameBut a s.heap h'->zaO h' a xs->Q () { s with heap:=h' }):wpAny (model prog w) A (setRelay a (SetTable.grown es.size)) Q E s:=by
 have hg:SetTable.grown es.size=es.size * 4:=by unfold SetTable.grown;rw [aq (by lia)]
 rw [hg];obtain ⟨⟨k,hk⟩,s1,s8,s2⟩:=za3 (n:=es.size * 4) (by lia);have hl:es.size=xs.length:=by rw [<- aM,pm.length_eq,ai]
 obtain ⟨t',order,e,em,ed,ep',_,po⟩:=zgq (mask:=SetTable.sizeAbove (es.size * 4) - 1) (finger:=t.finger) (moves:=t.movedTo (SetTable.sizeAbove (es.size * 4) - 1)) (led:=t.led) (plain:=t.plain) (hs:=es.map (·.1)) (k:=k) (by lia) (by rw [Array.size_map];lia);rw [Array.size_map] at ep' po;have pe:=zdo po;have sz:(order.filterMap (es[·]?)).size=es.size:=by rw [<- aM,pe.length_eq,aM]
 unfold setRelay;refine af (dg ho hd hf ?_);dsimp only;rw [aq (show ¬ SetTable.sizeAbove (es.size * 4) > sizeLine by have:(100000:Nat)<=sizeLine:=(by decide);lia)];refine af ?_;rw [show t.relaid (es.map (·.1)) (es.size * 4)=some (t',order) from e];show wpAny _ _ (if ((order.filterMap (es[·]?)).size != es.size)=true then _ else pure (order.filterMap (es[·]?),t')) _ _ s
 rw [aq (by rw [sz];simp)];refine ao (wpAny_storeSet_of ho hd (q _ (dP s.heap a _) ?_) (by rw [sz];have:(100000:Nat)<=sizeLine:=(by decide);lia));have hg:=bK (Obj.putSet (order.filterMap (es[·]?)) t') ho (by rw [putSet_of _ _ hd];rfl);rw [putSet_of _ _ hd] at hg;exact ⟨_,_,_,t',hg,hex,rfl,pe.trans pm,ed,by rw [ep',sz],⟨k,by rw [em];lia⟩,by rw [em];lia,by rw [em,sz];lia,by rw [em];lia⟩
def zdW {a:Addr} {o:Obj} {es es1:Array (Int × Value)} {ep:Nat} {t t2:SetTable} {xs:List (Int × Addr)} {Q:Bool->Shared->Prop} (ho:s.heap.get? a=some o) (hex:o.ExactSet) (hd:o.data=.set es ep t) (hs:es1.size=es.size + 1) (pm:es1.toList.Perm (xs.map λ x=>(x.1,Value.ref x.2))) (hn:es1.size<=1100)
  (dm:t2.dummies=#[]) (ps:t2.place.size=es1.size) (hk:∃ k,t2.mask + 1=2 ^ k) (m7:7<=t2.mask) (nf:es.size * 5 < t2.mask * 3) (mx:t2.mask<=8 * xs.length + 7) (q:∀ h',Heap.SameBut a s.heap h'->zaO h' a xs->Q true { s with heap:=h' }) :
  wpAny (model prog w) A (do
   storeSet a es1 t2
   if (!false && t2.tooFull)=true then do
    setRelay a (SetTable.grown (es.size + 1))
    pure true
   else pure true) Q E s:=by
 have sl:(100000:Nat)<=sizeLine:=by decide
 refine af (wpAny_storeSet_of ho hd ?_ (by lia));have hg:=bK (Obj.putSet es1 t2) ho (by rw [putSet_of _ _ hd];rfl);rw [putSet_of _ _ hd] at hg;have sb:=dP s.heap a (Obj.putSet es1 t2)
 split
 ·refine af ?_;rw [<- hs];refine zdX (xs:=xs) hg hex rfl ?_ pm (by lia) hn λ h' sb' st=>ao (q h' (sb.trans sb') st);simp only [SetTable.fits,SetTable.fill,dm,ps,dY,eZ,bc];show es1.size + 0<=t2.mask
  lia
 ·rename_i hfull;refine ao (q _ sb ⟨_,_,_,t2,hg,hex,rfl,pm,dm,ps,hk,m7,?_,mx⟩);simp only [SetTable.tooFull,SetTable.fill,dm,ps,Bool.not_false,eZ,bc] at hfull;have hfull:¬ (es1.size + 0) * 5 ≥ t2.mask * 3:=hfull
  lia
theorem zfP {a x:Addr} {hsh:Int} {xs:List (Int × Addr)} {Q:Bool->Shared->Prop} (hS:zaO s.heap a xs) (hn:xs.length < 1100) (hx:TV s.heap 8 (.ref x)) (hy:∀ y∈xs,TV s.heap 8 (.ref y.2))
  (eqs:∀ y∈xs,∀ {Q':Bool->Shared->Prop},Q' false s->wpAny (model prog w) A (eqBool (.ref y.2) (.ref x)) Q' E s) (q:∀ h',Heap.SameBut a s.heap h'->zaO h' a (xs ++ [(hsh,x)])->Q true { s with heap:=h' }) :
  wpAny (model prog w) A (setAddHashed a (.ref x) hsh) Q E s:=by
 obtain ⟨o,es,ep,t,ho,hex,hd,pm,dm,ps,⟨k,hk⟩,m7,nf,mx⟩:=hS;have hl:es.size=xs.length:=by rw [<- aM,pm.length_eq,ai]
 have hf:t.fits es.size=true:=by
  simp only [SetTable.fits,SetTable.fill,dm,ps,dY,eZ,bc];show es.size + 0<=t.mask
  lia
 have odd:t.gaveWay=false:=by
  unfold SetTable.gaveWay;cases k with
  | zero=>lia
  | succ k =>
   rw [d8] at hk;exact aX.mpr (by lia)
 have mem:∀ e∈es.toList,∃ y∈xs,e=(y.1,Value.ref y.2):=λ e he=>by
  obtain ⟨y,hy,e'⟩:=aN.mp (pm.mem_iff.mp he);exact ⟨y,hy,e'.symm⟩
 obtain ⟨d,hd1,hd2⟩:=zbd t hk dm (by lia) hsh;unfold setAddHashed setAddHashedIn;refine cB (af (dg ho hd hf ?_));dsimp only;rw [show byScan (.ref x) es=false from rfl];simp only [aR,bO];refine af (zcK ho hd hf dm odd hx (λ e he=>by
  obtain ⟨y,hy',rfl⟩:=mem e he;exact ⟨⟨_,rfl⟩,hy y hy'⟩) (λ e he Q' z=>by
  obtain ⟨y,hy',rfl⟩:=mem e he;exact eqs y hy' z) (λ j hj=>?_) d 100000 none (by unfold SetTable.turns at hd1;lia) hd1 hd2 rfl)
 dsimp only;refine af (dg ho hd hf ?_);dsimp only;have pm1:(SetTable.insertAt es (t.put j).2 (hsh,Value.ref x)).toList.Perm ((xs ++ [(hsh,x)]).map λ x=>(x.1,Value.ref x.2)):=by
  rw [aZ];refine (SetTable.insertAt_perm _ _ _).trans ?_;rw [Array.toList_push];exact pm.append_right _
 have sz1:(SetTable.insertAt es (t.put j).2 (hsh,Value.ref x)).size=es.size + 1:=by rw [<- aM,pm1.length_eq,ai,aD,hl];rfl
 have d1:(t.put j).1.dummies=#[]:=by
  show (if SetTable.has t.dummies j then _ else t.dummies)=#[]
  rw [dm,show SetTable.has #[] j=false by simp [SetTable.has]]
  rfl
 have p1:(t.put j).1.place.size=es.size + 1:=by
  have:=(SetTable.insertAt_perm t.place (SetTable.below t.place j) j).length_eq;rw [aM,aM,Array.size_push,ps] at this;exact this
 have m1:(t.put j).1.mask=t.mask:=rfl;have fin:∀ t2:SetTable,t2.dummies=#[]->t2.place.size=es.size + 1->t2.mask=t.mask->wpAny (model prog w) A (do
   storeSet a (SetTable.insertAt es (t.put j).2 (hsh,Value.ref x)) t2
   if (!false && t2.tooFull)=true then do
    setRelay a (SetTable.grown (es.size + 1))
    pure true
   else pure true) Q E s:=λ t2 e1 e2 e3=>zdW ho hex hd sz1 pm1 (by lia) e1 (by rw [e2,sz1]) ⟨k,by rw [e3];exact hk⟩ (by lia) (by lia) (by rw [aD];simp;lia) q
 split
 ·refine af (zd0 hx λ b=>?_);cases b
  ·exact fin _ d1 p1 m1
  ·exact fin _ d1 p1 m1
 ·exact af (ao (fin _ d1 p1 m1))
end
section
variable {prog:Af} {w:World}
structure KSet {κ:Type} [DecidableEq κ] {d:Nat} (It:KItem prog w κ d) (n:Nat):Prop where
 kp:∀ {h h':Heap} {k:κ} {v:Am},(∀ b items,IsTup h b items->IsTup h' b items)->It.is h k v->It.is h' k v
 tv:∀ {h:Heap} {k:κ} {v:Am},It.is h k v->TV h n v
def TV.up {h:Heap}:∀ {n m:Nat} {v:Am},TV h n v->n<=m->TV h m v:=by
 intro n
 induction n with
 | zero=>intro m v t _;cases t <;> constructor
 | succ n ih =>
  intro m v t l;obtain ⟨m,rfl⟩:∃ k,m=k + 1:=⟨m - 1,by lia⟩;cases t with
  | non=>exact .non
  | int=>exact .int
  | tup hT all=>exact .tup hT λ v hv=>ih (all v hv) (by lia)
theorem zgr:KSet (qV prog w) 0 where
 kp:=λ _ h=>h
 tv:=by
  intro h k v r;cases k with
  | none=>cases r;exact .non
  | some n=>obtain ⟨t,rfl⟩:=r;exact .int
def zhJ {κ:Type} [DecidableEq κ] {d n:Nat} {It:KItem prog w κ d} (K:KSet It n):KSet (xB It) (n + 1) where
 kp:=by
  rintro h h' k v s ⟨a,items,rfl,h1,h2⟩;exact ⟨a,items,rfl,s _ _ h1,Paired.mapP h2 λ p q z=>K.kp s z⟩
 tv:=by
  rintro h k v ⟨a,items,rfl,h1,h2⟩;refine .tup h1 λ v hv=>?_;obtain ⟨j,hj⟩:=gA.mp hv;obtain ⟨k1,e1⟩:∃ x,k[j]?=some x:=⟨k[j]'(by rw [cD h2];exact (aa.mp hj).1),ae _⟩;exact K.tv (xi h2 e1 hj)
def ziH:KSet (xB (qV prog w)) 1:=zhJ zgr
variable {A:Ao} {E:A3} {κ:Type} [DecidableEq κ] {d n8:Nat} {It:KItem prog w κ d}
def zgy (It:KItem prog w κ d) (x:κ × Addr):Int × Addr:=(It.hash x.1,x.2)
theorem zcV (KS:KSet It n8) (h8:n8<=8) {R:Result->Shared->Prop} {I p:Addr} (hh:A.in1.handled=none) (hp:p≠I) {S:Addr} (hSI:S≠I) (hSp:S≠p) {xs:List (κ × Addr)} {ni:Ac} (hu:A.in1.units + d < cLine) (hits:ni.toList=xs.map λ x=>Value.ref x.2) (nd:(xs.map (·.1)).Nodup) (sm:xs.length < 1100) :
  ∀ (m i:Nat) (s:An),xs.length - i=m->i<=xs.length->(s.heap.IsListIter I p i/\s.heap.IsList p ni)->(∀ x∈xs,It.is s.heap x.1 (.ref x.2))->zaO s.heap S ((xs.take i).map (zgy It)) ->
  (∀ h' tk,(∀ b o,b≠I->b≠S->s.heap.get? b=some o->h'.get? b=some o)->zaO h' S (xs.map (zgy It))->R (.ok (.ret .none)) { s with heap:=h',toks:=tk }) ->
  codeAny (model prog w) A (.builtin "set.update.loop" ⟨[.ref S,.ref I],[]⟩) R s:=by
 have hsz:ni.size=xs.length:=by rw [<- aM,hits,ai]
 have W:=fG (prog:=prog) (w:=w) hh I p hp ni;intro m
 induction m with
 | zero =>
  intro i s hm hi hst his hs hR;have hin:i=ni.size:=by lia
  subst hin;refine eU vy ?_;rw [fv xu _];show wpAny _ A.in1 (pyNext (.ref I) >>= _) _ _ s
  refine af (W.done s _ _ hst λ h' tk hk'=>?_);refine ao (hR h' tk (λ b o hb _ e=>hk' b o (by simpa using hb) e) ?_);rw [hsz,aH] at hs;obtain ⟨o,es,ep,t,h1,h2⟩:=hs;exact ⟨o,es,ep,t,hk' S o (by simpa using hSI) h1,h2⟩
 | succ m ih =>
  intro i s hm hi hst his hs hR;have hlt:i < xs.length:=by lia
  refine eU vy ?_;rw [fv xu _];show wpAny _ A.in1 (pyNext (.ref I) >>= _) _ _ s
  refine af (W.item i s _ _ (by lia) hst λ v h' tk hPv hst' hk'=>?_);have hv:v=.ref xs[i].2:=by
   rw [<- cu,hits,am,ae hlt] at hPv;exact (aO hPv).symm
  subst hv;have tI:∀ b items,IsTup s.heap b items->b≠I:=λ b items hb z=>by
   obtain ⟨o,h1,h2,_⟩:=hst.1;obtain ⟨o',g1,g2,_⟩:=hb;rw [z,h1] at g1;cases g1;rw [h2] at g2;exact absurd (Value.type.inj g2) (by decide)
  have k1:∀ b items,IsTup s.heap b items->IsTup h' b items:=λ b items hb=>by
   obtain ⟨o,g⟩:=hb;exact ⟨o,hk' b o (by simpa using tI b items ⟨o,g⟩) g.1,g.2⟩
  have his1:∀ x∈xs,It.is h' x.1 (.ref x.2):=λ x hx=>KS.kp k1 (his x hx);have hs1:zaO h' S ((xs.take i).map (zgy It)):=by
   obtain ⟨o,es,ep,t,h1,h2⟩:=hs;exact ⟨o,es,ep,t,hk' S o (by simpa using hSI) h1,h2⟩
  have hx:=his1 _ (dE hlt);have nin:∀ x∈xs.take i,x.1≠xs[i].1:=λ x hx e=>by
   obtain ⟨j,hj,ej⟩:=fe hx;rw [aP] at hj;rw [List.getElem_take] at ej;have:j=i:=(List.getElem_inj (i:=j) (j:=i) (h₀:=by rw [ai];lia) (h₁:=by rw [ai];lia) nd).mp (by rw [List.getElem_map,List.getElem_map,ej,e])
   lia
  refine af (cB ?_);unfold setAdd;refine cB (af (It.pyHash hu hx ?_));refine zfP (xs:=(xs.take i).map (zgy It)) (x:=xs[i].2) hs1 (by rw [ai,aP];lia) ((KS.tv hx).up h8) (λ y hy=>?_) (λ y hy Q' z=>?_) λ h'' sb hs2=>?_
  ·obtain ⟨x,hx',rfl⟩:=aN.mp hy;exact (KS.tv (his1 x (gL hx'))).up h8
  ·obtain ⟨x,hx',rfl⟩:=aN.mp hy;have:=It.eq (A:=A.in1) (s:={ s with heap:=h',toks:=tk + It.draws xs[i].1 }) hu (his1 x (gL hx')) hx;rw [aY (nin x hx')] at this;exact this prog w _ _ z
  ·refine ao ⟨plainId_quiet xu _,ih (i + 1) _ (by lia) hlt ?_ ?_ ?_ ?_⟩
   ·have e:∀ b,b≠S->h''.get? b=h'.get? b:=λ b hb=>sb.2 b hb;exact W.frame (i + 1) h' h'' hst' λ b hb o e'=>by
     rw [e b (λ z=>by
      simp only [az,c7,dX] at hb;rcases hb with rfl|rfl
      ·exact hSI z.symm
      ·exact hSp z.symm)]
     exact e'
   ·refine λ x hx'=>KS.kp (λ b items hb=>?_) (his1 x hx');obtain ⟨o,g⟩:=hb;have:b≠S:=λ z=>by
     obtain ⟨o',_,_,_,g1,g2,_⟩:=hs1;rw [z,g1] at g;obtain ⟨e,g3,_⟩:=g;cases e;rw [g2.1] at g3;exact absurd (Value.type.inj g3) (by decide)
    exact ⟨o,(sb.2 b this).trans g.1,g.2⟩
   ·rw [aG,ae hlt,aZ];exact hs2
   ·intro h3 tk3 hk3 hs3;refine hR h3 tk3 (λ b o hb nb e=>hk3 b o hb nb ?_) hs3;rw [sb.2 b nb];exact hk' b o (by simpa using hb) e
end
def tsO (D:Addr) (n:Nat):HO:=.ext λ h=>∃ xs:List (Int × Addr),xs.length=n/\n < 1100/\zaO h D xs
section
variable {X:Cx} {κ:Type} [DecidableEq κ] {d n8:Nat}
theorem XB:∀ {xs:List (κ × Addr)} {us:A7},Vals (xs.map λ x=>V.ref x.2) us->us=xs.map λ x=>Value.ref x.2
 | [],_,.nil=>rfl
 | x :: xs,_,.cons r t=>by cases r;rw [XB t];rfl
def zgF {It:KItem X.prog X.w κ d} (KS:KSet It n8) (h8:n8<=8) (hc:X.calm=true) (hu:X.A.units + 100 < cLine) (hd:d<=50):CallR X (.type "set") (λ vs H Q=>∃ p,∃ xs:List (κ × Addr),vs=[.ref p]/\SqL X.K H p (xs.map λ x=>.ref x.2)/\(xs.map (·.1)).Nodup/\xs.length < 1100/\(∀ h,HOk X.prog X.w H h->∀ x∈xs,It.is h x.1 (.ref x.2))/\∀ l,H l=none->Q (.ref l) (upd H l (tsO l xs.length))):=by
 intro m5 s σ H vs us Q I r h;obtain ⟨p,xs,rfl,hp,nd,sm,hk,q⟩:=h;obtain ⟨u,rfl,rx⟩:=xk r;cases rx;obtain ⟨ni,rv,hl,hz⟩:=I.list hp;have hl':=hl.isList;have hlt:p < s.heap.objs.size:=by obtain ⟨_,e,_⟩:=hl';exact aw e
 refine zbN λ led s₁ e₁=>?_;subst e₁;have hl2:=hl'.push { cls:=.type "set",dict:=none,data:=.set #[] 0 (.fresh 0 0 led) };have hSo:(s.heap.push { cls:=.type "set",dict:=none,data:=.set #[] 0 (.fresh 0 0 led) }).get? s.heap.objs.size=some { cls:=.type "set",dict:=none,data:=.set #[] 0 (.fresh 0 0 led) }:=ay _ rfl;have hT:Shared.TypeIs { s with heap:=s.heap.push { cls:=.type "set",dict:=none,data:=.set #[] 0 (.fresh 0 0 led) } } (.ref p) "list":=by obtain ⟨o,h1,h2,_⟩:=hl2;exact ⟨o,h1,h2⟩
 have f1:=F.sub_list_set;have f2:=F.sub_list_frozenset;unfold Builtin.«set.__init__» noKeywords
 wp_walk using cf hl2
 have hS1:(s.heap.push { cls:=.type "set",dict:=none,data:=.set #[] 0 (.fresh 0 0 led) }).objs.size=s.heap.objs.size + 1:=bz ..;have hits:ni.toArray.toList=xs.map λ x=>Value.ref x.2:=XB rv;refine zcV (A:=X.A.in1.in1) (S:=s.heap.objs.size) (xs:=xs) KS h8 (p:=p) (ni:=ni.toArray) (I.ok.hd hc) ?_ ?_ ?_ ?_ hits nd sm _ 0 _ rfl (b7 _) ⟨⟨_,ay _ rfl,rfl,rfl⟩,hl2.push _⟩ ?_ ?_ λ h' tk hk' hs=>?_
 ·rw [hS1];exact aF (dN hlt)
 ·rw [hS1];exact aF (ci _)
 ·exact dA hlt
 ·simp only [eK];lia
 ·exact λ x hx=>KS.kp (λ b items ⟨o,g⟩=>⟨o,ak _ (ak _ g.1),g.2⟩) (hk _ I.hok x hx)
 ·exact ⟨_,#[],0,_,ak _ hSo,⟨rfl,rfl,rfl⟩,rfl,List.Perm.refl _,rfl,rfl,⟨3,rfl⟩,au 7,show 0 * 5 < 7 * 3 by decide,show 7<=8 * 0 + 7 by decide⟩
 ·refine ao (ao ⟨rfl,.ref s.heap.objs.size,_,I.laid (a:=s.heap.objs.size) (o:=tsO s.heap.objs.size xs.length) (t':=tk) (λ b u e=>?_) (au _) ?_,rfl,q _ (I.hok.fresh (au _))⟩)
  ·have hb:=aw e;exact hk' b u (λ z=>by rw [z,hS1] at hb;exact absurd hb (Nat.not_lt.mpr (di _))) (aF hb) (ak _ (ak _ e))
  ·refine ⟨⟨_,ai ..,sm,hs⟩,?_,?_⟩
   ·obtain ⟨o,_,_,_,g,_⟩:=hs;exact ⟨o,g⟩
   ·rintro h1 h2 ⟨ys,e,l,o,es,ep,t,g,rest⟩ kk;exact ⟨ys,e,l,o,es,ep,t,kk o g,rest⟩
def zgI:CallR X (.builtin "len") (λ xs H Q=>∃ p n,xs=[.ref p]/\H p=some (tsO p n)/\Q (.int n) H):=by
 intro m5 s σ H xs us Q I r h;obtain ⟨p,n,rfl,hp,q⟩:=h;obtain ⟨u,rfl,rx⟩:=xk r;cases rx;obtain ⟨⟨ys,e,l,o,es,ep,t,h1,h2,h3,pm,dm,ps,_,m7,nf,_⟩,_⟩:=(show ObjOk X.prog X.w H s.heap p (tsO p n) from I.hok p _ hp);have hl:es.size=n:=by rw [<- e,<- aM,pm.length_eq,ai]
 have hf:t.fits es.size=true:=by
  simp only [SetTable.fits,SetTable.fill,dm,ps,dY,eZ,bc];show es.size + 0<=t.mask
  lia
 refine call_len_set h1 h2 h3 hf ?_ ⟨.int n,H,I.tok _,⟨_,by rw [hl]⟩,q⟩
 lia
end
end L2
namespace L2
open PySem PySem.Spec PyProof.Rows
structure RoomH (k:Nat) (A:Ao):Prop where
 dp:A.depth + 3 * k + 5 < recursionLimit
 un:A.units + 16 * k + 200 < cLine
structure FnOkH (P:Af) (w:World) (K:A0) (mg:A4) (base:Heap) (k:Nat) (f:Addr) (fd:FuncData) (ps:A8) (sp:Sp):Prop where
 len:∀ vs H Q E,sp vs H Q E->vs.length=ps.length
 run:∀ (A:Ao) (outer:List Env) (s:An) (H:Hp) (args:Args) (us:A7) (vs:Ap) (Q:VK),RoomH k A->Env0 P w K mg base A outer s H->BindsTo s fd args (ps.zip us)->Vals vs us->sp vs H Q (λ _ _ _=>False) ->
  codeAny (model P w) A (.call (.ref f) args) (CR CX0 outer P w H s Q λ _ _ _=>False) s
def CalH (P:Af) (w:World) (K:A0) (mg:A4) (base:Heap) (x:Str) (k:Nat) (ps:A8) (sp:Sp):Prop:=∃ f fd,FnOkH P w K mg base k f fd ps sp/\mg x=some (.ref f)/\keepIn K (.ref f)=true/\Binds K fd ps []
def CalH.mono {P:Af} {w:World} {K:A0} {mg:A4} {base:Heap} {x:Str} {j k:Nat} {ps:A8} {sp:Sp} (h:CalH P w K mg base x j ps sp) (l:j<=k:=by decide):CalH P w K mg base x k ps sp:=by
 obtain ⟨f,fd,F,r⟩:=h;exact ⟨f,fd,⟨F.len,λ A outer s H args us vs Q hr=>F.run A outer s H args us vs Q ⟨by have:=hr.dp;lia,by have:=hr.un;lia⟩⟩,r⟩
section
variable {X:Cx} {x:Str} {p pos:Pos} {e:Expr} {es:List Expr} {t:TA} {k:Nat}
end
end L2
namespace L2
section
variable {G:Prop} {A B C D E F H I:Type}
def iE2 {k:A->B->Prop} (a:A) (b:B) (p:k a b):∃ a b,k a b:=⟨a,b,p⟩
def iE3 {k:A->B->C->Prop} (a:A) (b:B) (c:C) (p:k a b c):∃ a b c,k a b c:=⟨a,b,c,p⟩
def iE4 {k:A->B->C->D->Prop} (a:A) (b:B) (c:C) (d:D) (p:k a b c d):∃ a b c d,k a b c d:=⟨a,b,c,d,p⟩
def iE5 {k:A->B->C->D->E->Prop} (a:A) (b:B) (c:C) (d:D) (e:E) (p:k a b c d e):∃ a b c d e,k a b c d e:=⟨a,b,c,d,e,p⟩
def iE6 {k:A->B->C->D->E->F->Prop} (a:A) (b:B) (c:C) (d:D) (e:E) (f:F) (p:k a b c d e f):∃ a b c d e f,k a b c d e f:=⟨a,b,c,d,e,f,p⟩
def iE7 {k:A->B->C->D->E->F->H->Prop} (a:A) (b:B) (c:C) (d:D) (e:E) (f:F) (g:H) (p:k a b c d e f g):∃ a b c d e f g,k a b c d e f g:=⟨a,b,c,d,e,f,g,p⟩
def iE8 {k:A->B->C->D->E->F->H->I->Prop} (a:A) (b:B) (c:C) (d:D) (e:E) (f:F) (g:H) (i:I) (p:k a b c d e f g i):∃ a b c d e f g i,k a b c d e f g i:=⟨a,b,c,d,e,f,g,i,p⟩
def oE1 {k:A->Prop} (h:∃ a,k a) (w:∀ a,k a->G):G:=by obtain ⟨a,p⟩:=h;exact w a p
def oE2 {k:A->B->Prop} (h:∃ a b,k a b) (w:∀ a b,k a b->G):G:=by obtain ⟨a,b,p⟩:=h;exact w a b p
def oE3 {k:A->B->C->Prop} (h:∃ a b c,k a b c) (w:∀ a b c,k a b c->G):G:=by obtain ⟨a,b,c,p⟩:=h;exact w a b c p
def oE4 {k:A->B->C->D->Prop} (h:∃ a b c d,k a b c d) (w:∀ a b c d,k a b c d->G):G:=by obtain ⟨a,b,c,d,p⟩:=h;exact w a b c d p
def oE5 {k:A->B->C->D->E->Prop} (h:∃ a b c d e,k a b c d e) (w:∀ a b c d e,k a b c d e->G):G:=by obtain ⟨a,b,c,d,e,p⟩:=h;exact w a b c d e p
def oE6 {k:A->B->C->D->E->F->Prop} (h:∃ a b c d e f,k a b c d e f) (w:∀ a b c d e f,k a b c d e f->G):G:=by obtain ⟨a,b,c,d,e,f,p⟩:=h;exact w a b c d e f p
def oE7 {k:A->B->C->D->E->F->H->Prop} (h:∃ a b c d e f g,k a b c d e f g) (w:∀ a b c d e f g,k a b c d e f g->G):G:=by obtain ⟨a,b,c,d,e,f,g,p⟩:=h;exact w a b c d e f g p
def oE8 {k:A->B->C->D->E->F->H->I->Prop} (h:∃ a b c d e f g i,k a b c d e f g i) (w:∀ a b c d e f g i,k a b c d e f g i->G):G:=by obtain ⟨a,b,c,d,e,f,g,i,p⟩:=h;exact w a b c d e f g i p
end
section
variable {G A B C D E F H I J:Prop}
def iA3 (a:A) (b:B) (c:C):A/\B/\C:=⟨a,b,c⟩
def iA4 (a:A) (b:B) (c:C) (d:D):A/\B/\C/\D:=⟨a,b,c,d⟩
def iA5 (a:A) (b:B) (c:C) (d:D) (e:E):A/\B/\C/\D/\E:=⟨a,b,c,d,e⟩
def iA6 (a:A) (b:B) (c:C) (d:D) (e:E) (f:F):A/\B/\C/\D/\E/\F:=⟨a,b,c,d,e,f⟩
def iA7 (a:A) (b:B) (c:C) (d:D) (e:E) (f:F) (g:H):A/\B/\C/\D/\E/\F/\H:=⟨a,b,c,d,e,f,g⟩
def iA8 (a:A) (b:B) (c:C) (d:D) (e:E) (f:F) (g:H) (i:I):A/\B/\C/\D/\E/\F/\H/\I:=⟨a,b,c,d,e,f,g,i⟩
def iA9 (a:A) (b:B) (c:C) (d:D) (e:E) (f:F) (g:H) (i:I) (j:J):A/\B/\C/\D/\E/\F/\H/\I/\J:=⟨a,b,c,d,e,f,g,i,j⟩
def oA2 (h:A/\B) (k:A->B->G):G:=by obtain ⟨a,b⟩:=h;exact k a b
def oA3 (h:A/\B/\C) (k:A->B->C->G):G:=by obtain ⟨a,b,c⟩:=h;exact k a b c
def oA4 (h:A/\B/\C/\D) (k:A->B->C->D->G):G:=by obtain ⟨a,b,c,d⟩:=h;exact k a b c d
def oA5 (h:A/\B/\C/\D/\E) (k:A->B->C->D->E->G):G:=by obtain ⟨a,b,c,d,e⟩:=h;exact k a b c d e
def oA6 (h:A/\B/\C/\D/\E/\F) (k:A->B->C->D->E->F->G):G:=by obtain ⟨a,b,c,d,e,f⟩:=h;exact k a b c d e f
def oA7 (h:A/\B/\C/\D/\E/\F/\H) (k:A->B->C->D->E->F->H->G):G:=by obtain ⟨a,b,c,d,e,f,g⟩:=h;exact k a b c d e f g
def oA8 (h:A/\B/\C/\D/\E/\F/\H/\I) (k:A->B->C->D->E->F->H->I->G):G:=by obtain ⟨a,b,c,d,e,f,g,i⟩:=h;exact k a b c d e f g i
def oA9 (h:A/\B/\C/\D/\E/\F/\H/\I/\J) (k:A->B->C->D->E->F->H->I->J->G):G:=by obtain ⟨a,b,c,d,e,f,g,i,j⟩:=h;exact k a b c d e f g i j
end
end L2
namespace Mine
def zfl {p r:Int} (hp:0<=p) (hr:0 < r):Int.gcd r (p % r)=Int.gcd p r:=by
 have e:(p % r).natAbs=p.natAbs % r.natAbs:=by
  have h1:p=(p.natAbs:Int):=by lia
  have h2:r=(r.natAbs:Int):=by lia
  rw [h1,h2,<- fB,bn,bn,bn]
 show Nat.gcd r.natAbs (p % r).natAbs=Nat.gcd p.natAbs r.natAbs
 rw [e,Nat.gcd_comm p.natAbs,Nat.gcd_rec r.natAbs p.natAbs,Nat.gcd_comm]
def zgw {p:Int} (hp:0<=p):(Int.gcd p 0:Int)=p:=by
 rw [Int.gcd_zero_right];lia
def W3 {a b:Int} (h:¬ (a=0/\b=0)):1<=(Int.gcd a b:Int):=by
 have:0 < Int.gcd a b:=Int.gcd_pos_iff.mpr (by lia)
 lia
end Mine
namespace Mine
structure IsLcm (ns:A6) (l:Int):Prop where
 pos:0 < l
 dv:∀ n∈ns,n ∣ l
 least:∀ m:Int,(∀ n∈ns,n ∣ m)->l ∣ m
def IsLcm.nil:IsLcm [] 1:=⟨by decide,(λ _ h=>nomatch h),λ m _=>gM m⟩
def zhH {a b:Int} (ha:0 < a) (hb:0 < b):a / (Int.gcd a b:Int) * b=(Nat.lcm a.natAbs b.natAbs:Int):=by
 have g:(Int.gcd a b:Int) ∣ a:=Int.gcd_dvd_left ..;obtain ⟨k,hk⟩:=g;have gp:0 < (Int.gcd a b:Int):=by have:=W3 (a:=a) (b:=b) (by lia);lia
 have e1:a / (Int.gcd a b:Int)=k:=by
  conv=>lhs;rw [hk]
  have hk':=hk;rw [cF (Int.gcd a b:Int) k];have e2:Int.gcd (k * (Int.gcd a b:Int)) b=Int.gcd a b:=by rw [cF,<- hk]
  rw [e2];exact Int.mul_ediv_cancel _ (by lia)
 have hkn:0 < k:=by
  rcases (by lia:k<=0\/0 < k) with h|h
  ·have:=e6 (dC gp) h
   lia
  ·exact h
 have hg:Nat.gcd a.natAbs b.natAbs * Nat.lcm a.natAbs b.natAbs=a.natAbs * b.natAbs:=Nat.gcd_mul_lcm ..;have ea:a.natAbs=Nat.gcd a.natAbs b.natAbs * k.natAbs:=by
  have:=bP Int.natAbs hk;rw [Int.natAbs_mul,bn] at this;exact this
 have gp':0 < Nat.gcd a.natAbs b.natAbs:=by
  have:(Nat.gcd a.natAbs b.natAbs:Int)=(Int.gcd a b:Int):=rfl
  lia
 have e3:Nat.lcm a.natAbs b.natAbs=k.natAbs * b.natAbs:=by
  apply fR gp';rw [hg,<- dQ,<- ea]
 rw [e1,e3];rw [fI];have h1:k=(k.natAbs:Int):=by lia
 have h2:b=(b.natAbs:Int):=by lia
 rw [<- h1,<- h2]
def jP {a b:Int} (h:a ∣ b):a.natAbs ∣ b.natAbs:=db.mpr h
def IsLcm.step {ns:A6} {l p:Int} (x:IsLcm ns l) (hp:0 < p):IsLcm (ns ++ [p]) (l / (Int.gcd l p:Int) * p):=by
 rw [zhH x.pos hp];have lp:0 < l.natAbs:=by have:=x.pos;lia
 have pp:0 < p.natAbs:=by lia
 refine ⟨?_,λ n hn=>?_,λ m hm=>?_⟩
 ·have:=Nat.lcm_pos lp pp
  lia
 ·rcases aB.mp hn with h|h
  ·have h1:=x.dv n h;refine Int.dvd_trans h1 ?_;rw [<- db,bn];exact Nat.dvd_lcm_left ..
  ·rw [ap.mp h,<- db,bn];exact Nat.dvd_lcm_right ..
 ·have h1:=x.least m λ n hn=>hm n (bS _ hn);have h2:=hm p (a7 _ (ap.mpr rfl));rw [<- db,bn];exact Nat.lcm_dvd (jP h1) (jP h2)
def W4 {a b:Int} (hb:0 < b):(Int.gcd a b:Int)<=b:=Int.le_of_dvd hb (dO ..)
end Mine
namespace Mine
def QP (top bottom:Int):Int:=if bottom < 0 then -(Int.gcd top bottom:Int) else (Int.gcd top bottom:Int)
def jS (top bottom:Int):Int:=top.fdiv (QP top bottom)
def ratB (top bottom:Int):Int:=bottom.fdiv (QP top bottom)
def wK {p t:Int} (h:p≠0):(p * t).fdiv p=t:=by
 rw [cF];exact Int.mul_fdiv_cancel t h
def Zj {top bottom:Int} (h:bottom≠0):∃ p t b,QP top bottom=p/\p≠0/\top=p * t/\bottom=p * b/\1<=b/\Int.gcd t b=1/\p.natAbs<=bottom.natAbs:=by
 have gp:=W3 (a:=top) (b:=bottom) (by lia);obtain ⟨t,ht⟩:=Int.gcd_dvd_left (a:=top) (b:=bottom);obtain ⟨b,hb⟩:=dO (a:=top) (b:=bottom);have hg:Int.gcd t b=1:=by
  have e:Int.gcd ((Int.gcd top bottom:Int) * t) ((Int.gcd top bottom:Int) * b)=(Int.gcd top bottom:Int).natAbs * Int.gcd t b:=Int.gcd_mul_left ..;rw [<- ht,<- hb,bn] at e;have gp':0 < Int.gcd top bottom:=by lia
  exact (fR gp' (by rw [gI];exact e)).symm
 have hle:(Int.gcd top bottom:Int).natAbs<=bottom.natAbs:=by
  rw [bn];exact Nat.le_of_dvd (by lia) (jP (dO ..) |> λ z=>by rwa [bn] at z)
 unfold QP;by_cases hs:bottom < 0
 ·rw [ax hs];refine ⟨_,-t,-b,rfl,by lia,by rw [Int.neg_mul_neg];exact ht,by rw [Int.neg_mul_neg];exact hb,?_,by rw [Int.gcd_neg,Int.neg_gcd];exact hg,by rw [Int.natAbs_neg];exact hle⟩;rcases (by lia:b < 0\/0<=b) with z|z
  ·lia
  ·have:=Int.mul_nonneg (bV (Int.gcd top bottom)) z
   lia
 ·rw [aq hs];refine ⟨_,t,b,rfl,by lia,ht,hb,?_,hg,hle⟩;rcases (by lia:b<=0\/0 < b) with z|z
  ·have:=e6 (bV (Int.gcd top bottom)) z
   lia
  ·lia
structure Low (top bottom t b:Int):Prop where
 b1:1<=b
 v:t * bottom=top * b
 g:Int.gcd t b=1
def WJ {top bottom:Int} (h:bottom≠0):Low top bottom (jS top bottom) (ratB top bottom):=by
 obtain ⟨p,t,b,e,hp,ht,hb,b1,g,_⟩:=Zj (top:=top) h;unfold jS ratB;rw [e];have e1:top.fdiv p=t:=by rw [ht];exact wK hp
 have e2:bottom.fdiv p=b:=by rw [hb];exact wK hp
 rw [e1,e2];refine ⟨b1,?_,g⟩;rw [ht,hb,<- fX,cF t p]
def vz {b t c:Int} (g:Int.gcd b t=1) (h:b ∣ t * c):b ∣ c:=by
 have e:=Int.gcd_mul_right_right_of_gcd_eq_one (k:=c) g;have e2:Int.gcd b (t * c)=b.natAbs:=by
  show Nat.gcd b.natAbs (t * c).natAbs=b.natAbs
  exact Nat.gcd_eq_left (jP h)
 have e3:(b.natAbs:Int) ∣ c:=by
  rw [<- e2,e];exact dO ..
 exact Int.natAbs_dvd.mp e3
def zeV {t b t' b':Int} (h1:1<=b) (h2:1<=b') (e:t * b'=t' * b) (g:Int.gcd t b=1) (g':Int.gcd t' b'=1):t=t'/\b=b':=by
 have d1:b ∣ b':=by
  have:b ∣ t * b':=⟨t',by rw [e,cF]⟩;exact vz (by rw [Int.gcd_comm];exact g) this
 have d2:b' ∣ b:=by
  have:b' ∣ t' * b:=⟨t,by rw [<- e,cF]⟩;exact vz (by rw [Int.gcd_comm];exact g') this
 have eb:b=b':=Int.dvd_antisymm (by lia) (by lia) d1 d2;subst eb;exact ⟨fO (by lia) e,rfl⟩
def zeW {top bottom top' bottom' t b t' b':Int} (x:Low top bottom t b) (y:Low top' bottom' t' b') (h:bottom≠0) (h':bottom'≠0) (e:top * bottom'=top' * bottom):t=t'/\b=b':=by
 refine zeV x.b1 y.b1 ?_ x.g y.g;have e1:=x.v;have e2:=y.v;have k:(t * b') * (bottom * bottom')=(t' * b) * (bottom * bottom'):=by
  calc (t * b') * (bottom * bottom')=(t * bottom) * (b' * bottom'):=by ac_rfl
   _=(top * b) * (b' * bottom'):=by rw [e1]
   _=(top * bottom') * (b * b'):=by ac_rfl
   _=(top' * bottom) * (b * b'):=by rw [e]
   _=(top' * b') * (b * bottom):=by ac_rfl
   _=(t' * bottom') * (b * bottom):=by rw [<- e2]
   _=(t' * b) * (bottom * bottom'):=by ac_rfl
 exact fO (Int.mul_ne_zero h h') k
def zeq {top bottom top' bottom':Int} (h:bottom≠0) (h':bottom'≠0) (e:top * bottom'=top' * bottom):jS top bottom=jS top' bottom'/\ratB top bottom=ratB top' bottom' :=
 zeW (WJ h) (WJ h') h h' e
def wj {p t:Int} (h:p≠0):t.natAbs<=(p * t).natAbs:=by
 rw [Int.natAbs_mul];exact Nat.le_mul_of_pos_left _ (by lia)
def zc6 {top bottom:Int} (h:bottom≠0):(jS top bottom).natAbs<=top.natAbs/\(ratB top bottom).natAbs<=bottom.natAbs:=by
 obtain ⟨p,t,b,e,hp,ht,hb,_⟩:=Zj (top:=top) h;unfold jS ratB;rw [e];have e1:top.fdiv p=t:=by rw [ht];exact wK hp
 have e2:bottom.fdiv p=b:=by rw [hb];exact wK hp
 rw [e1,e2,ht,hb];exact ⟨wj hp,wj hp⟩
def Jn {n:Nat} (h:n < 10 ^ 61):n < 2 ^ 8000 :=
 fo h (fo (show 10 ^ 61 < 2 ^ 250 by decide +kernel) (gG (by decide) (by decide)))
def zgg {top bottom:Int} (h:bottom≠0):QP top bottom≠0/\(QP top bottom).natAbs<=bottom.natAbs:=by
 obtain ⟨p,t,b,e,hp,ht,hb,_,_,hl⟩:=Zj (top:=top) h;rw [e];exact ⟨hp,hl⟩
def zgS (a b:Int):Int.gcd (if a < 0 then -a else a) (if b < 0 then -b else b)=Int.gcd a b:=by
 have e1:(if a < 0 then -a else a).natAbs=a.natAbs:=by split <;> lia
 have e2:(if b < 0 then -b else b).natAbs=b.natAbs:=by split <;> lia
 show Nat.gcd _ _=Nat.gcd _ _
 rw [e1,e2]
end Mine
namespace L2
open PySem PySem.Spec PyProof.Rows
variable {i:Int} {v:V} {xs:Ap} {CX:CXT} {P:Af} {w:World} {mg:A4} {base:Heap} {N:A8} {qual:Str} {scope:Scope} {f:Addr} {cd:Am} {A:Ao} {s:An} {E:XK} {n:Nat}
section
variable {X:Cx} {K:A0} {σ:St} {H:Hp} {Q:VK} {D:Ends}
theorem rd_iq {P:Int->Prop}:iq (.int i) P=P i:=rfl
theorem rd_bq {b:Bool} {P:Bool->Prop}:bq (.bl b) P=P b:=rfl
theorem rd_nq {P:Prop}:nq .non P=P:=rfl
theorem rd_lq {P:V->Prop}:lq [v] P=P v:=rfl
theorem rd_vq {P:V->Prop}:vq (some (some v)) P=P v:=rfl
theorem rd_addI {i j:Int}:VW K (.int i) (.int j) H Q=Q (.int (i + j)) H:=rfl
theorem rd_addS {i j:Str}:VW K (.str i) (.str j) H Q=(i.length + j.length<=sizeLine/\Q (.str (i ++ j)) H):=rfl
theorem rd_mc {α β:Type} {f:α->β} {a:α} {l:List α}:List.map f (a :: l)=f a :: List.map f l:=rfl
theorem rd_mn {α β:Type} {f:α->β}:List.map f []=[]:=rfl
theorem rd_itT {A B:Prop}:(if true=true then A else B)=A:=rfl
theorem rd_itF {A B:Prop}:(if false=true then A else B)=B:=rfl
theorem rd_is0 {A B:Prop}:(if V.non=V.non then A else B)=A:=rfl
theorem rd_is1 {a:Addr} {A B:Prop}:(if V.ref a=V.non then A else B)=B:=rfl
theorem rd_is2 {a:Int} {A B:Prop}:(if V.int a=V.non then A else B)=B:=rfl
theorem rd_in0 {A B:Prop}:(if ¬ V.non=V.non then A else B)=B:=rfl
theorem rd_in1 {a:Addr} {A B:Prop}:(if ¬ V.ref a=V.non then A else B)=A:=rfl
theorem rd_in2 {a:Int} {A B:Prop}:(if ¬ V.int a=V.non then A else B)=A:=rfl
theorem rd_sz0 {P:Prop}:szl [] P=P:=rfl
section
variable {P:Prop} {a b c d e f g h i:V}
theorem rd_sz1:szl [a] P=P:=rfl
theorem rd_sz2:szl [a,b] P=P:=rfl
theorem rd_sz3:szl [a,b,c] P=P:=rfl
theorem rd_sz4:szl [a,b,c,d] P=P:=rfl
theorem rd_sz5:szl [a,b,c,d,e] P=P:=rfl
theorem rd_sz6:szl [a,b,c,d,e,f] P=P:=rfl
theorem rd_sz7:szl [a,b,c,d,e,f,g] P=P:=rfl
theorem rd_sz8:szl [a,b,c,d,e,f,g,h] P=P:=rfl
theorem rd_sz9:szl [a,b,c,d,e,f,g,h,i] P=P:=rfl
end
noncomputable def zcr:Nat->List Stmt->Bool
 | 0,_=>false
 | n + 1,b=>match b.getLast? with
  | some (.Return ..)=>true
  | some (.Raise ..)=>true
  | some (.Continue ..)=>true
  | some (.Break ..)=>true
  | some (.If _ b e _)=>zcr n b && zcr n e
  | _=>false
noncomputable def ziP:Stmt->Bool
 | .For ..=>true
 | .While ..=>true
 | .Try ..=>true
 | .If _ b e _=>!zcr 9 b && !zcr 9 e
 | _=>false
def fa {X:Cx} {st:Stmt} {t:TS} (_:ziP st=true) (p:PS X st t):PS X st t:=p
structure Vr (X:Cx) (i:Nat) (x:Str):Prop where
 n:X.N[i]?=some x
 v:Vis X.env.scope x
 d:(x == ("__debug__":Str))=false
 c:(x == ("__classdict__":Str))=false
def pq {X:Cx} (i:Nat) {x:Str} {pos:Pos} (h:Vr X i x:=by walk_at "v"):PE X (.Name x pos) (tVar i):=zht h.n h.v h.d h.c
theorem rd_trB {b:Bool} {P:Bool->Hp->Prop}:trq K (.bl b) H P=P b H:=rfl
theorem rd_trI {P:Bool->Hp->Prop}:trq K (.int i) H P=∃ k,zdU K (.int i) H k/\P k H:=rfl
theorem rd_trR {a:Addr} {P:Bool->Hp->Prop}:trq K (.ref a) H P=∃ k,zdU K (.ref a) H k/\P k H:=rfl
theorem rd_trS {x:Str} {P:Bool->Hp->Prop}:trq K (.str x) H P=∃ k,zdU K (.str x) H k/\P k H:=rfl
theorem rd_eqI {i j:Int}:VV K (.int i) (.int j) H Q=Q (.bl (decide (i=j))) H:=rfl
theorem rd_neI {i j:Int}:zbk K (.int i) (.int j) H Q=Q (.bl (!decide (i=j))) H:=rfl
theorem rd_eqS {i j:Str}:VV K (.str i) (.str j) H Q=Q (.bl (decide (i=j))) H:=rfl
theorem rd_eqB {i j:Bool}:VV K (.bl i) (.bl j) H Q=Q (.bl (decide (i=j))) H:=rfl
theorem rd_eTI {i j:Int}:zc8 K (.int i) (.int j) H Q=if i=j then Q (.bl true) H else Q (.bl false) H:=rfl
theorem rd_eTS {i j:Str}:zc8 K (.str i) (.str j) H Q=if i=j then Q (.bl true) H else Q (.bl false) H:=rfl
theorem rd_eTB {i j:Bool}:zc8 K (.bl i) (.bl j) H Q=if i=j then Q (.bl true) H else Q (.bl false) H:=rfl
theorem rd_nTI {i j:Int}:zc7 K (.int i) (.int j) H Q=if ¬ i=j then Q (.bl true) H else Q (.bl false) H:=rfl
theorem rd_nTS {i j:Str}:zc7 K (.str i) (.str j) H Q=if ¬ i=j then Q (.bl true) H else Q (.bl false) H:=rfl
theorem rd_nTB {i j:Bool}:zc7 K (.bl i) (.bl j) H Q=if ¬ i=j then Q (.bl true) H else Q (.bl false) H:=rfl
theorem rd_eTR {a b:Addr}:zc8 K (.ref a) (.ref b) H Q=VV K (.ref a) (.ref b) H Q:=rfl
theorem rd_nTR {a b:Addr}:zc7 K (.ref a) (.ref b) H Q=zbk K (.ref a) (.ref b) H Q:=rfl
def rd_fvI {P:Str->Prop} {R:Str->Prop}:((∃ j,V.int i=V.int j/\j.natAbs.log2 < 1920/\P (toString j))\/(∃ y,V.int i=V.str y/\y.length<=sizeLine/\R y)) ↔ i.natAbs.log2 < 1920/\P (toString i) :=
 ⟨λ h=>h.elim (λ ⟨_,e,h⟩=>by cases e;exact h) (λ ⟨_,e,_⟩=>nomatch e),λ h=>.inl ⟨i,rfl,h⟩⟩
def rd_strS {y:Str} {P:Str->Prop}:(∃ z,V.str y=V.str z/\P z) ↔ P y:=⟨λ ⟨_,e,h⟩=>by cases e;exact h,λ h=>⟨y,rfl,h⟩⟩
theorem rd_c0:((0:Nat):Int)=0:=rfl
theorem rd_c1:((1:Nat):Int)=1:=rfl
theorem rd_c2:((2:Nat):Int)=2:=rfl
theorem rd_c3:((3:Nat):Int)=3:=rfl
theorem rd_c4:((4:Nat):Int)=4:=rfl
theorem rd_c5:((5:Nat):Int)=5:=rfl
theorem rd_c6:((6:Nat):Int)=6:=rfl
def vG {p:Addr} {k:Int} {j:Nat} {R:Hp->Prop} (h:H p=some (.lst xs)) (e:ixN xs.length k=some j) (q:R (upd H p (.lst (xs.set j v)))):zg2 (.ref p) (.int k) v H R:=⟨p,xs,k,j,rfl,rfl,h,e,q⟩
def J2 {k:Int} (h0:0<=k) (h1:k < n):ixN n k=some k.toNat:=by unfold ixN;rw [ax h0,ax h1]
theorem cx_K {K:A0} {outer:List Env} {H:Hp}:(QX CX P w K mg base N qual scope f cd A outer s H E).K=K:=rfl
theorem cx_mg {K:A0} {outer:List Env} {H:Hp}:(QX CX P w K mg base N qual scope f cd A outer s H E).mg=mg:=rfl
theorem cx_prog {K:A0} {outer:List Env} {H:Hp}:(QX CX P w K mg base N qual scope f cd A outer s H E).prog=P:=rfl
theorem cx_w {K:A0} {outer:List Env} {H:Hp}:(QX CX P w K mg base N qual scope f cd A outer s H E).w=w:=rfl
theorem cx_base {K:A0} {outer:List Env} {H:Hp}:(QX CX P w K mg base N qual scope f cd A outer s H E).base=base:=rfl
def rd_cpow {n:Int}:zi7 10 n ↔ 0<=n/\n<=1000000:=⟨λ h=>⟨h.1,h.2.1⟩,λ h=>⟨h.1,h.2,by decide⟩⟩
def rd_isiI:zes K [.int i,.ty "int"] H Q ↔ Q (.bl true) H:=by
 refine ⟨λ h=>?_,λ q=>⟨_,_,_,_,rfl,.old (.int i),.inl ⟨_,rfl,QD⟩,q⟩⟩;obtain ⟨x,c,t,b,e,ty,k,q⟩:=h;cases e;rcases k with ⟨u,hu,k⟩|⟨_,_,_,e,_⟩
 ·cases hu;cases ty with|old ty=>cases ty;rw [QD] at k;cases k;exact q
 ·cases e
def rd_isiIB:zes K [.int i,.ty "bool"] H Q ↔ Q (.bl false) H:=by
 refine ⟨λ h=>?_,λ q=>⟨_,_,_,_,rfl,.old (.int i),.inl ⟨_,rfl,ZO⟩,q⟩⟩;obtain ⟨x,c,t,b,e,ty,k,q⟩:=h;cases e;rcases k with ⟨u,hu,k⟩|⟨_,_,_,e,_⟩
 ·cases hu;cases ty with|old ty=>cases ty;rw [ZO] at k;cases k;exact q
 ·cases e
def rd_isiB {i:Bool}:zes K [.bl i,.ty "bool"] H Q ↔ Q (.bl true) H:=by
 refine ⟨λ h=>?_,λ q=>⟨_,_,_,_,rfl,.old (.bl i),.inl ⟨_,rfl,vS⟩,q⟩⟩;obtain ⟨x,c,t,b,e,ty,k,q⟩:=h;cases e;rcases k with ⟨u,hu,k⟩|⟨_,_,_,e,_⟩
 ·cases hu;cases ty with|old ty=>cases ty;rw [vS] at k;cases k;exact q
 ·cases e
def rd_isiS {i:Str}:zes K [.str i,.ty "str"] H Q ↔ Q (.bl true) H:=by
 refine ⟨λ h=>?_,λ q=>⟨_,_,_,_,rfl,.old (.str i),.inl ⟨_,rfl,QC⟩,q⟩⟩;obtain ⟨x,c,t,b,e,ty,k,q⟩:=h;cases e;rcases k with ⟨u,hu,k⟩|⟨_,_,_,e,_⟩
 ·cases hu;cases ty with|old ty=>cases ty;rw [QC] at k;cases k;exact q
 ·cases e
def WH {a b:Addr} {xs ys:Ap} (h1:SqL K H a xs) (h2:SqL K H b ys) (hl:xs.length + ys.length<=sizeLine) (q:∀ p,H p=none->Q (.ref p) (upd H p (.lst (xs ++ ys)))):VW K (.ref a) (.ref b) H Q :=
 show zet K _ _ H Q from ⟨a,b,xs,ys,rfl,rfl,h1,h2,hl,q⟩
def Q2 (h:n<=1000):n<=sizeLine:=bw (zk h)
def ql {a:Addr} {DN:St->Hp->Prop} {B:(St->Hp->Prop)->V->St->Hp->Prop} (Pv:Nat->St->Hp->Prop) (h0:Pv 0 σ H) (hl:∀ i σ H,i<=xs.length->Pv i σ H->SqL K H a xs)
  (hs:∀ i x σ H,xs[i]?=some x->Pv i σ H->B (Pv (i + 1)) x σ H) (hd:∀ σ H,Pv xs.length σ H->DN σ H) :
  ∃ W:Nat->Nat->St->Hp->Prop,(∃ m,W 0 m σ H)/\∀ i m σ H,W i m σ H ->
   ((Itl K a).stop i H/\DN σ H)\/((Itl K a).go i H/\∃ N:St->Hp->Prop,(∀ σ' H',N σ' H'->∃ m',m' < m/\W (i + 1) m' σ' H')/\∀ x H',(Itl K a).yld i H x H'->B N x σ H'):=by
 refine ⟨λ i m σ H=>m=xs.length - i/\i<=xs.length/\Pv i σ H,⟨xs.length,by simp,b7 _,h0⟩,?_⟩;rintro i m σ H ⟨rfl,hi,p⟩;have q:=hl i σ H hi p;by_cases hlt:i < xs.length
 ·refine .inr ⟨⟨xs,xs[i],q,by simp [hlt]⟩,Pv (i + 1),λ σ' H' p'=>⟨xs.length - (i + 1),by lia,rfl,hlt,p'⟩,λ x H' y=>?_⟩;obtain ⟨e,y⟩:=y;subst e;exact hs i x σ _ (y xs q) p
 ·have e:i=xs.length:=by lia
  subst e;exact .inl ⟨⟨xs,q,au _⟩,hd σ H p⟩
def ZR {lo:Int} {DN:St->Hp->Prop} {B:(St->Hp->Prop)->V->St->Hp->Prop} (Pv:Nat->St->Hp->Prop) (h0:Pv 0 σ H)
  (hs:∀ i σ H,i < n->Pv i σ H->B (Pv (i + 1)) (.int (lo + i)) σ H) (hd:∀ σ H,Pv n σ H->DN σ H) :
  ∃ W:Nat->Nat->St->Hp->Prop,(∃ m,W 0 m σ H)/\∀ i m σ H,W i m σ H ->
   ((Itr lo n).stop i H/\DN σ H)\/((Itr lo n).go i H/\∃ N:St->Hp->Prop,(∀ σ' H',N σ' H'->∃ m',m' < m/\W (i + 1) m' σ' H')/\∀ x H',(Itr lo n).yld i H x H'->B N x σ H'):=by
 refine ⟨λ i m σ H=>m=n - i/\i<=n/\Pv i σ H,⟨n,by simp,b7 _,h0⟩,?_⟩;rintro i m σ H ⟨rfl,hi,p⟩;by_cases hlt:i < n
 ·refine .inr ⟨hlt,Pv (i + 1),λ σ' H' p'=>⟨n - (i + 1),by lia,rfl,hlt,p'⟩,λ x H' y=>?_⟩;obtain ⟨e,y⟩:=y;subst e y;exact hs i σ _ hlt p
 ·have e:i=n:=by lia
  subst e;exact .inl ⟨au _,hd σ H p⟩
def zhq {a b:Addr} {xs ys:Ap} (hn:n<=8) (h1:SqL K H a xs) (h2:SqL K H b ys) (hl:xs.length=ys.length) (hde:∀ (j:Nat) (x y:V),xs[j]?=some x->ys[j]?=some y->DE K H n x y true) (q:Q (.bl false) H):zbk K (.ref a) (.ref b) H Q :=
 .inr (.inr ⟨a,b,xs,ys,n,λ _=>true,rfl,rfl,hn,hde,.inl ⟨h1,h2,hl,by rw [aS.mpr (λ _ _=>rfl)];exact q⟩⟩)
def zbj {a:Addr} {lo hi:A9} (h:SqL K H a xs) (q:∀ p,H p=none->Q (.ref p) (upd H p (.lst (Va xs lo hi)))):zhr K (.ref a) lo hi H Q:=⟨a,xs,rfl,h,q⟩
def upd_keep {a b:Addr} {o u:HO} (h:H b=some u) (ha:H a=none):upd H a o b=some u:=by rw [nF (nH h ha)];exact h
def nI:=@upd_keep
def zg {a:Addr} {o:HO} (ha:H a=none):Same H (upd H a o):=λ _ _ h=>nI h ha
def rd_ixT {a:Addr} (h:H a=some (.tup xs)) (e:atI xs i=some v) (q:Q v H):rIx K (.ref a) (.int i) H Q:=.inr (.inl ⟨a,xs,i,v,rfl,rfl,SqT.of h,e,q⟩)
def nJ:=@rd_ixT
def zp {a:Addr} (h:SqL K H a xs) (e:atI xs i=some v) (q:Q v H):rIx K (.ref a) (.int i) H Q:=.inl ⟨a,xs,i,v,rfl,rfl,h,e,q⟩
def zf5 {N0:St->Hp->Prop} {B:(St->Hp->Prop)->Prop} (h:B N0):∃ N:St->Hp->Prop,(∀ σ' H',N σ' H'->N0 σ' H')/\B N:=⟨N0,λ _ _ h=>h,h⟩
end
end L2
set_option hygiene false
local macro_rules | `(tactic| walk_at "v")=>`(tactic| exact ⟨rfl,by first|exact Or.inl rfl|exact Or.inr (Or.inl rfl)|exact Or.inr (Or.inr rfl),by decide,by decide⟩)
local macro_rules | `(tactic| walk_at "f") => do
 let f:=fun (s:String)=>Lean.mkIdent (if s.front == '.' then "L2"++s else s).toName
 let a ← (".start .tDNewT .sDPut .tDIn .tDGet .tSIn .tSGet .sSPut .tSNew .tB .rd_mc .rd_mn List.length_cons List.length_nil cons_append nil_append .tSeq .tAsg .gName .tC .tOp .tUn .tTest .tIfS .tRet .tNext .tDrop .tNot .tOr .tAndV .tCons .tNil .tTup .tLst .tBi .tVar ↓.rd_vq .rd_vq ↓.rd_iq .rd_iq ↓.rd_bq .rd_bq ↓.rd_nq .rd_nq ↓.rd_lq .rd_lq ↓.rd_itT .rd_itT ↓.rd_itF .rd_itF ↓.rd_is0 .rd_is0 ↓.rd_is1 .rd_is1 ↓.rd_is2 .rd_is2 ↓.rd_in0 .rd_in0 ↓.rd_in1 .rd_in1 ↓.rd_in2 .rd_in2 .rI .rI0 .rU .rT .ipI .tTru .rd_trB .rd_trI .rd_trR .rd_trS .tAug .rd_addI .rd_addS .rd_eqI .rd_neI .rd_eqS .rd_eqB .rd_eTI .rd_eTS .rd_eTB .rd_eTR .rd_nTI .rd_nTR .rd_nTS .rd_nTB .rd_fvI .rd_strS .rd_sz0 .rd_sz1 .rd_sz2 .rd_sz3 .rd_sz4 .rd_sz5 .rd_sz6 .rd_sz7 .gSub .rd_sz8 .rd_sz9 .cx_K .cx_mg .cx_prog .cx_w .cx_base .gTup .gCons .gNil .tCl .tGl .tChain .tRaise .sFld .tFld .tMk .tMth .tBM .tSl .tNoPart .tPart .tClN .tMkN .tMthN .tBase .tYes .tRg1 .tIf .cxC_K .cxC_mg .cxC_prog .cxC_w .cxC_base eq_self reduceCtorEq decide_false Option.getD_some Option.getD_none List.getElem?_cons_zero List.getElem?_cons_succ List.set_cons_zero List.set_cons_succ List.replicate Nat.reduceSub Nat.reduceAdd true_and and_true .rd_cpow Int.reduceToNat Int.reducePow Int.reduceLT Int.reduceLE Int.reduceNeg .fdiv_pos .rd_isiI .rd_isiIB .rd_isiB .rd_isiS Bool.not_true Bool.not_false Bool.false_eq_true reduceIte decide_true decide_eq_true_eq Bool.true_eq_false Bool.not_eq_true' decide_eq_false_iff_not .rd_c0 .rd_c1 .rd_c2 .rd_c3 .rd_c4 .rd_c5 .rd_c6 Int.reduceEq not_true_eq_false not_false_eq_true Int.reduceMul Int.reduceAdd Int.reduceSub".splitOn " ").toArray.mapM fun s=>if s.front == '↓' then `(Lean.Parser.Tactic.simpLemma| ↓$(f (s.drop 1).toString):term) else `(Lean.Parser.Tactic.simpLemma| $(f s):term)
 `(tactic| (simp only [$a,*]))
local macro_rules | `(tactic| walk_at "r")=>`(tactic| try walk_at "f")
local macro_rules | `(tactic| walk_at "m")=>`(tactic| (refine L2.rd_ixT (by assumption) rfl ?_;try walk_at "f"))
local macro_rules | `(tactic| walk_at "h")=>`(tactic| first|assumption|exact L2.mul_okR (by decide) (by decide)|exact L2.mul_okL (by decide) (by decide)|exact L2.mul_okR (by lia) (by lia)|exact L2.mul_okL (by lia) (by lia)|exact L2.fd_ok (by decide) (by decide +kernel)|decide|lia|exact L2.fd_small (by lia) (by lia))
local macro_rules | `(tactic| walk_at "n")=>`(tactic| repeat (refine And.intro (by walk_at "h") ?_))
local macro_rules | `(tactic| walk_at "e")=>`(tactic| (walk_at "a";(try simp only [L2.tFor,L2.iSeq,L2.iRng1,L2.iRng3,L2.iEnum,L2.iZip]);try walk_at "f"))
local macro_rules | `(tactic| walk_at "d")=>`(tactic| (walk_at "a";(try simp only [L2.tLc,L2.iSeq,L2.stC,L2.iRng1,L2.iRng3,L2.iEnum,L2.iZip]);try walk_at "f"))
local macro_rules | `(tactic| walk_at "a")=>`(tactic| repeat (first|walk_at "f" | refine And.intro (by assumption) ?_|refine L2.nxt λ Nq_ hNq_=>?_|refine L2.useN (by assumption) ?_))
local macro_rules | `(tactic| walk_at "l")=>`(tactic| first|assumption|exact ba (by assumption)|exact L2.ne_of_none (by assumption) (by assumption)|exact ba (L2.ne_of_none (by assumption) (by assumption)))
local macro_rules | `(tactic| walk_at "g")=>`(tactic| first|assumption|exact L2.upd_same|(refine L2.upd_keep ?_ (by assumption);walk_at "g")|(rw [L2.upd_ne (by walk_at "l")];walk_at "g"))
set_option hygiene false
local macro_rules | `(tactic| walk_at "i")=>`(tactic| (intro vs H Q E h;first|(cases h;subst_vars;rfl)|repeat (first|(obtain ⟨rfl,_⟩:=h;rfl)|obtain ⟨_,h⟩:=h)))
local macro_rules | `(tactic| walk_at "j")=>`(tactic| intro cdv A outer s H vs Q EX hr h)
local macro_rules | `(tactic| walk_at "k")=>`(tactic| intro cdv A outer s H vs Q E hr h)
seal L2.PE L2.PT L2.PA L2.PS L2.PSs L2.PC L2.PG L2.PGs L2.PI L2.PO L2.PK
namespace K44
open PySem L2 Mine
local macro_rules | `(tactic| exists $t)=>`(tactic| (walk_at "a";refine $t))
local macro_rules | `(tactic| left)=>`(tactic| walk_at "a")
local macro_rules | `(tactic| right)=>`(tactic| first|decide +kernel|kernel_rfl)
local macro_rules | `(tactic| symm)=>`(tactic| decide +kernel)
local macro_rules | `(tactic| ext)=>`(tactic| (clear m8 nh;subst n6))
local macro_rules | `(‹$f $x*›)=>`((zN ⟨rfl,rfl,rfl⟩ hr (za $f $x*)))
variable {H:Hp} {p:A5} {bs:A1} {i n k j:Nat} {v:V} {vs:Ap} {b C:Addr} {ks ns:A6} {K:A0} {fs:Ar} {L pc:Int} {o:HO} {ps:A8} {wd:Wd}
noncomputable def top (i:Nat):Stmt:=PySem.Challenge.pw_beltshares_k44_whole_made_works_are_even.main.body.getD i (.Pass ⟨0,0,0,0⟩)
local macro_rules | `(tactic| walk_at "c")=>`(tactic| exact ⟨rfl,rfl,rfl,by symm,rfl,by symm,by symm⟩)
noncomputable abbrev xF:Stmt:=zY (top 12) 0
def WE:FnScope ["self","room","pace"] ["self","room","pace"] (zc xF):=by walk_at "c"
noncomputable abbrev wB:Stmt:=top 17
def Xr:FnScope ["pace","least"] ["pace","least"] (zc wB):=by walk_at "c"
noncomputable abbrev wC:Stmt:=top 18
def Xs:FnScope ["kind"] ["kind"] (zc wC):=by walk_at "c"
noncomputable abbrev wy:Stmt:=top 19
def Xp:FnScope ["belts"] ["belts"] (zc wy):=by walk_at "c"
noncomputable abbrev xV:Stmt:=top 20
def Jr:FnScope ["wanted","side","step","place"] ["wanted","side"] (zc xV):=by walk_at "c"
noncomputable abbrev jF:Stmt:=top 21
def Zy:FnScope ["head","free","side"] ["head","free","side"] (zc jF):=by walk_at "c"
noncomputable abbrev qR:Stmt:=zY (top 22) 0
def WD:FnScope ["self","ins","outs"] ["self","ins","outs"] (zc qR):=by walk_at "c"
noncomputable abbrev jL:Stmt:=zY (top 23) 0
def Ju:FnScope ["self","out","pace","kinds","kind"] ["self","out","pace","kinds"] (zc jL):=by walk_at "c"
noncomputable abbrev j5:Stmt:=zY (top 23) 1
def Qb:FnScope ["self","heads","free","turn","side"] ["self","heads","free","turn","side"] (zc j5):=by walk_at "c"
noncomputable abbrev jZ:Stmt:=zY (top 23) 2
def Qa:FnScope ["self"] ["self"] (zc jZ):=by walk_at "c"
noncomputable abbrev xf:Stmt:=zY (top 24) 0
def Xu:FnScope ["self","into","pace"] ["self","into","pace"] (zc xf):=by walk_at "c"
noncomputable abbrev xt:Stmt:=zY (top 24) 1
def QN:FnScope ["self","heads","free","turn","side"] ["self","heads","free","turn","side"] (zc xt):=by walk_at "c"
noncomputable abbrev xr:Stmt:=zY (top 24) 2
def QM:FnScope ["self"] ["self"] (zc xr):=by walk_at "c"
noncomputable abbrev jM:Stmt:=zY (top 25) 0
def Jv:FnScope ["self","into","outs"] ["self","into","outs"] (zc jM):=by walk_at "c"
noncomputable abbrev j7:Stmt:=zY (top 25) 1
def Qd:FnScope ["self","heads","free","turn","side","place"] ["self","heads","free","turn","side"] (zc j7):=by walk_at "c"
noncomputable abbrev j6:Stmt:=zY (top 25) 2
def Qc:FnScope ["self"] ["self"] (zc j6):=by walk_at "c"
noncomputable abbrev jN:Stmt:=zY (top 26) 0
def Jw:FnScope ["self","ins","out"] ["self","ins","out"] (zc jN):=by walk_at "c"
noncomputable abbrev jh:Stmt:=zY (top 26) 1
def Qf:FnScope ["self","heads","free","turn","side","place"] ["self","heads","free","turn","side"] (zc jh):=by walk_at "c"
noncomputable abbrev j8:Stmt:=zY (top 26) 2
def Qe:FnScope ["self"] ["self"] (zc j8):=by walk_at "c"
noncomputable abbrev ZC:Stmt:=top 28
def zcZ:FnScope ["one","other","part","rest","left"] ["one","other"] (zc ZC):=by walk_at "c"
noncomputable abbrev Q3:Stmt:=top 29
def zei:FnScope ["top","bottom","part"] ["top","bottom"] (zc Q3):=by walk_at "c"
noncomputable abbrev xU:Stmt:=top 30
def Jq:FnScope ["one","many"] ["one","many"] (zc xU):=by walk_at "c"
noncomputable abbrev Qg:Stmt:=top 31
def za4:FnScope ["paces","number","pace"] ["paces"] (zc Qg):=by walk_at "c"
noncomputable abbrev wz:Stmt:=top 35
def Xq:FnScope ["belts","knots"] ["belts","knots"] (zc wz):=by walk_at "c"
noncomputable abbrev ju:Stmt:=top 36
def Zc:FnScope ["named","size"] ["named","size"] (zc ju):=by walk_at "c"
noncomputable abbrev jq:Stmt:=zY (top 37) 0
def WB:FnScope ["self","belts","knots","fed","taken","knot"] ["self","belts","knots"] (zc jq):=by walk_at "c"
noncomputable abbrev jK:Stmt:=zY (top 37) 3
def Jt:FnScope ["self"] ["self"] (zc jK):=by walk_at "c"
noncomputable abbrev jv:Stmt:=zY (top 37) 4
def QK:FnScope ["self"] ["self"] (zc jv):=by walk_at "c"
noncomputable abbrev xE:Stmt:=zY (top 37) 5
def WC:FnScope ["self","paces","number","pace"] ["self"] (zc xE):=by walk_at "c"
noncomputable abbrev Zg:Stmt:=top 41
def VM:FnScope ["ways","ends"] ["ways"] (zc Zg):=by walk_at "c"
noncomputable abbrev vb:Stmt:=top 42
def Wz:FnScope ["root","count","knots","ends","belt","grown","end"] ["root","count","knots"] (zc vb):=by walk_at "c"
noncomputable abbrev qv:Stmt:=top 43
def WA:FnScope ["ways","kinds","pace","knots","count","root","ends"] ["ways","kinds","pace"] (zc qv):=by walk_at "c"
noncomputable abbrev qX:Stmt:=zY (top 45) 0
def Xt:FnScope ["self","turn","cells","sides","gone"] ["self","turn","cells","sides","gone"] (zc qX):=by walk_at "c"
noncomputable abbrev Qh:Stmt:=top 46
def za5:FnScope ["work","ware","kinds"] ["work","ware"] (zc Qh):=by walk_at "c"
noncomputable abbrev w9:Stmt:=top 47
def Ww:FnScope ["knot"] ["knot"] (zc w9):=by walk_at "c"
noncomputable abbrev jd:Stmt:=top 48
def Js:FnScope ["work","cells","sides"] ["work"] (zc jd):=by walk_at "c"
noncomputable abbrev xp:Stmt:=top 49
def QJ:FnScope ["state"] ["state"] (zc xp):=by walk_at "c"
noncomputable abbrev xo:Stmt:=top 51
def VL:FnScope ["work","state","knot","ends"] ["work","state","knot"] (zc xo):=by walk_at "c"
noncomputable abbrev wt:Stmt:=top 52
def Xl:FnScope ["state","number","from_belt","ware"] ["state","number","from_belt"] (zc wt):=by walk_at "c"
noncomputable abbrev Qi:Stmt:=top 53
def za6:FnScope ["belts","place"] ["belts","place"] (zc Qi):=by walk_at "c"
noncomputable abbrev jX:Stmt:=top 54
def Z8:FnScope ["knot","chosen"] ["knot","chosen"] (zc jX):=by walk_at "c"
noncomputable abbrev VO:Stmt:=top 55
def zho:FnScope ["work","state","number","knot","free","chosen","from_belt","to_belt","ware"] ["work","state","number"] (zc VO):=by walk_at "c"
noncomputable abbrev Qj:Stmt:=top 56
def za7:FnScope ["work","state","moves","number","move"] ["work","state"] (zc Qj):=by walk_at "c"
noncomputable abbrev va:Stmt:=top 57
def Wx:FnScope ["cells","place"] ["cells"] (zc va):=by walk_at "c"
noncomputable abbrev xC:Stmt:=top 58
def Wu:FnScope ["work","state","moves","number","belt"] ["work","state"] (zc xC):=by walk_at "c"
noncomputable abbrev Zf:Stmt:=top 59
def VI:FnScope ["work","state","after"] ["work","state"] (zc Zf):=by walk_at "c"
noncomputable abbrev Jx:Stmt:=top 61
def zcY:FnScope ["work","turns","state","turn"] ["work","turns"] (zc Jx):=by walk_at "c"
noncomputable abbrev ww:Stmt:=top 63
def VJ:FnScope ["work","cells"] ["work","cells"] (zc ww):=by walk_at "c"
noncomputable abbrev wx:Stmt:=top 64
def Xo:FnScope ["work","state","number"] ["work","state","number"] (zc wx):=by walk_at "c"
noncomputable abbrev xn:Stmt:=top 65
def VH:FnScope ["work","state","beat_place","kinds","places"] ["work","state"] (zc xn):=by walk_at "c"
noncomputable abbrev wu:Stmt:=top 67
def Xm:FnScope ["work","limit","state","state_by_shape","turn","shape"] ["work","limit"] (zc wu):=by walk_at "c"
noncomputable abbrev xD:Stmt:=top 68
def Wy:FnScope ["before","after","growth","old","new"] ["before","after"] (zc xD):=by walk_at "c"
noncomputable abbrev jY:Stmt:=top 70
def Z9:FnScope ["state","found","belt","cells","place","ware"] ["state"] (zc jY):=by walk_at "c"
noncomputable abbrev w6:Stmt:=top 71
def Wv:FnScope ["ware","lay","before"] ["ware","lay","before"] (zc w6):=by walk_at "c"
noncomputable abbrev xb:Stmt:=top 72
def Xn:FnScope ["before","after","lay","origins","cells"] ["before","after"] (zc xb):=by walk_at "c"
noncomputable abbrev wD:Stmt:=zY (top 73) 0
def VN:FnScope ["self","before","after"] ["self","before","after"] (zc wD):=by walk_at "c"
noncomputable abbrev xq:Stmt:=zY (top 73) 1
def QL:FnScope ["self","origin","rounds","source","given"] ["self","origin","rounds"] (zc xq):=by walk_at "c"
noncomputable abbrev jG:Stmt:=zY (top 73) 2
def Zz:FnScope ["self","first","rounds","cell","left","origin"] ["self","first","rounds"] (zc jG):=by walk_at "c"
noncomputable abbrev qL:Stmt:=zY (top 73) 3
def Ze:FnScope ["self","rounds","cells","belt","old"] ["self","rounds"] (zc qL):=by walk_at "c"
noncomputable abbrev qY:Stmt:=zY (top 73) 4
def ZA:FnScope ["self","rounds","gone","old","more"] ["self","rounds"] (zc qY):=by walk_at "c"
noncomputable abbrev jw:Stmt:=zY (top 73) 5
def Zd:FnScope ["self","rounds","turn"] ["self","rounds"] (zc jw):=by walk_at "c"
noncomputable abbrev wv:Stmt:=top 74
def zej:FnScope ["work","turns","limit","ends","lap","begin","state","turn"] ["work","turns","limit"] (zc wv):=by walk_at "c"
noncomputable abbrev qF:Stmt:=top 76
def Wt:FnScope ["work","limit","ends","length","shares","counts"] ["work","limit"] (zc qF):=by walk_at "c"
noncomputable abbrev Jy:Stmt:=top 78
def zc1:FnScope ["_law_cells","_law_k"] ["_law_cells","_law_k"] (zc Jy):=by walk_at "c"
noncomputable abbrev WF:Stmt:=top 79
def zek:FnScope ["_law_cells","_law_far_here","_law_cell_here"] ["_law_cells"] (zc WF):=by walk_at "c"
noncomputable abbrev Qk:Stmt:=top 80
def za8:FnScope ["_law_state","_law_wares_here","_law_row","_law_ware"] ["_law_state"] (zc Qk):=by walk_at "c"
noncomputable abbrev vd:Stmt:=top 81
def zc0:FnScope ["_law_work","_law_state","_law_far_here","_law_source","_law_given","_law_took","_law_wares_here"] ["_law_work","_law_state","_law_far_here"] (zc vd):=by walk_at "c"
noncomputable abbrev ZB:Stmt:=top 82
def zhn:FnScope ["_law_script","_law_cells","_law_ways","_law_pace","_law_many","_law_kinds","_law_work","_law_far_here","_law_shares","_law_drains","_law_one","_law_at"] ["_law_script"] (zc ZB):=by walk_at "c"
local macro_rules | `(tactic| walk_at "T")=>`(tactic| (have iH:=T.iH;have kG:=T.kG;have mI:=T.mI;have kN:=T.kN;have lX:=T.lX;have kD:=T.kD;have iY:=T.iY;have mz:=T.mz;have me:=T.me;have mT:=T.mT;have mU:=T.mU;have mB:=T.mB;have mC:=T.mC;have mD:=T.mD;have mV:=T.mV))
structure Ad where
 b:Addr
 c:Addr
 d:Addr
 e:Addr
 f:Addr
 g:Addr
 h:Addr
 i:Addr
 j:Addr
 k:Addr
 l:Addr
 m:Addr
 n:Addr
 o:Addr
 p:Addr
 q:Addr
abbrev KOy (K:A0) (c d:Addr) (b:Bool):Prop:=kitOne K (.ref c) (.ref d)=some b
structure Txt (K:A0) (mg:A4) (a:Ad):Prop where
 kZ:FA K mg "check_pace" wB ["pace","least"]
 k8:FA K mg "check_kind" wC ["kind"]
 k9:FA K mg "check_ways" wy ["belts"]
 kO:FA K mg "first_place" xV ["wanted","side"]
 iX:FA K mg "place_for_ware" jF ["head","free","side"]
 mE:FA K mg "common" ZC ["one","other"]
 mO:FA K mg "ratio" Q3 ["top","bottom"]
 kP:FA K mg "ratio_times" xU ["one","many"]
 mh:FA K mg "lasting" Qg ["paces"]
 lh:FA K mg "check_size" wz ["belts","knots"]
 iT:FA K mg "check_each_once" ju ["named","size"]
 l5:FA K mg "ends_for" Zg ["ways"]
 lI:FA K mg "grow_tree" vb ["root","count","knots"]
 lJ:FD K mg "even_work" qv ["ways","kinds","pace"] [.int 2]
 mi:FA K mg "kind_of" Qh ["work","ware"]
 lK:FA K mg "no_counts" w9 ["knot"]
 kR:FA K mg "empty_state" jd ["work"]
 kF:FA K mg "copied_state" xp ["state"]
 l7:FA K mg "heads_of" xo ["work","state","knot"]
 lj:FA K mg "taken_ware" wt ["state","number","from_belt"]
 mj:FA K mg "belt_at" Qi ["belts","place"]
 kh:FA K mg "counted_place" jX ["knot","chosen"]
 mY:FA K mg "act" VO ["work","state","number"]
 ml:FA K mg "act_all" Qj ["work","state"]
 lM:FA K mg "move_belt" va ["cells"]
 lO:FA K mg "pass_turn" xC ["work","state"]
 l8:FA K mg "one_turn" Zf ["work","state"]
 mF:FA K mg "played" Jx ["work","turns"]
 l9:FA K mg "kinds_in" ww ["work","cells"]
 ly:FA K mg "kind_place" wx ["work","state","number"]
 ma:FA K mg "shape_of" xn ["work","state"]
 lz:FA K mg "round_ends" wu ["work","limit"]
 lP:FA K mg "growth_of" xD ["before","after"]
 ki:FA K mg "cells_by_ware" jY ["state"]
 lQ:FA K mg "origin_of" w6 ["ware","lay","before"]
 lA:FA K mg "origins_of" xb ["before","after"]
 mP:FD K mg "leapt" wv ["work","turns","limit"] [.int 200]
 lR:FD K mg "shares_of" qF ["work","limit"] [.int 200]
 mG:FA K mg "_law_cell" Jy ["_law_cells","_law_k"]
 mQ:FA K mg "_law_far" WF ["_law_cells"]
 mq:FA K mg "_law_wares" Qk ["_law_state"]
 mH:FA K mg "_law_turn" vd ["_law_work","_law_state","_law_far_here"]
 iH:mg "len"=none
 kG:mg "range"=none
 mI:mg "list"=none
 kN:mg "abs"=none
 lX:mg "sorted"=none
 kD:mg "enumerate"=none
 iY:mg "isinstance"=none
 mz:mg "max"=none
 me:mg "tuple"=none
 mT:mg "zip"=none
 mU:mg "all"=none
 mB:mg "set"=none
 mC:mg "min"=none
 mD:mg "sum"=none
 mV:mg "int"=none
 kj:mg "NoRatio"=some (.ref a.c)
 mr:mg "BadBelt"=some (.ref a.d)
 iP:mg "BadKnot"=some (.ref a.e)
 lB:mg "BadWork"=some (.ref a.f)
 mt:mg "TooLong"=some (.ref a.g)
 mW:mg "Belt"=some (.ref a.i)
 lY:mg "Source"=some (.ref a.k)
 mf:mg "Drain"=some (.ref a.l)
 mJ:mg "Parter"=some (.ref a.m)
 lZ:mg "Joiner"=some (.ref a.n)
 mX:mg "Work"=some (.ref a.o)
 mR:mg "State"=some (.ref a.p)
 mZ:mg "Lap"=some (.ref a.q)
 iQ:Cls K a.i
 iM:NoAttr K a.i "room"
 iG:NoAttr K a.i "pace"
 lS:FK K a.i "Belt.__init__" xF ["self","room","pace"]
 iu:FB K mg "Knot" "__init__" "Knot.__init__" qR ["self","ins","outs"]
 ir:Cls K a.k
 iy:NoAttr K a.k "pace"
 iw:NoAttr K a.k "kinds"
 iZ:NoAttr K a.k "ins"
 iI:NoAttr K a.k "outs"
 mK:WI K a.k
 kS:FK K a.k "Source.__init__" jL ["self","out","pace","kinds"]
 km:FM K a.k "choice" "Source.choice" j5 ["self","heads","free","turn","side"]
 ko:FM K a.k "copied" "Source.copied" jZ ["self"]
 iA:Cls K a.l
 ix:NoAttr K a.l "pace"
 iN:NoAttr K a.l "ins"
 i0:NoAttr K a.l "outs"
 mS:WI K a.l
 lC:FK K a.l "Drain.__init__" xf ["self","into","pace"]
 kH:FM K a.l "choice" "Drain.choice" xt ["self","heads","free","turn","side"]
 kI:FM K a.l "copied" "Drain.copied" xr ["self"]
 iB:Cls K a.m
 iK:NoAttr K a.m "ins"
 iz:NoAttr K a.m "outs"
 mL:WI K a.m
 kT:FK K a.m "Parter.__init__" jM ["self","into","outs"]
 kq:FM K a.m "choice" "Parter.choice" j7 ["self","heads","free","turn","side"]
 kr:FM K a.m "copied" "Parter.copied" j6 ["self"]
 iC:Cls K a.n
 iD:NoAttr K a.n "ins"
 iJ:NoAttr K a.n "outs"
 mM:WI K a.n
 kU:FK K a.n "Joiner.__init__" jN ["self","ins","out"]
 ku:FM K a.n "choice" "Joiner.choice" jh ["self","heads","free","turn","side"]
 kx:FM K a.n "copied" "Joiner.copied" j8 ["self"]
 ik:Cls K a.o
 iE:NoAttr K a.o "belts"
 ii:NoAttr K a.o "knots"
 lT:FK K a.o "Work.__init__" jq ["self","belts","knots"]
 kX:FM K a.o "drains" "Work.drains" jK ["self"]
 kJ:FM K a.o "sources" "Work.sources" jv ["self"]
 lU:FM K a.o "beat" "Work.beat" xE ["self"]
 ad:Cls K a.p
 ie:NoAttr K a.p "turn"
 ic:NoAttr K a.p "cells"
 ip:NoAttr K a.p "sides"
 ig:NoAttr K a.p "gone"
 lD:FK K a.p "State.__init__" qX ["self","turn","cells","sides","gone"]
 ij:Cls K a.q
 io:NoAttr K a.q "before"
 iF:NoAttr K a.q "length"
 iS:NoAttr K a.q "origins"
 iL:NoAttr K a.q "growth"
 md:FK K a.q "Lap.__init__" wD ["self","before","after"]
 kK:FM K a.q "new_ware" "Lap.new_ware" xq ["self","origin","rounds"]
 i5:FM K a.q "ware_after" "Lap.ware_after" jG ["self","first","rounds"]
 iU:FM K a.q "cells_after" "Lap.cells_after" qL ["self","rounds"]
 i6:FM K a.q "gone_after" "Lap.gone_after" qY ["self","rounds"]
 iV:FM K a.q "state_after" "Lap.state_after" jw ["self","rounds"]
 lV:∃ t,mg "MOST_ROOM"=some (.int 6 t)
 iO:∃ t,mg "MOST_PACE"=some (.int 4 t)
 lE:∃ t,mg "MOST_KINDS"=some (.int 6 t)
 kY:∃ t,mg "FEWEST_WAYS"=some (.int 2 t)
 lW:∃ t,mg "MOST_WAYS"=some (.int 4 t)
 lF:∃ t,mg "MOST_BELTS"=some (.int 24 t)
 lG:∃ t,mg "MOST_KNOTS"=some (.int 24 t)
 i7:∃ t,mg "MOST_EVEN_WAYS"=some (.int 8 t)
 iW:∃ t,mg "LEAST_EVEN_PACE"=some (.int 2 t)
 mv:XC K a.d
 iR:XC K a.e
 mw:XC K a.c
 lH:XC K a.f
 my:XC K a.g
 ky:KOy K a.k a.l false
 kM:KOy K a.l a.l true
 kz:KOy K a.m a.l false
 kA:KOy K a.n a.l false
 i8:KOy K a.k a.k true
 kB:KOy K a.l a.k false
 i9:KOy K a.m a.k false
 ka:KOy K a.n a.k false
 kb:KOy K a.k a.n false
 kC:KOy K a.l a.n false
 ke:KOy K a.m a.n false
 kg:KOy K a.n a.n true
section
variable {P:Af} {w:World} {K:A0} {mg:A4} {base:Heap} {a:Ad} {f:Addr} {fd:FuncData}
def at0 {α:Type} {x:α} {xs:List α}:atI (x :: xs) 0=some x:=by
 have:=zw (xs:=x :: xs) (j:=0) rfl;simpa using this
noncomputable def iv (ns:A6):List V:=ns.map V.int
noncomputable def kf (l1 l2:Addr):List (Str × V):=zL "outs" (.ref l2) (zL "ins" (.ref l1) [])
def zhL {l1 l2:Addr}:(kf l1 l2).lookup ("ins":Str)=some (.ref l1):=by
 unfold kf;rw [zB,aq (by symm),zB,ax rfl]
def zgt {l1 l2:Addr}:(kf l1 l2).lookup ("outs":Str)=some (.ref l2):=by
 unfold kf;rw [zB,ax rfl]
def ze6 {l1 l2:Addr}:(kf l1 l2).length < 1000:=by
 unfold kf;have:=xO "outs" (V.ref l2) (zL "ins" (.ref l1) []);have:=xO "ins" (V.ref l1) [];simp at *;lia
def Own (H H':Hp) (y:Addr):Prop:=∀ b o,b≠y->H b=some o->H' b=some o
def Same.own {H H':Hp} {y:Addr} (s:Same H H'):Own H H' y:=λ b o _ h=>s b o h
def Own.trans {H1 H2 H3:Hp} {y:Addr} (s:Own H1 H2 y) (t:Own H2 H3 y):Own H1 H3 y:=λ b o hb h=>t b o hb (s b o hb h)
def jk {y:Addr}:Own H (upd H y o) y:=λ b u hb h=>by rw [nF hb];exact h
def Own.of_new {H H':Hp} {y dx:Addr} {o p:HO} (hy:H y=none) (hd:H dx=none) (s:Own (upd (upd H dx o) y p) H' y):Same H H':=λ b u h =>
 s b u (nH h hy) (by rw [nF (nH h hy),nF (nH h hd)];exact h)
def qj {p b:Addr} (h:upd H p o b=none):H b=none:=by
 by_cases e:b=p
 ·subst e;rw [nE] at h;cases h
 ·rw [nF e] at h;exact h
def Jk (K:A0):Sp:=λ vs H Q _=>∃ (y C dx i o:Addr) (xs ys:Ap),vs=[.ref y,.ref i,.ref o]/\H y=some (.ins C dx [])/\Cls K C/\NoAttr K C "ins"/\NoAttr K C "outs"/\SqL K H i xs/\SqL K H o ys/\i≠y/\o≠y /\
 ∀ H' l1 l2,Own H H' y->H' y=some (.ins C dx (kf l1 l2))->H' l1=some (.lst xs)->H' l2=some (.lst ys)->H l1=none->H l2=none->Q .non H'
def zbY {H H':Hp} {y l:Addr} {xs:Ap} (h:SqL K H l xs) (s:Own H H' y) (hl:l≠y):SqL K H' l xs:=by
 rcases h with h|h
 ·refine .inl ?_;rcases h with h|⟨ob,h⟩
  ·exact .inl (s _ _ hl h)
  ·exact .inr ⟨ob,s _ _ hl h⟩
 ·exact .inr h
def WV (T:Txt K mg a) (F:Fun K "__init__" "Knot.__init__" qR f fd):FnOk P w K mg base (CXr P w) 1 f fd ["self","ins","outs"] (Jk K):=by
 refine F.okx WD ?_ ?_
 ·walk_at "i"
 walk_at "k";refine oE7 h λ y C dx i o xs ys m8=>oA6 m8 λ n6 hy hC hN1 hN2 nu=>oA5 nu λ hi ho hiy hoy k=>?_;clear m8 nu h;subst n6;walk_at "T";refine ⟨_,(ze (qT (pq 0) (wg vP wP (za (pq 1) zb)) rfl)  (zd (qT (pq 0) (wg vP wP (za (pq 2) zb)) rfl))),?_⟩;exists iE2 i xs (iA3 rfl (.inl hi) (λ l1 h1=>?_));left;have y1:y≠l1:=nH hy h1;refine iE4 y C dx ([]) (iA6 rfl (nI hy h1) hC hN1 (by decide) ?_);left;have s1:Own H (upd (upd H l1 (.lst xs)) y (.ins C dx (zL "ins" (.ref l1) []))) y:=(Same.own (zg h1)).trans jk;refine iE2 o ys (iA3 rfl (.inl (zbY ho s1 hoy)) (λ l2 h2=>?_));left;have y2:y≠l2:=nH nE h2;have l12:l1≠l2:=λ z=>by
  rw [<- z,nF (ba y1),nE] at h2;cases h2
 refine iE4 y C dx _ (iA6 rfl (nI nE h2) hC hN2 (by show 1 < 1000;decide) ?_);refine k _ l1 l2 (s1.trans ((Same.own (zg h2)).trans jk)) nE ?_ ?_ h1 ?_
 ·rw [nF (ba y1),nF l12,nF (ba y1),nE]
 ·rw [nF (ba y2),nE]
 ·rw [nF (ba y2),nF (ba l12)] at h2;exact h2
def iu (T:Txt K mg a):BCal P w K mg base "Knot" "__init__" 1 ["self","ins","outs"] [] (Jk K):=T.iu.cal (WV T)
def VD (K:A0) (a:Ad):Sp:=λ vs H Q E=>∃ (l:Addr) (xs:Ap),vs=[.ref l]/\SqL K H l xs/\if 2<=xs.length/\xs.length<=4 then Q .non H else E (.ref a.e) none H
def ZY (T:Txt K mg a):Cal P w K mg base "check_ways" 1 ["belts"] [] (VD K a):=T.k9.cal λ F=>by
 refine F.okx Xp ?_ ?_
 ·walk_at "i"
 walk_at "k";refine oE2 h λ l xs m8=>oA3 m8 λ n6 hl k=>?_;clear m8 h;subst n6;walk_at "T";refine ⟨_,(zd (zT (jx (jf jz jz xJ (qd qi qg (za (pq 0) zb)) xJ))  (zd (qB ⟨rfl,rfl,rfl⟩ rfl (za jb zb)))  zu)),?_⟩;left;obtain ⟨t1,g1⟩:=T.kY;obtain ⟨t2,g2⟩:=T.lW;have bad:¬ (2<=xs.length/\xs.length<=4)->∃ C,mg "BadKnot"=some (Value.ref C)/\XC K C/\E (Value.ref C) none H:=λ h=>by
  rw [aq h] at k;exact ⟨a.e,iA3 T.iP T.iR k⟩
 refine iE2 (.int 2) _ (iA3 g1 ⟨_,rfl⟩ ?_);exists ⟨_,.inl ⟨_,hl,rfl⟩,?_⟩;walk_at "r";refine zU (λ h1=>?_) (λ h1=>bad (by lia));refine iE2 (.int 4) _ (iA3 g2 ⟨_,rfl⟩ ?_);walk_at "r";refine zU (λ h2=>?_) (λ h2=>bad (by lia));rw [ax (by lia)] at k;exact k
def VF (a:Ad):Sp:=λ vs H Q E=>∃ p q:Int,vs=[.int p,.int q]/\if q<=p/\p<=4 then Q .non H else E (.ref a.e) none H
def ZZ (T:Txt K mg a):Cal P w K mg base "check_pace" 1 ["pace","least"] [] (VF a):=T.kZ.cal λ F=>by
 refine F.okx Xr ?_ ?_
 ·walk_at "i"
 walk_at "k";refine oE2 h λ p q m8=>oA2 m8 λ n6 k=>?_;clear m8 h;subst n6;walk_at "T";refine ⟨_,(zd (zT (jx (jf jz jz (pq 1) (pq 0) xJ))  (zd (qB ⟨rfl,rfl,rfl⟩ rfl (za jb zb)))  zu)),?_⟩;left;obtain ⟨t1,g1⟩:=T.iO;have bad:¬ (q<=p/\p<=4)->∃ C,mg "BadKnot"=some (Value.ref C)/\XC K C/\E (Value.ref C) none H:=λ h=>by
  rw [aq h] at k;exact ⟨a.e,iA3 T.iP T.iR k⟩
 refine zU (λ h1=>?_) (λ h1=>bad (by lia));refine iE2 (.int 4) _ (iA3 g1 ⟨_,rfl⟩ ?_);exists zU (λ h2=>?_) (λ h2=>bad (by lia));rw [ax (by lia)] at k;left;exact k
noncomputable abbrev ZP:Int:=1000000000000000000000000000000
def VG (a:Ad):Sp:=λ vs H Q E=>∃ n:Int,vs=[.int n]/\if 0<=n/\n < ZP then Q .non H else E (.ref a.e) none H
def Vh (T:Txt K mg a):Cal P w K mg base "check_kind" 1 ["kind"] [] (VG a):=T.k8.cal λ F=>by
 refine F.okx Xs ?_ ?_
 ·walk_at "i"
 walk_at "k";obtain ⟨n,rfl,k⟩:=h;walk_at "T";refine ⟨_,(zd (zT (jx (jf jz JO zh (pq 0) zez))  (zd (qB ⟨rfl,rfl,rfl⟩ rfl (za jb zb)))  zu)),?_⟩;left;have bad:¬ (0<=n/\n < ZP)->∃ C,mg "BadKnot"=some (Value.ref C)/\XC K C/\E (Value.ref C) none H:=λ h=>by
  rw [aq h] at k;exact ⟨a.e,iA3 T.iP T.iR k⟩
 refine zU (λ h1=>?_) (λ h1=>bad (by lia));exists zU (λ h2=>?_) (λ h2=>bad (by unfold ZP;lia));rw [ax (by unfold ZP;lia)] at k;left;exact k
noncomputable def W6 (bs:Ai) (side:Nat):Nat->Nat->Option Nat
 | 0,_=>none
 | n + 1,k=>if bs.getD ((side + k) % bs.length) false=true then some ((side + k) % bs.length) else W6 bs side n (k + 1)
noncomputable def xX (bs:Ai) (side:Nat):Option Nat:=W6 bs side bs.length 0
noncomputable def ZH:Option Nat->V
 | none=>.non
 | some n=>.int n
theorem zcp {bs:Ai} {side:Nat} (h:0 < bs.length):∀ {n k p:Nat},W6 bs side n k=some p->p < bs.length
 | 0,_,_,e=>by simp [W6] at e
 | n + 1,k,p,e=>by
  unfold W6 at e
  split at e
  ·cases e;exact cm _ h
  ·exact zcp h e
def vN {bs:Ai} {side p:Nat} (e:xX bs side=some p):p < bs.length:=by
 by_cases h:0 < bs.length
 ·exact zcp h e
 ·unfold xX at e;rw [show bs.length=0 by lia] at e;simp [W6] at e
def Wo (K:A0):Sp:=λ vs H Q _=>∃ (l:Addr) (bs:Ai) (side:Nat),vs=[.ref l,.int side]/\SqL K H l (bs.map V.bl)/\bs.length<=1000/\Q (ZH (xX bs side)) H
theorem vW (T:Txt K mg a):Cal P w K mg base "first_place" 1 ["wanted","side"] [] (Wo K):=T.kO.cal λ F=>by
 refine F.okx Jr ?_ ?_
 ·walk_at "i"
 walk_at "k";obtain ⟨l,bs,side,rfl,hl,hb,k⟩:=h;walk_at "T";refine ⟨_,(ze (qo qC rfl (wE (za (qd qi qg (za (pq 0) zb)) zb)) (qf 2 Jr.nd)  (ze (zt 3 Jr.nd (zD jn (zD qr (pq 1) (pq 2)) (qd qi qg (za (pq 0) zb))))  (zd (zT (jT (zm (pq 0) (pq 3)) (λ _=>rfl))  (zd (zl (pq 3)))  zu))))  (zd (zl zM))),?_⟩;walk_at "e";exists ⟨_,.inl ⟨_,hl,rfl⟩,by lia,by rw [ai];lia,?_⟩;refine ZR (λ i σ H'=>∃ v2 v3,σ=[some (.ref l),some (.int side),v2,v3]/\H'=H/\Q (ZH (W6 bs side (bs.length - i) i)) H) ⟨_,_,rfl,rfl,k⟩ ?_ ?_
 ·rintro i σ H' hi ⟨v2,v3,rfl,rfl,k⟩;have hi:i < bs.length:=by simpa using hi
  exists ⟨_,.inl ⟨_,hl,rfl⟩,?_⟩;walk_at "r";rw [ai];refine And.intro (by lia) ?_;have e:((side:Int) + (0 + (i:Int))) % (bs.length:Int)=(((side + i) % bs.length:Nat):Int):=by push_cast;rw [ef]
  rw [e];have hlt:(side + i) % bs.length < bs.length:=cm _ (by lia);refine zp hl (zw (by rw [am,ae hlt];rfl)) ?_;walk_at "r";have em:bs.length - i=(bs.length - (i + 1)) + 1:=by lia
  rw [em,W6] at k;have eg:bs.getD ((side + i) % bs.length) false=bs[(side + i) % bs.length]:=by simp [hlt]
  rw [eg] at k;cases hbb:bs[(side + i) % bs.length] with
  | true =>
   rw [hbb,ax rfl] at k;walk_at "r";exact k
  | false =>
   rw [hbb,aq (by decide)] at k;walk_at "r"
   first|exact ⟨_,_,rfl,rfl,k⟩|exact ⟨_,_,rfl,k⟩|exact k
 ·rintro σ H' ⟨v2,v3,rfl,rfl,k⟩;walk_at "r";simpa [W6,ZH] using k
def zaW (K:A0):Sp:=λ vs H Q _=>∃ (v:V) (l:Addr) (bs:Ai) (side:Nat),vs=[v,.ref l,.int side]/\SqL K H l (bs.map V.bl)/\bs.length<=1000/\Q (if v=.non then .non else ZH (xX bs side)) H
def Qw (T:Txt K mg a):Cal P w K mg base "place_for_ware" 2 ["head","free","side"] [] (zaW K):=T.iX.cal λ F=>by
 refine F.okx Zy ?_ ?_
 ·walk_at "i"
 walk_at "k";refine oE4 h λ v l bs side m8=>oA4 m8 λ n6 hl hb k=>?_;clear m8 h;subst n6;walk_at "T";refine ⟨_,(zd (zl (we (zz jI (pq 0) zM (zC _)) zM ‹(pq 1) (za (pq 2) zb)›))),?_⟩;exists zU (λ h=>?_) (λ h=>?_)
 ·rw [ax h] at k;walk_at "r";exact k
 ·rw [aq h] at k;walk_at "r";exact iE3 _ _ _ ⟨vW T,⟨l,bs,side,rfl,hl,hb,k⟩⟩
def wo (K:A0) (C CB:Addr):Sp:=λ vs H Q E=>∃ (y dx o:Addr) (into:V) (ys:Ap),vs=[.ref y,into,.ref o]/\H y=some (.ins C dx [])/\SqL K H o ys/\o≠y /\
 if 2<=ys.length/\ys.length<=4 then ∀ H' l1 l2,Own H H' y->H' y=some (.ins C dx (kf l1 l2))->H' l1=some (.lst [into])->H' l2=some (.lst ys)->H l1=none->H l2=none->Q .non H' else E (.ref CB) none H
def JR (T:Txt K mg a) (F:Fun K "__init__" "Parter.__init__" jM f fd):FnOk P w K mg base (CXr P w) 2 f fd ["self","into","outs"] (wo K a.m a.e):=by
 refine F.okx Jv ?_ ?_
 ·walk_at "i"
 walk_at "k";refine oE5 h λ y dx o into ys m8=>oA5 m8 λ n6 hy ho hoy k=>?_;clear m8 h;subst n6;walk_at "T";refine ⟨_,(ze (zO ‹(pq 2) zb›)  (zd (zO (Q6 ⟨rfl,rfl,rfl⟩ hr (za (pq 0) (za (qe (za (pq 1) zb)) (za (pq 2) zb))))))),?_⟩;exists iE3 _ _ _ ⟨ZY T,⟨o,ys,rfl,ho,zU (λ hok=>?_) (λ hok=>?_)⟩⟩
 ·rw [ax hok] at k;exists iE3 _ _ _ ⟨iu T,λ p hp=>(iE7 y a.m dx p o ([into]) ys (iA6 rfl (nI hy hp) T.iB T.iK T.iz (iA5 (SqL.of nE) ((zg hp).seq ho) ((nH hy hp).symm) hoy (λ H' l1 l2 s h1 h2 h3 h4 h5=>?_))))⟩;exact k H' l1 l2 ((Same.own (zg hp)).trans s) h1 h2 h3 (qj h4) (qj h5)
 ·rw [aq hok] at k;exact k
def zan (T:Txt K mg a):KCal P w K mg base "Parter" a.m 2 ["self","into","outs"] [] (wo K a.m a.e):=T.kT.cal T.mJ (JR T)
def wp (K:A0) (C CB:Addr):Sp:=λ vs H Q E=>∃ (y dx o:Addr) (out:V) (ys:Ap),vs=[.ref y,.ref o,out]/\H y=some (.ins C dx [])/\SqL K H o ys/\o≠y /\
 if 2<=ys.length/\ys.length<=4 then ∀ H' l1 l2,Own H H' y->H' y=some (.ins C dx (kf l1 l2))->H' l1=some (.lst ys)->H' l2=some (.lst [out])->H l1=none->H l2=none->Q .non H' else E (.ref CB) none H
def JS (T:Txt K mg a) (F:Fun K "__init__" "Joiner.__init__" jN f fd):FnOk P w K mg base (CXr P w) 2 f fd ["self","ins","out"] (wp K a.n a.e):=by
 refine F.okx Jw ?_ ?_
 ·walk_at "i"
 walk_at "k";refine oE5 h λ y dx o out ys m8=>oA5 m8 λ n6 hy ho hoy k=>?_;clear m8 h;subst n6;walk_at "T";refine ⟨_,(ze (zO ‹(pq 1) zb›)  (zd (zO (Q6 ⟨rfl,rfl,rfl⟩ hr (za (pq 0) (za (pq 1) (za (qe (za (pq 2) zb)) zb))))))),?_⟩;exists iE3 _ _ _ ⟨ZY T,⟨o,ys,rfl,ho,zU (λ hok=>?_) (λ hok=>?_)⟩⟩
 ·rw [ax hok] at k;exists iE3 _ _ _ ⟨iu T,λ p hp=>(iE7 y a.n dx o p ys ([out]) (iA6 rfl (nI hy hp) T.iC T.iD T.iJ (iA5 ((zg hp).seq ho) (SqL.of nE) hoy ((nH hy hp).symm) (λ H' l1 l2 s h1 h2 h3 h4 h5=>?_))))⟩;exact k H' l1 l2 ((Same.own (zg hp)).trans s) h1 h2 h3 (qj h4) (qj h5)
 ·rw [aq hok] at k;exact k
def zao (T:Txt K mg a):KCal P w K mg base "Joiner" a.n 2 ["self","ins","out"] [] (wp K a.n a.e):=T.kU.cal T.lZ (JS T)
noncomputable def df (l1 l2:Addr) (p:Int):List (Str × V):=zL "pace" (.int p) (kf l1 l2)
def W8 {l1 l2:Addr} {p:Int}:(df l1 l2 p).lookup ("pace":Str)=some (.int p):=by
 unfold df;rw [zB,ax rfl]
theorem ZE (f:Str) (v:V):∀ fs:List (Str × V),(zL f v fs).length<=fs.length + 1
 | []=>by simp [zL]
 | (g,x) :: r=>by
  unfold zL
  split
  ·simp
  ·have:=ZE f v r;simp;lia
def zgu {l1 l2:Addr}:(kf l1 l2).length<=2:=by
 unfold kf;have h1:=ZE "outs" (V.ref l2) (zL "ins" (.ref l1) []);have h2:=ZE "ins" (V.ref l1) [];simp only [dS] at h2
 lia
def zh1 {l1 l2:Addr} {p:Int}:(df l1 l2 p).length < 1000:=by
 unfold df;have h1:=ZE "pace" (V.int p) (kf l1 l2);have h2:=zgu (l1:=l1) (l2:=l2)
 lia
def wY (C CB:Addr):Sp:=λ vs H Q E=>∃ (y dx:Addr) (into:V) (p:Int),vs=[.ref y,into,.int p]/\H y=some (.ins C dx []) /\
 if 0<=p/\p<=4 then ∀ H' l1 l2,Own H H' y->H' y=some (.ins C dx (df l1 l2 p))->H' l1=some (.lst [into])->H' l2=some (.lst [])->H l1=none->H l2=none->Q .non H' else E (.ref CB) none H
def Xw (T:Txt K mg a) (F:Fun K "__init__" "Drain.__init__" xf f fd):FnOk P w K mg base (CXr P w) 2 f fd ["self","into","pace"] (wY a.l a.e):=by
 refine F.okx Xu ?_ ?_
 ·walk_at "i"
 walk_at "k";refine oE4 h λ y dx into p m8=>oA3 m8 λ n6 hy k=>?_;clear m8 h;subst n6;walk_at "T";refine ⟨_,(ze (zO ‹(pq 2) (za zh zb)›)  (ze (zO (Q6 ⟨rfl,rfl,rfl⟩ hr (za (pq 0) (za (qe (za (pq 1) zb)) (za (qe zb) zb)))))  (zd (qT (pq 0) (pq 2) rfl)))),?_⟩;exists iE3 _ _ _ ⟨ZZ T,⟨p,0,rfl,zU (λ hok=>?_) (λ hok=>?_)⟩⟩
 ·rw [ax hok] at k;exists iE3 _ _ _ ⟨iu T,λ q1 hq1 q2 hq2=>?_⟩;have n12:q1≠q2:=nH nE hq2;have hy2:=nI (o:=.lst []) (nI (o:=.lst [into]) hy hq1) hq2;refine iE7 y a.l dx q1 q2 ([into]) ([]) (iA6 rfl hy2 T.iA T.iN T.i0 (iA5 (SqL.of (nI nE hq2)) (SqL.of nE) ((nH hy hq1).symm) ((nH (nI hy hq1) hq2).symm) (λ H' l1 l2 s h1 h2 h3 h4 h5=>?_)));exists iE4 y a.l dx _ (iA6 rfl h1 T.iA T.ix ze6 ?_);exact k _ l1 l2 (((Same.own ((zg hq1).trans (zg hq2))).trans s).trans jk) nE (by rw [nF (JU h2 h1 (by intro z;cases z))];exact h2) (by rw [nF (JU h3 h1 (by intro z;cases z))];exact h3) (qj (qj h4)) (qj (qj h5))
 ·rw [aq hok] at k;exact k
def zcg (T:Txt K mg a):KCal P w K mg base "Drain" a.l 2 ["self","into","pace"] [] (wY a.l a.e):=T.lC.cal T.mf (Xw T)
noncomputable def sf (l1 l2:Addr) (p:Int) (l3:Addr):List (Str × V):=zL "kinds" (.ref l3) (df l1 l2 p)
def zfX {l1 l2 l3:Addr} {p:Int}:(sf l1 l2 p l3).lookup ("pace":Str)=some (.int p):=by
 unfold sf;rw [zB,aq (by symm)];exact W8
def QI (ks:A6):Prop:=∀ n∈ks,0<=n/\n < ZP
def wn (K:A0) (C CB:Addr):Sp:=λ vs H Q E=>∃ (y dx l:Addr) (out:V) (p:Int) (ks:A6),vs=[.ref y,out,.int p,.ref l]/\H y=some (.ins C dx [])/\SqL K H l (ks.map V.int)/\l≠y /\
 ((1<=p/\p<=4/\1<=ks.length/\ks.length<=6/\QI ks->∀ H' l1 l2 l3,Own H H' y->H' y=some (.ins C dx (sf l1 l2 p l3))->H' l1=some (.lst [])->H' l2=some (.lst [out])->H' l3=some (.lst (ks.map V.int))->H l1=none->H l2=none->H l3=none->Q .non H') /\
   (¬ (1<=p/\p<=4/\1<=ks.length/\ks.length<=6/\QI ks)->E (.ref CB) none H))
def JQ (T:Txt K mg a) (F:Fun K "__init__" "Source.__init__" jL f fd):FnOk P w K mg base (CXr P w) 2 f fd ["self","out","pace","kinds"] (wn K a.k a.e):=by
 refine F.okx Ju ?_ ?_
 ·walk_at "i"
 walk_at "k";refine oE6 h λ y dx l out p ks m8=>oA6 m8 λ n6 hy hl hly kok kbad=>?_;clear m8 h;subst n6;obtain ⟨t1,g1⟩:=T.lE;walk_at "T";refine ⟨_,(ze (zO ‹(pq 2) (za zh zb)›)  (ze (zT (jx (jf jz jz zh (qd qi qg (za (pq 3) zb)) xJ))  (zd (qB ⟨rfl,rfl,rfl⟩ rfl (za jb zb)))  zu)  (ze (qo qC rfl (zV (pq 3)) (qf 4 Ju.nd)  (zd (zO ‹(pq 4) zb›)))  (ze (zO (Q6 ⟨rfl,rfl,rfl⟩ hr (za (pq 0) (za (qe zb) (za (qe (za (pq 1) zb)) zb)))))  (ze (qT (pq 0) (pq 2) rfl)  (zd (qT (pq 0) (wg vP wP (za (pq 3) zb)) rfl))))))),?_⟩;exists iE3 _ _ _ ⟨ZZ T,⟨p,1,rfl,zU (λ hp=>?_) (λ hp=>kbad λ z=>hp ⟨z.1,z.2.1⟩)⟩⟩;exists ⟨_,.inl ⟨_,hl,rfl⟩,?_⟩;rw [ai];left;have bad:¬ (1<=ks.length/\ks.length<=6)->∃ C,mg "BadKnot"=some (Value.ref C)/\XC K C/\E (Value.ref C) none H:=λ h=>⟨a.e,T.iP,T.iR,kbad λ z=>h ⟨z.2.2.1,z.2.2.2.1⟩⟩;refine zU (λ h1=>?_) (λ h1=>bad (by lia));refine iE2 (.int 6) _ (iA3 g1 ⟨_,rfl⟩ ?_);exists zU (λ h2=>?_) (λ h2=>bad (by lia));walk_at "e";refine ⟨l,rfl,.inl ⟨⟨_,hl⟩,?_⟩⟩;refine ql (K:=K) (a:=l) (xs:=ks.map V.int) (λ i σ H'=>∃ v4,σ=[some (.ref y),some out,some (.int p),some (.ref l),v4]/\H'=H/\QI (ks.take i)) ⟨_,iA3 rfl rfl (λ _ h=>nomatch h)⟩ (λ i σ H' _ ⟨_,_,e,_⟩=>e ▸ hl) ?_ ?_
 ·intro i x σ H' hi nh;refine oE1 nh λ v4 m8=>oA3 m8 λ n6 nu hk=>?_;clear m8 nh;subst n6 nu;rw [am,ar] at hi;obtain ⟨n,hn,rfl⟩:=hi;exists iE3 _ _ _ ⟨Vh T,⟨n,rfl,zU (λ hok=>?_) (λ hok=>kbad λ z=>hok (z.2.2.2.2 n (aj hn)))⟩⟩;left;have:QI (ks.take (i + 1)):=λ m hm=>by
   rw [fP,hn] at hm;rcases aB.mp hm with z|z
   ·exact hk m z
   ·have e:m=n:=by simpa using z
    rw [e];exact hok
  first|exact ⟨_,rfl,rfl,this⟩|exact ⟨_,rfl,this⟩
 ·intro σ H' nh;refine oE1 nh λ v4 m8=>oA3 m8 λ n6 nu hk=>?_;clear m8 nh;subst n6 nu;rw [ai,aH] at hk;have kok:=kok ⟨hp.1,hp.2,by lia,by lia,hk⟩;exists iE3 _ _ _ ⟨iu T,λ q1 hq1 q2 hq2=>?_⟩;have hy2:=nI (o:=.lst [out]) (nI (o:=.lst []) hy hq1) hq2;have s12:Same H' (upd (upd H' q1 (.lst [])) q2 (.lst [out])):=(zg hq1).trans (zg hq2);refine iE7 y a.k dx q1 q2 ([]) ([out]) (iA6 rfl hy2 T.ir T.iZ T.iI (iA5 (SqL.of (nI nE hq2)) (SqL.of nE) ((nH hy hq1).symm) ((nH (nI hy hq1) hq2).symm) (λ H2 l1 l2 s h1 h2 h3 h4 h5=>?_)));exists iE4 y a.k dx _ (iA6 rfl h1 T.ir T.iy ze6 ?_);left;have s3:Own H' (upd H2 y (.ins a.k dx (df l1 l2 p))) y:=((Same.own s12).trans s).trans jk;have h2':upd H2 y (.ins a.k dx (df l1 l2 p)) l1=some (.lst []):=by rw [nF (JU h2 h1 (by intro z;cases z))];exact h2
  have h3':upd H2 y (.ins a.k dx (df l1 l2 p)) l2=some (.lst [out]):=by rw [nF (JU h3 h1 (by intro z;cases z))];exact h3
  refine iE2 l _ (iA3 rfl (.inl (zbY hl s3 hly)) (λ l3 hl3=>?_));left;have hy3:upd (upd H2 y (.ins a.k dx (df l1 l2 p))) l3 (.lst (ks.map V.int)) y=some (.ins a.k dx (df l1 l2 p)):=nI nE hl3;refine iE4 y a.k dx _ (iA6 rfl hy3 T.ir T.iw zh1 ?_);have n1:l1≠y:=JU h2 h1 (by intro z;cases z);have n2:l2≠y:=JU h3 h1 (by intro z;cases z);have n3:l3≠y:=(nH (nE (H:=H2)) hl3).symm;refine kok _ l1 l2 l3 ((s3.trans (Same.own (zg hl3))).trans jk) nE ?_ ?_ ?_ (qj (qj h4)) (qj (qj h5)) ?_
  ·rw [nF n1];exact nI h2' hl3
  ·rw [nF n2];exact nI h3' hl3
  ·rw [nF n3];exact nE
  ·cases e:H' l3 with
   | none=>rfl
   | some o=>exact absurd (hl3.symm.trans (s3 l3 o n3 e)) (by intro z;cases z)
def zam (T:Txt K mg a):KCal P w K mg base "Source" a.k 2 ["self","out","pace","kinds"] [] (wn K a.k a.e):=T.kS.cal T.lY (JQ T)
noncomputable def bf (rm pc:Int):List (Str × V):=zL "pace" (.int pc) (zL "room" (.int rm) [])
abbrev zA (rm pc:Int):Prop:=1<=rm/\rm<=6/\1<=pc/\pc<=4
def v9 (C CB:Addr):Sp:=λ vs H Q E=>∃ (y dx:Addr) (rm pc:Int),vs=[.ref y,.int rm,.int pc]/\H y=some (.ins C dx [])/\if zA rm pc then Q .non (upd H y (.ins C dx (bf rm pc))) else E (.ref CB) none H
def WW (T:Txt K mg a) (F:Fun K "__init__" "Belt.__init__" xF f fd):FnOk P w K mg base (CXr P w) 1 f fd ["self","room","pace"] (v9 a.i a.d):=by
 refine F.okx WE ?_ ?_
 ·walk_at "i"
 walk_at "k";refine oE4 h λ y dx rm pc m8=>oA3 m8 λ n6 hy k=>?_;clear m8 h;subst n6;obtain ⟨t1,g1⟩:=T.lV;obtain ⟨t2,g2⟩:=T.iO;walk_at "T";refine ⟨_,(ze (zT (jx (jf jz jz zh (pq 1) xJ))  (zd (qB ⟨rfl,rfl,rfl⟩ rfl (za jb zb)))  zu)  (ze (zT (jx (jf jz jz zh (pq 2) xJ))  (zd (qB ⟨rfl,rfl,rfl⟩ rfl (za jb zb)))  zu)  (ze (qT (pq 0) (pq 1) rfl)  (zd (qT (pq 0) (pq 2) rfl))))),?_⟩;left;have bad:¬ zA rm pc->∃ C,mg "BadBelt"=some (Value.ref C)/\XC K C/\E (Value.ref C) none H:=λ h=>by
  rw [aq h] at k;exact ⟨a.d,iA3 T.mr T.mv k⟩
 refine zU (λ h1=>?_) (λ h1=>bad (by unfold zA;lia));refine iE2 (.int 6) _ (iA3 g1 ⟨_,rfl⟩ ?_);exists zU (λ h2=>?_) (λ h2=>bad (by unfold zA;lia));exists zU (λ h3=>?_) (λ h3=>bad (by unfold zA;lia));refine iE2 (.int 4) _ (iA3 g2 ⟨_,rfl⟩ ?_);exists zU (λ h4=>?_) (λ h4=>bad (by unfold zA;lia));rw [ax (by unfold zA;lia)] at k;exists iE4 y a.i dx ([]) (iA6 rfl hy T.iQ T.iM (by decide) ?_);exists iE4 y a.i dx _ (iA6 rfl nE T.iQ T.iG (by show 1 < 1000;decide) ?_);rw [vD];exact k
def ze8 (T:Txt K mg a):KCal P w K mg base "Belt" a.i 1 ["self","room","pace"] [] (v9 a.i a.d):=T.lS.cal T.mW (WW T)
def qU {y dx b C:Addr} {u:HO} (hy:H y=none) (hdx:H dx=none) (h:H b=some u):upd (upd H dx (.own y)) y (.ins C dx []) b=some u:=by
 rw [nF (nH h hy),nF (nH h hdx)];exact h
def z7 {y dx b:Addr} {o p:HO} (h:upd (upd H dx o) y p b=none):H b=none:=qj (qj h)
def zr {H H':Hp} (s:Same H H') (h:H' b=none):H b=none:=by
 cases e:H b with
 | none=>rfl
 | some o=>rw [s b o e] at h;cases h
inductive Wd|source|drain|parter|joiner
deriving DecidableEq
noncomputable def wM (a:Ad):Wd->Addr
 | .source=>a.k
 | .drain=>a.l
 | .parter=>a.m
 | .joiner=>a.n
structure Row where
 wd:Wd
 ins:List Int
 outs:List Int
 pace:Int
 kinds:List Int
abbrev At:=List Row
def Row.ok (r:Row):Prop:=match r.wd with
 | .source=>r.ins=[]/\(∃ o,r.outs=[o])/\1<=r.pace/\r.pace<=4/\1<=r.kinds.length/\r.kinds.length<=6/\QI r.kinds
 | .drain=>(∃ i,r.ins=[i])/\r.outs=[]/\0<=r.pace/\r.pace<=4
 | .parter=>(∃ i,r.ins=[i])/\2<=r.outs.length/\r.outs.length<=4
 | .joiner=>(∃ o,r.outs=[o])/\2<=r.ins.length/\r.ins.length<=4
noncomputable def zcc (r:Row):List (Str × D):=match r.wd with
 | .source=>[("pace",.int r.pace),("kinds",.ints r.kinds)]
 | .drain=>[("pace",.int r.pace)]
 | _=>[]
noncomputable def XU (r:Row):List (Str × D):=("ins",.ints r.ins) :: ("outs",.ints r.outs) :: zcc r
noncomputable def ZV (a:Ad) (r:Row):D:=.ob (wM a r.wd) (XU r)
noncomputable def ZW (a:Ad) (b:Int × Int):D:=.ob a.i [("room",.int b.1),("pace",.int b.2)]
def jc {α:Type} {f:Str} {x:α} {r:List (Str × α)}:((f,x) :: r).lookup f=some x:=by simp [List.lookup]
def zS {α:Type} {f g:Str} {x:α} {r:List (Str × α)} (h:f≠g):((g,x) :: r).lookup f=r.lookup f:=by
 have hb:(f == g)=false:=aX.mpr h;simp [List.lookup,hb]
def zgs (r:Row):(XU r).lookup ("ins":Str)=some (.ints r.ins):=jc
def ze2 (r:Row):(XU r).lookup ("outs":Str)=some (.ints r.outs):=(zS (by symm)).trans jc
def ze1 {r:Row} (h:r.wd=.source\/r.wd=.drain):(XU r).lookup ("pace":Str)=some (.int r.pace):=by
 refine (zS (by symm)).trans ((zS (by symm)).trans ?_);unfold zcc;rcases h with h|h <;> (rw [h];exact jc)
def zdp {r:Row} (h:r.wd=.source):(XU r).lookup ("kinds":Str)=some (.ints r.kinds):=by
 refine (zS (by symm)).trans ((zS (by symm)).trans ?_);unfold zcc;rw [h];exact (zS (by symm)).trans jc
def ze3 {r:Row} {f:Str} (h1:f≠"ins") (h2:f≠"outs") (h3:f≠"pace") (h4:f≠"kinds") (h5:f≠"kind"):(XU r).lookup f=none:=by
 refine (zS h1).trans ((zS h2).trans ?_);unfold zcc
 split
 ·exact (zS h3).trans (zS h4)
 ·exact zS h3
 ·rfl
def KnP (a:Ad) (H:Hp) (p:A5) (v:V) (r:Row):Prop:=Rep H p v (ZV a r)
def KnP.keep {H H':Hp} {p q:A5} {r:Row} (h:KnP a H p v r) (s:∀ b o,p b->H b=some o->q b/\H' b=some o):KnP a H' q v r:=Rep.keep s h
def KnP.inv {r:Row} (h:KnP a H p v r):∃ y dx l1 l2 l3 fs,v=.ref y/\p y/\p l1/\p l2/\(r.wd=.source->p l3)/\H y=some (.ins (wM a r.wd) dx fs)/\fs.lookup ("ins":Str)=some (.ref l1)/\fs.lookup ("outs":Str)=some (.ref l2) /\
  fs.lookup ("copied":Str)=none/\H l1=some (.lst (iv r.ins))/\H l2=some (.lst (iv r.outs))/\(r.wd=.source->fs.lookup ("kinds":Str)=some (.ref l3)/\H l3=some (.lst (iv r.kinds)))/\((r.wd=.source\/r.wd=.drain)->fs.lookup ("pace":Str)=some (.int r.pace)):=by
 refine oE3 (Rep.ob' h) λ y dx fs m8=>oA5 m8 λ n6 py hy g1 g2=>?_;clear m8;subst n6;obtain ⟨u1,e1,r1⟩:=g1 _ _ (zgs r);refine oE1 r1.ints' λ l1 m8=>oA3 m8 λ n6 p1 h1=>?_;clear m8;subst n6;obtain ⟨u2,e2,r2⟩:=g1 _ _ (ze2 r);refine oE1 r2.ints' λ l2 m8=>oA3 m8 λ n6 p2 h2=>?_;clear m8;subst n6;have e3:=g2 ("copied":Str) (ze3 (by symm) (by symm) (by symm) (by symm) (by symm));have pc:(r.wd=.source\/r.wd=.drain)->fs.lookup ("pace":Str)=some (.int r.pace):=λ z=>by
  obtain ⟨u,e,ru⟩:=g1 _ _ (ze1 z);cases ru;exact e
 by_cases hs:r.wd=.source
 ·obtain ⟨u3,e4,r3⟩:=g1 _ _ (zdp hs);refine oE1 r3.ints' λ l3 m8=>oA3 m8 λ n6 p3 h3=>?_;clear m8;subst n6;exact iE6 y dx l1 l2 l3 fs (iA9 rfl py p1 p2 (λ _=>p3) hy e1 e2 (iA5 e3 h1 h2 (λ _=>⟨e4,h3⟩) pc))
 ·exact iE6 y dx l1 l2 l1 fs (iA9 rfl py p1 p2 (λ z=>absurd z hs) hy e1 e2 (iA5 e3 h1 h2 (λ z=>absurd z hs) pc))
def zak {l1 l2:Addr}:kf l1 l2=([(("ins":Str),V.ref l1),(("outs":Str),V.ref l2)]:Ar):=by
 unfold kf;simp only [zL];rw [aq (by symm)]
def zfr {l1 l2:Addr} {n:Int}:df l1 l2 n=([(("ins":Str),V.ref l1),(("outs":Str),V.ref l2),(("pace":Str),V.int n)]:Ar):=by
 unfold df;rw [zak];simp only [zL];rw [aq (by symm),aq (by symm)]
def zgZ {l1 l2 l3:Addr} {n:Int}:sf l1 l2 n l3=([(("ins":Str),V.ref l1),(("outs":Str),V.ref l2),(("pace":Str),V.int n),(("kinds":Str),V.ref l3)]:Ar):=by
 unfold sf;rw [zfr];simp only [zL];rw [aq (by symm),aq (by symm),aq (by symm)]
def Zh {l C dx:Addr} {gs:List (Str × D)} (pl:p l) (e:H l=some (.ins C dx fs)) (n:fs.map (·.1)=gs.map (·.1)) (r:Reps H p (fs.map (·.2)) (gs.map (·.2))):Rep H p (.ref l) (.ob C gs) :=
 .ob pl e n λ i f g hf hg=>r.g i f.2 g.2 (by rw [am,hf];rfl) (by rw [am,hg];rfl)
section
variable {H:Hp} {p:A5} {z dz m1 m2 m3:Addr} {ins outs kinds:A6} {pace:Int}
def XV (q0:p z) (q1:p m1) (q2:p m2) (q3:p m3) (h0:H z=some (.ins a.k dz (sf m1 m2 pace m3))) (h1:H m1=some (.lst (iv ins))) (h2:H m2=some (.lst (iv outs))) (h3:H m3=some (.lst (iv kinds))):KnP a H p (.ref z) ⟨.source,ins,outs,pace,kinds⟩:=by
 rw [zgZ] at h0;exact Zh q0 h0 rfl (.cons (qw q1 h1) (.cons (qw q2 h2) (.cons .int (.cons (qw q3 h3) .nil))))
def zaj (q0:p z) (q1:p m1) (q2:p m2) (h0:H z=some (.ins a.l dz (df m1 m2 pace))) (h1:H m1=some (.lst (iv ins))) (h2:H m2=some (.lst (iv outs))):KnP a H p (.ref z) ⟨.drain,ins,outs,pace,kinds⟩:=by
 rw [zfr] at h0;exact Zh q0 h0 rfl (.cons (qw q1 h1) (.cons (qw q2 h2) (.cons .int .nil)))
def XW (q0:p z) (q1:p m1) (q2:p m2) (h0:H z=some (.ins a.m dz (kf m1 m2))) (h1:H m1=some (.lst (iv ins))) (h2:H m2=some (.lst (iv outs))):KnP a H p (.ref z) ⟨.parter,ins,outs,pace,kinds⟩:=by
 rw [zak] at h0;exact Zh q0 h0 rfl (.cons (qw q1 h1) (.cons (qw q2 h2) .nil))
def XX (q0:p z) (q1:p m1) (q2:p m2) (h0:H z=some (.ins a.n dz (kf m1 m2))) (h1:H m1=some (.lst (iv ins))) (h2:H m2=some (.lst (iv outs))):KnP a H p (.ref z) ⟨.joiner,ins,outs,pace,kinds⟩:=by
 rw [zak] at h0;exact Zh q0 h0 rfl (.cons (qw q1 h1) (.cons (qw q2 h2) .nil))
end
def BtP (a:Ad) (H:Hp) (p:A5) (v:V) (r:Int × Int):Prop:=Rep H p v (ZW a r)
def BtP.keep {H H':Hp} {p q:A5} {r:Int × Int} (h:BtP a H p v r) (s:∀ b o,p b->H b=some o->q b/\H' b=some o):BtP a H' q v r:=Rep.keep s h
def zi3 {rm pc:Int}:bf rm pc=([(("room":Str),V.int rm),(("pace":Str),V.int pc)]:Ar):=by
 unfold bf;simp only [zL];rw [aq (by symm)]
def zha {y dx:Addr} {rm pc:Int} (q0:p y) (h0:H y=some (.ins a.i dx (bf rm pc))):BtP a H p (.ref y) (rm,pc):=by
 rw [zi3] at h0;exact Zh q0 h0 rfl (.cons .int (.cons .int .nil))
def BtP.inv {r:Int × Int} (h:BtP a H p v r):∃ y dx fs,v=.ref y/\p y/\H y=some (.ins a.i dx fs)/\fs.lookup ("room":Str)=some (.int r.1)/\fs.lookup ("pace":Str)=some (.int r.2):=by
 refine oE3 (Rep.ob' h) λ y dx fs m8=>oA5 m8 λ n6 py hy g1 g2=>?_;clear m8;subst n6;obtain ⟨u1,e1,r1⟩:=g1 ("room":Str) _ jc;obtain ⟨u2,e2,r2⟩:=g1 ("pace":Str) _ ((zS (by symm)).trans jc);cases r1;cases r2;exact iE3 y dx fs (iA5 rfl py hy e1 e2)
structure Kns (a:Ad) (H:Hp) (p:A5) (vs:Ap) (rs:At):Prop where
 len:vs.length=rs.length
 g:∀ (i:Nat) v r,vs[i]?=some v->rs[i]?=some r->KnP a H p v r
def Kns.keep {H H':Hp} {p q:A5} {rs:At} (h:Kns a H p vs rs) (s:∀ b o,p b->H b=some o->q b/\H' b=some o):Kns a H' q vs rs:=⟨h.len,λ i v r e1 e2=>(h.g i v r e1 e2).keep s⟩
def Kns.nil:Kns a H p [] []:=⟨rfl,λ i v r h=>by simp at h⟩
def Kns.append {vs us:Ap} {rs qs:At} (h:Kns a H p vs rs) (k:Kns a H p us qs):Kns a H p (vs ++ us) (rs ++ qs):=by
 refine ⟨by rw [aD,aD,h.len,k.len],λ i v r e1 e2=>?_⟩;by_cases hi:i < vs.length
 ·rw [aT hi] at e1;rw [aT (by rw [<- h.len];exact hi)] at e2;exact h.g i v r e1 e2
 ·rw [aQ (by lia)] at e1;rw [aQ (by rw [<- h.len];lia),<- h.len] at e2;exact k.g _ v r e1 e2
def Kns.one {r:Row} (h:KnP a H p v r):Kns a H p [v] [r] :=
 ⟨rfl,λ i u q e1 e2=>by
  have hi:=(aa.mp e1).1;have:i=0:=by simp at hi;lia
  subst this;have e1:v=u:=by simpa using e1
  have e2:r=q:=by simpa using e2
  rw [<- e1,<- e2];exact h⟩
def Kns.at {rs:At} (h:Kns a H p vs rs) (e:vs[i]?=some v):∃ r,rs[i]?=some r/\KnP a H p v r:=by
 have hi:=(aa.mp e).1;have e2:rs[i]?=some (rs[i]'(by rw [<- h.len];exact hi)):=ae _;exact ⟨_,e2,h.g i v _ e e2⟩
structure Bts (a:Ad) (H:Hp) (p:A5) (vs:Ap) (rs:A1):Prop where
 len:vs.length=rs.length
 g:∀ (i:Nat) v r,vs[i]?=some v->rs[i]?=some r->BtP a H p v r
def Bts.keep {H H':Hp} {p q:A5} {rs:A1} (h:Bts a H p vs rs) (s:∀ b o,p b->H b=some o->q b/\H' b=some o):Bts a H' q vs rs:=⟨h.len,λ i v r e1 e2=>(h.g i v r e1 e2).keep s⟩
def Bts.nil:Bts a H p [] []:=⟨rfl,λ i v r h=>by simp at h⟩
def Bts.push {rs:A1} {r:Int × Int} (h:Bts a H p vs rs) (k:BtP a H p v r):Bts a H p (vs ++ [v]) (rs ++ [r]):=by
 refine ⟨by rw [aD,aD,h.len];rfl,λ i u q e1 e2=>?_⟩;by_cases hi:i < vs.length
 ·rw [aT hi] at e1;rw [aT (by rw [<- h.len];exact hi)] at e2;exact h.g i u q e1 e2
 ·rw [aQ (by lia)] at e1;rw [aQ (by rw [<- h.len];lia),<- h.len] at e2;have hj:=(aa.mp e1).1;have:i - vs.length=0:=by simp at hj;lia
  rw [this] at e1 e2;have e1:v=u:=by simpa using e1
  have e2:r=q:=by simpa using e2
  rw [<- e1,<- e2];exact k
def Bts.at {rs:A1} (h:Bts a H p vs rs) (e:vs[i]?=some v):∃ r,rs[i]?=some r/\BtP a H p v r:=by
 have hi:=(aa.mp e).1;have e2:rs[i]?=some (rs[i]'(by rw [<- h.len];exact hi)):=ae _;exact ⟨_,e2,h.g i v _ e e2⟩
abbrev New (H:Hp):Addr->Prop:=λ b=>H b=none
def wZ (a:Ad) (wd:Wd):Sp:=λ vs H Q _=>∃ (y:Addr) (r:Row) (p:A5),vs=[.ref y]/\KnP a H p (.ref y) r/\r.wd=wd/\r.ok/\∀ v H',Same H H'->KnP a H' (New H) v r->Q v H'
def Kns.reps {rs:At} (h:Kns a H p vs rs):Reps H p vs (rs.map (ZV a)):=⟨by rw [h.len,ai],λ i v d e1 e2=>by
 rw [am,ar] at e2;obtain ⟨r,e2,rfl⟩:=e2;exact h.g i v r e1 e2⟩
def Bts.reps {rs:A1} (h:Bts a H p vs rs):Reps H p vs (rs.map (ZW a)):=⟨by rw [h.len,ai],λ i v d e1 e2=>by
 rw [am,ar] at e2;obtain ⟨r,e2,rfl⟩:=e2;exact h.g i v r e1 e2⟩
def Kns.of {rs:At} (h:Reps H p vs (rs.map (ZV a))):Kns a H p vs rs:=⟨by rw [h.len,ai],λ i v r e1 e2=>h.g i v _ e1 (by rw [am,e2];rfl)⟩
def Bts.of {rs:A1} (h:Reps H p vs (rs.map (ZW a))):Bts a H p vs rs:=⟨by rw [h.len,ai],λ i v r e1 e2=>h.g i v _ e1 (by rw [am,e2];rfl)⟩
def QQ (T:Txt K mg a):MCal P w K mg base a.k "copied" 4 ["self"] [] (wZ a .source):=T.ko.cal T.ir λ F=>by
 refine F.okx Qa ?_ ?_
 ·walk_at "i"
 walk_at "k";refine oE3 h λ y m8 p n6=>oA5 n6 λ nu hK hw hok k=>?_;clear n6 h;obtain ⟨wd,ins,outs,pace,kinds⟩:=m8;subst nu;cases hw;have hK0:=hK;refine oE6 hK.inv λ y' dx l1 l2 l3 fs m8=>oA9 m8 λ e p0 p1 p2 p3 h0 e1 e2 n6=>oA5 n6 λ e3 h1 h2 h3 h4=>?_;clear m8 n6;cases e;obtain ⟨hk,hk'⟩:=h3 rfl;have hp:=h4 (.inl rfl);refine oA7 hok λ q1 m8 q3 q4 q5 q6 q7=>?_;clear hok;obtain ⟨ov,q2⟩:=m8;simp only at q1 q2;subst q1 q2;walk_at "T";refine ⟨_,(zd (zl (wR (x:="Source") ⟨rfl,rfl,rfl⟩ hr (za (zm (zi (pq 0) rfl) zh) (za (zi (pq 0) rfl) (za (zi (pq 0) rfl) zb)))))),?_⟩;exists iE4 a.k _ _ _ ⟨(zam T).mono,iE5 y a.k dx fs _ (iA6 rfl h0 T.ir T.iI e2 (zp (SqL.of h2) at0 ?_))⟩;refine ra h0 T.ir T.iy hp ?_;refine ra h0 T.ir T.iw hk ?_;intro z dz hz hdz hne;refine iE6 z dz l3 (.int ov) pace kinds (iA6 rfl nE (SqL.of (qU hz hdz hk')) (nH hk' hz) (λ _ H' m1 m2 m3 s' g1 g2 g3 g4 n1 n2 n3=>⟨rfl,?_⟩) (λ hbad=>absurd (iA5 q3 q4 q5 q6 q7) hbad));exact k _ _ (Own.of_new hz hdz s') (XV (p:=New H) (ins:=[]) (outs:=[ov]) hz (z7 n1) (z7 n2) (z7 n3) g1 g2 g3 g4)
def JY (T:Txt K mg a):MCal P w K mg base a.l "copied" 4 ["self"] [] (wZ a .drain):=T.kI.cal T.iA λ F=>by
 refine F.okx QM ?_ ?_
 ·walk_at "i"
 walk_at "k";refine oE3 h λ y m8 p n6=>oA5 n6 λ nu hK hw hok k=>?_;clear n6 h;obtain ⟨wd,ins,outs,pace,kinds⟩:=m8;subst nu;cases hw;have hK0:=hK;refine oE6 hK.inv λ y' dx l1 l2 l3 fs m8=>oA9 m8 λ e p0 p1 p2 p3 h0 e1 e2 n6=>oA5 n6 λ e3 h1 h2 h3 h4=>?_;clear m8 n6;cases e;have hp:=h4 (.inr rfl);refine oA4 hok λ m8 q2 q3 q4=>?_;clear hok;obtain ⟨iv',q1⟩:=m8;simp only at q1 q2;subst q1 q2;walk_at "T";refine ⟨_,(zd (zl (wR (x:="Drain") ⟨rfl,rfl,rfl⟩ hr (za (zm (zi (pq 0) rfl) zh) (za (zi (pq 0) rfl) zb))))),?_⟩;exists iE4 a.l _ _ _ ⟨(zcg T).mono,iE5 y a.l dx fs _ (iA6 rfl h0 T.iA T.iN e1 (zp (SqL.of h1) at0 ?_))⟩;refine ra h0 T.iA T.ix hp ?_;intro z dz hz hdz hne;refine iE4 z dz (.int iv') pace (iA3 rfl nE ?_);rw [ax ⟨q3,q4⟩];intro H' m1 m2 s' g1 g2 g3 n1 n2;exact ⟨rfl,k _ _ (Own.of_new hz hdz s') (zaj (p:=New H) (ins:=[iv']) (outs:=[]) hz (z7 n1) (z7 n2) g1 g2 g3)⟩
def QS (T:Txt K mg a):MCal P w K mg base a.m "copied" 4 ["self"] [] (wZ a .parter):=T.kr.cal T.iB λ F=>by
 refine F.okx Qc ?_ ?_
 ·walk_at "i"
 walk_at "k";refine oE3 h λ y m8 p n6=>oA5 n6 λ nu hK hw hok k=>?_;clear n6 h;obtain ⟨wd,ins,outs,pace,kinds⟩:=m8;subst nu;cases hw;have hK0:=hK;refine oE6 hK.inv λ y' dx l1 l2 l3 fs m8=>oA9 m8 λ e p0 p1 p2 p3 h0 e1 e2 n6=>oA5 n6 λ e3 h1 h2 h3 h4=>?_;clear m8 n6;cases e;obtain ⟨⟨iv',q1⟩,q3,q4⟩:=hok;simp only at q1 q3 q4;subst q1;walk_at "T";refine ⟨_,(zd (zl (wR (x:="Parter") ⟨rfl,rfl,rfl⟩ hr (za (zm (zi (pq 0) rfl) zh) (za (zi (pq 0) rfl) zb))))),?_⟩;exists iE4 a.m _ _ _ ⟨(zan T).mono,iE5 y a.m dx fs _ (iA6 rfl h0 T.iB T.iK e1 (zp (SqL.of h1) at0 ?_))⟩;refine ra h0 T.iB T.iz e2 ?_;intro z dz hz hdz hne;refine iE5 z dz l2 (.int iv') (iv outs) (iA5 rfl nE (SqL.of (qU hz hdz h2)) (nH h2 hz) ?_);rw [ax (by rw [iv,ai];exact ⟨q3,q4⟩)];intro H' m1 m2 s' g1 g2 g3 n1 n2;exact ⟨rfl,k _ _ (Own.of_new hz hdz s') (XW (p:=New H) (ins:=[iv']) (outs:=outs) hz (z7 n1) (z7 n2) g1 g2 g3)⟩
def QU (T:Txt K mg a):MCal P w K mg base a.n "copied" 4 ["self"] [] (wZ a .joiner):=T.kx.cal T.iC λ F=>by
 refine F.okx Qe ?_ ?_
 ·walk_at "i"
 walk_at "k";refine oE3 h λ y m8 p n6=>oA5 n6 λ nu hK hw hok k=>?_;clear n6 h;obtain ⟨wd,ins,outs,pace,kinds⟩:=m8;subst nu;cases hw;have hK0:=hK;refine oE6 hK.inv λ y' dx l1 l2 l3 fs m8=>oA9 m8 λ e p0 p1 p2 p3 h0 e1 e2 n6=>oA5 n6 λ e3 h1 h2 h3 h4=>?_;clear m8 n6;cases e;obtain ⟨⟨ov,q1⟩,q3,q4⟩:=hok;simp only at q1 q3 q4;subst q1;walk_at "T";refine ⟨_,(zd (zl (wR (x:="Joiner") ⟨rfl,rfl,rfl⟩ hr (za (zi (pq 0) rfl) (za (zm (zi (pq 0) rfl) zh) zb))))),?_⟩;exists iE4 a.n _ _ _ ⟨(zao T).mono,iE5 y a.n dx fs _ (iA6 rfl h0 T.iC T.iD e1 ?_)⟩;refine ra h0 T.iC T.iJ e2 (zp (SqL.of h2) at0 ?_);intro z dz hz hdz hne;refine iE5 z dz l1 (.int ov) (iv ins) (iA5 rfl nE (SqL.of (qU hz hdz h1)) (nH h1 hz) ?_);rw [ax (by rw [iv,ai];exact ⟨q3,q4⟩)];intro H' m1 m2 s' g1 g2 g3 n1 n2;exact ⟨rfl,k _ _ (Own.of_new hz hdz s') (XX (p:=New H) (ins:=ins) (outs:=[ov]) hz (z7 n1) (z7 n2) g1 g2 g3)⟩
def CT (T:Txt K mg a) (wd:Wd):Cls K (wM a wd):=by
 cases wd
 ·exact T.ir
 ·exact T.iA
 ·exact T.iB
 ·exact T.iC
def NI (T:Txt K mg a) (wd:Wd):NoAttr K (wM a wd) "ins":=by
 cases wd
 ·exact T.iZ
 ·exact T.iN
 ·exact T.iK
 ·exact T.iD
def NO (T:Txt K mg a) (wd:Wd):NoAttr K (wM a wd) "outs":=by
 cases wd
 ·exact T.iI
 ·exact T.i0
 ·exact T.iz
 ·exact T.iJ
def WT (T:Txt K mg a) (wd:Wd):WI K (wM a wd):=by
 cases wd
 ·exact T.mK
 ·exact T.mS
 ·exact T.mL
 ·exact T.mM
def zeR (T:Txt K mg a) (wd:Wd):MCal P w K mg base (wM a wd) "copied" 4 ["self"] [] (wZ a wd):=by
 cases wd
 ·exact QQ T
 ·exact JY T
 ·exact QS T
 ·exact QU T
theorem XM:∀ (xs ys:A6),xs.Perm ys->xs.Pairwise (·<=·)->ys.Pairwise (·<=·)->xs=ys
 | [],ys,h,_,_=>(List.nil_perm.mp h).symm
 | x :: xs,[],h,_,_=>absurd h.length_eq (by simp)
 | x :: xs,y :: ys,h,hx,hy=>by
  have e:x=y:=by
   have h1:y∈x :: xs:=h.mem_iff.mpr (by simp);have h2:x∈y :: ys:=h.mem_iff.mp (by simp);rcases az.mp h1 with e|m1
   ·exact e.symm
   rcases az.mp h2 with e|m2
   ·exact e
   have:=(dF.mp hx).1 y m1;have:=(dF.mp hy).1 x m2
   lia
  subst e;rw [XM xs ys h.cons_inv (dF.mp hx).2 (dF.mp hy).2]
noncomputable def rgI (n:Nat):List Int:=(List.range n).map λ (i:Nat)=>(i:Int)
def zbg (n:Nat):(rgI n).Pairwise (·<=·):=by
 unfold rgI;rw [List.pairwise_map];exact List.pairwise_lt_range.imp λ {i j} h=>by lia
def zf2 (n:Nat):rgL 0 n=iv (rgI n):=by
 simp [rgL,iv,rgI,cY,fu]
theorem Zb:∀ ms ns:List Int,wa (iv ms) (iv ns)=decide (ms=ns)
 | [],[]=>rfl
 | [],_ :: _=>rfl
 | _ :: _,[]=>rfl
 | m :: ms,n :: ns=>by
  show (eqV (.int m) (.int n) && wa (iv ms) (iv ns))=_
  rw [Zb ms ns];by_cases e:m=n
  ·subst e;simp [eqV]
  ·simp [eqV,e]
def zcq (ns:A6):(iv ns).all vT=true:=aS.mpr λ x hx=>by
 obtain ⟨n,_,rfl⟩:=aN.mp hx
 rfl
def zf3 {Q:VK} {p q:Addr} {ms ns:A6} (h1:SqL K H p (iv ms)) (h2:SqL K H q (iv ns)) (k:Q (.bl (!decide (ms=ns))) H):zbk K (.ref p) (.ref q) H Q :=
 .inr (.inl ⟨p,q,iv ms,iv ns,rfl,rfl,.inl ⟨h1,h2⟩,zcq ms,zcq ns,by rw [Zb];exact k⟩)
def VE (K:A0) (a:Ad):Sp:=λ vs H Q E=>∃ (bl kl:Addr) (xs ys:Ap),vs=[.ref bl,.ref kl]/\SqL K H bl xs/\SqL K H kl ys/\if (1<=xs.length/\xs.length<=24)/\1<=ys.length/\ys.length<=24 then Q .non H else E (.ref a.f) none H
def Vg (T:Txt K mg a):Cal P w K mg base "check_size" 1 ["belts","knots"] [] (VE K a):=T.lh.cal λ F=>by
 refine F.okx Xq ?_ ?_
 ·walk_at "i"
 walk_at "k";refine oE4 h λ bl kl xs ys m8=>oA4 m8 λ n6 h1 h2 k=>?_;clear m8 h;subst n6;obtain ⟨t1,g1⟩:=T.lF;obtain ⟨t2,g2⟩:=T.lG;walk_at "T";refine ⟨_,(ze (zT (jx (jf jz jz zh (qd qi qg (za (pq 0) zb)) xJ))  (zd (qB ⟨rfl,rfl,rfl⟩ rfl (za jb zb)))  zu)  (zd (zT (jx (jf jz jz zh (qd qi qg (za (pq 1) zb)) xJ))  (zd (qB ⟨rfl,rfl,rfl⟩ rfl (za jb zb)))  zu))),?_⟩;left;have bad:¬ ((1<=xs.length/\xs.length<=24)/\1<=ys.length/\ys.length<=24)->∃ C,mg "BadWork"=some (Value.ref C)/\XC K C/\E (Value.ref C) none H:=λ h=>by
  rw [aq h] at k;exact ⟨a.f,iA3 T.lB T.lH k⟩
 refine ⟨_,.inl ⟨_,h1,rfl⟩,?_⟩;exists zU (λ b1=>?_) (λ b1=>bad (by lia));refine iE2 (.int 24) _ (iA3 g1 ⟨_,rfl⟩ ?_);exists zU (λ b2=>?_) (λ b2=>bad (by lia));exists ⟨_,.inl ⟨_,h2,rfl⟩,?_⟩;exists zU (λ b3=>?_) (λ b3=>bad (by lia));refine iE2 (.int 24) _ (iA3 g2 ⟨_,rfl⟩ ?_);exists zU (λ b4=>?_) (λ b4=>bad (by lia));rw [ax (by lia)] at k;left;exact k
def zaZ (K:A0) (a:Ad):Sp:=λ vs H Q E=>∃ (l:Addr) (ns:A6) (n:Nat),vs=[.ref l,.int n]/\SqL K H l (iv ns)/\ns.length < 64/\n<=1000/\(ns.Perm (rgI n)->∀ H',Same H H'->Q .non H')/\(¬ ns.Perm (rgI n)->∀ H',Same H H'->E (.ref a.f) none H')
def xR (T:Txt K mg a):Cal P w K mg base "check_each_once" 1 ["named","size"] [] (zaZ K a):=T.iT.cal λ F=>by
 refine F.okx Zc ?_ ?_
 ·walk_at "i"
 walk_at "k";refine oE3 h λ l ns n m8=>oA6 m8 λ n6 hl h64 hn kok kbad=>?_;clear m8 h;subst n6;walk_at "T";refine ⟨_,(zd (zT (zz (JN hr.units1) (qd zdQ zdP (za (pq 0) zb)) (wg (zfE rfl) wP (za (zhu (za (pq 1) zb)) zb)) (zC _))  (zd (qB ⟨rfl,rfl,rfl⟩ rfl (za jb zb)))  zu)),?_⟩;exists iE2 l ns (iA4 rfl hl h64 (λ ms q1 hp hs hq1=>?_));left;intro q2 hq2;refine iE3 q2 0 n (iA4 rfl nE (iA5 (by lia) (by lia) (by lia) (by lia) (by lia)) (λ q3 hq3=>?_));rw [show ((n:Int) - 0).toNat=n by lia,zf2];left;have sm:Same H (upd (upd (upd H q1 (.lst (iv ms))) q2 (.rng 0 n)) q3 (.lst (iv (rgI n)))):=(zg hq1).trans ((zg hq2).trans (zg hq3));refine zf3 (ms:=ms) (ns:=rgI n) (SqL.of (nI (nI nE hq2) hq3)) (SqL.of nE) ?_;exists zU (λ b1=>?_) (λ b1=>?_)
 ·refine ⟨a.f,iA3 T.lB T.lH (kbad (λ z=>b1 (XM _ _ (hp.trans z) hs (zbg n))) _ sm)⟩
 ·exists kok ?_ _ sm;have e:ms=rgI n:=gP b1;rw [<- e];exact hp.symm
noncomputable def xQ (rs:At):List Int:=rs.flatMap Row.outs
noncomputable def qK (rs:At):List Int:=rs.flatMap Row.ins
noncomputable def wf (l1 l2:Addr):List (Str × V):=zL "knots" (.ref l2) (zL "belts" (.ref l1) [])
def zQ (bs:A1) (rs:At):Prop:=((1<=bs.length/\bs.length<=24)/\1<=rs.length/\rs.length<=24)/\(xQ rs).Perm (rgI bs.length)/\(qK rs).Perm (rgI bs.length)
def v8 (K:A0) (a:Ad):Sp:=λ vs H Q E=>∃ (y dx bl kl:Addr) (bvs n9:Ap) (bs:A1) (rs:At) (p:A5),vs=[.ref y,.ref bl,.ref kl]/\H y=some (.ins a.o dx [])/\bl≠y/\kl≠y/\(∀ b,p b->b≠y) /\
 H bl=some (.lst bvs)/\H kl=some (.lst n9)/\Bts a H p bvs bs/\Kns a H p n9 rs/\(∀ b∈bs,zA b.1 b.2)/\(∀ r∈rs,r.ok)/\(xQ rs).length < 64/\(qK rs).length < 64/\bs.length<=1000 /\
 (zQ bs rs->∀ H' l1 l2 bvs' kvs',Own H H' y->H' y=some (.ins a.o dx (wf l1 l2))->H' l1=some (.lst bvs')->H' l2=some (.lst kvs')->Bts a H' (New H) bvs' bs->Kns a H' (New H) kvs' rs->H l1=none->H l2=none->Q .non H') /\
 (¬ zQ bs rs->∀ H',Same H H'->E (.ref a.f) none H')
def zbH {rs:At} {r:Row} (h:rs[i]?=some r):xQ (rs.take (i + 1))=xQ (rs.take i) ++ r.outs:=by
 unfold xQ;rw [aG,h,gz];simp
def Wi {rs:At} {r:Row} (h:rs[i]?=some r):qK (rs.take (i + 1))=qK (rs.take i) ++ r.ins:=by
 unfold qK;rw [aG,h,gz];simp
def xg (f:Row->List Int) (rs:At) (i:Nat):((rs.take i).flatMap f).length<=(rs.flatMap f).length:=by
 conv=>rhs;rw [<- List.take_append_drop i rs,gz,aD]
 lia
def vv (xs ys:A6):iv xs ++ iv ys=iv (xs ++ ys):=by rw [iv,iv,iv,aZ]
def WU (T:Txt K mg a) (F:Fun K "__init__" "Work.__init__" jq f fd):FnOk P w K mg base (CXr P w) 5 f fd ["self","belts","knots"] (v8 K a):=by
 refine F.okx WB ?_ ?_
 ·walk_at "i"
 walk_at "k";refine oE5 h λ y dx bl kl bvs m8=>oE4 m8 λ n9 bs rs p n6=>oA9 n6 λ nu hy nby nky hpy hb hk hB nB=>oA8 nB λ hKs hbo hro h64 h64' hlb kok kbad=>?_;clear m8 n6 nB h;subst nu;walk_at "T";refine ⟨_,(zo (zO ‹(pq 1) (za (pq 2) zb)›)  (zo (zt 3 WB.nd (qe zb))  (zo (zt 4 WB.nd (qe zb))  (zo (qo qC rfl (zV (pq 2)) (qf 5 WB.nd)  (zo (zO (xK aK cK cJ vJ (pq 3) (za (zi (pq 5) rfl) zb)))  (zd (zO (xK aK cK cJ vJ (pq 4) (za (zi (pq 5) rfl) zb))))))  (zo (zO ‹(pq 3) (za (qd qi qg (za (pq 1) zb)) zb)›)  (zo (zO ‹(pq 4) (za (qd qi qg (za (pq 1) zb)) zb)›)  (zo (qT (pq 0) (jr (vars:=["belt"]) (caps:=[]) (N:=["belt"]) (ON:=["self","belts","knots","fed","taken","knot"]) (osc:=zc jq) rfl rfl (by right) rfl rfl (zV (pq 1)) (λ _ _ _ _=>(qf 0 (show (["belt"]:A8).Nodup from by symm))) (λ _ _ _ _=>zX) (λ _ _ _ _=>(zbm (x:="Belt") hr (za (zi (pq 0) rfl) (za (zi (pq 0) rfl) zb))))) rfl)  (zd (qT (pq 0) (jr (vars:=["knot"]) (caps:=[]) (N:=["knot"]) (ON:=["self","belts","knots","fed","taken","knot"]) (osc:=zc jq) rfl rfl (by right) rfl rfl (zV (pq 2)) (λ _ _ _ _=>(qf 0 (show (["knot"]:A8).Nodup from by symm))) (λ _ _ _ _=>zX) (λ _ _ _ _=>(zeA hr (pq 0)))) rfl))))))))),?_⟩;exists uc (Vg T).mono (iE4 bl kl bvs n9 (iA4 rfl (SqL.of hb) (SqL.of hk) (zU (λ b1=>?_) (λ b1=>?_))))
 rotate_left
 ·refine kbad (λ z=>b1 ?_) H (Same.refl _);rw [hB.len,hKs.len];exact z.1
 rw [hB.len,hKs.len] at b1;left;intro fl hfl;left;intro tl htl;have nft:fl≠tl:=nH nE htl;have htl0:H tl=none:=qj htl;walk_at "e";left;have s2:Same H (upd (upd H fl (.lst [])) tl (.lst [])):=(zg hfl).trans (zg htl);refine ⟨kl,rfl,.inl ⟨⟨_,SqL.of (s2 _ _ hk)⟩,?_⟩⟩;let nz:Nat->St->Hp->Prop:=λ i σ H'=>∃ v5,σ=[some (.ref y),some (.ref bl),some (.ref kl),some (.ref fl),some (.ref tl),v5]/\Same H H'/\H' fl=some (.lst (iv (xQ (rs.take i))))/\H' tl=some (.lst (iv (qK (rs.take i))));refine ql (K:=K) (a:=kl) (xs:=n9) nz ⟨_,iA4 rfl s2 (nI nE htl) nE⟩ (λ i σ H' _ ⟨_,_,s,_⟩=>SqL.of (s _ _ hk)) ?_ ?_
 ·intro i x σ H' hi nh;refine oE1 nh λ v5 m8=>oA4 m8 λ n6 s3 e1 e2=>?_;ext;obtain ⟨r,hr',hKn0⟩:=hKs.at hi;refine oE6 hKn0.inv λ y1 dx1 l1 l2 l3 fs m8=>oA9 m8 λ n6 p0 p1 p2 p3 h0 f1 f2 nu=>oA5 nu λ f3 h1 h2 h3 h4=>?_;clear m8 nu;subst n6;have L1:=xg Row.outs rs i;have L2':=xg Row.ins rs i;have L3:=xg Row.outs rs (i + 1);have L4:=xg Row.ins rs (i + 1);have E1:=zbH hr';have E2:=Wi hr';have n1:∀ {b:Addr} {o:HO},H b=some o->b≠fl:=λ h=>nH h hfl;have n2:∀ {b:Addr} {o:HO},H b=some o->b≠tl:=λ h=>nH h htl0;exists ⟨.inl ⟨rfl,_,SqL.of e1⟩,iE5 y1 (wM a r.wd) dx1 fs _ (iA6 rfl (s3 _ _ h0) (CT T _) (NO T _) f2 ?_)⟩;refine iE4 fl l2 _ _ (iA6 rfl rfl e1 (s3 _ _ h2) ?_ ?_)
  ·refine bw (zk ?_);have:=bP List.length E1;rw [aD] at this;rw [iv,iv,ai,ai];unfold xQ at this h64 ⊢
   lia
  left;have e2':upd H' fl (.lst (iv (xQ (rs.take i)) ++ iv r.outs)) tl=some (.lst (iv (qK (rs.take i)))):=by rw [nF (ba nft)];exact e2
  refine ⟨.inl ⟨rfl,_,SqL.of e2'⟩,iE5 y1 (wM a r.wd) dx1 fs _ (iA6 rfl ?_ (CT T _) (NI T _) f1 ?_)⟩
  ·rw [nF (n1 h0)];exact s3 _ _ h0
  refine iE4 tl l1 _ (iv r.ins) (iA6 rfl rfl e2' ?_ ?_ ?_)
  ·rw [nF (n1 h1)];exact s3 _ _ h1
  ·refine bw (zk ?_);have:=bP List.length E2;rw [aD] at this;rw [iv,iv,ai,ai];unfold qK at this h64' ⊢
   lia
  refine ⟨_,iA4 rfl (λ b o hb=>?_) ?_ ?_⟩
  ·rw [nF (n2 hb),nF (n1 hb)];exact s3 _ _ hb
  ·rw [nF nft,nE,E1,vv]
  ·rw [nE,E2,vv]
 ·intro σ H1 nh;refine oE1 nh λ v5 m8=>oA4 m8 λ n6 s3 e1 e2=>?_;ext;rw [hKs.len,aH] at e1 e2;exists uc (xR T).mono ⟨iH,⟨_,⟨.inl ⟨_,SqL.of (s3 _ _ hb),rfl⟩,?_⟩⟩⟩;rw [hB.len];refine iE3 fl (xQ rs) bs.length (iA6 rfl (SqL.of e1) h64 hlb (λ g1 H2 s4=>?_) (λ g1 H2 s4=>kbad (λ z=>g1 z.2.1) _ (s3.trans s4)));exists uc (xR T).mono ⟨iH,⟨_,⟨.inl ⟨_,SqL.of (s4 _ _ (s3 _ _ hb)),rfl⟩,?_⟩⟩⟩;rw [hB.len];refine iE3 tl (qK rs) bs.length (iA6 rfl (SqL.of (s4 _ _ e2)) h64' hlb (λ g2 H3 s5=>?_) (λ g2 H3 s5=>kbad (λ z=>g2 z.2.2) _ (s3.trans (s4.trans s5))));have kok:=kok ⟨b1,g1,g2⟩;have s6:=s3.trans (s4.trans s5);clear s3 s4 s5 e1 e2;clear g1 g2;left;walk_at "d";exists ⟨bl,rfl,.inl ⟨⟨_,SqL.of (s6 _ _ hb)⟩,λ _ _ _ _ nj hacc=>?_⟩⟩;have nacc:H nj=none:=zr s6 hacc;let nA:Nat->St->Hp->Prop:=λ i σ H'=>∃ v us,σ=[v]/\Same H3 H'/\H' nj=some (.lst us)/\Bts a H' (λ b=>H3 b=none/\b≠nj) us (bs.take i);refine ql (K:=K) (a:=bl) (xs:=bvs) nA (iE2 _ ([]) (iA4 rfl (zg hacc) nE (by rw [b9];exact .nil))) (λ i σ H' _ ⟨_,_,_,s,_⟩=>SqL.of (s _ _ (s6 _ _ hb))) ?_ ?_
  ·intro i x σ H' hi nh;refine oE2 nh λ v us m8=>oA4 m8 λ n6 s7 e1 hU=>?_;ext;obtain ⟨⟨rm,pc⟩,hr',hBt0⟩:=hB.at hi;refine oE3 hBt0.inv λ y1 dx1 fs m8=>oA5 m8 λ n6 p0 h0 f1 f2=>?_;clear m8;subst n6;have hok:=hbo _ (aj hr');have hil:i < bs.length:=(aa.mp hr').1;have h0':=s7 _ _ (s6 _ _ h0);exists iE4 a.i _ _ _ ⟨(ze8 T).mono,iE5 y1 a.i dx1 fs _ (iA6 rfl h0' T.iQ T.iM f1 (iE5 y1 a.i dx1 fs _ (iA6 rfl h0' T.iQ T.iG f2 ?_)))⟩;intro z dz hz hdz hne;refine iE4 z dz rm pc (iA3 rfl nE ?_);rw [ax hok,vD];have sN:Same H' (upd (upd H' dz (.own z)) z (.ins a.i dz (bf rm pc))):=λ b o h=>by rw [nF (nH h hz),nF (nH h hdz)];exact h
   have hz':upd (upd H' dz (.own z)) z (.ins a.i dz (bf rm pc)) z=some (.ins a.i dz (bf rm pc)):=nE;generalize upd (upd H' dz (.own z)) z (.ins a.i dz (bf rm pc))=H4 at sN hz' ⊢;have hzn:z≠nj:=λ q=>by rw [q,e1] at hz;cases hz
   refine ⟨rfl,⟨_,iA3 (sN _ _ e1) (zk (by have:=hU.len;rw [aP] at this;lia)) (iE2 _ (us ++ [.ref z]) (iA4 rfl (λ b o hb=>?_) nE ?_))⟩⟩
   ·rw [nF (nH hb hacc)];exact sN _ _ (s7 _ _ hb)
   ·rw [aG,hr'];refine Bts.push (hU.keep λ b o hp hb=>⟨hp,by rw [nF hp.2];exact sN _ _ hb⟩) (zha (p:=λ b=>H3 b=none/\b≠nj) ⟨zr s7 hz,hzn⟩ (by rw [nF hzn];exact hz'))
  ·intro σ H4 nh;refine oE2 nh λ v us m8=>oA4 m8 λ n6 s7 e1 hU=>?_;ext;rw [hB.len,aH] at hU;have s8:=s6.trans s7;have nacy:nj≠y:=(nH hy nacc).symm;exists iE4 y a.o dx ([]) (iA6 rfl (s8 _ _ hy) T.ik T.iE (by decide) ?_);have o9:Own H (upd H4 y (.ins a.o dx (zL "belts" (.ref nj) []))) y:=(Same.own s8).trans jk;have hy9:upd H4 y (.ins a.o dx (zL "belts" (.ref nj) [])) y=some (.ins a.o dx (zL "belts" (.ref nj) [])):=nE;have e9:upd H4 y (.ins a.o dx (zL "belts" (.ref nj) [])) nj=some (.lst us):=by rw [nF nacy];exact e1
   have hU9:Bts a (upd H4 y (.ins a.o dx (zL "belts" (.ref nj) []))) (λ b=>H b=none/\b≠y) us bs:=hU.keep λ b o hp hb=>by
    have q1:H b=none:=zr s6 hp.1;have q2:b≠y:=(nH hy q1).symm;exact ⟨⟨q1,q2⟩,by rw [nF q2];exact hb⟩
   generalize upd H4 y (.ins a.o dx (zL "belts" (.ref nj) []))=H5 at o9 hy9 e9 hU9 ⊢;left;walk_at "d";exists ⟨kl,rfl,.inl ⟨⟨_,SqL.of (o9 _ _ nky hk)⟩,λ _ _ _ _ ac2 hac2=>?_⟩⟩;let nC:Nat->St->Hp->Prop:=λ i σ H'=>∃ v us2,σ=[v]/\Same H5 H'/\H' ac2=some (.lst us2)/\Kns a H' (λ b=>H5 b=none/\b≠ac2) us2 (rs.take i);refine ql (K:=K) (a:=kl) (xs:=n9) nC (iE2 _ ([]) (iA4 rfl (zg hac2) nE (by rw [b9];exact .nil))) (λ i σ H' _ ⟨_,_,_,s,_⟩=>SqL.of (s _ _ (o9 _ _ nky hk))) ?_ ?_
   ·intro i x σ H' hi nh;refine oE2 nh λ v us2 m8=>oA4 m8 λ n6 s10 e2 hV=>?_;ext;obtain ⟨r,hr',hKn⟩:=hKs.at hi;have hok:=hro _ (aj hr');have hil:i < rs.length:=(aa.mp hr').1;have hKn':KnP a H' p x r:=hKn.keep λ b o hp hb=>⟨hp,s10 _ _ (o9 _ _ (hpy b hp) hb)⟩;refine oE6 hKn'.inv λ y1 dx1 l1 l2 l3 fs m8=>oA9 m8 λ n6 p0 p1 p2 p3 h0 f1 f2 nu=>oA5 nu λ f3 h1 h2 h3 h4=>?_;clear m8 nu;subst n6;exists iE7 y1 (wM a r.wd) dx1 fs _ _ _ (iA5 rfl h0 f3 ((zeR T r.wd).mono) ?_);refine iE3 y1 r p (iA5 rfl hKn' rfl hok (λ v' H6 s11 hN=>?_));refine ⟨_,iA3 (s11 _ _ e2) (zk (by have:=hV.len;rw [aP] at this;lia)) (iE2 _ (us2 ++ [v']) (iA4 rfl (λ b o hb=>?_) nE ?_))⟩
    ·rw [nF (nH hb hac2)];exact s11 _ _ (s10 _ _ hb)
    ·rw [aG,hr'];refine Kns.append (hV.keep λ b o hp hb=>⟨hp,by rw [nF hp.2];exact s11 _ _ hb⟩) (Kns.one (hN.keep λ b o hp hb=>?_));have q2:b≠ac2:=λ z=>by rw [z] at hp;rw [New,e2] at hp;cases hp
     exact ⟨⟨zr s10 hp,q2⟩,by rw [nF q2];exact hb⟩
   ·intro σ H6 nh;refine oE2 nh λ v us2 m8=>oA4 m8 λ n6 s10 e2 hV=>?_;ext;rw [hKs.len,aH] at hV;have hy10:=s10 _ _ hy9;exists iE4 y a.o dx _ (iA6 rfl hy10 T.ik T.ii (by show 1 < 1000;decide) ?_);have n2y:ac2≠y:=λ z=>by rw [z,hy9] at hac2;cases hac2
    have ho:∀ b,H5 b=none->b≠y->H b=none:=λ b h1 h2=>by
     cases e:H b with
     | none=>rfl
     | some o=>rw [o9 b o h2 e] at h1;cases h1
    refine kok _ nj ac2 us us2 ((o9.trans (Same.own s10)).trans jk) nE ?_ ?_ ?_ ?_ nacc (ho _ hac2 n2y)
    ·rw [nF nacy];exact s10 _ _ e9
    ·rw [nF n2y];exact e2
    ·exact hU9.keep λ b o hp hb=>⟨hp.1,by rw [nF hp.2];exact s10 _ _ hb⟩
    ·refine hV.keep λ b o hp hb=>?_;have q:b≠y:=λ z=>by rw [z,hy9] at hp;cases hp.1
     exact ⟨ho b hp.1 q,by rw [nF q];exact hb⟩
def zhQ (T:Txt K mg a):KCal P w K mg base "Work" a.o 5 ["self","belts","knots"] [] (v8 K a):=T.lT.cal T.mX (WU T)
noncomputable def Xa (b:Int × Int):D:=.tup [.int b.1,.int b.2]
def zb1 (n:Nat):(rgI n).length=n:=by simp [rgI]
def VS (n:Nat):rgI (n + 1)=rgI n ++ [(n:Int)]:=by simp [rgI,dR]
def zH (ns:A6):(iv ns).length=ns.length:=by rw [iv,ai]
def wS {x:V} (h:(iv ns)[i]?=some x):∃ n,ns[i]?=some n/\x=.int n:=by
 rw [iv,am,ar] at h;obtain ⟨n,h1,h2⟩:=h;exact ⟨n,h1,h2.symm⟩
def j9 {n:Int} (h:ns[i]?=some n):(iv ns)[i]?=some (.int n):=by rw [iv,am,h];rfl
def vL (ns:A6) (n:Int):iv ns ++ [.int n]=iv (ns ++ [n]):=by simp [iv]
structure WInv (bs:A1) (rs:At) (es ks:A6):Prop where
 tk:(qK rs ++ es).Perm (rgI bs.length)
 fd:(xQ rs ++ ks).Perm (rgI bs.length)
 ro:∀ r∈rs,r.ok
 bo:∀ b∈bs,zA b.1 b.2
def zbI (rs:At) (r:Row):xQ (rs ++ [r])=xQ rs ++ r.outs:=by simp [xQ]
def Wj (rs:At) (r:Row):qK (rs ++ [r])=qK rs ++ r.ins:=by simp [qK]
def Vb {us:Ap} (h:us.length=n + 1):∃ a vs,us=a :: vs/\vs.length=n:=by
 cases us with
 | nil=>cases h
 | cons a vs=>exact ⟨a,vs,rfl,Nat.succ.inj h⟩
def two_of {us:Ap} (h:us.length=2):∃ a b,us=[a,b]:=by
 obtain ⟨a,_,rfl,h1⟩:=Vb h;obtain ⟨b,_,rfl,h2⟩:=Vb h1;exact ⟨a,b,by rw [cX.mp h2]⟩
def zgo {x:Int} (h:x∈rgI n):0<=x/\x < n:=by
 unfold rgI at h;obtain ⟨i,hi,rfl⟩:=aN.mp h;have:=be.mp hi
 lia
def jU {b:Int × Int} (h:Rep H p v (Xa b)):∃ t,v=.ref t/\H t=some (.tup [.int b.1,.int b.2]):=by
 obtain ⟨t,us,rfl,_,ht,rr⟩:=Rep.tup' h;have g:=rr.g;obtain ⟨x0,x1,rfl⟩:=two_of rr.len;have a0:=g 0 x0 _ rfl rfl;have a1:=g 1 x1 _ rfl rfl;cases a0;cases a1;exact ⟨t,rfl,ht⟩
noncomputable def qA (a:Ad) (bs:A1) (rs:At):D:=.ob a.o [("belts",.lst (bs.map (ZW a))),("knots",.lst (rs.map (ZV a)))]
def zim {l1 l2:Addr}:wf l1 l2=([(("belts":Str),V.ref l1),(("knots":Str),V.ref l2)]:Ar):=by
 unfold wf;simp only [zL];rw [aq (by symm)]
def Vl {a:Ad} {rs:At}:([("belts",.lst (bs.map (ZW a))),("knots",.lst (rs.map (ZV a)))]:List (Str × D)).lookup ("belts":Str)=some (.lst (bs.map (ZW a))):=jc
def zdY {a:Ad} {rs:At}:([("belts",.lst (bs.map (ZW a))),("knots",.lst (rs.map (ZV a)))]:List (Str × D)).lookup ("knots":Str)=some (.lst (rs.map (ZV a))):=(zS (by symm)).trans jc
def zil {a:Ad} {rs:At} {f:Str} (h1:f≠"belts") (h2:f≠"knots"):([("belts",.lst (bs.map (ZW a))),("knots",.lst (rs.map (ZV a)))]:List (Str × D)).lookup f=none:=(zS h1).trans (zS h2)
def zeK {x b:Addr} (h:H x=some o) (hb:H b=none):b ∉ [x]:=λ z=>by rw [ap.mp z,h] at hb;cases hb
section
variable {H:Hp} {z dz:Addr} {Q:VK} {EX:XK}
def zgn {rm pc:Int} (hz:H z=none) (hdz:H dz=none) (ok:zA rm pc) (k:∀ H',Same H H'->BtP a H' (New H) (.ref z) (rm,pc)->Q .non H'):v9 a.i a.d [.ref z,.int rm,.int pc] (upd (upd H dz (.own z)) z (.ins a.i dz [])) Q EX:=by
 refine iE4 z dz rm pc (iA3 rfl nE ?_);rw [ax ok,vD];exact k _ (λ b o h=>by rw [nF (nH h hz),nF (nH h hdz)];exact h) (zha hz nE)
def zeQ {y pc:Int} (hz:H z=none) (hdz:H dz=none) (h0:0<=pc) (h4:pc<=4) (k:∀ H',Same H H'->KnP a H' (New H) (.ref z) ⟨.drain,[y],[],pc,[]⟩->Q .non H'):wY a.l a.e [.ref z,.int y,.int pc] (upd (upd H dz (.own z)) z (.ins a.l dz [])) Q EX:=by
 refine iE4 z dz (.int y) pc (iA3 rfl nE ?_);rw [ax ⟨h0,h4⟩];intro H' m1 m2 s' g1 g2 g3 n1 n2;exact k _ (Own.of_new hz hdz s') (zaj (p:=New H) (ins:=[y]) (outs:=[]) hz (z7 n1) (z7 n2) g1 g2 g3)
def zdj {l:Addr} {y pc:Int} {kd:A6} (hz:H z=none) (hdz:H dz=none) (hl:H l=some (.lst (iv kd))) (h1:1<=pc) (h4:pc<=4) (k1:1<=kd.length) (k6:kd.length<=6) (kk:QI kd) (k:∀ H',Same H H'->KnP a H' (New H) (.ref z) ⟨.source,[],[y],pc,kd⟩->Q .non H'):wn K a.k a.e [.ref z,.int y,.int pc,.ref l] (upd (upd H dz (.own z)) z (.ins a.k dz [])) Q EX:=by
 refine iE6 z dz l (.int y) pc kd (iA6 rfl nE (SqL.of (qU hz hdz hl)) (nH hl hz) (λ _ H' m1 m2 m3 s' g1 g2 g3 g4 n1 n2 n3=>?_) (λ hbad=>absurd (iA5 h1 h4 k1 k6 kk) hbad));exact k _ (Own.of_new hz hdz s') (XV (p:=New H) (ins:=[]) (outs:=[y]) hz (z7 n1) (z7 n2) (z7 n3) g1 g2 g3 g4)
def zdk {l:Addr} {y:Int} {outs:A6} (hz:H z=none) (hdz:H dz=none) (hl:H l=some (.lst (iv outs))) (h2:2<=outs.length) (h4:outs.length<=4) (k:∀ H',Same H H'->KnP a H' (New H) (.ref z) ⟨.parter,[y],outs,0,[]⟩->Q .non H'):wo K a.m a.e [.ref z,.int y,.ref l] (upd (upd H dz (.own z)) z (.ins a.m dz [])) Q EX:=by
 refine iE5 z dz l (.int y) (iv outs) (iA5 rfl nE (SqL.of (qU hz hdz hl)) (nH hl hz) ?_);rw [ax (by rw [zH];exact ⟨h2,h4⟩)];intro H' m1 m2 s' g1 g2 g3 n1 n2;exact k _ (Own.of_new hz hdz s') (XW (p:=New H) (ins:=[y]) (outs:=outs) hz (z7 n1) (z7 n2) g1 g2 g3)
def zdl {l:Addr} {y:Int} {ins:A6} (hz:H z=none) (hdz:H dz=none) (hl:H l=some (.lst (iv ins))) (h2:2<=ins.length) (h4:ins.length<=4) (k:∀ H',Same H H'->KnP a H' (New H) (.ref z) ⟨.joiner,ins,[y],0,[]⟩->Q .non H'):wp K a.n a.e [.ref z,.ref l,.int y] (upd (upd H dz (.own z)) z (.ins a.n dz [])) Q EX:=by
 refine iE5 z dz l (.int y) (iv ins) (iA5 rfl nE (SqL.of (qU hz hdz hl)) (nH hl hz) ?_);rw [ax (by rw [zH];exact ⟨h2,h4⟩)];intro H' m1 m2 s' g1 g2 g3 n1 n2;exact k _ (Own.of_new hz hdz s') (XX (p:=New H) (ins:=ins) (outs:=[y]) hz (z7 n1) (z7 n2) g1 g2 g3)
end
def WInv.knot {rs:At} {es ks es' ks':A6} {r:Row} (h:WInv bs rs es ks) (pe:(r.ins ++ es').Perm es) (pk:(r.outs ++ ks').Perm ks) (ok:r.ok):WInv bs (rs ++ [r]) es' ks':=by
 refine ⟨?_,?_,λ x hx=>?_,h.bo⟩
 ·rw [Wj,cx];exact (gD _ pe).trans h.tk
 ·rw [zbI,cx];exact (gD _ pk).trans h.fd
 ·rcases aB.mp hx with hx|hx
  ·exact h.ro x hx
  ·rw [ap.mp hx];exact ok
def WInv.belt {rs:At} {es ks:A6} {b:Int × Int} (h:WInv bs rs es ks) (hb:zA b.1 b.2):WInv (bs ++ [b]) rs (es ++ [(bs.length:Int)]) (ks ++ [(bs.length:Int)]):=by
 refine ⟨?_,?_,h.ro,λ x hx=>?_⟩
 ·rw [aD,eC,VS,<- cx];exact gm _ h.tk
 ·rw [aD,eC,VS,<- cx];exact gm _ h.fd
 ·rcases aB.mp hx with hx|hx
  ·exact h.bo x hx
  ·rw [ap.mp hx];exact hb
def zgm {z dz L R:Addr} {Q:VK} {EX:XK} {bvs rvs:Ap} {rs:At} {p q:A5} (hz:H z=none) (hdz:H dz=none) (hL:H L=some (.lst bvs)) (hR:H R=some (.lst rvs)) (rB:Reps H p bvs (bs.map (ZW a))) (rK:Reps H q rvs (rs.map (ZV a))) (nk:zQ bs rs) (bo:∀ b∈bs,zA b.1 b.2) (ro:∀ r∈rs,r.ok)
  (k:∀ H',Same H H'->Rep H' (Off []) (.ref z) (qA a bs rs)->Q .non H'):v8 K a [.ref z,.ref L,.ref R] (upd (upd H dz (.own z)) z (.ins a.o dz [])) Q EX:=by
 have lb:=nk.1.1.2;refine ⟨z,dz,L,R,bvs,rvs,bs,rs,λ b=>b≠z,rfl,nE,nH hL hz,nH hR hz,λ _ h=>h,qU hz hdz hL,qU hz hdz hR,
  (Bts.of rB).keep λ b o _ hb=>⟨nH hb hz,qU hz hdz hb⟩,(Kns.of rK).keep λ b o _ hb=>⟨nH hb hz,qU hz hdz hb⟩,bo,ro,by rw [nk.2.1.length_eq,zb1];lia,by rw [nk.2.2.length_eq,zb1];lia,by lia,λ _ H4 m1 m2 bv kv o4 g0 g1 g2 gB gK n1 n2=>?_,λ y=>absurd nk y⟩
 refine k _ (Own.of_new hz hdz o4) ?_;rw [zim] at g0;exact Zh (λ z=>nomatch z) g0 rfl (.cons (gB.reps.all.mk' (λ z=>nomatch z) g1) (.cons (gK.reps.all.mk' (λ z=>nomatch z) g2) .nil))
noncomputable def cntOf (n:Nat):Nat:=if n<=1 then 1 else if n<=2 then 2 else if n<=4 then 4 else 8
def zfw {n e:Nat} (h:e=1\/e=2\/e=4\/e=8) (hn:n<=8) (h1:e < n):e * 2<=cntOf n:=by
 unfold cntOf;split <;> (try split) <;> (try split) <;> lia
def zgA {n e:Nat} (h:e=1\/e=2\/e=4\/e=8) (h1:¬ e < n) (h2:e<=cntOf n):e=cntOf n:=by
 unfold cntOf at *;split at h2 <;> (try split at h2) <;> (try split at h2) <;> (try split) <;> (try split) <;> (try split) <;> lia
def vO (n:Nat):cntOf n=1\/cntOf n=2\/cntOf n=4\/cntOf n=8:=by
 unfold cntOf;split <;> (try split) <;> (try split) <;> lia
def zhj:Sp:=λ vs H Q _=>∃ n:Nat,vs=[.int n]/\1<=n/\n<=8/\Q (.int (cntOf n)) H
def zbS (T:Txt K mg a):Cal P w K mg base "ends_for" 1 ["ways"] [] zhj:=T.l5.cal λ F=>by
 refine F.okx VM ?_ ?_
 ·walk_at "i"
 walk_at "k";obtain ⟨n,rfl,h1,h8,k⟩:=h;walk_at "T";refine ⟨_,(ze (zt 1 VM.nd zh)  (ze (ZF qC (zz JO (pq 1) (pq 0) (zC _))  (zd (zt 1 VM.nd (zD vm (pq 1) zh))))  (zd (zl (pq 1))))),?_⟩;exists ⟨λ m σ H'=>∃ e:Nat,σ=[some (.int n),some (.int e)]/\H'=H/\(e=1\/e=2\/e=4\/e=8)/\e<=cntOf n/\m=16 - e,⟨_,1,rfl,rfl,by lia,(by have:=vO n;lia),rfl⟩,?_⟩;rintro m σ H' ⟨e,rfl,rfl,he,hle,rfl⟩;exists zU (λ h=>?_) (λ h=>?_)
 ·refine zf5 ?_;left;have:=zfw he h8 (by lia);refine ⟨mul_okR (by decide) (by decide),_,?_,e * 2,by push_cast;rfl,by have:=vO n;lia,this,rfl⟩
  lia
 ·left;rw [zgA he (by lia) hle];exact k
noncomputable def xm (lo:Int) (n:Nat):List Int:=(List.range n).map λ (i:Nat)=>lo + (i:Int)
def jR (lo:Int) (n:Nat):(xm lo n).length=n:=by simp [xm]
def zfZ {lo:Int} {n i:Nat} (h:i < n):(xm lo n)[i]?=some (lo + i):=by simp [xm,h]
def zeh (lo:Int) (n:Nat):xm lo (2 * (n + 1))=xm lo (2 * n) ++ [lo + 2 * n,lo + 2 * n + 1]:=by
 rw [show 2 * (n + 1)=2 * n + 1 + 1 by lia];simp only [xm,dR,aZ,br,fK,cx,cons_append,nil_append]
 push_cast
 congr 3
 lia
noncomputable def ji (r:Int) (n:Nat):List Row:=(List.range n).map λ (i:Nat)=>⟨.parter,[r + i],[r + 2 * i + 1,r + 2 * i + 2],0,[]⟩
def WP (r:Int) (n:Nat):ji r (n + 1)=ji r n ++ [⟨.parter,[r + n],[r + 2 * n + 1,r + 2 * n + 2],0,[]⟩]:=by
 simp [ji,dR]
def QA (r:Int) (n:Nat):(ji r n).length=n:=by simp [ji]
def zhi (a:Ad):Sp:=λ vs H Q _=>∃ (r:Int) (c:Nat) (L:Addr) (kv:Ap) (rs:At),vs=[.int r,.int c,.ref L]/\(c=1\/c=2\/c=4\/c=8)/\H L=some (.lst kv)/\kv.length<=100/\Kns a H (λ b=>b≠L) kv rs /\
 ∀ H' e kv',Own H H' L->H e=none->H' L=some (.lst (kv ++ kv'))->H' e=some (.lst (iv (xm (r + (c:Int) - 1) c)))->Kns a H' (λ b=>b≠L/\b≠e) (kv ++ kv') (rs ++ ji r (c - 1))->Q (.ref e) H'
theorem zaE (T:Txt K mg a):Cal P w K mg base "grow_tree" 4 ["root","count","knots"] [] (zhi a):=T.lI.cal λ F=>by
 refine F.okx Wz ?_ ?_
 ·walk_at "i"
 walk_at "k";obtain ⟨r,c,L,kv,rs,rfl,hc,hL,hkl,hK,k⟩:=h;walk_at "T";refine ⟨_,(ze (zt 3 Wz.nd (qe (za (pq 0) zb)))  (ze (zt 4 Wz.nd (pq 0))  (ze (ZF qC (zz JO (qd qi qg (za (pq 3) zb)) (pq 1) (zC _))  (ze (zt 5 Wz.nd (qe zb))  (ze (qo qC rfl (zV (pq 3)) (qf 6 Wz.nd)  (ze (zO (xK aK aW aV qD (pq 2) (za (wR (x:="Parter") ⟨rfl,rfl,rfl⟩ hr (za (pq 6) (za (qe (za (zD qr (pq 4) zh) (za (zD qr (pq 4) zh) zb))) zb))) zb)))  (ze (zO (xK aK cK cJ vJ (pq 5) (za (qe (za (zD qr (pq 4) zh) (za (zD qr (pq 4) zh) zb))) zb)))  (zd (zew (i:=4) Wz.nd rfl (Or.inl rfl) zh zfc)))))  (zd (zt 3 Wz.nd (pq 5))))))  (zd (zl (pq 3)))))),?_⟩;left;intro e0 he0;have nL0:L≠e0:=nH hL he0;exists ⟨λ m σ H'=>∃ (q:Nat) (e:Addr) (kv':Ap),∃ v5 v6,σ=[some (.int r),some (.int c),some (.ref L),some (.ref e),some (.int (r + 2 * (q:Int))),v5,v6]/\(q=0\/q=1\/q=3\/q=7)/\q + 1<=c/\Own H H' L/\H e=none/\H' L=some (.lst (kv ++ kv')) /\
  H' e=some (.lst (iv (xm (r + q) (q + 1))))/\Kns a H' (λ b=>b≠L/\b≠e) (kv ++ kv') (rs ++ ji r q)/\m=100 - q,⟨_,0,e0,[],none,none,?_,by lia,by lia,Same.own (zg he0),he0,?_,?_,?_,rfl⟩,?_⟩
 ·simp
 ·rw [cZ,nF nL0];exact hL
 ·rw [nE];simp [xm,iv]
 ·have e:kv ++ []=kv:=cZ _;rw [e,show rs ++ ji r 0=rs by simp [ji]];refine hK.keep λ b o hp hb=>⟨⟨hp,nH hb he0⟩,nI hb he0⟩
 rintro m σ H1 ⟨q,e,kv',v5,v6,rfl,hq,hqc,o1,hen,hL1,he1,hK1,rfl⟩;exists ⟨_,.inl ⟨_,SqL.of he1,rfl⟩,?_⟩;rw [zH,jR];exists zU (λ h=>?_) (λ h=>?_)
 rotate_left
 ·have ec:c=q + 1:=by lia
  subst ec;exists k H1 e kv' o1 hen hL1 ?_ ?_
  ·rw [show r + ((q + 1:Nat):Int) - 1=r + q by lia];exact he1
  ·rw [show q + 1 - 1=q by lia];exact hK1
 refine zf5 ?_;left;intro g hg;have nLg:L≠g:=nH hL1 hg;have neg:e≠g:=nH he1 hg;have neL:e≠L:=λ z=>by rw [z,hL] at hen;cases hen
 have hgn:H g=none:=by
  cases z:H g with
  | none=>rfl
  | some o=>rw [o1 g o (ba nLg) z] at hg;cases hg
 left;walk_at "e";exists ⟨e,rfl,.inl ⟨⟨_,SqL.of (nI he1 hg)⟩,?_⟩⟩;refine ql (K:=K) (a:=e) (xs:=iv (xm (r + q) (q + 1))) (λ i σ H2=>∃ kv2:List V,∃ v6,σ=[some (.int r),some (.int c),some (.ref L),some (.ref e),some (.int (r + 2 * ((q + i:Nat):Int))),some (.ref g),v6]/\Own H H2 L/\H2 e=some (.lst (iv (xm (r + q) (q + 1)))) /\
  H2 g=some (.lst (iv (xm (r + 2 * q + 1) (2 * i))))/\H2 L=some (.lst (kv ++ kv2))/\Kns a H2 (λ b=>b≠L/\b≠e/\b≠g) (kv ++ kv2) (rs ++ ji r (q + i)))
  ⟨kv',v6,by simp,o1.trans (Same.own (zg hg)),nI he1 hg,by rw [nE];simp [xm,iv],nI hL1 hg,hK1.keep λ b o hp hb=>⟨⟨hp.1,hp.2,nH hb hg⟩,nI hb hg⟩⟩ (λ i σ H' _ ⟨_,_,_,_,h,_⟩=>SqL.of h) ?_ ?_
 ·rintro i x σ H2 hi ⟨kv2,v6,rfl,o2,he2,hg2,hL2,hK2⟩;have hil:i < q + 1:=by
   have:=(aa.mp hi).1;rw [zH,jR] at this;exact this
  obtain ⟨n,hn,rfl⟩:=wS hi;rw [zfZ hil] at hn;cases hn;have hlen:=hK2.len;rw [aD,aD,QA,<- hK.len] at hlen;exists ⟨.inl ⟨rfl,_,SqL.of hL2⟩,a.m,_,_,_,(zan T).mono,λ b1 hb1=>?_⟩;intro z dz hz hdz hne;refine zdk (outs:=[r + 2 * ((q + i:Nat):Int) + 1,r + 2 * ((q + i:Nat):Int) + 2]) hz hdz nE (by simp) (by simp) λ H3 s3 hz3=>?_;have s23:Same H2 H3:=(zg hb1).trans s3;have hLd:=s23 _ _ hL2;refine ⟨rfl,?_⟩;exists ⟨L,_,_,rfl,rfl,hLd,zk (by rw [aD];lia),?_⟩;have hz3:KnP a H3 (λ b=>b≠L/\b≠e/\b≠g) (.ref z) ⟨.parter,[r + q + i],[r + 2 * ((q + i:Nat):Int) + 1,r + 2 * ((q + i:Nat):Int) + 2],0,[]⟩:=hz3.keep λ b o hp hb=>by
   have hb:=qj hp;exact ⟨⟨(nH hL2 hb).symm,(nH he2 hb).symm,(nH hg2 hb).symm⟩,by assumption⟩
  have hK3:Kns a (upd H3 L (.lst (kv ++ kv2 ++ [.ref z]))) (λ b=>b≠L/\b≠e/\b≠g) (kv ++ (kv2 ++ [.ref z])) (rs ++ ji r (q + (i + 1))):=by
   rw [show q + (i + 1)=q + i + 1 by lia,WP,<- cx,<- cx];refine Kns.append (hK2.keep λ b o hp hb=>⟨hp,by rw [nF hp.1];exact s23 _ _ hb⟩) (Kns.one ?_);rw [show r + ((q + i:Nat):Int)=r + q + i by lia];exact hz3.keep λ b o hp hb=>⟨hp,by rw [nF hp.1];exact hb⟩
  have o3:Own H (upd H3 L (.lst (kv ++ kv2 ++ [.ref z]))) L:=(o2.trans (Same.own s23)).trans jk;have he3:upd H3 L (.lst (kv ++ kv2 ++ [.ref z])) e=some (.lst (iv (xm (r + q) (q + 1)))):=by rw [nF neL];exact s23 _ _ he2
  have hg3:upd H3 L (.lst (kv ++ kv2 ++ [.ref z])) g=some (.lst (iv (xm (r + 2 * q + 1) (2 * i)))):=by rw [nF (ba nLg)];exact s23 _ _ hg2
  have hL3:upd H3 L (.lst (kv ++ kv2 ++ [.ref z])) L=some (.lst (kv ++ (kv2 ++ [.ref z]))):=by rw [nE,cx]
  generalize upd H3 L (.lst (kv ++ kv2 ++ [.ref z]))=H4 at hK3 o3 he3 hg3 hL3 ⊢;refine ⟨.inl ⟨rfl,_,SqL.of hg3⟩,λ b2 hb2=>?_⟩;refine ⟨g,b2,_,_,rfl,rfl,nI hg3 hb2,nE,?_,?_⟩
  ·refine bw (zk ?_);rw [zH,jR];simp
   lia
  exists ⟨kv2 ++ [.ref z],some (.int (r + q + i)),?_,?_,?_,?_,?_,?_⟩
  ·simp only [cS,b5,V.int.injEq,fM,true_and]
   push_cast
   lia
  ·exact λ b o hb h=>by rw [nF (λ z=>by rw [z,hgn] at h;cases h)];exact nI (o3 b o hb h) hb2
  ·rw [nF neg];exact nI he3 hb2
  ·rw [nE,zeh,<- vv];have q1:r + 2 * ((q + i:Nat):Int) + 1=r + 2 * q + 1 + 2 * i:=by push_cast;lia
   have q2:r + 2 * ((q + i:Nat):Int) + 2=r + 2 * q + 1 + 2 * i + 1:=by push_cast;lia
   rw [q1,q2]
   rfl
  ·rw [nF nLg];exact nI hL3 hb2
  ·exact hK3.keep λ b o hp hb=>⟨hp,by rw [nF hp.2.2];exact nI hb hb2⟩
 ·rintro σ H2 ⟨kv2,v6,rfl,o2,he2,hg2,hL2,hK2⟩;rw [zH,jR] at hg2 hK2 ⊢;exists ⟨100 - (2 * q + 1),by lia,2 * q + 1,g,kv2,some (.ref g),v6,?_,by lia,by lia,o2,hgn,hL2,?_,?_,rfl⟩
  ·simp only [cS,b5,V.int.injEq,fM,true_and]
   push_cast
   lia
  ·rw [show r + ((2 * q + 1:Nat):Int)=r + 2 * q + 1 by lia,show 2 * q + 1 + 1=2 * (q + 1) by lia];exact hg2
  ·rw [show 2 * q + 1=q + (q + 1) by lia];exact hK2.keep λ b o hp hb=>⟨⟨hp.1,hp.2.2⟩,hb⟩
noncomputable def qS (n:Nat):Int:=if cntOf n=n then 0 else 1
noncomputable def qH (n:Nat):List Int:=xm (qS n + (cntOf n:Int) - 1) (cntOf n)
noncomputable def J1 (n:Nat):List Row:=if n < cntOf n then [⟨.joiner,0 :: (qH n).drop n,[qS n],0,[]⟩] else []
noncomputable def J8 (e:Int):Row:=⟨.drain,[e],[],1,[]⟩
noncomputable def VP (n:Nat) (pc:Int) (ks:A6):List Row:=[⟨.source,[],[0],pc,ks⟩] ++ ji (qS n) (cntOf n - 1)
noncomputable def zj (n:Nat) (pc:Int) (ks:A6):List Row:=VP n pc ks ++ J1 n ++ ((qH n).take n).map J8
noncomputable def nbOf (n:Nat):Nat:=(qS n).toNat + 2 * (cntOf n - 1) + 1
noncomputable abbrev twoOne:Int × Int:=(2,1)
abbrev xP (ks:A6):Prop:=1<=ks.length/\ks.length<=6/\QI ks
def vU (h1:1<=n) (h8:n<=8):n=1\/n=2\/n=3\/n=4\/n=5\/n=6\/n=7\/n=8:=by lia
def zen (h1:1<=n) (h8:n<=8) (pc:Int) (ks:A6):(xQ (zj n pc ks)).Perm (rgI (nbOf n)):=by
 rcases vU h1 h8 with rfl|rfl|rfl|rfl|rfl|rfl|rfl|rfl <;> exact List.isPerm_iff.mp rfl
def zbb (h1:1<=n) (h8:n<=8) (pc:Int) (ks:A6):(qK (zj n pc ks)).Perm (rgI (nbOf n)):=by
 rcases vU h1 h8 with rfl|rfl|rfl|rfl|rfl|rfl|rfl|rfl <;> exact List.isPerm_iff.mp rfl
def ZD (h1:1<=n) (h8:n<=8) (pc:Int) (ks:A6):1<=(zj n pc ks).length/\(zj n pc ks).length<=24:=by
 rcases vU h1 h8 with rfl|rfl|rfl|rfl|rfl|rfl|rfl|rfl <;> exact ⟨cr rfl,cr rfl⟩
def zbs (h1:1<=n) (h8:n<=8):1<=nbOf n/\nbOf n<=24:=by
 rcases vU h1 h8 with rfl|rfl|rfl|rfl|rfl|rfl|rfl|rfl <;> exact ⟨cr rfl,cr rfl⟩
def vF (h1:1<=n) (h8:n<=8) (hp:1<=pc/\pc<=4) (hk:xP ks):∀ r∈zj n pc ks,r.ok:=by
 intro r hr;unfold zj VP at hr;rcases aB.mp hr with hr|hr
 ·rcases aB.mp hr with hr|hr
  ·rcases aB.mp hr with hr|hr
   ·rw [ap.mp hr];exact ⟨rfl,⟨_,rfl⟩,hp.1,hp.2,hk.1,hk.2.1,hk.2.2⟩
   ·obtain ⟨i,_,rfl⟩:=aN.mp hr;exact ⟨⟨_,rfl⟩,by simp,by simp⟩
  ·unfold J1 at hr
   split at hr
   ·rw [ap.mp hr];refine ⟨⟨_,rfl⟩,?_⟩;simp only [bb,dD,qH,jR];rename_i hlt;have:=vO n;unfold cntOf at *
    split at hlt <;> (try split at hlt) <;> (try split at hlt) <;> constructor <;> (try split) <;> (try split) <;> (try split) <;> lia
   ·simp at hr
 ·obtain ⟨e,_,rfl⟩:=aN.mp hr;exact ⟨⟨_,rfl⟩,rfl,by simp [J8],by simp [J8]⟩
def zdE (h1:1<=n) (h8:n<=8):atI (iv (qH n)) (-1)=some (.int ((nbOf n:Int) - 1)):=by
 rcases vU h1 h8 with rfl|rfl|rfl|rfl|rfl|rfl|rfl|rfl <;> rfl
noncomputable abbrev zy (n:Nat):List (Int × Int):=List.replicate (nbOf n) twoOne
inductive spEven (a:Ad) (vs:Ap) (H:Hp) (Q:VK) (E:XK):Prop
 | i (kl:Addr) (n:Nat) (pc:Int) (ks:A6):vs=[.int n,.ref kl,.int pc]->H kl=some (.lst (iv ks))->1<=n->n<=8->2<=pc->pc<=4->xP ks->(∀ v H',Same H H'->Rep H' (Off []) v (qA a (zy n) (zj n pc ks))->Q v H')->spEven a vs H Q E
def Z2 (n:Nat):∀ b∈zy n,zA b.1 b.2:=λ b hb=>by
 rw [(bU.mp hb).2];exact ⟨by decide,by decide,by decide,by decide⟩
def ZT (h1:1<=n) (h8:n<=8) (pc:Int) (ks:A6):zQ (zy n) (zj n pc ks):=by
 refine ⟨⟨?_,ZD h1 h8 pc ks⟩,?_,?_⟩
 ·rw [a8];exact zbs h1 h8
 ·rw [a8];exact zen h1 h8 pc ks
 ·rw [a8];exact zbb h1 h8 pc ks
def zfv (ns:A6) (n:Nat):Va (iv ns) (some (n:Int)) none=iv (ns.drop n):=by
 unfold Va;rw [HT.sIx_none,HT.sIx_nat,iv,iv,ai,List.map_drop];rcases Nat.le_total n ns.length with h|h
 ·rw [Nat.min_eq_left h,dc (by simp)]
 ·rw [Nat.min_eq_right h,gk (by simp),gk (by simp;lia)];simp
def zfu (ns:A6) (n:Nat):Va (iv ns) none (some (n:Int))=iv (ns.take n):=by
 unfold Va;rw [HT.sIx_none,HT.sIx_nat,iv,iv,ai,List.map_take];simp only [List.drop_zero,Nat.sub_zero];rcases Nat.le_total n ns.length with h|h
 ·rw [Nat.min_eq_left h]
 ·rw [Nat.min_eq_right h,dc (by simp),dc (by simp;lia)]
def ze9 (h1:1<=n) (h8:n<=8):cntOf n - n<=3:=by
 rcases vU h1 h8 with rfl|rfl|rfl|rfl|rfl|rfl|rfl|rfl <;> decide
def WS (T:Txt K mg a) (F:FunD K "even_work" "even_work" qv f fd):FnOk P w K mg base (CXr P w) 7 f fd ["ways","kinds","pace"] (spEven a):=by
 refine F.okx WA ?_ ?_
 ·walk_at "i"
 walk_at "k";rcases h with ⟨kl,n,pc,ks,rfl,hkl,hn1,hn8,p2,p4,hks,kok⟩;obtain ⟨t1,g1⟩:=T.i7;obtain ⟨t2,g2⟩:=T.iW;obtain ⟨t3,g3⟩:=T.iO;walk_at "T";refine ⟨_,(ze (zT (jx (jf jz jz zh (pq 0) xJ))  (zd (qB ⟨rfl,rfl,rfl⟩ rfl (za jb zb)))  zu)  (ze (zT (jx (jf jz jz xJ (pq 2) xJ))  (zd (qB ⟨rfl,rfl,rfl⟩ rfl (za jb zb)))  zu)  (ze (zt 3 WA.nd (qe (za (wR (x:="Source") ⟨rfl,rfl,rfl⟩ hr (za zh (za (pq 2) (za (pq 1) zb)))) zb)))  (ze (zt 4 WA.nd ‹(pq 0) zb›)  (jO (zt 5 WA.nd (we (zz (JP hr.units1) (pq 4) (pq 0) (zC _)) zh zh))  (ze (zt 6 WA.nd ‹(pq 5) (za (pq 4) (za (pq 3) zb))›)  (jO (zT (zz V2 (pq 4) (pq 0) (zC _))  (zd (zO (xK aK aW aV qD (pq 3) (za (wR (x:="Joiner") ⟨rfl,rfl,rfl⟩ hr (za (zD qr (qe (za zh zb)) (JJ za2 (pq 6) (WK (pq 0)) WL)) (za (pq 5) zb))) zb))))  zu)  (ze (zO (xK aK cK cJ vJ (pq 3) (za (jr (vars:=["end"]) (caps:=[]) (N:=["end"]) (ON:=["ways","kinds","pace","knots","count","root","ends"]) (osc:=zc qv) rfl rfl (by right) rfl rfl (zV (JJ za2 (pq 6) WL (WK (pq 0)))) (λ _ _ _ _=>(qf 0 (show (["end"]:A8).Nodup from by symm))) (λ _ _ _ _=>zX) (λ _ _ _ _=>(zbm (x:="Drain") hr (za (pq 0) (za zh zb))))) zb)))  (zd (zl (wR (x:="Work") ⟨rfl,rfl,rfl⟩ hr (za (jr (vars:=["belt"]) (caps:=[]) (N:=["belt"]) (ON:=["ways","kinds","pace","knots","count","root","ends"]) (osc:=zc qv) rfl rfl (by right) rfl rfl (wE (za (zD qr (zm (pq 6) (JI vY zh)) zh) zb)) (λ _ _ _ _=>(qf 0 (show (["belt"]:A8).Nodup from by symm))) (λ _ _ _ _=>zX) (λ _ _ _ _=>(zbm (x:="Belt") hr (za zh (za zh zb))))) (za (pq 3) zb))))))))))))),?_⟩;exists zU (λ b1=>?_) (λ b1=>absurd (show (1:Int)<=n by lia) (by lia));refine ⟨.int 8,_,g1,⟨_,rfl⟩,?_⟩;exists zU (λ b2=>?_) (λ b2=>absurd (show (n:Int)<=8 by lia) (by lia));exists ⟨.int 2,_,g2,⟨_,rfl⟩,?_⟩;exists zU (λ b3=>?_) (λ b3=>absurd p2 (by lia));refine ⟨.int 4,_,g3,⟨_,rfl⟩,?_⟩;exists zU (λ b4=>?_) (λ b4=>absurd p4 (by lia));clear b1 b2 b3 b4 g1 g2 g3;exists ⟨a.k,_,_,_,(zam T).mono,?_⟩;intro z dz hz hdz hne;refine zdj hz hdz hkl (by lia) p4 hks.1 hks.2.1 hks.2.2 λ H1 s1 hKn=>⟨rfl,?_⟩;left;intro L hL;have hLn:H L=none:=zr s1 hL;exists uc (zbS T).mono ⟨n,rfl,hn1,hn8,?_⟩;left;have s2:Same H (upd H1 L (.lst [.ref z])):=s1.trans (zg hL);have hL2:upd H1 L (.lst [.ref z]) L=some (.lst [.ref z]):=nE;have hK2:Kns a (upd H1 L (.lst [.ref z])) (λ b=>b≠L) [.ref z] [⟨.source,[],[0],pc,ks⟩]:=Kns.one (hKn.keep λ b o hp hb=>⟨nH hb hL,nI hb hL⟩);generalize upd H1 L (.lst [.ref z])=H2 at s2 hL2 hK2 ⊢;refine cut (λ σ' H'=>σ'=[some (.int n),some (.ref kl),some (.int pc),some (.ref L),some (.int (cntOf n)),some (.int (qS n)),none]/\H'=H2) ?_ ?_
 ·exists zU (λ b=>?_) (λ b=>?_)
  ·left;rw [show qS n=0 from ax (by lia)]
  ·left;rw [show qS n=1 from aq (by lia)]
 rintro σ' H' ⟨rfl,rfl⟩;exists uc (zaE T).mono ⟨qS n,cntOf n,L,_,_,rfl,vO n,hL2,by simp,hK2,λ H3 e kv' o3 hen hL3 he3 hK3=>?_⟩;have hen0:H e=none:=zr s2 hen;have s3:Same H H3:=λ b o hb=>o3 b o (λ z=>by rw [z,hLn] at hb;cases hb) (s2 _ _ hb);have neL:e≠L:=λ z=>by rw [z,hL2] at hen;cases hen
 exists cut (λ σ' H'=>∃ kv2,σ'=[some (.int n),some (.ref kl),some (.int pc),some (.ref L),some (.int (cntOf n)),some (.int (qS n)),some (.ref e)]/\Same H H'/\H' e=some (.lst (iv (qH n)))/\H' L=some (.lst kv2)/\Kns a H' (λ b=>b≠L/\b≠e) kv2 (VP n pc ks ++ J1 n)) ?_ ?_
 ·exists zU (λ b=>?_) (λ b=>?_)
  ·exists ⟨.inl ⟨rfl,_,SqL.of hL3⟩,a.n,_,_,_,(zao T).mono,λ q1 hq1=>?_⟩;have hlt:n < cntOf n:=by lia
   have jl:=ze9 hn1 hn8;have hkl3:=hK3.len;rw [aD,aD,QA] at hkl3;have hc8:=vO n;refine zbj (SqL.of (nI he3 hq1)) λ q2 hq2=>?_;rw [zfv];refine WH (SqL.of (nI nE hq2)) (SqL.of nE) (bw (zk (by simp only [zH,dD,jR,bb,dS];lia))) λ q3 hq3=>?_;have sq:Same H3 (upd (upd (upd H3 q1 (.lst [.int 0])) q2 (.lst (iv ((xm (qS n + (cntOf n:Int) - 1) (cntOf n)).drop n)))) q3 (.lst ([V.int 0] ++ iv ((xm (qS n + (cntOf n:Int) - 1) (cntOf n)).drop n)))):=(zg hq1).trans ((zg hq2).trans (zg hq3));have hq:upd (upd (upd H3 q1 (.lst [.int 0])) q2 (.lst (iv ((xm (qS n + (cntOf n:Int) - 1) (cntOf n)).drop n)))) q3 (.lst ([V.int 0] ++ iv ((xm (qS n + (cntOf n:Int) - 1) (cntOf n)).drop n))) q3=some (.lst (iv (0 :: (qH n).drop n))):=nE;generalize upd (upd (upd H3 q1 (.lst [.int 0])) q2 (.lst (iv ((xm (qS n + (cntOf n:Int) - 1) (cntOf n)).drop n)))) q3 (.lst ([V.int 0] ++ iv ((xm (qS n + (cntOf n:Int) - 1) (cntOf n)).drop n)))=Hq at sq hq ⊢;intro z2 dz2 hz2 hdz2 _;refine zdl hz2 hdz2 hq (by rw [bb,dD,qH,jR];lia) (by rw [bb,dD,qH,jR];lia) λ H4 s4 hz4=>?_;have hz4:KnP a H4 (λ b=>b≠L/\b≠e) (.ref z2) ⟨.joiner,0 :: (qH n).drop n,[qS n],0,[]⟩:=hz4.keep λ b o hb ho=>⟨⟨(nH (sq _ _ hL3) hb).symm,(nH (sq _ _ he3) hb).symm⟩,ho⟩;have s4:Same H3 H4:=sq.trans s4;refine ⟨rfl,L,_,_,rfl,rfl,s4 _ _ hL3,zk (by rw [aD,hkl3];simp only [bb,dS];lia),_,?_,?_,nE,?_⟩
   ·exact λ b o hb=>by rw [nF (λ z=>by rw [z,hLn] at hb;cases hb)];exact s4 _ _ (s3 _ _ hb)
   ·rw [nF neL];exact s4 _ _ he3
   ·rw [show J1 n=[⟨.joiner,0 :: (qH n).drop n,[qS n],0,[]⟩] from ax hlt];exact Kns.append (hK3.keep λ b o hp hb=>⟨hp,by rw [nF hp.1];exact s4 _ _ hb⟩) (Kns.one (hz4.keep λ b o hp hb=>⟨hp,by rw [nF hp.1];exact hb⟩))
  ·left;rw [show J1 n=[] from aq (by lia),cZ];exact ⟨_,s3,he3,hL3,hK3⟩
 rintro σ' H4 ⟨kv2,rfl,s4,he4,hL4,hK4⟩;have hc8:=vO n;have hnb:=zbs hn1 hn8;have hrl:=ZD hn1 hn8 pc ks;have hlen4:=hK4.len;have hlenR:(zj n pc ks).length=(VP n pc ks ++ J1 n).length + ((qH n).take n).length:=by
  unfold zj;rw [aD,ai]
 clear hK3 he3 hL3 o3 s3 hK2 hL2 s2 hKn s1;exists ⟨.inl ⟨rfl,_,SqL.of hL4⟩,?_⟩;walk_at "d";exists zbj (SqL.of he4) λ q1 hq1=>?_;rw [zfu];have s5:Same H4 (upd H4 q1 (.lst (iv ((qH n).take n)))):=zg hq1;have h5:upd H4 q1 (.lst (iv ((qH n).take n))) q1=some (.lst (iv ((qH n).take n))):=nE;generalize upd H4 q1 (.lst (iv ((qH n).take n)))=H5 at s5 h5 ⊢;refine ⟨q1,rfl,.inl ⟨⟨_,SqL.of h5⟩,λ _ _ _ _ nj hacc=>?_⟩⟩;refine ql (K:=K) (a:=q1) (xs:=iv ((qH n).take n)) (λ i σ H'=>∃ v us,σ=[v]/\Same H5 H'/\H' nj=some (.lst us)/\Kns a H' (λ b=>H5 b=none/\b≠nj) us ((((qH n).take n).take i).map J8)) ⟨_,[],rfl,zg hacc,nE,by rw [b9];exact .nil⟩ (λ i σ H' _ ⟨_,_,_,s,_⟩=>SqL.of (s _ _ h5)) ?_ ?_
 ·rintro i x σ H' hi ⟨v,us,rfl,s6,e1,hU⟩;obtain ⟨ev,hev,rfl⟩:=wS hi;have hil:i < ((qH n).take n).length:=(aa.mp hev).1;exists ⟨a.l,_,_,_,(zcg T).mono,?_⟩;intro z2 dz2 hz2 hdz2 _;refine zeQ hz2 hdz2 (by decide) (by decide) λ H6 s7 hz6=>?_;have hz6:KnP a H6 (λ b=>H5 b=none/\b≠nj) (.ref z2) (J8 ev):=hz6.keep λ b o hb ho=>⟨⟨zr s6 hb,(nH e1 hb).symm⟩,ho⟩;refine ⟨rfl,_,s7 _ _ e1,zk (by have:=hU.len;rw [ai,aP] at this;lia),_,us ++ [.ref z2],rfl,λ b o hb=>?_,nE,?_⟩
  ·rw [nF (nH hb hacc)];exact s7 _ _ (s6 _ _ hb)
  ·rw [aG,hev,aZ];exact Kns.append (hU.keep λ b o hp hb=>⟨hp,by rw [nF hp.2];exact s7 _ _ hb⟩) (Kns.one (hz6.keep λ b o hp hb=>⟨hp,by rw [nF hp.2];exact hb⟩))
 rintro σ H6 ⟨v,us,rfl,s6,e1,hU⟩;rw [zH,aH] at hU;have s46:=s5.trans s6;have hlenU:=hU.len;rw [ai] at hlenU;refine ⟨L,nj,_,_,rfl,rfl,s46 _ _ hL4,e1,bw (zk (by lia)),?_⟩;have n5L:∀ {b:Addr},H5 b=none->b≠L:=λ {b} hb z=>by rw [z,s5 _ _ hL4] at hb;cases hb
 have s7:Same H (upd H6 L (.lst (kv2 ++ us))):=λ b o hb=>by rw [nF (λ z=>by rw [z,hLn] at hb;cases hb)];exact s46 _ _ (s4 _ _ hb)
 have hL7:upd H6 L (.lst (kv2 ++ us)) L=some (.lst (kv2 ++ us)):=nE;have he7:upd H6 L (.lst (kv2 ++ us)) e=some (.lst (iv (qH n))):=by rw [nF neL];exact s46 _ _ he4
 have hK7:Kns a (upd H6 L (.lst (kv2 ++ us))) (λ b=>b≠L) (kv2 ++ us) (zj n pc ks):=Kns.append (hK4.keep λ b o hp hb=>⟨hp.1,by rw [nF hp.1];exact s46 _ _ hb⟩) (hU.keep λ b o hp hb=>⟨n5L hp.1,by rw [nF (n5L hp.1)];exact hb⟩);generalize upd H6 L (.lst (kv2 ++ us))=H7 at s7 hL7 he7 hK7 ⊢;clear hU e1 s6 s46 h5 s5 hK4 hL4 he4 s4;exists ⟨a.o,_,_,_,(zhQ T).mono,?_⟩;walk_at "d";exists zp (SqL.of he7) (zdE hn1 hn8) ?_;exists ⟨by lia,by lia,λ _ _ _ _ ac2 hac2=>?_⟩;rw [show ((nbOf n:Int) - 1 + 1).toNat=nbOf n by lia];refine ZR (λ i σ H'=>∃ v us2,σ=[v]/\Same H7 H'/\H' ac2=some (.lst us2)/\Bts a H' (λ b=>H7 b=none/\b≠ac2) us2 (List.replicate i twoOne)) ⟨_,[],rfl,zg hac2,nE,.nil⟩ ?_ ?_
 ·rintro i σ H' hi ⟨v,us2,rfl,s8,e2,hV⟩;exists ⟨a.i,_,_,_,(ze8 T).mono,?_⟩;intro z2 dz2 hz2 hdz2 _;refine zgn hz2 hdz2 ⟨by decide,by decide,by decide,by decide⟩ λ H8 sN hb8=>?_;have hzn:∀ {b:Addr},H' b=none->b≠ac2:=λ {b} hb=>(nH e2 hb).symm;refine ⟨rfl,_,sN _ _ e2,zk (by have:=hV.len;rw [a8] at this;lia),_,us2 ++ [.ref z2],rfl,λ b o hb=>?_,nE,?_⟩
  ·rw [nF (nH hb hac2)];exact sN _ _ (s8 _ _ hb)
  ·rw [<- cG,List.replicate_succ'];exact Bts.push (hV.keep λ b o hp hb=>⟨hp,by rw [nF hp.2];exact sN _ _ hb⟩) (hb8.keep λ b o hp hb=>⟨⟨zr s8 hp,hzn hp⟩,by rw [nF (hzn hp)];exact hb⟩)
 rintro σ H8 ⟨v,us2,rfl,s8,e2,hV⟩;left;intro y dy hy hdy _;refine zgm hy hdy e2 (s8 _ _ hL7) hV.reps (hK7.keep (q:=λ b=>b≠L) λ b o hp hb=>⟨hp,s8 _ _ hb⟩).reps (ZT hn1 hn8 pc ks) (Z2 n) (vF hn1 hn8 ⟨by lia,p4⟩ hks) λ H9 s9 hw=>⟨rfl,kok _ _ ((s7.trans s8).trans s9) hw⟩
def zaF (T:Txt K mg a):Cal P w K mg base "even_work" 7 ["ways","kinds","pace"] [] (spEven a):=T.lJ.cal (WS T)
def Told (H:Hp) (v:V) (r:Option Ap):Prop:=match r with
 | none=>v=.non
 | some xs=>∃ p,v=.ref p/\H p=some (.tup xs)
def Told.same {H H':Hp} {r:Option Ap} (h:Told H v r) (s:Same H H'):Told H' v r:=by
 cases r with
 | none=>exact h
 | some xs=>exact let ⟨p,e,hp⟩:=h;⟨p,e,s _ _ hp⟩
noncomputable def Wq (side:V) (p:Int) (t:Int) (b:Bool):Option Ap:=if b=true/\t % p=0 then some [.non,.int 0,side] else none
def Ji (K:A0) (C:Addr):Sp:=λ vs H Q _=>∃ (y dx l1 l2 l3 fl:Addr) (p t:Int) (hs side:V) (b:Bool) (bs:Ap),vs=[.ref y,hs,.ref fl,.int t,side]/\H y=some (.ins C dx (sf l1 l2 p l3))/\1<=p /\
 SqL K H fl (.bl b :: bs)/\∀ v H',Same H H'->Told H' v (Wq side p t b)->Q v H'
theorem QR (T:Txt K mg a):MCal P w K mg base a.k "choice" 1 ["self","heads","free","turn","side"] [] (Ji K a.k):=T.km.cal T.ir λ F=>by
 refine F.okx Qb ?_ ?_
 ·walk_at "i"
 walk_at "k";refine oE8 h λ y dx l1 l2 l3 fl p t m8=>oE4 m8 λ hs side b bs n6=>oA5 n6 λ nu hy p1 hf k=>?_;clear m8 n6 h;subst nu;unfold Wq at k;walk_at "T";refine ⟨_,(ze (zT (PW.pt (pw_or (jx (jT (zm (pq 2) zh) (λ _=>rfl))) (pw_or1 (zz (JN hr.units1) (zD jn (pq 3) (zi (pq 0) rfl)) zh (zC _)))))  (zd (zl zM))  zu)  (zd (zl (jm (za zM (za zh (za (pq 4) zb))))))),?_⟩;exists zp hf at0 ?_;left;cases b with
 | false =>
  rw [aq (by simp)] at k;left;exact k _ _ (Same.refl _) rfl
 | true =>
  exists ra hy T.ir T.iy zfX ?_;exists zU (λ h=>?_) (λ h=>?_)
  ·rw [aq (λ z=>h z.2)] at k;left;exact k _ _ (Same.refl _) rfl
  ·rw [ax ⟨rfl,gP h⟩] at k;left;intro q hq;exact k _ _ (zg hq) ⟨q,rfl,nE⟩
noncomputable def zbJ (side:V) (p:Int) (t:Int) (hd:V):Option Ap:=if p=0\/hd=.non\/t % p≠0 then none else some [.int 0,.non,side]
def Xi (K:A0) (C:Addr):Sp:=λ vs H Q _=>∃ (y dx l1 l2 hl:Addr) (p t:Int) (fr side:V) (hd:V) (hs:Ap),vs=[.ref y,.ref hl,fr,.int t,side]/\H y=some (.ins C dx (df l1 l2 p))/\0<=p/\p<=4 /\
 SqL K H hl (hd :: hs)/\∀ v H',Same H H'->Told H' v (zbJ side p t hd)->Q v H'
def JZ (T:Txt K mg a):MCal P w K mg base a.l "choice" 1 ["self","heads","free","turn","side"] [] (Xi K a.l):=T.kH.cal T.iA λ F=>by
 refine F.okx QN ?_ ?_
 ·walk_at "i"
 walk_at "k";refine oE8 h λ y dx l1 l2 hl p t fr m8=>oE3 m8 λ side hd hs n6=>oA6 n6 λ nu hy p0 p4 hh k=>?_;clear m8 n6 h;subst nu;unfold zbJ at k;walk_at "T";refine ⟨_,(ze (zT (zz (JP hr.units1) (zi (pq 0) rfl) zh (zC _))  (zd (zl zM))  zu)  (ze (zT (PW.pt (pw_or (zz jI (zm (pq 1) zh) zM (zC _)) (pw_or1 (zz (JN hr.units1) (zD jn (pq 3) (zi (pq 0) rfl)) zh (zC _)))))  (zd (zl zM))  zu)  (zd (zl (jm (za zh (za zM (za (pq 4) zb)))))))),?_⟩;exists ra hy T.iA T.ix W8 ?_;exists zU (λ h1=>?_) (λ h1=>?_)
 ·rw [ax (.inl h1)] at k;left;exact k _ _ (Same.refl _) rfl
 ·exists zp hh at0 ?_;exists zU (λ h2=>?_) (λ h2=>?_)
  ·rw [ax (.inr (.inl h2))] at k;left;exact k _ _ (Same.refl _) rfl
  ·exists ra hy T.iA T.ix W8 ?_;exists And.intro (by lia) ?_;refine zU (λ h3=>?_) (λ h3=>?_)
   ·rw [ax (.inr (.inr h3))] at k;left;exact k _ _ (Same.refl _) rfl
   ·rw [aq (λ z=>z.elim h1 λ z=>z.elim h2 h3)] at k;left;intro q hq;exact k _ _ (zg hq) ⟨q,rfl,nE⟩
noncomputable def zg3 (n:Nat) (p:Option Nat):Option Ap:=p.map λ (p:Nat)=>[.int 0,.int p,.int ((p + 1) % n:Nat)]
def Jj (K:A0) (C:Addr):Sp:=λ vs H Q _=>∃ (y dx l1 l2 hl fl:Addr) (turn:V) (side:Nat) (hd:V) (hs outs:Ap) (bs:Ai),vs=[.ref y,.ref hl,.ref fl,turn,.int side]/\H y=some (.ins C dx (kf l1 l2))/\H l2=some (.lst outs) /\
 SqL K H hl (hd :: hs)/\SqL K H fl (bs.map V.bl)/\bs.length=outs.length/\bs.length<=1000 /\
 ∀ v H',Same H H'->Told H' v (if hd=.non then none else zg3 bs.length (xX bs side))->Q v H'
theorem QT (T:Txt K mg a):MCal P w K mg base a.m "choice" 3 ["self","heads","free","turn","side"] [] (Jj K a.m):=T.kq.cal T.iB λ F=>by
 refine F.okx Qd ?_ ?_
 ·walk_at "i"
 walk_at "k";refine oE8 h λ y dx l1 l2 hl fl turn side m8=>oE4 m8 λ hd hs outs bs n6=>oA8 n6 λ nu hy h2 hh hf hbl hb k=>?_;clear m8 n6 h;subst nu;walk_at "T";refine ⟨_,(ze (zt 5 Qd.nd ‹(zm (pq 1) zh) (za (pq 2) (za (pq 4) zb))›)  (ze (zT (zz jI (pq 5) zM (zC _))  (zd (zl zM))  zu)  (zd (zl (jm (za zh (za (pq 5) (za (zD jn (zD qr (pq 5) zh) (qd qi qg (za (zi (pq 0) rfl) zb))) zb)))))))),?_⟩;exists iE3 _ _ _ ⟨Qw T,zp hh at0 (iE4 hd fl bs side (iA4 rfl hf hb ?_))⟩;by_cases hn:hd=.non
 ·rw [ax hn] at k ⊢;left;exact k _ _ (Same.refl _) rfl
 ·rw [aq hn] at k ⊢;cases hp:xX bs side with
  | none =>
   rw [hp] at k;simp only [ZH];left;exact k _ _ (Same.refl _) rfl
  | some p =>
   rw [hp] at k;simp only [ZH];have hlt:=vN hp;exists ra hy T.iB T.iz zgt ⟨_,.inl ⟨_,SqL.of h2,rfl⟩,?_⟩;left;rw [<- hbl];refine And.intro (by lia) ?_;left;intro q hq;have e:((p:Int) + 1) % (bs.length:Int)=(((p + 1) % bs.length:Nat):Int):=by push_cast;rfl
   rw [e];exact k _ _ (zg hq) ⟨q,rfl,nE⟩
noncomputable def zg6 (n:Nat) (p:Option Nat):Option Ap:=p.map λ (p:Nat)=>[.int p,.int 0,.int ((p + 1) % n:Nat)]
noncomputable def there (hs:Ap):List Bool:=hs.map λ h=>!decide (h=.non)
def Jl (K:A0) (C:Addr):Sp:=λ vs H Q _=>∃ (y dx l1 l2 hl fl:Addr) (turn:V) (side:Nat) (hs ins:Ap) (b:Bool) (bs:Ap),vs=[.ref y,.ref hl,.ref fl,turn,.int side]/\H y=some (.ins C dx (kf l1 l2))/\H l1=some (.lst ins) /\
 SqL K H hl hs/\SqL K H fl (.bl b :: bs)/\hs.length=ins.length/\hs.length<=900/\∀ v H',Same H H'->Told H' v (if b=true then zg6 hs.length (xX (there hs) side) else none)->Q v H'
theorem QV (T:Txt K mg a):MCal P w K mg base a.n "choice" 2 ["self","heads","free","turn","side"] [] (Jl K a.n):=T.ku.cal T.iC λ F=>by
 refine F.okx Qf ?_ ?_
 ·walk_at "i"
 walk_at "k";refine oE8 h λ y dx l1 l2 hl fl turn side m8=>oE4 m8 λ hs ins b bs n6=>oA8 n6 λ nu hy h1 hh hf hlen hb k=>?_;clear m8 n6 h;subst nu;walk_at "T";refine ⟨_,(ze (zT (jx (jT (zm (pq 2) zh) (λ _=>rfl)))  (zd (zl zM))  zu)  (ze (zt 5 Qf.nd ‹(jr (vars:=["head"]) (caps:=[]) (N:=["head"]) (ON:=["self","heads","free","turn","side","place"]) (osc:=zc jh) rfl rfl (by right) rfl rfl (zV (pq 1)) (λ _ _ _ _=>(qf 0 (show (["head"]:A8).Nodup from by symm))) (λ _ _ _ _=>zX) (λ _ _ _ _=>(vI op_notN (pq 0) zM (zC _)))) (za (pq 4) zb)›)  (ze (zT (zz jI (pq 5) zM (zC _))  (zd (zl zM))  zu)  (zd (zl (jm (za (pq 5) (za zh (za (zD jn (zD qr (pq 5) zh) (qd qi qg (za (zi (pq 0) rfl) zb))) zb))))))))),?_⟩;exists zp hf at0 ?_;left;cases b with
 | false =>
  rw [aq (by decide)] at k;left;exact k _ _ (Same.refl _) rfl
 | true =>
  rw [ax rfl] at k;exists iE3 _ _ _ ⟨vW T,?_⟩;walk_at "d";exists ⟨hl,rfl,.inl ⟨⟨_,hh⟩,λ _ _ _ _ nj hacc=>?_⟩⟩;refine ql (K:=K) (a:=hl) (xs:=hs) (λ i σ H'=>∃ (v:Aq),σ=[v]/\Same H H'/\H' nj=some (.lst ((there (hs.take i)).map V.bl))) ⟨_,iA3 rfl (zg hacc) nE⟩ (λ i σ H' _ ⟨_,_,s,_⟩=>s.seq hh) ?_ ?_
  ·intro i x σ H' hi nh;refine oE1 nh λ v m8=>oA3 m8 λ n6 s ha=>?_;ext;exists ⟨_,iA3 ha ?_ ⟨_,iA3 rfl ?_ ?_⟩⟩
   ·simp only [there,ai,aP];exact zk (by lia)
   ·intro b o hb;rw [nF (nH hb hacc)];exact s b o hb
   ·rw [nE,fP,hi];simp [there]
  ·intro σ H' nh;refine oE1 nh λ v m8=>oA3 m8 λ n6 s ha=>?_;ext;rw [aH] at ha;refine iE3 nj (there hs) side (iA4 rfl (SqL.of ha) (by simp [there];lia) ?_);have hlt:(there hs).length=hs.length:=by simp [there]
   cases hp:xX (there hs) side with
   | none =>
    rw [hp] at k;simp only [ZH];left;exact k _ _ s rfl
   | some p =>
    rw [hp] at k;simp only [ZH];have hlt':=vN hp;exists ra (s _ _ hy) T.iC T.iD zhL ⟨_,.inl ⟨_,SqL.of (s _ _ h1),rfl⟩,?_⟩;left;rw [<- hlen];refine And.intro (by lia) ?_;left;intro q hq;have e:((p:Int) + 1) % (hs.length:Int)=(((p + 1) % hs.length:Nat):Int):=by push_cast;rfl
    rw [e];exact k _ _ (s.trans (zg hq)) ⟨q,rfl,nE⟩
def MCal.imp {m:Str} {dvs:Ap} {sp sp':Sp} (c:MCal P w K mg base C m k ps dvs sp) (h:∀ vs H Q E,sp' vs H Q E->sp vs H Q E):MCal P w K mg base C m k ps dvs sp' :=
 let ⟨f,fd,ds,x,y⟩:=c.ex;⟨c.cl,f,fd,ds,x.imp h,y⟩
def W5 {k:Str} {ks:A8} (n:fs.map (·.1)=k :: ks):∃ v gs,fs=(k,v) :: gs/\gs.map (·.1)=ks:=by
 cases fs with
 | nil=>cases n
 | cons x gs =>
  obtain ⟨k',v⟩:=x;injection n with n1 n2
  exact iE2 v gs ⟨by rw [<- n1],n2⟩
def zhX (n:fs.map (·.1)=[]):fs=[]:=List.map_eq_nil_iff.mp n
def fs2 {k1 k2:Str} {d1 d2:D} (n:fs.map (·.1)=[k1,k2]) (g:∀ (i:Nat) f g,fs[i]?=some f->[(k1,d1),(k2,d2)][i]?=some g->Rep H p f.2 g.2):∃ v1 v2,fs=[(k1,v1),(k2,v2)]/\Rep H p v1 d1/\Rep H p v2 d2:=by
 obtain ⟨v1,f1,rfl,n1⟩:=W5 n;obtain ⟨v2,f2,rfl,n2⟩:=W5 n1;obtain rfl:=zhX n2;exact ⟨v1,v2,rfl,g 0 _ _ rfl rfl,g 1 _ _ rfl rfl⟩
section
variable {H:Hp} {p:A5} {y:Addr} {ins outs kinds:A6} {pace:Int}
def KnP.parter (h:KnP a H p (.ref y) ⟨.parter,ins,outs,pace,kinds⟩):∃ dx l1 l2,H y=some (.ins a.m dx (kf l1 l2))/\H l2=some (.lst (iv outs)):=by
 cases h with|ob _ hy n g =>
  refine oE2 (fs2 n g) λ v1 v2 m8=>oA3 m8 λ n6 r1 r2=>?_;clear m8;subst n6;refine oE1 r1.ints' λ l1 m8=>oA3 m8 λ n6 _ _=>?_;clear m8;subst n6;refine oE1 r2.ints' λ l2 m8=>oA3 m8 λ n6 _ h2=>?_;clear m8;subst n6;exact iE3 _ l1 l2 ⟨by rw [zak];exact hy,h2⟩
end
def fs3 {k1 k2 k3:Str} {d1 d2 d3:D} (n:fs.map (·.1)=[k1,k2,k3]) (g:∀ (i:Nat) f g,fs[i]?=some f->[(k1,d1),(k2,d2),(k3,d3)][i]?=some g->Rep H p f.2 g.2):∃ v1 v2 v3,fs=[(k1,v1),(k2,v2),(k3,v3)]/\Rep H p v1 d1/\Rep H p v2 d2/\Rep H p v3 d3:=by
 obtain ⟨v1,f1,rfl,n1⟩:=W5 n;obtain ⟨v2,f2,rfl,n2⟩:=W5 n1;obtain ⟨v3,f3,rfl,n3⟩:=W5 n2;obtain rfl:=zhX n3;exact ⟨v1,v2,v3,rfl,g 0 _ _ rfl rfl,g 1 _ _ rfl rfl,g 2 _ _ rfl rfl⟩
def fs4 {k1 k2 k3 k4:Str} {d1 d2 d3 d4:D} (n:fs.map (·.1)=[k1,k2,k3,k4]) (g:∀ (i:Nat) f g,fs[i]?=some f->[(k1,d1),(k2,d2),(k3,d3),(k4,d4)][i]?=some g->Rep H p f.2 g.2):∃ v1 v2 v3 v4,fs=[(k1,v1),(k2,v2),(k3,v3),(k4,v4)]/\Rep H p v1 d1/\Rep H p v2 d2/\Rep H p v3 d3/\Rep H p v4 d4:=by
 obtain ⟨v1,f1,rfl,n1⟩:=W5 n;obtain ⟨v2,f2,rfl,n2⟩:=W5 n1;obtain ⟨v3,f3,rfl,n3⟩:=W5 n2;obtain ⟨v4,f4,rfl,n4⟩:=W5 n3;obtain rfl:=zhX n4;exact ⟨v1,v2,v3,v4,rfl,g 0 _ _ rfl rfl,g 1 _ _ rfl rfl,g 2 _ _ rfl rfl,g 3 _ _ rfl rfl⟩
section
variable {H:Hp} {p:A5} {y:Addr} {ins outs kinds:A6} {pace:Int}
def KnP.source (h:KnP a H p (.ref y) ⟨.source,ins,outs,pace,kinds⟩):∃ dx l1 l2 l3,H y=some (.ins a.k dx (sf l1 l2 pace l3)):=by
 cases h with|ob _ hy n g =>
  refine oE4 (fs4 n g) λ v1 v2 v3 v4 m8=>oA5 m8 λ n6 r1 r2 r3 r4=>?_;clear m8;subst n6;refine oE1 r1.ints' λ l1 m8=>oA3 m8 λ n6 _ _=>?_;clear m8;subst n6;refine oE1 r2.ints' λ l2 m8=>oA3 m8 λ n6 _ _=>?_;clear m8;subst n6;cases r3;refine oE1 r4.ints' λ l4 m8=>oA3 m8 λ n6 _ _=>?_;clear m8;subst n6;exact iE4 _ l1 l2 l4 (by rw [zgZ];exact hy)
def KnP.drain (h:KnP a H p (.ref y) ⟨.drain,ins,outs,pace,kinds⟩):∃ dx l1 l2,H y=some (.ins a.l dx (df l1 l2 pace)):=by
 cases h with|ob _ hy n g =>
  refine oE3 (fs3 n g) λ v1 v2 v3 m8=>oA4 m8 λ n6 r1 r2 r3=>?_;clear m8;subst n6;refine oE1 r1.ints' λ l1 m8=>oA3 m8 λ n6 _ _=>?_;clear m8;subst n6;refine oE1 r2.ints' λ l2 m8=>oA3 m8 λ n6 _ _=>?_;clear m8;subst n6;cases r3;exact iE3 _ l1 l2 (by rw [zfr];exact hy)
def KnP.joiner (h:KnP a H p (.ref y) ⟨.joiner,ins,outs,pace,kinds⟩):∃ dx l1 l2,H y=some (.ins a.n dx (kf l1 l2))/\H l1=some (.lst (iv ins)):=by
 cases h with|ob _ hy n g =>
  refine oE2 (fs2 n g) λ v1 v2 m8=>oA3 m8 λ n6 r1 r2=>?_;clear m8;subst n6;refine oE1 r1.ints' λ l1 m8=>oA3 m8 λ n6 _ h1=>?_;clear m8;subst n6;refine oE1 r2.ints' λ l2 m8=>oA3 m8 λ n6 _ _=>?_;clear m8;subst n6;exact iE3 _ l1 l2 ⟨by rw [zak];exact hy,h1⟩
end
noncomputable def hdV:Option Int->V
 | none=>.non
 | some k=>.int k
noncomputable def z6 (r:Row) (hs:List A9) (bs:Ai) (t:Int) (side:Nat):Option Ak:=match r.wd with
 | .source=>if bs.getD 0 false=true/\t % r.pace=0 then some (none,some 0,side) else none
 | .drain=>if r.pace=0\/hs.getD 0 none=none\/t % r.pace≠0 then none else some (some 0,none,side)
 | .parter=>if hs.getD 0 none=none then none else (xX bs side).map λ p=>(some 0,some p,(p + 1) % bs.length)
 | .joiner=>if bs.getD 0 false=true then (xX (hs.map Option.isSome) side).map λ p=>(some p,some 0,(p + 1) % hs.length) else none
noncomputable def chV (x:Ak):List V:=[ZH x.1,ZH x.2.1,.int (x.2.2:Nat)]
def zee (K:A0) (a:Ad) (wd:Wd):Sp:=λ vs H Q _=>∃ (y hl fl:Addr) (r:Row) (p:A5) (hs:List A9) (bs:Ai) (t:Int) (side:Nat),vs=[.ref y,.ref hl,.ref fl,.int t,.int side]/\KnP a H p (.ref y) r/\r.wd=wd/\r.ok /\
 H hl=some (.lst (hs.map hdV))/\H fl=some (.lst (bs.map V.bl))/\hs.length=r.ins.length/\bs.length=r.outs.length/\∀ v H',Same H H'->Told H' v ((z6 r hs bs t side).map chV)->Q v H'
def zcm {x:A9}:(hdV x=.non)=(x=none):=by
 cases x <;> simp [hdV]
def zd3 (hs:List A9):there (hs.map hdV)=hs.map Option.isSome:=by
 simp only [there,cY]
 congr 1
 funext x
 cases x <;> simp [hdV]
def zeS (T:Txt K mg a) (wd:Wd):MCal P w K mg base (wM a wd) "choice" 3 ["self","heads","free","turn","side"] [] (zee K a wd):=by
 cases wd with
 | source =>
  refine MCal.imp (QR T).mono λ vs H Q E h=>?_;refine oE5 h λ y hl fl m8 p n6=>oE4 n6 λ hs bs t side nu=>oA9 nu λ nB hK hw ok hh hf l1 l2 k=>?_;clear n6 nu h;obtain ⟨wd,ins,outs,pace,kinds⟩:=m8;subst nB;simp only at hw;subst hw;refine oE4 hK.source λ dx m1 m2 m3 hy=>?_;refine oA4 ok λ _ m8 p1 _=>?_;clear ok;obtain ⟨o,eo⟩:=m8;simp only at eo p1 l2;subst eo
  match bs,l2 with
  | [b],_ =>
   refine iE8 y dx m1 m2 m3 fl pace t (iE4 _ _ b ([]) (iA5 rfl hy p1 (SqL.of hf) (λ v H' s ht=>k v H' s ?_)));unfold Wq at ht;simp only [z6];by_cases hc:b=true/\t % pace=0
   ·rw [ax hc] at ht;rw [ax (by simpa using hc)];exact ht
   ·rw [aq hc] at ht;rw [aq (by simpa using hc)];exact ht
 | drain =>
  refine MCal.imp (JZ T).mono λ vs H Q E h=>?_;refine oE5 h λ y hl fl m8 p n6=>oE4 n6 λ hs bs t side nu=>oA9 nu λ nB hK hw ok hh hf l1 l2 k=>?_;clear n6 nu h;obtain ⟨wd,ins,outs,pace,kinds⟩:=m8;subst nB;simp only at hw;subst hw;refine oE3 hK.drain λ dx m1 m2 hy=>?_;refine oA4 ok λ m8 _ p1 p4=>?_;clear ok;obtain ⟨o,eo⟩:=m8;simp only at eo p1 p4 l1;subst eo
  match hs,l1 with
  | [hd],_ =>
   refine iE8 y dx m1 m2 hl pace t _ (iE3 _ (hdV hd) ([]) (iA6 rfl hy p1 p4 (SqL.of hh) (λ v H' s ht=>k v H' s ?_)));unfold zbJ at ht;simp only [zcm] at ht;simp only [z6];by_cases hc:pace=0\/hd=none\/t % pace≠0
   ·rw [ax hc] at ht;rw [ax (by simpa using hc)];exact ht
   ·rw [aq hc] at ht;rw [aq (by simpa using hc)];exact ht
 | parter =>
  refine MCal.imp (QT T).mono λ vs H Q E h=>?_;refine oE5 h λ y hl fl m8 p n6=>oE4 n6 λ hs bs t side nu=>oA9 nu λ nB hK hw ok hh hf l1 l2 k=>?_;clear n6 nu h;obtain ⟨wd,ins,outs,pace,kinds⟩:=m8;subst nB;simp only at hw;subst hw;refine oE3 hK.parter λ dx m1 m2 m8=>oA2 m8 λ hy h2=>?_;clear m8;obtain ⟨⟨o,eo⟩,q1,q2⟩:=ok;simp only at eo l1 l2 q1 q2;subst eo
  match hs,l1 with
  | [hd],_ =>
   refine iE8 y dx m1 m2 hl fl _ side (iE4 (hdV hd) ([]) (iv outs) bs (iA8 rfl hy h2 (SqL.of hh) (SqL.of hf) (by rw [zH];exact l2) (by lia) (λ v H' s ht=>k v H' s ?_)));simp only [zcm] at ht;simp only [z6];by_cases hc:hd=none
   ·rw [ax hc] at ht;rw [ax (by simpa using hc)];exact ht
   ·rw [aq hc] at ht;rw [aq (by simpa using hc)];unfold zg3 at ht;rw [Option.map_map];exact ht
 | joiner =>
  refine MCal.imp (QV T).mono λ vs H Q E h=>?_;refine oE5 h λ y hl fl m8 p n6=>oE4 n6 λ hs bs t side nu=>oA9 nu λ nB hK hw ok hh hf l1 l2 k=>?_;clear n6 nu h;obtain ⟨wd,ins,outs,pace,kinds⟩:=m8;subst nB;simp only at hw;subst hw;obtain ⟨⟨o,eo⟩,q1,q2⟩:=ok;simp only at eo l1 l2 q1 q2;subst eo;refine oE3 hK.joiner λ dx m1 m2 m8=>oA2 m8 λ hy h1=>?_;clear m8
  match bs,l2 with
  | [b],_ =>
   refine iE8 y dx m1 m2 hl fl _ side (iE4 (hs.map hdV) (iv ins) b ([]) (iA8 rfl hy h1 (SqL.of hh) (SqL.of hf) (by rw [ai,zH];exact l1) (by rw [ai];lia) (λ v H' s ht=>k v H' s ?_)));rw [zd3,ai] at ht;simp only [z6];by_cases hc:b=true
   ·rw [ax hc] at ht;rw [ax (by simpa using hc)];unfold zg6 at ht;rw [Option.map_map];exact ht
   ·rw [aq hc] at ht;rw [aq (by simpa using hc)];exact ht
abbrev zq:=Option (Int × Int)
abbrev Av:=List zq
abbrev Au:=List Av
noncomputable def zZ:zq->D
 | none=>.non
 | some (s,n)=>.tup [.int s,.int n]
def zdy (x:zq):Hard (zZ x):=by
 cases x with
 | none=>exact .non
 | some x =>
  refine .tup λ i d h=>?_;have:d∈[D.int x.1,D.int x.2]:=aj h;simp at this;rcases this with rfl|rfl <;> exact .int
structure PSt where
 turn:Int
 cells:List Av
 sides:List Int
 gone:List A6
noncomputable abbrev zI (cs:Au):List (List D):=cs.map λ c=>c.map zZ
noncomputable abbrev z9 (gs:List A6):List (List D):=gs.map λ g=>g.map D.int
noncomputable def stF (st:PSt):List (Str × D):=[("turn",.int st.turn),("cells",.lst ((zI st.cells).map D.lst)),("sides",.ints st.sides),("gone",.lst ((z9 st.gone).map D.lst))]
noncomputable def J9 (a:Ad) (st:PSt):D:=.ob a.p (stF st)
def Vw (st:PSt):(stF st).lookup ("turn":Str)=some (.int st.turn):=jc
def XJ (st:PSt):(stF st).lookup ("cells":Str)=some (.lst ((zI st.cells).map D.lst)):=(zS (by symm)).trans jc
def XH (st:PSt):(stF st).lookup ("sides":Str)=some (.ints st.sides):=(zS (by symm)).trans ((zS (by symm)).trans jc)
def Vx (st:PSt):(stF st).lookup ("gone":Str)=some (.lst ((z9 st.gone).map D.lst)):=(zS (by symm)).trans ((zS (by symm)).trans ((zS (by symm)).trans jc))
noncomputable def sff (t:Int) (lc ls lg:Addr):List (Str × V):=[(("turn":Str),V.int t),(("cells":Str),V.ref lc),(("sides":Str),V.ref ls),(("gone":Str),V.ref lg)]
theorem zjb {t:Int}:zL "turn" (.int t) []=([(("turn":Str),V.int t)]:Ar):=rfl
def zja {t:Int} {lc:Addr}:zL "cells" (.ref lc) [(("turn":Str),V.int t)]=([(("turn":Str),V.int t),(("cells":Str),V.ref lc)]:Ar):=by
 simp only [zL];rw [aq (by symm)]
def zi9 {t:Int} {lc ls:Addr}:zL "sides" (.ref ls) [(("turn":Str),V.int t),(("cells":Str),V.ref lc)]=([(("turn":Str),V.int t),(("cells":Str),V.ref lc),(("sides":Str),V.ref ls)]:Ar):=by
 simp only [zL];rw [aq (by symm),aq (by symm)]
def zi8 {t:Int} {lc ls lg:Addr}:zL "gone" (.ref lg) [(("turn":Str),V.int t),(("cells":Str),V.ref lc),(("sides":Str),V.ref ls)]=sff t lc ls lg:=by
 unfold sff;simp only [zL];rw [aq (by symm),aq (by symm),aq (by symm)]
structure SN where
 dx:Addr
 lc:Addr
 ls:Addr
 lg:Addr
 acs:List Addr
 ags:List Addr
noncomputable def SN.all (n:SN):List Addr:=n.ls :: n.lc :: n.lg :: (n.acs ++ n.ags)
structure StO (a:Ad) (H:Hp) (y:Addr) (n:SN) (st:PSt):Prop where
 hy:H y=some (.ins a.p n.dx (sff st.turn n.lc n.ls n.lg))
 hc:NL H (zG H) n.lc n.acs (zI st.cells)
 hs:H n.ls=some (.lst (iv st.sides))
 hg:NL H (zG H) n.lg n.ags (z9 st.gone)
 nd:n.all.Nodup
def StO.rep {y:Addr} {n:SN} {st:PSt} (h:StO a H y n st):Rep H (Off []) (.ref y) (J9 a st) :=
 Zh (λ z=>nomatch z) h.hy rfl (.cons .int (.cons h.hc.rep (.cons (qw (λ z=>nomatch z) h.hs) (.cons h.hg.rep .nil))))
def StO.same {H H':Hp} {y:Addr} {n:SN} {st:PSt} (h:StO a H y n st) (s:Same H H'):StO a H' y n st :=
 ⟨s _ _ h.hy,h.hc.keep (λ b o _ hb=>s b o hb) (λ b ⟨xs,hx⟩ _=>⟨xs,s _ _ hx⟩),s _ _ h.hs,h.hg.keep (λ b o _ hb=>s b o hb) (λ b ⟨xs,hx⟩ _=>⟨xs,s _ _ hx⟩),h.nd⟩
def wX (a:Ad):Sp:=λ vs H Q _=>∃ (y dx:Addr) (vc vs' vg:V) (st:PSt) (p:A5),vs=[.ref y,.int st.turn,vc,vs',vg]/\H y=some (.ins a.p dx [])/\(∀ b,p b->b≠y) /\
 Rep H p vc (.lst ((zI st.cells).map D.lst))/\Rep H p vs' (.ints st.sides)/\Rep H p vg (.lst ((z9 st.gone).map D.lst))/\st.cells.length<=100/\st.gone.length<=100 /\
 ∀ H' n,n.dx=dx->Own H H' y->StO a H' y n st->(∀ b∈n.all,H b=none)->Q .non H'
def VT {ds:List D} (h:Reps H p vs ds) (hd:∀ d∈ds,Hard d):Reps H (zG H) vs ds :=
 ⟨h.len,λ i v d e1 e2=>(h.g i v d e1 e2).hard (hd d (aj e2)) λ b xs _ hb=>⟨xs,hb⟩⟩
def zbD (c:Av):∀ d∈c.map zZ,Hard d:=λ d hd=>by
 obtain ⟨x,_,rfl⟩:=aN.mp hd;exact zdy x
def zdz (c:A6):∀ d∈c.map D.int,Hard d:=λ d hd=>by
 obtain ⟨x,_,rfl⟩:=aN.mp hd;exact .int
def Xv (T:Txt K mg a) (F:Fun K "__init__" "State.__init__" qX f fd):FnOk P w K mg base (CXr P w) 1 f fd ["self","turn","cells","sides","gone"] (wX a):=by
 refine F.okx Xt ?_ ?_
 ·walk_at "i"
 walk_at "j";refine oE7 h λ y dx vc vs' vg st p m8=>oA9 m8 λ n6 hy hp rc rs rg lc lg k=>?_;clear m8 h;subst n6;refine oE2 rc.lst' λ c0 ucs m8=>oA4 m8 λ n6 pc0 hc0 rcs=>?_;clear m8;subst n6;refine oE1 rs.ints' λ s0 m8=>oA3 m8 λ n6 ps0 hs0=>?_;clear m8;subst n6;have hs0:H s0=some (.lst (iv st.sides)):=hs0;refine oE2 rg.lst' λ g0 ugs m8=>oA4 m8 λ n6 pg0 hg0 rgs=>?_;clear m8;subst n6;have lcs:ucs.length=st.cells.length:=by rw [rcs.len,ai,ai]
 have lgs:ugs.length=st.gone.length:=by rw [rgs.len,ai,ai]
 walk_at "T";refine ⟨_,(zo (qT (pq 0) (pq 1) rfl)  (zo (qT (pq 0) (jr (vars:=["belt_cells"]) (caps:=[]) (N:=["belt_cells"]) (ON:=["self","turn","cells","sides","gone"]) (osc:=zc qX) rfl rfl (by right) rfl rfl (zV (pq 2)) (λ _ _ _ _=>(qf 0 (show (["belt_cells"]:A8).Nodup from by symm))) (λ _ _ _ _=>zX) (λ _ _ _ _=>(wg vP wP (za (pq 0) zb)))) rfl)  (zo (qT (pq 0) (wg vP wP (za (pq 3) zb)) rfl)  (zd (qT (pq 0) (jr (vars:=["counts"]) (caps:=[]) (N:=["counts"]) (ON:=["self","turn","cells","sides","gone"]) (osc:=zc qX) rfl rfl (by right) rfl rfl (zV (pq 4)) (λ _ _ _ _=>(qf 0 (show (["counts"]:A8).Nodup from by symm))) (λ _ _ _ _=>zX) (λ _ _ _ _=>(wg vP wP (za (pq 0) zb)))) rfl))))),?_⟩;exists iE4 y a.p dx ([]) (iA6 rfl hy T.ad T.ie (by decide) ?_);rw [zjb];have o1:Own H (upd H y (.ins a.p dx [(("turn":Str),V.int st.turn)])) y:=jk;have y1:upd H y (.ins a.p dx [(("turn":Str),V.int st.turn)]) y=some (.ins a.p dx [(("turn":Str),V.int st.turn)]):=nE;generalize upd H y (.ins a.p dx [(("turn":Str),V.int st.turn)])=H1 at o1 y1 ⊢;have kp:∀ b,zG H b->H b≠none->b≠y:=λ b ⟨xs,hx⟩ _ z=>by rw [z,hy] at hx;cases hx
 walk_at "d";exists ⟨c0,rfl,.inl ⟨⟨_,SqL.of (o1 _ _ (hp _ pc0) hc0)⟩,λ _ _ _ _ nj hacc=>?_⟩⟩;let nz:Nat->St->Hp->Prop:=λ i σ H'=>∃ (v0:Aq) (as:Ab),σ=[v0]/\Same H1 H'/\NL H' (zG H) nj as (zI (st.cells.take i))/\∀ b∈as,H1 b=none;refine ql (K:=K) (a:=c0) (xs:=ucs) nz (iE2 _ ([]) (iA4 rfl (zg hacc) (by rw [b9];exact WX nE) (by simp))) (λ i σ H' _ h=>by obtain ⟨_,_,_,s,_⟩:=h;exact SqL.of (s _ _ (o1 _ _ (hp _ pc0) hc0))) ?_ ?_
 ·intro i x σ H2 hi nh;refine oE2 nh λ v0 as m8=>oA4 m8 λ n6 s2 nl fr=>?_;ext;obtain ⟨d,hd,rx⟩:=rcs.at hi;rw [am,am] at hd;obtain ⟨c,hc⟩:∃ c,st.cells[i]?=some c:=by
   cases e:st.cells[i]? with
   | none=>rw [e] at hd;cases hd
   | some c=>exact ⟨c,rfl⟩
  rw [hc] at hd;cases hd;refine oE2 (Rep.lst' rx) λ li vi m8=>oA4 m8 λ n6 pli hli ri=>?_;clear m8;subst n6;have hil:=(aa.mp hc).1;have hli2:=s2 _ _ (o1 _ _ (hp _ pli) hli);exists iE2 li _ (iA3 rfl (.inl (SqL.of hli2)) (λ b hb=>?_));have nb:b ∉ as:=λ z=>by
   obtain ⟨j,hj⟩:=aU z;obtain ⟨vs,h1,_⟩:=nl.g j b _ hj (ae (by rw [<- nl.len];exact (aa.mp hj).1));rw [h1] at hb;cases hb
  have nG:b≠nj:=λ z=>by rw [z,nl.out] at hb;cases hb
  have s3:Same H2 (upd H2 b (.lst vi)):=zg hb;have ac3:=nI (o:=.lst vi) nl.out hb;refine ⟨_,iA3 ac3 (zk (by rw [ai,nl.len,ai,aP];lia)) ?_⟩;have ri3:Reps (upd H2 b (.lst vi)) (zG H) vi (c.map zZ):=(VT ri (zbD c)).keep λ z o pz hz=>⟨pz,s3 _ _ (s2 _ _ (o1 _ _ (kp z pz (by rw [hz];intro q;cases q)) hz))⟩;have nl3:=(nl.same s3).push (b:=b) (vs:=vi) (ys:=c.map zZ) nE nb nG (λ ⟨xs,hx⟩=>by
   have:=o1 _ _ (kp nj ⟨xs,hx⟩ (by rw [hx];intro q;cases q)) hx;rw [hacc] at this;cases this) ri3
  refine iE2 _ (as ++ [b]) (iA4 rfl ?_ ?_ ?_)
  ·exact λ z o hz=>by rw [nF (nH hz hacc)];exact s3 _ _ (s2 _ _ hz)
  ·rw [aG,hc];rw [show zI (st.cells.take i ++ (some c).toList)=zI (st.cells.take i) ++ [c.map zZ] by simp [zI]];exact nl3
  ·intro z hz;rcases aB.mp hz with hz|hz
   ·exact fr z hz
   ·rw [ap.mp hz];exact zr s2 hb
 intro σ H2 nh;refine oE2 nh λ v0 acs m8=>oA4 m8 λ n6 s2 nlc frc=>?_;ext;rw [lcs,aH] at nlc;have y2:=s2 _ _ y1;exists iE4 y a.p dx _ (iA6 rfl y2 T.ad T.ic (by simp) ?_);rw [zja];have nay:nj≠y:=λ z=>by rw [z,y1] at hacc;cases hacc
 have hx0:∀ {z:Addr},H1 z=none->z≠y/\H z=none:=λ {z} hz=>by
  have n1:z≠y:=λ q=>by rw [q,y1] at hz;cases hz
  refine ⟨n1,?_⟩;cases e:H z with
  | none=>rfl
  | some o=>rw [o1 z o n1 e] at hz;cases hz
 have o3:Own H (upd H2 y (.ins a.p dx [(("turn":Str),V.int st.turn),(("cells":Str),V.ref nj)])) y:=(o1.trans (Same.own s2)).trans jk;have y3:upd H2 y (.ins a.p dx [(("turn":Str),V.int st.turn),(("cells":Str),V.ref nj)]) y=some (.ins a.p dx [(("turn":Str),V.int st.turn),(("cells":Str),V.ref nj)]):=nE;have nl3:NL (upd H2 y (.ins a.p dx [(("turn":Str),V.int st.turn),(("cells":Str),V.ref nj)])) (zG H) nj acs (zI st.cells):=nlc.keep (λ z o hz ho=>by
  refine (nF (λ q=>?_)).trans ho;rcases hz with h|h|h
  ·exact nay (h.symm.trans q)
  ·exact (hx0 (frc z h)).1 q
  ·obtain ⟨xs,hx⟩:=h;rw [q,hy] at hx;cases hx) λ _ hp _=>hp
 generalize upd H2 y (.ins a.p dx [(("turn":Str),V.int st.turn),(("cells":Str),V.ref nj)])=H3 at o3 y3 nl3 ⊢;exists iE2 s0 _ (iA3 rfl (.inl (SqL.of (o3 _ _ (hp _ ps0) hs0))) (λ ls hls=>?_));left;have y4:=nI (o:=.lst (iv st.sides)) y3 hls;refine iE4 y a.p dx _ (iA6 rfl y4 T.ad T.ip (by simp) ?_);rw [zi9];have nlsy:ls≠y:=λ z=>by rw [z,y3] at hls;cases hls
 have hls0:H ls=none:=by
  cases e:H ls with
  | none=>rfl
  | some o=>rw [o3 ls o nlsy e] at hls;cases hls
 have o5:Own H (upd (upd H3 ls (.lst (iv st.sides))) y (.ins a.p dx [(("turn":Str),V.int st.turn),(("cells":Str),V.ref nj),(("sides":Str),V.ref ls)])) y:=(o3.trans (Same.own (zg hls))).trans jk;have y5:upd (upd H3 ls (.lst (iv st.sides))) y (.ins a.p dx [(("turn":Str),V.int st.turn),(("cells":Str),V.ref nj),(("sides":Str),V.ref ls)]) y=some (.ins a.p dx [(("turn":Str),V.int st.turn),(("cells":Str),V.ref nj),(("sides":Str),V.ref ls)]):=nE;have nl5:NL (upd (upd H3 ls (.lst (iv st.sides))) y (.ins a.p dx [(("turn":Str),V.int st.turn),(("cells":Str),V.ref nj),(("sides":Str),V.ref ls)])) (zG H) nj acs (zI st.cells):=nl3.keep (λ z o hz ho=>by
  refine (nF (λ q=>?_)).trans (nI ho hls);rcases hz with h|h|h
  ·exact nay (h.symm.trans q)
  ·exact (hx0 (frc z h)).1 q
  ·obtain ⟨xs,hx⟩:=h;rw [q,hy] at hx;cases hx) λ _ hp _=>hp
 have ls5:upd (upd H3 ls (.lst (iv st.sides))) y (.ins a.p dx [(("turn":Str),V.int st.turn),(("cells":Str),V.ref nj),(("sides":Str),V.ref ls)]) ls=some (.lst (iv st.sides)):=by rw [nF nlsy];exact nE
 have nlsa:ls ∉ nj :: acs:=λ z=>by
  rcases az.mp z with h|h
  ·rw [h,nl3.out] at hls;cases hls
  ·obtain ⟨j,hj⟩:=aU h;obtain ⟨vs,h1,_⟩:=nl3.g j ls _ hj (ae (by rw [<- nl3.len];exact (aa.mp hj).1));rw [h1] at hls;cases hls
 generalize upd (upd H3 ls (.lst (iv st.sides))) y (.ins a.p dx [(("turn":Str),V.int st.turn),(("cells":Str),V.ref nj),(("sides":Str),V.ref ls)])=H5 at o5 y5 nl5 ls5 ⊢;clear nl3 o3 y3 hls y4;walk_at "d";exists ⟨g0,rfl,.inl ⟨⟨_,SqL.of (o5 _ _ (hp _ pg0) hg0)⟩,λ _ _ _ _ ag hag=>?_⟩⟩;let nA:Nat->St->Hp->Prop:=λ i σ H'=>∃ (v0:Aq) (as:Ab),σ=[v0]/\Same H5 H'/\NL H' (zG H) ag as (z9 (st.gone.take i))/\∀ b∈as,H5 b=none;refine ql (K:=K) (a:=g0) (xs:=ugs) nA (iE2 _ ([]) (iA4 rfl (zg hag) (by rw [b9];exact WX nE) (by simp))) (λ i σ H' _ h=>by obtain ⟨_,_,_,s,_⟩:=h;exact SqL.of (s _ _ (o5 _ _ (hp _ pg0) hg0))) ?_ ?_
 ·intro i x σ H2 hi nh;refine oE2 nh λ v0 as m8=>oA4 m8 λ n6 s2 nl fr=>?_;ext;obtain ⟨d,hd,rx⟩:=rgs.at hi;rw [am,am] at hd;obtain ⟨c,hc⟩:∃ c,st.gone[i]?=some c:=by
   cases e:st.gone[i]? with
   | none=>rw [e] at hd;cases hd
   | some c=>exact ⟨c,rfl⟩
  rw [hc] at hd;cases hd;refine oE2 (Rep.lst' rx) λ li vi m8=>oA4 m8 λ n6 pli hli ri=>?_;clear m8;subst n6;have hil:=(aa.mp hc).1;have hli2:=s2 _ _ (o5 _ _ (hp _ pli) hli);exists iE2 li _ (iA3 rfl (.inl (SqL.of hli2)) (λ b hb=>?_));have nb:b ∉ as:=λ z=>by
   obtain ⟨j,hj⟩:=aU z;obtain ⟨vs,h1,_⟩:=nl.g j b _ hj (ae (by rw [<- nl.len];exact (aa.mp hj).1));rw [h1] at hb;cases hb
  have nG:b≠ag:=λ z=>by rw [z,nl.out] at hb;cases hb
  have s3:Same H2 (upd H2 b (.lst vi)):=zg hb;have ac3:=nI (o:=.lst vi) nl.out hb;refine ⟨_,iA3 ac3 (zk (by rw [ai,nl.len,ai,aP];lia)) ?_⟩;have ri3:Reps (upd H2 b (.lst vi)) (zG H) vi (c.map D.int):=(VT ri (zdz c)).keep λ z o pz hz=>⟨pz,s3 _ _ (s2 _ _ (o5 _ _ (kp z pz (by rw [hz];intro q;cases q)) hz))⟩;have nl3:=(nl.same s3).push (b:=b) (vs:=vi) (ys:=c.map D.int) nE nb nG (λ ⟨xs,hx⟩=>by
   have:=o5 _ _ (kp ag ⟨xs,hx⟩ (by rw [hx];intro q;cases q)) hx;rw [hag] at this;cases this) ri3
  refine iE2 _ (as ++ [b]) (iA4 rfl ?_ ?_ ?_)
  ·exact λ z o hz=>by rw [nF (nH hz hag)];exact s3 _ _ (s2 _ _ hz)
  ·rw [aG,hc];rw [show z9 (st.gone.take i ++ (some c).toList)=z9 (st.gone.take i) ++ [c.map D.int] by simp [z9]];exact nl3
  ·intro z hz;rcases aB.mp hz with hz|hz
   ·exact fr z hz
   ·rw [ap.mp hz];exact zr s2 hb
 intro σ H6 nh;refine oE2 nh λ v0' ags m8=>oA4 m8 λ n6 s6 nlg frg=>?_;ext;rw [lgs,aH] at nlg;have y6:=s6 _ _ y5;exists iE4 y a.p dx _ (iA6 rfl y6 T.ad T.ig (by simp) ?_);rw [zi8];have hx5:∀ {z:Addr},H5 z=none->z≠y/\H z=none:=λ {z} hz=>by
  have n1:z≠y:=λ q=>by rw [q,y5] at hz;cases hz
  refine ⟨n1,?_⟩;cases e:H z with
  | none=>rfl
  | some o=>rw [o5 z o n1 e] at hz;cases hz
 have ngy:=(hx5 hag).1;have o7:Own H (upd H6 y (.ins a.p dx (sff st.turn nj ls ag))) y:=(o5.trans (Same.own s6)).trans jk;have tp:∀ b,zG H b->H b≠none->zG (upd H6 y (.ins a.p dx (sff st.turn nj ls ag))) b:=λ b ⟨xs,hx⟩ hn=>⟨xs,o7 _ _ (kp b ⟨xs,hx⟩ hn) hx⟩;have inA:∀ z,z∈nj :: acs->∃ o,H5 z=some o:=λ z hz=>by
  rcases az.mp hz with h|h
  ·exact ⟨_,h ▸ nl5.out⟩
  ·obtain ⟨j,hj⟩:=aU h;obtain ⟨vs,h1,_⟩:=nl5.g j z _ hj (ae (by rw [<- nl5.len];exact (aa.mp hj).1));exact ⟨_,h1⟩
 refine k _ ⟨dx,nj,ls,ag,acs,ags⟩ rfl o7 ⟨nE,?_,?_,?_,?_⟩ ?_
 ·exact (nl5.same s6).keep (λ z o hz ho=>by
   refine (nF (λ q=>?_)).trans ho;rcases hz with h|h|h
   ·exact nay (h.symm.trans q)
   ·exact (hx0 (frc z h)).1 q
   ·obtain ⟨xs,hx⟩:=h;rw [q,hy] at hx;cases hx) λ b hb hn=>by
    obtain ⟨xs,hx⟩:=hb;exact tp b ⟨xs,hx⟩ (by rw [hx];intro q;cases q)
 ·show upd H6 y _ ls=_
  rw [nF nlsy];exact s6 _ _ ls5
 ·exact nlg.keep (λ z o hz ho=>by
   refine (nF (λ q=>?_)).trans ho;rcases hz with h|h|h
   ·exact ngy (h.symm.trans q)
   ·exact (hx5 (frg z h)).1 q
   ·obtain ⟨xs,hx⟩:=h;rw [q,hy] at hx;cases hx) λ b hb hn=>by
    obtain ⟨xs,hx⟩:=hb;exact tp b ⟨xs,hx⟩ (by rw [hx];intro q;cases q)
 ·show (ls :: nj :: ag :: (acs ++ ags)).Nodup
  have ls5':∀ z,H5 z=none->z≠ls:=λ z hz q=>by rw [q,ls5] at hz;cases hz
  rw [cR,cR,cR];refine iA4 (λ z=>?_) (λ z=>?_) (λ z=>?_) ?_
  ·rcases az.mp z with h|z
   ·exact nlsa (h ▸ bh ..)
   rcases az.mp z with h|z
   ·exact ls5' ag hag h.symm
   rcases aB.mp z with z|z
   ·exact nlsa (aA _ z)
   ·exact ls5' ls (frg ls z) rfl
  ·rcases az.mp z with h|z
   ·rw [<- h,nl5.out] at hag;cases hag
   rcases aB.mp z with z|z
   ·exact nl5.nG z
   ·have:=frg nj z;rw [nl5.out] at this;cases this
  ·rcases aB.mp z with z|z
   ·obtain ⟨o,ho⟩:=inA ag (aA _ z);rw [hag] at ho;cases ho
   ·exact nlg.nG z
  ·rw [nodup_append];refine ⟨nl5.nd,nlg.nd,λ u hu v hv q=>?_⟩;subst q;obtain ⟨o,ho⟩:=inA u (aA _ hu);rw [frg u hv] at ho;cases ho
 ·intro b hb;rcases az.mp hb with rfl|hb
  ·exact hls0
  rcases az.mp hb with rfl|hb
  ·exact (hx0 hacc).2
  rcases az.mp hb with rfl|hb
  ·exact (hx5 hag).2
  rcases aB.mp hb with hb|hb
  ·exact (hx0 (frc b hb)).2
  ·exact (hx5 (frg b hb)).2
def W0 (T:Txt K mg a):KCal P w K mg base "State" a.p 1 ["self","turn","cells","sides","gone"] [] (wX a):=T.lD.cal T.mR (Xv T)
def qO {rs:At} (h:Rep H p v (qA a bs rs)):∃ y dx fs l1 l2 bvs n9,v=.ref y/\H y=some (.ins a.o dx fs)/\fs.lookup ("belts":Str)=some (.ref l1)/\fs.lookup ("knots":Str)=some (.ref l2) /\
  H l1=some (.lst bvs)/\H l2=some (.lst n9)/\Bts a H p bvs bs/\Kns a H p n9 rs/\∀ f:Str,f≠"belts"->f≠"knots"->fs.lookup f=none:=by
 refine oE3 (Rep.ob' h) λ y dx fs m8=>oA5 m8 λ n6 py hy g1 g2=>?_;clear m8;subst n6;obtain ⟨u1,e1,r1⟩:=g1 _ _ Vl;obtain ⟨u2,e2,r2⟩:=g1 _ _ zdY;refine oE2 r1.lst' λ l1 bvs m8=>oA4 m8 λ n6 _ h1 b1=>?_;clear m8;subst n6;refine oE2 r2.lst' λ l2 n9 m8=>oA4 m8 λ n6 _ h2 b2=>?_;clear m8;subst n6;exact iE7 y dx fs l1 l2 bvs n9 (iA9 rfl hy e1 e2 h1 h2 (.of b1) (.of b2) (λ f n1 n2=>g2 f (zil n1 n2)))
noncomputable def jJ (ks:A6) (n:Int):Int:=ks.getD (n % (ks.length:Int)).toNat 0
def zdr (n:Int) (h:0 < ks.length):atI (iv ks) (n % (ks.length:Int))=some (.int (jJ ks n)):=by
 have h0:=cT n (show (ks.length:Int)≠0 by lia);have h1:=cV n (show (0:Int) < ks.length by lia);unfold jJ;generalize n % (ks.length:Int)=m at h0 h1 ⊢;have hlt:m.toNat < ks.length:=by lia
 have e:m=(m.toNat:Int):=by lia
 have:=zw (j9 (ae hlt));rw [<- e] at this;rw [this];simp [hlt]
def Vp {s n:Int} (h:Rep H p v (.tup [.int s,.int n])):∃ t,v=.ref t/\H t=some (.tup [.int s,.int n]):=jU (b:=(s,n)) h
def WY {n9:Ap} {rs:At} {r:Row} (hK:Kns a H p n9 rs) (h:rs[j]?=some r):∃ kv,n9[j]?=some kv/\KnP a H p kv r:=by
 have hj:=(aa.mp h).1;have e:n9[j]?=some (n9[j]'(by rw [hK.len];exact hj)):=ae _;exact ⟨_,e,hK.g j _ r e h⟩
def zeb (a:Ad):Sp:=λ vs H Q _=>∃ (v vwr:V) (bs:A1) (rs:At) (p q:A5) (s:Nat) (n:Int) (r:Row),vs=[v,vwr]/\Rep H p v (qA a bs rs)/\Rep H q vwr (.tup [.int s,.int n])/\rs[s]?=some r/\r.wd=.source/\0 < r.kinds.length/\Q (.int (jJ r.kinds n)) H
def X8 (T:Txt K mg a):Cal P w K mg base "kind_of" 1 ["work","ware"] [] (zeb a):=T.mi.cal λ F=>by
 refine F.okx za5 ?_ ?_
 ·walk_at "i"
 walk_at "j";refine oE5 h λ v vwr bs rs p m8=>oE4 m8 λ q sc n r n6=>oA7 n6 λ nu hv hw hr' hs hk k=>?_;clear m8 n6 h;subst nu;refine oE7 (qO hv) λ y dx fs l1 l2 bvs n9 m8=>oA9 m8 λ n6 hy e1 e2 h1 h2 hB hK no=>?_;clear m8;subst n6;obtain ⟨t,rfl,ht⟩:=Vp hw;obtain ⟨kv,hkv,hKn⟩:=WY hK hr';refine oE6 hKn.inv λ y1 dx1 m1 m2 m3 fs1 m8=>oA9 m8 λ n6 _ _ _ _ g0 _ _ nu=>oA5 nu λ _ _ _ g3 _=>?_;clear m8 nu;subst n6;obtain ⟨g3a,g3b⟩:=g3 hs;walk_at "T";refine ⟨_,(ze (zt 2 za5.nd (zi (zm (zi (pq 0) rfl) (zm (pq 1) zh)) rfl))  (zd (zl (zm (pq 2) (zD jn (zm (pq 1) zh) (qd qi qg (za (pq 2) zb))))))),?_⟩;exists ra hy T.ik T.ii e2 (nJ ht at0 (zp (SqL.of h2) (zw hkv) ?_));refine iE5 y1 (wM a r.wd) dx1 fs1 _ (iA6 rfl g0 (CT T _) (by rw [hs];exact T.iw) g3a ?_);exists nJ ht rfl ?_;exists ⟨_,.inl ⟨_,SqL.of g3b,rfl⟩,?_⟩;rw [zH];left;exact ⟨by lia,zp (SqL.of g3b) (zdr n hk) k⟩
noncomputable def qE (r:Row):List Int:=List.replicate (max r.ins.length r.outs.length) 0
def zhp {α:Type} (n:Nat) (x:α):(List.replicate n [x]).flatten=List.replicate n x:=by
 induction n with
 | zero=>rfl
 | succ n ih=>rw [cG,eP,ih];rfl
def zfb (n:Nat) (x:Int):List.replicate n (V.int x)=iv (List.replicate n x):=by simp [iv]
def zhF (m n:Nat):(if (n:Int) > (m:Int) then (n:Int) else (m:Int))=((max m n:Nat):Int):=by
 by_cases h:(n:Int) > (m:Int)
 ·rw [ax h];lia
 ·rw [aq h];lia
def wb {r:Row} (h:r.ok):r.ins.length<=4/\r.outs.length<=4:=by
 obtain ⟨wd,ins,outs,pc,ks⟩:=r;cases wd
 ·obtain ⟨h1,⟨o,h2⟩,_⟩:=h;simp only at h1 h2;subst h1 h2;simp
 ·obtain ⟨⟨o,h1⟩,h2,_⟩:=h;simp only at h1 h2;subst h1 h2;simp
 ·obtain ⟨⟨o,h1⟩,_,h2⟩:=h;simp only at h1 h2;subst h1;exact ⟨by simp,h2⟩
 ·obtain ⟨⟨o,h1⟩,_,h2⟩:=h;simp only at h1 h2;subst h1;exact ⟨h2,by simp⟩
def QH (a:Ad) (H H':Hp) (v:V) (st:PSt):Prop:=∃ y n,v=.ref y/\StO a H' y n st/\H y=none/\H n.dx=none/\∀ b∈n.all,H b=none
def JW (T:Txt K mg a) {st:PSt} {vc vs' vg:V} {Q:Addr->Hp->Prop} {E:XK} (rc:Rep H p vc (.lst ((zI st.cells).map D.lst))) (rs:Rep H p vs' (.ints st.sides)) (rg:Rep H p vg (.lst ((z9 st.gone).map D.lst))) (lc:st.cells.length<=100) (lg:st.gone.length<=100)
  (k:∀ y H',Same H H'->QH a H H' (.ref y) st->Q y H'):∀ (x dx:Addr),H x=none->H dx=none->dx≠x->wX a [.ref x,.int st.turn,vc,vs',vg] (upd (upd H dx (.own x)) x (.ins a.p dx [])) (λ v H2=>v=.non/\Q x H2) E:=by
 intro y dy hy hdy hne;have kp:∀ b o,p b->H b=some o->b≠y/\upd (upd H dy (.own y)) y (.ins a.p dy []) b=some o:=λ b o _ hb=>⟨nH hb hy,qU hy hdy hb⟩;refine iE7 y dy vc vs' vg st (λ b=>b≠y) (iA9 rfl nE (λ _ h=>h) (rc.keep kp) (rs.keep kp) (rg.keep kp) lc lg (λ H' n en o so fr=>⟨rfl,?_⟩));exact k _ _ (Own.of_new hy hdy o) (iE2 y n (iA5 rfl so hy (by rw [en];exact hdy) (λ b hb=>z7 (fr b hb))))
def zaX (a:Ad):Sp:=λ vs H Q _=>∃ (v:V) (r:Row) (p:A5),vs=[v]/\KnP a H p v r/\r.ins.length<=100/\r.outs.length<=100/\∀ q H',Same H H'->H q=none->H' q=some (.lst (iv (qE r)))->Q (.ref q) H'
def zaC (T:Txt K mg a):Cal P w K mg base "no_counts" 1 ["knot"] [] (zaX a):=T.lK.cal λ F=>by
 refine F.okx Ww ?_ ?_
 ·walk_at "i"
 walk_at "j";refine oE3 h λ v r p m8=>oA5 m8 λ n6 hKn l1 l2 k=>?_;clear m8 h;subst n6;refine oE6 hKn.inv λ y1 dx1 m1 m2 m3 fs1 m8=>oA9 m8 λ n6 _ _ _ _ g0 f1 f2 nu=>oA5 nu λ _ g1 g2 g3 _=>?_;clear m8 nu;subst n6;walk_at "T";refine ⟨_,(zd (zl (zD zbp (qe (za zh zb)) (qd (zdK rfl) zfF (za (qd qi qg (za (zi (pq 0) rfl) zb)) (za (qd qi qg (za (zi (pq 0) rfl) zb)) zb)))))),?_⟩;left;intro q hq;have sq:=zg (o:=.lst [V.int 0]) hq;refine ⟨mz,iH,?_⟩;refine ra (sq _ _ g0) (CT T _) (NI T _) f1 ⟨_,.inl ⟨_,SqL.of (sq _ _ g1),rfl⟩,?_⟩;refine ⟨iH,?_⟩;refine ra (sq _ _ g0) (CT T _) (NO T _) f2 ⟨_,.inl ⟨_,SqL.of (sq _ _ g2),rfl⟩,?_⟩;rw [zH,zH];refine iE2 _ _ ⟨rfl,?_⟩;rw [zhF];refine iE3 q _ _ (iA7 rfl rfl nE (by lia) (by lia) ?_ (λ q2 hq2=>?_))
 ·refine Q2 ?_;simp
  lia
 ·rw [zhp,aE,zfb];exact k q2 _ (sq.trans (zg hq2)) (zr sq hq2) nE
noncomputable def qq (bs:A1) (rs:At):PSt:=⟨0,bs.map λ b=>List.replicate b.1.toNat none,List.replicate rs.length 0,rs.map qE⟩
def zfT (a:Ad):Sp:=λ vs H Q _=>∃ (v:V) (bs:A1) (rs:At) (p:A5),vs=[v]/\Rep H p v (qA a bs rs)/\bs.length<=24/\rs.length<=24/\(∀ b∈bs,zA b.1 b.2)/\(∀ r∈rs,r.ok)/\∀ v' H',Same H H'->QH a H H' v' (qq bs rs)->Q v' H'
def vX (T:Txt K mg a):Cal P w K mg base "empty_state" 3 ["work"] [] (zfT a):=T.kR.cal λ F=>by
 refine F.okx Js ?_ ?_
 ·walk_at "i"
 walk_at "j";refine oE4 h λ v bs rs p m8=>oA7 m8 λ n6 hv lb lr bo ro k=>?_;clear m8 h;subst n6;refine oE7 (qO hv) λ y dx fs l1 l2 bvs n9 m8=>oA9 m8 λ n6 hy e1 e2 h1 h2 hB hK no=>?_;clear m8;subst n6;walk_at "T";refine ⟨_,(zo (JC (i:=1) Js.nd rfl (Or.inl rfl) (vars:=["belt"]) (caps:=[]) (N:=["belt"]) (ON:=["work","cells","sides"]) (osc:=zc jd) rfl rfl (by right) rfl rfl (zV (zi (pq 0) rfl)) (λ _ _ _ _=>(qf 0 (show (["belt"]:A8).Nodup from by symm))) (λ _ _ _ _=>zX) (λ _ _ _ _=>(zD zbp (qe (za zM zb)) (zi (pq 0) rfl))))  (zo (zt 2 Js.nd (zD zbp (qe (za zh zb)) (qd qi qg (za (zi (pq 0) rfl) zb))))  (zd (zl (wR (x:="State") ⟨rfl,rfl,rfl⟩ hr (za zh (za (pq 1) (za (pq 2) (za (jr (vars:=["knot"]) (caps:=[]) (N:=["knot"]) (ON:=["work","cells","sides"]) (osc:=zc jd) rfl rfl (by right) rfl rfl (zV (zi (pq 0) rfl)) (λ _ _ _ _=>(qf 0 (show (["knot"]:A8).Nodup from by symm))) (λ _ _ _ _=>zX) (λ _ _ _ _=>(Zi hr (za (pq 0) zb)))) zb))))))))),?_⟩;left;walk_at "d";exists ra hy T.ik T.iE e1 ⟨l1,rfl,.inl ⟨⟨_,SqL.of h1⟩,λ _ _ _ _ nj hacc=>?_⟩⟩;let nz:Nat->St->Hp->Prop:=λ i σ H'=>∃ (v0:Aq) (us:Ap),σ=[v0]/\Same H H'/\H' nj=some (.lst us)/\Reps H' (Off [nj]) us ((bs.take i).map λ b=>D.lst (List.replicate b.1.toNat .non));refine ql (K:=K) (a:=l1) (xs:=bvs) nz (iE2 _ ([]) (iA4 rfl (zg hacc) nE (by rw [b9];exact .nil))) (λ i σ H' _ h=>by obtain ⟨_,_,_,s,_⟩:=h;exact SqL.of (s _ _ h1)) ?_ ?_
 ·intro i x σ H2 hi nh;refine oE2 nh λ v0 us m8=>oA4 m8 λ n6 s2 ha ru=>?_;ext;obtain ⟨b,hb',hBt⟩:=hB.at hi;refine oE3 hBt.inv λ y1 dx1 fs1 m8=>oA5 m8 λ n6 _ g0 f1 f2=>?_;clear m8;subst n6;have hil:=(aa.mp hb').1;have bk:=bo b (aj hb');left;intro q hq;have sq:=zg (o:=.lst [V.non]) hq;refine ra (sq _ _ (s2 _ _ g0)) T.iQ T.iM f1 ?_;have b1:=bk.1;have b2:=bk.2.1;refine iE3 q _ _ (iA7 rfl rfl nE (by lia) (by lia) (Q2 (by simp;lia)) (λ q2 hq2=>?_));rw [zhp];have s3:=sq.trans (zg (o:=.lst (List.replicate b.1.toNat V.non)) hq2);have h3:upd (upd H2 q (.lst [V.non])) q2 (.lst (List.replicate b.1.toNat V.non)) q2=some (.lst (List.replicate b.1.toNat V.non)):=nE;have n2:H2 q2=none:=zr sq hq2;generalize upd (upd H2 q (.lst [V.non])) q2 (.lst (List.replicate b.1.toNat V.non))=H3 at s3 h3 ⊢;have f5:Fr [nj] H3 (upd H3 nj (.lst (us ++ [.ref q2]))):=jD (by simp);have nq:=zeK ha n2;refine ⟨_,iA3 (s3 _ _ ha) (zk (by rw [ru.len,ai,aP];lia)) (iE2 _ (us ++ [.ref q2]) (iA4 rfl (((s2.trans s3).fr.trans f5).same (by intro m hm;rw [ap.mp hm];exact hacc)) nE ?_))⟩;rw [aG,hb',aZ];refine ((ru.same s3).fr f5).append (.one ?_);refine Reps.mk' ⟨by simp,λ j u d a1 a2=>?_⟩ nq (f5 _ _ nq h3);have a1:=aj a1;have a2:=aj a2;rw [(bU.mp a1).2,(bU.mp a2).2];exact .non
 intro σ H2 nh;refine oE2 nh λ v0 us m8=>oA4 m8 λ n6 s2 ha ru=>?_;ext;rw [hB.len,aH] at ru;left;intro q hq;have sq:=zg (o:=.lst [V.int 0]) hq;exists ra (sq _ _ (s2 _ _ hy)) T.ik T.ii e2 ⟨_,.inl ⟨_,SqL.of (sq _ _ (s2 _ _ h2)),rfl⟩,?_⟩;rw [hK.len];refine iE3 q _ _ (iA7 rfl rfl nE (by lia) (by lia) (Q2 (by simp;lia)) (λ ls hls=>?_));rw [zhp,aE,zfb];have s3:Same H (upd (upd H2 q (.lst [V.int 0])) ls (.lst (iv (List.replicate rs.length 0)))):=(s2.trans sq).trans (zg hls);have ha3:=nI (o:=.lst (iv (List.replicate rs.length 0))) (sq _ _ ha) hls;have ru3:=(ru.same sq).same (zg (o:=.lst (iv (List.replicate rs.length 0))) hls);have h3:upd (upd H2 q (.lst [V.int 0])) ls (.lst (iv (List.replicate rs.length 0))) ls=some (.lst (iv (List.replicate rs.length 0))):=nE;generalize upd (upd H2 q (.lst [V.int 0])) ls (.lst (iv (List.replicate rs.length 0)))=H3 at s3 ha3 ru3 h3 ⊢;exists iE4 a.p _ _ _ ⟨(W0 T).mono,?_⟩;walk_at "d";exists ra (s3 _ _ hy) T.ik T.ii e2 ⟨l2,rfl,.inl ⟨⟨_,SqL.of (s3 _ _ h2)⟩,λ _ _ _ _ ac2 hac2=>?_⟩⟩;let nA:Nat->St->Hp->Prop:=λ i σ H'=>∃ (v0:Aq) (us:Ap),σ=[v0]/\Same H3 H'/\H' ac2=some (.lst us)/\Reps H' (Off [ac2]) us ((rs.take i).map λ r=>D.ints (qE r));refine ql (K:=K) (a:=l2) (xs:=n9) nA (iE2 _ ([]) (iA4 rfl (zg hac2) nE (by rw [b9];exact .nil))) (λ i σ H' _ h=>by obtain ⟨_,_,_,s,_⟩:=h;exact SqL.of (s _ _ (s3 _ _ h2))) ?_ ?_
 ·intro i x σ H4 hi nh;refine oE2 nh λ v0 us m8=>oA4 m8 λ n6 s4 ha4 ru4=>?_;ext;obtain ⟨r,hr',hKn⟩:=hK.at hi;have hil:=(aa.mp hr').1;have rl:=wb (ro r (aj hr'));exists uc (zaC T).mono (iE3 x r p (iA5 rfl (hKn.keep (λ b o pb hb=>⟨pb,s4 _ _ (s3 _ _ hb)⟩)) (by lia) (by lia) (λ q2 H5 s5 n2 h5=>?_)));have f5:Fr [ac2] H5 (upd H5 ac2 (.lst (us ++ [.ref q2]))):=jD (by simp);have nq:=zeK ha4 n2;refine ⟨_,iA3 (s5 _ _ ha4) (zk (by rw [ru4.len,ai,aP];lia)) (iE2 _ (us ++ [.ref q2]) (iA4 rfl (((s4.trans s5).fr.trans f5).same (by intro m hm;rw [ap.mp hm];exact hac2)) nE ?_))⟩;rw [aG,hr',aZ];exact ((ru4.same s5).fr f5).append (.one (qw nq (f5 _ _ nq h5)))
 intro σ H4 nh;refine oE2 nh λ v0' us4 m8=>oA4 m8 λ n6 s4 ha4 ru4=>?_;ext;rw [hK.len,aH] at ru4;have s34:=s3.trans s4;refine JW T (st:=qq bs rs) (p:=Off []) ?_ ?_ ?_ (by simp [qq];lia) (by simp [qq];lia) (λ v' H5 s5 so=>k _ _ (s34.trans s5) ?_)
 ·have:=(ru3.same s4).all;rw [show (bs.map λ b=>D.lst (List.replicate b.1.toNat .non))=(zI (qq bs rs).cells).map D.lst by simp [qq,zI,zZ,fu]] at this;exact this.mk' (λ z=>nomatch z) (s4 _ _ ha3)
 ·exact qw (λ z=>nomatch z) (s4 _ _ h3)
 ·have:=ru4.all;rw [show (rs.map λ r=>D.ints (qE r))=(z9 (qq bs rs).gone).map D.lst by simp [qq,z9,fu]] at this;exact this.mk' (λ z=>nomatch z) ha4
 ·refine oE2 so λ y5 n5 m8=>oA5 m8 λ e5 o5 f1 f2 f3=>?_;clear m8 so;exact iE2 y5 n5 (iA5 e5 o5 (zr s34 f1) (zr s34 f2) (λ b hb=>zr s34 (f3 b hb)))
def zax {r:Row} (h:r.ok) (hw:r.wd=.joiner):qE r=List.replicate r.ins.length 0:=by
 obtain ⟨wd,ins,outs,pc,ks⟩:=r;simp only at hw;subst hw;obtain ⟨⟨o,h1⟩,h2,_⟩:=h;simp only at h1 h2;subst h1;unfold qE;rw [Nat.max_eq_left (by simp;lia)]
def zbK {r:Row} (h:r.ok) (hw:r.wd≠.joiner):qE r=List.replicate (max 1 r.outs.length) 0:=by
 obtain ⟨wd,ins,outs,pc,ks⟩:=r;unfold qE;cases wd
 ·obtain ⟨h1,⟨o,h2⟩,_⟩:=h;simp only at h1 h2;subst h1 h2;rfl
 ·obtain ⟨⟨o,h1⟩,h2,_⟩:=h;simp only at h1 h2;subst h1 h2;rfl
 ·obtain ⟨⟨o,h1⟩,h2,_⟩:=h;simp only at h1 h2;subst h1;rfl
 ·exact absurd rfl hw
def xA {r:Row} (h:r.ok):1<=(qE r).length/\(qE r).length<=4:=by
 have:=wb h;by_cases hw:r.wd=.joiner
 ·rw [zax h hw,a8];obtain ⟨wd,ins,outs,pc,ks⟩:=r;simp only at hw;subst hw;have:=h.2.1;simp only at this;constructor
  ·show 1<=ins.length;lia
  ·exact h.2.2
 ·rw [zbK h hw,a8]
  lia
def wV (rs:At) (x:zq):Prop:=∀ s n,x=some (s,n)->∃ (j:Nat) (r:Row),s=j/\rs[j]?=some r/\r.wd=.source/\0<=n
def zbE (rs:At) (gss:List A6):Prop:=gss.length=rs.length/\∀ (i:Nat) r g,rs[i]?=some r->gss[i]?=some g->g.length=(qE r).length/\∀ n∈g,0<=n
def xh (bs:A1) (rs:At) (css:Au):Prop:=css.length=bs.length/\∀ (i:Nat) b c,bs[i]?=some b->css[i]?=some c->c.length=b.1.toNat/\∀ x∈c,wV rs x
def zfg {rs:At} {gss:List A6} (h:zbE rs gss) {g g':A6} (e:gss[j]?=some g) (l:g'.length=g.length) (n:∀ x∈g',0<=x):zbE rs (gss.set j g'):=by
 refine ⟨by rw [bX];exact h.1,λ i r x h1 h2=>?_⟩;by_cases hj:i=j
 ·subst hj;rw [a9 (aa.mp e).1] at h2;cases h2;exact ⟨by rw [l];exact (h.2 i r g h1 e).1,n⟩
 ·rw [bT (ba hj)] at h2;exact h.2 i r x h1 h2
def wq (r:Row) (s:Int):Prop:=0<=s/\(r.wd=.parter->s < r.outs.length)/\(r.wd=.joiner->s < r.ins.length)/\(r.wd≠.parter->r.wd≠.joiner->s=0)
def Ws (rs:At) (sds:A6):Prop:=sds.length=rs.length/\∀ (i:Nat) r s,rs[i]?=some r->sds[i]?=some s->wq r s
noncomputable def zJ (cs:Au) (b:Int):List zq:=cs.getD b.toNat []
noncomputable def wL (c:Av):zq:=c.getLastD none
noncomputable def zgJ (c:Av):zq:=c.headD none
noncomputable def jg (rs:At):zq->Option Int:=Option.map λ x=>jJ ((rs[x.1.toNat]?.map Row.kinds).getD []) x.2
noncomputable def z8 (rs:At) (cs:Au) (r:Row):List A9:=r.ins.map λ b=>jg rs (wL (zJ cs b))
noncomputable def qN (cs:Au) (r:Row):List Bool:=r.outs.map λ b=>decide (zgJ (zJ cs b)=none)
def zce {α:Type} {xs:List α} {d:α} (h:xs≠[]):atI xs (-1)=some (xs.getLastD d):=by
 have hl:0 < xs.length:=eQ.mpr h;unfold atI ixN;rw [aq (by decide),ax (by lia)];have e:((-1:Int) + xs.length).toNat=xs.length - 1:=by lia
 simp only [Option.bind_some,e];rw [ae (by lia),bN,fS,ae (by lia)]
 rfl
def zac {c:Av}:(c.map zZ).getLastD .non=zZ (wL c):=by
 unfold wL;rw [bN,bN,List.getLast?_map];cases c.getLast? <;> rfl
structure stWf (bs:A1) (rs:At) (st:PSt):Prop where
 co:xh bs rs st.cells
 so:Ws rs st.sides
 go:zbE rs st.gone
def wO {rs:At} {cs:Au} (h:xh bs rs cs) (bo:∀ b∈bs,zA b.1 b.2) {b:Int} (hb:b∈rgI bs.length):∃ (i:Nat),b=i/\i < cs.length/\cs[i]?=some (zJ cs b)/\zJ cs b≠[]/\∀ x∈zJ cs b,wV rs x:=by
 obtain ⟨h0,h1⟩:=zgo hb;obtain ⟨i,rfl⟩:∃ i:Nat,b=i:=⟨b.toNat,by lia⟩;have hi:i < cs.length:=by rw [h.1];lia
 have e:cs[i]?=some (zJ cs i):=by
  unfold zJ;rw [aE,ae hi];simp [hi]
 have hib:i < bs.length:=by lia
 obtain ⟨q1,q2⟩:=h.2 i bs[i] _ (ae hib) e;refine ⟨i,iA5 rfl hi e ?_ q2⟩;intro z;rw [z] at q1;have:=(bo _ (dE hib)).1;simp at q1
 lia
def Jb {rs:At} {r:Row} {b:Int} (w:zQ bs rs) (h:rs[k]?=some r) (hb:b∈r.ins):b∈rgI bs.length :=
 w.2.2.mem_iff.mp (d5.mpr ⟨r,aj h,hb⟩)
def JM {rs:At} {r:Row} {b:Int} (w:zQ bs rs) (h:rs[k]?=some r) (hb:b∈r.outs):b∈rgI bs.length :=
 w.2.1.mem_iff.mp (d5.mpr ⟨r,aj h,hb⟩)
def zcs {c:Av} (h:c≠[]):wL c∈c:=by
 unfold wL;rw [bN,List.getLast?_eq_some_getLast h];exact List.getLast_mem h
def zcP {st:PSt} (h:Rep H p v (J9 a st)):∃ y dx fs lc ls lg ucs ugs,v=.ref y/\H y=some (.ins a.p dx fs)/\fs.lookup ("turn":Str)=some (.int st.turn)/\fs.lookup ("cells":Str)=some (.ref lc)/\fs.lookup ("sides":Str)=some (.ref ls)/\fs.lookup ("gone":Str)=some (.ref lg) /\
  H lc=some (.lst ucs)/\Reps H p ucs ((zI st.cells).map D.lst)/\H ls=some (.lst (iv st.sides))/\H lg=some (.lst ugs)/\Reps H p ugs ((z9 st.gone).map D.lst):=by
 refine oE3 (Rep.ob' h) λ y dx fs m8=>oA5 m8 λ n6 py hy g1 g2=>?_;clear m8;subst n6;obtain ⟨u1,e1,r1⟩:=g1 _ _ (Vw st);obtain ⟨u2,e2,r2⟩:=g1 _ _ (XJ st);obtain ⟨u3,e3,r3⟩:=g1 _ _ (XH st);obtain ⟨u4,e4,r4⟩:=g1 _ _ (Vx st);cases r1;refine oE2 r2.lst' λ lc ucs m8=>oA4 m8 λ n6 _ hc rc=>?_;clear m8;subst n6;refine oE1 r3.ints' λ ls m8=>oA3 m8 λ n6 _ hs=>?_;clear m8;subst n6;refine oE2 r4.lst' λ lg ugs m8=>oA4 m8 λ n6 _ hg rg=>?_;clear m8;subst n6;exact iE8 y dx fs lc ls lg ucs ugs (iA9 rfl hy e1 e2 e3 e4 hc rc (iA3 hs hg rg))
def zfe {us:Ap} {dss:List (List D)} (h:Reps H p us (dss.map D.lst)) {ds:List D} (e:dss[i]?=some ds):∃ l vs,us[i]?=some (.ref l)/\H l=some (.lst vs)/\Reps H p vs ds:=by
 obtain ⟨v,h1,h2⟩:=h.of (i:=i) (d:=.lst ds) (by rw [am,e];rfl);refine oE2 h2.lst' λ l vs m8=>oA4 m8 λ n6 _ h3 h4=>?_;clear m8;subst n6;exact iE2 l vs (iA3 h1 h3 h4)
inductive spHeads (a:Ad) (vs:Ap) (H:Hp) (Q:VK) (E:XK):Prop
 | i (vw vs' vk:V) (bs:A1) (rs:At) (st:PSt) (k:Nat) (r:Row) (p q:A5):vs=[vw,vs',vk]->Rep H p vw (qA a bs rs)->Rep H q vs' (J9 a st)->KnP a H p vk r->rs[k]?=some r->zQ bs rs->(∀ b∈bs,zA b.1 b.2)->(∀ r∈rs,r.ok)->xh bs rs st.cells->(∀ l H',Same H H'->H l=none->H' l=some (.lst ((z8 rs st.cells r).map hdV))->Q (.ref l) H')->spHeads a vs H Q E
theorem zbR (T:Txt K mg a):Cal P w K mg base "heads_of" 2 ["work","state","knot"] [] (spHeads a):=T.l7.cal λ F=>by
 refine F.okx VL ?_ ?_
 ·walk_at "i"
 walk_at "j";rcases h with ⟨vw,vs',vk,bs,rs,st,kn,r,p,q,rfl,hw,hs,hk,hr',nk,bo,ro,co,k⟩;refine oE8 (zcP hs) λ y dx fs lc ls lg ucs ugs m8=>oA9 m8 λ n6 hy e1 e2 e3 e4 hc rc nu=>oA3 nu λ hsd hg rg=>?_;clear m8 nu;subst n6;refine oE6 hk.inv λ y1 dx1 m1 m2 m3 fs1 m8=>oA9 m8 λ n6 _ _ _ _ g0 f1 f2 nu=>oA5 nu λ _ g1 g2 _ _=>?_;clear m8 nu;subst n6;have rl:=wb (ro r (aj hr'));walk_at "T";refine ⟨_,(zo (JC (i:=3) VL.nd rfl (Or.inl rfl) (vars:=["belt"]) (caps:=[1]) (N:=["belt","state"]) (ON:=["work","state","knot","ends"]) (osc:=zc xo) rfl rfl (by right) rfl rfl (zV (zi (pq 2) rfl)) (λ _ _ _ _=>(qf 0 (show (["belt","state"]:A8).Nodup from by symm))) (λ _ _ _ _=>zX) (λ _ _ _ _=>(zm (zm (zi (pq 1) rfl) (pq 0)) (JI vY zh))))  (zd (zl (jr (vars:=["ware"]) (caps:=[0]) (N:=["ware","work"]) (ON:=["work","state","knot","ends"]) (osc:=zc xo) rfl rfl (by right) rfl rfl (zV (pq 3)) (λ _ _ _ _=>(qf 0 (show (["ware","work"]:A8).Nodup from by symm))) (λ _ _ _ _=>zX) (λ _ _ _ _=>(we (zz jI (pq 0) zM (zC _)) zM (Zi hr (za (pq 1) (za (pq 0) zb))))))))),?_⟩;left;walk_at "d";exists ra g0 (CT T _) (NI T _) f1 ⟨m1,rfl,.inl ⟨⟨_,SqL.of g1⟩,λ _ _ _ _ nj hacc=>?_⟩⟩;let nz:Nat->St->Hp->Prop:=λ i σ H'=>∃ (v0:Aq) (us:Ap),σ=[v0,some (.ref y)]/\Same H H'/\H' nj=some (.lst us)/\Reps H q us ((r.ins.take i).map λ b=>zZ (wL (zJ st.cells b)));refine ql (K:=K) (a:=m1) (xs:=iv r.ins) nz (iE2 _ ([]) (iA4 rfl (zg hacc) nE (by rw [b9];exact .nil))) (λ i σ H' _ h=>by obtain ⟨_,_,_,s,_⟩:=h;exact SqL.of (s _ _ g1)) ?_ ?_
 ·intro i x σ H2 hi nh;refine oE2 nh λ v0 us m8=>oA4 m8 λ n6 s2 ha ru=>?_;ext;obtain ⟨b,hb,rfl⟩:=wS hi;have hil:=(aa.mp hb).1;refine oE1 (wO co bo (Jb nk hr' (aj hb))) λ j m8=>oA5 m8 λ n6 hj ej nej _=>?_;clear m8;subst n6;obtain ⟨li,vi,hu,hli,ri⟩:=zfe rc (i:=j) (ds:=(zJ st.cells j).map zZ) (by rw [zI,am,ej];rfl);obtain ⟨ve,he,re⟩:=zhb ri (zce (d:=.non) (by simpa using nej));rw [zac] at re;exists ra (s2 _ _ hy) T.ad T.ic e2 (zp (SqL.of (s2 _ _ hc)) (zw hu) ?_);exists zp (SqL.of (s2 _ _ hli)) he ?_;refine ⟨_,iA3 ha (zk (by rw [ru.len,ai,aP];lia)) (iE2 _ (us ++ [ve]) (iA4 rfl (λ b o hb=>by rw [nF (nH hb hacc)];exact s2 b o hb) nE ?_))⟩;rw [aG,hb,aZ];exact ru.append (.one re)
 intro σ H2 nh;refine oE2 nh λ v0 us m8=>oA4 m8 λ n6 s2 ha ru=>?_;ext;rw [zH,aH] at ru;have lu:us.length=r.ins.length:=by rw [ru.len,ai]
 left;walk_at "d";exists ⟨nj,rfl,.inl ⟨⟨_,SqL.of ha⟩,λ _ _ _ _ ac2 hac2=>?_⟩⟩;let nA:Nat->St->Hp->Prop:=λ i σ H'=>∃ (v0:Aq),σ=[v0,some vw]/\Same H2 H'/\H' ac2=some (.lst ((((z8 rs st.cells r).take i).map hdV)));refine ql (K:=K) (a:=nj) (xs:=us) nA ⟨_,iA3 rfl (zg hac2) (by rw [b9];exact nE)⟩ (λ i σ H' _ h=>by obtain ⟨_,_,s,_⟩:=h;exact SqL.of (s _ _ ha)) ?_ ?_
 ·intro i x σ H3 hi nh;refine oE1 nh λ v0 m8=>oA3 m8 λ n6 s3 ha3=>?_;ext;obtain ⟨d,hd,rx⟩:=ru.at hi;rw [am,ar] at hd;obtain ⟨b,hb,rfl⟩:=hd;have hil:=(aa.mp hb).1;refine oE1 (wO co bo (Jb nk hr' (aj hb))) λ j m8=>oA5 m8 λ n6 hj ej nej wk=>?_;clear m8;subst n6;have hwk:=wk _ (zcs nej);have hh:(z8 rs st.cells r)[i]?=some (jg rs (wL (zJ st.cells j))):=by rw [z8,am,hb];rfl
  have s23:=s2.trans s3;have fin:∀ u:V,u=hdV (jg rs (wL (zJ st.cells j)))->∃ ys,H3 ac2=some (.lst ys)/\ys.length < sizeLine/\∃ (v0:Aq),([some x,some vw]:St)=[v0,some vw]/\Same H2 (upd H3 ac2 (.lst (ys ++ [u])))/\upd H3 ac2 (.lst (ys ++ [u])) ac2=some (.lst ((((z8 rs st.cells r).take (i + 1)).map hdV))):=by
   rintro u rfl;refine ⟨_,iA3 ha3 (zk (by rw [ai,aP];lia)) ⟨_,iA3 rfl (λ b o hb=>by rw [nF (nH hb hac2)];exact s3 b o hb) ?_⟩⟩;rw [nE,aG,hh,aZ]
   rfl
  left;cases hE:wL (zJ st.cells j) with
  | none =>
   rw [hE] at rx fin;cases rx;rw [ax rfl];exact fin _ rfl
  | some wr =>
   obtain ⟨sr,nr⟩:=wr;rw [hE] at rx fin hwk;refine oE2 (hwk _ _ rfl) λ j0 r0 m8=>oA4 m8 λ n6 hr0 hw0 _=>?_;clear m8;subst n6;have ok0:=ro r0 (aj hr0);have kp:0 < r0.kinds.length:=by
    obtain ⟨wd,ins,outs,pc,ks⟩:=r0;simp only at hw0;subst hw0;exact ok0.2.2.2.2.1
   obtain ⟨tw,rfl,htw⟩:=Vp rx;rw [aq (by intro z;cases z)];refine uc (X8 T).mono (iE5 vw _ bs rs p (iE4 q j0 nr r0 (iA7 rfl (je hw s23) (je rx s23) hr0 hw0 kp ?_)));exact fin _ (by simp [jg,hr0,hdV])
 ·intro σ H3 nh;refine oE1 nh λ v0 m8=>oA3 m8 λ n6 s3 ha3=>?_;ext;rw [lu,dc (by simp [z8])] at ha3;left;exact k _ _ (s2.trans s3) (zr s2 hac2) ha3
def zef (K:A0):Sp:=λ vs H Q _=>∃ (l:Addr) (ns:A6) (o:Option Nat),vs=[.ref l,ZH o]/\H l=some (.lst (iv ns))/\(∀ j,o=some j->j < ns.length)/\Q (hdV (o.bind λ j=>ns[j]?)) H
theorem X9 (T:Txt K mg a):Cal P w K mg base "belt_at" 1 ["belts","place"] [] (zef K):=T.mj.cal λ F=>by
 refine F.okx za6 ?_ ?_
 ·walk_at "i"
 walk_at "j";refine oE3 h λ l ns o m8=>oA4 m8 λ n6 hl ho k=>?_;clear m8 h;subst n6;walk_at "T";refine ⟨_,(zd (zl (we (zz jI (pq 1) zM (zC _)) zM (zm (pq 0) (pq 1))))),?_⟩;left;cases o with
 | none=>exact zU (λ _=>k) (λ b=>absurd rfl b)
 | some j =>
  have hj:=ho j rfl;refine zU (λ b=>by cases b) (λ _=>?_);refine zp (SqL.of hl) (zw (j9 (ae hj))) ?_;have e:hdV ((some j).bind λ j=>ns[j]?)=.int ns[j]:=by simp [hj,hdV]
  rw [e] at k;exact k
def zji (T:Txt K mg a) (wd:Wd):kitOne K (.ref (wM a wd)) (.ref a.n)=some (decide (wd=.joiner)):=by
 cases wd
 ·exact T.kb
 ·exact T.kC
 ·exact T.ke
 ·exact T.kg
noncomputable def xa (r:Row) (ch:Ak):Nat:=if r.wd=.joiner then ch.1.getD 0 else ch.2.1.getD 0
inductive spCounted (a:Ad) (vs:Ap) (H:Hp) (Q:VK) (E:XK):Prop
 | i (vk:V) (t:Addr) (r:Row) (ch:Ak) (p:A5):vs=[vk,.ref t]->KnP a H p vk r->H t=some (.tup (chV ch))->(r.wd=.joiner->∃ j,ch.1=some j)->Q (.int (xa r ch)) H->spCounted a vs H Q E
theorem QZ (T:Txt K mg a):Cal P w K mg base "counted_place" 1 ["knot","chosen"] [] (spCounted a):=T.kh.cal λ F=>by
 refine F.okx Z8 ?_ ?_
 ·walk_at "i"
 walk_at "j";rcases h with ⟨vk,t,r,ch,p,rfl,hk,ht,hj,k⟩;refine oE6 hk.inv λ y1 dx1 m1 m2 m3 fs1 m8=>oA9 m8 λ n6 _ _ _ _ g0 f1 f2 nu=>oA5 nu λ _ g1 g2 _ _=>?_;clear m8 nu;subst n6;walk_at "T";refine ⟨_,(ze (zT (jT (qd zbT xY (za (pq 0) (za xJ zb))) (λ _=>rfl))  (zd (zl (zm (pq 1) zh)))  zu)  (zd (zl (we (zz jI (zm (pq 1) zh) zM (zC _)) zh (zm (pq 1) zh))))),?_⟩;exists iE2 (.ref a.n) _ (iA3 T.lZ rfl (iE4 _ _ _ _ (iA4 rfl ((WT T r.wd).ty (CT T r.wd) g0) (.inl ⟨_,rfl,zji T r.wd⟩) ?_)));left;unfold xa at k;refine zU (λ b=>?_) (λ b=>?_)
 ·rw [ax b] at k;obtain ⟨j,ej⟩:=hj b;exists nJ ht at0 ?_;rw [ej] at k ⊢;exact k
 ·rw [aq b] at k;exists nJ ht (show atI (chV ch) 1=some (ZH ch.2.1) from rfl) ?_;left;cases e:ch.2.1 with
  | none =>
   rw [e] at k;exact zU (λ _=>k) (λ b=>absurd rfl b)
  | some j =>
   rw [e] at k;refine zU (λ b=>by cases b) (λ _=>?_);refine nJ ht (show atI (chV ch) 1=some (ZH ch.2.1) from rfl) ?_;rw [e];exact k
section
variable {H:Hp} {y:Addr} {n:SN} {st:PSt}
def StO.nds (h:StO a H y n st):n.ls ∉ n.lc :: n.lg :: (n.acs ++ n.ags)/\n.lc ∉ n.lg :: (n.acs ++ n.ags)/\n.lg ∉ n.acs ++ n.ags/\∀ x∈n.acs,x ∉ n.ags:=by
 have nd:=h.nd;unfold SN.all at nd;rw [cR,cR,cR,nodup_append] at nd;exact iA4 nd.1 nd.2.1 nd.2.2.1 (λ x hx hy=>nd.2.2.2.2.2 x hx x hy rfl)
def Q1 {x:Addr} {us vs:Ap} (hx:H x=some (.lst us)) (h:zG H b):zG (upd H x (.lst vs)) b:=by
 obtain ⟨xs,hb⟩:=h;exact ⟨xs,by rw [nF (λ z=>by rw [z,hx] at hb;cases hb)];exact hb⟩
def StO.putC {c':Av} (h:StO a H y n st) (e:n.acs[i]?=some b) (r:Reps H (zG H) vs (c'.map zZ)):StO a (upd H b (.lst vs)) y n { st with cells:=st.cells.set i c' }:=by
 have hb:=aj e;obtain ⟨us,hu⟩:=h.hc.isl (aA _ hb);refine oA4 h.nds λ n1 n2 n3 n4=>?_;have k:∀ c o,c≠b->H c=some o->upd H b (.lst vs) c=some o:=λ c o nc hc=>by rw [nF nc];exact hc
 have ntb:¬ zG H b:=λ ⟨xs,hx⟩=>by rw [hu] at hx;cases hx
 refine ⟨k _ _ (λ z=>by rw [<- z,h.hy] at hu;cases hu) h.hy,?_,k _ _ (λ z=>n1 (by rw [z];simp [hb])) h.hs,h.hg.tup λ c o hz hc=>k c o (λ z=>?_) hc,h.nd⟩
 ·have:=h.hc.put (vs:=vs) (ys:=c'.map zZ) e ntb r;rw [show zI (st.cells.set i c')=(zI st.cells).set i (c'.map zZ) by simp [zI,eM]];exact this.keep (λ _ _ _ hc=>hc) λ c hc _=>Q1 hu hc
 ·subst z;rcases hz with rfl|hz|hz
  ·exact n3 (bS _ hb)
  ·exact n4 c hb hz
  ·exact ntb hz
def StO.putG {g':A6} (h:StO a H y n st) (e:n.ags[i]?=some b):StO a (upd H b (.lst (iv g'))) y n { st with gone:=st.gone.set i g' }:=by
 have hb:=aj e;obtain ⟨us,hu⟩:=h.hg.isl (aA _ hb);refine oA4 h.nds λ n1 n2 n3 n4=>?_;have k:∀ c o,c≠b->H c=some o->upd H b (.lst (iv g')) c=some o:=λ c o nc hc=>by rw [nF nc];exact hc
 have ntb:¬ zG H b:=λ ⟨xs,hx⟩=>by rw [hu] at hx;cases hx
 refine ⟨k _ _ (λ z=>by rw [<- z,h.hy] at hu;cases hu) h.hy,h.hc.tup λ c o hz hc=>k c o (λ z=>?_) hc,k _ _ (λ z=>n1 (by rw [z];simp [hb])) h.hs,?_,h.nd⟩
 ·subst z;rcases hz with rfl|hz|hz
  ·exact n2 (aA _ (a7 _ hb))
  ·exact n4 c hz hb
  ·exact ntb hz
 ·have:=h.hg.put (vs:=iv g') (ys:=g'.map D.int) e ntb reps_ints;rw [show z9 (st.gone.set i g')=(z9 st.gone).set i (g'.map D.int) by simp [z9,eM]];exact this.keep (λ _ _ _ hc=>hc) λ c hc _=>Q1 hu hc
def StO.putS {s':A6} (h:StO a H y n st):StO a (upd H n.ls (.lst (iv s'))) y n { st with sides:=s' }:=by
 refine oA4 h.nds λ n1 n2 n3 n4=>?_;have k:∀ c o,c≠n.ls->H c=some o->upd H n.ls (.lst (iv s')) c=some o:=λ c o nc hc=>by rw [nF nc];exact hc
 have kt:∀ c,zG H c->c≠n.ls:=λ c ⟨xs,hx⟩ z=>by rw [z,h.hs] at hx;cases hx
 refine ⟨k _ _ (λ z=>by have:=h.hy;rw [z,h.hs] at this;cases this) h.hy,h.hc.tup λ c o hz hc=>k c o (λ z=>?_) hc,nE,h.hg.tup λ c o hz hc=>k c o (λ z=>?_) hc,h.nd⟩
 ·rcases hz with rfl|hz|hz
  ·exact n1 (by rw [<- z];simp)
  ·exact n1 (by rw [<- z];simp [hz])
  ·exact kt c hz z
 ·rcases hz with rfl|hz|hz
  ·exact n1 (by rw [<- z];simp)
  ·exact n1 (by rw [<- z];simp [hz])
  ·exact kt c hz z
def StO.cell {c:Av} (h:StO a H y n st) (e:st.cells[i]?=some c):∃ b vs,n.acs[i]?=some b/\H b=some (.lst vs)/\Reps H (zG H) vs (c.map zZ):=h.hc.at (by rw [zI,am,e];rfl)
def StO.goneL {g:A6} (h:StO a H y n st) (e:st.gone[i]?=some g):∃ b,n.ags[i]?=some b/\H b=some (.lst (iv g)):=by
 obtain ⟨b,vs,h1,h2,h3⟩:=h.hg.at (i:=i) (xs:=g.map D.int) (by rw [z9,am,e];rfl);rw [Ja h3] at h2;exact ⟨b,h1,h2⟩
def sff_l {t:Int} {lc ls lg:Addr}:(sff t lc ls lg).lookup ("cells":Str)=some (.ref lc)/\(sff t lc ls lg).lookup ("sides":Str)=some (.ref ls)/\(sff t lc ls lg).lookup ("gone":Str)=some (.ref lg)/\(sff t lc ls lg).lookup ("turn":Str)=some (.int t):=by
 unfold sff;refine iA4 ((zS (by symm)).trans jc) ((zS (by symm)).trans ((zS (by symm)).trans jc)) ((zS (by symm)).trans ((zS (by symm)).trans ((zS (by symm)).trans jc))) jc
def Z4 (e:n.acs[i]?=some b):(n.acs.map V.ref)[i]?=some (.ref b):=by rw [am,e];rfl
def Je (e:n.ags[i]?=some b):(n.ags.map V.ref)[i]?=some (.ref b):=by rw [am,e];rfl
def Vj (e:n.acs[i]?=some b):b∈y :: n.all:=by simp [SN.all,aj e]
def zgN (e:n.ags[i]?=some b):b∈y :: n.all:=by simp [SN.all,aj e]
end
noncomputable def xl (c:Av):List zq:=c.set (c.length - 1) none
noncomputable def zR (st:PSt) (k:Nat):Option Int->zq × PSt
 | none=>(some ((k:Int),(st.gone.getD k []).headD 0),st)
 | some b=>(wL (zJ st.cells b),{ st with cells:=st.cells.set b.toNat (xl (zJ st.cells b)) })
def Reps.set {ds:List D} {d:D} (h:Reps H p vs ds) (i:Nat) (r:Rep H p v d):Reps H p (vs.set i v) (ds.set i d):=by
 refine ⟨by rw [bX,bX,h.len],λ j u e h1 h2=>?_⟩;by_cases hj:j=i
 ·subst hj;have hl:j < vs.length:=by have:=(aa.mp h1).1;rw [bX] at this;exact this
  rw [a9 hl] at h1;rw [a9 (by rw [<- h.len];exact hl)] at h2;cases h1;cases h2;exact r
 ·rw [bT (ba hj)] at h1 h2;exact h.g j u e h1 h2
inductive spTaken (a:Ad) (vs:Ap) (H:Hp) (Q:VK) (E:XK):Prop
 | i (y:Addr) (n:SN) (st:PSt) (k:Nat) (fb:A9) (g0:Int) (gs:A6):vs=[.ref y,.int k,hdV fb]->StO a H y n st->st.gone[k]?=some (g0 :: gs)->(∀ b,fb=some b->∃ i:Nat,b=i/\st.cells[i]?=some (zJ st.cells b)/\zJ st.cells b≠[])->(∀ v H',Fr (y :: n.all) H H'->StO a H' y n (zR st k fb).2->Rep H' (zG H') v (zZ (zR st k fb).1)->Q v H')->spTaken a vs H Q E
theorem Vd (T:Txt K mg a):Cal P w K mg base "taken_ware" 1 ["state","number","from_belt"] [] (spTaken a):=T.lj.cal λ F=>by
 refine F.okx Xl ?_ ?_
 ·walk_at "i"
 walk_at "j";rcases h with ⟨y,n,st,kn,fb,g0,gs,rfl,so,hg,hf,k⟩;refine oA4 (sff_l (t:=st.turn) (lc:=n.lc) (ls:=n.ls) (lg:=n.lg)) λ lk1 lk2 lk3 lk4=>?_;walk_at "T";refine ⟨_,(ze (zT (zz jI (pq 2) zM (zC _))  (zd (zl (jm (za (pq 1) (za (zm (zm (zi (pq 0) rfl) (pq 1)) zh) zb)))))  zu)  (ze (zt 3 Xl.nd (zm (zm (zi (pq 0) rfl) (pq 2)) (JI vY zh)))  (ze (JD zM (JH (zm (zi (pq 0) rfl) (pq 2)) (JI vY zh) x6))  (zd (zl (pq 3)))))),?_⟩;left;cases fb with
 | none =>
  refine zU (λ _=>?_) (λ b=>absurd rfl b);obtain ⟨bG,hbG,hgG⟩:=so.goneL hg;exists ra so.hy T.ad T.ig lk3 (zp (SqL.of so.hg.out) (zw (Je hbG)) (zp (SqL.of hgG) at0 ?_));left;intro t ht;refine k _ _ (zbG ht) (so.same (zg ht)) ?_;have e:(st.gone.getD kn []).headD 0=g0:=by simp [List.getD,hg]
  show Rep _ _ _ (D.tup [.int kn,.int ((st.gone.getD kn []).headD 0)])
  rw [e];exact Reps.mkT (vs:=[.int kn,.int g0]) (.cons .int (.cons .int .nil)) ⟨_,nE⟩ nE
 | some b =>
  refine oE1 (hf b rfl) λ i m8=>oA3 m8 λ n6 hc nc=>?_;clear m8;subst n6;refine oE2 (so.cell hc) λ bC vs m8=>oA3 m8 λ hbC hvC rvC=>?_;clear m8;have lv:vs.length=(zJ st.cells i).length:=by rw [rvC.len,ai]
  have lp:0 < vs.length:=by rw [lv];exact eQ.mpr nc
  obtain ⟨ve,he,re⟩:=zhb rvC (zce (d:=.non) (by simpa using nc));rw [zac] at re;refine zU (λ b=>by cases b) (λ _=>?_);exists ra so.hy T.ad T.ic lk1 (zp (SqL.of so.hc.out) (zw (Z4 hbC)) ?_);exists zp (SqL.of hvC) he ?_;exists ra so.hy T.ad T.ic lk1 (zp (SqL.of so.hc.out) (zw (Z4 hbC)) ?_);exists vG (j:=vs.length - 1) hvC ?_ ?_
  ·unfold ixN;rw [aq (by decide),ax (by lia)]
   congr 1
   lia
  have e2:(xl (zJ st.cells i)).map zZ=((zJ st.cells i).map zZ).set (vs.length - 1) .non:=by
   unfold xl;rw [eM,lv]
   rfl
  have r2:Reps H (zG H) (vs.set (vs.length - 1) .non) ((xl (zJ st.cells i)).map zZ):=by rw [e2];exact Reps.set rvC _ .non
  refine k _ _ (jD (Vj hbC)) ?_ ?_
  ·have:=so.putC hbC r2;simpa [zR] using this
  ·refine Rep.keep (λ c o pc hc=>⟨Q1 hvC pc,?_⟩) re;obtain ⟨xs,hx⟩:=pc;rw [nF (λ z=>by rw [z,hvC] at hx;cases hx)];exact hc
structure Move where
 k:Nat
 ware:zq
 fr:Option Int
 to:Option Int
noncomputable def zh2:Option Int->D
 | none=>.non
 | some b=>.int b
def zb2 (o:A9):Rep H p (hdV o) (zh2 o):=by
 cases o
 ·exact .non
 ·exact .int
noncomputable def X6 (m:Move):D:=.tup [.int m.k,zZ m.ware,zh2 m.fr,zh2 m.to]
noncomputable def zh3:Option Move->D
 | none=>.non
 | some m=>X6 m
noncomputable def vh (st:PSt) (x:zq):Option Int->PSt
 | none=>st
 | some b=>{ st with cells:=st.cells.set b.toNat ((zJ st.cells b).set 0 x) }
noncomputable def Zq (g:A6) (j:Nat):List Int:=g.set j (g.getD j 0 + 1)
noncomputable def qz (r:Row) (ch:Ak):Option Int:=ch.1.bind λ j=>r.ins[j]?
noncomputable def vZ (r:Row) (ch:Ak):Option Int:=ch.2.1.bind λ j=>r.outs[j]?
noncomputable def movedF (r:Row) (st:PSt) (k:Nat) (ch:Ak):PSt:=vh (zR st k (qz r ch)).2 (zR st k (qz r ch)).1 (vZ r ch)
noncomputable def vA (r:Row) (st:PSt) (k:Nat) (ch:Ak):PSt × Move :=
 ({ movedF r st k ch with sides:=(movedF r st k ch).sides.set k ch.2.2,gone:=(movedF r st k ch).gone.set k (Zq ((movedF r st k ch).gone.getD k []) (xa r ch)) },⟨k,(zR st k (qz r ch)).1,qz r ch,vZ r ch⟩)
noncomputable def qt (rs:At) (st:PSt) (k:Nat):PSt × Option Move:=match rs[k]? with
 | none=>(st,none)
 | some r=>match z6 r (z8 rs st.cells r) (qN st.cells r) st.turn (st.sides.getD k 0).toNat with
  | none=>(st,none)
  | some ch=>((vA r st k ch).1,some (vA r st k ch).2)
def Qv {rs:At} {cs:Au} (h:xh bs rs cs) {c c':Av} (e:cs[i]?=some c) (l:c'.length=c.length) (k:∀ x∈c',wV rs x):xh bs rs (cs.set i c'):=by
 refine ⟨by rw [bX];exact h.1,λ j b d h1 h2=>?_⟩;by_cases hj:j=i
 ·subst hj;rw [a9 (aa.mp e).1] at h2;cases h2;exact ⟨by rw [l];exact (h.2 j b c h1 e).1,k⟩
 ·rw [bT (ba hj)] at h2;exact h.2 j b d h1 h2
def Z6 {rs:At}:wV rs none:=λ _ _ z=>nomatch z
def vo {α:Type} {xs:List α} {x y:α} (h:y∈xs.set i x):y∈xs\/y=x:=List.mem_or_eq_of_mem_set h
theorem wm {r:Row} {hs:List A9} {bs:Ai} {t:Int} {side:Nat} {ch:Ak} (ok:r.ok) (hl:hs.length=r.ins.length) (bl:bs.length=r.outs.length) (sd:wq r side) (h:z6 r hs bs t side=some ch) :
  (∀ j,ch.1=some j->j < r.ins.length)/\(∀ j,ch.2.1=some j->j < r.outs.length)/\(r.wd=.joiner->∃ j,ch.1=some j)/\(ch.1=none->r.wd=.source)/\wq r ch.2.2/\xa r ch < (qE r).length:=by
 obtain ⟨wd,ins,outs,pace,kinds⟩:=r;have cp:=xA ok;unfold z6 at h;cases wd with
 | source =>
  simp only at h;obtain ⟨h1,⟨o,h2⟩,_⟩:=ok;simp only at h1 h2;subst h1 h2
  split at h
  ·cases h;exact ⟨(λ j z=>nomatch z),λ j z=>by cases z;simp,(λ z=>nomatch z),λ _=>rfl,sd,by simp [xa];lia⟩
  ·cases h
 | drain =>
  simp only at h;obtain ⟨⟨o,h1⟩,h2,_⟩:=ok;simp only at h1 h2;subst h1 h2
  split at h
  ·cases h
  ·cases h;exact ⟨λ j z=>by cases z;simp,(λ j z=>nomatch z),(λ z=>nomatch z),(λ z=>nomatch z),sd,by simp [xa];lia⟩
 | parter =>
  simp only at h;obtain ⟨⟨o,h1⟩,h2,h3⟩:=ok;simp only at h1 h2 h3 bl;subst h1
  split at h
  ·cases h
  ·rw [ar] at h;obtain ⟨q,hq,rfl⟩:=h;have hlt:=vN hq;refine ⟨λ j z=>by cases z;simp,λ j z=>by cases z;show q < outs.length;lia,(λ z=>nomatch z),(λ z=>nomatch z),⟨bV _,λ _=>?_,(λ z=>nomatch z),λ z=>absurd rfl z⟩,?_⟩
   ·have:=cm (q + 1) (show 0 < bs.length by lia);show (((q + 1) % bs.length:Nat):Int) < outs.length
    lia
   ·simp only [xa,aJ];rw [aq (by decide)];show q < (List.replicate (max 1 outs.length) 0).length
    rw [a8]
    lia
 | joiner =>
  simp only at h;obtain ⟨⟨o,h1⟩,h2,h3⟩:=ok;simp only at h1 h2 h3 hl;subst h1
  split at h
  ·rw [ar] at h;obtain ⟨q,hq,rfl⟩:=h;have hlt:=vN hq;rw [ai] at hlt;refine ⟨λ j z=>by cases z;show q < ins.length;lia,λ j z=>by cases z;simp,λ _=>⟨q,rfl⟩,(λ z=>nomatch z),⟨bV _,(λ z=>nomatch z),λ _=>?_,λ _ z=>absurd rfl z⟩,?_⟩
   ·have:=cm (q + 1) (show 0 < hs.length by lia);show (((q + 1) % hs.length:Nat):Int) < ins.length
    lia
   ·simp only [xa,aJ];rw [ax trivial];show q < (List.replicate (max ins.length 1) 0).length
    rw [a8]
    lia
  ·cases h
theorem Vu {rs:At} {st:PSt} {r:Row} {fb:A9} (wf:stWf bs rs st) (nk:zQ bs rs) (bo:∀ b∈bs,zA b.1 b.2) (ro:∀ r∈rs,r.ok) (hr:rs[k]?=some r) (hf:∀ b,fb=some b->b∈rgI bs.length) (hn:fb=none->r.wd=.source) :
  stWf bs rs (zR st k fb).2/\wV rs (zR st k fb).1:=by
 cases fb with
 | none =>
  refine ⟨wf,λ s n z=>?_⟩;have z:((k:Int),(st.gone.getD k []).headD 0)=(s,n):=aO z;cases z;refine iE2 k r (iA4 rfl hr (hn rfl) ?_);have hk:=(aa.mp hr).1;have hg:st.gone[k]?=some (st.gone.getD k []):=by
   rw [ah,ae (by rw [wf.go.1];exact hk)]
   rfl
  obtain ⟨q1,q2⟩:=wf.go.2 k r _ hr hg;have cp:=xA (ro r (aj hr));cases e:st.gone.getD k [] with
  | nil=>rw [e] at q1;simp at q1;lia
  | cons x xs=>exact q2 x (by rw [e];simp)
 | some b =>
  refine oE1 (wO wf.co bo (hf b rfl)) λ i m8=>oA5 m8 λ n6 hi ei ne wk=>?_;clear m8;subst n6;refine ⟨⟨?_,wf.so,wf.go⟩,wk _ (zcs ne)⟩;show xh bs rs (st.cells.set _ _)
  rw [aE];refine Qv wf.co ei (by simp [xl]) λ x hx=>?_;rcases vo hx with h|h
  ·exact wk x h
  ·rw [h];exact Z6
def VZ {rs:At} {st:PSt} {x:zq} {tb:A9} (wf:stWf bs rs st) (bo:∀ b∈bs,zA b.1 b.2) (hf:∀ b,tb=some b->b∈rgI bs.length) (hx:wV rs x):stWf bs rs (vh st x tb):=by
 cases tb with
 | none=>exact wf
 | some b =>
  refine oE1 (wO wf.co bo (hf b rfl)) λ i m8=>oA5 m8 λ n6 hi ei ne wk=>?_;clear m8;subst n6;refine ⟨?_,wf.so,wf.go⟩;show xh bs rs (st.cells.set _ _)
  rw [aE];refine Qv wf.co ei (by simp) λ z hz=>?_;rcases vo hz with h|h
  ·exact wk z h
  ·rw [h];exact hx
def zeg {rs:At} {sds:A6} {r:Row} {s:Int} (h:Ws rs sds) (hr:rs[k]?=some r) (hs:wq r s):Ws rs (sds.set k s):=by
 refine ⟨by rw [bX];exact h.1,λ j r2 s2 h1 h2=>?_⟩;by_cases hj:j=k
 ·subst hj;rw [a9 (by rw [h.1];exact (aa.mp h1).1)] at h2;cases h2;rw [hr] at h1;cases h1;exact hs
 ·rw [bT (ba hj)] at h2;exact h.2 j r2 s2 h1 h2
def qh {α:Type} {xs:List α} {d:α} (h:k < xs.length):xs[k]?=some (xs.getD k d):=by
 rw [ah,ae h];rfl
def zcD {g:A6} (h:∀ x∈g,0<=x):(Zq g j).length=g.length/\∀ x∈Zq g j,0<=x:=by
 refine ⟨by simp [Zq],λ x hx=>?_⟩;rcases vo hx with z|z
 ·exact h x z
 ·rw [z];have:0<=g.getD j 0:=by
   rw [ah];cases e:g[j]? with
   | none=>simp
   | some v=>exact h v (aj e)
  lia
def zgR {rs:At} {st:PSt} (wf:stWf bs rs st) (nk:zQ bs rs) (bo:∀ b∈bs,zA b.1 b.2) (ro:∀ r∈rs,r.ok):stWf bs rs (qt rs st k).1:=by
 unfold qt;cases hr:rs[k]? with
 | none=>exact wf
 | some r =>
  simp only;have hk:=(aa.mp hr).1;have ok:=ro r (aj hr);have hsd:=wf.so.2 k r _ hr (qh (d:=0) (by rw [wf.so.1];exact hk));have hsd':wq r ((st.sides.getD k 0).toNat:Int):=by rw [cc hsd.1];exact hsd
  cases hc:z6 r (z8 rs st.cells r) (qN st.cells r) st.turn (st.sides.getD k 0).toNat with
  | none=>exact wf
  | some ch =>
   refine oA6 (wm ok (by simp [z8]) (by simp [qN]) hsd' hc) λ c1 c2 c3 c4 c5 c6=>?_;have hfb:∀ b,qz r ch=some b->b∈rgI bs.length:=λ b hb=>by
    unfold qz at hb;obtain ⟨j,hj1,hj2⟩:=cg.mp hb;exact Jb nk hr (aj hj2)
   have htb:∀ b,vZ r ch=some b->b∈rgI bs.length:=λ b hb=>by
    unfold vZ at hb;obtain ⟨j,hj1,hj2⟩:=cg.mp hb;exact JM nk hr (aj hj2)
   have hfn:qz r ch=none->r.wd=.source:=λ hb=>by
    cases e:ch.1 with
    | none=>exact c4 e
    | some j =>
     unfold qz at hb;rw [e] at hb;simp at hb;have:=c1 j e
     lia
   obtain ⟨w1,w2⟩:=Vu wf nk bo ro hr hfb hfn;have w3:=VZ w1 bo htb w2;refine ⟨w3.co,zeg w3.so hr c5,?_⟩;have hg:=qh (xs:=(movedF r st k ch).gone) (k:=k) (d:=[]) (by rw [show (movedF r st k ch).gone.length=rs.length from w3.go.1];exact hk);obtain ⟨q1,q2⟩:=w3.go.2 k r _ hr hg;exact zfg w3.go hg (zcD q2).1 (zcD q2).2
def KnP.no {y C dx:Addr} {r:Row} {f:Str} (h:KnP a H p (.ref y) r) (hy:H y=some (.ins C dx fs)) (h1:f≠"ins") (h2:f≠"outs") (h3:f≠"pace") (h4:f≠"kinds") (h5:f≠"kind"):fs.lookup f=none:=by
 refine oE3 (Rep.ob' h) λ y' dx' fs' m8=>oA5 m8 λ e _ hy' _ g=>?_;clear m8;cases e;rw [hy] at hy';cases hy';exact g f (ze3 h1 h2 h3 h4 h5)
def StO.offT {y:Addr} {n:SN} {st:PSt} (h:StO a H y n st) (t:zG H b):b ∉ y :: n.all:=by
 obtain ⟨xs,hx⟩:=t;intro hb;have no:∀ us,H b≠some (.lst us):=λ us e=>by rw [hx] at e;cases e
 unfold SN.all at hb;rcases az.mp hb with rfl|hb
 ·rw [h.hy] at hx;cases hx
 rcases az.mp hb with rfl|hb
 ·exact no _ h.hs
 rcases az.mp hb with rfl|hb
 ·exact no _ h.hc.out
 rcases az.mp hb with rfl|hb
 ·exact no _ h.hg.out
 rcases aB.mp hb with hb|hb
 ·obtain ⟨us,e⟩:=h.hc.isl (aA _ hb);exact no _ e
 ·obtain ⟨us,e⟩:=h.hg.isl (aA _ hb);exact no _ e
def StO.repT {H H':Hp} {y:Addr} {n:SN} {st:PSt} (h:StO a H y n st) (s:Fr (y :: n.all) H H') {d:D} (r:Rep H (zG H) v d):Rep H' (zG H') v d :=
 Rep.keep (λ b o hp hb=>⟨by obtain ⟨xs,hx⟩:=hp;exact ⟨xs,s _ _ (h.offT ⟨xs,hx⟩) hx⟩,s _ _ (h.offT hp) hb⟩) r
def zfa (ns:A6) (k:Nat) (x:Int):(iv ns).set k (.int x)=iv (ns.set k x):=by simp [iv]
def zc5 {H H':Hp} {d:D} (r:Rep H (zG H) v d) (s:Same H H'):Rep H' (zG H') v d:=Rep.keep (λ b o ⟨xs,hx⟩ hb=>⟨⟨xs,s _ _ hx⟩,s _ _ hb⟩) r
inductive spAct (a:Ad) (vs:Ap) (H:Hp) (Q:VK) (E:XK):Prop
 | i (vw:V) (y:Addr) (n:SN) (st:PSt) (k:Nat) (bs:A1) (rs:At):vs=[vw,.ref y,.int k]->Rep H (Off (y :: n.all)) vw (qA a bs rs)->StO a H y n st->stWf bs rs st->zQ bs rs->(∀ b∈bs,zA b.1 b.2)->(∀ r∈rs,r.ok)->k < rs.length->(∀ v H',Fr (y :: n.all) H H'->StO a H' y n (qt rs st k).1->Rep H' (zG H') v (zh3 (qt rs st k).2)->Q v H')->spAct a vs H Q E
def zhD (T:Txt K mg a) (F:Fun K "act" "act" VO f fd):FnOk P w K mg base (CXr P w) 4 f fd ["work","state","number"] (spAct a):=by
 refine F.okx zho ?_ ?_
 ·walk_at "i"
 walk_at "j";rcases h with ⟨vw,y,n,st,kn,bs,rs,rfl,hw,so,wf,nk,bo,ro,hk,k⟩;refine oE7 (qO hw) λ yw dw fw l1 l2 bvs n9 m8=>oA9 m8 λ n6 hyw ew1 ew2 hl1 hl2 hB hK no=>?_;clear m8;subst n6;obtain ⟨r,hr'⟩:∃ r,rs[kn]?=some r:=⟨rs[kn],ae hk⟩;have ok:=ro r (aj hr');have rl:=wb ok;obtain ⟨kv,hkv,hKn⟩:=WY hK hr';refine oE6 hKn.inv λ y1 dx1 m1 m2 m3 fs1 m8=>oA9 m8 λ n6 _ _ _ _ g0 f1 f2 nu=>oA5 nu λ _ g1 g2 _ _=>?_;clear m8 nu;subst n6;have fno:=hKn.no (f:="choice") g0 (by symm) (by symm) (by symm) (by symm) (by symm);have hsd:=wf.so.2 kn r _ hr' (qh (d:=0) (by rw [wf.so.1];exact hk));obtain ⟨side,esd⟩:∃ sd:Nat,st.sides.getD kn 0=sd:=⟨(st.sides.getD kn 0).toNat,(cc hsd.1).symm⟩;have hside:st.sides[kn]?=some (side:Int):=by rw [<- esd];exact qh (by rw [wf.so.1];exact hk)
 have hsd':wq r (side:Int):=by rw [<- esd];exact hsd
 have esd':(st.sides.getD kn 0).toNat=side:=by rw [esd];rfl
 refine oA4 (sff_l (t:=st.turn) (lc:=n.lc) (ls:=n.ls) (lg:=n.lg)) λ lk1 lk2 lk3 lk4=>?_;have hAct:∀ x,z6 r (z8 rs st.cells r) (qN st.cells r) st.turn side=x->qt rs st kn=match x with|none=>(st,none)|some ch=>((vA r st kn ch).1,some (vA r st kn ch).2):=λ x e=>by
  unfold qt;rw [hr'];simp only;rw [esd',e]
  all_goals (cases x <;> rfl)
 walk_at "T";refine ⟨_,(zo (zt 3 zho.nd (zm (zi (pq 0) rfl) (pq 2)))  (zo (JC (i:=4) zho.nd rfl (Or.inl rfl) (vars:=["belt"]) (caps:=[1]) (N:=["belt","state"]) (ON:=["work","state","number","knot","free","chosen","from_belt","to_belt","ware"]) (osc:=zc VO) rfl rfl (by right) rfl rfl (zV (zi (pq 3) rfl)) (λ _ _ _ _=>(qf 0 (show (["belt","state"]:A8).Nodup from by symm))) (λ _ _ _ _=>zX) (λ _ _ _ _=>(vI op_isN (zm (zm (zi (pq 1) rfl) (pq 0)) zh) zM (zC _))))  (zo (zt 5 zho.nd (JK ⟨rfl,rfl,rfl⟩ hr (pq 3) (za ‹(pq 0) (za (pq 1) (za (pq 3) zb))› (za (pq 4) (za (zi (pq 1) rfl) (za (zm (zi (pq 1) rfl) (pq 2)) zb))))))  (zo (zT (zz jI (pq 5) zM (zC _))  (zd (zl zM))  zu)  (zo (zt 6 zho.nd ‹(zi (pq 3) rfl) (za (zm (pq 5) zh) zb)›)  (zo (zt 7 zho.nd ‹(zi (pq 3) rfl) (za (zm (pq 5) zh) zb)›)  (zo (zt 8 zho.nd ‹(pq 1) (za (pq 2) (za (pq 6) zb))›)  (jO (zT (zz Q7 (pq 7) zM (zC _))  (zd (JD (pq 8) (JH (zm (zi (pq 1) rfl) (pq 7)) zh x6)))  zu)  (zo (JD (zm (pq 5) zh) (JH (zi (pq 1) rfl) (pq 2) x6))  (zo (zgc (zm (zi (pq 1) rfl) (pq 2)) ‹(pq 3) (za (pq 5) zb)› zfk zh zfc x6)  (zd (zl (jm (za (pq 2) (za (pq 8) (za (pq 6) (za (pq 7) zb))))))))))))))))),?_⟩;exists ra hyw T.ik T.ii ew2 (zp (SqL.of hl2) (zw hkv) ?_);left;walk_at "d";exists ra g0 (CT T _) (NO T _) f2 ⟨m2,rfl,.inl ⟨⟨_,SqL.of g2⟩,λ _ _ _ _ nj hacc=>?_⟩⟩;refine ql (K:=K) (a:=m2) (xs:=iv r.outs) (λ i σ H'=>∃ (v0:Aq),σ=[v0,some (.ref y)]/\Same H H'/\H' nj=some (.lst (((qN st.cells r).take i).map V.bl))) ⟨_,iA3 rfl (zg hacc) (by rw [b9];exact nE)⟩ (λ i σ H' _ h=>by obtain ⟨_,_,s,_⟩:=h;exact SqL.of (s _ _ g2)) ?_ ?_
 ·intro i x σ H2 hi nh;refine oE1 nh λ v0 m8=>oA3 m8 λ n6 s2 ha=>?_;ext;obtain ⟨b,hb,rfl⟩:=wS hi;have hil:=(aa.mp hb).1;refine oE1 (wO wf.co bo (JM nk hr' (aj hb))) λ j m8=>oA5 m8 λ n6 hj ej nej _=>?_;clear m8;subst n6;refine oE2 (so.cell ej) λ bC vs m8=>oA3 m8 λ hbC hvC rvC=>?_;clear m8;obtain ⟨c0,cs,ec⟩:∃ c0 cs,zJ st.cells j=c0 :: cs:=eT nej;have hfr:(qN st.cells r)[i]?=some (decide (c0=none)):=by rw [qN,am,hb];simp [ec,zgJ]
  rw [ec] at rvC;obtain ⟨v1,hv1,rv1⟩:=rvC.of (i:=0) (d:=zZ c0) rfl;exists ra (s2 _ _ so.hy) T.ad T.ic lk1 (zp (SqL.of (s2 _ _ so.hc.out)) (zw (Z4 hbC)) (zp (SqL.of (s2 _ _ hvC)) (zw (j:=0) hv1) ?_));left;have ev:decide (v1=V.non)=decide (c0=none):=by
   cases c0 with
   | none=>cases rv1;rfl
   | some x=>obtain ⟨t,us,rfl,_⟩:=Rep.tup' rv1;rfl
  rw [ev];refine ⟨_,iA3 ha (zk (by rw [ai,aP];lia)) ⟨_,iA3 rfl (λ b o hb=>by rw [nF (nH hb hacc)];exact s2 b o hb) ?_⟩⟩;rw [nE,aG,hfr,aZ]
  rfl
 intro σ H2 nh;refine oE1 nh λ v0 m8=>oA3 m8 λ n6 s2 ha=>?_;ext;rw [zH,dc (by simp [qN])] at ha;exists iE7 y1 (wM a r.wd) dx1 fs1 _ _ _ (iA5 rfl (s2 _ _ g0) fno ((zeS T r.wd).mono) ?_);refine uc (zbR T).mono (spHeads.i _ _ _ bs rs st kn r _ _ rfl (je hw s2) ((so.same s2).rep) (je hKn s2) hr' nk bo ro wf.co (λ hl H3 s3 nhl hhl=>?_));have s23:=s2.trans s3;refine ra (s23 _ _ so.hy) T.ad T.ie lk4 ?_;refine ra (s23 _ _ so.hy) T.ad T.ip lk2 (zp (SqL.of (s23 _ _ so.hs)) (zw (j9 hside)) ?_);refine iE5 y1 hl nj r _ (iE4 (z8 rs st.cells r) (qN st.cells r) st.turn side (iA9 rfl (je hKn s23) rfl ok hhl (s3 _ _ ha) (by simp [z8]) (by simp [qN]) (λ vc H4 s4 tc=>?_)));have s24:=s23.trans s4;have so4:=so.same s24;have hKn4:=je hKn s24;left;cases hc:z6 r (z8 rs st.cells r) (qN st.cells r) st.turn side with
 | none =>
  rw [hc] at tc;have tc:vc=.non:=tc;subst tc;have e:=hAct _ hc;refine zU (λ _=>?_) (λ b=>absurd rfl b);exists k _ _ s24.fr ?_ ?_
  ·rw [e];exact so4
  ·rw [e];exact .non
 | some ch =>
  rw [hc] at tc;obtain ⟨ct,rfl,hct⟩:=tc;have e:=hAct _ hc;refine oA6 (wm ok (by simp [z8]) (by simp [qN]) hsd' hc) λ c1 c2 c3 c4 c5 c6=>?_;have hfb:∀ b,qz r ch=some b->b∈rgI bs.length:=λ b hb=>by
   unfold qz at hb;obtain ⟨j,hj1,hj2⟩:=cg.mp hb;exact Jb nk hr' (aj hj2)
  have htb:∀ b,vZ r ch=some b->b∈rgI bs.length:=λ b hb=>by
   unfold vZ at hb;obtain ⟨j,hj1,hj2⟩:=cg.mp hb;exact JM nk hr' (aj hj2)
  have hfn:qz r ch=none->r.wd=.source:=λ hb=>by
   cases e:ch.1 with
   | none=>exact c4 e
   | some j =>
    unfold qz at hb;rw [e] at hb;simp at hb;have:=c1 j e
    lia
  obtain ⟨w1,w2⟩:=Vu wf nk bo ro hr' hfb hfn;have w3:=VZ w1 bo htb w2;have hg0:=qh (xs:=st.gone) (k:=kn) (d:=[]) (by rw [wf.go.1];exact hk);obtain ⟨q1,q2⟩:=wf.go.2 kn r _ hr' hg0;have cp:=xA ok;obtain ⟨g0',gs,eg⟩:∃ g0 gs,st.gone.getD kn []=g0 :: gs:=eT λ z=>by rw [z] at q1;simp at q1;lia
  rw [eg] at hg0;refine zU (λ b=>by cases b) (λ _=>?_);exists uc (X9 T).mono (ra (s24 _ _ g0) (CT T _) (NI T _) f1 (nJ hct at0 ?_));refine iE3 m1 r.ins ch.1 (iA4 rfl (s24 _ _ g1) c1 ?_);exists uc (X9 T).mono (ra (s24 _ _ g0) (CT T _) (NO T _) f2 (nJ hct (show atI (chV ch) 1=some (ZH ch.2.1) from rfl) ?_));refine iE3 m2 r.outs ch.2.1 (iA4 rfl (s24 _ _ g2) c2 ?_);exists uc (Vd T).mono (spTaken.i y n st kn (qz r ch) g0' gs rfl so4 hg0 (λ b hb=>?_) (λ v5 H5 f5 so5 rv5=>?_))
  ·refine oE1 (wO wf.co bo (hfb b hb)) λ i m8=>oA5 m8 λ e1 _ e2 e3 _=>?_;clear m8;exact ⟨i,iA3 e1 e2 e3⟩
  have hct5:=f5 _ _ (so4.offT ⟨_,hct⟩) hct;have hKn5:=hKn4.fr f5;have fr5:=(s24.fr (ms:=y :: n.all)).trans f5;rw [show (ch.1.bind λ j=>r.ins[j]?)=qz r ch from rfl,show (ch.2.1.bind λ j=>r.outs[j]?)=vZ r ch from rfl];exists cut (λ σ' H'=>σ'=[some (.ref yw),some (.ref y),some (.int kn),some (.ref y1),some (.ref nj),some (.ref ct),some (hdV (qz r ch)),some (hdV (vZ r ch)),some v5]/\Fr (y :: n.all) H5 H'/\StO a H' y n (movedF r st kn ch)) ?_ ?_
  ·have w4:=λ b (hb:vZ r ch=some b)=>wO w1.co bo (htb b hb);unfold movedF;generalize vZ r ch=tb at w4 ⊢;left;cases tb with
   | none =>
    refine zU (λ b=>absurd rfl b) (λ _=>?_);left;exact ⟨.refl,so5⟩
   | some b =>
    refine oE1 (w4 b rfl) λ i m8=>oA5 m8 λ n6 _ e2 e3 _=>?_;clear m8;subst n6;refine oE2 (so5.cell e2) λ bC vs m8=>oA3 m8 λ hbC hvC rvC=>?_;clear m8;have lv:vs.length=(zJ (zR st kn (qz r ch)).2.cells i).length:=by rw [rvC.len,ai]
    have lp:0 < vs.length:=by rw [lv];exact eQ.mpr e3
    refine zU (λ _=>?_) (λ b=>absurd (λ z=>by cases z) b);exists ra so5.hy T.ad T.ic sff_l.1 (zp (SqL.of so5.hc.out) (zw (Z4 hbC)) ?_);exists vG (j:=0) hvC (J2 (by decide) (by simpa using lp)) ?_;refine ⟨jD (Vj hbC),?_⟩;have:=so5.putC hbC (c':=(zJ (zR st kn (qz r ch)).2.cells i).set 0 (zR st kn (qz r ch)).1) (by rw [eM];exact Reps.set rvC 0 rv5);simpa [vh] using this
  rintro σ H6 ⟨rfl,f6,so6⟩;have hct6:=f6 _ _ (so5.offT ⟨_,hct5⟩) hct5;have hKn6:=hKn5.fr f6;have rv6:=so5.repT f6 rv5;have fr6:=fr5.trans f6;exists nJ hct6 (show atI (chV ch) 2=some (.int ch.2.2) from rfl) ?_;exists ra so6.hy T.ad T.ip sff_l.2.1 (vG so6.hs (J2 (bV _) (by rw [zH,show (movedF r st kn ch).sides.length=rs.length from w3.so.1];exact Int.ofNat_lt.mpr hk)) ?_);rw [aE,zfa];have so7:=so6.putS (s':=(movedF r st kn ch).sides.set kn ch.2.2);have f7:Fr (y :: n.all) H6 (upd H6 n.ls (.lst (iv ((movedF r st kn ch).sides.set kn ch.2.2)))):=jD (by simp [SN.all]);have hct7:=f7 _ _ (so6.offT ⟨_,hct6⟩) hct6;have hKn7:=hKn6.fr f7;have rv7:=so6.repT f7 rv6;have fr7:=fr6.trans f7;generalize upd H6 n.ls (.lst (iv ((movedF r st kn ch).sides.set kn ch.2.2)))=H7 at so7 hct7 hKn7 rv7 fr7 ⊢;have hg7:=qh (xs:=(movedF r st kn ch).gone) (k:=kn) (d:=[]) (by rw [show (movedF r st kn ch).gone.length=rs.length from w3.go.1];exact hk);obtain ⟨p1,p2⟩:=w3.go.2 kn r _ hr' hg7;obtain ⟨bG,hbG,hgG⟩:=so7.goneL hg7;have e0:vA r st kn ch=({ movedF r st kn ch with sides:=(movedF r st kn ch).sides.set kn ch.2.2,gone:=(movedF r st kn ch).gone.set kn (Zq ((movedF r st kn ch).gone.getD kn []) (xa r ch)) },⟨kn,(zR st kn (qz r ch)).1,qz r ch,vZ r ch⟩):=rfl;have so8:=so7.putG (g':=Zq ((movedF r st kn ch).gone.getD kn []) (xa r ch)) hbG;generalize (movedF r st kn ch).gone.getD kn []=g at *;have hcp:xa r ch < g.length:=by rw [p1];exact c6
  left;unfold zgX;exists ra so7.hy T.ad T.ig sff_l.2.2.1 (zp (SqL.of so7.hg.out) (zw (Je hbG)) ?_);exists uc (QZ T).mono (spCounted.i _ ct r ch _ rfl hKn7 hct7 c3 ?_);refine iE4 bG _ (xa r ch) _ (iA6 rfl rfl (SqL.of hgG) (bV _) (zw (j9 (qh (d:=0) hcp))) ?_);exists vG hgG (J2 (bV _) (by rw [zH];exact Int.ofNat_lt.mpr hcp)) ?_;rw [aE,zfa];have f8:Fr (y :: n.all) H7 (upd H7 bG (.lst (iv (g.set (xa r ch) (g.getD (xa r ch) 0 + 1))))):=jD (zgN hbG);have rv8:=so7.repT f8 rv7;change StO a (upd H7 bG (.lst (iv (g.set (xa r ch) (g.getD (xa r ch) 0 + 1))))) y n _ at so8;have fr8:=fr7.trans f8;generalize e8:upd H7 bG (.lst (iv (g.set (xa r ch) (g.getD (xa r ch) 0 + 1))))=H8 at so8 f8 rv8 fr8 ⊢;left;intro t ht;refine k _ _ (fr8.trans (zbG ht)) ?_ ?_
  ·rw [e];simp only;rw [e0];exact so8.same (zg ht)
  ·rw [e];simp only;rw [e0];exact Reps.mkT (vs:=[.int kn,v5,hdV (qz r ch),hdV (vZ r ch)]) (.cons .int (.cons (zc5 rv8 (zg ht)) (.cons (zb2 _) (.cons (zb2 _) .nil)))) ⟨_,nE⟩ nE
def zi2 (T:Txt K mg a):Cal P w K mg base "act" 4 ["work","state","number"] [] (spAct a):=T.mY.cal (zhD T)
noncomputable def zx (rs:At) (st:PSt):Nat->PSt × List Move
 | 0=>(st,[])
 | i + 1=>((qt rs (zx rs st i).1 i).1,(zx rs st i).2 ++ (qt rs (zx rs st i).1 i).2.toList)
theorem ja {bs:A1} {rs:At} {st:PSt} (wf:stWf bs rs st) (nk:zQ bs rs) (bo:∀ b∈bs,zA b.1 b.2) (ro:∀ r∈rs,r.ok):∀ i,stWf bs rs (zx rs st i).1
 | 0=>wf
 | i + 1=>zgR (ja wf nk bo ro i) nk bo ro
theorem Xh (rs:At) (st:PSt):∀ i,(zx rs st i).2.length<=i
 | 0=>au _
 | i + 1=>by
  have:=Xh rs st i;show ((zx rs st i).2 ++ (qt rs (zx rs st i).1 i).2.toList).length<=i + 1
  rw [aD];cases (qt rs (zx rs st i).1 i).2 with
  | none=>exact Nat.le_succ_of_le this
  | some _=>exact Nat.succ_le_succ this
section
variable {H H':Hp} {y:Addr} {n:SN} {st:PSt}
def StO.offN (h:StO a H y n st) (e:H b=none):b ∉ y :: n.all:=by
 have no:∀ o,H b≠some o:=λ o z=>by rw [e] at z;cases z
 intro hb;unfold SN.all at hb;rcases az.mp hb with rfl|hb
 ·exact no _ h.hy
 rcases az.mp hb with rfl|hb
 ·exact no _ h.hs
 rcases az.mp hb with rfl|hb
 ·exact no _ h.hc.out
 rcases az.mp hb with rfl|hb
 ·exact no _ h.hg.out
 rcases aB.mp hb with hb|hb
 ·obtain ⟨us,z⟩:=h.hc.isl (aA _ hb);exact no _ z
 ·obtain ⟨us,z⟩:=h.hg.isl (aA _ hb);exact no _ z
def StO.out {M:Addr} {us vs:Ap} (h:StO a H y n st) (e:H M=some (.lst us)) (nM:M ∉ y :: n.all):StO a (upd H M (.lst vs)) y n st:=by
 have k:∀ c o,c≠M->H c=some o->upd H M (.lst vs) c=some o:=λ c o nc hc=>by rw [nF nc];exact hc
 have kt:∀ c,zG H c->c≠M:=λ c ⟨xs,hx⟩ z=>by rw [z,e] at hx;cases hx
 refine ⟨k _ _ (λ z=>nM (by rw [<- z];simp)) h.hy,h.hc.tup λ c o hz hc=>k c o (λ z=>?_) hc,k _ _ (λ z=>nM (by rw [<- z];simp [SN.all])) h.hs,h.hg.tup λ c o hz hc=>k c o (λ z=>?_) hc,h.nd⟩
 ·rcases hz with rfl|hz|hz
  ·exact nM (by rw [<- z];simp [SN.all])
  ·exact nM (by rw [<- z];simp [SN.all,hz])
  ·exact kt c hz z
 ·rcases hz with rfl|hz|hz
  ·exact nM (by rw [<- z];simp [SN.all])
  ·exact nM (by rw [<- z];simp [SN.all,hz])
  ·exact kt c hz z
def StO.repsT (h:StO a H y n st) (s:Fr (y :: n.all) H H') {ds:List D} (r:Reps H (zG H) vs ds):Reps H' (zG H') vs ds :=
 ⟨r.len,λ i v d h1 h2=>h.repT s (r.g i v d h1 h2)⟩
def VU {M:Addr} {us vs:Ap} (e:H M=some (.lst us)) {d:D} (r:Rep H (zG H) v d):Rep (upd H M (.lst vs)) (zG (upd H M (.lst vs))) v d :=
 Rep.keep (λ b o hp hb=>⟨Q1 e hp,by obtain ⟨xs,hx⟩:=hp;rw [nF (λ z=>by rw [z,e] at hx;cases hx)];exact hb⟩) r
def zc4 {M:Addr} {us vs:Ap} (e:H M=some (.lst us)) {ws:Ap} {ds:List D} (r:Reps H (zG H) ws ds):Reps (upd H M (.lst vs)) (zG (upd H M (.lst vs))) ws ds :=
 ⟨r.len,λ i v d h1 h2=>VU e (r.g i v d h1 h2)⟩
end
inductive spActAll (a:Ad) (vs:Ap) (H:Hp) (Q:VK) (E:XK):Prop
 | i (vw:V) (y:Addr) (n:SN) (st:PSt) (bs:A1) (rs:At):vs=[vw,.ref y]->Rep H (Off (y :: n.all)) vw (qA a bs rs)->StO a H y n st->stWf bs rs st->zQ bs rs->(∀ b∈bs,zA b.1 b.2)->(∀ r∈rs,r.ok)->(∀ l us H',Fr (y :: n.all) H H'->StO a H' y n (zx rs st rs.length).1->H l=none->l ∉ y :: n.all->H' l=some (.lst us)->Reps H' (zG H') us ((zx rs st rs.length).2.map X6)->Q (.ref l) H')->spActAll a vs H Q E
theorem zdN (T:Txt K mg a):Cal P w K mg base "act_all" 5 ["work","state"] [] (spActAll a):=T.ml.cal λ F=>by
 refine F.okx za7 ?_ ?_
 ·walk_at "i"
 walk_at "j";rcases h with ⟨vw,y,n,st,bs,rs,rfl,hw,so,wf,nk,bo,ro,k⟩;refine oE7 (qO hw) λ yw dw fw l1 l2 bvs n9 m8=>oA9 m8 λ n6 hyw ew1 ew2 hl1 hl2 hB hK no=>?_;clear m8;subst n6;have lk:n9.length=rs.length:=hK.len;have r24:=nk.1.2.2;walk_at "T";refine ⟨_,(ze (zt 2 za7.nd (qe zb))  (jO (qo qC rfl (wE (za (qd qi qg (za (zi (pq 0) rfl) zb)) zb)) (qf 3 za7.nd)  (ze (zt 4 za7.nd ‹(pq 0) (za (pq 1) (za (pq 3) zb))›)  (zd (zT (zz Q7 (pq 4) zM (zC _))  (zd (zO (xK aK aW aV qD (pq 2) (za (pq 4) zb))))  zu))))  (zd (zl (pq 2))))),?_⟩;left;intro M hM;have nM:=so.offN hM;have s1:=zg (o:=.lst []) hM;have hM1:upd H M (.lst []) M=some (.lst []):=nE;generalize upd H M (.lst [])=H1 at s1 hM1 ⊢;exists cut (λ σ' H'=>∃ (v3 v4:Aq) (us:Ap),σ'=[some (.ref yw),some (.ref y),some (.ref M),v3,v4]/\Fr (y :: n.all) H H'/\StO a H' y n (zx rs st rs.length).1/\H' M=some (.lst us)/\Reps H' (zG H') us ((zx rs st rs.length).2.map X6)) ?_ ?_
 ·walk_at "e";exists ra (s1 _ _ hyw) T.ik T.ii ew2 ?_;refine ⟨_,.inl ⟨_,SqL.of (s1 _ _ hl2),rfl⟩,?_⟩;rw [lk];exists ⟨by lia,by lia,?_⟩;refine ZR (n:=(rs.length:Int).toNat) (λ i σ H'=>∃ (v3 v4:Aq) (us:Ap),σ=[some (.ref yw),some (.ref y),some (.ref M),v3,v4]/\Fr (y :: n.all) H H'/\StO a H' y n (zx rs st i).1/\H' M=some (.lst us)/\Reps H' (zG H') us ((zx rs st i).2.map X6)) (iE3 _ _ _ (iA5 rfl s1.fr (so.same s1) hM1 (.nil))) ?_ (λ σ H' h=>?_)
  ·intro i σ H2 hi nh;refine oE3 nh λ v3 v4 us m8=>oA5 m8 λ n6 f2 so2 hM2 r2=>?_;ext;have hi:i < rs.length:=by simpa using hi
   have al:=Xh rs st i;have lu:us.length=(zx rs st i).2.length:=by rw [r2.len,ai]
   left;simp only [ef];refine uc (zi2 T).mono (spAct.i (.ref yw) y n _ i bs rs rfl (hw.fr f2) so2 (ja wf nk bo ro i) nk bo ro hi (λ v H3 f3 so3 rv=>?_));have f23:=f2.trans f3;have hM3:=f3 _ _ nM hM2;have r3:=so2.repsT f3 r2;have eA:zx rs st (i + 1)=((qt rs (zx rs st i).1 i).1,(zx rs st i).2 ++ (qt rs (zx rs st i).1 i).2.toList):=rfl;left;cases e:(qt rs (zx rs st i).1 i).2 with
   | none =>
    rw [e] at rv eA;cases rv;refine zU (λ b=>absurd rfl b) (λ _=>?_);rw [eA];exact iE3 _ _ _ (iA5 rfl f23 so3 hM3 (by rw [show (none:Option Move).toList=[] from rfl,cZ];exact r3))
   | some m =>
    rw [e] at rv eA;refine zU (λ _=>?_) (λ b=>?_)
    ·exists ⟨.inl ⟨rfl,_,SqL.of hM3⟩,iE3 M _ _ (iA5 rfl rfl hM3 (zk (by lia)) (iE3 _ _ _ (iA5 rfl (λ b o nb hb=>by rw [nF (nH hb hM)];exact f23 b o nb hb) ?_ nE ?_)))⟩
     ·rw [eA];exact so3.out hM3 nM
     ·rw [eA];show Reps _ _ _ (List.map X6 ((zx rs st i).2 ++ [m]))
      rw [aZ];exact (zc4 hM3 r3).append (Reps.one (VU hM3 rv))
    ·exfalso;refine b λ z=>?_;subst z;cases rv
  ·have e:((rs.length:Int)).toNat=rs.length:=by simp
   rw [e] at h;exact h
 intro σ' H2 nh;refine oE3 nh λ v3 v4 us m8=>oA5 m8 λ n6 f2 so2 hM2 r2=>?_;ext;left;exact k _ _ _ f2 so2 hM nM hM2 r2
noncomputable def qJ (c:Av) (p:Nat):List zq:=if c.getD (p + 1) none=none then (c.set (p + 1) (c.getD p none)).set p none else c
noncomputable def wF (c:Av):Nat->List zq
 | 0=>c
 | k + 1=>qJ (wF c k) (c.length - 2 - k)
noncomputable def zcb (c:Av):List zq:=wF c (c.length - 1)
def zbu {c:Av} {p:Nat}:(qJ c p).length=c.length:=by
 unfold qJ
 split <;> simp
theorem JV {c:Av}:∀ k,(wF c k).length=c.length
 | 0=>rfl
 | k + 1=>by rw [wF,zbu,JV k]
def zbt {c:Av} {p:Nat} {x:zq} (h:x∈qJ c p):x∈c\/x=none:=by
 unfold qJ at h
 split at h
 ·rcases vo h with h|h
  ·rcases vo h with h|h
   ·exact .inl h
   ·rw [ah] at h;cases e:c[p]? with
    | none=>rw [e] at h;exact .inr h
    | some y=>rw [e] at h;exact .inl (by rw [h];exact aj e)
  ·exact .inr h
 ·exact .inl h
theorem V9 {c:Av} {x:zq}:∀ k,x∈wF c k->x∈c\/x=none
 | 0=>λ h=>.inl h
 | k + 1=>λ h=>by
  rcases zbt h with h|h
  ·exact V9 k h
  ·exact .inr h
def zdZ (h:H b=some o):upd H b o=H:=by
 funext x
 by_cases e:x=b
 ·rw [e,nE,h]
 ·rw [nF e]
def Vo {x:zq} (r:Rep H p v (zZ x)):v=.non ↔ x=none:=by
 cases x with
 | none=>cases r;simp
 | some x=>obtain ⟨t,us,rfl,_⟩:=Rep.tup' r;simp
def atD {xs:Av} {p:Nat} (h:p < xs.length):xs[p]?=some (xs.getD p none):=qh h
def zaY:Sp:=λ vs H Q _=>∃ (b:Addr) (us:Ap) (c:Av),vs=[.ref b]/\H b=some (.lst us)/\Reps H (zG H) us (c.map zZ)/\c.length<=100/\∀ us',Reps H (zG H) us' ((zcb c).map zZ)->Q .non (upd H b (.lst us'))
def zaD (T:Txt K mg a):Cal P w K mg base "move_belt" 1 ["cells"] [] zaY:=T.lM.cal λ F=>by
 refine F.okx Wx ?_ ?_
 ·walk_at "i"
 walk_at "j";refine oE3 h λ b us c m8=>oA5 m8 λ n6 hb rb lc k=>?_;clear m8 h;subst n6;have lu:us.length=c.length:=by rw [rb.len,ai]
 walk_at "T";refine ⟨_,(zd (qo qC rfl (zhs (za (zD xv (qd qi qg (za (pq 0) zb)) zh) (za (JI vY zh) (za (JI vY zh) zb)))) (qf 1 Wx.nd)  (zd (zT (zz jI (zm (pq 0) (zD qr (pq 1) zh)) zM (zC _))  (ze (JD (zm (pq 0) (pq 1)) (JH (pq 0) (zD qr (pq 1) zh) x6))  (zd (JD zM (JH (pq 0) (pq 1) x6))))  zu)))),?_⟩;left;walk_at "e";exists ⟨_,.inl ⟨_,SqL.of hb,rfl⟩,?_⟩;rw [lu];exists iE2 _ _ (iA3 rfl (iA4 (by lia) (by lia) (by lia) (by lia)) ?_);rw [show ((c.length:Int) - 2 - -1).toNat=c.length - 1 by lia];refine ziL (K:=K) (λ i σ H'=>∃ (v1:Aq) (us':Ap),σ=[some (.ref b),v1]/\H'=upd H b (.lst us')/\Reps H (zG H) us' ((wF c i).map zZ)) (iE2 _ us (iA3 rfl ((zdZ hb).symm) rb)) ?_ ?_
 ·intro i σ H' hi nh;refine oE2 nh λ v1 us' m8=>oA3 m8 λ n6 nu r1=>?_;clear m8 nh;subst n6 nu;have lm:=JV (c:=c) i;have l1:us'.length=c.length:=by rw [r1.len,ai,lm]
  obtain ⟨p,hp⟩:∃ p,c.length - 2 - i=p:=⟨_,rfl⟩;have ep:(c.length:Int) - 2 - i=p:=by lia
  have hp1:p + 1 < c.length:=by lia
  rw [ep];have eS:wF c (i + 1)=qJ (wF c i) p:=by rw [wF,hp]
  rw [eS];generalize wF c i=m at r1 lm ⊢;have m0:m[p]?=some (m.getD p none):=atD (by lia);have m1:m[p + 1]?=some (m.getD (p + 1) none):=atD (by lia);obtain ⟨u0,hu0,ru0⟩:=r1.of (i:=p) (d:=zZ (m.getD p none)) (by rw [am,m0];rfl);obtain ⟨u1,hu1,ru1⟩:=r1.of (i:=p + 1) (d:=zZ (m.getD (p + 1) none)) (by rw [am,m1];rfl);have e1:((p:Int) + 1)=((p + 1:Nat):Int):=by lia
  left;rw [e1];refine zp (SqL.of nE) (zw hu1) ?_;exists zU (λ z=>?_) (λ z=>?_)
  ·have z:=(Vo ru1).mp z;exists zp (SqL.of nE) (zw hu0) ?_;exists vG nE (J2 (by lia) (by lia)) ?_;exists vG nE (J2 (by lia) (by simp;lia)) ?_;rw [vD,vD];refine iE2 _ _ (iA3 rfl rfl ?_);unfold qJ;rw [ax z,eM,eM,aE,aE];exact Reps.set (Reps.set r1 _ ru0) _ .non
  ·have z:m.getD (p + 1) none≠none:=λ y=>z ((Vo ru1).mpr y);exists iE2 _ us' (iA3 rfl rfl ?_);unfold qJ;rw [aq z];exact r1
 ·intro σ H' nh;refine oE2 nh λ v1 us' m8=>oA3 m8 λ n6 nu r1=>?_;clear m8 nh;subst n6 nu;exact k _ r1
noncomputable def qc (bs:A1) (t:Int) (cs:Au):Nat->List Av
 | 0=>cs
 | i + 1=>if t % (bs.getD i (0,1)).2=0 then (qc bs t cs i).set i (zcb ((qc bs t cs i).getD i [])) else qc bs t cs i
theorem Zr {bs:A1} {rs:At} {t:Int} {cs:Au} (h:xh bs rs cs):∀ i,xh bs rs (qc bs t cs i)
 | 0=>h
 | i + 1=>by
  have ih:=Zr h i (t:=t);rw [qc]
  split
  ·generalize qc bs t cs i=ds at ih ⊢;cases e:ds[i]? with
   | none=>rw [dI (dL.mp e)];exact ih
   | some c =>
    have ec:ds.getD i []=c:=by rw [ah,e];rfl
    rw [ec];have hi:i < bs.length:=by rw [<- ih.1];exact (aa.mp e).1
    refine Qv ih e (JV _) λ x hx=>?_;rcases V9 _ hx with hx|hx
    ·exact (ih.2 i _ c (ae hi) e).2 x hx
    ·rw [hx];exact Z6
  ·exact ih
noncomputable def passF (bs:A1) (rs:At) (st:PSt):PSt × List Move:=({ (zx rs st rs.length).1 with turn:=(zx rs st rs.length).1.turn + 1,cells:=qc bs (zx rs st rs.length).1.turn (zx rs st rs.length).1.cells bs.length },(zx rs st rs.length).2)
def zeF {rs:At} {st:PSt} (wf:stWf bs rs st) (nk:zQ bs rs) (bo:∀ b∈bs,zA b.1 b.2) (ro:∀ r∈rs,r.ok):stWf bs rs (passF bs rs st).1:=by
 have w:=ja wf nk bo ro rs.length;exact ⟨Zr w.co _,w.so,w.go⟩
def StO.ney {y:Addr} {n:SN} {st:PSt} (h:StO a H y n st):y ∉ n.all:=λ z=>by
 have hy:=h.hy;have c:∀ vs,H y≠some (.lst vs):=λ vs z=>by rw [hy] at z;cases z
 simp only [SN.all,az,aB] at z;rcases z with z|z|z|z|z
 ·exact c _ (by rw [z];exact h.hs)
 ·exact c _ (by rw [z];exact h.hc.out)
 ·exact c _ (by rw [z];exact h.hg.out)
 ·obtain ⟨vs,hv⟩:=h.hc.isl (aA _ z);exact c _ hv
 ·obtain ⟨vs,hv⟩:=h.hg.isl (aA _ z);exact c _ hv
def StO.putT {y:Addr} {n:SN} {st:PSt} {t:Int} (h:StO a H y n st):StO a (upd H y (.ins a.p n.dx (sff t n.lc n.ls n.lg))) y n { st with turn:=t }:=by
 have ny:=h.ney;have tn:∀ b,zG H b->b≠y:=λ b ⟨xs,hx⟩ z=>by rw [z,h.hy] at hx;cases hx
 simp only [SN.all,az,aB,not_or] at ny;refine oA5 ny λ n1 n2 n3 n4 n5=>?_;clear ny;refine ⟨nE,h.hc.tup λ b o c hb=>?_,?_,h.hg.tup λ b o c hb=>?_,h.nd⟩
 ·rw [nF ?_]
  ·exact hb
  ·rcases c with rfl|c|c
   ·exact ba n2
   ·exact λ z=>n4 (by rw [<- z];exact c)
   ·exact tn b c
 ·rw [nF (ba n1)];exact h.hs
 ·rw [nF ?_]
  ·exact hb
  ·rcases c with rfl|c|c
   ·exact ba n3
   ·exact λ z=>n5 (by rw [<- z];exact c)
   ·exact tn b c
def zaQ {rs:At} (h:Rep H p v (qA a bs rs)):∃ y dx fs l1 bvs,v=.ref y/\p y/\H y=some (.ins a.o dx fs)/\fs.lookup ("belts":Str)=some (.ref l1)/\p l1/\H l1=some (.lst bvs)/\Bts a H p bvs bs:=by
 refine oE3 (Rep.ob' h) λ y dx fs m8=>oA5 m8 λ n6 py hy g1 g2=>?_;clear m8;subst n6;obtain ⟨u1,e1,r1⟩:=g1 _ _ Vl;refine oE2 r1.lst' λ l1 bvs m8=>oA4 m8 λ n6 pl h1 b1=>?_;clear m8;subst n6;exact iE5 y dx fs l1 bvs (iA7 rfl py hy e1 pl h1 (.of b1))
theorem zir {t u:Int} {lc ls lg:Addr}:zL "turn" (.int u) (sff t lc ls lg)=sff u lc ls lg:=rfl
def zd8 (a:Ad):Sp:=λ vs H Q _=>∃ (vw:V) (y:Addr) (n:SN) (st:PSt) (bs:A1) (rs:At),vs=[vw,.ref y]/\Rep H (Off (y :: n.all)) vw (qA a bs rs)/\StO a H y n st/\stWf bs rs st/\zQ bs rs/\(∀ b∈bs,zA b.1 b.2)/\(∀ r∈rs,r.ok) /\
 ∀ l us H',Fr (y :: n.all) H H'->StO a H' y n (passF bs rs st).1->H l=none->l ∉ y :: n.all->H' l=some (.lst us)->Reps H' (zG H') us ((passF bs rs st).2.map X6)->Q (.ref l) H'
def WR (T:Txt K mg a) (F:Fun K "pass_turn" "pass_turn" xC f fd):FnOk P w K mg base (CXr P w) 6 f fd ["work","state"] (zd8 a):=by
 refine F.okx Wu ?_ ?_
 ·walk_at "i"
 walk_at "j";refine oE6 h λ vw y n st bs rs m8=>oA8 m8 λ n6 hw so wf nk bo ro k=>?_;clear m8 h;subst n6;have b24:=nk.1.1.2;walk_at "T";refine ⟨_,(zo (zt 2 Wu.nd ‹(pq 0) (za (pq 1) zb)›)  (jO (qo qC rfl (qZ (za (zi (pq 0) rfl) zb)) (vj (n:=2) rfl (qk (qf 3 Wu.nd) (qk (qf 4 Wu.nd) xH)))  (zd (zT (zz (JP hr.units1) (zD jn (zi (pq 1) rfl) (zi (pq 4) rfl)) zh (zC _))  (zd (zO ‹(zm (zi (pq 1) rfl) (pq 3)) zb›))  zu)))  (zo (zda (pq 1) zh zhW)  (zd (zl (pq 2)))))),?_⟩;exists uc (zdN T).mono (spActAll.i vw y n st bs rs rfl hw so wf nk bo ro (λ l us H1 f1 so1 nl nl' hl rl=>?_));have wA:=ja wf nk bo ro rs.length;have hw1:=hw.fr f1;refine oE5 (zaQ hw1) λ yw dw fw l1 bvs m8=>oA7 m8 λ n6 _ hyw ew1 pl1 hl1 hB=>?_;clear m8;subst n6;have lb:bvs.length=bs.length:=hB.len;generalize hA:zx rs st rs.length=A at so1 rl wA;refine oA4 (sff_l (t:=A.1.turn) (lc:=n.lc) (ls:=n.ls) (lg:=n.lg)) λ lk1 lk2 lk3 lk4=>?_;left;let nz:St->Hp->Prop:=λ σ' H'=>∃ (v3 v4:Aq),σ'=[some (.ref yw),some (.ref y),some (.ref l),v3,v4]/\Fr (y :: n.all) H1 H'/\StO a H' y n { A.1 with cells:=qc bs A.1.turn A.1.cells bs.length };refine cut nz ?_ ?_
 ·walk_at "e";exists ra hyw T.ik T.iE ew1 (iE2 l1 _ (iA3 rfl hl1 ?_));let nA:Nat->St->Hp->Prop:=λ i σ H'=>∃ (v3 v4:Aq),σ=[some (.ref yw),some (.ref y),some (.ref l),v3,v4]/\Fr (y :: n.all) H1 H'/\StO a H' y n { A.1 with cells:=qc bs A.1.turn A.1.cells i };refine X2 (K:=K) (a:=l1) (xs:=bvs) nA (iE2 _ _ (iA3 rfl Fr.refl so1)) (λ i σ H' _ h=>by obtain ⟨_,_,_,f,_⟩:=h;exact SqL.of (f _ _ pl1 hl1)) ?_ ?_
  ·intro i x t σ H2 hi ht nh;refine oE2 nh λ v3 v4 m8=>oA3 m8 λ n6 f2 so2=>?_;ext;obtain ⟨b,hb',hBt⟩:=hB.at hi;refine oE3 hBt.inv λ y1 dx1 fs1 m8=>oA5 m8 λ n6 py1 g0 _ e2=>?_;clear m8;subst n6;have g02:=f2 _ _ py1 g0;have hil:=(aa.mp hb').1;have bk:=bo b (aj hb');have f3:=f2.trans (zbG (ms:=y :: n.all) (o:=.tup [.int i,.ref y1]) ht);have so3:=so2.same (zg (o:=.tup [.int i,.ref y1]) ht);have g03:=nI (o:=.tup [.int i,.ref y1]) g02 ht;refine un2 nE ?_;generalize upd H2 t (.tup [.int i,.ref y1])=H3 at f3 so3 g03 ⊢;have eb:bs.getD i (0,1)=b:=by rw [ah,hb'];rfl
   have co:=Zr (t:=A.1.turn) wA.co i;have hc:=qh (xs:=qc bs A.1.turn A.1.cells i) (d:=[]) (show i < _ by rw [co.1];exact hil);refine oE2 (so3.cell hc) λ bC vs m8=>oA3 m8 λ hbC hvC rvC=>?_;clear m8;have lc:=(co.2 i b _ hb' hc).1;have b1:=bk.1;have b2:=bk.2.1;have b3:=bk.2.2.1;exists ra so3.hy T.ad T.ie lk4 ?_;refine ra g03 T.iQ T.iG e2 ?_;exists zU (λ z=>?_) (λ z=>?_)
   ·exists uc (zaD T).mono ?_;refine ra so3.hy T.ad T.ic lk1 (zp (SqL.of so3.hc.out) (zw (Z4 hbC)) ?_);refine iE3 bC vs _ (iA5 rfl hvC rvC (by lia) (λ us' r'=>?_));refine iE2 _ _ (iA3 rfl (f3.trans (jD (Vj hbC))) ?_);have:=so3.putC hbC r';rw [qc,eb,ax z];exact this
   ·refine iE2 _ _ (iA3 rfl f3 ?_);rw [qc,eb,aq z];exact so3
  ·intro σ H2 nh;refine oE2 nh λ v3 v4 m8=>oA3 m8 λ n6 f2 so2=>?_;ext;rw [lb] at so2;exact iE2 _ _ (iA3 rfl f2 so2)
 intro σ' H2 nh;refine oE2 nh λ v3 v4 m8=>oA3 m8 λ n6 f2 so2=>?_;ext;exists ⟨y,?_⟩;refine iE4 a.p n.dx _ _ (iA6 rfl so2.hy T.ad T.ie lk4 ?_);refine iE2 _ 1 (iA3 rfl rfl (iE2 n.dx _ (iA3 so2.hy (show 4 < 1000 by decide) ?_)));rw [zir];have f3:=f2.trans (jD (x:=y) (o:=.ins a.p n.dx (sff (A.1.turn + 1) n.lc n.ls n.lg)) (by simp));exists k l us _ (f1.trans f3) (by rw [passF,hA];exact so2.putT) nl nl' (f3 _ _ nl' hl) (by rw [passF,hA];exact so1.repsT f3 rl)
def vC (T:Txt K mg a):Cal P w K mg base "pass_turn" 6 ["work","state"] [] (zd8 a):=T.lO.cal (WR T)
def zed (a:Ad):Sp:=λ vs H Q _=>∃ (v:V) (st:PSt) (p:A5),vs=[v]/\Rep H p v (J9 a st)/\st.cells.length<=100/\st.gone.length<=100/\∀ v' H',Same H H'->QH a H H' v' st->Q v' H'
def Xc (T:Txt K mg a):Cal P w K mg base "copied_state" 3 ["state"] [] (zed a):=T.kF.cal λ F=>by
 refine F.okx QJ ?_ ?_
 ·walk_at "i"
 walk_at "j";refine oE3 h λ v st p m8=>oA5 m8 λ n6 hs lc lg k=>?_;clear m8 h;subst n6;refine oE3 (Rep.ob' hs) λ y dx fs m8=>oA5 m8 λ n6 py hy g1 g2=>?_;clear m8;subst n6;obtain ⟨u1,e1,r1⟩:=g1 _ _ (Vw st);obtain ⟨u2,e2,r2⟩:=g1 _ _ (XJ st);obtain ⟨u3,e3,r3⟩:=g1 _ _ (XH st);obtain ⟨u4,e4,r4⟩:=g1 _ _ (Vx st);cases r1;walk_at "T";refine ⟨_,(zd (zl (wR (x:="State") ⟨rfl,rfl,rfl⟩ hr (za (zi (pq 0) rfl) (za (zi (pq 0) rfl) (za (zi (pq 0) rfl) (za (zi (pq 0) rfl) zb))))))),?_⟩;exists iE4 a.p _ _ _ ⟨(W0 T).mono,iE5 y a.p dx fs _ (iA6 rfl hy T.ad T.ie e1 ?_)⟩;refine ra hy T.ad T.ic e2 ?_;refine ra hy T.ad T.ip e3 ?_;refine ra hy T.ad T.ig e4 ?_;exact JW T (st:=st) r2 r3 r4 lc lg λ y' H' s' sn=>k _ _ s' sn
def zcR (a:Ad):Sp:=λ vs H Q _=>∃ (vw v:V) (st:PSt) (bs:A1) (rs:At) (p:A5),vs=[vw,v]/\Rep H (Off []) vw (qA a bs rs)/\Rep H p v (J9 a st)/\stWf bs rs st/\zQ bs rs/\(∀ b∈bs,zA b.1 b.2)/\(∀ r∈rs,r.ok) /\
 ∀ v' H',Same H H'->QH a H H' v' (passF bs rs st).1->Q v' H'
def zbP (T:Txt K mg a):Cal P w K mg base "one_turn" 7 ["work","state"] [] (zcR a):=T.l8.cal λ F=>by
 refine F.okx VI ?_ ?_
 ·walk_at "i"
 walk_at "j";refine oE6 h λ vw v st bs rs p m8=>oA8 m8 λ n6 hw hv wf nk bo ro k=>?_;clear m8 h;subst n6;have b24:=nk.1.1.2;have r24:=nk.1.2.2;walk_at "T";refine ⟨_,(ze (zt 2 VI.nd ‹(pq 1) zb›)  (ze (zO ‹(pq 0) (za (pq 2) zb)›)  (zd (zl (pq 2))))),?_⟩;exists uc (Xc T).mono (iE3 v st p (iA5 rfl hv (by rw [wf.co.1];lia) (by rw [wf.go.1];lia) (λ v' H1 s1 sn=>?_)));refine oE2 sn λ y n m8=>oA5 m8 λ n6 so1 ny nd nn=>?_;clear m8 sn;subst n6;have na:∀ b∈y :: n.all,H b=none:=λ b hb=>by
  rcases az.mp hb with rfl|hb
  ·exact ny
  ·exact nn b hb
 have hw1:Rep H1 (Off (y :: n.all)) vw (qA a bs rs):=je (hw.more (ns:=y :: n.all) λ b hb=>.inr (na b hb)) s1;exists uc (vC T).mono (iE6 vw y n st bs rs (iA8 rfl hw1 so1 wf nk bo ro (λ l us H2 f2 so2 _ _ _ _=>?_)));left;exact k _ _ (λ b o hb=>f2 b o (λ z=>by rw [na b z] at hb;cases hb) (s1 b o hb)) (iE2 y n (iA5 rfl so2 ny nd nn))
noncomputable def zf (bs:A1) (rs:At):Nat->PSt
 | 0=>qq bs rs
 | n + 1=>(passF bs rs (zf bs rs n)).1
def zfp {rs:At} (ro:∀ r∈rs,r.ok):stWf bs rs (qq bs rs):=by
 refine ⟨⟨by simp [qq],λ i b c h1 h2=>?_⟩,⟨by simp [qq],λ i r s h1 h2=>?_⟩,⟨by simp [qq],λ i r g h1 h2=>?_⟩⟩
 ·simp only [qq,am,h1,bZ,b5] at h2;subst h2;refine ⟨by simp,λ x hx=>?_⟩;rw [(bU.mp hx).2];exact Z6
 ·have hs:=aj h2;have e:s=0:=(bU.mp hs).2;subst e;have ok:=ro r (aj h1);obtain ⟨wd,ins,outs,pc,ks⟩:=r;refine iA4 (by decide) (λ hw=>?_) (λ hw=>?_) (λ _ _=>rfl)
  ·simp only at hw;subst hw;have:=ok.2.1;simp only at this ⊢
   lia
  ·simp only at hw;subst hw;have:=ok.2.1;simp only at this ⊢
   lia
 ·simp only [qq,am,h1,bZ,b5] at h2;subst h2;refine ⟨rfl,λ n hn=>?_⟩;rw [(bU.mp hn).2];decide
theorem zE {bs:A1} {rs:At} (nk:zQ bs rs) (bo:∀ b∈bs,zA b.1 b.2) (ro:∀ r∈rs,r.ok):∀ n,stWf bs rs (zf bs rs n)
 | 0=>zfp ro
 | n + 1=>zeF (zE nk bo ro n) nk bo ro
def zd7 (a:Ad):Sp:=λ vs H Q _=>∃ (vw:V) (n:Nat) (bs:A1) (rs:At),vs=[vw,.int n]/\Rep H (Off []) vw (qA a bs rs)/\zQ bs rs/\(∀ b∈bs,zA b.1 b.2)/\(∀ r∈rs,r.ok)/\n<=1000/\∀ v' H',Same H H'->QH a H H' v' (zf bs rs n)->Q v' H'
def zfC (T:Txt K mg a):Cal P w K mg base "played" 7 ["work","turns"] [] (zd7 a):=T.mF.cal λ F=>by
 refine F.okx zcY ?_ ?_
 ·walk_at "i"
 walk_at "j";refine oE4 h λ vw m bs rs m8=>oA7 m8 λ n6 hw nk bo ro hm k=>?_;clear m8 h;subst n6;have b24:=nk.1.1.2;have r24:=nk.1.2.2;walk_at "T";refine ⟨_,(ze (zt 2 zcY.nd ‹(pq 0) zb›)  (jO (qo qC rfl (wE (za (pq 1) zb)) (qf 3 zcY.nd)  (zd (zO ‹(pq 0) (za (pq 2) zb)›)))  (zd (zl (pq 2))))),?_⟩;exists uc (vX T).mono (iE4 vw bs rs _ (iA7 rfl hw b24 r24 bo ro (λ v' H1 s1 sn=>?_)));refine oE2 sn λ y n m8=>oA5 m8 λ n6 so1 ny nd nn=>?_;clear m8 sn;subst n6;have na:∀ b∈y :: n.all,H b=none:=λ b hb=>by
  rcases az.mp hb with rfl|hb
  ·exact ny
  ·exact nn b hb
 have hw1:Rep H1 (Off (y :: n.all)) vw (qA a bs rs):=je (hw.more (ns:=y :: n.all) λ b hb=>.inr (na b hb)) s1;exists cut (λ σ' H'=>∃ (v3:Aq),σ'=[some vw,some (.int m),some (.ref y),v3]/\Fr (y :: n.all) H1 H'/\StO a H' y n (zf bs rs m)) ?_ ?_
 ·walk_at "e";exists ⟨by lia,by lia,?_⟩;refine ZR (n:=(m:Int).toNat) (λ i σ H'=>∃ (v3:Aq),σ=[some vw,some (.int m),some (.ref y),v3]/\Fr (y :: n.all) H1 H'/\StO a H' y n (zf bs rs i)) ⟨_,iA3 rfl Fr.refl so1⟩ ?_ (λ σ H' h=>?_)
  ·intro i σ H2 hi nh;refine oE1 nh λ v3 m8=>oA3 m8 λ n6 f2 so2=>?_;ext;exists uc (vC T).mono (iE6 vw y n _ bs rs (iA8 rfl (hw1.fr f2) so2 (zE nk bo ro i) nk bo ro (λ l us H3 f3 so3 _ _ _ _=>?_)));exact ⟨_,iA3 rfl (f2.trans f3) so3⟩
  ·rw [show ((m:Int)).toNat=m by simp] at h;exact h
 intro σ' H2 nh;refine oE1 nh λ v3 m8=>oA3 m8 λ n6 f2 so2=>?_;ext;left;exact k _ _ (λ b o hb=>f2 b o (λ z=>by rw [na b z] at hb;cases hb) (s1 b o hb)) (iE2 y n (iA5 rfl so2 ny nd nn))
def Jm:Sp:=λ vs H Q _=>∃ a b:Int,vs=[.int a,.int b]/\0<=a/\0<=b/\Q (.int (Int.gcd a b:Int)) H
def zdg (F:Fun K "common" "common" ZC f fd):FnOk P w K mg base (CXr P w) 1 f fd ["one","other"] Jm:=by
 refine F.okx zcZ ?_ ?_
 ·walk_at "i"
 walk_at "k";obtain ⟨a,b,rfl,ha,hb,k⟩:=h;refine ⟨_,(ze (zt 2 zcZ.nd (pq 0))  (ze (zt 3 zcZ.nd (pq 1))  (ze (ZF qC (zz V2 (pq 3) zh (zC _))  (ze (zt 4 zcZ.nd (zD jn (pq 2) (pq 3)))  (ze (zt 2 zcZ.nd (pq 3))  (zd (zt 3 zcZ.nd (pq 4))))))  (zd (zl (pq 2)))))),?_⟩;walk_at "r";refine ⟨λ m σ H'=>∃ p r v,σ=[some (.int a),some (.int b),some (.int p),some (.int r),v]/\H'=H/\0<=p/\0<=r/\Int.gcd p r=Int.gcd a b/\m=r.toNat,⟨_,a,b,none,rfl,rfl,ha,hb,rfl,rfl⟩,?_⟩;rintro m σ H' ⟨p,r,v,rfl,rfl,hp,hr',hg,rfl⟩;walk_at "r";refine zU (λ h=>?_) (λ h=>?_)
 ·refine zf5 ?_;have h1:=cT p (show r≠0 by lia);have h2:=cV p h;exact ⟨h,_,by lia,r,p % r,_,rfl,rfl,hr',h1,(zfl hp h).trans hg,rfl⟩
 ·have e:r=0:=by lia
  subst e;have e2:=zgw hp;rw [hg] at e2;rw [<- e2];exact k
def Pac (ns:A6):Prop:=∀ n∈ns,0 < n/\n<=1000000000000
def Pac.nil:Pac []:=λ _ h=>nomatch h
def Pac.snoc {n:Int} (h:Pac ns) (h1:0 < n) (h2:n<=1000000000000):Pac (ns ++ [n]):=λ k hk=>by
 rcases aB.mp hk with z|z
 ·exact h k z
 ·rw [ap.mp z];exact ⟨h1,h2⟩
def Pac.at (h:Pac ns) {x:V} (e:(ns.map V.int)[i]?=some x):∃ n,x=.int n/\0 < n/\n<=1000000000000/\n∈ns/\ns.take (i + 1)=ns.take i ++ [n]:=by
 rw [am,ar] at e;obtain ⟨n,hn,rfl⟩:=e;have hm:=aj hn;refine ⟨n,iA5 rfl ((h n hm).1) ((h n hm).2) hm ?_⟩;rw [fP,hn]
 rfl
def zcT (K:A0):Sp:=λ vs H Q _=>∃ (l:Addr) (ns:A6),vs=[.ref l]/\SqL K H l (ns.map V.int)/\Pac ns/\∀ L,IsLcm ns L->Q (.int L) H
def zaG (T:Txt K mg a):Cal P w K mg base "common" 1 ["one","other"] [] Jm:=T.mE.cal zdg
def zdM (T:Txt K mg a):Cal P w K mg base "lasting" 2 ["paces"] [] (zcT K):=T.mh.cal λ F=>by
 refine F.okx za4 ?_ ?_
 ·walk_at "i"
 walk_at "k";refine oE2 h λ l ns m8=>oA4 m8 λ n6 hl hn k=>?_;clear m8 h;subst n6;refine ⟨_,(ze (zt 1 za4.nd zh)  (ze (qo qC rfl (zV (pq 0)) (qf 2 za4.nd)  (zd (zt 1 za4.nd (zD vm (zD Q8 (pq 1) ‹(pq 1) (za (pq 2) zb)›) (pq 2)))))  (zd (zl (pq 1))))),?_⟩;left;walk_at "e";refine ⟨l,rfl,.inl ⟨⟨_,hl⟩,?_⟩⟩;refine ql (K:=K) (a:=l) (xs:=ns.map V.int) (λ i σ H'=>∃ (m:Int) (v:Aq),σ=[some (V.ref l),some (V.int m),v]/\H'=H/\IsLcm (ns.take i) m) (iE2 1 none (iA3 rfl rfl IsLcm.nil)) (λ i σ H' _ ⟨_,_,_,e,_⟩=>e ▸ hl) ?_ ?_
 ·intro i x σ H1 hi nh;refine oE2 nh λ m v m8=>oA3 m8 λ n6 nu hm=>?_;clear m8 nh;subst n6 nu;refine oE1 (hn.at hi) λ p m8=>oA5 m8 λ n6 p0 p1 _ ht=>?_;clear m8;subst n6;walk_at "r";have g0:(0:Int) < (Int.gcd m p:Int):=by have:=W3 (a:=m) (b:=p) (by lia);lia
  have g1:(Int.gcd m p:Int)<=p:=W4 p0;refine iE3 _ _ _ ⟨zaG T,⟨m,p,rfl,dC hm.pos,dC p0,?_⟩⟩;walk_at "r";refine ⟨fd_ok g0 ?_,mul_okR (by lia) (by lia),?_⟩
  ·have:(1000000000000:Nat) < 2 ^ 8999:=by symm
   lia
  ·rw [fdiv_pos g0,ht];exact iE2 _ _ ⟨rfl,hm.step p0⟩
 ·intro σ H1 nh;refine oE2 nh λ m v m8=>oA3 m8 λ n6 nu hm=>?_;clear m8 nh;subst n6 nu;rw [ai,aH] at hm;walk_at "r";exact k m hm
theorem IsLcm.ex:∀ {ns:A6},Pac ns->∃ L,IsLcm ns L:=λ {ns} h=>by
 have:∀ k,k<=ns.length->∃ L,IsLcm (ns.take k) L:=λ k=>by
  induction k with
  | zero=>exact λ _=>⟨1,IsLcm.nil⟩
  | succ k ih =>
   intro hk;obtain ⟨L,hL⟩:=ih (by lia);have e:ns.take (k + 1)=ns.take k ++ [ns[k]]:=by rw [fP,ae (by lia)];rfl
   rw [e];exact ⟨_,hL.step (h _ (dE _)).1⟩
 have:=this ns.length (au _)
 rwa [aH] at this
def zjj (T:Txt K mg a) (wd:Wd):kitOne K (.ref (wM a wd)) (.ref a.l)=some (decide (wd=.drain)):=by
 cases wd
 ·exact T.ky
 ·exact T.kM
 ·exact T.kz
 ·exact T.kA
def zjh (T:Txt K mg a) (wd:Wd):kitOne K (.ref (wM a wd)) (.ref a.k)=some (decide (wd=.source)):=by
 cases wd
 ·exact T.i8
 ·exact T.kB
 ·exact T.i9
 ·exact T.ka
noncomputable def jo (wd:Wd) (rs:At) (n:Nat):List Int:=((List.range n).filter λ i=>decide (rs[i]?.map Row.wd=some wd)).map λ (i:Nat)=>(i:Int)
def xL {rs:At} {r:Row} (h:rs[n]?=some r):jo wd rs (n + 1)=jo wd rs n ++ if r.wd=wd then [(n:Int)] else []:=by
 unfold jo;rw [dR,List.filter_append,aZ]
 congr 1
 by_cases e:r.wd=wd <;> simp [h,e]
noncomputable def zF (wd:Wd) (rs:At):List Int:=jo wd rs rs.length
def xw (wd:Wd) (rs:At) (n:Nat):(jo wd rs n).length<=n:=by
 unfold jo;rw [ai];exact bd (List.length_filter_le _ _) (by simp)
def wl {rs:At} {m:Int} (h:m∈zF wd rs):∃ (i:Nat) (r:Row),m=i/\rs[i]?=some r/\r.wd=wd:=by
 unfold zF jo at h;obtain ⟨i,hi,rfl⟩:=aN.mp h;rw [cn] at hi;have h2:=bp hi.2;rw [ar] at h2;obtain ⟨r,h3,h4⟩:=h2;exact iE2 i r (iA3 rfl h3 h4)
def ZI {rs:At} {r:Row} (h:rs[i]?=some r) (hw:r.wd=wd):(i:Int)∈zF wd rs:=by
 unfold zF jo;refine aN.mpr ⟨i,cn.mpr ⟨be.mpr (aa.mp h).1,?_⟩,rfl⟩;rw [h];exact bu (by rw [<- hw];rfl)
def zea (a:Ad) (wd:Wd):Sp:=λ vs H Q _=>∃ (v:V) (bs:A1) (rs:At) (p:A5),vs=[v]/\Rep H p v (qA a bs rs)/\rs.length<=100/\∀ q H',Same H H'->H q=none->H' q=some (.lst (iv (zF wd rs)))->Q (.ref q) H'
def xW (T:Txt K mg a):MCal P w K mg base a.o "drains" 1 ["self"] [] (zea a .drain):=T.kX.cal T.ik λ F=>by
 refine F.okx Jt ?_ ?_
 ·walk_at "i"
 walk_at "j";refine oE4 h λ v bs rs p m8=>oA4 m8 λ n6 hv l100 k=>?_;clear m8 h;subst n6;refine oE7 (qO hv) λ y dx fs l1 l2 bvs n9 m8=>oA9 m8 λ n6 hy e1 e2 h1 h2 hB hK no=>?_;clear m8;subst n6;walk_at "T";refine ⟨_,(zd (zl (jr (vars:=["number","knot"]) (caps:=[]) (N:=["number","knot"]) (ON:=["self"]) (osc:=zc jK) rfl rfl (by right) rfl rfl (qZ (za (zi (pq 0) rfl) zb)) (λ _ _ _ _=>(vj (n:=2) rfl (qk (qf 0 (show (["number","knot"]:A8).Nodup from by symm)) (qk (qf 1 (show (["number","knot"]:A8).Nodup from by symm)) xH)))) (λ _ _ _ _=>(zb3 (jT (qd zbT xY (za (pq 1) (za xJ zb))) (λ _=>rfl)))) (λ _ _ _ _=>(pq 0))))),?_⟩;left;walk_at "d";exists ra hy T.ik T.ii e2 (iE2 l2 _ (iA3 rfl h2 (λ _ _ _ _ nj hacc=>?_)));refine X2 (K:=K) (a:=l2) (xs:=n9) (λ i σ H'=>∃ (v0 v1:Aq),σ=[v0,v1]/\Same H H'/\H' nj=some (.lst (iv (jo .drain rs i)))) (iE2 _ _ (iA3 rfl (zg hacc) nE)) (λ i σ H' _ h=>by obtain ⟨_,_,_,s,_⟩:=h;exact SqL.of (s _ _ h2)) ?_ ?_
 ·intro i x t σ H' hi ht nh;refine oE2 nh λ v0 v1 m8=>oA3 m8 λ n6 s7 e1'=>?_;ext;obtain ⟨r,hr',hKn⟩:=hK.at hi;refine oE6 hKn.inv λ y1 dx1 m1 m2 m3 fs1 m8=>oA9 m8 λ n6 _ _ _ _ g0 f1 f2 nu=>oA5 nu λ _ g1 g2 _ _=>?_;clear m8 nu;subst n6;have hil:=(aa.mp hr').1;have s8:=s7.trans (zg (o:=.tup [.int i,.ref y1]) ht);have e8:=nI (o:=.tup [.int i,.ref y1]) e1' ht;refine un2 nE ?_;generalize upd H' t (.tup [.int i,.ref y1])=H8 at s8 e8 ⊢;exists iE2 (.ref a.l) _ (iA3 T.mf rfl (iE4 _ _ _ _ (iA4 rfl ((WT T r.wd).ty (CT T r.wd) (s8 _ _ g0)) (.inl ⟨_,rfl,zjj T r.wd⟩) ?_)));exists zU (λ b=>?_) (λ b=>?_)
  ·refine ⟨_,iA3 e8 (zk (by have:=xw .drain rs i;rw [zH];lia)) (iE2 _ _ (iA3 rfl (λ b o hb=>by rw [nF (nH hb hacc)];exact s8 b o hb) ?_))⟩;rw [nE,xL hr',ax b,vL]
  ·exact iE2 _ _ (iA3 rfl s8 (by rw [xL hr',aq b,cZ];exact e8))
 intro σ H2 nh;refine oE2 nh λ v0 v1 m8=>oA3 m8 λ n6 s2 ha=>?_;ext;rw [hK.len] at ha;exact k _ _ s2 hacc ha
def jA (T:Txt K mg a):MCal P w K mg base a.o "sources" 1 ["self"] [] (zea a .source):=T.kJ.cal T.ik λ F=>by
 refine F.okx QK ?_ ?_
 ·walk_at "i"
 walk_at "j";refine oE4 h λ v bs rs p m8=>oA4 m8 λ n6 hv l100 k=>?_;clear m8 h;subst n6;refine oE7 (qO hv) λ y dx fs l1 l2 bvs n9 m8=>oA9 m8 λ n6 hy e1 e2 h1 h2 hB hK no=>?_;clear m8;subst n6;walk_at "T";refine ⟨_,(zd (zl (jr (vars:=["number","knot"]) (caps:=[]) (N:=["number","knot"]) (ON:=["self"]) (osc:=zc jv) rfl rfl (by right) rfl rfl (qZ (za (zi (pq 0) rfl) zb)) (λ _ _ _ _=>(vj (n:=2) rfl (qk (qf 0 (show (["number","knot"]:A8).Nodup from by symm)) (qk (qf 1 (show (["number","knot"]:A8).Nodup from by symm)) xH)))) (λ _ _ _ _=>(zb3 (jT (qd zbT xY (za (pq 1) (za xJ zb))) (λ _=>rfl)))) (λ _ _ _ _=>(pq 0))))),?_⟩;left;walk_at "d";exists ra hy T.ik T.ii e2 (iE2 l2 _ (iA3 rfl h2 (λ _ _ _ _ nj hacc=>?_)));refine X2 (K:=K) (a:=l2) (xs:=n9) (λ i σ H'=>∃ (v0 v1:Aq),σ=[v0,v1]/\Same H H'/\H' nj=some (.lst (iv (jo .source rs i)))) (iE2 _ _ (iA3 rfl (zg hacc) nE)) (λ i σ H' _ h=>by obtain ⟨_,_,_,s,_⟩:=h;exact SqL.of (s _ _ h2)) ?_ ?_
 ·intro i x t σ H' hi ht nh;refine oE2 nh λ v0 v1 m8=>oA3 m8 λ n6 s7 e1'=>?_;ext;obtain ⟨r,hr',hKn⟩:=hK.at hi;refine oE6 hKn.inv λ y1 dx1 m1 m2 m3 fs1 m8=>oA9 m8 λ n6 _ _ _ _ g0 f1 f2 nu=>oA5 nu λ _ g1 g2 _ _=>?_;clear m8 nu;subst n6;have hil:=(aa.mp hr').1;have s8:=s7.trans (zg (o:=.tup [.int i,.ref y1]) ht);have e8:=nI (o:=.tup [.int i,.ref y1]) e1' ht;refine un2 nE ?_;generalize upd H' t (.tup [.int i,.ref y1])=H8 at s8 e8 ⊢;exists iE2 (.ref a.k) _ (iA3 T.lY rfl (iE4 _ _ _ _ (iA4 rfl ((WT T r.wd).ty (CT T r.wd) (s8 _ _ g0)) (.inl ⟨_,rfl,zjh T r.wd⟩) ?_)));exists zU (λ b=>?_) (λ b=>?_)
  ·refine ⟨_,iA3 e8 (zk (by have:=xw .source rs i;rw [zH];lia)) (iE2 _ _ (iA3 rfl (λ b o hb=>by rw [nF (nH hb hacc)];exact s8 b o hb) ?_))⟩;rw [nE,xL hr',ax b,vL]
  ·exact iE2 _ _ (iA3 rfl s8 (by rw [xL hr',aq b,cZ];exact e8))
 intro σ H2 nh;refine oE2 nh λ v0 v1 m8=>oA3 m8 λ n6 s2 ha=>?_;ext;rw [hK.len] at ha;exact k _ _ s2 hacc ha
def xT (bs:A1) (rs:At) (n:Int):Prop:=(∃ b∈bs,b.2=n)\/∃ r∈rs,(r.wd=.source\/r.wd=.drain)/\r.pace=n/\0 < n
def VQ {r:Row} (h:r.ok) (hw:r.wd=.source\/r.wd=.drain):0<=r.pace/\r.pace<=4:=by
 obtain ⟨wd,ins,outs,pc,ks⟩:=r;rcases hw with hw|hw
 ·simp only at hw;subst hw;have h1:=h.2.2.1;have h2:=h.2.2.2.1;simp only at h1 h2;exact ⟨by show 0<=pc;lia,h2⟩
 ·simp only at hw;subst hw;exact ⟨h.2.2.1,h.2.2.2⟩
def zhk (a:Ad):Sp:=λ vs H Q _=>∃ (v:V) (bs:A1) (rs:At) (p:A5),vs=[v]/\Rep H p v (qA a bs rs)/\bs.length<=100/\rs.length<=100/\(∀ b∈bs,zA b.1 b.2)/\(∀ r∈rs,r.ok) /\
 ∀ L ns H',IsLcm ns L->(∀ n,n∈ns ↔ xT bs rs n)->Same H H'->Q (.int L) H'
def zae (T:Txt K mg a):MCal P w K mg base a.o "beat" 3 ["self"] [] (zhk a):=T.lU.cal T.ik λ F=>by
 refine F.okx WC ?_ ?_
 ·walk_at "i"
 walk_at "j";refine oE4 h λ v bs rs p m8=>oA7 m8 λ n6 hv lb lr bo ro k=>?_;clear m8 h;subst n6;have hv0:=hv;refine oE7 (qO hv) λ y dx fs l1 l2 bvs n9 m8=>oA9 m8 λ n6 hy e1 e2 h1 h2 hB hK no=>?_;clear m8;subst n6;walk_at "T";refine ⟨_,(ze (JC (i:=1) WC.nd rfl (Or.inl rfl) (vars:=["belt"]) (caps:=[]) (N:=["belt"]) (ON:=["self","paces","number","pace"]) (osc:=zc xE) rfl rfl (by right) rfl rfl (zV (zi (pq 0) rfl)) (λ _ _ _ _=>(qf 0 (show (["belt"]:A8).Nodup from by symm))) (λ _ _ _ _=>zX) (λ _ _ _ _=>(zi (pq 0) rfl)))  (ze (qo qC rfl (zV (zD qr (xI ⟨rfl,rfl,rfl⟩ hr (pq 0)) (xI ⟨rfl,rfl,rfl⟩ hr (pq 0)))) (qf 2 WC.nd)  (ze (zt 3 WC.nd (zi (zm (zi (pq 0) rfl) (pq 2)) rfl))  (zd (zT (zz V2 (pq 3) zh (zC _))  (zd (zO (xK aK aW aV qD (pq 1) (za (pq 3) zb))))  zu))))  (zd (zl ‹(pq 1) zb›)))),?_⟩;left;walk_at "d";exists ra hy T.ik T.iE e1 ⟨l1,rfl,.inl ⟨⟨_,SqL.of h1⟩,λ _ _ _ _ nj hacc=>?_⟩⟩;let nz:Nat->St->Hp->Prop:=λ i σ H'=>∃ (v0:Aq),σ=[v0]/\Same H H'/\H' nj=some (.lst (iv ((bs.take i).map (·.2))));refine ql (K:=K) (a:=l1) (xs:=bvs) nz ⟨_,iA3 rfl (zg hacc) (by rw [b9];exact nE)⟩ (λ i σ H' _ h=>by obtain ⟨_,_,s,_⟩:=h;exact SqL.of (s _ _ h1)) ?_ ?_
 ·intro i x σ H' hi nh;refine oE1 nh λ v0 m8=>oA3 m8 λ n6 s7 e7=>?_;ext;obtain ⟨b,hr',hBt⟩:=hB.at hi;refine oE3 hBt.inv λ y1 dx1 fs1 m8=>oA5 m8 λ n6 _ g0 f1 f2=>?_;clear m8;subst n6;have hil:=(aa.mp hr').1;exists ra (s7 _ _ g0) T.iQ T.iG f2 ?_;refine ⟨_,iA3 e7 (zk (by rw [zH,ai,aP];lia)) ⟨_,iA3 rfl (λ b o hb=>by rw [nF (nH hb hacc)];exact s7 b o hb) ?_⟩⟩;rw [nE,aG,hr',aZ,vL]
  rfl
 intro σ H2 nh;refine oE1 nh λ v0 m8=>oA3 m8 λ n6 s2 ha=>?_;ext;rw [hB.len,aH] at ha;left;walk_at "e";exists iE7 y a.o dx fs _ _ _ (iA5 rfl (s2 _ _ hy) (no _ (by symm) (by symm)) ((jA T).mono) ?_);refine iE4 _ bs rs p (iA4 rfl (hv0.keep λ b o pb hb=>⟨pb,s2 _ _ hb⟩) lr (λ q1 H3 s3 n1 hq1=>?_));refine iE7 y a.o dx fs _ _ _ (iA5 rfl (s3 _ _ (s2 _ _ hy)) (no _ (by symm) (by symm)) ((xW T).mono) ?_);refine iE4 _ bs rs p (iA4 rfl (hv0.keep λ b o pb hb=>⟨pb,s3 _ _ (s2 _ _ hb)⟩) lr (λ q2 H4 s4 n2 hq2=>?_));have l3:=xw .source rs rs.length;have l4:=xw .drain rs rs.length;refine WH (SqL.of (s4 _ _ hq1)) (SqL.of hq2) (Q2 (by rw [zH,zH];show (jo _ _ _).length + (jo _ _ _).length<=_;lia)) λ q3 hq3=>?_;rw [vv];have s5:Same H (upd H4 q3 (.lst (iv (zF .source rs ++ zF .drain rs)))):=((s2.trans s3).trans s4).trans (zg hq3);have ha5:upd H4 q3 (.lst (iv (zF .source rs ++ zF .drain rs))) nj=some (.lst (iv (bs.map (·.2)))):=nI (s4 _ _ (s3 _ _ ha)) hq3;have hq5:upd H4 q3 (.lst (iv (zF .source rs ++ zF .drain rs))) q3=some (.lst (iv (zF .source rs ++ zF .drain rs))):=nE;have nq:q3≠nj:=(nH (s4 _ _ (s3 _ _ ha)) hq3).symm;have hq0:H q3=none:=zr ((s2.trans s3).trans s4) hq3;generalize upd H4 q3 (.lst (iv (zF .source rs ++ zF .drain rs)))=H5 at s5 ha5 hq5 ⊢;refine ⟨q3,rfl,.inl ⟨⟨_,SqL.of hq5⟩,?_⟩⟩;let nA:Nat->St->Hp->Prop:=λ i σ H'=>∃ (v2 v3:Aq) (ns:A6),σ=[some (.ref y),some (.ref nj),v2,v3]/\Same H H'/\H' q3=some (.lst (iv (zF .source rs ++ zF .drain rs)))/\H' nj=some (.lst (iv ns))/\Pac ns/\ns.length<=bs.length + i/\∀ n,n∈ns ↔ n∈bs.map (·.2)\/∃ (m:Nat) (r:Row),(m:Int)∈(zF .source rs ++ zF .drain rs).take i/\rs[m]?=some r/\r.pace=n/\0 < n;refine ql (K:=K) (a:=q3) (xs:=iv (zF .source rs ++ zF .drain rs)) nA
  ⟨_,_,bs.map (·.2),rfl,s5,hq5,ha5,?_,by simp,?_⟩ (λ i σ H' _ h=>by obtain ⟨_,_,_,_,_,h,_⟩:=h;exact SqL.of h) ?_ ?_
 ·intro n hn;obtain ⟨b,hb,rfl⟩:=aN.mp hn;have:=bo b hb;exact ⟨by have:=this.2.2.1;lia,by have:=this.2.2.2;lia⟩
 ·intro n;simp
 ·intro i x σ H6 hi nh;refine oE3 nh λ v2 v3 ns m8=>oA7 m8 λ n6 s6 hq6 ha6 pn ln mem=>?_;ext;obtain ⟨m,hm,rfl⟩:=wS hi;have hmm:=aj hm;have hil:=(aa.mp hm).1;have hlen:(zF .source rs ++ zF .drain rs).length<=200:=by
   rw [aD];show (jo _ _ _).length + (jo _ _ _).length<=_
   lia
  obtain ⟨j,r,rfl,hr',hw⟩:∃ (j:Nat) (r:Row),m=j/\rs[j]?=some r/\(r.wd=.source\/r.wd=.drain):=by
   rcases aB.mp hmm with z|z
   ·obtain ⟨j,r,q1,q2,q3⟩:=wl z;exact ⟨j,r,q1,q2,.inl q3⟩
   ·obtain ⟨j,r,q1,q2,q3⟩:=wl z;exact ⟨j,r,q1,q2,.inr q3⟩
  have hp:=VQ (ro r (aj hr')) hw;obtain ⟨kv,hkv,hKn⟩:∃ kv,n9[j]?=some kv/\KnP a H p kv r:=by
   have hj:=(aa.mp hr').1;have e:n9[j]?=some (n9[j]'(by rw [hK.len];exact hj)):=ae _;exact ⟨_,e,hK.g j _ r e hr'⟩
  refine oE6 hKn.inv λ y1 dx1 m1 m2 m3 fs1 m8=>oA9 m8 λ n6 _ _ _ _ g0 _ _ nu=>oA5 nu λ _ _ _ _ fp=>?_;clear m8 nu;subst n6;exists ra (s6 _ _ hy) T.ik T.ii e2 (zp (SqL.of (s6 _ _ h2)) (zw hkv) ?_);have NP:NoAttr K (wM a r.wd) "pace":=by
   rcases hw with z|z
   ·rw [z];exact T.iy
   ·rw [z];exact T.ix
  refine iE5 y1 (wM a r.wd) dx1 fs1 _ (iA6 rfl (s6 _ _ g0) (CT T _) NP (fp hw) ?_);left;have tk:(zF .source rs ++ zF .drain rs).take (i + 1)=(zF .source rs ++ zF .drain rs).take i ++ [(j:Int)]:=by rw [aG,hm];rfl
  refine zU (λ b=>?_) (λ b=>?_)
  ·exists ⟨.inl ⟨rfl,_,SqL.of ha6⟩,iE3 nj _ _ (iA5 rfl rfl ha6 (zk (by rw [zH];lia)) ?_)⟩;rw [vL];refine iE3 _ _ (ns ++ [r.pace]) (iA7 rfl (λ b o hb=>by rw [nF (nH hb hacc)];exact s6 b o hb) (by rw [nF nq];exact hq6) nE (pn.snoc b (by lia)) (by simp;lia) (λ n=>?_));rw [aB,mem n,ap,tk];constructor
   ·rintro ((h|⟨m',r',h1,h2,h3,h4⟩)|h)
    ·exact .inl h
    ·exact .inr (iE2 m' r' (iA4 (bS _ h1) h2 h3 h4))
    ·subst h;exact .inr (iE2 j r (iA4 (a7 _ (ap.mpr rfl)) hr' rfl b))
   ·rintro (h|⟨m',r',h1,h2,h3,h4⟩)
    ·exact .inl (.inl h)
    ·rcases aB.mp h1 with h1|h1
     ·exact .inl (.inr (iE2 m' r' (iA4 h1 h2 h3 h4)))
     ·have e:m'=j:=by have:=ap.mp h1;lia
      subst e;rw [hr'] at h2;cases h2;exact .inr h3.symm
  ·refine iE3 _ _ ns (iA7 rfl s6 hq6 ha6 pn (by lia) (λ n=>?_));rw [mem n,tk];constructor
   ·rintro (h|⟨m',r',h1,h2,h3,h4⟩)
    ·exact .inl h
    ·exact .inr (iE2 m' r' (iA4 (bS _ h1) h2 h3 h4))
   ·rintro (h|⟨m',r',h1,h2,h3,h4⟩)
    ·exact .inl h
    ·rcases aB.mp h1 with h1|h1
     ·exact .inr (iE2 m' r' (iA4 h1 h2 h3 h4))
     ·have e:m'=j:=by have:=ap.mp h1;lia
      subst e;rw [hr'] at h2;cases h2
      lia
 ·intro σ H6 nh;refine oE3 nh λ v2 v3 ns m8=>oA7 m8 λ n6 s6 hq6 ha6 pn ln mem=>?_;ext;rw [zH,aH] at mem;exists uc (zdM T).mono (iE2 nj ns (iA4 rfl (SqL.of ha6) pn (λ L hL=>k L ns _ hL (λ n=>?_) s6)));rw [mem n];unfold xT;constructor
  ·rintro (h|⟨m',r',h1,h2,h3,h4⟩)
   ·obtain ⟨b,hb,e⟩:=aN.mp h;exact .inl ⟨b,hb,e⟩
   ·refine .inr ⟨r',iA4 (aj h2) ?_ h3 h4⟩;rcases aB.mp h1 with z|z
    ·refine oE2 (wl z) λ j r m8=>oA3 m8 λ q1 q2 q3=>?_;clear m8;have e:m'=j:=by lia
     subst e;rw [h2] at q2;cases q2;exact .inl q3
    ·refine oE2 (wl z) λ j r m8=>oA3 m8 λ q1 q2 q3=>?_;clear m8;have e:m'=j:=by lia
     subst e;rw [h2] at q2;cases q2;exact .inr q3
  ·rintro (⟨b,hb,e⟩|⟨r,hr',hw,h3,h4⟩)
   ·exact .inl (aN.mpr ⟨b,hb,e⟩)
   ·obtain ⟨m',hm'⟩:=aU hr';refine .inr (iE2 m' r (iA4 ?_ hm' h3 h4));rcases hw with hw|hw
    ·exact bS _ (ZI hm' hw)
    ·exact a7 _ (ZI hm' hw)
def xz {G:Addr} {ags:Ab} {gss:List A6} {g:A6} (h:NL H p G ags (z9 gss)) (e:gss[i]?=some g):∃ b,ags[i]?=some b/\H b=some (.lst (iv g)):=by
 obtain ⟨b,vs,h1,h2,h3⟩:=h.at (i:=i) (xs:=g.map D.int) (by rw [z9,am,e];rfl);rw [Ja h3] at h2;exact ⟨b,h1,h2⟩
noncomputable def kdW (rs:At) (x:Int × Int):Int:=jJ ((rs[x.1.toNat]?.map Row.kinds).getD []) x.2
noncomputable def zn (rs:At) (c:Av):List A9:=c.map λ wr=>wr.map (kdW rs)
def zcU (a:Ad):Sp:=λ vs H Q _=>∃ (vw:V) (cb:Addr) (us:Ap) (bs:A1) (rs:At) (c:Av) (p q:A5),vs=[vw,.ref cb]/\Rep H p vw (qA a bs rs)/\H cb=some (.lst us)/\Reps H q us (c.map zZ)/\(∀ wr∈c,wV rs wr)/\(∀ r∈rs,r.ok)/\c.length<=6/\∀ t H',Same H H'->H t=none->H' t=some (.tup ((zn rs c).map oiV))->Q (.ref t) H'
theorem zbQ (T:Txt K mg a):Cal P w K mg base "kinds_in" 2 ["work","cells"] [] (zcU a):=T.l9.cal λ F=>by
 refine F.okx VJ ?_ ?_
 ·walk_at "i"
 walk_at "j";refine oE8 h λ vw cb us bs rs c p q m8=>oA8 m8 λ n6 hw hcb rus wk ro c6 k=>?_;clear m8 h;subst n6;have lu:us.length=c.length:=by rw [rus.len,ai]
 walk_at "T";refine ⟨_,(zd (zl (wg Z1 Z3 (za (jr (vars:=["ware"]) (caps:=[0]) (N:=["ware","work"]) (ON:=["work","cells"]) (osc:=zc ww) rfl rfl (by right) rfl rfl (zV (pq 1)) (λ _ _ _ _=>(qf 0 (show (["ware","work"]:A8).Nodup from by symm))) (λ _ _ _ _=>zX) (λ _ _ _ _=>(we (zz jI (pq 0) zM (zC _)) zM (Zi hr (za (pq 1) (za (pq 0) zb)))))) zb)))),?_⟩;walk_at "d";exists ⟨cb,rfl,.inl ⟨⟨_,SqL.of hcb⟩,λ _ _ _ _ nj hacc=>?_⟩⟩;let nz:Nat->St->Hp->Prop:=λ j σ H'=>∃ (v0:Aq),σ=[v0,some vw]/\Same H H'/\H' nj=some (.lst ((zn rs (c.take j)).map oiV));refine ql (K:=K) (a:=cb) (xs:=us) nz ⟨_,iA3 rfl (zg hacc) nE⟩ (λ i σ H' _ h=>by obtain ⟨_,_,s,_⟩:=h;exact SqL.of (s _ _ hcb)) ?_ ?_
 ·intro j v σ H1 hj nh;refine oE1 nh λ v0 m8=>oA3 m8 λ n6 s1 ha=>?_;ext;obtain ⟨d,hd,rv⟩:=rus.at hj;rw [am,ar] at hd;obtain ⟨wr,hwr,rfl⟩:=hd;have hjl:=(aa.mp hwr).1;have e:(zn rs (c.take (j + 1))).map oiV=(zn rs (c.take j)).map oiV ++ [oiV (wr.map (kdW rs))]:=by
   rw [aG,hwr];simp [zn]
  have lk:((zn rs (c.take j)).map oiV).length<=6:=by simp [zn];lia
  have sn:∀ (x:V),Same H (upd H1 nj (.lst ((zn rs (c.take j)).map oiV ++ [x]))):=λ x b o hb=>by rw [nF (nH hb hacc)];exact s1 b o hb
  cases wr with
  | none =>
   have rv:Rep H q v .non:=rv;cases rv;left;exact ⟨_,iA3 ha (zk (by lia)) ⟨_,iA3 rfl (sn _) (by rw [nE,e];rfl)⟩⟩
  | some x =>
   obtain ⟨tx,rfl,htx⟩:=jU (b:=x) rv;refine oE2 (wk _ (aj hwr) x.1 x.2 rfl) λ jj r m8=>oA4 m8 λ e1 hr' hs _=>?_;clear m8;have kp:0 < r.kinds.length:=by
    have ok:=ro r (aj hr');unfold Row.ok at ok;rw [hs] at ok;have:=ok.2.2.2.2.1
    lia
   have hw1:Rep H1 p vw (qA a bs rs):=hw.keep λ b o hb ho=>⟨hb,s1 _ _ ho⟩;have rx:Rep H1 q (.ref tx) (.tup [.int jj,.int x.2]):=by
    have:=rv.keep (H':=H1) (q:=q) λ b o hb ho=>⟨hb,s1 _ _ ho⟩;have e2:zZ (some x)=.tup [.int x.1,.int x.2]:=rfl;rw [e2,e1] at this;exact this
   exists uc (X8 T).mono (iE5 vw (.ref tx) bs rs p (iE4 q jj x.2 r (iA7 rfl hw1 rx hr' hs kp ?_)));refine ⟨_,iA3 ha (zk (by lia)) ⟨_,iA3 rfl (sn _) ?_⟩⟩;rw [nE,e];show _=some (HO.lst (_ ++ [V.int (kdW rs x)]))
   unfold kdW;rw [e1,aE,hr']
   rfl
 intro σ H1 nh;refine oE1 nh λ v0 m8=>oA3 m8 λ n6 s1 ha=>?_;ext;rw [lu,aH] at ha;refine iE2 nj _ ⟨rfl,.inl ⟨SqL.of ha,λ t ht=>?_⟩⟩;exact k t _ (s1.trans (zg ht)) (zr s1 ht) nE
def Qx (bs:A1) (rs:At) (L:Int):Prop:=∃ ns,IsLcm ns L/\∀ n,n∈ns ↔ xT bs rs n
def zfJ {rs:At} {L L':Int} (h:Qx bs rs L) (h':Qx bs rs L'):L=L':=by
 obtain ⟨ns,i,m⟩:=h;obtain ⟨ns',i',m'⟩:=h';have d:L ∣ L':=i.least _ λ n hn=>i'.dv n ((m' n).mpr ((m n).mp hn));have d':L' ∣ L:=i'.least _ λ n hn=>i.dv n ((m n).mpr ((m' n).mp hn));exact Int.dvd_antisymm (dC i.pos) (dC i'.pos) d d'
open Classical in
noncomputable def xS (bs:A1) (rs:At):Int:=if h:∃ L,Qx bs rs L then Classical.choose h else 1
def Xe {rs:At} (h:Qx bs rs L):L=xS bs rs:=by
 unfold xS;rw [dif_pos ⟨L,h⟩];exact zfJ h (Classical.choose_spec (⟨L,h⟩:∃ L,Qx bs rs L))
noncomputable def jy (rs:At) (st:PSt) (j:Int):Int:=match rs[j.toNat]? with
 | some r=>(st.gone.getD j.toNat []).headD 0 % (r.kinds.length:Int)
 | none=>0
noncomputable def Z7 (bs:A1) (rs:At) (st:PSt):ShK:=(some (st.turn % xS bs rs),st.cells.map (zn rs),st.sides.map some,(zF .source rs).map λ j=>some (jy rs st j))
def VB (a:Ad):Sp:=λ vs H Q _=>∃ (vw:V) (y:Addr) (n:SN) (j:Nat) (bs:A1) (rs:At) (st:PSt) (r:Row) (p:A5),vs=[vw,.ref y,.int j]/\Rep H p vw (qA a bs rs)/\StO a H y n st/\rs[j]?=some r/\r.wd=.source/\r.ok/\stWf bs rs st/\Q (.int (jy rs st j)) H
def Vf (T:Txt K mg a):Cal P w K mg base "kind_place" 1 ["work","state","number"] [] (VB a):=T.ly.cal λ F=>by
 refine F.okx Xo ?_ ?_
 ·walk_at "i"
 walk_at "j";refine oE5 h λ vw y n j bs m8=>oE4 m8 λ rs st r p n6=>oA8 n6 λ nu hv so hr' hs ok wf k=>?_;clear m8 n6 h;subst nu;refine oE7 (qO hv) λ yw dx fs l1 l2 bvs n9 m8=>oA9 m8 λ n6 hy e1 e2 h1 h2 hB hK no=>?_;clear m8;subst n6;obtain ⟨kv,hkv,hKn⟩:=WY hK hr';refine oE6 hKn.inv λ y1 dx1 m1 m2 m3 fs1 m8=>oA9 m8 λ n6 _ _ _ _ g0 _ _ nu=>oA5 nu λ _ _ _ g3 _=>?_;clear m8 nu;subst n6;obtain ⟨g3a,g3b⟩:=g3 hs;have kp:0 < r.kinds.length:=by
  unfold Row.ok at ok;rw [hs] at ok;have:=ok.2.2.2.2.1
  lia
 have hj:=(aa.mp hr').1;obtain ⟨g,hg⟩:∃ g,st.gone[j]?=some g:=⟨_,ae (by rw [wf.go.1];exact hj)⟩;have q1:=(wf.go.2 j r g hr' hg).1;have cp:=xA ok;obtain ⟨gh,gs,rfl⟩:=eT (List.ne_nil_of_length_pos (by lia:0 < g.length));obtain ⟨bG,hbG,hgG⟩:=xz so.hg hg;have hmap:(n.ags.map V.ref)[j]?=some (.ref bG):=by rw [am,hbG];rfl
 have ek:jy rs st j=gh % (r.kinds.length:Int):=by
  unfold jy;rw [aE,hr',ah,hg]
  rfl
 rw [ek] at k;walk_at "T";refine ⟨_,(zd (zl (zD jn (zm (zm (zi (pq 1) rfl) (pq 2)) zh) (qd qi qg (za (zi (zm (zi (pq 0) rfl) (pq 2)) rfl) zb))))),?_⟩;exists ra so.hy T.ad T.ig rfl (zp (SqL.of so.hg.out) (zw hmap) (zp (SqL.of hgG) at0 ?_));exists ra hy T.ik T.ii e2 (zp (SqL.of h2) (zw hkv) ?_);refine iE5 y1 (wM a r.wd) dx1 fs1 _ (iA6 rfl g0 (CT T _) (by rw [hs];exact T.iw) g3a ?_);refine ⟨_,.inl ⟨_,SqL.of g3b,rfl⟩,?_⟩;rw [zH];left;exact ⟨by lia,k⟩
theorem WG {H:Hp} {p:A5}:∀ c:List A9,Reps H p (c.map oiV) (c.map oiD)
 | []=>.nil
 | none :: c=>.cons .non (WG c)
 | some n :: c=>.cons .int (WG c)
def zbh {t:Addr} {c:List A9} (h:H t=some (.tup (c.map oiV))):Rep H (zG H) (.ref t) (.tup (c.map oiD)):=(WG c).mkT ⟨_,h⟩ h
def Jg {H H':Hp} {d:D} (r:Rep H (zG H) v d) (s:Same H H'):Rep H' (zG H') v d:=r.keep λ b o ⟨xs,hx⟩ hb=>⟨⟨xs,s _ _ hx⟩,s _ _ hb⟩
def XF {H H':Hp} {ds:List D} (r:Reps H (zG H) vs ds) (s:Same H H'):Reps H' (zG H') vs ds:=r.keep λ b o ⟨xs,hx⟩ hb=>⟨⟨xs,s _ _ hx⟩,s _ _ hb⟩
def zeL {rs:At} {m:Int} (h:m∈zF wd rs):∃ (j:Nat) (r:Row),m=j/\rs[j]?=some r/\r.wd=wd:=by
 unfold zF jo at h;obtain ⟨j,hj,rfl⟩:=aN.mp h;obtain ⟨h1,h2⟩:=cn.mp hj;have h2:=bp h2;obtain ⟨r,hr,e⟩:=ar.mp h2;exact iE2 j r (iA3 rfl hr e)
def zfS (a:Ad):Sp:=λ vs H Q _=>∃ (vw:V) (y:Addr) (n:SN) (bs:A1) (rs:At) (st:PSt) (p:A5),vs=[vw,.ref y]/\Rep H p vw (qA a bs rs)/\StO a H y n st/\stWf bs rs st/\bs.length<=24/\rs.length<=24/\(∀ b∈bs,zA b.1 b.2)/\(∀ r∈rs,r.ok)/\∀ t H',Same H H'->Rep H' (zG H') (.ref t) (shD (Z7 bs rs st))->Q (.ref t) H'
def zbO (T:Txt K mg a):Cal P w K mg base "shape_of" 4 ["work","state"] [] (zfS a):=T.ma.cal λ F=>by
 refine F.okx VH ?_ ?_
 ·walk_at "i"
 walk_at "j";refine oE7 h λ vw y n bs rs st p m8=>oA9 m8 λ n6 hv so wf b24 r24 bo ro k=>?_;clear m8 h;subst n6;refine oE7 (qO hv) λ yw dx fs l1 l2 bvs n9 m8=>oA9 m8 λ n6 hy e1 e2 h1 h2 hB hK no=>?_;clear m8;subst n6;walk_at "T";refine ⟨_,(ze (zt 2 VH.nd (zD jn (zi (pq 1) rfl) (xI ⟨rfl,rfl,rfl⟩ hr (pq 0))))  (ze (zt 3 VH.nd (wg Z1 Z3 (za (jr (vars:=["cells"]) (caps:=[0]) (N:=["cells","work"]) (ON:=["work","state","beat_place","kinds","places"]) (osc:=zc xn) rfl rfl (by right) rfl rfl (zV (zi (pq 1) rfl)) (λ _ _ _ _=>(qf 0 (show (["cells","work"]:A8).Nodup from by symm))) (λ _ _ _ _=>zX) (λ _ _ _ _=>(Zi hr (za (pq 1) (za (pq 0) zb))))) zb)))  (ze (zt 4 VH.nd (wg Z1 Z3 (za (jr (vars:=["number"]) (caps:=[0,1]) (N:=["number","work","state"]) (ON:=["work","state","beat_place","kinds","places"]) (osc:=zc xn) rfl rfl (by right) rfl rfl (zV (xI ⟨rfl,rfl,rfl⟩ hr (pq 0))) (λ _ _ _ _=>(qf 0 (show (["number","work","state"]:A8).Nodup from by symm))) (λ _ _ _ _=>zX) (λ _ _ _ _=>(Zi hr (za (pq 1) (za (pq 2) (za (pq 0) zb)))))) zb)))  (zd (zl (jm (za (pq 2) (za (pq 3) (za (wg Z1 Z3 (za (zi (pq 1) rfl) zb)) (za (pq 4) zb)))))))))),?_⟩;exists ra so.hy T.ad T.ie rfl ?_;refine iE7 yw a.o dx fs _ _ _ (iA5 rfl hy (no _ (by symm) (by symm)) ((zae T).mono) ?_);refine iE4 (.ref yw) bs rs p (iA7 rfl hv (by lia) (by lia) bo ro (λ L ns H1 il im s1=>?_));have lp:=il.pos;have eL:=Xe ⟨ns,il,im⟩;left;rw [eL];clear il im lp eL;have so1:=so.same s1;have hv1:Rep H1 p (.ref yw) (qA a bs rs):=hv.keep λ b o hb ho=>⟨hb,s1 _ _ ho⟩;have lc:n.acs.length=st.cells.length:=by rw [so.hc.len,zI,ai]
 have lcb:st.cells.length=bs.length:=wf.co.1;walk_at "d";exists ra so1.hy T.ad T.ic rfl ⟨n.lc,rfl,.inl ⟨⟨_,SqL.of so1.hc.out⟩,λ _ _ _ _ nj hacc=>?_⟩⟩;let nz:Nat->St->Hp->Prop:=λ i σ H'=>∃ (v0:Aq) (us:Ap),σ=[v0,some (.ref yw)]/\Same H1 H'/\H' nj=some (.lst us)/\us.length=i/\Reps H' (zG H') us ((st.cells.take i).map λ c=>.tup ((zn rs c).map oiD));refine ql (K:=K) (a:=n.lc) (xs:=n.acs.map V.ref) nz (iE2 _ ([]) (iA5 rfl (zg hacc) nE rfl (.nil))) (λ i σ H' _ h=>by obtain ⟨_,_,_,s,_⟩:=h;exact SqL.of (s _ _ so1.hc.out)) ?_ ?_
 ·intro i x σ H2 hi nh;refine oE2 nh λ v0 us m8=>oA5 m8 λ n6 s2 ha lu ru=>?_;ext;rw [am,ar] at hi;obtain ⟨cb,hcb,rfl⟩:=hi;have hil:i < st.cells.length:=by rw [<- lc];exact (aa.mp hcb).1
  obtain ⟨c,ec⟩:∃ c,st.cells[i]?=some c:=⟨_,ae hil⟩;obtain ⟨vs,hvs,rvs⟩:=so1.hc.g i cb _ hcb (show (zI st.cells)[i]?=some (c.map zZ) by rw [zI,am,ec];rfl);obtain ⟨b,hb⟩:∃ b,bs[i]?=some b:=⟨_,ae (by rw [<- wf.co.1];exact hil)⟩;obtain ⟨lc6,wk⟩:=wf.co.2 i b c hb ec;have bk:=(bo b (aj hb)).2.1;exists uc (zbQ T).mono (iE8 (.ref yw) cb vs bs rs c p _ (iA8 rfl (hv1.keep (λ b o hb ho=>⟨hb,s2 _ _ ho⟩)) (s2 _ _ hvs) (rvs.keep (λ b o hb ho=>⟨hb,s2 _ _ ho⟩)) wk ro (by lia) (λ t H3 s3 nt ht=>?_)));have nta:∀ b,zG H3 b->b≠nj:=λ b ⟨xs,hx⟩ z=>by rw [z,s3 _ _ ha] at hx;cases hx
  refine ⟨_,iA3 (s3 _ _ ha) (zk (by lia)) (iE2 _ (us ++ [.ref t]) (iA5 rfl (λ b o hb=>by rw [nF (nH hb hacc)];exact s3 _ _ (s2 b o hb)) nE (by simp [lu]) ?_))⟩;rw [aG,ec,aZ];refine ((XF ru s3).append (.one (zbh ht))).keep λ b o tb hb=>?_;have ne:=nta b tb;obtain ⟨xs,hx⟩:=tb;exact ⟨⟨xs,by rw [nF ne];exact hx⟩,by rw [nF ne];exact hb⟩
 intro σ H2 nh;refine oE2 nh λ v0 us m8=>oA5 m8 λ n6 s2 ha lu ru=>?_;ext;rw [ai,lc,aH] at ru;refine iE2 nj _ ⟨rfl,.inl ⟨SqL.of ha,λ t1 ht1=>?_⟩⟩;have s3:=zg (o:=.tup us) ht1;have ru3:=XF ru s3;have hT1:upd H2 t1 (.tup us) t1=some (.tup us):=nE;have s13:=s2.trans s3;generalize upd H2 t1 (.tup us)=H3 at s3 ru3 hT1 s13 ⊢;have r1:Rep H3 (zG H3) (.ref t1) (.tup ((st.cells.map (zn rs)).map λ r=>.tup (r.map oiD))):=by
  rw [cY];exact ru3.mkT ⟨_,hT1⟩ hT1
 clear ru ru3 ha hT1 s2 s3;have so3:=so1.same s13;have hv3:Rep H3 p (.ref yw) (qA a bs rs):=hv1.keep λ b o hb ho=>⟨hb,s13 _ _ ho⟩;exists iE7 yw a.o dx fs _ _ _ (iA5 rfl (s13 _ _ (s1 _ _ hy)) (no _ (by symm) (by symm)) ((jA T).mono) ?_);refine iE4 (.ref yw) bs rs p (iA4 rfl hv3 (by lia) (λ q H4 s4 nq hq=>?_));have ln:=xw .source rs rs.length;have so4:=so3.same s4;have hv4:Rep H4 p (.ref yw) (qA a bs rs):=hv3.keep λ b o hb ho=>⟨hb,s4 _ _ ho⟩;refine ⟨q,rfl,.inl ⟨⟨_,SqL.of hq⟩,λ _ _ _ _ ac2 hac2=>?_⟩⟩;let nA:Nat->St->Hp->Prop:=λ i σ H'=>∃ (v0:Aq),σ=[v0,some (.ref yw),some (.ref y)]/\Same H4 H'/\H' ac2=some (.lst ((((zF .source rs).take i).map λ j=>some (jy rs st j)).map oiV));refine ql (K:=K) (a:=q) (xs:=iv (zF .source rs)) nA ⟨_,iA3 rfl (zg hac2) nE⟩ (λ i σ H' _ h=>by obtain ⟨_,_,s,_⟩:=h;exact SqL.of (s _ _ hq)) ?_ ?_
 ·intro i x σ H5 hi nh;refine oE1 nh λ v0 m8=>oA3 m8 λ n6 s5 ha=>?_;ext;obtain ⟨m,hm,rfl⟩:=wS hi;have hil:=(aa.mp hm).1;refine oE2 (zeL (aj hm)) λ jj r m8=>oA3 m8 λ n6 hr' hs=>?_;clear m8;subst n6;have ln:(zF .source rs).length<=rs.length:=ln;exists uc (Vf T).mono (iE5 (.ref yw) y n jj bs (iE4 rs st r p (iA8 rfl (hv4.keep (λ b o hb ho=>⟨hb,s5 _ _ ho⟩)) (so4.same s5) hr' hs (ro r (aj hr')) wf ?_)));refine ⟨_,iA3 ha (zk (by rw [ai,ai,aP];lia)) ⟨_,iA3 rfl (λ b o hb=>by rw [nF (nH hb hac2)];exact s5 b o hb) ?_⟩⟩;rw [nE,aG,hm];simp [oiV]
 intro σ H5 nh;refine oE1 nh λ v0 m8=>oA3 m8 λ n6 s5 ha=>?_;ext;rw [zH,aH] at ha;refine iE2 ac2 _ ⟨rfl,.inl ⟨SqL.of ha,λ t2 ht2=>?_⟩⟩;have s6:=zg (o:=.tup (((zF .source rs).map λ j=>some (jy rs st j)).map oiV)) ht2;have hT2:upd H5 t2 (.tup (((zF .source rs).map λ j=>some (jy rs st j)).map oiV)) t2=some (.tup (((zF .source rs).map λ j=>some (jy rs st j)).map oiV)):=nE;have s36:=(s4.trans s5).trans s6;generalize upd H5 t2 (.tup (((zF .source rs).map λ j=>some (jy rs st j)).map oiV))=H6 at s36 hT2 ⊢;have so6:=so3.same s36;exists ra so6.hy T.ad T.ip rfl (iE2 n.ls _ ⟨rfl,.inl ⟨SqL.of so6.hs,λ t3 ht3=>?_⟩⟩);intro t4 ht4;have s7:=zg (o:=.tup (iv st.sides)) ht3;have hT3:upd H6 t3 (.tup (iv st.sides)) t3=some (.tup ((st.sides.map some).map oiV)):=by rw [nE,cY];rfl
 generalize upd H6 t3 (.tup (iv st.sides))=H7 at s7 hT3 ht4 ⊢;have s8:=zg (o:=.tup [.int (st.turn % xS bs rs),.ref t1,.ref t3,.ref t2]) ht4;have hT4:upd H7 t4 (.tup [.int (st.turn % xS bs rs),.ref t1,.ref t3,.ref t2]) t4=some (.tup [.int (st.turn % xS bs rs),.ref t1,.ref t3,.ref t2]):=nE;generalize upd H7 t4 (.tup [.int (st.turn % xS bs rs),.ref t1,.ref t3,.ref t2])=H8 at s8 hT4 ⊢;refine k t4 H8 ((s1.trans s13).trans (s36.trans (s7.trans s8))) ?_;exact Reps.mkT (vs:=[.int (st.turn % xS bs rs),.ref t1,.ref t3,.ref t2]) (.cons .int (.cons (Jg r1 (s36.trans (s7.trans s8))) (.cons (Jg (zbh hT3) s8) (.cons (Jg (zbh hT2) (s7.trans s8)) .nil)))) ⟨_,hT4⟩ hT4
noncomputable abbrev qm (bs:A1) (rs:At) (i:Nat):ShK:=Z7 bs rs (zf bs rs i)
structure RoundAt (bs:A1) (rs:At) (lim i j:Nat):Prop where
 lt:i < j
 le:j<=lim
 eq:qm bs rs i=qm bs rs j
 fst:∀ x y,x < y->y < j->qm bs rs x≠qm bs rs y
def vQ (bs:A1) (rs:At) (lim:Nat):Prop:=∀ x y,x < y->y<=lim->qm bs rs x≠qm bs rs y
def RoundAt.one {rs:At} {lim lim' i j i' j':Nat} (h:RoundAt bs rs lim i j) (h':RoundAt bs rs lim' i' j'):i=i'/\j=j':=by
 have ej:j=j':=by
  rcases fk j j' with z|z|z
  ·exact absurd h.eq (h'.fst i j h.lt z)
  ·exact z
  ·exact absurd h'.eq (h.fst i' j' h'.lt z)
 subst ej;refine ⟨?_,rfl⟩;rcases fk i i' with z|z|z
 ·exact absurd (h.eq.trans h'.eq.symm) (h.fst i i' z h'.lt)
 ·exact z
 ·exact absurd (h'.eq.trans h.eq.symm) (h.fst i' i z h.lt)
def RoundAt.no {rs:At} {lim i j:Nat} (h:RoundAt bs rs lim i j):¬ vQ bs rs lim:=λ z=>z i j h.lt h.le h.eq
def Nxt (H H':Hp):Prop:=∀ b u,H b=some u->(∀ φ,u≠.ext φ)->H' b=some u
def Same.nxt {H H':Hp} (s:Same H H'):Nxt H H':=λ b u hb _=>s b u hb
def Nxt.trans {H H' H2:Hp} (a:Nxt H H') (b:Nxt H' H2):Nxt H H2:=λ c u hc n=>b c u (a c u hc n) n
def zgl {D:Addr} {φ:Heap->Prop} (h:H D=some (.ext φ)):Nxt H (upd H D o):=λ b u hb n=>by
 rw [nF (λ z=>by rw [z,h] at hb;cases hb;exact n φ rfl)];exact hb
def zeP {H H':Hp} {G:Addr} {as:Ab} {xss:List (List D)} (h:NL H (zG H) G as xss) (s:Nxt H H'):NL H' (zG H') G as xss:=by
 refine h.tup λ b o c hb=>s b o hb λ φ z=>?_;subst z;rcases c with c|c|⟨xs,c⟩
 ·rw [c,h.out] at hb;cases hb
 ·obtain ⟨vs,hv⟩:=h.isl (aA _ c);rw [hv] at hb;cases hb
 ·rw [c] at hb;cases hb
def StO.nxt {H H':Hp} {y:Addr} {n:SN} {st:PSt} (h:StO a H y n st) (s:Nxt H H'):StO a H' y n st:=⟨s _ _ h.hy (λ φ z=>by cases z),zeP h.hc s,s _ _ h.hs (λ φ z=>by cases z),zeP h.hg s,h.nd⟩
def zfQ {H H':Hp} {d:D} (r:Rep H (zG H) v d) (s:Nxt H H'):Rep H' (zG H') v d:=r.keep λ b o ⟨xs,hx⟩ hb=>by
 have e:=s b _ hx (λ φ z=>by cases z);rw [hx] at hb;cases hb;exact ⟨⟨xs,e⟩,e⟩
structure SD (a:Ad) (H:Hp) (bs:A1) (rs:At) (xs:List (ShK × Addr × Addr)) (t:Nat):Prop where
 len:xs.length=t
 at':∀ (i:Nat) x,xs[i]?=some x->x.1=qm bs rs i/\Rep H (zG H) (.ref x.2.1) (shD x.1)/\∃ n,StO a H x.2.2 n (zf bs rs i)
 fst:∀ x y,x < y->y < t->qm bs rs x≠qm bs rs y
def SD.nxt {H H':Hp} {rs:At} {xs:List (ShK × Addr × Addr)} {t:Nat} (h:SD a H bs rs xs t) (s:Nxt H H'):SD a H' bs rs xs t:=⟨h.len,λ i x e=>by
 refine oA3 (h.at' i x e) λ e1 r m8=>oE1 m8 λ n so=>?_;clear m8;exact (iA3 e1 (zfQ r s) ⟨n,so.nxt s⟩),h.fst⟩
def SD.keys {rs:At} {xs:List (ShK × Addr × Addr)} {t:Nat} (h:SD a H bs rs xs t):keysOk H xs:=λ x hx=>by
 obtain ⟨i,hi⟩:=aU hx;exact ⟨_,(h.at' i x hi).2.1⟩
def SD.look {rs:At} {xs:List (ShK × Addr × Addr)} {t:Nat} {k:ShK} {y:Addr} (h:SD a H bs rs xs t) (e:xM xs k=some y):∃ i n,i < t/\qm bs rs i=k/\StO a H y n (zf bs rs i):=by
 unfold xM at e;obtain ⟨x,hx,rfl⟩:=ar.mp e;have hk:x.1=k:=by
  have:=find?_some hx;simpa using this
 obtain ⟨i,hi⟩:=aU (List.mem_of_find?_eq_some hx);refine oA3 (h.at' i x hi) λ e1 _ m8=>oE1 m8 λ n so=>?_;clear m8;exact iE2 i n (iA3 (by rw [<- h.len];exact (aa.mp hi).1) (e1.symm.trans hk) so)
def SD.new {rs:At} {xs:List (ShK × Addr × Addr)} {t:Nat} {k:ShK} (h:SD a H bs rs xs t) (e:xM xs k=none):∀ i,i < t->qm bs rs i≠k:=λ i hi z=>by
 obtain ⟨x,hx⟩:∃ x,xs[i]?=some x:=⟨_,ae (by rw [h.len];exact hi)⟩;unfold xM at e;rw [Option.map_eq_none_iff,hX] at e;exact e x (aj hx) (bu ((h.at' i x hx).1.trans z))
def SD.add {rs:At} {xs:List (ShK × Addr × Addr)} {t:Nat} {b y:Addr} {n:SN} (h:SD a H bs rs xs t) (e:xM xs (qm bs rs t)=none) (r:Rep H (zG H) (.ref b) (shD (qm bs rs t))) (so:StO a H y n (zf bs rs t)):SD a H bs rs (xs ++ [(qm bs rs t,b,y)]) (t + 1):=by
 refine ⟨by simp [h.len],λ i x hx=>?_,λ u v huv hv=>?_⟩
 ·by_cases hi:i < xs.length
  ·rw [aT hi] at hx;exact h.at' i x hx
  ·rw [aQ (by lia)] at hx;have hz:=(aa.mp hx).1;have:i=t:=by simp at hz;have:=h.len;lia
   subst this;rw [h.len,gi] at hx;cases hx;exact iA3 rfl r ⟨n,so⟩
 ·rcases Nat.lt_or_ge v t with z|z
  ·exact h.fst u v huv z
  ·have:v=t:=by lia
   subst this;exact h.new e u huv
def Vz (a:Ad):Sp:=λ vs H Q E=>∃ (vw:V) (lim:Nat) (bs:A1) (rs:At),vs=[vw,.int lim]/\Rep H (Off []) vw (qA a bs rs)/\zQ bs rs/\(∀ b∈bs,zA b.1 b.2)/\(∀ r∈rs,r.ok)/\lim<=1000 /\
 (∀ i j t y0 y1 n0 n1 H',RoundAt bs rs lim i j->Same H H'->H' t=some (.tup [.ref y0,.ref y1])->StO a H' y0 n0 (zf bs rs i)->StO a H' y1 n1 (zf bs rs j)->Q (.ref t) H') /\
 (vQ bs rs lim->∀ H',Same H H'->E (.ref a.g) none H')
theorem ZX (T:Txt K mg a):Cal P w K mg base "round_ends" 8 ["work","limit"] [] (Vz a):=T.lz.cal λ F=>by
 refine F.okx Xm ?_ ?_
 ·walk_at "i"
 walk_at "j";refine oE4 h λ vw lim bs rs m8=>oA8 m8 λ n6 hv nk bo ro l1000 kQ kE=>?_;clear m8 h;subst n6;have b24:=nk.1.1.2;have r24:=nk.1.2.2;walk_at "T";refine ⟨_,(zo (zt 2 Xm.nd ‹(pq 0) zb›)  (zo (zt 3 Xm.nd zgd)  (jO (qo qC rfl (wE (za (zD qr (pq 1) zh) zb)) (qf 4 Xm.nd)  (zo (zt 5 Xm.nd ‹(pq 0) (za (pq 2) zb)›)  (zo (zT (zev (zhy hr.units1 (pq 5) (pq 3)) (by with_unfolding_all rfl))  (zd (zl (jm (za (zge hr.units1 (pq 3) (pq 5) (λ _ _=>rfl)) (za (pq 2) zb)))))  zu)  (zo (zga hr.units1 (pq 3) (pq 5) (pq 2) rfl)  (zd (zt 2 Xm.nd ‹(pq 0) (za (pq 2) zb)›))))))  (zd (qB ⟨rfl,rfl,rfl⟩ rfl (za jb zb)))))),?_⟩;exists uc (vX T).mono (iE4 vw bs rs _ (iA7 rfl hv b24 r24 bo ro (λ v' H1 s1 sn=>?_)));refine oE2 sn λ y nn m8=>oA5 m8 λ n6 so _ _ _=>?_;clear m8 sn;subst n6;left;intro D hD;have sD:=zg (o:=sdO P w D []) hD;have nD:H D=none:=zr s1 hD;have s2:=s1.trans sD;have so2:=so.same sD;have hD2:upd H1 D (sdO P w D []) D=some (sdO P w D []):=nE;generalize upd H1 D (sdO P w D [])=H2 at s2 so2 hD2 ⊢;clear so s1 sD hD;left;let nz:St->Hp->Prop:=λ σ' H'=>∃ (v2 v4 v5:Aq),σ'=[some vw,some (.int lim),v2,some (.ref D),v4,v5]/\Same H H'/\vQ bs rs lim;refine cut nz ?_ ?_
 ·walk_at "e";exists ⟨by lia,by lia,?_⟩;refine ZR (n:=((lim:Int) + 1).toNat) (λ t σ H'=>∃ (v4 v5:Aq) (y:Addr) (n:SN) (xs:List (ShK × Addr × Addr)),σ=[some vw,some (.int lim),some (.ref y),some (.ref D),v4,v5]/\Same H H'/\H' D=some (sdO P w D xs)/\StO a H' y n (zf bs rs t)/\SD a H' bs rs xs t) (iE5 _ _ y nn ([]) (iA5 rfl s2 hD2 so2 ⟨rfl,λ i x e=>by simp at e,λ x y _ z=>absurd z (Nat.not_lt_zero _)⟩)) ?_ ?_
  ·clear so2 hD2 s2;intro t σ H3 ht nh;refine oE5 nh λ v4 v5 y n xs m8=>oA5 m8 λ n6 s3 hD3 so3 sd3=>?_;ext;have ht':t<=lim:=by lia
   have lx:=sd3.len;exists uc (zbO T).mono (iE7 vw y n bs rs (zf bs rs t) _ (iA9 rfl (hv.same s3) so3 (zE nk bo ro t) b24 r24 bo ro (λ b H4 s4 r4=>?_)));have hD4:=s4 _ _ hD3;have so4:=so3.same s4;have sd4:=sd3.nxt (Same.nxt s4);have s04:=s3.trans s4;clear hD3 so3 sd3 s3 s4;exists iE5 D b xs _ _ (iA6 rfl rfl hD4 sd4.keys r4 ?_);cases el:xM xs (qm bs rs t) with
   | some y0 =>
    refine oE2 (sd4.look el) λ i n0 m8=>oA3 m8 λ hi ei so0=>?_;clear m8;exists iE6 D b xs _ _ y0 (iA7 rfl rfl hD4 sd4.keys r4 el (λ q hq=>?_));have sq:=zg (o:=.tup [.ref y0,.ref y]) hq;exact kQ i t q y0 y n0 n _ ⟨hi,ht',ei,sd4.fst⟩ (s04.trans sq) nE (so0.same sq) (so4.same sq)
   | none =>
    exists iE6 D b xs _ _ y (iA9 rfl rfl rfl hD4 sd4.keys r4 el (zk (by lia)) ?_);have nx:Nxt H4 (upd H4 D (sdO P w D (xs ++ [(qm bs rs t,b,y)]))):=zgl hD4;have so5:=so4.nxt nx;have sd5:=(sd4.add el r4 so4).nxt nx;have hD5:upd H4 D (sdO P w D (xs ++ [(qm bs rs t,b,y)])) D=some (sdO P w D (xs ++ [(qm bs rs t,b,y)])):=nE;have s5:Same H (upd H4 D (sdO P w D (xs ++ [(qm bs rs t,b,y)]))):=λ c u hc=>by rw [nF (nH hc nD)];exact s04 c u hc
    generalize upd H4 D (sdO P w D (xs ++ [(qm bs rs t,b,y)]))=H5 at so5 sd5 hD5 s5 ⊢;exists uc (zbP T).mono (iE6 vw (.ref y) (zf bs rs t) bs rs _ (iA8 rfl (hv.same s5) so5.rep (zE nk bo ro t) nk bo ro (λ v' H6 s6 sn=>?_)));refine oE2 sn λ y2 n2 m8=>oA3 m8 λ n6 so6 _=>?_;clear m8 sn;subst n6;exact iE5 _ _ y2 n2 _ (iA5 rfl (s5.trans s6) (s6 _ _ hD5) so6 (sd5.nxt (Same.nxt s6)))
  ·intro σ H3 nh;refine oE5 nh λ v4 v5 y n xs m8=>oA5 m8 λ n6 s3 hD3 so3 sd3=>?_;ext;exact iE3 _ _ _ (iA3 rfl s3 (λ x y hxy hy=>sd3.fst x y hxy (by lia)))
 intro σ' H3 nh;refine oE3 nh λ v2 v4 v5 m8=>oA3 m8 λ n6 s3 nr=>?_;ext;left;exact ⟨a.g,iA3 T.mt T.my (kE nr H3 s3)⟩
noncomputable def jC (old new:A6):List Int:=(List.range old.length).map λ p=>new.getD p 0 - old.getD p 0
noncomputable def js (gs0 gs1:List A6):List A6:=List.zipWith jC gs0 gs1
def zdB {gs0 gs1:List A6} {g0 g1:A6} (h0:gs0[i]?=some g0) (h1:gs1[i]?=some g1):js (gs0.take (i + 1)) (gs1.take (i + 1))=js (gs0.take i) (gs1.take i) ++ [jC g0 g1]:=by
 unfold js;rw [aG,aG,h0,h1];have l0:=(aa.mp h0).1;have l1:=(aa.mp h1).1;rw [List.zipWith_append (by rw [aP,aP];lia)]
 rfl
def zec (a:Ad):Sp:=λ vs H Q _=>∃ (y0 y1:Addr) (n0 n1:SN) (s0 s1:PSt),vs=[.ref y0,.ref y1]/\StO a H y0 n0 s0/\StO a H y1 n1 s1/\s0.gone.length=s1.gone.length/\s0.gone.length<=24/\(∀ (i:Nat) g0 g1,s0.gone[i]?=some g0->s1.gone[i]?=some g1->g0.length=g1.length/\g0.length<=4) /\
 ∀ l as H',Same H H'->NL H' (zG H') l as (z9 (js s0.gone s1.gone))->(∀ b∈l :: as,H b=none)->Q (.ref l) H'
def QF (T:Txt K mg a):Cal P w K mg base "growth_of" 1 ["before","after"] [] (zec a):=T.lP.cal λ F=>by
 refine F.okx Wy ?_ ?_
 ·walk_at "i"
 walk_at "j";refine oE6 h λ y0 y1 n0 n1 s0 s1 m8=>oA7 m8 λ n6 so0 so1 le l24 lg k=>?_;clear m8 h;subst n6;have la0:n0.ags.length=s0.gone.length:=by rw [so0.hg.len,z9,ai]
 have la1:n1.ags.length=s0.gone.length:=by rw [so1.hg.len,z9,ai,le]
 walk_at "T";refine ⟨_,(ze (zt 2 Wy.nd (qe zb))  (ze (qo qC rfl (zey (za (zi (pq 0) rfl) (za (zi (pq 1) rfl) zb))) (vj (n:=2) rfl (qk (vH (i:=3) Wy.nd rfl (Or.inr rfl)) (qk (vH (i:=4) Wy.nd rfl (Or.inr rfl)) xH)))  (zd (zO (xK aK aW aV qD (pq 2) (za (jr (vars:=["place"]) (caps:=[4,3]) (N:=["place","new","old"]) (ON:=["before","after","growth","old","new"]) (osc:=zc xD) rfl rfl (by right) rfl rfl (wE (za (qd qi qg (za (pq 3) zb)) zb)) (λ _ _ _ _=>(qf 0 (show (["place","new","old"]:A8).Nodup from by symm))) (λ _ _ _ _=>zX) (λ _ _ _ _=>(zD xv (zm (pq 1) (pq 0)) (zm (pq 2) (pq 0))))) zb)))))  (zd (zl (pq 2))))),?_⟩;left;intro l hl;have sl:=zg (o:=.lst []) hl;have nl0:NL (upd H l (.lst [])) (zG (upd H l (.lst []))) l [] (z9 (js (s0.gone.take 0) (s1.gone.take 0))):=WX nE;generalize upd H l (.lst [])=H1 at sl nl0 ⊢;have so10:=so0.same sl;have so11:=so1.same sl;walk_at "e";exists ra so10.hy T.ad T.ig rfl (ra so11.hy T.ad T.ig rfl (iE6 true true n0.lg n1.lg _ _ (iA4 rfl (SqL.of so10.hg.out) (SqL.of so11.hg.out) ?_)));let nz:Nat->St->Hp->Prop:=λ i σ H'=>∃ (v3 v4:Aq) (as:Ab),σ=[some (.ref y0),some (.ref y1),some (.ref l),v3,v4]/\Same H H'/\NL H' (zG H') l as (z9 (js (s0.gone.take i) (s1.gone.take i)))/\∀ b∈as,H b=none;refine zg7 (K:=K) (xs:=n0.ags.map V.ref) (ys:=n1.ags.map V.ref) nz (iE3 _ _ ([]) (iA4 rfl sl nl0 (by simp))) (λ i σ H' _ h=>by obtain ⟨_,_,_,_,s,_⟩:=h;exact ⟨SqL.of (s _ _ so0.hg.out),SqL.of (s _ _ so1.hg.out)⟩) ?_ ?_
 ·intro i x z t σ H2 hi hj ht nh;refine oE3 nh λ v3 v4 as m8=>oA4 m8 λ n6 s2 nl2 fa=>?_;ext;rw [am,ar] at hi hj;obtain ⟨b0,hb0,rfl⟩:=hi;obtain ⟨b1,hb1,rfl⟩:=hj;have hil:i < s0.gone.length:=by rw [<- la0];exact (aa.mp hb0).1
  obtain ⟨g0,e0⟩:∃ g,s0.gone[i]?=some g:=⟨_,ae hil⟩;obtain ⟨g1,e1⟩:∃ g,s1.gone[i]?=some g:=⟨_,ae (by rw [<- le];exact hil)⟩;obtain ⟨lg1,lg4⟩:=lg i g0 g1 e0 e1;obtain ⟨c0,q0,h0⟩:=xz so0.hg e0;obtain ⟨c1,q1,h1⟩:=xz so1.hg e1;rw [hb0] at q0;cases q0;rw [hb1] at q1;cases q1;have st:=zg (o:=.tup [.ref b0,.ref b1]) ht;have s3:=s2.trans st;have nl3:=nl2.tup (H':=upd H2 t (.tup [.ref b0,.ref b1])) λ b o _ hb=>st b o hb;refine un2 nE ?_;generalize upd H2 t (.tup [.ref b0,.ref b1])=H3 at s3 nl3 ⊢;have las:as.length<=24:=by rw [nl3.len,z9,ai,js,gw,aP,aP];lia
  exists ⟨.inl ⟨rfl,_,SqL.of nl3.out⟩,?_⟩;walk_at "d";exists ⟨_,.inl ⟨_,SqL.of (s3 _ _ h0),rfl⟩,?_⟩;rw [zH];exists ⟨by lia,by lia,λ _ _ _ _ nj hacc=>?_⟩;let nA:Nat->St->Hp->Prop:=λ j σ H'=>∃ (v0:Aq),σ=[v0,some (.ref b1),some (.ref b0)]/\Same H3 H'/\H' nj=some (.lst (iv ((List.range j).map λ p=>g1.getD p 0 - g0.getD p 0)));refine ZR (n:=((g0.length:Int)).toNat) nA ⟨_,iA3 rfl (zg hacc) nE⟩ ?_ ?_
  ·intro j σ H4 hj nh;refine oE1 nh λ v0 m8=>oA3 m8 λ n6 s4 ha=>?_;ext;have hjl:j < g0.length:=by lia
   left;simp only [ef];refine zp (SqL.of (s4 _ _ (s3 _ _ h1))) (zw (j9 (qh (d:=0) (by lia:j < g1.length)))) (zp (SqL.of (s4 _ _ (s3 _ _ h0))) (zw (j9 (qh (d:=0) hjl))) ?_);exists ⟨_,iA3 ha (zk (by rw [zH,ai,dM];lia)) ⟨_,iA3 rfl (λ b o hb=>by rw [nF (nH hb hacc)];exact s4 b o hb) ?_⟩⟩;rw [nE,vL,dR,aZ]
   rfl
  intro σ H4 nh;refine oE1 nh λ v0 m8=>oA3 m8 λ n6 s4 ha=>?_;ext;rw [show ((g0.length:Int)).toNat=g0.length by lia] at ha;have nl4:=nl3.tup (H':=H4) λ b o _ hb=>s4 b o hb;have nb:nj ∉ as:=λ z=>by
   obtain ⟨vs,h⟩:=nl3.isl (aA _ z);rw [hacc] at h;cases h
  have nG:nj≠l:=λ z=>by rw [z,nl3.out] at hacc;cases hacc
  have ntG:¬ zG H4 l:=λ ⟨xs,hx⟩=>by rw [nl4.out] at hx;cases hx
  refine iE3 l _ _ (iA5 rfl rfl nl4.out (zk (by rw [ai];lia)) ?_);have np:=nl4.push (b:=nj) (vs:=iv (jC g0 g1)) (ys:=(jC g0 g1).map D.int) ha nb nG ntG reps_ints;refine iE3 _ _ (as ++ [nj]) (iA4 rfl (λ b o hb=>by rw [nF (nH hb hl)];exact s4 _ _ (s3 _ _ hb)) ?_ (λ b hb=>?_))
  ·rw [zdB e0 e1,show z9 (js (s0.gone.take i) (s1.gone.take i) ++ [jC g0 g1])=z9 (js (s0.gone.take i) (s1.gone.take i)) ++ [(jC g0 g1).map D.int] by simp [z9]];refine np.keep (λ _ _ _ hc=>hc) λ c hc _=>?_;obtain ⟨xs,hx⟩:=hc;exact ⟨xs,by rw [nF (λ z=>by rw [z,nl4.out] at hx;cases hx)];exact hx⟩
  ·rcases aB.mp hb with hb|hb
   ·exact fa b hb
   ·rw [ap.mp hb];exact zr s3 hacc
 ·intro σ H2 nh;refine oE3 nh λ v3 v4 as m8=>oA4 m8 λ n6 s2 nl2 fa=>?_;ext;rw [ai,ai,la0,la1,gj,aH,show List.take s0.gone.length s1.gone=s1.gone by rw [le];exact aH] at nl2;exists k l as _ s2 nl2 λ b hb=>?_;rcases az.mp hb with rfl|hb
  ·exact hl
  ·exact fa b hb
def Vv {st:PSt} {fb:A9}:(zR st k fb).2.turn=st.turn/\(zR st k fb).2.sides=st.sides/\(zR st k fb).2.gone=st.gone:=by
 cases fb <;> exact ⟨rfl,rfl,rfl⟩
def V0 {st:PSt} {x:zq} {tb:A9}:(vh st x tb).turn=st.turn/\(vh st x tb).sides=st.sides/\(vh st x tb).gone=st.gone:=by
 cases tb <;> exact ⟨rfl,rfl,rfl⟩
def movedF_keep {r:Row} {st:PSt} {ch:Ak}:(movedF r st k ch).turn=st.turn/\(movedF r st k ch).sides=st.sides/\(movedF r st k ch).gone=st.gone:=by
 obtain ⟨a1,a2,a3⟩:=Vv (st:=st) (k:=k) (fb:=qz r ch);obtain ⟨b1,b2,b3⟩:=V0 (st:=(zR st k (qz r ch)).2) (x:=(zR st k (qz r ch)).1) (tb:=vZ r ch);exact ⟨b1.trans a1,b2.trans a2,b3.trans a3⟩
def jt {α:Type} {xs:List α} {k j:Nat} {x d:α} (h:k≠j):(xs.set k x).getD j d=xs.getD j d:=by
 rw [ah,ah,bT h]
def zdT (rs:At) (st:PSt) (k:Nat):(qt rs st k).1.turn=st.turn/\∀ j,k < j->(qt rs st k).1.sides.getD j 0=st.sides.getD j 0/\(qt rs st k).1.gone.getD j []=st.gone.getD j []:=by
 unfold qt;cases rs[k]? with
 | none=>exact ⟨rfl,λ _ _=>⟨rfl,rfl⟩⟩
 | some r =>
  simp only;cases z6 r (z8 rs st.cells r) (qN st.cells r) st.turn (st.sides.getD k 0).toNat with
  | none=>exact ⟨rfl,λ _ _=>⟨rfl,rfl⟩⟩
  | some ch =>
   obtain ⟨c1,c2,c3⟩:=movedF_keep (r:=r) (st:=st) (k:=k) (ch:=ch);refine ⟨c1,λ j hj=>⟨?_,?_⟩⟩
   ·show ((movedF r st k ch).sides.set k _).getD j 0=_
    rw [jt (by lia),c2]
   ·show ((movedF r st k ch).gone.set k _).getD j []=_
    rw [jt (by lia),c3]
theorem QG (rs:At) (st:PSt):∀ i,(zx rs st i).1.turn=st.turn/\∀ j,i<=j->(zx rs st i).1.sides.getD j 0=st.sides.getD j 0/\(zx rs st i).1.gone.getD j []=st.gone.getD j []
 | 0=>⟨rfl,λ _ _=>⟨rfl,rfl⟩⟩
 | i + 1=>by
  obtain ⟨h1,h2⟩:=QG rs st i;obtain ⟨g1,g2⟩:=zdT rs (zx rs st i).1 i;refine ⟨g1.trans h1,λ j hj=>?_⟩;obtain ⟨a1,a2⟩:=h2 j (by lia);obtain ⟨b1,b2⟩:=g2 j (by lia);exact ⟨b1.trans a1,b2.trans a2⟩
theorem qu (bs:A1) (rs:At):∀ n,(zf bs rs n).turn=n
 | 0=>rfl
 | n + 1=>by
  show (zx rs (zf bs rs n) rs.length).1.turn + 1=_
  rw [(QG rs (zf bs rs n) rs.length).1,qu bs rs n]
  rfl
def zgE (g:A6) (j p:Nat):g.getD p 0<=(Zq g j).getD p 0:=by
 unfold Zq;by_cases e:j=p
 ·subst e;by_cases h:j < g.length
  ·rw [ah (l:=g.set _ _),a9 h];show _<=g.getD j 0 + 1
   lia
  ·rw [dI (by lia)];exact b8 _
 ·rw [jt e];exact b8 _
def Xg (rs:At) (st:PSt) (k i p:Nat):(st.gone.getD i []).getD p 0<=((qt rs st k).1.gone.getD i []).getD p 0:=by
 unfold qt;cases rs[k]? with
 | none=>exact b8 _
 | some r =>
  simp only;cases z6 r (z8 rs st.cells r) (qN st.cells r) st.turn (st.sides.getD k 0).toNat with
  | none=>exact b8 _
  | some ch =>
   obtain ⟨c1,c2,c3⟩:=movedF_keep (r:=r) (st:=st) (k:=k) (ch:=ch);show _<=(((movedF r st k ch).gone.set k _).getD i []).getD p 0
   rw [c3];by_cases e:k=i
   ·subst e;by_cases h:k < st.gone.length
    ·rw [ah (l:=st.gone.set _ _),a9 h];exact zgE _ _ _
    ·rw [dI (by lia)];exact b8 _
   ·rw [jt e];exact b8 _
theorem Wg (rs:At) (st:PSt) (i p:Nat):∀ m,(st.gone.getD i []).getD p 0<=((zx rs st m).1.gone.getD i []).getD p 0
 | 0=>b8 _
 | m + 1=>Int.le_trans (Wg rs st i p m) (Xg rs _ m i p)
theorem jH (bs:A1) (rs:At) (n i p:Nat):∀ m,((zf bs rs n).gone.getD i []).getD p 0<=((zf bs rs (n + m)).gone.getD i []).getD p 0
 | 0=>b8 _
 | m + 1=>Int.le_trans (jH bs rs n i p m) (Wg rs (zf bs rs (n + m)) i p rs.length)
noncomputable def QO (bs:A1) (rs:At) (i j:Nat):List A6:=js (zf bs rs i).gone (zf bs rs j).gone
def Qt {rs:At} {s0 s1:PSt} (ro:∀ r∈rs,r.ok) (w0:stWf bs rs s0) (w1:stWf bs rs s1):s0.gone.length=s1.gone.length/\∀ (i:Nat) g0 g1,s0.gone[i]?=some g0->s1.gone[i]?=some g1->g0.length=g1.length/\g0.length<=4:=by
 refine ⟨by rw [w0.go.1,w1.go.1],λ i g0 g1 e0 e1=>?_⟩;have hi:=(aa.mp e0).1;obtain ⟨r,hr⟩:∃ r,rs[i]?=some r:=⟨_,ae (by rw [<- w0.go.1];exact hi)⟩;have q0:=(w0.go.2 i r g0 hr e0).1;have q1:=(w1.go.2 i r g1 hr e1).1;have rl:=wb (ro r (aj hr));refine ⟨by lia,?_⟩;rw [q0];have:=a8 (n:=max r.ins.length r.outs.length) (a:=(0:Int));show (qE r).length<=4
 unfold qE;rw [a8]
 lia
theorem zf1 {rs:At} {i j:Nat} (ro:∀ r∈rs,r.ok) (nk:zQ bs rs) (bo:∀ b∈bs,zA b.1 b.2) (h:i<=j):∀ g∈QO bs rs i j,g.length<=4/\∀ n∈g,0<=n:=λ g hg=>by
 obtain ⟨q,hq⟩:=aU hg;unfold QO js at hq;rw [eD] at hq;obtain ⟨le,lg⟩:=Qt ro (zE nk bo ro i) (zE nk bo ro j);cases e0:(zf bs rs i).gone[q]? with
 | none=>rw [e0] at hq;simp at hq
 | some g0 =>
  cases e1:(zf bs rs j).gone[q]? with
  | none=>rw [e0,e1] at hq;simp at hq
  | some g1 =>
   rw [e0,e1] at hq;have hq:jC g0 g1=g:=by simpa using hq
   subst hq;obtain ⟨l1,l2⟩:=lg q g0 g1 e0 e1;refine ⟨by unfold jC;rw [ai,dM];exact l2,λ n hn=>?_⟩;unfold jC at hn;obtain ⟨p,_,rfl⟩:=aN.mp hn;have:=jH bs rs i q p (j - i);rw [show i + (j - i)=j by lia,ah (l:=(zf bs rs i).gone),ah (l:=(zf bs rs j).gone),e0,e1] at this;simp only [aJ] at this
   lia
def zgY (a:Ad) (R:List (Int × Int)->List Row->Nat->Nat->Hp->V->Hp->Prop):Sp:=λ vs H Q E=>∃ (vw:V) (lim:Nat) (bs:A1) (rs:At),vs=[vw,.int lim]/\Rep H (Off []) vw (qA a bs rs)/\zQ bs rs/\(∀ b∈bs,zA b.1 b.2)/\(∀ r∈rs,r.ok)/\lim<=1000 /\
 (∀ i j v H',RoundAt bs rs lim i j->Same H H'->R bs rs i j H v H'->Q v H')/\(vQ bs rs lim->∀ H',Same H H'->E (.ref a.g) none H')
def zbZ (CN:Addr):Sp:=λ vs H Q E=>∃ t b:Int,vs=[.int t,.int b]/\b.natAbs < 2 ^ 8000/\if b=0 then E (.ref CN) none H else ∀ p,H p=none->Q (.ref p) (upd H p (.tup [.int (jS t b),.int (ratB t b)]))
def zeI {CN:Addr} (kj:mg "NoRatio"=some (.ref CN)) (xN:XC K CN) (kN:mg "abs"=none) (cC:Cal P w K mg base "common" 1 ["one","other"] [] Jm)
  (F:Fun K "ratio" "ratio" Q3 f fd):FnOk P w K mg base (CXr P w) 2 f fd ["top","bottom"] (zbZ CN):=by
 refine F.okx zei ?_ ?_
 ·walk_at "i"
 walk_at "k";refine oE2 h λ t b m8=>oA3 m8 λ n6 hb8 k=>?_;clear m8 h;subst n6;refine ⟨_,(ze (zT (zz (JP hr.units1) (pq 1) zh (zC _))  (zd (qB ⟨rfl,rfl,rfl⟩ rfl (za jb zb)))  zu)  (ze (zt 2 zei.nd ‹(qd zfI zfG (za (pq 0) zb)) (za (qd zfI zfG (za (pq 1) zb)) zb)›)  (ze (zT (zz JO (pq 1) zh (zC _))  (zd (zt 2 zei.nd (JI vY (pq 2))))  zu)  (zd (zl (jm (za (zD Q8 (pq 0) (pq 2)) (za (zD Q8 (pq 1) (pq 2)) zb)))))))),?_⟩;exists zU (λ hb=>?_) (λ hb=>?_)
 ·rw [ax hb] at k;exact ⟨CN,iA3 kj xN k⟩
 ·rw [aq hb] at k;refine iE3 _ _ _ (iA4 cC kN kN ⟨_,_,rfl,by split <;> lia,by split <;> lia,?_⟩);rw [zgS];have hp:=zgg (top:=t) hb;have h89:(QP t b).natAbs < 2 ^ 8999:=bj hp.2 (fo hb8 (gG (by decide) (by decide)));have hf:∀ i,CFd i (QP t b):=λ i=>zhY hp.1 h89;walk_at "r";by_cases hs:b < 0
  ·rw [ax hs];have e:-(Int.gcd t b:Int)=QP t b:=by unfold QP;rw [ax hs]
   rw [e];exact ⟨hf _,hf _,k⟩
  ·rw [aq hs];have e:(Int.gcd t b:Int)=QP t b:=by unfold QP;rw [aq hs]
   rw [e];exact ⟨hf _,hf _,k⟩
def zcC (T:Txt K mg a):Cal P w K mg base "ratio" 2 ["top","bottom"] [] (zbZ a.c):=T.mO.cal (zeI T.kj T.mw T.kN (zaG T))
def Xk (L:Int) (g:A6):List D:=g.map λ n=>.tup [.int (jS n L),.int (ratB n L)]
def ziw (bs:A1) (rs:At) (i j:Nat) (H:Hp) (v:V) (H':Hp):Prop:=∃ l as,v=.ref l/\NL H' (zG H') l as ((QO bs rs i j).map (Xk ((j:Int) - i)))/\∀ b∈l :: as,H b=none
def WQ (T:Txt K mg a) (F:FunD K "shares_of" "shares_of" qF f fd):FnOk P w K mg base (CXr P w) 9 f fd ["work","limit"] (zgY a ziw):=by
 refine F.okx Wt ?_ ?_
 ·walk_at "i"
 walk_at "j";refine oE4 h λ vw lim bs rs m8=>oA8 m8 λ n6 hv nk bo ro l1000 kQ kE=>?_;clear m8 h;subst n6;walk_at "T";refine ⟨_,(ze (zt 2 Wt.nd ‹(pq 0) (za (pq 1) zb)›)  (ze (JB (i:=3) Wt.nd rfl (Or.inr rfl) (zD xv (zi (zm (pq 2) zh) rfl) (zi (zm (pq 2) zh) rfl)))  (ze (zt 4 Wt.nd (qe zb))  (ze (qo qC rfl (zV ‹(zm (pq 2) zh) (za (zm (pq 2) zh) zb)›) (qf 5 Wt.nd)  (zd (zO (xK aK aW aV qD (pq 4) (za (jr (vars:=["count"]) (caps:=[3]) (N:=["count","length"]) (ON:=["work","limit","ends","length","shares","counts"]) (osc:=zc qF) rfl rfl (by right) rfl rfl (zV (pq 5)) (λ _ _ _ _=>(qf 0 (show (["count","length"]:A8).Nodup from by symm))) (λ _ _ _ _=>zX) (λ _ _ _ _=>(Zi hr (za (pq 0) (za (pq 1) zb))))) zb)))))  (zd (zl (pq 4))))))),?_⟩;exists uc (ZX T).mono (iE4 vw lim bs rs (iA8 rfl hv nk bo ro l1000 (λ i j t y0 y1 n0 n1 H1 rnd s1 ht so0 so1=>?_) kE));obtain ⟨le,lg⟩:=Qt ro (zE nk bo ro i) (zE nk bo ro j);have l24:(zf bs rs i).gone.length<=24:=by rw [(zE nk bo ro i).go.1];exact nk.1.2.2
 have rp:=zf1 ro nk bo (bw rnd.lt);have rl:(QO bs rs i j).length<=24:=by
  unfold QO js;rw [gw]
  lia
 have hij:=rnd.lt;have hj:=rnd.le;exists nJ ht (show atI _ 1=some (.ref y1) from rfl) (ra so1.hy T.ad T.ie rfl ?_);refine nJ ht at0 (ra so0.hy T.ad T.ie rfl ?_);left;rw [qu,qu];intro l hl;have sl:=zg (o:=.lst []) hl;have nl0:H l=none:=zr s1 hl;have hl1:upd H1 l (.lst []) l=some (.lst []):=nE;have s2:=s1.trans sl;have ht2:=sl _ _ ht;have so20:=so0.same sl;have so21:=so1.same sl;generalize upd H1 l (.lst [])=H2 at hl1 s2 ht2 so20 so21 ⊢;clear sl ht so0 so1 s1 hl;walk_at "e";exists uc (QF T).mono (nJ ht2 at0 (nJ ht2 (show atI _ 1=some (.ref y1) from rfl) ?_));refine iE6 y0 y1 n0 n1 _ _ (iA7 rfl so20 so21 le l24 lg (λ gl gs H3 s3 ng fg=>?_));have ng:NL H3 (zG H3) gl gs (z9 (QO bs rs i j)):=ng;have lgs:gs.length=(QO bs rs i j).length:=by rw [ng.len,z9,ai]
 have kQ:∀ v H',Same H H'->(∃ l as,v=.ref l/\NL H' (zG H') l as ((QO bs rs i j).map (Xk ((j:Int) - i)))/\∀ b∈l :: as,H b=none)->Q v H':=λ v H' s r=>kQ i j v H' rnd s r;generalize QO bs rs i j=G at ng lgs rp rl kQ;have offl:∀ b∈gl :: gs,b ∉ [l]:=λ b hb z=>by
  have:=fg b hb;rw [ap.mp z,hl1] at this;cases this
 have s03:=s2.trans s3;have hl3:=s3 _ _ hl1;have Lp:((j:Int) - i)≠0:=by lia
 have L8:((j:Int) - i).natAbs < 2 ^ 8000:=Jn (bj (show ((j:Int) - i).natAbs<=1000 by lia) (by decide));generalize (j:Int) - i=L at Lp L8 kQ;refine ⟨gl,rfl,.inl ⟨⟨_,SqL.of ng.out⟩,?_⟩⟩;refine ql (K:=K) (a:=gl) (xs:=gs.map V.ref) (λ m σ H'=>∃ (v5:Aq) (as:Ab),σ=[some vw,some (.int lim),some (.ref t),some (.int L),some (.ref l),v5]/\Fr [l] H3 H'/\NL H' (zG H') l as ((G.take m).map (Xk L))/\∀ b∈as,H b=none) (iE2 _ ([]) (iA4 rfl Fr.refl (WX hl3) (by simp))) (λ m σ H' _ h=>by obtain ⟨_,_,_,f,_⟩:=h;exact SqL.of (f _ _ (offl gl (by simp)) ng.out)) ?_ ?_
 ·intro m x σ H4 hm nh;refine oE2 nh λ v5 as m8=>oA4 m8 λ n6 f4 nl4 fa=>?_;ext;rw [am,ar] at hm;obtain ⟨b,hb,rfl⟩:=hm;have hml:m < G.length:=by rw [<- lgs];exact (aa.mp hb).1
  obtain ⟨g,eg⟩:∃ g,G[m]?=some g:=⟨_,ae hml⟩;obtain ⟨b',hb',hg⟩:=xz ng eg;rw [hb] at hb';cases hb';have hg4:=f4 _ _ (offl b (aA _ (aj hb))) hg;obtain ⟨g4,_⟩:=rp g (aj eg);have la:as.length<=24:=by rw [nl4.len,ai,aP];lia
  exists ⟨.inl ⟨rfl,_,SqL.of nl4.out⟩,?_⟩;walk_at "d";exists ⟨b,rfl,.inl ⟨⟨_,SqL.of hg4⟩,λ _ _ _ _ nj hacc=>?_⟩⟩;refine ql (K:=K) (a:=b) (xs:=iv g) (λ q σ H'=>∃ (v0:Aq) (ws:Ap),σ=[v0,some (.int L)]/\Same H4 H'/\H' nj=some (.lst ws)/\ws.length=q/\Reps H' (zG H') ws (Xk L (g.take q))) (iE2 _ ([]) (iA5 rfl (zg hacc) nE rfl (.nil))) (λ q σ H' _ h=>by obtain ⟨_,_,_,s,_⟩:=h;exact SqL.of (s _ _ hg4)) ?_ ?_
  ·intro q x σ H5 hq nh;refine oE2 nh λ v0 ws m8=>oA5 m8 λ n6 s5 ha lw rw5=>?_;ext;obtain ⟨c,hc,rfl⟩:=wS hq;have hql:=(aa.mp hc).1;exists uc (zcC T).mono (iE2 c L (iA3 rfl L8 ?_));rw [aq Lp];intro p hp;have sp:=zg (o:=.tup [.int (jS c L),.int (ratB c L)]) hp;have hp6:upd H5 p (.tup [.int (jS c L),.int (ratB c L)]) p=some (.tup [.int (jS c L),.int (ratB c L)]):=nE;have ha6:=sp _ _ ha;have s6:=s5.trans sp;have rw6:=rw5.keep (H':=upd H5 p (.tup [.int (jS c L),.int (ratB c L)])) (q:=zG (upd H5 p (.tup [.int (jS c L),.int (ratB c L)]))) λ b o ⟨xs,hx⟩ hb=>⟨⟨xs,sp _ _ hx⟩,sp _ _ hb⟩;generalize upd H5 p (.tup [.int (jS c L),.int (ratB c L)])=H6 at hp6 ha6 s6 rw6 ⊢;refine ⟨_,iA3 ha6 (zk (by lia)) (iE2 _ (ws ++ [.ref p]) (iA5 rfl (λ b o hb=>by rw [nF (nH hb hacc)];exact s6 b o hb) nE (by simp [lw]) ?_))⟩;rw [aG,hc,show Xk L (g.take q ++ (some c).toList)=Xk L (g.take q) ++ [.tup [.int (jS c L),.int (ratB c L)]] by simp [Xk]];have r7:Rep H6 (zG H6) (.ref p) (.tup [.int (jS c L),.int (ratB c L)]):=Reps.mkT (vs:=[.int (jS c L),.int (ratB c L)]) (.cons .int (.cons .int .nil)) ⟨_,hp6⟩ hp6;refine (rw6.append (.one r7)).keep λ b o tb hb=>?_;have ne:b≠nj:=λ z=>by
    obtain ⟨xs,hx⟩:=tb;rw [z,ha6] at hx;cases hx
   obtain ⟨xs,hx⟩:=tb;exact ⟨⟨xs,by rw [nF ne];exact hx⟩,by rw [nF ne];exact hb⟩
  intro σ H5 nh;refine oE2 nh λ v0 ws m8=>oA5 m8 λ n6 s5 ha lw rw5=>?_;ext;rw [zH,aH] at rw5;have nl5:=nl4.tup (H':=H5) λ b o _ hb=>s5 b o hb;have nb:nj ∉ as:=λ z=>by
   obtain ⟨vs,h⟩:=nl4.isl (aA _ z);rw [hacc] at h;cases h
  have nG:nj≠l:=λ z=>by rw [z,nl4.out] at hacc;cases hacc
  have ntG:¬ zG H5 l:=λ ⟨xs,hx⟩=>by rw [nl5.out] at hx;cases hx
  have nac:H nj=none:=by
   cases e:H nj with
   | none=>rfl
   | some u =>
    rw [f4 nj u (λ z=>nG (ap.mp z)) (s03 _ _ e)] at hacc;cases hacc
  refine iE3 l _ _ (iA5 rfl rfl nl5.out (zk (by rw [ai];lia)) ?_);have np:=nl5.push (b:=nj) (vs:=ws) (ys:=Xk L g) ha nb nG ntG rw5;refine iE2 _ (as ++ [nj]) (iA4 rfl ((f4.trans s5.fr).trans (jD (by simp))) ?_ (λ b hb=>?_))
  ·rw [aG,eg,aZ];refine np.keep (λ _ _ _ hc=>hc) λ c hc _=>?_;obtain ⟨xs,hx⟩:=hc;exact ⟨xs,by rw [nF (λ z=>by rw [z,nl5.out] at hx;cases hx)];exact hx⟩
  ·rcases aB.mp hb with hb|hb
   ·exact fa b hb
   ·rw [ap.mp hb];exact nac
 ·intro σ H4 nh;refine oE2 nh λ v5 as m8=>oA4 m8 λ n6 f4 nl4 fa=>?_;ext;rw [ai,lgs,aH] at nl4;exists kQ _ H4 (λ b o hb=>f4 b o (λ z=>by rw [ap.mp z,nl0] at hb;cases hb) (s03 _ _ hb)) (iE2 l as (iA3 rfl nl4 (λ b hb=>?_)));rcases az.mp hb with rfl|hb
  ·exact nl0
  ·exact fa b hb
def zaA (T:Txt K mg a):Cal P w K mg base "shares_of" 9 ["work","limit"] [] (zgY a ziw):=T.lR.cal (WQ T)
section
variable {bs:A1} {rs:At}
def zaI {n:Int} (bo:∀ b∈bs,zA b.1 b.2) (ro:∀ r∈rs,r.ok) (h:xT bs rs n):0 < n/\n<=4:=by
 rcases h with ⟨b,hb,rfl⟩|⟨r,hr,hw,rfl,hp⟩
 ·have h:=bo b hb;exact ⟨by have:=h.2.2.1;lia,h.2.2.2⟩
 ·exact ⟨hp,(VQ (ro r hr) hw).2⟩
def zcE (bo:∀ b∈bs,zA b.1 b.2) (ro:∀ r∈rs,r.ok):∃ L,Qx bs rs L:=by
 have hm:∀ n,n∈(bs.map (·.2) ++ (rs.filter λ r=>decide ((r.wd=.source\/r.wd=.drain)/\0 < r.pace)).map Row.pace) ↔ xT bs rs n:=λ n=>by
  simp only [aB,aN,cn,bc,xT];constructor
  ·rintro (⟨b,hb,e⟩|⟨r,⟨hr,hw,hp⟩,e⟩)
   ·exact .inl ⟨b,hb,e⟩
   ·exact .inr ⟨r,iA4 hr hw e (by rw [<- e];exact hp)⟩
  ·rintro (⟨b,hb,e⟩|⟨r,hr,hw,e,hp⟩)
   ·exact .inl ⟨b,hb,e⟩
   ·exact .inr ⟨r,⟨hr,hw,by rw [e];exact hp⟩,e⟩
 obtain ⟨L,hL⟩:=IsLcm.ex (ns:=bs.map (·.2) ++ (rs.filter λ r=>decide ((r.wd=.source\/r.wd=.drain)/\0 < r.pace)).map Row.pace) λ n hn=>by
  have b4:=zaI bo ro ((hm n).mp hn)
  lia
 exact iE2 L _ ⟨hL,hm⟩
def zgK {n:Int} (bo:∀ b∈bs,zA b.1 b.2) (ro:∀ r∈rs,r.ok) (h:xT bs rs n):n ∣ xS bs rs:=by
 obtain ⟨L,hL⟩:=zcE bo ro;rw [<- Xe hL];obtain ⟨ns,il,im⟩:=hL;exact il.dv n ((im n).mpr h)
end
structure Alk (bs:A1) (rs:At) (s s':PSt):Prop where
 ce:s.cells.map (zn rs)=s'.cells.map (zn rs)
 si:s.sides=s'.sides
 so:∀ (j:Nat) r,rs[j]?=some r->r.wd=.source->(s.gone.getD j []).headD 0 % (r.kinds.length:Int)=(s'.gone.getD j []).headD 0 % (r.kinds.length:Int)
 tu:∀ n,xT bs rs n->s.turn % n=s'.turn % n
noncomputable def gAt (gs:List A6) (i j:Nat):Int:=(gs.getD i []).getD j 0
section
variable {bs:A1} {rs:At}
theorem ZK:∀ {xs ys:A6},xs.map some=ys.map some->xs=ys
 | [],[],_=>rfl
 | [],_ :: _,h=>by cases h
 | _ :: _,[],h=>by cases h
 | x :: xs,y :: ys,h=>by
  simp only [br,cS,b5] at h;rw [h.1,ZK h.2]
def zbU {s s':PSt} (bo:∀ b∈bs,zA b.1 b.2) (ro:∀ r∈rs,r.ok) (h:Z7 bs rs s=Z7 bs rs s'):Alk bs rs s s':=by
 unfold Z7 at h;obtain ⟨h1,h2,h3,h4⟩:some (s.turn % xS bs rs)=some (s'.turn % xS bs rs)/\s.cells.map (zn rs)=s'.cells.map (zn rs)/\s.sides.map some=s'.sides.map some/\(zF .source rs).map (λ j=>some (jy rs s j))=(zF .source rs).map (λ j=>some (jy rs s' j)):=by
  simpa only [Prod.mk.injEq] using h
 refine ⟨h2,ZK h3,λ j r hr hs=>?_,λ n hn=>?_⟩
 ·have hm:=ZI hr hs;have:=List.map_inj_left.mp h4 _ hm;simp only [b5] at this;unfold jy at this;rw [aE,hr] at this;exact this
 ·have d:=zgK bo ro hn;have h1:=aO h1;rw [<- gO s.turn d,h1,gO s'.turn d]
def QE {cs cs':Au} (h:cs.map (zn rs)=cs'.map (zn rs)) (b:Nat):zn rs (cs.getD b [])=zn rs (cs'.getD b []):=by
 have:=bP (λ l=>l.getD b (zn rs [])) h;simpa only [ah,am,Option.getD_map] using this
def Q9 (c:Av):jg rs (wL c)=(zn rs c).getLastD none:=by
 unfold wL zn;rw [bN,bN,List.getLast?_map];cases c.getLast? <;> rfl
def zci (c:Av):jg rs (zgJ c)=(zn rs c).headD none:=by cases c <;> rfl
def XZ (c:Av) (p:Nat):jg rs (c.getD p none)=(zn rs c).getD p none:=by
 unfold zn;rw [ah,ah,am];cases c[p]? <;> rfl
def vK (x:zq):jg rs x=none ↔ x=none:=by cases x <;> simp [jg]
def vt (c:Av) (i:Nat) (x:zq):zn rs (c.set i x)=(zn rs c).set i (jg rs x):=by
 unfold zn;rw [eM]
 rfl
def W1 {c c':Av} (h:zn rs c=zn rs c'):c.length=c'.length:=by
 have:=bP List.length h;simpa [zn] using this
def zbV {cs cs':Au} (h:cs.map (zn rs)=cs'.map (zn rs)) (i:Nat) {c c':Av} (hc:zn rs c=zn rs c'):(cs.set i c).map (zn rs)=(cs'.set i c').map (zn rs):=by
 rw [eM,eM,h,hc]
def zap {cs cs':Au} (h:cs.map (zn rs)=cs'.map (zn rs)) (r:Row):z8 rs cs r=z8 rs cs' r:=by
 unfold z8 zJ;refine cI λ b _=>?_;rw [Q9,Q9,QE h]
def zco {cs cs':Au} (h:cs.map (zn rs)=cs'.map (zn rs)) (r:Row):qN cs r=qN cs' r:=by
 unfold qN zJ;refine cI λ b _=>?_;rw [decide_eq_decide,<- vK (rs:=rs),<- vK (rs:=rs) (zgJ (cs'.getD _ _)),zci,zci,QE h]
def X7 {r:Row} {hs:List A9} {fs:Ai} {t t':Int} {side:Nat} (ok:r.ok) (h:(r.wd=.source\/r.wd=.drain)->0 < r.pace->t % r.pace=t' % r.pace):z6 r hs fs t side=z6 r hs fs t' side:=by
 obtain ⟨wd,ins,outs,pc,ks⟩:=r;cases wd
 ·have p1:1<=pc:=ok.2.2.1;have e:t % pc=t' % pc:=h (.inl rfl) (show 0 < pc by lia);unfold z6;simp only [e]
 ·have p0:0<=pc:=ok.2.2.1;unfold z6;by_cases z:pc=0
  ·simp [z]
  ·have e:t % pc=t' % pc:=h (.inr rfl) (show 0 < pc by lia);simp only [e]
 all_goals rfl
def zd4 {s s':PSt} {r:Row} {fb:A9} (h:Alk bs rs s s') (hr:rs[k]?=some r) (hs:fb=none->r.wd=.source):jg rs (zR s k fb).1=jg rs (zR s' k fb).1/\(zR s k fb).2.cells.map (zn rs)=(zR s' k fb).2.cells.map (zn rs):=by
 cases fb with
 | none =>
  refine ⟨?_,h.ce⟩;show some (jJ _ _)=some (jJ _ _)
  rw [aE,hr];show some (jJ r.kinds _)=some (jJ r.kinds _)
  unfold jJ;rw [h.so k r hr (hs rfl)]
 | some b =>
  have e:=QE h.ce b.toNat;refine ⟨?_,zbV h.ce _ ?_⟩
  ·show jg rs (wL (s.cells.getD b.toNat []))=jg rs (wL (s'.cells.getD b.toNat []))
   rw [Q9,Q9,e]
  ·unfold xl zJ;rw [vt,vt,e,W1 e]
def zex {s s':PSt} {x x':zq} {tb:A9} (h:s.cells.map (zn rs)=s'.cells.map (zn rs)) (hx:jg rs x=jg rs x'):(vh s x tb).cells.map (zn rs)=(vh s' x' tb).cells.map (zn rs):=by
 cases tb with
 | none=>exact h
 | some b =>
  refine zbV h _ ?_;rw [vt,vt,hx];unfold zJ;rw [QE h]
def J6 {gs:List A6} {k p i j:Nat} (hk:k < gs.length) (hp:p < (gs.getD k []).length):gAt (gs.set k (Zq (gs.getD k []) p)) i j=gAt gs i j + if i=k/\j=p then 1 else 0:=by
 unfold gAt;by_cases e:k=i
 ·subst e;rw [ah (l:=gs.set _ _),a9 hk,aJ];unfold Zq;by_cases z:p=j
  ·subst z;rw [ah (l:=List.set _ _ _),a9 hp,ax ⟨rfl,rfl⟩]
   rfl
  ·rw [jt z,aq (λ q=>z q.2.symm)]
   lia
 ·rw [jt e,aq (λ q=>e q.1.symm)]
  lia
def xy {gs:List A6}:(gs.getD j []).headD 0=gAt gs j 0:=by
 unfold gAt;cases gs.getD j [] <;> rfl
def zfL {s s':PSt} (h:Alk bs rs s s') (w:stWf bs rs s) (w':stWf bs rs s') (ro:∀ r∈rs,r.ok) (k:Nat):Alk bs rs (qt rs s k).1 (qt rs s' k).1/\∀ i j,gAt (qt rs s k).1.gone i j - gAt s.gone i j=gAt (qt rs s' k).1.gone i j - gAt s'.gone i j:=by
 unfold qt;cases hr:rs[k]? with
 | none=>exact ⟨h,λ i j=>by show gAt s.gone i j - _=gAt s'.gone i j - _;rw [fq,fq]⟩
 | some r =>
  have ok:=ro r (aj hr);have hk:=(aa.mp hr).1;simp only;rw [<- zap h.ce,<- zco h.ce,<- h.si,<- X7 (t:=s.turn) (t':=s'.turn) ok λ hw hp=>h.tu _ (.inr ⟨r,aj hr,hw,rfl,hp⟩)];cases hc:z6 r (z8 rs s.cells r) (qN s.cells r) s.turn (s.sides.getD k 0).toNat with
  | none=>exact ⟨h,λ i j=>by show gAt s.gone i j - _=gAt s'.gone i j - _;rw [fq,fq]⟩
  | some ch =>
   have hsd:=qh (xs:=s.sides) (k:=k) (d:=0) (by rw [w.so.1];exact hk);have sd:=w.so.2 k r _ hr hsd;have sd:wq r (((s.sides.getD k 0).toNat:Nat):Int):=by rw [cc sd.1];exact sd
   refine oA6 (wm ok (by simp [z8]) (by simp [qN]) sd hc) λ c1 c2 c3 c4 c5 c6=>?_;have fs:qz r ch=none->r.wd=.source:=λ z=>by
    cases e:ch.1 with
    | none=>exact c4 e
    | some j =>
     unfold qz at z;rw [e] at z;have:r.ins[j]?=none:=z;rw [ae (c1 j e)] at this;cases this
   obtain ⟨t1,t2⟩:=zd4 h hr fs;obtain ⟨k1,k2,k3⟩:=movedF_keep (r:=r) (st:=s) (k:=k) (ch:=ch);obtain ⟨k1',k2',k3'⟩:=movedF_keep (r:=r) (st:=s') (k:=k) (ch:=ch);have hg0:=qh (xs:=s.gone) (k:=k) (d:=[]) (by rw [w.go.1];exact hk);have hg0':=qh (xs:=s'.gone) (k:=k) (d:=[]) (by rw [w'.go.1];exact hk);have q:=(w.go.2 k r _ hr hg0).1;have q':=(w'.go.2 k r _ hr hg0').1;have G:∀ i j,gAt (vA r s k ch).1.gone i j=gAt s.gone i j + if i=k/\j=xa r ch then 1 else 0:=λ i j=>by
    show gAt ((movedF r s k ch).gone.set k (Zq ((movedF r s k ch).gone.getD k []) (xa r ch))) i j=_
    rw [k3];exact J6 (by rw [w.go.1];exact hk) (by rw [q];exact c6)
   have G':∀ i j,gAt (vA r s' k ch).1.gone i j=gAt s'.gone i j + if i=k/\j=xa r ch then 1 else 0:=λ i j=>by
    show gAt ((movedF r s' k ch).gone.set k (Zq ((movedF r s' k ch).gone.getD k []) (xa r ch))) i j=_
    rw [k3'];exact J6 (by rw [w'.go.1];exact hk) (by rw [q'];exact c6)
   refine ⟨⟨zex t2 t1,?_,λ j r2 h2 hs=>?_,λ n hn=>?_⟩,λ i j=>by rw [G,G'];lia⟩
   ·show (movedF r s k ch).sides.set k _=(movedF r s' k ch).sides.set k _
    rw [k2,k2',h.si]
   ·have e:=h.so j r2 h2 hs;rw [xy,xy] at e ⊢;rw [G,G',ft,e,<- ft]
   ·show (movedF r s k ch).turn % n=(movedF r s' k ch).turn % n
    rw [k1,k1'];exact h.tu n hn
theorem zcH {s s':PSt} (h:Alk bs rs s s') (w:stWf bs rs s) (w':stWf bs rs s') (nk:zQ bs rs) (bo:∀ b∈bs,zA b.1 b.2) (ro:∀ r∈rs,r.ok):∀ m,Alk bs rs (zx rs s m).1 (zx rs s' m).1/\∀ i j,gAt (zx rs s m).1.gone i j - gAt s.gone i j=gAt (zx rs s' m).1.gone i j - gAt s'.gone i j
 | 0=>⟨h,λ i j=>by show gAt s.gone i j - _=gAt s'.gone i j - _;lia⟩
 | m + 1=>by
  obtain ⟨a1,a2⟩:=zcH h w w' nk bo ro m;obtain ⟨b1,b2⟩:=zfL a1 (ja w nk bo ro m) (ja w' nk bo ro m) ro m;refine ⟨b1,λ i j=>?_⟩;have x:=a2 i j;have y:=b2 i j;show gAt (qt rs (zx rs s m).1 m).1.gone i j - _=gAt (qt rs (zx rs s' m).1 m).1.gone i j - _
  lia
def zdi {c c':Av} (h:zn rs c=zn rs c') (p:Nat):zn rs (qJ c p)=zn rs (qJ c' p):=by
 unfold qJ;have e:c.getD (p + 1) none=none ↔ c'.getD (p + 1) none=none:=by rw [<- vK (rs:=rs),<- vK (rs:=rs) (c'.getD _ _),XZ,XZ,h]
 by_cases z:c.getD (p + 1) none=none
 ·rw [ax z,ax (e.mp z),vt,vt,vt,vt,XZ,XZ,h]
 ·rw [aq z,aq (λ q=>z (e.mpr q)),h]
theorem zca {c c':Av} (h:zn rs c=zn rs c'):∀ m,zn rs (wF c m)=zn rs (wF c' m)
 | 0=>h
 | m + 1=>by
  show zn rs (qJ (wF c m) (c.length - 2 - m))=zn rs (qJ (wF c' m) (c'.length - 2 - m))
  rw [W1 h];exact zdi (zca h m) _
theorem zaH {cs cs':Au} {t t':Int} (h:cs.map (zn rs)=cs'.map (zn rs)) (ht:∀ b∈bs,t % b.2=t' % b.2):∀ i,i<=bs.length->(qc bs t cs i).map (zn rs)=(qc bs t' cs' i).map (zn rs)
 | 0,_=>h
 | i + 1,hi=>by
  have ih:=zaH h ht i (by lia);have e:t % (bs.getD i (0,1)).2=t' % (bs.getD i (0,1)).2:=ht _ (by rw [ah,ae (by lia)];exact dE _);unfold qc;rw [<- e];by_cases z:t % (bs.getD i (0,1)).2=0
  ·rw [ax z,ax z];refine zbV ih i ?_;unfold zcb;rw [W1 (QE ih i)];exact zca (QE ih i) _
  ·rw [aq z,aq z];exact ih
def zb5 {s s':PSt} (h:Alk bs rs s s') (w:stWf bs rs s) (w':stWf bs rs s') (nk:zQ bs rs) (bo:∀ b∈bs,zA b.1 b.2) (ro:∀ r∈rs,r.ok):Alk bs rs (passF bs rs s).1 (passF bs rs s').1/\∀ i j,gAt (passF bs rs s).1.gone i j - gAt s.gone i j=gAt (passF bs rs s').1.gone i j - gAt s'.gone i j:=by
 obtain ⟨a1,a2⟩:=zcH h w w' nk bo ro rs.length;refine ⟨⟨zaH a1.ce (λ b hb=>a1.tu _ (.inl ⟨b,hb,rfl⟩)) bs.length (au _),a1.si,a1.so,λ n hn=>?_⟩,a2⟩;show ((zx rs s rs.length).1.turn + 1) % n=((zx rs s' rs.length).1.turn + 1) % n
 rw [ft,a1.tu n hn,<- ft]
theorem WN {p q:Nat} (h:Alk bs rs (zf bs rs p) (zf bs rs q)) (nk:zQ bs rs) (bo:∀ b∈bs,zA b.1 b.2) (ro:∀ r∈rs,r.ok):∀ m,Alk bs rs (zf bs rs (p + m)) (zf bs rs (q + m))/\∀ i j,gAt (zf bs rs (p + m)).gone i j - gAt (zf bs rs p).gone i j=gAt (zf bs rs (q + m)).gone i j - gAt (zf bs rs q).gone i j
 | 0=>⟨h,λ i j=>by show gAt (zf bs rs p).gone i j - _=gAt (zf bs rs q).gone i j - _;lia⟩
 | m + 1=>by
  obtain ⟨a1,a2⟩:=WN h nk bo ro m;obtain ⟨b1,b2⟩:=zb5 a1 (zE nk bo ro _) (zE nk bo ro _) nk bo ro;refine ⟨b1,λ i j=>?_⟩;have x:=a2 i j;have y:=b2 i j;show gAt (passF bs rs (zf bs rs (p + m))).1.gone i j - _=gAt (passF bs rs (zf bs rs (q + m))).1.gone i j - _
  lia
end
def xG (c:Av):List (Int × Int):=c.reverse.filterMap id
def atC (cs:Au) (b p:Nat):zq:=(cs.getD b []).getD p none
def qp {α:Type} {l:List α} {i j:Nat} {x d:α}:(l.set i x).getD j d=if i=j/\i < l.length then x else l.getD j d:=by
 rw [ah,ah];by_cases e:i=j
 ·subst e;by_cases h:i < l.length
  ·rw [a9 h,ax ⟨rfl,h⟩];rfl
  ·rw [aq (λ z=>h z.2),dI (by lia)]
 ·rw [bT e,aq (λ z=>e z.1)]
def J7 (c:Av):wL c=c.getD (c.length - 1) none:=by
 unfold wL;rw [bN,fS,ah]
def Uq (cs:Au):Prop:=∀ b p b' p' x,atC cs b p=some x->atC cs b' p'=some x->b=b'/\p=p'
def GvL (cs:Au) (gs:List A6):Prop:=∀ b p x,atC cs b p=some x->x.2 < gAt gs x.1.toNat 0
def RowM (c c':Av):Prop:=∃ φ:Nat->Nat,(∀ q y,c'.getD q none=some y->c.getD (φ q) none=some y)/\∀ q q' y y',c'.getD q none=some y->c'.getD q' none=some y'->φ q=φ q'->q=q'
section
variable {cs:Au} {gs:List A6} {c c' d:Av}
def RowM.refl:RowM c c:=⟨id,λ _ _ h=>h,λ _ _ _ _ _ _ h=>h⟩
def RowM.trans (h:RowM c c') (h':RowM c' d):RowM c d:=by
 obtain ⟨f,f1,f2⟩:=h;obtain ⟨g,g1,g2⟩:=h';exact ⟨λ q=>f (g q),λ q y e=>f1 _ _ (g1 q y e),λ q q' y y' e e' z=>g2 q q' y y' e e' (f2 _ _ y y' (g1 q y e) (g1 q' y' e') z)⟩
def RowM.take (p:Nat):RowM c (c.set p none):=⟨id,λ q y e=>by
 rw [qp] at e
 split at e
 ·cases e
 ·exact e,λ _ _ _ _ _ _ h=>h⟩
def RowM.mvS (p:Nat):RowM c (qJ c p):=by
 unfold qJ
 split
 ·have key:∀ q y,((c.set (p + 1) (c.getD p none)).set p none).getD q none=some y->q≠p/\c.getD (if q=p + 1 then p else q) none=some y:=λ q y e=>by
   rw [qp] at e
   split at e
   ·cases e
   ·rename_i h1;rw [qp] at e
    split at e
    ·rename_i h2;rw [ax h2.1.symm];exact ⟨by lia,e⟩
    ·rename_i h2;by_cases e1:q=p + 1
     ·refine absurd e ?_;rw [ah,cQ (by have:¬ p + 1 < c.length:=λ z=>h2 ⟨e1.symm,z⟩;lia)];exact λ z=>nomatch z
     ·rw [aq e1];refine ⟨λ e2=>h1 ⟨e2.symm,?_⟩,e⟩;rw [bX];refine bW λ z=>?_;rw [ah,cQ (by lia)] at e;cases e
  exact ⟨λ q=>if q=p + 1 then p else q,λ q y e=>(key q y e).2,λ q q' y y' e e' z=>by
   have n1:=(key q y e).1;have n2:=(key q' y' e').1;have z:(if q=p + 1 then p else q)=if q'=p + 1 then p else q':=z
   split at z <;> split at z <;> lia⟩
 ·exact .refl
theorem RowM.mvG:∀ k,RowM c (wF c k)
 | 0=>.refl
 | k + 1=>(RowM.mvG k).trans (.mvS _)
def wQ {b b' p:Nat}:atC (cs.set b c) b' p=if b=b'/\b < cs.length then c.getD p none else atC cs b' p:=by
 unfold atC;rw [qp]
 split <;> rfl
def Uq.row (h:Uq cs) {b:Nat} (m:RowM (cs.getD b []) c'):Uq (cs.set b c'):=by
 obtain ⟨f,f1,f2⟩:=m;intro b1 p1 b2 p2 x e1 e2;rw [wQ] at e1 e2
 split at e1 <;> split at e2
 ·rename_i h1 h2;obtain ⟨rfl,_⟩:=h1;obtain ⟨rfl,_⟩:=h2;exact ⟨rfl,f2 _ _ x x e1 e2 (h b _ b _ x (f1 _ _ e1) (f1 _ _ e2)).2⟩
 ·rename_i h1 h2;obtain ⟨rfl,l⟩:=h1;obtain ⟨e3,_⟩:=h b _ b2 p2 x (f1 _ _ e1) e2;exact absurd ⟨e3,l⟩ h2
 ·rename_i h1 h2;obtain ⟨rfl,l⟩:=h2;obtain ⟨e3,_⟩:=h b1 p1 b _ x e1 (f1 _ _ e2);exact absurd ⟨e3.symm,l⟩ h1
 ·exact h _ _ _ _ x e1 e2
def GvL.row (h:GvL cs gs) {b:Nat} (m:RowM (cs.getD b []) c'):GvL (cs.set b c') gs:=by
 obtain ⟨f,f1,_⟩:=m;intro b1 p1 x e1;rw [wQ] at e1
 split at e1
 ·exact h b _ x (f1 _ _ e1)
 ·exact h _ _ x e1
def Uq.put (h:Uq cs) {x:Int × Int} (no:∀ b p,atC cs b p≠some x) (b:Nat):Uq (cs.set b ((cs.getD b []).set 0 (some x))):=by
 have key:∀ b1 p1 y,atC (cs.set b ((cs.getD b []).set 0 (some x))) b1 p1=some y->(y=x/\b1=b/\p1=0)\/atC cs b1 p1=some y:=λ b1 p1 y e=>by
  rw [wQ] at e
  split at e
  ·rename_i h1;obtain ⟨rfl,_⟩:=h1;rw [qp] at e
   split at e
   ·rename_i h2;exact .inl ⟨(aO e).symm,rfl,h2.1.symm⟩
   ·exact .inr e
  ·exact .inr e
 intro b1 p1 b2 p2 y e1 e2;rcases key _ _ _ e1 with ⟨z1,z2,z3⟩|e1 <;> rcases key _ _ _ e2 with ⟨y1,y2,y3⟩|e2
 ·exact ⟨by lia,by lia⟩
 ·exact absurd (z1 ▸ e2) (no _ _)
 ·exact absurd (y1 ▸ e1) (no _ _)
 ·exact h _ _ _ _ y e1 e2
theorem zg4 {bs:A1} {t:Int} (h:Uq cs) (g:GvL cs gs):∀ i,Uq (qc bs t cs i)/\GvL (qc bs t cs i) gs
 | 0=>⟨h,g⟩
 | i + 1=>by
  obtain ⟨h1,h2⟩:=zg4 (bs:=bs) (t:=t) h g i;rw [qc]
  split
  ·exact ⟨h1.row (RowM.mvG _),h2.row (RowM.mvG _)⟩
  ·exact ⟨h1,h2⟩
end
section
variable {bs:A1} {rs:At} {s:PSt}
def zig (w:stWf bs rs s) (ro:∀ r∈rs,r.ok) (h:Uq s.cells) (g:GvL s.cells s.gone) (k:Nat):Uq (qt rs s k).1.cells/\GvL (qt rs s k).1.cells (qt rs s k).1.gone:=by
 have mono:=Xg rs s k;unfold qt at mono ⊢;cases hr:rs[k]? with
 | none=>exact ⟨h,g⟩
 | some r =>
  rw [hr] at mono;have ok:=ro r (aj hr);have hk:=(aa.mp hr).1;simp only at mono ⊢;cases hc:z6 r (z8 rs s.cells r) (qN s.cells r) s.turn (s.sides.getD k 0).toNat with
  | none=>exact ⟨h,g⟩
  | some ch =>
   rw [hc] at mono;simp only at mono ⊢;have sd:=w.so.2 k r _ hr (qh (d:=0) (by rw [w.so.1];exact hk));have sd':wq r ((s.sides.getD k 0).toNat:Int):=by rw [cc sd.1];exact sd
   refine oA6 (wm ok (by simp [z8]) (by simp [qN]) sd' hc) λ c1 _ _ c4 _ c6=>?_;have hgk:k < s.gone.length:=by rw [w.go.1];exact hk
   have gl:=(w.go.2 k r _ hr (qh (xs:=s.gone) (d:=[]) hgk)).1;have gN:(vA r s k ch).1.gone=s.gone.set k (Zq (s.gone.getD k []) (xa r ch)):=by
    show (movedF r s k ch).gone.set k (Zq ((movedF r s k ch).gone.getD k []) (xa r ch))=_
    rw [movedF_keep.2.2]
   have tk:Uq (zR s k (qz r ch)).2.cells/\(∀ b p x,atC (zR s k (qz r ch)).2.cells b p=some x->atC s.cells b p=some x)/\∀ x,(zR s k (qz r ch)).1=some x->(∀ b p,atC (zR s k (qz r ch)).2.cells b p≠some x)/\x.2 < gAt (vA r s k ch).1.gone x.1.toNat 0:=by
    cases e:qz r ch with
    | none =>
     have hs:r.wd=.source:=by
      cases e1:ch.1 with
      | none=>exact c4 e1
      | some j =>
       unfold qz at e;rw [e1] at e;simp at e;have:=c1 j e1
       lia
     refine ⟨h,λ _ _ _ z=>z,λ x ex=>?_⟩;have ex:((k:Int),(s.gone.getD k []).headD 0)=x:=aO ex;subst ex;refine ⟨λ b p z=>?_,?_⟩
     ·have:=g b p _ z;rw [xy] at this;simp only [aE] at this
      lia
     ·rw [gN,xy];simp only [aE];have cp:xa r ch=0:=by
       have:(qE r).length=1:=by
        have l:=wb ok;unfold Row.ok at ok;rw [hs] at ok;unfold qE;rw [a8,ok.1];obtain ⟨o,ho⟩:=ok.2.1;rw [ho]
        rfl
       lia
      rw [cp,J6 hgk (by rw [gl];lia),ax ⟨rfl,rfl⟩]
      lia
    | some b =>
     have inn:∀ b1 p1 x,atC (s.cells.set b.toNat (xl (zJ s.cells b))) b1 p1=some x->atC s.cells b1 p1=some x:=λ b1 p1 x z=>by
      rw [wQ] at z
      split at z
      ·rename_i h1;obtain ⟨rfl,_⟩:=h1;unfold xl at z;rw [qp] at z
       split at z
       ·cases z
       ·exact z
      ·exact z
     refine ⟨h.row (RowM.take _),inn,λ x ex=>?_⟩;have ex:wL (zJ s.cells b)=some x:=ex;rw [J7] at ex;have at0:atC s.cells b.toNat ((zJ s.cells b).length - 1)=some x:=ex;refine ⟨λ b1 p1 z=>?_,ia (g _ _ x at0) (mono _ _)⟩;obtain ⟨e1,e2⟩:=h _ _ _ _ x (inn _ _ _ z) at0;subst e1 e2;have hb:b.toNat < s.cells.length:=bW λ y=>by
      unfold atC at at0;rw [ah (l:=s.cells),cQ (by lia)] at at0;simp at at0
     have hl:(zJ s.cells b).length - 1 < (zJ s.cells b).length:=bW λ y=>by
      have:(zJ s.cells b).length=0:=by lia
      rw [ah,cQ (by lia)] at ex;cases ex
     have z:atC (s.cells.set b.toNat (xl (zJ s.cells b))) b.toNat ((zJ s.cells b).length - 1)=some x:=z;rw [wQ,ax ⟨rfl,hb⟩] at z;unfold xl at z;rw [qp,ax ⟨rfl,hl⟩] at z;cases z
   obtain ⟨u1,u2,u3⟩:=tk;have up:∀ b p x,atC s.cells b p=some x->x.2 < gAt (vA r s k ch).1.gone x.1.toNat 0:=λ b p x z=>ia (g b p x z) (mono _ _);show Uq (movedF r s k ch).cells/\GvL (movedF r s k ch).cells (vA r s k ch).1.gone
   unfold movedF;cases vZ r ch with
   | none=>exact ⟨u1,λ b p x z=>up b p x (u2 b p x z)⟩
   | some b =>
    cases ex:(zR s k (qz r ch)).1 with
    | none=>exact ⟨u1.row (RowM.take 0),λ b1 p1 x z=>by
      change atC ((zR s k (qz r ch)).2.cells.set b.toNat ((zJ (zR s k (qz r ch)).2.cells b).set 0 none)) b1 p1=some x at z;rw [wQ] at z
      split at z
      ·rw [qp] at z
       split at z
       ·cases z
       ·exact up _ _ x (u2 _ _ x z)
      ·exact up _ _ x (u2 _ _ x z)⟩
    | some x =>
     obtain ⟨no,lx⟩:=u3 x ex;refine ⟨u1.put no b.toNat,λ b1 p1 y z=>?_⟩;change atC ((zR s k (qz r ch)).2.cells.set b.toNat ((zJ (zR s k (qz r ch)).2.cells b).set 0 (some x))) b1 p1=some y at z;rw [wQ] at z
     split at z
     ·rw [qp] at z
      split at z
      ·cases z;exact lx
      ·exact up _ _ y (u2 _ _ y z)
     ·exact up _ _ y (u2 _ _ y z)
theorem zcF (w:stWf bs rs s) (nk:zQ bs rs) (bo:∀ b∈bs,zA b.1 b.2) (ro:∀ r∈rs,r.ok) (h:Uq s.cells) (g:GvL s.cells s.gone):∀ m,Uq (zx rs s m).1.cells/\GvL (zx rs s m).1.cells (zx rs s m).1.gone
 | 0=>⟨h,g⟩
 | m + 1=>by
  obtain ⟨h1,g1⟩:=zcF w nk bo ro h g m;exact zig (ja w nk bo ro m) ro h1 g1 m
theorem WM (nk:zQ bs rs) (bo:∀ b∈bs,zA b.1 b.2) (ro:∀ r∈rs,r.ok):∀ n,Uq (zf bs rs n).cells/\GvL (zf bs rs n).cells (zf bs rs n).gone
 | 0=>by
  have no:∀ b p,atC (zf bs rs 0).cells b p=none:=λ b p=>by
   show ((bs.map λ b=>List.replicate b.1.toNat (none:zq)).getD b []).getD p none=none
   rw [ah,ah,am];cases bs[b]? with
   | none=>rfl
   | some y =>
    show ((List.replicate y.1.toNat (none:zq))[p]?).getD none=none
    rw [dU]
    split <;> rfl
  exact ⟨λ b p _ _ x e=>absurd ((no b p).symm.trans e) (λ z=>nomatch z),λ b p x e=>absurd ((no b p).symm.trans e) (λ z=>nomatch z)⟩
 | n + 1=>by
  obtain ⟨h,g⟩:=WM nk bo ro n;obtain ⟨h1,g1⟩:=zcF (zE nk bo ro n) nk bo ro h g rs.length;exact zg4 h1 g1 _
end
def zfH (h:n<=30000):n < sizeLine:=bj h (by decide)
def kW (x:Int × Int):List Key:=[.inl x.1,.inl x.2]
def zhR {x y:Int × Int} (h:kW x=kW y):x=y:=by
 obtain ⟨a,b⟩:=x;obtain ⟨c,d⟩:=y;simp only [kW,cS,Sum.inl.injEq,fM] at h;rw [h.1,h.2]
def queue_mem {c:Av} {x:Int × Int}:x∈xG c ↔ some x∈c:=by
 unfold xG;rw [bJ];constructor
 ·rintro ⟨y,h1,h2⟩;have h2:y=some x:=h2;rw [<- h2];exact List.mem_reverse.mp h1
 ·exact λ h=>⟨some x,List.mem_reverse.mpr h,rfl⟩
def flat_mem {cs:Au} {x:Int × Int}:x∈(cs.map xG).flatten ↔ ∃ c∈cs,some x∈c:=by
 rw [List.mem_flatten];constructor
 ·rintro ⟨l,h1,h2⟩;obtain ⟨c,h3,rfl⟩:=aN.mp h1;exact ⟨c,h3,queue_mem.mp h2⟩
 ·rintro ⟨c,h1,h2⟩;exact ⟨xG c,aN.mpr ⟨c,h1,rfl⟩,queue_mem.mpr h2⟩
def zc9 (n9:As) (k:List Key) (v:V):(wU n9 k v).length<=n9.length + 1:=by
 unfold wU
 split <;> simp
structure LayD (H:Hp) (n9:As) (seen:Int × Int->Prop) (full:Au):Prop where
 n:∀ x,jW n9 (kW x)=none->¬ seen x
 s:∀ x v,jW n9 (kW x)=some v->∃ (t:Addr) (b p:Nat) (c:Av),v=.ref t/\H t=some (.tup [.int b,.int p])/\full[b]?=some c/\c[p]?=some (some x)
section
variable {H H':Hp} {n9:As} {seen seen':Int × Int->Prop} {full:Au}
def LayD.same (h:LayD H n9 seen full) (s:Same H H'):LayD H' n9 seen full:=⟨h.n,λ x v e=>by
 refine oE4 (h.s x v e) λ t b p c m8=>oA3 m8 λ e1 e2 e3=>?_;clear m8;exact (iE4 t b p c (iA3 e1 (s _ _ e2) e3))⟩
def LayD.less (h:LayD H n9 seen full) (s:∀ x,seen' x->seen x):LayD H n9 seen' full:=⟨λ x e z=>h.n x e (s x z),h.s⟩
def LayD.put (h:LayD H n9 seen full) {D t:Addr} {b p:Nat} {c:Av} {x:Int × Int} (hD:H D=some (.dT n9)) (ht:H t=some (.tup [.int b,.int p])) (hc:full[b]?=some c) (hx:c[p]?=some (some x)):LayD (upd H D (.dT (wU n9 (kW x) (.ref t)))) (wU n9 (kW x) (.ref t)) (λ y=>seen y\/y=x) full:=by
 have ne:∀ u xs,H u=some (.tup xs)->u≠D:=λ u xs hu z=>by rw [z,hD] at hu;cases hu
 refine ⟨λ y e z=>?_,λ y v e=>?_⟩
 ·rw [Vq] at e
  split at e
  ·cases e
  ·rename_i hn;rcases z with z|z
   ·exact h.n y e z
   ·exact hn (by rw [z])
 ·rw [Vq] at e
  split at e
  ·rename_i hn;cases e;rw [zhR hn];exact iE4 t b p c (iA4 rfl (by rw [nF (ne t _ ht)];exact ht) hc hx)
  ·refine oE4 (h.s y v e) λ t' b' p' c' m8=>oA3 m8 λ e1 e2 e3=>?_;clear m8;exact iE4 t' b' p' c' (iA3 e1 (by rw [nF (ne t' _ e2)];exact e2) e3)
end
def Jp (cs:Au) (i j:Nat) (x:Int × Int):Prop:=x∈((cs.take i).map xG).flatten\/∃ c,cs[i]?=some c/\some x∈c.take j
def zcW {cs:Au} {c:Av} {x:Int × Int} (h:cs[i]?=some c) (z:x∈((cs.take (i + 1)).map xG).flatten):Jp cs i c.length x:=by
 rw [aG,h,aZ,List.flatten_append] at z;rcases aB.mp z with z|z
 ·exact .inl z
 ·refine .inr ⟨c,h,?_⟩;rw [aH];have z:x∈(xG c ++ []):=z;rw [cZ] at z;exact queue_mem.mp z
def ziq (a:Ad):Sp:=λ vs H Q _=>∃ (y:Addr) (n:SN) (st:PSt),vs=[.ref y]/\StO a H y n st/\st.cells.length<=24/\(∀ c∈st.cells,c.length<=6)/\∀ D n9 H',Same H H'->H D=none->H' D=some (.dT n9)->LayD H' n9 (λ x=>x∈(st.cells.map xG).flatten) st.cells->Q (.ref D) H'
theorem Q0 (T:Txt K mg a):Cal P w K mg base "cells_by_ware" 1 ["state"] [] (ziq a):=T.ki.cal λ F=>by
 refine F.okx Z9 ?_ ?_
 ·walk_at "i"
 walk_at "j";refine oE3 h λ y n st m8=>oA5 m8 λ n6 so l24 l6 k=>?_;clear m8 h;subst n6;have hc:=so.hc;have lc:n.acs.length=st.cells.length:=by rw [hc.len,zI,ai]
 walk_at "T";refine ⟨_,(ze (zt 1 Z9.nd zeB)  (jO (qo qC rfl (qZ (za (zi (pq 0) rfl) zb)) (vj (n:=2) rfl (qk (qf 2 Z9.nd) (qk (qf 3 Z9.nd) xH)))  (zd (qo qC rfl (qZ (za (pq 3) zb)) (vj (n:=2) rfl (qk (qf 4 Z9.nd) (qk (qf 5 Z9.nd) xH)))  (zd (zT (zz Q7 (pq 5) zM (zC _))  (zd (zgb (zcl hr) (pq 1) (pq 5) (jm (za (pq 2) (za (pq 4) zb))) rfl))  zu)))))  (zd (zl (pq 1))))),?_⟩;left;intro D hD;have s1:=zg (o:=.dT []) hD;have hD1:upd H D (.dT []) D=some (.dT []):=nE;generalize upd H D (.dT [])=H1 at s1 hD1 ⊢;have ld0:LayD H1 [] (Jp st.cells 0 0) st.cells:=⟨λ x _ z=>by
  rcases z with z|⟨c,_,z⟩
  ·simp at z
  ·simp at z,λ x v e=>by simp [jW] at e⟩
 have keep:∀ {H':Hp} {n9:As} {o:HO},Same H H'->Same H (upd H' D o):=λ s b u hb=>by
  rw [nF (nH hb hD)];exact s b u hb
 refine cut (λ σ' H'=>∃ (v2 v3 v4 v5:Aq) (n9:As),σ'=[some (.ref y),some (.ref D),v2,v3,v4,v5]/\Same H H'/\H' D=some (.dT n9)/\LayD H' n9 (λ x=>x∈(st.cells.map xG).flatten) st.cells) ?_ ?_
 ·walk_at "e";exists ra (s1 _ _ so.hy) T.ad T.ic rfl ?_;refine iE2 n.lc _ (iA3 rfl (s1 _ _ hc.out) ?_);refine X2 (K:=K) (a:=n.lc) (xs:=n.acs.map V.ref) (λ i σ H'=>∃ (v2 v3 v4 v5:Aq) (n9:As),σ=[some (.ref y),some (.ref D),v2,v3,v4,v5]/\Same H H'/\H' D=some (.dT n9)/\LayD H' n9 (λ x=>x∈((st.cells.take i).map xG).flatten) st.cells/\n9.length<=6 * i) (iE5 _ _ _ _ ([]) (iA5 rfl s1 hD1 (ld0.less λ x z=>by simp at z) (au _))) (λ i σ H' _ h=>by obtain ⟨_,_,_,_,_,_,s,_⟩:=h;exact SqL.of (s _ _ hc.out)) ?_ ?_
  ·intro i x t σ H2 hi ht nh;refine oE5 nh λ v2 v3 v4 v5 n9 m8=>oA5 m8 λ n6 s2 hD2 ld2 lk2=>?_;ext;rw [am,ar] at hi;obtain ⟨cb,hcb,rfl⟩:=hi;have hil:i < st.cells.length:=by rw [<- lc];exact (aa.mp hcb).1
   obtain ⟨c,ec⟩:∃ c,st.cells[i]?=some c:=⟨_,ae hil⟩;obtain ⟨vs,hvs,rvs⟩:=hc.g i cb _ hcb (show (zI st.cells)[i]?=some (c.map zZ) by rw [zI,am,ec];rfl);have lv:vs.length=c.length:=by rw [rvs.len,ai]
   have c6:=l6 c (aj ec);have st2:=zg (o:=.tup [.int i,.ref cb]) ht;refine un2 nE ?_;have s3:=s2.trans st2;have hD3:=st2 _ _ hD2;have ld3:=ld2.same st2;generalize upd H2 t (.tup [.int i,.ref cb])=H3 at s3 hD3 ld3 ⊢;clear ld2 hD2 s2 st2 ht;walk_at "e";exists iE2 cb _ (iA3 rfl (s3 _ _ hvs) ?_);refine X2 (K:=K) (a:=cb) (xs:=vs) (λ j σ H'=>∃ (v4 v5:Aq) (n9:As),σ=[some (.ref y),some (.ref D),some (.int i),some (.ref cb),v4,v5]/\Same H H'/\H' D=some (.dT n9)/\LayD H' n9 (Jp st.cells i j) st.cells/\n9.length<=6 * i + j) ⟨_,_,n9,rfl,s3,hD3,ld3.less λ x z=>by
    rcases z with z|⟨_,_,z⟩
    ·exact z
    ·simp at z,lk2⟩ (λ i σ H' _ h=>by obtain ⟨_,_,_,_,s,_⟩:=h;exact SqL.of (s _ _ hvs)) ?_ ?_
   ·clear ld3 hD3 s3 lk2;intro j v t σ H4 hj ht nh;refine oE3 nh λ v4 v5 n9 m8=>oA5 m8 λ n6 s4 hD4 ld4 lk4=>?_;ext;obtain ⟨d,hd,rv⟩:=rvs.at hj;rw [am,ar] at hd;obtain ⟨wr,hwr,rfl⟩:=hd;have hjl:j < c.length:=(aa.mp hwr).1;have sn:∀ x,Jp st.cells i (j + 1) x->Jp st.cells i j x\/wr=some x:=λ x z=>by
     rcases z with z|⟨c',e,z⟩
     ·exact .inl (.inl z)
     ·rw [ec] at e;cases e;rw [aG,hwr] at z;rcases aB.mp z with z|z
      ·exact .inl (.inr ⟨c,ec,z⟩)
      ·exact .inr (ap.mp z).symm
    have st4:=zg (o:=.tup [.int j,v]) ht;refine un2 nE ?_;have s5:=s4.trans st4;have hD5:=st4 _ _ hD4;have ld5:=ld4.same st4;generalize upd H4 t (.tup [.int j,v])=H5 at s5 hD5 ld5 ⊢;clear ld4 hD4 s4 st4 ht;cases wr with
    | none =>
     have rv:Rep H (zG H) v .non:=rv;cases rv;left;exact iE3 _ _ n9 (iA5 rfl s5 hD5 (ld5.less λ x z=>(sn x z).elim id (λ z=>nomatch z)) (by lia))
    | some x =>
     obtain ⟨tx,rfl,htx⟩:=jU (b:=x) rv;left;intro t6 ht6;have st6:=zg (o:=.tup [.int i,.int j]) ht6;have s6:=s5.trans st6;have hD6:=st6 _ _ hD5;have ld6:=ld5.same st6;have ht6':upd H5 t6 (.tup [.int i,.int j]) t6=some (.tup [.int i,.int j]):=nE;generalize upd H5 t6 (.tup [.int i,.int j])=H6 at s6 hD6 ld6 ht6' ⊢;refine iE2 D _ (iA3 rfl (DPut.t (k:=kW x) hD6 (s6 _ _ htx) (zfH (by lia))) ?_);have pl:=zc9 n9 (kW x) (.ref t6);refine iE3 _ _ _ (iA5 rfl (keep (n9:=n9) s6) nE ((ld6.put hD6 ht6' ec hwr).less λ z hz=>(sn z hz).imp id (λ e=>by cases e;rfl)) (by lia))
   ·intro σ H4 nh;refine oE3 nh λ v4 v5 n9 m8=>oA5 m8 λ n6 s4 hD4 ld4 lk4=>?_;ext;rw [lv] at ld4 lk4;exact iE5 _ _ _ _ n9 (iA5 rfl s4 hD4 (ld4.less λ x z=>zcW ec z) (by lia))
  ·intro σ H2 nh;refine oE5 nh λ v2 v3 v4 v5 n9 m8=>oA5 m8 λ n6 s2 hD2 ld2 lk2=>?_;ext;rw [ai,lc,aH] at ld2;exact iE5 _ _ _ _ n9 (iA4 rfl s2 hD2 ld2)
 intro σ' H2 nh;refine oE5 nh λ v2 v3 v4 v5 n9 m8=>oA4 m8 λ n6 s2 hD2 ld2=>?_;ext;left;exact k D n9 _ s2 hD hD2 ld2
inductive Org|no|kept (b p:Nat)|new (k:Nat) (m:Int)
def zbo:Org->D
 | .no=>.non
 | .kept b p=>.tup [.str "kept",.int b,.int p]
 | .new k m=>.tup [.str "new",.int k,.int m]
def Wh (s0:PSt):zq->Org->Prop
 | none,.no=>True
 | some x,.kept b p=>∃ c,s0.cells[b]?=some c/\c[p]?=some (some x)
 | some x,.new k m=>x.1=k/\x ∉ (s0.cells.map xG).flatten/\m=x.2 - (s0.gone.getD k []).headD 0/\∃ g0 gs,s0.gone[k]?=some (g0 :: gs)
 | _,_=>False
def zfx (s0:PSt) (wr:zq):Prop:=∀ x,wr=some x->∃ (k:Nat) (g0:Int) (gs:A6),x.1=k/\s0.gone[k]?=some (g0 :: gs)
def zd9 (a:Ad):Sp:=λ vs H Q _=>∃ (vw:V) (D y:Addr) (n:SN) (s0:PSt) (wr:zq) (n9:As) (p:A5),vs=[vw,.ref D,.ref y]/\Rep H p vw (zZ wr)/\H D=some (.dT n9)/\LayD H n9 (λ x=>x∈(s0.cells.map xG).flatten) s0.cells/\StO a H y n s0/\zfx s0 wr/\∀ v H' o,Same H H'->Rep H' (New H) v (zbo o)->Wh s0 wr o->Q v H'
theorem zaB (T:Txt K mg a):Cal P w K mg base "origin_of" 1 ["ware","lay","before"] [] (zd9 a):=T.lQ.cal λ F=>by
 refine F.okx Wv ?_ ?_
 ·walk_at "i"
 walk_at "j";refine oE8 h λ vw D y n s0 wr n9 p m8=>oA7 m8 λ n6 rv hD ld so ca k=>?_;clear m8 h;subst n6;walk_at "T";refine ⟨_,(ze (zT (zz jI (pq 0) zM (zC _))  (zd (zl zM))  zu)  (ze (zT (zev (zhz (zcl hr) (pq 0) (pq 1)) (by with_unfolding_all rfl))  (zd (zl (jm (za jb (za (zm (zb4 (zcl hr) (pq 1) (pq 0) (λ _ _=>rfl)) zh) (za (zm (zb4 (zcl hr) (pq 1) (pq 0) (λ _ _=>rfl)) zh) zb))))))  zu)  (zd (zl (jm (za jb (za (zm (pq 0) zh) (za (zD xv (zm (pq 0) zh) (zm (zm (zi (pq 2) rfl) (zm (pq 0) zh)) zh)) zb)))))))),?_⟩;left;cases wr with
 | none =>
  have rv:Rep H p vw .non:=rv;cases rv;left;exact k _ _ .no (Same.refl _) .non trivial
 | some x =>
  obtain ⟨tx,rfl,htx⟩:=jU (b:=x) rv;exists iE2 D _ (iA3 rfl (DGet.t (k:=kW x) hD htx) ?_);cases ev:jW n9 (kW x) with
  | some v =>
   refine oE4 (ld.s x v ev) λ t b q c m8=>oA4 m8 λ n6 ht e1 e2=>?_;clear m8;subst n6;exists iE2 D (.ref t) (iA3 rfl (by rw [<- ev];exact DGet.t (k:=kW x) hD htx) (nJ ht at0 ?_));refine iE2 D (.ref t) (iA3 rfl (by rw [<- ev];exact DGet.t (k:=kW x) hD htx) (nJ ht (show atI _ 1=some (.int q) from rfl) ?_));intro t2 ht2;exact k _ _ (.kept b q) (zg ht2) (Reps.mkT (vs:=[.str "kept",.int b,.int q]) (.cons .str (.cons .int (.cons .int .nil))) ht2 nE) ⟨c,e1,e2⟩
  | none =>
   refine oE3 (ca x rfl) λ kk g0 gs m8=>oA2 m8 λ ek eg=>?_;clear m8;obtain ⟨bG,hbG,hgG⟩:=xz so.hg eg;have hmap:(n.ags.map V.ref)[kk]?=some (.ref bG):=by rw [am,hbG];rfl
   exists nJ htx at0 (nJ htx (show atI _ 1=some (.int x.2) from rfl) ?_);refine ra so.hy T.ad T.ig rfl ?_;refine nJ htx at0 ?_;rw [ek];refine zp (SqL.of so.hg.out) (zw hmap) (zp (SqL.of hgG) at0 ?_);left;intro t2 ht2;refine k _ _ (.new kk (x.2 - g0)) (zg ht2) (Reps.mkT (vs:=[.str "new",.int kk,.int (x.2 - g0)]) (.cons .str (.cons .int (.cons .int .nil))) ht2 nE) (iA4 ek (ld.n x ev) ?_ (iE2 g0 gs eg));rw [ah,eg]
   rfl
def Vk (s0 s1:PSt) (oss:List (List Org)):Prop:=oss.length=s1.cells.length/\∀ (i:Nat) os c,oss[i]?=some os->s1.cells[i]?=some c->os.length=c.length/\∀ (j:Nat) o wr,os[j]?=some o->c[j]?=some wr->Wh s0 wr o
def zb7 (oss:List (List Org)):D:=.lst (oss.map λ os=>.lst (os.map zbo))
def zcQ (a:Ad):Sp:=λ vs H Q _=>∃ (y0 y1:Addr) (n0 n1:SN) (s0 s1:PSt),vs=[.ref y0,.ref y1]/\StO a H y0 n0 s0/\StO a H y1 n1 s1/\s0.cells.length<=24/\(∀ c∈s0.cells,c.length<=6)/\s1.cells.length<=24/\(∀ c∈s1.cells,c.length<=6/\∀ wr∈c,zfx s0 wr)/\∀ l H' oss,Same H H'->Rep H' (New H) (.ref l) (zb7 oss)->Vk s0 s1 oss->Q (.ref l) H'
def Ve (T:Txt K mg a):Cal P w K mg base "origins_of" 2 ["before","after"] [] (zcQ a):=T.lA.cal λ F=>by
 refine F.okx Xn ?_ ?_
 ·walk_at "i"
 walk_at "j";refine oE6 h λ y0 y1 n0 n1 s0 s1 m8=>oA8 m8 λ n6 so0 so1 l24 l6 m24 m6 k=>?_;clear m8 h;subst n6;walk_at "T";refine ⟨_,(ze (JB (i:=2) Xn.nd rfl (Or.inr rfl) ‹(pq 0) zb›)  (ze (zt 3 Xn.nd (qe zb))  (jO (qo qC rfl (zV (zi (pq 1) rfl)) (qf 4 Xn.nd)  (zd (zO (xK aK aW aV qD (pq 3) (za (jr (vars:=["ware"]) (caps:=[2,0]) (N:=["ware","lay","before"]) (ON:=["before","after","lay","origins","cells"]) (osc:=zc xb) rfl rfl (by right) rfl rfl (zV (pq 4)) (λ _ _ _ _=>(qf 0 (show (["ware","lay","before"]:A8).Nodup from by symm))) (λ _ _ _ _=>zX) (λ _ _ _ _=>(Zi hr (za (pq 0) (za (pq 1) (za (pq 2) zb)))))) zb)))))  (zd (zl (pq 3)))))),?_⟩;exists uc (Q0 T).mono (iE3 y0 n0 s0 (iA5 rfl so0 l24 l6 (λ D n9 H1 s1' nD hD ld=>?_)));left;intro l hl;have sl:=zg (o:=.lst []) hl;have s2:=s1'.trans sl;have nl0:=zr s1' hl;have hD2:=sl _ _ hD;have ld2:=ld.same sl;have hl2:upd H1 l (.lst []) l=some (.lst []):=nE;generalize upd H1 l (.lst [])=H2 at s2 hD2 ld2 hl2 ⊢;have hc:=so1.hc;have lc:n1.acs.length=s1.cells.length:=by rw [hc.len,zI,ai]
 clear ld hD s1' sl;exists cut (λ σ' H'=>∃ (v4:Aq) (us:Ap) (oss:List (List Org)),σ'=[some (.ref y0),some (.ref y1),some (.ref D),some (.ref l),v4]/\Same H H'/\H' l=some (.lst us)/\Reps H' (λ b=>H b=none/\b≠l) us (oss.map λ os=>.lst (os.map zbo))/\Vk s0 s1 oss) ?_ ?_
 ·walk_at "e";exists ra (s2 _ _ so1.hy) T.ad T.ic rfl ?_;refine ⟨n1.lc,rfl,.inl ⟨⟨_,SqL.of (s2 _ _ hc.out)⟩,?_⟩⟩;refine ql (K:=K) (a:=n1.lc) (xs:=n1.acs.map V.ref) (λ i σ H'=>∃ (v4:Aq) (us:Ap) (oss:List (List Org)),σ=[some (.ref y0),some (.ref y1),some (.ref D),some (.ref l),v4]/\Same H H'/\H' D=some (.dT n9)/\LayD H' n9 (λ x=>x∈(s0.cells.map xG).flatten) s0.cells/\H' l=some (.lst us)/\Reps H' (λ b=>H b=none/\b≠l) us (oss.map λ os=>.lst (os.map zbo))/\oss.length=i/\∀ (i':Nat) os c,oss[i']?=some os->s1.cells[i']?=some c->os.length=c.length/\∀ (j:Nat) o wr,os[j]?=some o->c[j]?=some wr->Wh s0 wr o)
   ⟨_,[],[],rfl,s2,hD2,ld2,hl2,.nil,rfl,λ i' os c e=>by simp at e⟩ (λ i σ H' _ h=>by obtain ⟨_,_,_,_,s,_⟩:=h;exact SqL.of (s _ _ hc.out)) ?_ ?_
  ·intro i x σ H3 hi nh;refine oE3 nh λ v4 us oss m8=>oA8 m8 λ n6 s3 hD3 ld3 hl3 r3 lo ok3=>?_;ext;rw [am,ar] at hi;obtain ⟨cb,hcb,rfl⟩:=hi;have hil:i < s1.cells.length:=by rw [<- lc];exact (aa.mp hcb).1
   obtain ⟨c,ec⟩:∃ c,s1.cells[i]?=some c:=⟨_,ae hil⟩;obtain ⟨vs,hvs,rvs⟩:=hc.g i cb _ hcb (show (zI s1.cells)[i]?=some (c.map zZ) by rw [zI,am,ec];rfl);have lv:vs.length=c.length:=by rw [rvs.len,ai]
   obtain ⟨c6,cw⟩:=m6 c (aj ec);have lu:us.length=i:=by rw [r3.len,ai,lo]
   exists ⟨.inl ⟨rfl,_,SqL.of hl3⟩,?_⟩;walk_at "d";exists ⟨cb,rfl,.inl ⟨⟨_,SqL.of (s3 _ _ hvs)⟩,λ _ _ _ _ nj hacc=>?_⟩⟩;refine ql (K:=K) (a:=cb) (xs:=vs) (λ j σ H'=>∃ (v0:Aq) (ws:Ap) (os:List Org),σ=[v0,some (.ref D),some (.ref y0)]/\Same H3 H'/\H' nj=some (.lst ws)/\Reps H' (λ b=>H3 b=none/\b≠nj) ws (os.map zbo)/\os.length=j/\∀ (j':Nat) o wr,os[j']?=some o->c[j']?=some wr->Wh s0 wr o) (iE3 _ ([]) ([]) (iA6 rfl (zg hacc) nE (.nil) rfl (λ j' o wr e=>by simp at e))) (λ i σ H' _ h=>by obtain ⟨_,_,_,_,s,_⟩:=h;exact SqL.of (s _ _ (s3 _ _ hvs))) ?_ ?_
   ·intro j v σ H4 hj nh;refine oE3 nh λ v0 ws os m8=>oA6 m8 λ n6 s4 ha4 r4 lo4 ok4=>?_;ext;obtain ⟨d,hd,rv⟩:=rvs.at hj;rw [am,ar] at hd;obtain ⟨wr,hwr,rfl⟩:=hd;have hjl:j < c.length:=(aa.mp hwr).1;have s04:=s3.trans s4;have lw:ws.length=j:=by rw [r4.len,ai,lo4]
    exists uc (zaB T).mono (iE8 v D y0 n0 s0 wr n9 _ (iA7 rfl (rv.keep (λ b o hb ho=>⟨hb,s04 _ _ ho⟩)) (s4 _ _ hD3) (ld3.same s4) (so0.same s04) (cw wr (aj hwr)) (λ v' H5 o s5 r5 ok5=>?_)));have f6:Fr [nj] H5 (upd H5 nj (.lst (ws ++ [v']))):=jD (by simp);refine ⟨_,iA3 (s5 _ _ ha4) (zk (by lia)) (iE3 _ (ws ++ [v']) (os ++ [o]) (iA6 rfl (((s4.trans s5).fr.trans f6).same (by intro m hm;rw [ap.mp hm];exact hacc)) nE ?_ (by simp [lo4]) (λ j' o' wr' e1 e2=>?_)))⟩
    ·rw [aZ];refine (r4.keep λ b u hb ho=>⟨hb,f6 _ _ (λ z=>hb.2 (ap.mp z)) (s5 _ _ ho)⟩).append (.one (r5.keep λ b u hb ho=>?_));have hb:H4 b=none:=hb;have nb:b≠nj:=λ z=>by rw [z,ha4] at hb;cases hb
     exact ⟨⟨zr s4 hb,nb⟩,f6 _ _ (λ z=>nb (ap.mp z)) ho⟩
    ·by_cases hj':j' < os.length
     ·rw [aT hj'] at e1;exact ok4 j' o' wr' e1 e2
     ·rw [aQ (by lia)] at e1;have hz:=(aa.mp e1).1;have:j'=j:=by simp at hz;lia
      subst this;rw [lo4,gi] at e1;cases e1;rw [hwr] at e2;cases e2;exact ok5
   ·intro σ H4 nh;refine oE3 nh λ v0 ws os m8=>oA6 m8 λ n6 s4 ha4 r4 lo4 ok4=>?_;ext;rw [lv] at lo4;have s04:=s3.trans s4;have f6:Fr [l] H4 (upd H4 l (.lst (us ++ [.ref nj]))):=jD (by simp);have nacl:nj≠l:=λ z=>by rw [z,hl3] at hacc;cases hacc
    have nac0:H nj=none:=zr s3 hacc;refine iE3 l _ _ (iA5 rfl rfl (s4 _ _ hl3) (zk (by lia)) ?_);have nDl:D≠l:=λ z=>by rw [z,hl3] at hD3;cases hD3
    have ld6:LayD (upd H4 l (.lst (us ++ [.ref nj]))) n9 (λ x=>x∈(s0.cells.map xG).flatten) s0.cells:=⟨ld3.n,λ x v e=>by
     refine oE4 (ld3.s x v e) λ t b p c m8=>oA3 m8 λ e1 e2 e3=>?_;clear m8;have nt:t≠l:=λ z=>by rw [z,hl3] at e2;cases e2
     exact (iE4 t b p c (iA3 e1 (by rw [nF nt];exact s4 _ _ e2) e3))⟩
    refine iE3 _ (us ++ [.ref nj]) (oss ++ [os]) (iA8 rfl ((s04.fr.trans f6).same (by intro m hm;rw [ap.mp hm];exact nl0)) (by rw [nF nDl];exact s4 _ _ hD3) ld6 nE ?_ (by simp [lo]) (λ i' os' c' e1 e2=>?_))
    ·rw [aZ];refine (r3.keep λ b u hb ho=>⟨hb,f6 _ _ (λ z=>hb.2 (ap.mp z)) (s4 _ _ ho)⟩).append (.one ?_);have r6:Reps (upd H4 l (.lst (us ++ [.ref nj]))) (λ b=>H b=none/\b≠l) ws (os.map zbo):=r4.keep λ b u hb ho=>by
      have nb:b≠l:=λ z=>by rw [z,hl3] at hb;cases hb.1
      exact ⟨⟨zr s3 hb.1,nb⟩,f6 _ _ (λ z=>nb (ap.mp z)) ho⟩
     exact r6.mk' ⟨nac0,nacl⟩ (by rw [nF nacl];exact ha4)
    ·by_cases hi':i' < oss.length
     ·rw [aT hi'] at e1;exact ok3 i' os' c' e1 e2
     ·rw [aQ (by lia)] at e1;have hz:=(aa.mp e1).1;have:i'=i:=by simp at hz;lia
      subst this;rw [lo,gi] at e1;cases e1;rw [ec] at e2;cases e2;exact ⟨lo4,ok4⟩
  ·intro σ H3 nh;refine oE3 nh λ v4 us oss m8=>oA8 m8 λ n6 s3 hD3 ld3 hl3 r3 lo ok3=>?_;ext;rw [ai,lc] at lo;exact iE3 _ us oss (iA6 rfl s3 hl3 r3 lo ok3)
 intro σ' H3 nh;refine oE3 nh λ v4 us oss m8=>oA5 m8 λ n6 s3 hl3 r3 ok3=>?_;ext;left;exact k l _ oss s3 (Reps.mk' (r3.keep λ b u hb ho=>⟨hb.1,ho⟩) nl0 hl3) ok3
def OR (ρ:Ah):zq->zq->Prop
 | none,none=>True
 | some x,some y=>ρ x y
 | _,_=>False
def OR.none_iff {ρ:Ah} {x y:zq} (h:OR ρ x y):x=none ↔ y=none:=by
 cases x <;> cases y <;> simp [OR] at h ⊢
def RowR (ρ:Ah) (c c':Av):Prop:=c.length=c'.length/\∀ p,OR ρ (c.getD p none) (c'.getD p none)
def RelC (ρ:Ah) (cs cs':Au):Prop:=cs.length=cs'.length/\∀ b,RowR ρ (cs.getD b []) (cs'.getD b [])
section
variable {ρ:Ah} {c c':Av} {cs cs':Au}
def RowR.set (h:RowR ρ c c') (p:Nat) {x x':zq} (hx:OR ρ x x'):RowR ρ (c.set p x) (c'.set p x'):=by
 refine ⟨by rw [bX,bX];exact h.1,λ q=>?_⟩;rw [qp,qp,h.1]
 split
 ·exact hx
 ·exact h.2 q
def RowR.fin (h:RowR ρ c c'):OR ρ (wL c) (wL c'):=by
 rw [J7,J7,h.1];exact h.2 _
def RelC.set (h:RelC ρ cs cs') (b:Nat) (hc:RowR ρ c c'):RelC ρ (cs.set b c) (cs'.set b c'):=by
 refine ⟨by rw [bX,bX];exact h.1,λ q=>?_⟩;rw [qp,qp,h.1]
 split
 ·exact hc
 ·exact h.2 q
def RelC.cell (h:RelC ρ cs cs') (b:Int):RowR ρ (zJ cs b) (zJ cs' b):=h.2 _
def RowR.mvS (h:RowR ρ c c') (p:Nat):RowR ρ (qJ c p) (qJ c' p):=by
 unfold qJ;by_cases e:c.getD (p + 1) none=none
 ·rw [ax e,ax ((h.2 (p + 1)).none_iff.mp e)];exact (h.set (p + 1) (h.2 p)).set p trivial
 ·rw [aq e,aq (λ z=>e ((h.2 (p + 1)).none_iff.mpr z))];exact h
theorem RowR.mvG (h:RowR ρ c c'):∀ k,RowR ρ (wF c k) (wF c' k)
 | 0=>h
 | k + 1=>by rw [wF,wF,h.1];exact (RowR.mvG h k).mvS _
theorem RelC.on {bs:A1} {t t':Int} (h:RelC ρ cs cs') (ht:∀ b∈bs,t % b.2=t' % b.2):∀ i,RelC ρ (qc bs t cs i) (qc bs t' cs' i)
 | 0=>h
 | i + 1=>by
  have e:t % (bs.getD i (0,1)).2=t' % (bs.getD i (0,1)).2:=by
   rw [ah];cases z:bs[i]? with
   | none=>show t % 1=t' % 1;lia
   | some b=>exact ht b (aj z)
  have ih:=RelC.on h ht i;rw [qc,qc,e]
  split
  ·refine ih.set i ?_;unfold zcb;rw [(ih.2 i).1];exact (ih.2 i).mvG _
  ·exact ih
end
structure Sim (bs:A1) (rs:At) (ρ:Ah) (s s':PSt):Prop where
 al:Alk bs rs s s'
 ce:RelC ρ s.cells s'.cells
 nw:∀ (k:Nat) r (d:Nat),rs[k]?=some r->r.wd=.source->ρ ((k:Int),gAt s.gone k 0 + d) ((k:Int),gAt s'.gone k 0 + d)
section
variable {bs:A1} {rs:At} {ρ:Ah} {s s':PSt}
def zgP (h:Sim bs rs ρ s s') (w:stWf bs rs s) (w':stWf bs rs s') (ro:∀ r∈rs,r.ok) (k:Nat):Sim bs rs ρ (qt rs s k).1 (qt rs s' k).1:=by
 obtain ⟨a1,a2⟩:=zfL h.al w w' ro k;refine ⟨a1,?_,λ j r d hr hs=>?_⟩
 ·unfold qt;cases hr:rs[k]? with
  | none=>exact h.ce
  | some r =>
   have ok:=ro r (aj hr);have hk:=(aa.mp hr).1;simp only;rw [<- zap h.al.ce,<- zco h.al.ce,<- h.al.si,<- X7 (t:=s.turn) ok (λ z p=>h.al.tu _ (.inr ⟨r,aj hr,z,rfl,p⟩))];cases hc:z6 r (z8 rs s.cells r) (qN s.cells r) s.turn (s.sides.getD k 0).toNat with
   | none=>exact h.ce
   | some ch =>
    have sd:=w.so.2 k r _ hr (qh (d:=0) (by rw [w.so.1];exact hk));have sd':wq r ((s.sides.getD k 0).toNat:Int):=by rw [cc sd.1];exact sd
    refine oA5 (wm ok (by simp [z8]) (by simp [qN]) sd' hc) λ c1 _ _ c4 _=>?_;have tk:OR ρ (zR s k (qz r ch)).1 (zR s' k (qz r ch)).1/\RelC ρ (zR s k (qz r ch)).2.cells (zR s' k (qz r ch)).2.cells:=by
     cases e:qz r ch with
     | none =>
      refine ⟨?_,h.ce⟩;have hs:r.wd=.source:=by
       cases e1:ch.1 with
       | none=>exact c4 e1
       | some j =>
        unfold qz at e;rw [e1] at e;simp at e;have:=c1 j e1
        lia
      show ρ ((k:Int),(s.gone.getD k []).headD 0) ((k:Int),(s'.gone.getD k []).headD 0)
      have:=h.nw k r 0 hr hs;rw [xy,xy];simpa using this
     | some b =>
      refine ⟨(h.ce.cell b).fin,?_⟩;refine h.ce.set b.toNat ?_;unfold xl;rw [(h.ce.cell b).1];exact (h.ce.cell b).set _ trivial
    show RelC ρ (movedF r s k ch).cells (movedF r s' k ch).cells
    unfold movedF;cases vZ r ch with
    | none=>exact tk.2
    | some b=>exact tk.2.set b.toNat ((tk.2.cell b).set 0 tk.1)
 ·have m:=Xg rs s k j 0;have e:=a2 j 0;have m:gAt s.gone j 0<=gAt (qt rs s k).1.gone j 0:=m;have:=h.nw j r ((gAt (qt rs s k).1.gone j 0 - gAt s.gone j 0).toNat + d) hr hs;rw [show gAt s.gone j 0 + (((gAt (qt rs s k).1.gone j 0 - gAt s.gone j 0).toNat + d:Nat):Int)=gAt (qt rs s k).1.gone j 0 + d by lia,show gAt s'.gone j 0 + (((gAt (qt rs s k).1.gone j 0 - gAt s.gone j 0).toNat + d:Nat):Int)=gAt (qt rs s' k).1.gone j 0 + d by lia] at this;exact this
theorem zaM (h:Sim bs rs ρ s s') (w:stWf bs rs s) (w':stWf bs rs s') (nk:zQ bs rs) (bo:∀ b∈bs,zA b.1 b.2) (ro:∀ r∈rs,r.ok):∀ m,Sim bs rs ρ (zx rs s m).1 (zx rs s' m).1
 | 0=>h
 | m + 1=>zgP (zaM h w w' nk bo ro m) (ja w nk bo ro m) (ja w' nk bo ro m) ro m
def zeE (h:Sim bs rs ρ s s') (w:stWf bs rs s) (w':stWf bs rs s') (nk:zQ bs rs) (bo:∀ b∈bs,zA b.1 b.2) (ro:∀ r∈rs,r.ok):Sim bs rs ρ (passF bs rs s).1 (passF bs rs s').1:=by
 have i:=zaM h w w' nk bo ro rs.length;exact ⟨(zb5 h.al w w' nk bo ro).1,i.ce.on (λ b hb=>i.al.tu _ (.inl ⟨b,hb,rfl⟩)) _,i.nw⟩
theorem VY (nk:zQ bs rs) (bo:∀ b∈bs,zA b.1 b.2) (ro:∀ r∈rs,r.ok) {p q:Nat} (h:Sim bs rs ρ (zf bs rs p) (zf bs rs q)):∀ m,Sim bs rs ρ (zf bs rs (p + m)) (zf bs rs (q + m))
 | 0=>h
 | m + 1=>zeE (VY nk bo ro h m) (zE nk bo ro _) (zE nk bo ro _) nk bo ro
end
def ziv (rs:At) (s t:PSt) (x y:Int × Int):Prop:=(∃ b p,atC s.cells b p=some x/\atC t.cells b p=some y)\/∃ (k:Nat) (r:Row) (d:Nat),rs[k]?=some r/\r.wd=.source/\x=((k:Int),gAt s.gone k 0 + d)/\y=((k:Int),gAt t.gone k 0 + d)
noncomputable def ziC (s0 s1 t:PSt) (n:Nat):Org->zq
 | .no=>none
 | .kept b p=>atC t.cells b p
 | .new k m=>some ((k:Int),gAt s0.gone k 0 + n * (gAt s1.gone k 0 - gAt s0.gone k 0) + m)
section
variable {bs:A1} {rs:At}
def zhm {s t:PSt} (h:Alk bs rs s t):Sim bs rs (ziv rs s t) s t:=by
 refine ⟨h,⟨by have:=bP List.length h.ce;rw [ai,ai] at this;exact this,λ b=>⟨W1 (QE h.ce b),λ p=>?_⟩⟩,λ k r d hr hs=>.inr (iE3 k r d (iA4 hr hs rfl rfl))⟩;have e:jg rs ((s.cells.getD b []).getD p none)=jg rs ((t.cells.getD b []).getD p none):=by rw [XZ,XZ,QE h.ce b]
 cases e1:(s.cells.getD b []).getD p none with
 | none =>
  rw [e1] at e;rw [(vK _).mp e.symm]
  trivial
 | some x =>
  cases e2:(t.cells.getD b []).getD p none with
  | none=>rw [e1,e2] at e;exact absurd ((vK _).mp e) (λ z=>nomatch z)
  | some y=>exact .inl ⟨b,p,e1,e2⟩
def Alk.refl (s:PSt):Alk bs rs s s:=⟨rfl,rfl,λ _ _ _ _=>rfl,λ _ _=>rfl⟩
def Alk.trans {s t u:PSt} (h:Alk bs rs s t) (h':Alk bs rs t u):Alk bs rs s u:=⟨h.ce.trans h'.ce,h.si.trans h'.si,λ j r a b=>(h.so j r a b).trans (h'.so j r a b),λ n a=>(h.tu n a).trans (h'.tu n a)⟩
variable (nk:zQ bs rs) (bo:∀ b∈bs,zA b.1 b.2) (ro:∀ r∈rs,r.ok) {lim i j:Nat}
include nk bo ro
theorem zeZ (lt:i < j) (al:Alk bs rs (zf bs rs i) (zf bs rs j)):∀ n,Alk bs rs (zf bs rs i) (zf bs rs (i + n * (j - i)))/\∀ k p,gAt (zf bs rs (i + n * (j - i))).gone k p=gAt (zf bs rs i).gone k p + n * (gAt (zf bs rs j).gone k p - gAt (zf bs rs i).gone k p)
 | 0=>by
  rw [Nat.zero_mul,d9];exact ⟨.refl _,λ k p=>by rw [show ((0:Nat):Int)=0 from rfl,Int.zero_mul,gq]⟩
 | n + 1=>by
  obtain ⟨h1,h2⟩:=zeZ lt al n;obtain ⟨g1,g2⟩:=WN h1 nk bo ro (j - i);rw [show i + (j - i)=j by lia] at g1 g2;rw [show i + (n + 1) * (j - i)=i + n * (j - i) + (j - i) by rw [gg];lia];refine ⟨al.trans g1,λ k p=>?_⟩;have:=g2 k p;have e:=h2 k p;rw [show ((n + 1:Nat):Int)=(n:Int) + 1 by lia,Int.add_mul,Int.one_mul];generalize (n:Int) * (gAt (zf bs rs j).gone k p - gAt (zf bs rs i).gone k p)=z at e ⊢
  lia
variable (rd:RoundAt bs rs lim i j)
include rd
theorem ze0:∀ n,Alk bs rs (zf bs rs i) (zf bs rs (i + n * (j - i)))/\∀ k p,gAt (zf bs rs (i + n * (j - i))).gone k p=gAt (zf bs rs i).gone k p + n * (gAt (zf bs rs j).gone k p - gAt (zf bs rs i).gone k p):=zeZ nk bo ro rd.lt (zbU bo ro rd.eq)
theorem zai (n b p:Nat) {o:Org} (h:Wh (zf bs rs i) (atC (zf bs rs j).cells b p) o):atC (zf bs rs (i + (n + 1) * (j - i))).cells b p=ziC (zf bs rs i) (zf bs rs j) (zf bs rs (i + n * (j - i))) n o:=by
 obtain ⟨h1,h2⟩:=ze0 nk bo ro rd n;have lt:=rd.lt;have sm:=VY nk bo ro (zhm h1) (j - i);rw [show i + (j - i)=j by lia] at sm;rw [show i + (n + 1) * (j - i)=i + n * (j - i) + (j - i) by rw [gg];lia];have orr:OR (ziv rs (zf bs rs i) (zf bs rs (i + n * (j - i)))) (atC (zf bs rs j).cells b p) (atC (zf bs rs (i + n * (j - i) + (j - i))).cells b p):=(sm.ce.2 b).2 p;generalize atC (zf bs rs (i + n * (j - i) + (j - i))).cells b p=w at orr ⊢;obtain ⟨uq,gv⟩:=WM nk bo ro i;have inq:∀ {b p:Nat} {x:Int × Int},atC (zf bs rs i).cells b p=some x->∃ c,(zf bs rs i).cells[b]?=some c/\c[p]?=some (some x):=λ {b p x} e=>by
  unfold atC at e;rw [ah,ah] at e;cases e1:(zf bs rs i).cells[b]? with
  | none=>rw [e1] at e;simp at e
  | some c =>
   rw [e1] at e;cases e2:c[p]? with
   | none=>rw [aJ,e2] at e;cases e
   | some y=>rw [aJ,e2] at e;cases e;exact ⟨c,rfl,e2⟩
 have old:∀ {b p:Nat} {x:Int × Int} {d:Nat} {k:Nat},atC (zf bs rs i).cells b p=some x->x≠((k:Int),gAt (zf bs rs i).gone k 0 + d):=λ {b p x d k} e z=>by
  have:=gv b p x e;rw [z,aE] at this;simp only at this
  lia
 cases o with
 | no =>
  cases e:atC (zf bs rs j).cells b p with
  | none=>rw [e] at orr;exact orr.none_iff.mp rfl
  | some x=>rw [e] at h;exact h.elim
 | kept b' p' =>
  cases e:atC (zf bs rs j).cells b p with
  | none=>rw [e] at h;exact h.elim
  | some x =>
   rw [e] at h orr;obtain ⟨c,g1,g2⟩:=h;have at1:atC (zf bs rs i).cells b' p'=some x:=by
    unfold atC;rw [ah,ah,g1,aJ,g2]
    rfl
   cases w with
   | none=>exact orr.elim
   | some y =>
    rcases orr with ⟨b2,p2,q1,q2⟩|⟨k,r,d,_,_,q,_⟩
    ·obtain ⟨rfl,rfl⟩:=uq _ _ _ _ x at1 q1;exact q2.symm
    ·exact absurd q (old at1)
 | new k m =>
  cases e:atC (zf bs rs j).cells b p with
  | none=>rw [e] at h;exact h.elim
  | some x =>
   rw [e] at h orr;refine oA4 h λ g1 g2 g3 _=>?_;clear h;cases w with
   | none=>exact orr.elim
   | some y =>
    rcases orr with ⟨b2,p2,q1,_⟩|⟨k',r,d,hr,hs,rfl,rfl⟩
    ·obtain ⟨c,q3,q4⟩:=inq q1;exact absurd (flat_mem.mpr ⟨c,aj q3,aj q4⟩) g2
    ·have ek:k'=k:=by simp only at g1;lia
     subst ek;rw [xy] at g3;simp only at g3;show some ((k':Int),gAt (zf bs rs (i + n * (j - i))).gone k' 0 + (d:Int))=some ((k':Int),_)
     rw [h2 k' 0,show m=(d:Int) by lia]
end
noncomputable def lf (y0 lo lg:Addr) (L:Int):List (Str × V):=zL "growth" (.ref lg) (zL "origins" (.ref lo) (zL "length" (.int L) (zL "before" (.ref y0) [])))
def XR {y0 lo lg:Addr}:(lf y0 lo lg L).lookup ("growth":Str)=some (.ref lg):=by unfold lf;rw [zB,ax rfl]
def zby {y0 lo lg:Addr}:(lf y0 lo lg L).lookup ("origins":Str)=some (.ref lo):=by unfold lf;rw [zB,aq (by symm),zB,ax rfl]
def Qp {y0 lo lg:Addr}:(lf y0 lo lg L).lookup ("length":Str)=some (.int L):=by unfold lf;rw [zB,aq (by symm),zB,aq (by symm),zB,ax rfl]
def xj {y0 lo lg:Addr}:(lf y0 lo lg L).lookup ("before":Str)=some (.ref y0):=by unfold lf;rw [zB,aq (by symm),zB,aq (by symm),zB,aq (by symm),zB,ax rfl]
def XL (a:Ad):Sp:=λ vs H Q _=>∃ (z dx y0 y1:Addr) (n0 n1:SN) (s0 s1:PSt) (H0:Hp),vs=[.ref z,.ref y0,.ref y1]/\H z=some (.ins a.q dx [])/\Same H0 H/\H0 z=none/\StO a H0 y0 n0 s0/\StO a H0 y1 n1 s1/\s0.cells.length<=24/\(∀ c∈s0.cells,c.length<=6)/\s1.cells.length<=24/\(∀ c∈s1.cells,c.length<=6/\∀ wr∈c,zfx s0 wr)/\s0.gone.length=s1.gone.length/\s0.gone.length<=24/\(∀ (i:Nat) g0 g1,s0.gone[i]?=some g0->s1.gone[i]?=some g1->g0.length=g1.length/\g0.length<=4) /\
 ∀ lo lg gs oss H',Same H0 H'->H' z=some (.ins a.q dx (lf y0 lo lg (s1.turn - s0.turn)))->Rep H' (Off [z]) (.ref lo) (zb7 oss)->Vk s0 s1 oss->NL H' (zG H') lg gs (z9 (js s0.gone s1.gone))->Q .non H'
def V3 (T:Txt K mg a) (F:Fun K "__init__" "Lap.__init__" wD f fd):FnOk P w K mg base (CXr P w) 3 f fd ["self","before","after"] (XL a):=by
 refine F.okx VN ?_ ?_
 ·walk_at "i"
 walk_at "j";refine oE5 h λ z dx y0 y1 n0 m8=>oE4 m8 λ n1 s0 s1 H0 n6=>oA9 n6 λ nu hz sH z0 so0 so1 l0 c0 nB=>oA6 nB λ l1 c1 gl g24 gr k=>?_;clear m8 n6 nB h;subst nu;walk_at "T";refine ⟨_,(ze (qT (pq 0) (pq 1) rfl)  (ze (qT (pq 0) (zD xv (zi (pq 2) rfl) (zi (pq 1) rfl)) rfl)  (ze (qT (pq 0) ‹(pq 1) (za (pq 2) zb)› rfl)  (zd (qT (pq 0) ‹(pq 1) (za (pq 2) zb)› rfl))))),?_⟩;left;have sz:∀ {H':Hp} {o:HO},Same H0 H'->Same H0 (upd H' z o):=λ s b o hb=>by rw [nF (nH hb z0)];exact s b o hb
 refine iE4 z a.q dx ([]) (iA6 rfl hz T.ij T.io (by decide) ?_);have s1':=sz (o:=.ins a.q dx (zL "before" (.ref y0) [])) sH;exists ra ((so1.same s1').hy) T.ad T.ie rfl (ra ((so0.same s1').hy) T.ad T.ie rfl ?_);exists iE4 z a.q dx _ (iA6 rfl nE T.ij T.iF (by show 1 < 1000;decide) ?_);rw [vD];have s2:=sz (o:=.ins a.q dx (zL "length" (.int (s1.turn - s0.turn)) (zL "before" (.ref y0) []))) sH;have hz2:upd H z (.ins a.q dx (zL "length" (.int (s1.turn - s0.turn)) (zL "before" (.ref y0) []))) z=some (.ins a.q dx (zL "length" (.int (s1.turn - s0.turn)) (zL "before" (.ref y0) []))):=nE;generalize upd H z (.ins a.q dx (zL "length" (.int (s1.turn - s0.turn)) (zL "before" (.ref y0) [])))=H2 at s2 hz2 ⊢;exists uc (Ve T).mono (iE6 y0 y1 n0 n1 s0 s1 (iA8 rfl (so0.same s2) (so1.same s2) l0 c0 l1 c1 (λ lo H3 oss s3 ro3 ok3=>?_)));have s03:=s2.trans s3;have hz3:=s3 _ _ hz2;refine iE4 z a.q dx _ (iA6 rfl hz3 T.ij T.iS (by show 2 < 1000;decide) ?_);have s4:=sz (o:=.ins a.q dx (zL "origins" (.ref lo) (zL "length" (.int (s1.turn - s0.turn)) (zL "before" (.ref y0) [])))) s03;have r4:Rep (upd H3 z (.ins a.q dx (zL "origins" (.ref lo) (zL "length" (.int (s1.turn - s0.turn)) (zL "before" (.ref y0) []))))) (Off [z]) (.ref lo) (zb7 oss):=ro3.keep λ b o hb ho=>by
  have nb:b≠z:=λ e=>by have hb:H2 b=none:=hb;rw [e,hz2] at hb;cases hb
  exact ⟨by simp [Off,nb],by rw [nF nb];exact ho⟩
 have hz4:upd H3 z (.ins a.q dx (zL "origins" (.ref lo) (zL "length" (.int (s1.turn - s0.turn)) (zL "before" (.ref y0) [])))) z=some (.ins a.q dx (zL "origins" (.ref lo) (zL "length" (.int (s1.turn - s0.turn)) (zL "before" (.ref y0) [])))):=nE;generalize upd H3 z (.ins a.q dx (zL "origins" (.ref lo) (zL "length" (.int (s1.turn - s0.turn)) (zL "before" (.ref y0) []))))=H4 at s4 r4 hz4 ⊢;refine uc (QF T).mono (iE6 y0 y1 n0 n1 s0 s1 (iA7 rfl (so0.same s4) (so1.same s4) gl g24 gr (λ lg gs H5 s5 ng fr=>?_)));have hz5:=s5 _ _ hz4;refine iE4 z a.q dx _ (iA6 rfl hz5 T.ij T.iL (by show 3 < 1000;decide) ?_);refine k lo lg gs oss _ (sz (s4.trans s5)) nE (r4.keep λ b o hb ho=>?_) ok3 (ng.tup λ b o hb ho=>?_)
 ·have nb:b≠z:=λ e=>hb (by rw [e];simp);exact ⟨hb,by rw [nF nb];exact s5 _ _ ho⟩
 ·have nb:b≠z:=λ e=>by
   subst e;rcases hb with hb|hb|⟨xs,hb⟩
   ·have:=fr lg (bh ..);rw [<- hb,hz4] at this;cases this
   ·have:=fr b (aA _ hb);rw [hz4] at this;cases this
   ·rw [hz5] at hb;cases hb
  rw [nF nb];exact ho
def ziI (T:Txt K mg a):KCal P w K mg base "Lap" a.q 3 ["self","before","after"] [] (XL a):=T.md.cal T.mZ (V3 T)
structure LapO (a:Ad) (H:Hp) (z y0:Addr) (n0:SN) (s0 s1:PSt) (oss:List (List Org)):Prop where
 ex:∃ dx lo lg gs,H z=some (.ins a.q dx (lf y0 lo lg (s1.turn - s0.turn)))/\Rep H (λ _=>True) (.ref lo) (zb7 oss)/\NL H (zG H) lg gs (z9 (js s0.gone s1.gone))
 so:StO a H y0 n0 s0
 ok:Vk s0 s1 oss
def LapO.same {H H':Hp} {z y0:Addr} {n0:SN} {s0 s1:PSt} {oss:List (List Org)} (h:LapO a H z y0 n0 s0 s1 oss) (s:Same H H'):LapO a H' z y0 n0 s0 s1 oss:=by
 refine oE4 h.ex λ dx lo lg gs m8=>oA3 m8 λ h1 h2 h3=>?_;clear m8;exact ⟨(iE4 dx lo lg gs (iA3 (s _ _ h1) (je h2 s) (h3.tup λ b o _ hb=>s b o hb))),h.so.same s,h.ok⟩
def zcS (a:Ad):Sp:=λ vs H Q _=>∃ (z y0 t:Addr) (n0:SN) (s0 s1:PSt) (oss:List (List Org)) (k:Nat) (m:Int) (n:Nat) (x:Int) (xs:A6),vs=[.ref z,.ref t,.int n]/\LapO a H z y0 n0 s0 s1 oss/\H t=some (.tup [.str "new",.int k,.int m])/\s0.gone[k]?=some (x :: xs)/\s0.gone.length=s1.gone.length/\0<=gAt s1.gone k 0 - x/\gAt s1.gone k 0 - x<=1000/\∀ t' H',Same H H'->H' t'=some (.tup [.int k,.int (x + n * (gAt s1.gone k 0 - x) + m)])->Q (.ref t') H'
def JX (T:Txt K mg a):MCal P w K mg base a.q "new_ware" 1 ["self","origin","rounds"] [] (zcS a):=T.kK.cal T.ij λ F=>by
 refine F.okx QL ?_ ?_
 ·walk_at "i"
 walk_at "j";refine oE8 h λ z y0 t n0 s0 s1 oss kk m8=>oE4 m8 λ m n x xs n6=>oA8 n6 λ nu lo ht hg le d0 d1 k=>?_;clear m8 n6 h;subst nu;refine oE4 lo.ex λ dx l1 lg gs m8=>oA3 m8 λ hz _ ng=>?_;clear m8;have hk:=(aa.mp hg).1;obtain ⟨g1,e1⟩:∃ g,s1.gone[kk]?=some g:=⟨_,ae (by rw [<- le];exact hk)⟩;have eg:(js s0.gone s1.gone)[kk]?=some (jC (x :: xs) g1):=by unfold js;rw [eD,hg,e1]
 have eG:gAt s1.gone kk 0=g1.getD 0 0:=by unfold gAt;rw [ah (l:=s1.gone),e1];rfl
 obtain ⟨b0,hb0,h0⟩:=xz lo.so.hg hg;obtain ⟨b1,hb1,h1⟩:=xz ng eg;have eF:(jC (x :: xs) g1)[0]?=some (g1.getD 0 0 - x):=by unfold jC;rw [am,gZ (by simp)];rfl
 rw [eG] at d0 d1 k;walk_at "T";refine ⟨_,(ze (zt 3 QL.nd (zm (pq 1) zh))  (ze (zt 4 QL.nd (zD qr (zm (zm (zi (zi (pq 0) rfl) rfl) (pq 3)) zh) (zD vm (pq 2) (zm (zm (zi (pq 0) rfl) (pq 3)) zh))))  (zd (zl (jm (za (pq 3) (za (zD qr (pq 4) (zm (pq 1) zh)) zb))))))),?_⟩;exists nJ ht (show atI _ 1=some (.int kk) from rfl) ?_;exists ra hz T.ij T.io xj (ra lo.so.hy T.ad T.ig rfl (zp (SqL.of lo.so.hg.out) (zw (by rw [am,hb0];rfl)) (zp (SqL.of h0) at0 ?_)));refine ra hz T.ij T.iL XR (zp (SqL.of ng.out) (zw (by rw [am,hb1];rfl)) (zp (SqL.of h1) (show atI _ ((0:Nat):Int)=some (.int (g1.getD 0 0 - x)) from zw (j9 eF)) ?_));refine ⟨mul_okR (by lia) (by lia),?_⟩;exists nJ ht (show atI _ 2=some (.int m) from rfl) ?_;left;exact λ p hp=>k p _ (zg hp) nE
noncomputable def zal (O:Nat × Nat->Org) (q:Nat × Nat):Option (Nat × Nat):=match O q with
 | .kept b p=>some (b,p)
 | _=>none
noncomputable def chn (O:Nat × Nat->Org) (q0:Nat × Nat):Nat->Option (Nat × Nat)
 | 0=>some q0
 | t + 1=>(chn O q0 t).bind (zal O)
def zgT (C:Nat->Nat × Nat->zq) (O:Nat × Nat->Org) (q0:Nat × Nat) (N left:Nat) (q:Nat × Nat):Prop:=∃ t,chn O q0 t=some q/\C N q0=C left q/\((t + left=N/\∀ u,0 < u->u<=t->chn O q0 u≠some q0)\/∃ d,t + left < d/\∀ u,0 < u->u < d->chn O q0 u≠some q0)
section
variable {C:Nat->Nat × Nat->zq} {O:Nat × Nat->Org} {ok:Nat × Nat->Prop} (hC:∀ n q b p,ok q->O q=.kept b p->C (n + 1) q=C n (b,p)) (hk:∀ q b p,ok q->O q=.kept b p->ok (b,p)) {q0:Nat × Nat} (h0:ok q0)
include hC hk h0
theorem zfy:∀ t q,chn O q0 t=some q->ok q/\∀ m,C (m + t) q0=C m q
 | 0,q,h=>by cases h;exact ⟨h0,λ _=>rfl⟩
 | t + 1,q,h=>by
  obtain ⟨q1,h1,h2⟩:=cg.mp h;obtain ⟨o1,c1⟩:=zfy t q1 h1;unfold zal at h2
  split at h2
  ·rename_i b p e;cases h2;exact ⟨hk q1 b p o1 e,λ m=>by rw [show m + (t + 1)=m + 1 + t by lia,c1 (m + 1),hC m q1 b p o1 e]⟩
  ·cases h2
theorem zgB {d:Nat} (hd:chn O q0 d=some q0) (d0:0 < d) (m:Nat):C m q0=C (m % d) q0:=by
 have:=(zfy hC hk h0 d q0 hd).2
 induction m using Nat.strongRecOn with
 | _ m ih =>
  by_cases h:m < d
  ·rw [cE h]
  ·rw [hW (by lia),<- ih (m - d) (by lia),<- this (m - d),show m - d + d=m by lia]
theorem zdS {N l:Nat} {q:Nat × Nat} (h:zgT C O q0 N (l + 1) q) {b p:Nat} (e:O q=.kept b p):((b,p)≠q0->zgT C O q0 N l (b,p))/\((b,p)=q0->0 < N - l/\zgT C O q0 N (l % (N - l)) q0):=by
 refine oE1 h λ t m8=>oA3 m8 λ h1 h2 h3=>?_;clear m8 h;have nx:chn O q0 (t + 1)=some (b,p):=by
  show (chn O q0 t).bind (zal O)=_
  rw [h1];show zal O q=_
  unfold zal;rw [e]
 have cq:C N q0=C l (b,p):=by rw [h2,hC l q b p (zfy hC hk h0 t q h1).1 e]
 refine ⟨λ ne=>⟨t + 1,iA3 nx cq ?_⟩,λ eq=>?_⟩
 ·rcases h3 with ⟨a1,a2⟩|⟨d,a1,a2⟩
  ·refine .inl ⟨by lia,λ u u0 ul=>?_⟩;by_cases z:u=t + 1
   ·rw [z,nx];exact λ y=>ne (aO y)
   ·exact a2 u u0 (by lia)
  ·exact .inr ⟨d,by lia,a2⟩
 ·rcases h3 with ⟨a1,a2⟩|⟨d,a1,a2⟩
  ·refine ⟨by lia,⟨0,iA3 rfl ?_ (.inr ⟨t + 1,?_,λ u u0 ul=>a2 u u0 (by lia)⟩)⟩⟩
   ·rw [cq,eq,show N - l=t + 1 by lia];exact zgB hC hk h0 (by rw [nx,eq]) (by lia) l
   ·rw [show N - l=t + 1 by lia,fh];exact cm _ (by lia)
  ·exact absurd (nx.trans (by rw [eq])) (a2 (t + 1) (by lia) (by lia))
end
def zaf {y0 lo lg:Addr} {x:Str} (h1:x≠"before") (h2:x≠"length") (h3:x≠"origins") (h4:x≠"growth"):(lf y0 lo lg L).lookup x=none:=by
 unfold lf;rw [zB,aq h4,zB,aq h3,zB,aq h2,zB,aq h1]
 rfl
def LapO.org {z y0:Addr} {n0:SN} {s0 s1:PSt} {oss:List (List Org)} (h:LapO a H z y0 n0 s0 s1 oss) {b p:Nat} {os:List Org} {o:Org} (e1:oss[b]?=some os) (e2:os[p]?=some o):∃ dx lo lg us bl vs v,H z=some (.ins a.q dx (lf y0 lo lg (s1.turn - s0.turn)))/\H lo=some (.lst us)/\us[b]?=some (.ref bl)/\H bl=some (.lst vs)/\vs[p]?=some v/\Rep H (λ _=>True) v (zbo o):=by
 refine oE4 h.ex λ dx lo lg gs m8=>oA3 m8 λ hz r _=>?_;clear m8;refine oE2 (Rep.lst' r) λ l0 us m8=>oA4 m8 λ e _ hl ru=>?_;clear m8;cases e;have hb:b < us.length:=by rw [ru.len,ai];exact (aa.mp e1).1
 obtain ⟨d,hd,rb⟩:=ru.at (ae hb);rw [am,e1] at hd;cases hd;refine oE2 (Rep.lst' rb) λ bl vs m8=>oA4 m8 λ e _ hbl rv=>?_;clear m8;have hp:p < vs.length:=by rw [rv.len,ai];exact (aa.mp e2).1
 obtain ⟨d,hd,rp⟩:=rv.at (ae hp);rw [am,e2] at hd;cases hd;exact iE7 dx lo lg us bl vs (vs[p]) (iA6 hz hl (by rw [<- e];exact ae hb) hbl (ae hp) rp)
def zin {x:Str} {m:Int} (h:Rep H p v (.tup [.str x,.int k,.int m])):∃ t,v=.ref t/\H t=some (.tup [.str x,.int k,.int m]):=by
 refine oE2 (Rep.tup' h) λ t us m8=>oA4 m8 λ n6 _ ht rr=>?_;clear m8;subst n6;have g:=rr.g;refine oE2 (Vb rr.len) λ x0 _ m8=>oA2 m8 λ n6 h1=>?_;clear m8;subst n6;obtain ⟨x1,x2,rfl⟩:=two_of h1;have a0:=g 0 x0 _ rfl rfl;have a1:=g 1 x1 _ rfl rfl;have a2:=g 2 x2 _ rfl rfl;cases a0;cases a1;cases a2;exact ⟨t,rfl,ht⟩
def zih (rs:At) (st:PSt) (k i p:Nat):gAt (qt rs st k).1.gone i p<=gAt st.gone i p + if i=k then 1 else 0:=by
 unfold qt;have z:gAt st.gone i p<=gAt st.gone i p + if i=k then 1 else 0:=by split <;> lia
 cases rs[k]? with
 | none=>exact z
 | some r =>
  simp only;cases z6 r (z8 rs st.cells r) (qN st.cells r) st.turn (st.sides.getD k 0).toNat with
  | none=>exact z
  | some ch =>
   obtain ⟨_,_,c3⟩:=movedF_keep (r:=r) (st:=st) (k:=k) (ch:=ch);show gAt ((movedF r st k ch).gone.set k _) i p<=_
   rw [c3];unfold gAt;rw [qp]
   split
   ·rename_i h;obtain ⟨rfl,_⟩:=h;rw [ax rfl];unfold Zq;rw [qp]
    split
    ·rename_i h;rw [h.1];exact b8 _
    ·lia
   ·exact z
theorem zcG (rs:At) (st:PSt) (i p:Nat):∀ m,gAt (zx rs st m).1.gone i p<=gAt st.gone i p + if i < m then 1 else 0
 | 0=>by rw [aq (Nat.not_lt_zero _)];exact Int.le_of_eq (gq _).symm
 | m + 1=>by
  have h1:=zcG rs st i p m;have h2:=zih rs (zx rs st m).1 m i p;show gAt (qt rs (zx rs st m).1 m).1.gone i p<=_
  by_cases e:i=m
  ·rw [ax e] at h2;rw [aq (by lia)] at h1;rw [ax (by lia)]
   lia
  ·rw [aq e] at h2;by_cases h:i < m
   ·rw [ax h] at h1;rw [ax (by lia)]
    lia
   ·rw [aq h] at h1;rw [aq (by lia)]
    lia
theorem Q5 (bs:A1) (rs:At) (k p:Nat):∀ n:Nat,gAt (zf bs rs n).gone k p<=n
 | 0=>by
  show gAt (rs.map qE) k p<=0
  unfold gAt;rw [ah,ah,am];cases rs[k]? with
  | none=>exact b8 _
  | some r =>
   show ((qE r)[p]?).getD 0<=0
   unfold qE;rw [dU]
   split <;> exact b8 _
 | n + 1=>by
  have h1:=Q5 bs rs k p n;have h2:=zcG rs (zf bs rs n) k p rs.length;show gAt (zx rs (zf bs rs n) rs.length).1.gone k p<=_
  split at h2 <;> lia
def Vy (a:Ad):Sp:=λ vs H Q _=>∃ (z y0 t:Addr) (n0:SN) (oss:List (List Org)) (bs:A1) (rs:At) (lim i j N b p:Nat) (c:Av),vs=[.ref z,.ref t,.int N]/\LapO a H z y0 n0 (zf bs rs i) (zf bs rs j) oss/\zQ bs rs/\(∀ b∈bs,zA b.1 b.2)/\(∀ r∈rs,r.ok)/\RoundAt bs rs lim i j/\lim<=1000/\H t=some (.tup [.int b,.int p])/\(zf bs rs i).cells[b]?=some c/\p < c.length/\∀ v H',Same H H'->Rep H' (zG H') v (zZ (atC (zf bs rs (i + N * (j - i))).cells b p))->Q v H'
theorem Qn (T:Txt K mg a):MCal P w K mg base a.q "ware_after" 2 ["self","first","rounds"] [] (Vy a):=T.i5.cal T.ij λ F=>by
 refine F.okx Zz ?_ ?_
 ·walk_at "i"
 walk_at "j";refine oE8 h λ z y0 t n0 oss bs rs lim m8=>oE6 m8 λ i j N b p c n6=>oA9 n6 λ nu lo nk bo ro rd l1000 ht nB=>oA3 nB λ hc hp k=>?_;clear m8 n6 nB h;subst nu;have w0:=zE nk bo ro i;have w1:=zE nk bo ro j;let C:Nat->Nat × Nat->zq:=λ n q=>atC (zf bs rs (i + n * (j - i))).cells q.1 q.2;let O:Nat × Nat->Org:=λ q=>(oss.getD q.1 []).getD q.2 .no;let ok:Nat × Nat->Prop:=λ q=>∃ c,(zf bs rs i).cells[q.1]?=some c/\q.2 < c.length;have hO:∀ q,ok q->∃ os,oss[q.1]?=some os/\os[q.2]?=some (O q)/\Wh (zf bs rs i) (atC (zf bs rs j).cells q.1 q.2) (O q):=λ q ⟨c,h1,h2⟩=>by
  have hq:=(aa.mp h1).1;have eb:=ae (l:=bs) (i:=q.1) (by rw [<- w0.co.1];exact hq);obtain ⟨c1,e1⟩:∃ c1,(zf bs rs j).cells[q.1]?=some c1:=⟨_,ae (by rw [w1.co.1,<- w0.co.1];exact hq)⟩;have l1:c1.length=c.length:=by rw [(w1.co.2 q.1 _ c1 eb e1).1,(w0.co.2 q.1 _ c eb h1).1]
  obtain ⟨os,e2⟩:∃ os,oss[q.1]?=some os:=⟨_,ae (by rw [lo.ok.1];exact (aa.mp e1).1)⟩;obtain ⟨l2,g⟩:=lo.ok.2 q.1 os c1 e2 e1;obtain ⟨o,e3⟩:∃ o,os[q.2]?=some o:=⟨_,ae (by lia)⟩;obtain ⟨wr,e4⟩:∃ wr,c1[q.2]?=some wr:=⟨_,ae (by lia)⟩;have eO:O q=o:=by
   show (oss.getD q.1 []).getD q.2 .no=o
   rw [ah,ah,e2,aJ,e3]
   rfl
  have eW:atC (zf bs rs j).cells q.1 q.2=wr:=by
   unfold atC;rw [ah,ah,e1,aJ,e4]
   rfl
  rw [eO,eW];exact ⟨os,iA3 e2 e3 (g q.2 o wr e3 e4)⟩
 have hC:∀ n q b p,ok q->O q=.kept b p->C (n + 1) q=C n (b,p):=λ n q b p hq e=>by
  refine oE1 (hO q hq) λ _ m8=>oA3 m8 λ _ _ g=>?_;clear m8;rw [e] at g;exact zai nk bo ro rd n q.1 q.2 g
 have hk:∀ q b p,ok q->O q=.kept b p->ok (b,p):=λ q b p hq e=>by
  refine oE1 (hO q hq) λ _ m8=>oA3 m8 λ _ _ g=>?_;clear m8;rw [e] at g;cases e1:atC (zf bs rs j).cells q.1 q.2 with
  | none=>rw [e1] at g;exact g.elim
  | some x =>
   rw [e1] at g;obtain ⟨c,g1,g2⟩:=g;exact ⟨c,g1,(aa.mp g2).1⟩
 walk_at "T";refine ⟨_,(ze (zt 3 Zz.nd (pq 1))  (ze (zt 4 Zz.nd (pq 2))  (ze (ZF qC (zz V2 (pq 4) zh (zC _))  (ze (zt 5 Zz.nd (zm (zm (zi (pq 0) rfl) (zm (pq 3) zh)) (zm (pq 3) zh)))  (ze (zT (zz jI (pq 5) zM (zC _))  (zd (zl zM))  zu)  (ze (zew (i:=4) Zz.nd rfl (Or.inl rfl) zh zhV)  (ze (zT (zz (JP hr.units1) (zm (pq 5) zh) jb (zC _))  (zd (zl (JK ⟨rfl,rfl,rfl⟩ hr (pq 0) (za (pq 5) (za (pq 4) zb)))))  zu)  (ze (zt 3 Zz.nd (jm (za (zm (pq 5) zh) (za (zm (pq 5) zh) zb))))  (zd (zT (zz (JP hr.units1) (pq 3) (pq 1) (zC _))  (zd (zt 4 Zz.nd (zD jn (pq 4) (zD xv (pq 2) (pq 4)))))  zu))))))))  (zd (zl (zm (zm (zi (zi (pq 0) rfl) rfl) (zm (pq 3) zh)) (zm (pq 3) zh))))))),?_⟩;left;have ok0:ok (b,p):=⟨c,hc,hp⟩;have k:∀ v H',Same H H'->Rep H' (zG H') v (zZ (C N (b,p)))->Q v H':=k;refine ⟨λ l σ H'=>∃ (tc:Addr) (q:Nat × Nat) (v5:Aq),σ=[some (.ref z),some (.ref t),some (.int N),some (.ref tc),some (.int l),v5]/\Same H H'/\H' tc=some (.tup [.int q.1,.int q.2])/\zgT C O (b,p) N l q/\ok q,(iE4 N t (b,p) none (iA5 rfl (Same.refl _) ht ⟨0,iA3 rfl rfl (.inl ⟨by lia,λ u u0 ul=>absurd u0 (by lia)⟩)⟩ ok0)),?_⟩;intro l σ H1 nh;refine oE3 nh λ tc q v5 m8=>oA5 m8 λ n6 s1 htc bk okq=>?_;ext;have lo1:=lo.same s1;have ceq:C N (b,p)=C l q:=bk.choose_spec.2.1;exists zU (λ hl=>?_) (λ hl=>?_)
 ·obtain ⟨l,rfl⟩:∃ l',l=l' + 1:=⟨l - 1,by lia⟩;refine zf5 ?_;refine oE1 (hO q okq) λ os m8=>oA3 m8 λ e1 e2 og=>?_;clear m8;refine oE7 (lo1.org e1 e2) λ dx lo' lg us bl vs v m8=>oA6 m8 λ hz hlo hus hbl hvs rv=>?_;clear m8;have lc:=zai nk bo ro rd l q.1 q.2 og;exists ra hz T.ij T.iS zby (nJ htc at0 (zp (SqL.of hlo) (zw hus) (nJ htc (show atI _ 1=some (.int q.2) from rfl) (zp (SqL.of hbl) (zw hvs) ?_))));cases eo:O q with
  | no =>
   rw [eo] at rv lc;have rv:Rep H1 (λ _=>True) v .non:=rv;cases rv;left;exact k _ H1 s1 (by rw [ceq];show Rep H1 _ _ (zZ (atC _ _ _));rw [lc];exact .non)
  | new kk m =>
   rw [eo] at rv lc;obtain ⟨to,rfl,hto⟩:=zin rv;rw [eo] at og;obtain ⟨x,xs,hg⟩:∃ x xs,(zf bs rs i).gone[kk]?=some (x :: xs):=by
    cases e3:atC (zf bs rs j).cells q.1 q.2 with
    | none=>rw [e3] at og;exact og.elim
    | some w2=>rw [e3] at og;obtain ⟨_,_,_,g0,gs,h⟩:=og;exact ⟨g0,gs,h⟩
   have ex:gAt (zf bs rs i).gone kk 0=x:=by unfold gAt;rw [ah (l:=(zf bs rs i).gone),hg];rfl
   have mo:gAt (zf bs rs i).gone kk 0<=gAt (zf bs rs j).gone kk 0:=by
    have:=jH bs rs i kk 0 (j - i);have lt:=rd.lt;rw [show i + (j - i)=j by lia] at this;exact this
   have up:=Q5 bs rs kk 0 j;have x0:0<=gAt (zf bs rs i).gone kk 0:=by
    have hkk:=(aa.mp hg).1;have er:=ae (l:=rs) (i:=kk) (by rw [<- w0.go.1];exact hkk);rw [ex];exact (w0.go.2 kk _ _ er hg).2 x (bh ..)
   have jl:=rd.le;change _=some ((kk:Int),gAt (zf bs rs i).gone kk 0 + (l:Int) * (gAt (zf bs rs j).gone kk 0 - gAt (zf bs rs i).gone kk 0) + m) at lc;rw [ex] at mo x0 lc;exists nJ hto at0 ?_;left;rw [show ((l + 1:Nat):Int) - 1=(l:Int) by lia];refine iE7 z a.q dx _ _ _ _ (iA5 rfl hz (zaf (by symm) (by symm) (by symm) (by symm)) ((JX T).mono) ⟨z,y0,to,n0,_,_,oss,kk,m,l,x,xs,rfl,lo1,hto,hg,by rw [w0.go.1,w1.go.1],by lia,by lia,λ t' H' s' ht'=>k _ _ (s1.trans s') ?_⟩);rw [ceq];show Rep H' _ _ (zZ (atC _ _ _))
   rw [lc];exact Reps.mkT (vs:=[.int kk,.int (x + l * (gAt (zf bs rs j).gone kk 0 - x) + m)]) (.cons .int (.cons .int .nil)) ⟨_,ht'⟩ ht'
  | kept b' p' =>
   rw [eo] at rv lc;obtain ⟨to,rfl,hto⟩:=zin (m:=(p':Int)) rv;obtain ⟨n1,n2⟩:=zdS hC hk ok0 bk eo;have okn:=hk q b' p' okq eo;exists nJ hto at0 ?_;exists zU (λ z=>absurd z (by symm)) λ _=>nJ hto (show atI _ 1=some (.int b') from rfl) (nJ hto (show atI _ 2=some (.int p') from rfl) λ p1 hp1=>?_);have s2:=zg (o:=.tup [.int b',.int p']) hp1;have h2:upd H1 p1 (.tup [.int b',.int p']) p1=some (.tup (iv [(b':Int),(p':Int)])):=nE;have ht2:upd H1 p1 (.tup [.int b',.int p']) t=some (.tup (iv [(b:Int),(p:Int)])):=s2 _ _ (s1 _ _ ht);refine .inr (.inl (iE4 p1 t _ _ (iA6 rfl rfl (.inr ⟨SqT.of h2,SqT.of ht2⟩) rfl rfl ?_)));rw [show ((l + 1:Nat):Int) - 1=(l:Int) by lia,Zb];by_cases e3:(b',p')=(b,p)
   ·obtain ⟨d0,bk2⟩:=n2 e3;rw [bu (by cases e3;rfl)];refine ⟨by lia,⟨l % (N - l),⟨?_,iE3 p1 (b,p) (some (.ref to)) (iA5 ?_ (s1.trans s2) ?_ bk2 ok0)⟩⟩⟩
    ·exact Nat.lt_succ_of_le (Nat.mod_le _ _)
    ·rw [show (l:Int) % ((N:Int) - l)=((l % (N - l):Nat):Int) by rw [fB,Int.natCast_sub (by lia)]]
    ·cases e3;exact nE
   ·rw [aY (λ z=>e3 (by simp at z;exact Prod.ext (by show b'=b;lia) (by show p'=p;lia)))];exact ⟨l,⟨by lia,iE3 p1 (b',p') _ (iA5 rfl (s1.trans s2) nE (n1 e3) okn)⟩⟩
 ·have l0:l=0:=by lia
  subst l0;obtain ⟨c1,g1,g2⟩:=okq;refine oE4 lo1.ex λ dx lo' lg gs m8=>oA3 m8 λ hz _ _=>?_;clear m8;obtain ⟨bq,us,hb,hu,ru⟩:=lo1.so.hc.at (i:=q.1) (xs:=c1.map zZ) (by rw [zI,am,g1];rfl);have lu:us.length=c1.length:=by rw [ru.len,ai]
  obtain ⟨v,hv⟩:∃ v,us[q.2]?=some v:=⟨_,ae (by lia)⟩;obtain ⟨d,hd,rv⟩:=ru.at hv;rw [am,ar] at hd;obtain ⟨wr,hwr,rfl⟩:=hd;exists ra hz T.ij T.io xj (ra lo1.so.hy T.ad T.ic rfl (nJ htc at0 (zp (SqL.of lo1.so.hc.out) (zw (by rw [am,hb];rfl)) (nJ htc (show atI _ 1=some (.int q.2) from rfl) (zp (SqL.of hu) (zw hv) (k _ H1 s1 ?_))))));have e0:C 0 q=wr:=by
   show atC (zf bs rs (i + 0 * (j - i))).cells q.1 q.2=wr
   rw [Nat.zero_mul,d9];unfold atC;rw [ah,ah,g1,aJ,hwr]
   rfl
  rw [ceq,e0];exact rv
def Wp (a:Ad):Sp:=λ vs H Q _=>∃ (z y0:Addr) (n0:SN) (oss:List (List Org)) (bs:A1) (rs:At) (lim i j N:Nat),vs=[.ref z,.int N]/\LapO a H z y0 n0 (zf bs rs i) (zf bs rs j) oss/\zQ bs rs/\(∀ b∈bs,zA b.1 b.2)/\(∀ r∈rs,r.ok)/\RoundAt bs rs lim i j/\lim<=1000/\∀ l H',Same H H'->Rep H' (Off []) (.ref l) (.lst ((zI (zf bs rs (i + N * (j - i))).cells).map D.lst))->Q (.ref l) H'
def ZM (T:Txt K mg a):MCal P w K mg base a.q "cells_after" 3 ["self","rounds"] [] (Wp a):=T.iU.cal T.ij λ F=>by
 refine F.okx Ze ?_ ?_
 ·walk_at "i"
 walk_at "j";refine oE8 h λ z y0 n0 oss bs rs lim i m8=>oE2 m8 λ j N n6=>oA8 n6 λ nu lo nk bo ro rd l1000 k=>?_;clear m8 n6 h;subst nu;have w0:=zE nk bo ro i;have wN:=zE nk bo ro (i + N * (j - i));have lc:n0.acs.length=bs.length:=by rw [lo.so.hc.len,zI,ai,w0.co.1]
 have b24:=nk.1.1.2;walk_at "T";refine ⟨_,(ze (zt 2 Ze.nd (qe zb))  (ze (qo qC rfl (qZ (za (zi (zi (pq 0) rfl) rfl) zb)) (vj (n:=2) rfl (qk (vH (i:=3) Ze.nd rfl (Or.inr rfl)) (qk (qf 4 Ze.nd) xH)))  (zd (zO (xK aK aW aV qD (pq 2) (za (jr (vars:=["place"]) (caps:=[1,0,3]) (N:=["place","rounds","self","belt"]) (ON:=["self","rounds","cells","belt","old"]) (osc:=zc qL) rfl rfl (by right) rfl rfl (wE (za (qd qi qg (za (pq 4) zb)) zb)) (λ _ _ _ _=>(qf 0 (show (["place","rounds","self","belt"]:A8).Nodup from by symm))) (λ _ _ _ _=>zX) (λ _ _ _ _=>(zgf hr (pq 2) (za (jm (za (pq 3) (za (pq 0) zb))) (za (pq 1) zb))))) zb)))))  (zd (zl (pq 2))))),?_⟩;left;intro C hC;have sC:=zg (o:=.lst []) hC;have hC1:upd H C (.lst []) C=some (.lst []):=nE;generalize upd H C (.lst [])=H1 at sC hC1 ⊢;refine oE4 lo.ex λ dx lo' lg gs m8=>oA3 m8 λ hz _ _=>?_;clear m8;walk_at "e";exists ra (sC _ _ hz) T.ij T.io xj (ra ((lo.so.same sC).hy) T.ad T.ic rfl (iE2 n0.lc _ (iA3 rfl (sC _ _ lo.so.hc.out) ?_)));refine X2 (K:=K) (a:=n0.lc) (xs:=n0.acs.map V.ref) (λ b σ H'=>∃ (v3 v4:Aq) (us:Ap),σ=[some (.ref z),some (.int N),some (.ref C),v3,v4]/\Same H H'/\H' C=some (.lst us)/\Reps H' (Off [C]) us ((zI ((zf bs rs (i + N * (j - i))).cells.take b)).map D.lst)) (iE3 _ _ ([]) (iA4 rfl sC hC1 (by rw [b9];exact .nil))) (λ b σ H' _ h=>by obtain ⟨_,_,_,_,s,_⟩:=h;exact SqL.of (s _ _ lo.so.hc.out)) ?_ ?_
 ·intro b x t σ H2 hb ht nh;refine oE3 nh λ v3 v4 us m8=>oA4 m8 λ n6 s2 hC2 ru=>?_;ext;rw [am,ar] at hb;obtain ⟨cb,hcb,rfl⟩:=hb;have hbl:b < bs.length:=by rw [<- lc];exact (aa.mp hcb).1
  have eb:=ae hbl;obtain ⟨c,ec⟩:∃ c,(zf bs rs i).cells[b]?=some c:=⟨_,ae (by rw [w0.co.1];exact hbl)⟩;obtain ⟨cN,eN⟩:∃ c,(zf bs rs (i + N * (j - i))).cells[b]?=some c:=⟨_,ae (by rw [wN.co.1];exact hbl)⟩;have l1:=(w0.co.2 b _ c eb ec).1;have l2:=(wN.co.2 b _ cN eb eN).1;have bk:=(bo _ (aj eb)).2.1;obtain ⟨vs,hvs,rvs⟩:=lo.so.hc.g b cb _ hcb (show (zI (zf bs rs i).cells)[b]?=some (c.map zZ) by rw [zI,am,ec];rfl);have lv:vs.length=c.length:=by rw [rvs.len,ai]
  have lus:us.length<=b:=by rw [ru.len,ai,ai,aP];exact fH _ _
  have st:=zg (o:=.tup [.int b,.ref cb]) ht;have s3:=s2.trans st;have hC3:=st _ _ hC2;have ru3:=ru.same st;refine un2 nE ?_;generalize upd H2 t (.tup [.int b,.ref cb])=H3 at s3 hC3 ru3 ⊢;left;walk_at "d";exists iA4 (.inl ⟨rfl,_,SqL.of hC3⟩) kG iH ⟨_,⟨.inl ⟨_,SqL.of (s3 _ _ hvs),rfl⟩,?_⟩⟩;rw [lv];refine ⟨by lia,by lia,λ _ _ _ _ Z hZ=>?_⟩;have nZC:Z≠C:=(nH hC3 hZ).symm;refine ZR (n:=((c.length:Nat):Int).toNat) (λ q σ H'=>∃ (v0:Aq) (ws:Ap),σ=[v0,some (.int N),some (.ref z),some (.int b)]/\Same H3 H'/\H' Z=some (.lst ws)/\Reps H' (Off [C,Z]) ws ((cN.take q).map zZ)) (iE2 _ ([]) (iA4 rfl (zg hZ) nE (by rw [b9];exact .nil))) ?_ ?_
  ·intro q σ H4 hq nh;refine oE2 nh λ v0 ws m8=>oA4 m8 λ n6 s4 hZ4 rw4=>?_;ext;rw [aE] at hq;have s34:=s3.trans s4;have lo4:=lo.same s34;obtain ⟨wr,hwr⟩:∃ wr,cN[q]?=some wr:=⟨_,ae (by rw [l2,<- l1];exact hq)⟩;have lw:ws.length<=q:=by rw [rw4.len,ai,aP];exact fH _ _
   left;simp only [ef];refine iE7 z a.q dx _ _ _ _ (iA5 rfl (s34 _ _ hz) (zaf (by symm) (by symm) (by symm) (by symm)) ((Qn T).mono) (λ t2 ht2=>?_));have s5:=zg (o:=.tup [.int b,.int q]) ht2;refine iE8 z y0 t2 n0 oss bs rs lim (iE6 i j N b q c (iA9 rfl (lo4.same s5) nk bo ro rd l1000 nE (iA3 ec hq (λ v H6 s6 rv=>?_))));have atN:atC (zf bs rs (i + N * (j - i))).cells b q=wr:=by
    unfold atC;rw [ah,ah,eN,aJ,hwr]
    rfl
   rw [atN] at rv;have s46:=s5.trans s6;have hZ6:=s46 _ _ hZ4;have hC6:=s46 _ _ (s4 _ _ hC3);have fm:Fr [C,Z] H6 (upd H6 Z (.lst (ws ++ [v]))):=jD (by simp);refine ⟨_,iA3 hZ6 (zk (by lia)) (iE2 _ (ws ++ [v]) (iA4 rfl (λ b o hb=>by rw [nF (nH hb hZ)];exact s46 _ _ (s4 b o hb)) nE ?_))⟩;rw [aG,hwr,aZ];refine ((rw4.same s46).fr fm).append (.one (Rep.fr (rv.keep λ b o hb ho=>⟨λ e=>?_,ho⟩) fm));obtain ⟨xs,hx⟩:=hb;simp only [az,c7,dX] at e;rcases e with rfl|rfl
   ·rw [hC6] at hx;cases hx
   ·rw [hZ6] at hx;cases hx
  intro σ H4 nh;refine oE2 nh λ v0 ws m8=>oA4 m8 λ n6 s4 hZ4 rw4=>?_;ext;rw [aE,show c.length=cN.length from l1.trans l2.symm,aH] at rw4;have fm:Fr [C] H4 (upd H4 C (.lst (us ++ [.ref Z]))):=jD (by simp);have lo':∀ b∈[C],b∈[C,Z]\/H4 b=none:=λ b hb=>.inl (by simp [ap.mp hb]);refine iE3 C _ _ (iA5 rfl rfl (s4 _ _ hC3) (zk (by lia)) ?_);refine iE3 _ _ (us ++ [.ref Z]) (iA4 rfl (λ b o hb=>by rw [nF (nH hb hC)];exact s4 _ _ (s3 b o hb)) nE ?_);rw [aG,eN,hJ,show (zI ((zf bs rs (i + N * (j - i))).cells.take b ++ [cN])).map D.lst=(zI ((zf bs rs (i + N * (j - i))).cells.take b)).map D.lst ++ [.lst (cN.map zZ)] by simp [zI]];exact ((ru3.same s4).append (.one ((rw4.more lo').mk' (by simp [Off,nZC]) hZ4))).fr fm
 ·intro σ H2 nh;refine oE3 nh λ v3 v4 us m8=>oA4 m8 λ n6 s2 hC2 ru=>?_;ext;rw [ai,lc,<- wN.co.1,aH] at ru;left;exact k C H2 s2 (ru.all.mk' (λ z=>nomatch z) hC2)
def VC (a:Ad):Sp:=λ vs H Q _=>∃ (z y0:Addr) (n0:SN) (oss:List (List Org)) (bs:A1) (rs:At) (lim i j N:Nat),vs=[.ref z,.int N]/\LapO a H z y0 n0 (zf bs rs i) (zf bs rs j) oss/\zQ bs rs/\(∀ b∈bs,zA b.1 b.2)/\(∀ r∈rs,r.ok)/\RoundAt bs rs lim i j/\lim<=1000/\∀ l H',Same H H'->Rep H' (Off []) (.ref l) (.lst ((z9 (zf bs rs (i + N * (j - i))).gone).map D.lst))->Q (.ref l) H'
def Qo (T:Txt K mg a):MCal P w K mg base a.q "gone_after" 1 ["self","rounds"] [] (VC a):=T.i6.cal T.ij λ F=>by
 refine F.okx ZA ?_ ?_
 ·walk_at "i"
 walk_at "j";refine oE8 h λ z y0 n0 oss bs rs lim i m8=>oE2 m8 λ j N n6=>oA8 n6 λ nu lo nk bo ro rd l1000 k=>?_;clear m8 n6 h;subst nu;have w0:=zE nk bo ro i;have w1:=zE nk bo ro j;have wN:=zE nk bo ro (i + N * (j - i));refine oE4 lo.ex λ dx lo' lg gs m8=>oA3 m8 λ hz _ ng=>?_;clear m8;have la:n0.ags.length=rs.length:=by rw [lo.so.hg.len,z9,ai,w0.go.1]
 have lb:gs.length=rs.length:=by rw [ng.len,z9,ai,js,gw,w0.go.1,w1.go.1,gj]
 have r24:=nk.1.2.2;walk_at "T";refine ⟨_,(ze (zt 2 ZA.nd (qe zb))  (ze (qo qC rfl (zey (za (zi (zi (pq 0) rfl) rfl) (za (zi (pq 0) rfl) zb))) (vj (n:=2) rfl (qk (vH (i:=3) ZA.nd rfl (Or.inr rfl)) (qk (vH (i:=4) ZA.nd rfl (Or.inr rfl)) xH)))  (zd (zO (xK aK aW aV qD (pq 2) (za (jr (vars:=["place"]) (caps:=[3,1,4]) (N:=["place","old","rounds","more"]) (ON:=["self","rounds","gone","old","more"]) (osc:=zc qY) rfl rfl (by right) rfl rfl (wE (za (qd qi qg (za (pq 3) zb)) zb)) (λ _ _ _ _=>(qf 0 (show (["place","old","rounds","more"]:A8).Nodup from by symm))) (λ _ _ _ _=>zX) (λ _ _ _ _=>(zD qr (zm (pq 1) (pq 0)) (zD vm (pq 2) (zm (pq 3) (pq 0)))))) zb)))))  (zd (zl (pq 2))))),?_⟩;left;intro C hC;have sC:=zg (o:=.lst []) hC;have hC1:upd H C (.lst []) C=some (.lst []):=nE;generalize upd H C (.lst [])=H1 at sC hC1 ⊢;walk_at "e";exists ra (sC _ _ hz) T.ij T.io xj (ra ((lo.so.same sC).hy) T.ad T.ig rfl (ra (sC _ _ hz) T.ij T.iL XR (iE6 true true n0.lg lg _ _ (iA4 rfl (SqL.of (sC _ _ lo.so.hg.out)) (SqL.of (sC _ _ ng.out)) ?_))));refine zg7 (K:=K) (xs:=n0.ags.map V.ref) (ys:=gs.map V.ref) (λ q σ H'=>∃ (v3 v4:Aq) (us:Ap),σ=[some (.ref z),some (.int N),some (.ref C),v3,v4]/\Same H H'/\H' C=some (.lst us)/\Reps H' (Off [C]) us ((z9 ((zf bs rs (i + N * (j - i))).gone.take q)).map D.lst)) (iE3 _ _ ([]) (iA4 rfl sC hC1 (by rw [b9];exact .nil))) (λ q σ H' _ h=>by obtain ⟨_,_,_,_,s,_⟩:=h;exact ⟨SqL.of (s _ _ lo.so.hg.out),SqL.of (s _ _ ng.out)⟩) ?_ ?_
 ·intro q x x' t σ H2 hq hq' ht nh;refine oE3 nh λ v3 v4 us m8=>oA4 m8 λ n6 s2 hC2 ru=>?_;ext;rw [am,ar] at hq hq';obtain ⟨b0,hb0,rfl⟩:=hq;obtain ⟨b1,hb1,rfl⟩:=hq';have hql:q < rs.length:=by rw [<- la];exact (aa.mp hb0).1
  have er:=ae hql;obtain ⟨g0,e0⟩:∃ g,(zf bs rs i).gone[q]?=some g:=⟨_,ae (by rw [w0.go.1];exact hql)⟩;obtain ⟨g1,e1⟩:∃ g,(zf bs rs j).gone[q]?=some g:=⟨_,ae (by rw [w1.go.1];exact hql)⟩;obtain ⟨gN,eN⟩:∃ g,(zf bs rs (i + N * (j - i))).gone[q]?=some g:=⟨_,ae (by rw [wN.go.1];exact hql)⟩;have l0:=(w0.go.2 q _ g0 er e0).1;have l1:=(w1.go.2 q _ g1 er e1).1;have lN:=(wN.go.2 q _ gN er eN).1;have cp:=xA (ro _ (aj er));have eg:(js (zf bs rs i).gone (zf bs rs j).gone)[q]?=some (jC g0 g1):=by unfold js;rw [eD,e0,e1]
  obtain ⟨c0,q0,h0⟩:=xz lo.so.hg e0;obtain ⟨c1,q1,h1⟩:=xz ng eg;rw [hb0] at q0;cases q0;rw [hb1] at q1;cases q1;have lus:us.length<=q:=by rw [ru.len,ai,ai,aP];exact fH _ _
  have st:=zg (o:=.tup [.ref b0,.ref b1]) ht;have s3:=s2.trans st;have hC3:=st _ _ hC2;have ru3:=ru.same st;refine un2 nE ?_;generalize upd H2 t (.tup [.ref b0,.ref b1])=H3 at s3 hC3 ru3 ⊢;left;walk_at "d";exists iA4 (.inl ⟨rfl,_,SqL.of hC3⟩) kG iH ⟨_,⟨.inl ⟨_,SqL.of (s3 _ _ h0),rfl⟩,?_⟩⟩;rw [zH];refine ⟨by lia,by lia,λ _ _ _ _ Z hZ=>?_⟩;have nZC:Z≠C:=(nH hC3 hZ).symm;refine ZR (n:=((g0.length:Nat):Int).toNat) (λ p σ H'=>∃ (v0:Aq),σ=[v0,some (.ref b0),some (.int N),some (.ref b1)]/\Same H3 H'/\H' Z=some (.lst (iv (gN.take p)))) ⟨_,iA3 rfl (zg hZ) nE⟩ ?_ ?_
  ·intro p σ H4 hp nh;refine oE1 nh λ v0 m8=>oA3 m8 λ n6 s4 hZ4=>?_;ext;rw [aE] at hp;have s34:=s3.trans s4;have lp:=(ze0 nk bo ro rd N).2 q p;have m0:=jH bs rs i q p (j - i);have up:=Q5 bs rs q p j;have lt:=rd.lt;have le:=rd.le;rw [Nat.add_sub_of_le (bw lt)] at m0;have m0:gAt (zf bs rs i).gone q p<=gAt (zf bs rs j).gone q p:=m0;have x0:g0[p]?=some (gAt (zf bs rs i).gone q p):=by
    unfold gAt;rw [ah (l:=(zf bs rs i).gone),e0,aJ];exact qh hp
   have x1:(jC g0 g1)[p]?=some (gAt (zf bs rs j).gone q p - gAt (zf bs rs i).gone q p):=by
    unfold jC gAt;rw [am,gZ hp,ah (l:=(zf bs rs i).gone),ah (l:=(zf bs rs j).gone),e0,e1]
    rfl
   have xN:gN[p]?=some (gAt (zf bs rs (i + N * (j - i))).gone q p):=by
    unfold gAt;rw [ah (l:=(zf bs rs (i + N * (j - i))).gone),eN,aJ];exact qh (by lia)
   have p0:0<=gAt (zf bs rs i).gone q p:=(w0.go.2 q _ g0 er e0).2 _ (aj x0);left;simp only [ef];refine zp (SqL.of (s34 _ _ h0)) (zw (j9 x0)) (zp (SqL.of (s34 _ _ h1)) (zw (j9 x1)) ?_);exists ⟨mul_okR (by lia) (by lia),?_⟩;exists ⟨_,iA3 hZ4 (zk (by rw [zH,aP];lia)) ⟨_,iA3 rfl (λ b o hb=>by rw [nF (nH hb hZ)];exact s4 b o hb) ?_⟩⟩;rw [nE,vL,aG,xN,lp]
   rfl
  intro σ H4 nh;refine oE1 nh λ v0 m8=>oA3 m8 λ n6 s4 hZ4=>?_;ext;rw [show ((g0.length:Nat):Int).toNat=gN.length by lia,aH] at hZ4;have fm:Fr [C] H4 (upd H4 C (.lst (us ++ [.ref Z]))):=jD (by simp);refine iE3 C _ _ (iA5 rfl rfl (s4 _ _ hC3) (zk (by lia)) ?_);refine iE3 _ _ (us ++ [.ref Z]) (iA4 rfl (λ b o hb=>by rw [nF (nH hb hC)];exact s4 _ _ (s3 b o hb)) nE ?_);rw [aG,eN,hJ,show (z9 ((zf bs rs (i + N * (j - i))).gone.take q ++ [gN])).map D.lst=(z9 ((zf bs rs (i + N * (j - i))).gone.take q)).map D.lst ++ [.ints gN] by simp [z9]];exact ((ru3.same s4).append (.one (qw (by simp [Off,nZC]) hZ4))).fr fm
 ·intro σ H2 nh;refine oE3 nh λ v3 v4 us m8=>oA4 m8 λ n6 s2 hC2 ru=>?_;ext;rw [ai,ai,la,lb,gj,<- wN.go.1,aH] at ru;left;exact k C H2 s2 (ru.all.mk' (λ z=>nomatch z) hC2)
def Wn (a:Ad):Sp:=λ vs H Q _=>∃ (z y0:Addr) (n0:SN) (oss:List (List Org)) (bs:A1) (rs:At) (lim i j N:Nat),vs=[.ref z,.int N]/\LapO a H z y0 n0 (zf bs rs i) (zf bs rs j) oss/\zQ bs rs/\(∀ b∈bs,zA b.1 b.2)/\(∀ r∈rs,r.ok)/\RoundAt bs rs lim i j/\lim<=1000/\∀ v H',Same H H'->QH a H H' v (zf bs rs (i + N * (j - i)))->Q v H'
def ZL (T:Txt K mg a):MCal P w K mg base a.q "state_after" 4 ["self","rounds"] [] (Wn a):=T.iV.cal T.ij λ F=>by
 refine F.okx Zd ?_ ?_
 ·walk_at "i"
 walk_at "j";refine oE8 h λ z y0 n0 oss bs rs lim i m8=>oE2 m8 λ j N n6=>oA8 n6 λ nu lo nk bo ro rd l1000 k=>?_;clear m8 n6 h;subst nu;refine oE4 lo.ex λ dx lo' lg gs m8=>oA3 m8 λ hz _ _=>?_;clear m8;have lt:=rd.lt;have le:=rd.le;have wN:=zE nk bo ro (i + N * (j - i));have b24:=nk.1.1.2;have r24:=nk.1.2.2;walk_at "T";refine ⟨_,(ze (zt 2 Zd.nd (zD qr (zi (zi (pq 0) rfl) rfl) (zD vm (pq 1) (zi (pq 0) rfl))))  (zd (zl (wR (x:="State") ⟨rfl,rfl,rfl⟩ hr (za (pq 2) (za (JK ⟨rfl,rfl,rfl⟩ hr (pq 0) (za (pq 1) zb)) (za (zi (zi (pq 0) rfl) rfl) (za (JK ⟨rfl,rfl,rfl⟩ hr (pq 0) (za (pq 1) zb)) zb)))))))),?_⟩;exists ra hz T.ij T.io xj (ra lo.so.hy T.ad T.ie rfl (ra hz T.ij T.iF Qp ?_));left;rw [qu,qu];refine ⟨mul_okR (by lia) (by lia),?_⟩;left;have et:(i:Int) + (N:Int) * ((j:Int) - i)=(zf bs rs (i + N * (j - i))).turn:=by
  rw [qu,fJ,fI,Int.natCast_sub (by lia)]
 rw [et];refine iE4 a.p _ _ _ ⟨(W0 T).mono,iE7 z a.q dx _ _ _ _ (iA5 rfl hz (zaf (by symm) (by symm) (by symm) (by symm)) ((ZM T).mono) ⟨z,y0,n0,oss,bs,rs,lim,i,j,N,rfl,lo,nk,bo,ro,rd,l1000,λ lc H1 s1 rc=>?_⟩)⟩;have lo1:=lo.same s1;refine ra (s1 _ _ hz) T.ij T.io xj (ra lo1.so.hy T.ad T.ip rfl (iE7 z a.q dx _ _ _ _ (iA5 rfl (s1 _ _ hz) (zaf (by symm) (by symm) (by symm) (by symm)) ((Qo T).mono) ⟨z,y0,n0,oss,bs,rs,lim,i,j,N,rfl,lo1,nk,bo,ro,rd,l1000,λ lg2 H2 s2 rg=>?_⟩)));have lo2:=lo1.same s2;have hs:=lo2.so.hs;rw [(ze0 nk bo ro rd N).1.si] at hs;refine JW T (st:=zf bs rs (i + N * (j - i))) (rc.same s2) (qw (p:=Off []) (λ z=>nomatch z) hs) rg (by rw [wN.co.1];lia) (by rw [wN.go.1];lia) λ y H3 s3 sn=>?_;refine oE2 sn λ y' n m8=>oA5 m8 λ e so ny nd nn=>?_;clear m8 sn;have s12:=s1.trans s2;exact k _ H3 (s12.trans s3) (iE2 y' n (iA5 e so (zr s12 ny) (zr s12 nd) (λ b hb=>zr s12 (nn b hb))))
inductive spLeapt (a:Ad) (vs:Ap) (H:Hp) (Q:VK) (E:XK):Prop
 | i (vw:V) (n lim:Nat) (bs:A1) (rs:At):vs=[vw,.int n,.int lim]->Rep H (Off []) vw (qA a bs rs)->zQ bs rs->(∀ b∈bs,zA b.1 b.2)->(∀ r∈rs,r.ok)->lim<=1000->(∀ i j v H',RoundAt bs rs lim i j->Same H H'->QH a H H' v (zf bs rs n)->Q v H')->(vQ bs rs lim->∀ H',Same H H'->E (.ref a.g) none H')->spLeapt a vs H Q E
def zeJ (T:Txt K mg a) (F:FunD K "leapt" "leapt" wv f fd):FnOk P w K mg base (CXr P w) 9 f fd ["work","turns","limit"] (spLeapt a):=by
 refine F.okx zej ?_ ?_
 ·walk_at "i"
 walk_at "j";rcases h with ⟨vw,n,lim,bs,rs,rfl,hv,nk,bo,ro,l1000,kQ,kE⟩;walk_at "T";refine ⟨_,(ze (zt 3 zej.nd ‹(pq 0) (za (pq 2) zb)›)  (ze (zt 4 zej.nd (wR (x:="Lap") ⟨rfl,rfl,rfl⟩ hr (za (zm (pq 3) zh) (za (zm (pq 3) zh) zb))))  (ze (zt 5 zej.nd (zi (zm (pq 3) zh) rfl))  (ze (zT (zz JO (pq 1) (pq 5) (zC _))  (zd (zl ‹(pq 0) (za (pq 1) zb)›))  zu)  (ze (zt 6 zej.nd (JK ⟨rfl,rfl,rfl⟩ hr (pq 4) (za (zD Q8 (zD xv (pq 1) (pq 5)) (zi (pq 4) rfl)) zb)))  (ze (qo qC rfl (wE (za (zD jn (zD xv (pq 1) (pq 5)) (zi (pq 4) rfl)) zb)) (qf 7 zej.nd)  (zd (zO ‹(pq 0) (za (pq 6) zb)›)))  (zd (zl (pq 6))))))))),?_⟩;exists uc (ZX T).mono (iE4 vw lim bs rs (iA8 rfl hv nk bo ro l1000 (λ i j t y0 y1 n0 n1 H1 rd s1 ht so0 so1=>?_) kE));have w0:=zE nk bo ro i;have w1:=zE nk bo ro j;have b24:=nk.1.1.2;have r24:=nk.1.2.2;exists iE4 a.q _ _ _ ⟨(ziI T).mono,nJ ht at0 (nJ ht (show atI _ 1=some (.ref y1) from rfl) ?_)⟩;intro z dz hz hdz hne;have sN:Same H1 (upd (upd H1 dz (.own z)) z (.ins a.q dz [])):=(zg hdz).trans (zg (by rw [nF (ba hne)];exact hz));obtain ⟨gl,gr⟩:=Qt ro w0 w1;have c6:∀ {s:PSt},stWf bs rs s->∀ c∈s.cells,c.length<=6/\∀ wr∈c,wV rs wr:=λ w c hc=>by
  obtain ⟨q,hq⟩:=aU hc;have eb:=ae (l:=bs) (i:=q) (by rw [<- w.co.1];exact (aa.mp hq).1);obtain ⟨l,wk⟩:=w.co.2 q _ c eb hq;have:=(bo _ (aj eb)).2.1;exact ⟨by lia,wk⟩
 refine iE5 z dz y0 y1 n0 (iE4 n1 _ _ H1 (iA9 rfl nE sN hz so0 so1 (by rw [w0.co.1];exact b24) (λ c hc=>(c6 w0 c hc).1) (iA6 (by rw [w1.co.1];exact b24) (λ c hc=>⟨(c6 w1 c hc).1,λ wr hw x ex=>?_⟩) gl (by rw [w0.go.1];exact r24) gr (λ lo lg gs oss H2 s2 hz2 ro2 ok2 ng2=>⟨rfl,?_⟩))))
 ·refine oE2 ((c6 w1 c hc).2 wr hw x.1 x.2 (by rw [ex])) λ q r m8=>oA3 m8 λ e1 hr' _=>?_;clear m8;obtain ⟨g,eg⟩:∃ g,(zf bs rs i).gone[q]?=some g:=⟨_,ae (by rw [w0.go.1];exact (aa.mp hr').1)⟩;have:=(w0.go.2 q r g hr' eg).1;have:=xA (ro r (aj hr'));cases g with
  | nil=>simp at *;lia
  | cons g0 gs=>exact ⟨q,g0,gs,e1,eg⟩
 have lo2:LapO a H2 z y0 n0 (zf bs rs i) (zf bs rs j) oss:=⟨⟨dz,lo,lg,gs,hz2,ro2.keep λ b o _ ho=>⟨trivial,ho⟩,ng2⟩,so0.same s2,ok2⟩;have s02:=s1.trans s2;have lt:=rd.lt;have le:=rd.le;have kQ:∀ v H3 H',Same H H3->Same H3 H'->QH a H3 H' v (zf bs rs n)->Q v H':=λ v H3 H' sA sB sn=>by
  refine oE2 sn λ y' n' m8=>oA5 m8 λ e so ny nd nn=>?_;clear m8 sn;exact kQ i j v H' rd (sA.trans sB) (iE2 y' n' (iA5 e so (zr sA ny) (zr sA nd) (λ b hb=>zr sA (nn b hb))))
 refine nJ (s2 _ _ ht) at0 (ra lo2.so.hy T.ad T.ie rfl ?_);rw [qu];exists zU (λ hn=>?_) (λ hn=>?_)
 ·exact uc (zfC T).mono (iE4 vw n bs rs (iA7 rfl (hv.same s02) nk bo ro (by lia) (λ v' H' s' sn=>kQ v' H2 H' s02 s' sn)))
 left;have tl:(zf bs rs j).turn - (zf bs rs i).turn=((j - i:Nat):Int):=by rw [qu,qu];lia
 have d0:(0:Int) < ((j - i:Nat):Int):=by lia
 refine iE7 z a.q dz _ _ _ _ (iA5 rfl hz2 (zaf (by symm) (by symm) (by symm) (by symm)) ((ZL T).mono) (iE5 z a.q dz _ _ (iA6 rfl hz2 T.ij T.iF Qp ?_)));rw [tl];exists ⟨fd_small d0 (by lia),?_⟩;have ed:(n:Int) - i=((n - i:Nat):Int):=by lia
 rw [fdiv_pos d0,ed,<- Int.natCast_ediv];refine iE8 z y0 n0 oss bs rs lim i (iE2 j ((n - i) / (j - i)) (iA8 rfl lo2 nk bo ro rd l1000 (λ v H3 s3 sn=>?_)));refine oE2 sn λ y ny m8=>oA5 m8 λ n6 so3 fy fd' fn=>?_;clear m8 sn;subst n6;have s03:=s02.trans s3;have na:∀ b∈y :: ny.all,H2 b=none:=λ b hb=>by
  rcases az.mp hb with rfl|hb
  ·exact fy
  ·exact fn b hb
 have na0:∀ b∈y :: ny.all,H b=none:=λ b hb=>zr s02 (na b hb);have hw3:Rep H3 (Off (y :: ny.all)) vw (qA a bs rs):=je (hv.more (ns:=y :: ny.all) λ b hb=>.inr (na0 b hb)) s03;have hz3:=s3 _ _ hz2;walk_at "e";exists ra hz3 T.ij T.iF Qp ?_;rw [tl];left;rw [ed,<- fB];have rl:(n - i) % (j - i) < j - i:=cm _ (by lia);refine ⟨by lia,by lia,?_⟩;refine ZR (n:=(((n - i) % (j - i):Nat):Int).toNat) (λ q σ H'=>∃ (v7:Aq),σ=[some vw,some (.int n),some (.int lim),some (.ref t),some (.ref z),some (.int i),some (.ref y),v7]/\Fr (y :: ny.all) H3 H'/\StO a H' y ny (zf bs rs (i + (n - i) / (j - i) * (j - i) + q))) ⟨_,iA3 rfl Fr.refl so3⟩ ?_ ?_
 ·intro q σ H4 hq nh;refine oE1 nh λ v7 m8=>oA3 m8 λ n6 f4 so4=>?_;ext;exists uc (vC T).mono (iE6 vw y ny _ bs rs (iA8 rfl (hw3.fr f4) so4 (zE nk bo ro _) nk bo ro (λ l us H5 f5 so5 _ _ _ _=>?_)));exact ⟨_,iA3 rfl (f4.trans f5) so5⟩
 ·intro σ H4 nh;refine oE1 nh λ v7 m8=>oA3 m8 λ n6 f4 so4=>?_;ext;have en:i + (n - i) / (j - i) * (j - i) + (n - i) % (j - i)=n:=by
   have:=Nat.div_add_mod (n - i) (j - i);rw [dB] at this
   lia
  rw [aE,en] at so4;left;exact kQ _ H2 H4 s02 (λ b o hb=>f4 b o (λ z=>by rw [na b z] at hb;cases hb) (s3 b o hb)) (iE2 y ny (iA5 rfl so4 fy fd' fn))
def zgC (T:Txt K mg a):Cal P w K mg base "leapt" 9 ["work","turns","limit"] [] (spLeapt a):=T.mP.cal (zeJ T)
noncomputable def noK (r:Row):Row:=⟨r.wd,r.ins,r.outs,r.pace,[]⟩
def zhl {hs hs':List A9} (h:hs.map Option.isSome=hs'.map Option.isSome):(hs.getD 0 none=none)=(hs'.getD 0 none=none):=by
 cases hs <;> cases hs' <;> simp_all
 rename_i x _ y _;cases x <;> cases y <;> simp_all
def zbL (r:Row) {hs hs':List A9} (h:hs.map Option.isSome=hs'.map Option.isSome) (bs:Ai) (t:Int) (side:Nat):z6 r hs bs t side=z6 (noK r) hs' bs t side:=by
 have el:hs.length=hs'.length:=by simpa using bP List.length h
 obtain ⟨wd,ins,outs,pc,ks⟩:=r;unfold noK z6;cases wd <;> simp only [zhl h,h,el]
def zdx (rs:At) (cs:Au) (r:Row):(z8 rs cs r).map Option.isSome=(z8 (rs.map noK) cs (noK r)).map Option.isSome:=by
 unfold z8;rw [cY,cY];refine cI λ b _=>?_;show (jg rs _).isSome=(jg (rs.map noK) _).isSome
 unfold jg;rw [cy,cy]
def zgQ (rs:At) (st:PSt) (k:Nat):qt rs st k=qt (rs.map noK) st k:=by
 unfold qt;rw [am];cases rs[k]? with
 | none=>rfl
 | some r =>
  simp only [bZ];rw [zbL r (zdx rs st.cells r)]
  rfl
theorem zaN (rs:At) (st:PSt):∀ m,zx rs st m=zx (rs.map noK) st m
 | 0=>rfl
 | m + 1=>by rw [zx,zx,zaN rs st m,zgQ]
theorem JE (bs:A1) (rs:At):∀ n,zf bs rs n=zf bs (rs.map noK) n
 | 0=>by
  show qq bs rs=qq bs (rs.map noK)
  unfold qq;rw [ai,cY]
  rfl
 | n + 1=>by
  rw [zf,zf,JE bs rs n];unfold passF;rw [zaN,ai]
noncomputable abbrev rz (n:Nat) (pc:Int):List Row:=zj n pc [0]
def ZG (n:Nat) (pc:Int) (ks:A6) (t:Nat):zf (zy n) (zj n pc ks) t=zf (zy n) (rz n pc) t:=by
 rw [JE,JE (zy n) (rz n pc)]
 rfl
noncomputable def drs (n:Nat):List Int:=zF .drain (zj n 2 [])
def W7 (h1:1<=n) (h8:n<=8) (pc:Int) (ks:A6):zF .drain (zj n pc ks)=drs n:=by
 rcases vU h1 h8 with rfl|rfl|rfl|rfl|rfl|rfl|rfl|rfl <;> rfl
def Wm (h1:1<=n) (h8:n<=8) (pc:Int) (ks:A6):zF .source (zj n pc ks)=[0]:=by
 rcases vU h1 h8 with rfl|rfl|rfl|rfl|rfl|rfl|rfl|rfl <;> rfl
def ZU (h1:1<=n) (h8:n<=8):(drs n).length=n:=by
 rcases vU h1 h8 with rfl|rfl|rfl|rfl|rfl|rfl|rfl|rfl <;> rfl
noncomputable def qI (n:Nat) (s:PSt):List Int:=(drs n).map λ k=>gAt s.gone k.toNat 0
noncomputable def qa (cs:Au):List (Int × Int):=cs.flatMap λ c=>c.filterMap id
structure Fair (n:Nat) (s:PSt):Prop where
 ev:∀ x∈qI n s,∀ y∈qI n s,x - y<=1
 li:gAt s.gone 0 0 - (qI n s).sum=((qa s.cells).length:Int)
noncomputable def zg8 (n:Nat) (s:PSt):Bool:=((qI n s).all λ x=>(qI n s).all λ y=>decide (x - y<=1)) && decide (gAt s.gone 0 0 - (qI n s).sum=((qa s.cells).length:Int))
noncomputable def mvC (g:Int) (cs:Au):List Av:=cs.map (List.map (Option.map λ x=>(x.1,x.2 + g)))
noncomputable def zhI (n:Nat) (s t:PSt) (q:Nat):Bool:=decide (t.cells=mvC (q * n:Nat) s.cells) && decide (t.sides=s.sides) && decide (gAt t.gone 0 0=gAt s.gone 0 0 + (q * n:Nat)) && decide (qI n t=(qI n s).map (· + (q:Int)))
noncomputable def chk (n p:Nat):Bool:=((List.range (20 + n * p)).all λ t=>zg8 n (zf (zy n) (rz n p) t)) && (List.range (if n<=3 then 7 else 3)).all λ q=>zhI n (zf (zy n) (rz n p) 20) (zf (zy n) (rz n p) (20 + q * (n * p))) q
def zi1:((List.range 3).all λ p=>chk 1 (p + 2))=true:=by symm
def zi0:((List.range 3).all λ p=>chk 2 (p + 2))=true:=by symm
def ziZ:((List.range 3).all λ p=>chk 3 (p + 2))=true:=by symm
def ziY:((List.range 3).all λ p=>chk 4 (p + 2))=true:=by symm
def ziX:((List.range 3).all λ p=>chk 5 (p + 2))=true:=by symm
def ziW:((List.range 3).all λ p=>chk 6 (p + 2))=true:=by symm
def ziV:((List.range 3).all λ p=>chk 7 (p + 2))=true:=by symm
def ziU:((List.range 3).all λ p=>chk 8 (p + 2))=true:=by symm
def zbM {n p:Nat} (h1:1<=n) (h8:n<=8) (p2:2<=p) (p4:p<=4):chk n p=true:=by
 have hp:p - 2∈List.range 3:=be.mpr (by lia);have e:p - 2 + 2=p:=by lia
 rcases vU h1 h8 with rfl|rfl|rfl|rfl|rfl|rfl|rfl|rfl
 ·exact e ▸ aS.mp zi1 _ hp
 ·exact e ▸ aS.mp zi0 _ hp
 ·exact e ▸ aS.mp ziZ _ hp
 ·exact e ▸ aS.mp ziY _ hp
 ·exact e ▸ aS.mp ziX _ hp
 ·exact e ▸ aS.mp ziW _ hp
 ·exact e ▸ aS.mp ziV _ hp
 ·exact e ▸ aS.mp ziU _ hp
def Jz {r:Row} (hr:r∈zj n pc ks):(r.kinds=ks\/r.kinds=[])/\((r.wd=.source\/r.wd=.drain)->r.pace=pc\/r.pace=1):=by
 unfold zj VP at hr;rcases aB.mp hr with hr|hr
 ·rcases aB.mp hr with hr|hr
  ·rcases aB.mp hr with hr|hr
   ·rw [ap.mp hr];exact ⟨.inl rfl,λ _=>.inl rfl⟩
   ·obtain ⟨i,_,rfl⟩:=aN.mp hr;exact ⟨.inr rfl,λ z=>by rcases z with z|z <;> cases z⟩
  ·unfold J1 at hr
   split at hr
   ·rw [ap.mp hr];exact ⟨.inr rfl,λ z=>by rcases z with z|z <;> cases z⟩
   ·cases hr
 ·obtain ⟨e,_,rfl⟩:=aN.mp hr;exact ⟨.inr rfl,λ _=>.inr rfl⟩
def zdq {g x:Int} (h:(ks.length:Int) ∣ g):jJ ks (x + g)=jJ ks x:=by
 unfold jJ;obtain ⟨c,rfl⟩:=h;rw [dG]
def ze5 {g:Int} (h:(ks.length:Int) ∣ g) (cs:Au):(mvC g cs).map (zn (zj n pc ks))=cs.map (zn (zj n pc ks)):=by
 unfold mvC;rw [cY];refine cI λ c _=>?_;show zn _ (c.map _)=_
 unfold zn;rw [cY];refine cI λ x _=>?_;cases x with
 | none=>rfl
 | some x =>
  show some (kdW _ _)=some (kdW _ _)
  unfold kdW;simp only;cases e:(zj n pc ks)[x.1.toNat]? with
  | none=>rfl
  | some r =>
   simp only [bZ,aJ];rcases (Jz (aj e)).1 with z|z
   ·rw [z,zdq h]
   ·rw [z]
    rfl
def zdR {p:Nat} (bo:∀ b∈zy n,zA b.1 b.2) (ro:∀ r∈zj n p ks,r.ok) (q:Nat):xS (zy n) (zj n p ks) ∣ ((q * (n * p):Nat):Int):=by
 obtain ⟨L,hL⟩:=zcE bo ro;rw [<- Xe hL];obtain ⟨ns,il,im⟩:=hL;refine il.least _ λ x hx=>?_;have d1:(p:Int) ∣ ((q * (n * p):Nat):Int):=⟨((q * n:Nat):Int),by rw [<- fI,dB p,dQ]⟩;rcases (im x).mp hx with ⟨b,hb,rfl⟩|⟨r,hr,hw,rfl,_⟩
 ·rw [(bU.mp hb).2];exact gM _
 ·rcases (Jz hr).2 hw with z|z
  ·rw [z];exact d1
  ·rw [z];exact gM _
def XN {n p q:Nat} (h1:1<=n) (h8:n<=8) (p2:2<=p) (p4:p<=4) (hk:xP ks) (hq:q < if n<=3 then 7 else 3) (d:(ks.length:Int) ∣ ((q * n:Nat):Int)):qm (zy n) (zj n p ks) 20=qm (zy n) (zj n p ks) (20 + q * (n * p)):=by
 have c:=zbM h1 h8 p2 p4;unfold chk at c;have c:=aS.mp (dj.mp c).2 q (be.mpr hq);unfold zhI at c;simp only [ck,bc] at c;obtain ⟨⟨⟨c1,c2⟩,c3⟩,_⟩:=c;have bt:=zdR (n:=n) (p:=p) (ks:=ks) (Z2 n) (vF h1 h8 ⟨by lia,by lia⟩ hk) q;unfold qm Z7;rw [Wm h1 h8,qu,qu,ZG,ZG n p ks (20 + q * (n * p)),c1,c2,ze5 d];have e1:((20:Nat):Int) % xS (zy n) (zj n p ks)=((20 + q * (n * p):Nat):Int) % xS (zy n) (zj n p ks):=by
  obtain ⟨x,hx⟩:=bt;rw [fJ,hx,dG]
 have e2:jy (zj n p ks) (zf (zy n) (rz n p) 20) 0=jy (zj n p ks) (zf (zy n) (rz n p) (20 + q * (n * p))) 0:=by
  show (List.headD _ 0) % _=(List.headD _ 0) % _
  have hd:∀ l:List Int,l.headD 0=l.getD 0 0:=λ l=>by cases l <;> rfl
  rw [hd,hd];show gAt _ 0 0 % _=gAt _ 0 0 % _
  rw [c3];obtain ⟨x,hx⟩:=d;show _=_ % (ks.length:Int)
  rw [hx,dG]
 rw [e1];simp only [br,fK,e2]
def zeo {n p:Nat} (h1:1<=n) (h8:n<=8) (p2:2<=p) (p4:p<=4) (hk:xP ks) (hq:ks.length < if n<=3 then 7 else 3):¬ vQ (zy n) (zj n p ks) 1000:=λ z=>by
 have b1:=Nat.mul_le_mul hk.2.1 (Nat.mul_le_mul h8 p4);have b2:=fD (show 0 < ks.length from hk.1) (fD h1 (show 0 < p by lia));exact z 20 (20 + ks.length * (n * p)) (by lia) (by lia) (XN h1 h8 p2 p4 hk hq ⟨n,by push_cast;rfl⟩)
theorem Zt (rs:At):∀ c:List zq,(c.filterMap id).length=((zn rs c).filter Option.isSome).length
 | []=>rfl
 | none :: c=>Zt rs c
 | some _ :: c=>bP (· + 1) (Zt rs c)
theorem Z5 (rs:At):∀ {cs cs':Au},cs.map (zn rs)=cs'.map (zn rs)->(qa cs).length=(qa cs').length
 | [],[],_=>rfl
 | [],_ :: _,h=>by cases h
 | _ :: _,[],h=>by cases h
 | c :: cs,c' :: cs',h=>by
  simp only [br,cS] at h;have e:=Z5 rs h.2;show (c.filterMap id ++ qa cs).length=(c'.filterMap id ++ qa cs').length
  rw [aD,aD,Zt rs,Zt rs,h.1,e]
theorem Wk (q:Int):∀ l:List Int,(l.map (· + q)).sum=l.sum + l.length * q
 | []=>by simp
 | x :: l=>by
  rw [br,List.sum_cons,List.sum_cons,Wk q l,bb,fJ,Int.add_mul]
  lia
section
variable {n p:Nat} {ks:A6} (h1:1<=n) (h8:n<=8) (p2:2<=p) (p4:p<=4)
include h1 h8 p2 p4
theorem X4 {t:Nat} (ht:t < 20 + n * p):Fair n (zf (zy n) (rz n p) t):=by
 have c:=zbM h1 h8 p2 p4;unfold chk at c;have c:=aS.mp (dj.mp c).1 t (be.mpr ht);unfold zg8 at c;obtain ⟨c1,c2⟩:=dj.mp c;exact ⟨λ x hx y hy=>bp (aS.mp (aS.mp c1 x hx) y hy),bp c2⟩
theorem zaJ (q r:Nat):Alk (zy n) (rz n p) (zf (zy n) (rz n p) (20 + r)) (zf (zy n) (rz n p) (20 + q * (n * p) + r))/\qI n (zf (zy n) (rz n p) (20 + q * (n * p) + r))=(qI n (zf (zy n) (rz n p) (20 + r))).map (· + (q:Int))/\gAt (zf (zy n) (rz n p) (20 + q * (n * p) + r)).gone 0 0=gAt (zf (zy n) (rz n p) (20 + r)).gone 0 0 + q * n:=by
 have hk:xP [0]:=⟨by decide,by decide,λ z hz=>by rw [ap.mp hz];exact ⟨by decide,by decide⟩⟩;have nk:=ZT h1 h8 p [0];have bo:=Z2 n;have ro:=vF h1 h8 (pc:=p) ⟨by lia,by lia⟩ hk;have L0:=fD h1 (show 0 < p by lia);have c:=zbM h1 h8 p2 p4;unfold chk at c;have hq:1 < if n<=3 then 7 else 3:=by split <;> lia
 have c:=aS.mp (dj.mp c).2 1 (be.mpr hq);have al:=zbU bo ro (XN h1 h8 p2 p4 hk hq ⟨_,(Int.one_mul _).symm⟩);unfold zhI at c;simp only [ck,bc] at c;obtain ⟨⟨_,c3⟩,c4⟩:=c;rw [gH] at al c3 c4;rw [gH] at c3;generalize n * p=L at *;obtain ⟨a1,a2⟩:=zeZ nk bo ro (show 20 < 20 + L by lia) al q;rw [show 20 + L - 20=L by lia] at a1 a2;obtain ⟨b1,b2⟩:=WN a1 nk bo ro r;refine ⟨b1,?_,?_⟩
 ·unfold qI at c4 ⊢;rw [cY] at c4 ⊢;refine cI λ k hk=>?_;have e:=List.map_inj_left.mp c4 k hk;have x:=b2 k.toNat 0;have y:=a2 k.toNat 0;simp only [Function.comp] at e ⊢;rw [e,show (gAt (zf (zy n) (rz n p) 20).gone k.toNat 0 + ((1:Nat):Int) - gAt (zf (zy n) (rz n p) 20).gone k.toNat 0)=1 by lia,Int.mul_one] at y
  lia
 ·have x:=b2 0 0;have y:=a2 0 0;rw [c3,show (gAt (zf (zy n) (rz n p) 20).gone 0 0 + (n:Int) - gAt (zf (zy n) (rz n p) 20).gone 0 0)=n by lia] at y
  lia
theorem zgx (t:Nat):Fair n (zf (zy n) (rz n p) t):=by
 by_cases ht:t < 20 + n * p
 ·exact X4 h1 h8 p2 p4 ht
 have L0:=fD h1 (show 0 < p by lia);have e:t=20 + (t - 20) / (n * p) * (n * p) + (t - 20) % (n * p):=by
  have:=Nat.div_add_mod' (t - 20) (n * p)
  lia
 obtain ⟨b,k1,k2⟩:=zaJ h1 h8 p2 p4 ((t - 20) / (n * p)) ((t - 20) % (n * p));have f:=X4 h1 h8 p2 p4 (t:=20 + (t - 20) % (n * p)) (by have:=cm (t - 20) L0;lia);rw [<- e] at b k1 k2;refine ⟨λ x hx y hy=>?_,?_⟩
 ·rw [k1] at hx hy;obtain ⟨x',hx',rfl⟩:=aN.mp hx;obtain ⟨y',hy',rfl⟩:=aN.mp hy;have:=f.ev x' hx' y' hy'
  lia
 ·have hl:(qI n (zf (zy n) (rz n p) (20 + (t - 20) % (n * p)))).length=n:=by unfold qI;rw [ai,ZU h1 h8]
  rw [k1,k2,Wk,hl,<- Z5 _ b.ce,<- f.li,cF]
  lia
theorem ZS (t:Nat):Fair n (zf (zy n) (zj n p ks) t):=by
 rw [ZG];exact zgx h1 h8 p2 p4 t
theorem zbc (hk:xP ks) {lim i j:Nat} (rd:RoundAt (zy n) (zj n p ks) lim i j):∃ δ:Int,1<=δ/\(∀ k∈drs n,gAt (zf (zy n) (zj n p ks) j).gone k.toNat 0 - gAt (zf (zy n) (zj n p ks) i).gone k.toNat 0=δ)/\gAt (zf (zy n) (zj n p ks) j).gone 0 0 - gAt (zf (zy n) (zj n p ks) i).gone 0 0=n * δ:=by
 have nk:=ZT h1 h8 p ks;have bo:=Z2 n;have ro:=vF h1 h8 (pc:=p) ⟨by lia,by lia⟩ hk;have lt:=rd.lt;have l3:=(ze0 nk bo ro rd 3).2;have fi:=ZS h1 h8 p2 p4 (ks:=ks) i;have fj:=ZS h1 h8 p2 p4 (ks:=ks) j;have f3:=ZS h1 h8 p2 p4 (ks:=ks) (i + 3 * (j - i));have ac:=(zbU bo ro rd.eq).ce;have mem:∀ {t:Nat} {k:Int},k∈drs n->gAt (zf (zy n) (zj n p ks) t).gone k.toNat 0∈qI n (zf (zy n) (zj n p ks) t):=λ {t k} h=>aN.mpr ⟨k,h,rfl⟩;obtain ⟨k0,hk0⟩:∃ k,k∈drs n:=List.exists_mem_of_length_pos (by rw [ZU h1 h8];exact h1);have same:∀ k∈drs n,gAt (zf (zy n) (zj n p ks) j).gone k.toNat 0 - gAt (zf (zy n) (zj n p ks) i).gone k.toNat 0=gAt (zf (zy n) (zj n p ks) j).gone k0.toNat 0 - gAt (zf (zy n) (zj n p ks) i).gone k0.toNat 0:=λ k hk=>by
  have a1:=fi.ev _ (mem hk) _ (mem hk0);have a2:=fi.ev _ (mem hk0) _ (mem hk);have a3:=f3.ev _ (mem hk) _ (mem hk0);have a4:=f3.ev _ (mem hk0) _ (mem hk);rw [l3,l3] at a3 a4
  lia
 have src:gAt (zf (zy n) (zj n p ks) j).gone 0 0 - gAt (zf (zy n) (zj n p ks) i).gone 0 0=n * (gAt (zf (zy n) (zj n p ks) j).gone k0.toNat 0 - gAt (zf (zy n) (zj n p ks) i).gone k0.toNat 0):=by
  have e:qI n (zf (zy n) (zj n p ks) j)=(qI n (zf (zy n) (zj n p ks) i)).map (· + (gAt (zf (zy n) (zj n p ks) j).gone k0.toNat 0 - gAt (zf (zy n) (zj n p ks) i).gone k0.toNat 0)):=by
   unfold qI;rw [cY];refine cI λ k hk=>?_;have:=same k hk;simp only [Function.comp]
   lia
  have hl:(qI n (zf (zy n) (zj n p ks) i)).length=n:=by unfold qI;rw [ai,ZU h1 h8]
  have x:=fi.li;have y:=fj.li;rw [e,Wk,hl,<- Z5 _ ac] at y
  lia
 refine ⟨_,Int.not_lt.mp λ z=>?_,same,src⟩;have m0:=jH (zy n) (zj n p ks) i k0.toNat 0 (j - i);rw [show i + (j - i)=j by lia] at m0;change gAt _ _ _<=gAt _ _ _ at m0;rw [show gAt (zf (zy n) (zj n p ks) j).gone k0.toNat 0 - gAt (zf (zy n) (zj n p ks) i).gone k0.toNat 0=0 by lia,Int.mul_zero] at src;obtain ⟨g,hg⟩:∃ g:Nat,gAt (zf (zy n) (zj n p ks) i).gone 0 0 < g:=⟨(gAt (zf (zy n) (zj n p ks) i).gone 0 0 + 1).toNat,by lia⟩;have b:=(zaJ h1 h8 p2 p4 g 0).2.2;rw [d9,d9,<- ZG n p ks,<- ZG n p ks] at b;have l:=(ze0 nk bo ro rd (20 + g * (n * p))).2 0 0;rw [src,Int.mul_zero,gq] at l;have le:20 + g * (n * p)<=i + (20 + g * (n * p)) * (j - i):=bd (Nat.le_mul_of_pos_right _ (by lia)) (Nat.le_add_left _ _);have m1:=jH (zy n) (zj n p ks) (20 + g * (n * p)) 0 0 (i + (20 + g * (n * p)) * (j - i) - (20 + g * (n * p)));rw [Nat.add_sub_of_le le] at m1;change gAt _ _ _<=gAt _ _ _ at m1;have m2:=jH (zy n) (zj n p ks) 0 0 0 20;have z0:gAt (zf (zy n) (zj n p ks) 0).gone 0 0=0:=rfl;change gAt _ _ _<=gAt _ _ _ at m2;rw [fh,z0] at m2;have gn:(g:Int) * 1<=g * n:=Int.mul_le_mul_of_nonneg_left (by lia) (by lia)
 lia
end
noncomputable def wT (ns:A6) (k:Nat):Int:=ns.getD k 0
inductive spCell (K:A0) (vs:Ap) (H:Hp) (Q:VK) (E:XK):Prop
 | i (l:Addr) (ns:A6) (k:Nat):vs=[.ref l,.int k]->SqL K H l (ns.map V.int)->Q (.int (wT ns k)) H->spCell K vs H Q E
def Z0 (T:Txt K mg a):Cal P w K mg base "_law_cell" 1 ["_law_cells","_law_k"] [] (spCell K):=T.mG.cal λ F=>by
 refine F.okx zc1 ?_ ?_
 ·walk_at "i"
 walk_at "k";rcases h with ⟨l,ns,n,rfl,hl,k⟩;walk_at "T";refine ⟨_,(ze (zT (zz JO (pq 1) (qd qi qg (za (pq 0) zb)) (zC _))  (zd (zl (zm (pq 0) (pq 1))))  zu)  (zd (zl zh))),?_⟩;exists ⟨_,.inl ⟨_,hl,rfl⟩,?_⟩;walk_at "r";rw [ai];refine zU (λ h=>?_) (λ h=>?_)
 ·have h:n < ns.length:=by lia
  refine zp hl (zw (by rw [am,ae h];rfl)) ?_;have e:ns[n]=wT ns n:=by simp [wT,h]
  rw [e];exact k
 ·have e:wT ns n=0:=by
   have h:ns.length<=n:=by lia
   simp [wT,h]
  rw [e] at k;walk_at "r";exact k
inductive spFar (K:A0) (vs:Ap) (H:Hp) (Q:VK) (E:XK):Prop
 | i (l:Addr) (ns:A6):vs=[.ref l]->SqL K H l (iv ns)->(∀ m:Nat,Q (.int m) H)->spFar K vs H Q E
def zgD (T:Txt K mg a):Cal P w K mg base "_law_far" 2 ["_law_cells"] [] (spFar K):=T.mQ.cal λ F=>by
 refine F.okx zek ?_ ?_
 ·walk_at "i"
 walk_at "j";rcases h with ⟨l,ns,rfl,hl,k⟩;walk_at "T";refine ⟨_,(ze (zt 1 zek.nd zh)  (jO (qo qC rfl (zV (pq 0)) (qf 2 zek.nd)  (zd (zt 1 zek.nd (zbn (zD qr (zD vm (pq 1) zh) (pq 2))))))  (ze (zT (zz (JP hr.units1) (WO ‹(pq 0) (za zh zb)›) zh (zC _))  (zd (zl (WO (pq 1))))  zu)  (zd (zl (pq 1)))))),?_⟩;exists cut (λ σ' H'=>∃ (m:Nat) (v:Aq),σ'=[some (.ref l),some (.int m),v]/\H'=H) ?_ ?_
 ·walk_at "e";refine ⟨l,rfl,.inl ⟨⟨_,hl⟩,?_⟩⟩;refine ql (K:=K) (a:=l) (xs:=iv ns) (λ i σ H'=>∃ (m:Nat) (v:Aq),σ=[some (.ref l),some (.int m),v]/\H'=H) ⟨0,none,rfl,rfl⟩ (λ i σ H' _ ⟨_,_,_,e⟩=>e ▸ hl) ?_ ?_
  ·rintro i x σ H1 hi ⟨m,v,rfl,rfl⟩;obtain ⟨c,hc,rfl⟩:=wS hi;exists ⟨mul_okR (by decide) (by decide),?_⟩;left;exact ⟨(((m:Int) * 1000003 + c) % 1000000000000000000000000000000000000000000000000000000000000).toNat,_,by rw [cc (cT _ (by decide))]⟩
  ·rintro σ H1 ⟨m,v,rfl,rfl⟩;exact ⟨m,v,rfl,rfl⟩
 rintro σ' H1 ⟨m,v,rfl,rfl⟩;exists uc (Z0 T).mono (spCell.i l ns 2 rfl hl ?_);exists zU (λ b=>?_) (λ b=>?_)
 ·left;have:=k (m % 100);exact this
 ·left;exact k m
def zaR {cs:Au} {c:Av} (h:cs[i]?=some c):qa (cs.take (i + 1))=qa (cs.take i) ++ c.filterMap id:=by
 rw [aG,h];simp [qa]
def zfR (a:Ad):Sp:=λ vs H Q _=>∃ (y:Addr) (n:SN) (st:PSt),vs=[.ref y]/\StO a H y n st/\st.cells.length<=24/\(∀ c∈st.cells,c.length<=6)/\∀ (l:Addr) (us:Ap) H',Same H H'->H' l=some (.lst us)->Reps H' (zG H') us ((qa st.cells).map Xa)->Q (.ref l) H'
theorem zdO (T:Txt K mg a):Cal P w K mg base "_law_wares" 1 ["_law_state"] [] (zfR a):=T.mq.cal λ F=>by
 refine F.okx za8 ?_ ?_
 ·walk_at "i"
 walk_at "j";obtain ⟨y,n,st,rfl,so,l24,l6,k⟩:=h;have hc:=so.hc;have lc:n.acs.length=st.cells.length:=by rw [hc.len,zI,ai]
 walk_at "T";refine ⟨_,(ze (zt 1 za8.nd (qe zb))  (ze (qo qC rfl (zV (zi (pq 0) rfl)) (qf 2 za8.nd)  (zd (qo qC rfl (zV (pq 2)) (qf 3 za8.nd)  (zd (zT (zz Q7 (pq 3) zM (zC _))  (zd (zO (xK aK aW aV qD (pq 1) (za (pq 3) zb))))  zu)))))  (zd (zl (pq 1))))),?_⟩;left;intro R hR;have s1:=zg (o:=.lst []) hR;have hR1:upd H R (.lst []) R=some (.lst []):=nE;generalize upd H R (.lst [])=H1 at s1 hR1 ⊢;walk_at "e";exists ra (s1 _ _ so.hy) T.ad T.ic rfl ?_;refine ⟨n.lc,rfl,.inl ⟨⟨_,SqL.of (s1 _ _ hc.out)⟩,?_⟩⟩;refine ql (K:=K) (a:=n.lc) (xs:=n.acs.map V.ref) (λ i σ H'=>∃ (v2 v3:Aq) (us:Ap),σ=[some (.ref y),some (.ref R),v2,v3]/\Same H H'/\H' R=some (.lst us)/\Reps H' (zG H') us ((qa (st.cells.take i)).map Xa)/\us.length<=6 * i) ⟨_,_,[],rfl,s1,hR1,.nil,b7 _⟩ (λ i σ H' _ h=>by obtain ⟨_,_,_,_,s,_⟩:=h;exact SqL.of (s _ _ hc.out)) ?_ ?_
 ·rintro i x σ H2 hi ⟨v2,v3,us,rfl,s2,hR2,ru2,lu2⟩;rw [am,ar] at hi;obtain ⟨cb,hcb,rfl⟩:=hi;have hil:i < st.cells.length:=by rw [<- lc];exact (aa.mp hcb).1
  obtain ⟨c,ec⟩:∃ c,st.cells[i]?=some c:=⟨_,ae hil⟩;obtain ⟨vs,hvs,rvs⟩:=hc.g i cb _ hcb (show (zI st.cells)[i]?=some (c.map zZ) by rw [zI,am,ec];rfl);have lv:vs.length=c.length:=by rw [rvs.len,ai]
  have c6:=l6 c (aj ec);walk_at "e";exists ⟨cb,rfl,.inl ⟨⟨_,SqL.of (s2 _ _ hvs)⟩,?_⟩⟩;refine ql (K:=K) (a:=cb) (xs:=vs) (λ j σ H'=>∃ (v3:Aq) (us:Ap),σ=[some (.ref y),some (.ref R),some (.ref cb),v3]/\Same H H'/\H' R=some (.lst us)/\Reps H' (zG H') us ((qa (st.cells.take i) ++ (c.take j).filterMap id).map Xa)/\us.length<=6 * i + j) ⟨_,us,rfl,s2,hR2,by simpa using ru2,lu2⟩ (λ i σ H' _ h=>by obtain ⟨_,_,_,s,_⟩:=h;exact SqL.of (s _ _ hvs)) ?_ ?_
  ·clear ru2 lu2 hR2 s2;rintro j v σ H3 hj ⟨v3,us,rfl,s3,hR3,ru3,lu3⟩;obtain ⟨d,hd,rv⟩:=rvs.at hj;rw [am,ar] at hd;obtain ⟨wr,hwr,rfl⟩:=hd;have hjl:j < c.length:=(aa.mp hwr).1;cases wr with
   | none =>
    have rv:Rep H (zG H) v .non:=rv;cases rv;exists ⟨_,us,rfl,s3,hR3,?_,by lia⟩;rw [aG,hwr];simpa using ru3
   | some x =>
    have rv:Rep H (zG H) v (Xa x):=rv;obtain ⟨tx,rfl,htx⟩:=jU (b:=x) rv;exists ⟨.inl ⟨rfl,_,SqL.of hR3⟩,R,_,_,rfl,rfl,hR3,zk (by lia),_,us ++ [.ref tx],rfl,(λ b o hb=>by rw [nF (nH hb hR)];exact s3 b o hb),nE,?_,by simp;lia⟩;rw [aG,hwr,show qa (st.cells.take i) ++ (c.take j ++ (some (some x)).toList).filterMap id=(qa (st.cells.take i) ++ (c.take j).filterMap id) ++ [x] by simp,aZ];have rx:=rv.keep (q:=zG H3) λ b o ⟨xs,hx⟩ hb=>⟨⟨xs,s3 _ _ hx⟩,s3 _ _ hb⟩;refine (ru3.append (.one rx)).keep λ b o ⟨xs,hx⟩ hb=>?_;have ne:b≠R:=λ z=>by rw [z,hR3] at hx;cases hx
    exact ⟨⟨xs,by rw [nF ne];exact hx⟩,by rw [nF ne];exact hb⟩
  ·rintro σ H3 ⟨v3,us,rfl,s3,hR3,ru3,lu3⟩;rw [lv,aH,<- zaR ec] at ru3;exact ⟨_,_,us,rfl,s3,hR3,ru3,by lia⟩
 ·rintro σ H2 ⟨v2,v3,us,rfl,s2,hR2,ru2,lu2⟩;rw [ai,lc,aH] at ru2;left;exact k R us H2 s2 hR2 ru2
def zaK {cs:Au} {b p:Nat} {c:Av} {x:zq} (h:cs[b]?=some c) (h':c[p]?=some x):atC cs b p=x:=by
 unfold atC;rw [ah,ah,h,aJ,h',aJ]
def zcL {cs:Au} {x:Int × Int} (h:x∈qa cs):∃ b p,atC cs b p=some x:=by
 obtain ⟨c,hc,hx⟩:=d5.mp h;obtain ⟨y,hy,e⟩:=bJ.mp hx;obtain ⟨b,hb⟩:=aU hc;obtain ⟨p,hp⟩:=aU hy;exact ⟨b,p,(zaK hb hp).trans e⟩
def Vm {cs:Au} (u:Uq cs):(qa cs).Nodup:=by
 unfold qa List.Nodup;rw [List.pairwise_flatMap];refine ⟨λ c hc=>?_,?_⟩
 ·rw [List.pairwise_filterMap];obtain ⟨b,hb⟩:=aU hc;rw [dJ];intro i j hi hj lt x hx y hy e;subst e;have:=(u b i b j x ((zaK hb (ae hi)).trans hx) ((zaK hb (ae hj)).trans hy)).2
  lia
 ·rw [dJ];intro i j hi hj lt x hx y hy e;subst e;obtain ⟨z,hz,e⟩:=bJ.mp hx;obtain ⟨z',hz',e'⟩:=bJ.mp hy;obtain ⟨p,hp⟩:=aU hz;obtain ⟨p',hp'⟩:=aU hz';have:=(u i p j p' x ((zaK (ae hi) hp).trans e) ((zaK (ae hj) hp').trans e')).1
  lia
theorem Vn:∀ {cs:Au},cs.length<=24->(∀ c∈cs,c.length<=6)->(qa cs).length<=6 * cs.length
 | [],_,_=>au _
 | c :: cs,h,k=>by
  have e:=Vn (cs:=cs) (Nat.le_of_succ_le h) λ x hx=>k x (aA _ hx);have l:=List.length_filterMap_le id c;have c6:=k c (bh ..);show (c.filterMap id ++ qa cs).length<=_
  rw [aD,bb]
  lia
noncomputable def zds (x:Int × Int):List A9:=[some x.1,some x.2]
def ze7 {x y:Int × Int} (h:zds x=zds y):x=y:=by
 unfold zds at h;simp only [cS,b5,fM] at h;exact Prod.ext h.1 h.2
theorem zcf {H:Hp} {p:A5}:∀ {ws:A1} {us:Ap},Reps H p us (ws.map Xa)->∃ xs:List (List A9 × Addr),us=xs.map (λ x=>V.ref x.2)/\xs.map (·.1)=ws.map zds/\∀ x∈xs,Rep H p (.ref x.2) (.tup (x.1.map oiD))
 | [],us,h=>by
  have:=h.len;rw [fK,dS,cX] at this;exact ⟨[],this,rfl,λ x hx=>by cases hx⟩
 | w :: ws,[],h=>by have:=h.len;simp at this
 | w :: ws,u :: us,h=>by
  have hu:=h.g 0 u (Xa w) rfl rfl;obtain ⟨t,rfl,_⟩:=jU hu;obtain ⟨xs,e1,e2,e3⟩:=zcf (ws:=ws) (us:=us) ⟨by have:=h.len;simpa using this,λ i v d hv hd=>h.g (i + 1) v d hv hd⟩;refine ⟨(zds w,t) :: xs,by rw [e1];rfl,by rw [br,br,e2],λ x hx=>?_⟩;rcases az.mp hx with rfl|hx
  ·exact hu
  ·exact e3 x hx
def zjd (h1:1<=n) (h8:n<=8) {r:Row} (h:(zj n pc ks)[j]?=some r) (hs:r.wd=.source):j=0:=by
 have:=ZI h hs;rw [Wm h1 h8,ap] at this
 lia
def zhZ (h1:1<=n) (h8:n<=8) (pc:Int) (ks:A6) {k:Int} (h:k∈drs n):∃ (j:Nat) (r:Row),k=j/\(zj n pc ks)[j]?=some r:=by
 rw [<- W7 h1 h8 pc ks] at h;obtain ⟨j,r,e,hr,_⟩:=wl h;exact ⟨j,r,e,hr⟩
def zfh {rs:At} {st:PSt} (wf:stWf bs rs st) (ro:∀ r∈rs,r.ok) {r:Row} (h:rs[j]?=some r):∃ g,st.gone[j]?=some g/\g[0]?=some (gAt st.gone j 0):=by
 have hj:j < st.gone.length:=by rw [wf.go.1];exact (aa.mp h).1
 have e:st.gone[j]?=some (st.gone[j]'hj):=ae hj;have l:=(wf.go.2 j r _ h e).1;have c1:=(xA (ro r (aj h))).1;refine ⟨_,e,?_⟩;unfold gAt;rw [ah (l:=st.gone),e,aJ];exact qh (by lia)
def zhh (a:Ad):Sp:=λ vs H Q _=>∃ (vw:V) (y:Addr) (sn:SN) (n p t:Nat) (ks:A6),vs=[vw,.ref y,.int t]/\Rep H (Off []) vw (qA a (zy n) (zj n p ks))/\StO a H y sn (zf (zy n) (zj n p ks) t)/\1<=n/\n<=8/\2<=p/\p<=4/\xP ks/\∀ H',Same H H'->Q (.bl true) H'
def zfD (T:Txt K mg a):Cal P w K mg base "_law_turn" 2 ["_law_work","_law_state","_law_far_here"] [] (zhh a):=T.mH.cal λ F=>by
 refine F.okx zc0 ?_ ?_
 ·walk_at "i"
 walk_at "j";obtain ⟨vw,y,sn,n,p,t,ks,rfl,hw,so,h1,h8,p2,p4,hk,k⟩:=h;have nk:=ZT h1 h8 p ks;have ro:=vF h1 h8 (pc:=p) ⟨by lia,by lia⟩ hk;have wf:=zE nk (Z2 n) ro t;have fr:=ZS h1 h8 p2 p4 (ks:=ks) t;have uq:=WM nk (Z2 n) ro t;have rl:=ZD h1 h8 p ks;have pt:=qu (zy n) (zj n p ks) t;have dn:=ZU h1 h8;obtain ⟨r0,e0⟩:∃ r,(zj n p ks)[0]?=some r:=⟨_,rfl⟩;have dr:=λ k h=>zhZ h1 h8 p ks (k:=k) h;have de:=W7 h1 h8 p ks;have se:=Wm h1 h8 p ks;have r00:=λ j r=>zjd h1 h8 (pc:=p) (ks:=ks) (j:=j) (r:=r);have nb:=zbs h1 h8;have c24:(zf (zy n) (zj n p ks) t).cells.length<=24:=by rw [wf.co.1,a8];lia
 have c6:∀ c∈(zf (zy n) (zj n p ks) t).cells,c.length<=6:=λ c hc=>by
  obtain ⟨i,hi⟩:=aU hc;have il:i < (zy n).length:=by rw [<- wf.co.1];exact (aa.mp hi).1
  have e:(zy n)[i]?=some (2,1):=by rw [ae il,List.getElem_replicate]
  rw [(wf.co.2 i _ c e hi).1];decide
 generalize zf (zy n) (zj n p ks) t=st at so wf fr uq pt c24 c6;obtain ⟨yw,dw,fws,l1',l2,bvs,n9,rfl,hyw,ew1,ew2,hl1,hl2,hB,hK,no⟩:=qO hw;walk_at "T";refine ⟨_,(ze (JB (i:=3) zc0.nd rfl (Or.inr rfl) (zm (xI ⟨rfl,rfl,rfl⟩ hr (pq 0)) zh))  (ze (JB (i:=4) zc0.nd rfl (Or.inr rfl) (zm (zm (zi (pq 1) rfl) (pq 3)) zh))  (ze (JC (i:=5) zc0.nd rfl (Or.inl rfl) (vars:=["_law_at"]) (caps:=[1]) (N:=["_law_at","_law_state"]) (ON:=["_law_work","_law_state","_law_far_here","_law_source","_law_given","_law_took","_law_wares_here"]) (osc:=zc vd) rfl rfl (by right) rfl rfl (zV (xI ⟨rfl,rfl,rfl⟩ hr (pq 0))) (λ _ _ _ _=>(qf 0 (show (["_law_at","_law_state"]:A8).Nodup from by symm))) (λ _ _ _ _=>zX) (λ _ _ _ _=>(zm (zm (zi (pq 1) rfl) (pq 0)) zh)))  (ze (zt 6 zc0.nd ‹(pq 1) zb›)  (ze (zT (PW.pt (pw_or (zz V2 (zD xv (qd (zgH rfl) zfF (za (pq 5) zb)) (qd (zgG rfl) zh9 (za (pq 5) zb))) zh (zC _)) (pw_or (zz (JN hr.units1) (zD xv (pq 4) (qd (zid rfl) zh7 (za (pq 5) zb))) (qd qi qg (za (pq 6) zb)) (zC _)) (pw_or1 (zz (JN hr.units1) (zi (pq 1) rfl) (pq 2) (zC _))))))  (zd (zl V1))  zu)  (ze (zT (jx (jT (qd (zie rfl) zib (za (jr (vars:=["_law_ware"]) (caps:=[3,4]) (N:=["_law_ware","_law_source","_law_given"]) (ON:=["_law_work","_law_state","_law_far_here","_law_source","_law_given","_law_took","_law_wares_here"]) (osc:=zc vd) rfl rfl (by right) rfl rfl (zV (pq 6)) (λ _ _ _ _=>(qf 0 (show (["_law_ware","_law_source","_law_given"]:A8).Nodup from by symm))) (λ _ _ _ _=>zX) (λ _ _ _ _=>(zhx (vI (zb8 hr.units1) (zm (pq 0) zh) (pq 1) (zC _)) (zhv (zeC op_le ziF zh (zm (pq 0) zh) (pq 2)))))) zb)) (λ _=>rfl)))  (zd (zl V1))  zu)  (zd (zl (vI (zb8 hr.units1) (qd zgI qg (za (wg (zgF ziH (by decide) rfl hr.units1 (by decide)) zh8 (za (pq 6) zb)) zb)) (qd qi qg (za (pq 6) zb)) (zC _)))))))))),?_⟩;exists ⟨yw,a.o,dw,fws,_,_,_,rfl,hyw,no _ (by symm) (by symm),(jA T).mono,?_⟩;refine ⟨.ref yw,_,_,_,rfl,hw,by lia,λ q H1 s1 nq hq=>?_⟩;rw [se] at hq;have so1:=so.same s1;obtain ⟨g,hg,hg0⟩:=zfh wf ro e0;obtain ⟨gb,qb,hb⟩:=xz so1.hg hg;refine zp (SqL.of hq) at0 ?_;exists ra so1.hy T.ad T.ig rfl (zp (SqL.of so1.hg.out) (zw (Je qb)) (zp (SqL.of hb) (zw (j9 hg0)) ?_));left;walk_at "d";exists ⟨yw,a.o,dw,fws,_,_,_,rfl,s1 _ _ hyw,no _ (by symm) (by symm),(xW T).mono,?_⟩;refine ⟨.ref yw,_,_,_,rfl,hw.same s1,by lia,λ q2 H2 s2 _ hq2=>?_⟩;rw [de] at hq2;have s02:=s1.trans s2;refine ⟨q2,rfl,.inl ⟨⟨_,SqL.of hq2⟩,λ _ _ _ _ nj hacc=>?_⟩⟩;refine ql (K:=K) (a:=q2) (xs:=iv (drs n)) (λ i σ H'=>∃ (v0:Aq),σ=[v0,some (.ref y)]/\Same H2 H'/\H' nj=some (.lst (iv (((drs n).take i).map λ k=>gAt st.gone k.toNat 0)))) ⟨_,rfl,zg hacc,nE⟩ (λ i σ H' _ h=>by obtain ⟨_,_,s,_⟩:=h;exact SqL.of (s _ _ hq2)) ?_ ?_
 ·rintro i x σ H3 hi ⟨v0,rfl,s3,ha⟩;obtain ⟨m,hm,rfl⟩:=wS hi;have hil:=(aa.mp hm).1;obtain ⟨j,r,rfl,hj⟩:=dr m (aj hm);have so3:=so.same (s02.trans s3);obtain ⟨g',hg',hg0'⟩:=zfh wf ro hj;obtain ⟨gb',qb',hb'⟩:=xz so3.hg hg';exists ra so3.hy T.ad T.ig rfl (zp (SqL.of so3.hg.out) (zw (Je qb')) (zp (SqL.of hb') (zw (j9 hg0')) ?_));refine ⟨_,ha,by rw [zH,ai,aP];exact zk (by lia),_,rfl,(λ b o hb=>by rw [nF (nH hb hacc)];exact s3 b o hb),?_⟩;rw [nE,aG,hm,aZ,<- vv]
  rfl
 rintro σ H3 ⟨v0,rfl,s3,ha⟩;rw [zH,aH] at ha;have ha:H3 nj=some (.lst (iv (qI n st))):=ha;have s03:=s02.trans s3;clear hq2 s2 s3 hb hq so1 s1 s02;exists uc (zdO T).mono ⟨y,sn,st,rfl,so.same s03,c24,c6,λ l us H4 s4 hl ru=>?_⟩;have ha:=s4 _ _ ha;have s04:=s03.trans s4;have ll:us.length=(qa st.cells).length:=by rw [ru.len,ai]
 have tl:(qI n st).length=n:=by unfold qI;rw [ai,dn]
 obtain ⟨xs,rfl,hxs,hxr⟩:=zcf ru;clear s4 s03;exists ⟨nj,qI n st,rfl,SqL.of ha,by lia,λ mx m1 m2=>⟨mC,nj,qI n st,rfl,SqL.of ha,by lia,λ mn m3 m4=>?_⟩⟩;have ev:=fr.ev mx m1 mn m3;refine zU (λ z=>absurd z (by lia)) (λ _=>⟨mD,nj,qI n st,rfl,SqL.of ha,iH,_,.inl ⟨_,SqL.of hl,rfl⟩,?_⟩);rw [ll];refine zU (λ z=>absurd fr.li z) (λ _=>?_);refine ra ((so.same s04).hy) T.ad T.ie rfl ?_;rw [pt];left;have wk:∀ x∈qa st.cells,x.1=0/\0<=x.2/\x.2 < gAt st.gone 0 0:=λ x hx=>by
  obtain ⟨c,hc,hx'⟩:=d5.mp hx;obtain ⟨z,hz,e⟩:=bJ.mp hx';obtain ⟨i,hi⟩:=aU hc;have il:i < (zy n).length:=by rw [<- wf.co.1];exact (aa.mp hi).1
  obtain ⟨j,r,ej,hj,hs,h0⟩:=(wf.co.2 i _ c (ae il) hi).2 z hz x.1 x.2 e;have j0:=r00 j r hj hs;obtain ⟨b,q,hb⟩:=zcL hx;have g:=uq.2 b q x hb;rw [ej,j0] at g;exact ⟨by rw [ej,j0];rfl,h0,g⟩
 have w144:(qa st.cells).length < 1000:=by
  have:=Vn c24 c6
  lia
 refine ⟨l,rfl,.inl ⟨⟨_,SqL.of hl⟩,λ _ _ _ _ ac2 hac2=>?_⟩⟩;refine ql (K:=K) (a:=l) (xs:=xs.map λ x=>V.ref x.2) (λ i σ H'=>∃ (v0:Aq),σ=[v0,some (.int 0),some (.int (gAt st.gone 0 0))]/\Same H4 H'/\∃ bl:List Bool,H' ac2=some (.lst (bl.map V.bl))/\bl.length=i/\∀ b∈bl,b=true) ⟨_,rfl,zg hac2,[],nE,rfl,λ b hb=>by cases hb⟩ (λ i σ H' _ h=>by obtain ⟨_,_,s,_⟩:=h;exact SqL.of (s _ _ hl)) ?_ ?_
 ·rintro i x σ H5 hi ⟨v0,rfl,s5,bl,hA,lb,tb⟩;obtain ⟨d,hd,rx⟩:=ru.at hi;have hil:=(aa.mp hi).1;rw [am,ar] at hd;obtain ⟨⟨w1,w2⟩,hd,rfl⟩:=hd;obtain ⟨x1,x2,x3⟩:=wk _ (aj hd);simp only at x1 x2 x3;subst x1;obtain ⟨tx,rfl,htx⟩:=jU rx;have htx:=s5 _ _ htx;exists nJ htx at0 ?_;exists nJ htx (show atI _ 1=some (.int w2) from rfl) ?_;refine zU (λ _=>?_) (λ z=>absurd x2 z);left;have il:i < 1000:=by rw [ai] at hil ll;lia
  refine ⟨_,hA,by rw [ai];exact zk (by lia),_,rfl,(λ b o hb=>by rw [nF (nH hb hac2)];exact s5 b o hb),bl ++ [true],?_,by simp [lb],λ b hb=>?_⟩
  ·rw [nE,bu x3,aZ]
   rfl
  ·rcases aB.mp hb with hb|hb
   ·exact tb b hb
   ·exact ap.mp hb
 rintro σ H5 ⟨v0,rfl,s5,bl,hA,lb,tb⟩;have at':¬ bl.all id=false:=by
  rw [Bool.not_eq_false,aS];exact tb
 refine ⟨ac2,bl,rfl,hA,?_⟩;rw [aq at'];refine ⟨iH,mB,l,xs,rfl,SqL.of (s5 _ _ hl),?_,by rw [ai] at ll;lia,λ h ok x hx=>Zw ok (λ x v u r e=>vx r e) ((hxr x hx).keep (q:=zG H4) λ b o hb ho=>⟨hb,s5 _ _ ho⟩) rfl,λ l2 h2=>⟨l2,_,rfl,nE,iH,_,.inl ⟨_,SqL.of (nI (s5 _ _ hl) h2),rfl⟩,?_⟩⟩
 ·rw [hxs];refine List.Pairwise.map zds (λ x y ne e=>ne (ze7 e)) (Vm uq.1)
 rw [ai,bu rfl];exact k _ ((s04.trans s5).trans (zg h2))
inductive spTimes (K:A0) (vs:Ap) (H:Hp) (Q:VK) (E:XK):Prop
 | i (q:Addr) (t b m:Int):vs=[.ref q,.int m]->H q=some (.tup [.int t,.int b])->m.natAbs<=1000->1<=b->b<=1000->(∀ r,H r=none->Q (.ref r) (upd H r (.tup [.int (jS (t * m) b),.int (ratB (t * m) b)])))->spTimes K vs H Q E
def XA (T:Txt K mg a):Cal P w K mg base "ratio_times" 3 ["one","many"] [] (spTimes K):=T.kP.cal λ F=>by
 refine F.okx Jq ?_ ?_
 ·walk_at "i"
 walk_at "j";rcases h with ⟨q,t,b,m,rfl,hq,hm,b1,b2,k⟩;walk_at "T";refine ⟨_,(zd (zl ‹(zD vm (zm (pq 0) zh) (pq 1)) (za (zm (pq 0) zh) zb)›)),?_⟩;exists uc (zcC T).mono (nJ hq at0 ⟨mul_okR (by lia) (by lia),nJ hq (show atI _ 1=some (.int b) from rfl) ⟨_,_,rfl,Jn (bj (show b.natAbs<=1000 by lia) (by decide)),?_⟩⟩);rw [aq (by lia)];exact k
def zf4 {Q:VK} {p q:Addr} {xs ys:Ap} (hn:n<=8) (h1:SqL K H p xs) (h2:SqL K H q ys) (hl:xs.length=ys.length) (hde:∀ (j:Nat) (x y:V),xs[j]?=some x->ys[j]?=some y->DE K H n x y true) (k:Q (.bl true) H):VV K (.ref p) (.ref q) H Q :=
 .inr (.inr ⟨p,q,xs,ys,n,λ _=>true,rfl,rfl,hn,hde,.inl ⟨h1,h2,hl,by rw [aS.mpr (λ _ _=>rfl)];exact k⟩⟩)
theorem zft {t t':Addr} {x y:Int} (h:H t=some (.tup [.int x,.int y])) (h':H t'=some (.tup [.int x,.int y])):∀ (j:Nat) (u v:V),[V.ref t][j]?=some u->[V.ref t'][j]?=some v->DE K H 1 u v true:=λ j u v hu hv=>by
 match j,hu,hv with
 | 0,hu,hv =>
  cases hu;cases hv;by_cases e:t=t'
  ·rw [e];exact .same
  have:=DE.tuples (K:=K) (n:=0) (e:=λ _=>true) e (SqT.of h) (SqT.of h') λ j u v hu hv=>by
   have e2:∀ z:Int,DE K H 0 (.int z) (.int z) true:=λ z=>(show eqV (.int z) (.int z)=true by simp [eqV]) ▸ DE.flat rfl rfl
   match j,hu,hv with
   | 0,hu,hv=>cases hu;cases hv;exact e2 x
   | 1,hu,hv=>cases hu;cases hv;exact e2 y
  exact this
def zfW {rs:At} {lim i j:Nat} {sl:Addr} {as:Ab} (nk:zQ bs rs) (bo:∀ b∈bs,zA b.1 b.2) (ro:∀ r∈rs,r.ok) (rd:RoundAt bs rs lim i j) (eL:(j:Int) - i=L) (nl:NL H (zG H) sl as ((QO bs rs i j).map (Xk ((j:Int) - i)))) {r:Row} (hr:rs[k]?=some r) (hw:r.wd=.source\/r.wd=.drain):∃ sb ts,as[k]?=some sb/\H sb=some (.lst [.ref ts])/\H ts=some (.tup [.int (jS (gAt (zf bs rs j).gone k 0 - gAt (zf bs rs i).gone k 0) L),.int (ratB (gAt (zf bs rs j).gone k 0 - gAt (zf bs rs i).gone k 0) L)]):=by
 have w0:=zE nk bo ro i;have w1:=zE nk bo ro j;have kl:=(aa.mp hr).1;obtain ⟨u0,e0⟩:∃ g,(zf bs rs i).gone[k]?=some g:=⟨_,ae (by rw [w0.go.1];exact kl)⟩;obtain ⟨u1,e1⟩:∃ g,(zf bs rs j).gone[k]?=some g:=⟨_,ae (by rw [w1.go.1];exact kl)⟩;have l0:=(w0.go.2 k _ u0 hr e0).1;have c1:(qE r).length=1:=by
  have ok:=ro r (aj hr);obtain ⟨wd,ins,outs,pc,kd⟩:=r;rcases hw with hw|hw
  ·cases hw;obtain ⟨h1,⟨o,h2⟩,_⟩:=ok;simp only at h1 h2;subst h1 h2
   rfl
  ·cases hw;obtain ⟨⟨o,h1⟩,h2,_⟩:=ok;simp only at h1 h2;subst h1 h2
   rfl
 rw [c1] at l0;have eg:(QO bs rs i j)[k]?=some (jC u0 u1):=by unfold QO js;rw [eD,e0,e1]
 have ex:jC u0 u1=[gAt (zf bs rs j).gone k 0 - gAt (zf bs rs i).gone k 0]:=by
  unfold jC gAt;rw [l0,ah (l:=(zf bs rs i).gone),ah (l:=(zf bs rs j).gone),e0,e1]
  rfl
 obtain ⟨sb,vs,qs,hs,rvs⟩:=nl.at (i:=k) (xs:=Xk ((j:Int) - i) (jC u0 u1)) (by rw [am,eg];rfl);rw [ex,eL] at rvs;generalize gAt (zf bs rs j).gone k 0 - gAt (zf bs rs i).gone k 0=d at rvs ⊢;obtain ⟨v,w,rfl,lw⟩:=zav rvs.len;cases cX.mp lw;obtain ⟨ts,rfl,hts⟩:=jU (b:=(jS d L,ratB d L)) (rvs.g 0 v _ rfl rfl);exact ⟨sb,ts,qs,hs,hts⟩
def VA (K:A0):Sp:=λ vs H Q _=>∃ (l:Addr) (ns:A6),vs=[.ref l]/\SqL K H l (ns.map V.int)/\ns.length<=63/\∀ H',Q (.bl true) H'
def zhC (T:Txt K mg a) (F:Fun K "law" "law" ZB f fd):FnOk P w K mg base (CXr P w) 10 f fd ["_law_script"] (VA K):=by
 refine F.okx zhn ?_ ?_
 ·walk_at "i"
 walk_at "j";refine oE2 h λ l ns m8=>oA4 m8 λ n6 hl hn k=>?_;clear m8 h;subst n6;have hl:SqL K H l (iv ns):=hl;walk_at "T";refine ⟨_,(zo (JC (i:=1) zhn.nd rfl (Or.inl rfl) (vars:=["_law_cell_here"]) (caps:=[]) (N:=["_law_cell_here"]) (ON:=["_law_script","_law_cells","_law_ways","_law_pace","_law_many","_law_kinds","_law_work","_law_far_here","_law_shares","_law_drains","_law_one","_law_at"]) (osc:=zc ZB) rfl rfl (by right) rfl rfl (zV (pq 0)) (λ _ _ _ _=>(qf 0 (show (["_law_cell_here"]:A8).Nodup from by symm))) (λ _ _ _ _=>zX) (λ _ _ _ _=>(zbn (pq 0))))  (zo (zt 2 zhn.nd (zD qr zh (WO ‹(pq 1) (za zh zb)›)))  (zo (zt 3 zhn.nd (zD qr zh (WO ‹(pq 1) (za zh zb)›)))  (zo (zt 4 zhn.nd (zD qr zh (zD jn (zhw ‹(pq 1) (za zh zb)›) (zD xv zh (zD vm zh (wg zh5 zia (za (vI ziG (pq 2) zh (zC _)) zb)))))))  (zo (JC (i:=5) zhn.nd rfl (Or.inl rfl) (vars:=["_law_cell_here"]) (caps:=[]) (N:=["_law_cell_here"]) (ON:=["_law_script","_law_cells","_law_ways","_law_pace","_law_many","_law_kinds","_law_work","_law_far_here","_law_shares","_law_drains","_law_one","_law_at"]) (osc:=zc ZB) rfl rfl (by right) rfl rfl (zV (JJ za2 (zD qr (pq 1) (qe (za zh zb))) WL (WK (pq 4)))) (λ _ _ _ _=>(qf 0 (show (["_law_cell_here"]:A8).Nodup from by symm))) (λ _ _ _ _=>zX) (λ _ _ _ _=>(zbn (pq 0))))  (zo (zt 6 zhn.nd ‹(pq 2) (za (pq 5) (za (pq 3) zb))›)  (zo (zt 7 zhn.nd ‹(pq 1) zb›)  (zo (zT (jx (jT ‹(pq 6) (za ‹(pq 6) (za (pq 7) (za zh zb))› (za (pq 7) zb))› (λ _=>rfl)))  (zd (zl V1))  zu)  (zo (zt 8 zhn.nd ‹(pq 6) (za zh zb)›)  (zo (zt 9 zhn.nd (xI ⟨rfl,rfl,rfl⟩ hr (pq 6)))  (zo (zt 10 zhn.nd (zm (zm (pq 8) (zm (pq 9) zh)) zh))  (zo (zT (PW.pt (pw_or (zz (JN hr.units1) (qd qi qg (za (pq 9) zb)) (pq 2) (zC _)) (pw_or1 (zz JO (zm (pq 10) zh) zh (zC _)))))  (zd (zl V1))  zu)  (zo (qo qC rfl (zV (pq 9)) (qf 11 zhn.nd)  (zd (zT (zz (JN hr.units1) (zm (pq 8) (pq 11)) (qe (za (pq 10) zb)) (zC _))  (zd (zl V1))  zu)))  (zd (zl (vI (zb8 hr.units1) (zm (pq 8) (zm (xI ⟨rfl,rfl,rfl⟩ hr (pq 6)) zh)) (qe (za ‹(pq 10) (za (pq 2) zb)› zb)) (zC _))))))))))))))))),?_⟩;walk_at "d";exists ⟨l,rfl,.inl ⟨⟨_,hl⟩,λ _ _ _ _ nj hacc=>?_⟩⟩;let nz:Nat->St->Hp->Prop:=λ i σ H'=>∃ (v0:Aq) (ms:A6),σ=[v0]/\Same H H'/\ms.length=i/\H' nj=some (.lst (iv ms));refine ql (K:=K) (a:=l) (xs:=iv ns) nz ⟨_,[],rfl,zg hacc,rfl,nE⟩ (λ i σ H' _ h=>by obtain ⟨_,_,_,s,_⟩:=h;exact zd6 s hl) ?_ ?_
 ·rintro i x σ H1 hi ⟨v0,ms,rfl,s1,lm,hA⟩;obtain ⟨c,hc,rfl⟩:=wS hi;have hil:=(aa.mp hc).1;exists ⟨_,hA,by rw [zH];exact zk (by lia),_,ms ++ [c % 10000000000000000000000000000000000000000],rfl,(λ b o hb=>by rw [nF (nH hb hacc)];exact s1 b o hb),by simp [lm],?_⟩;rw [nE,<- vv]
  rfl
 rintro σ H1 ⟨v0,ms,rfl,s1,lm,hA⟩;rw [zH] at lm;clear s1 hl hacc;exists uc (Z0 T).mono (spCell.i nj ms 0 rfl (SqL.of hA) ?_);left;obtain ⟨n,en,n8⟩:∃ n:Nat,1 + wT ms 0 % 8=n/\(1<=n/\n<=8):=⟨(1 + wT ms 0 % 8).toNat,by lia,by lia⟩;rw [en];refine uc (Z0 T).mono (spCell.i nj ms 1 rfl (SqL.of hA) ?_);left;obtain ⟨p,ep,p24⟩:∃ p:Nat,2 + wT ms 1 % 3=p/\(2<=p/\p<=4):=⟨(2 + wT ms 1 % 3).toNat,by lia,by lia⟩;rw [ep];refine uc (Z0 T).mono (spCell.i nj ms 0 rfl (SqL.of hA) ?_);left;obtain ⟨e,ee,e1⟩:∃ e:Int,(if decide (3 < (n:Int))=true then (1:Int) else 0)=e/\((n<=3/\e=0)\/(¬ n<=3/\e=1)):=by
  by_cases z:n<=3
  ·exact ⟨0,aq (by rw [bc];lia),.inl ⟨z,rfl⟩⟩
  ·exact ⟨1,ax (by rw [bc];lia),.inr ⟨z,rfl⟩⟩
 refine .inr ⟨_,rfl,?_⟩;rw [ee];obtain ⟨mk,ek,mk1,mk6,mk7⟩:∃ mk:Nat,1 + wT ms 0 / 8 % (6 - 4 * e)=mk/\1<=mk/\mk<=6/\mk < if n<=3 then 7 else 3:=by
  rcases e1 with ⟨z,rfl⟩|⟨z,rfl⟩
  ·exact ⟨(1 + wT ms 0 / 8 % 6).toNat,by lia,by lia,by lia,by rw [ax z];lia⟩
  ·exact ⟨(1 + wT ms 0 / 8 % 2).toNat,by lia,by lia,by lia,by rw [aq z];lia⟩
 refine ⟨mul_okL (by decide) (by decide),by lia,?_⟩;rw [ek];clear ee ek ep en;walk_at "d";left;intro q7 hq7;have h7:upd H1 q7 (.lst [V.int 7]) q7=some (.lst (iv [7])):=nE;have hA:=nI (o:=.lst [V.int 7]) hA hq7;generalize upd H1 q7 (.lst [V.int 7])=H2 at hA h7 ⊢;refine WH (SqL.of hA) (SqL.of h7) (by rw [zH,zH];exact bw (zk (by simp;lia))) λ q8 hq8=>?_;rw [vv];have h8:upd H2 q8 (.lst (iv (ms ++ [7]))) q8=some (.lst (iv (ms ++ [7]))):=nE;have hA:=nI (o:=.lst (iv (ms ++ [7]))) hA hq8;generalize upd H2 q8 (.lst (iv (ms ++ [7])))=H3 at hA h8 ⊢;refine zbj (SqL.of h8) λ q9 hq9=>?_;rw [zfu];have hA:=nI (o:=.lst (iv ((ms ++ [7]).take mk))) hA hq9;have h9:upd H3 q9 (.lst (iv ((ms ++ [7]).take mk))) q9=some (.lst (iv ((ms ++ [7]).take mk))):=nE;generalize upd H3 q9 (.lst (iv ((ms ++ [7]).take mk)))=H4 at hA h9 ⊢;have lk:1<=((ms ++ [7]).take mk).length/\((ms ++ [7]).take mk).length<=mk:=by rw [aP,aD,eC];lia
 generalize (ms ++ [7]).take mk=xs at h9 lk;clear h8 h7 hq7 hq8 hq9;refine ⟨q9,rfl,.inl ⟨⟨_,SqL.of h9⟩,λ _ _ _ _ ac2 hac2=>?_⟩⟩;let nA:Nat->St->Hp->Prop:=λ i σ H'=>∃ (v0:Aq) (ks:A6),σ=[v0]/\Same H4 H'/\ks.length=i/\QI ks/\H' ac2=some (.lst (iv ks));refine ql (K:=K) (a:=q9) (xs:=iv xs) nA ⟨_,[],rfl,zg hac2,rfl,λ z hz=>(by cases hz),nE⟩ (λ i σ H' _ h=>by obtain ⟨_,_,_,s,_⟩:=h;exact SqL.of (s _ _ h9)) ?_ ?_
 ·rintro i x σ H5 hi ⟨v0,ks,rfl,s5,lk5,kk,hB⟩;obtain ⟨c,hc,rfl⟩:=wS hi;have hil:=(aa.mp hc).1;exists ⟨_,hB,by rw [zH];exact zk (by lia),_,ks ++ [c % 1000000000000000000000000000000],rfl,(λ b o hb=>by rw [nF (nH hb hac2)];exact s5 b o hb),by simp [lk5],λ z hz=>?_,?_⟩
  ·rcases aB.mp hz with hz|hz
   ·exact kk z hz
   ·rw [ap.mp hz];exact ⟨cT _ (by decide),cV _ (by decide)⟩
  ·rw [nE,<- vv]
   rfl
 rintro σ H5 ⟨v0,ks,rfl,s5,lk5,kk,hB⟩;rw [zH] at lk5;have hA:=s5 _ _ hA;have hk:xP ks:=⟨by lia,by lia,kk⟩;have hq:ks.length < if n<=3 then 7 else 3:=by lia
 clear s5 h9 hac2;exists uc (zaF T).mono (spEven.i ac2 n p ks rfl hB n8.1 n8.2 (by lia) (by lia) hk (λ vw H6 s6 hw=>?_));have hA:=s6 _ _ hA;clear s6 hB;exists uc (zgD T).mono (spFar.i nj ms rfl (SqL.of hA) (λ far=>?_));have nr:=zeo n8.1 n8.2 p24.1 p24.2 hk hq;have nk:=ZT n8.1 n8.2 p ks;have ro:=vF n8.1 n8.2 (pc:=p) ⟨by lia,by lia⟩ hk;exists uc (zfD T).mono (uc (zgC T).mono (spLeapt.i vw far 1000 _ _ rfl hw nk (Z2 n) ro (au _) (λ i j v H7 rd s7 sn=>?_) (λ z=>absurd z nr)));obtain ⟨y,sn,rfl,so,_⟩:=sn;refine ⟨vw,y,sn,n,p,far,ks,rfl,hw.same s7,so,n8.1,n8.2,p24.1,p24.2,hk,λ H8 s8=>?_⟩;have hw8:=hw.same (s7.trans s8);clear hw hA s7 so rd s8;exists uc (zaA T).mono ⟨vw,1000,_,_,rfl,hw8,nk,Z2 n,ro,au _,λ i j v H9 rd s9 sh=>?_,λ z=>absurd z nr⟩;refine oE2 sh λ sl as m8=>oA3 m8 λ n6 nl _=>?_;clear m8 sh;subst n6;obtain ⟨δ,d1,dk,ds⟩:=zbc n8.1 n8.2 p24.1 p24.2 hk rd;have hw9:=hw8.same s9;have rl:=ZD n8.1 n8.2 p ks;have lt:=rd.lt;have le:=rd.le;obtain ⟨L,eL,gL1,gL2⟩:∃ L:Int,(j:Int) - i=L/\1<=L/\L<=1000:=⟨_,rfl,by lia,by lia⟩;have sh:=λ k r h hs=>zfW (k:=k) (r:=r) nk (Z2 n) ro rd eL nl h hs;have dl:=ZU n8.1 n8.2;obtain ⟨k0,hk0⟩:∃ k0,(drs n)[0]?=some k0:=⟨_,ae (by lia)⟩;have pl:=Q5 (zy n) (zj n p ks) k0.toNat 0 j;have rs0:=zc6 (top:=δ) (bottom:=L) (by lia);have lw:=WJ (top:=δ) (bottom:=L) (by lia);clear hw8 s9;obtain ⟨yw,dw,fws,l1',l2,bvs,n9,rfl,hyw,ew1,ew2,hl1,hl2,hB,hK,no⟩:=qO hw9;exists ⟨yw,a.o,dw,fws,_,_,_,rfl,hyw,no _ (by symm) (by symm),(xW T).mono,?_⟩;refine ⟨.ref yw,_,_,_,rfl,hw9,by lia,λ q HA sA _ hq=>?_⟩;rw [W7 n8.1 n8.2] at hq;exists zp (SqL.of hq) (zw (j9 hk0)) ?_;have one:∀ k∈drs n,∃ (x:Nat) (sb ts:Addr),k=x/\as[x]?=some sb/\HA sb=some (.lst [.ref ts])/\HA ts=some (.tup [.int (jS δ L),.int (ratB δ L)]):=λ k h=>by
  obtain ⟨x,r,rfl,hx,hs⟩:=wl (wd:=.drain) (rs:=zj n p ks) (by rw [W7 n8.1 n8.2];exact h);obtain ⟨sb,ts,a1,a2,a3⟩:=sh x r hx (.inr hs);have e:=dk x h;rw [aE] at e;rw [e] at a3;exact ⟨x,sb,ts,rfl,a1,sA _ _ a2,sA _ _ a3⟩
 obtain ⟨ss,ts,b1,b2,b3⟩:=sh 0 _ rfl (.inl rfl);rw [ds] at b3;have hsl:=sA _ _ nl.out;have b2:=sA _ _ b2;have b3:=sA _ _ b3;obtain ⟨x0,sb0,ts0,rfl,a1,a2,a3⟩:=one k0 (aj hk0);refine zp (SqL.of hsl) (zw (by rw [am,a1];rfl)) (zp (SqL.of a2) at0 ?_);have hyw:=sA _ _ hyw;have hw9:=hw9.same sA;clear sh dk ds sA nl nr;left;have t1:¬ jS δ L < 1:=λ z=>by
  have p1:=Int.mul_pos (show 0 < δ by lia) (show 0 < ratB δ L by have:=lw.b1;lia);have p3:=Int.mul_le_mul_of_nonneg_right (show jS δ L<=0 by lia) (show 0<=L by lia);rw [<- lw.v] at p1;rw [Int.zero_mul] at p3
  lia
 refine ⟨_,.inl ⟨_,SqL.of hq,rfl⟩,?_⟩;rw [zH,dl];refine zU (λ z=>absurd rfl z) (λ _=>nJ a3 at0 (zU (λ z=>absurd z t1) (λ _=>?_)));left;walk_at "e";exists ⟨q,rfl,.inl ⟨⟨_,SqL.of hq⟩,?_⟩⟩;let nC:Nat->St->Hp->Prop:=λ m σ H'=>∃ (v11:Aq),σ=[some (.ref l),some (.ref nj),some (.int n),some (.int p),some (.int mk),some (.ref ac2),some (.ref yw),some (.int far),some (.ref sl),some (.ref q),some (.ref ts0),v11]/\Same HA H';refine ql (K:=K) (a:=q) (xs:=iv (drs n)) nC ⟨_,rfl,Same.refl _⟩ (λ m σ H' _ h=>by obtain ⟨_,_,s⟩:=h;exact SqL.of (s _ _ hq)) ?_ ?_
 ·rintro m x σ HB hm ⟨v11,rfl,sB⟩;obtain ⟨k,hkm,rfl⟩:=wS hm;obtain ⟨x,sb,tb,rfl,c1,c2,c3⟩:=one k (aj hkm);exists zp (SqL.of (sB _ _ hsl)) (zw (by rw [am,c1];rfl)) λ q2 hq2=>?_;have s2:=sB.trans (zg (o:=.lst [.ref ts0]) hq2);refine zhq (n:=1) (by decide) (SqL.of (s2 _ _ c2)) (SqL.of nE) rfl (zft (s2 _ _ c3) (s2 _ _ a3)) ?_;left;exact ⟨_,rfl,s2⟩
 rintro σ HB ⟨v11,rfl,sB⟩;exists ⟨yw,a.o,dw,fws,_,_,_,rfl,sB _ _ hyw,no _ (by symm) (by symm),(jA T).mono,.ref yw,_,_,_,rfl,hw9.same sB,by lia,λ q3 HC sC _ hq3=>?_⟩;rw [Wm n8.1 n8.2] at hq3;have sD:=sB.trans sC;have b1:(as.map V.ref)[0]?=some (.ref ss):=by rw [am,b1];rfl
 refine zp (SqL.of hq3) at0 (zp (SqL.of (sD _ _ hsl)) (zw b1) (uc (XA T).mono (spTimes.i ts0 _ _ n rfl (sD _ _ a3) (by lia) lw.b1 (by lia) (λ r hr' q4 hq4=>?_))));obtain ⟨x1,x2⟩:=zeq (top:=jS δ L * n) (bottom:=ratB δ L) (top':=n * δ) (bottom':=L) (by have:=lw.b1;lia) (by lia) (by rw [cF (jS δ L),fX,lw.v,fX]);rw [x1,x2] at hq4 ⊢;have sE:=(sD.trans (zg (o:=.tup [.int (jS (n * δ) L),.int (ratB (n * δ) L)]) hr')).trans (zg (o:=.lst [.ref r]) hq4);exact zf4 (n:=1) (by decide) (SqL.of (sE _ _ b2)) (SqL.of nE) rfl (zft (sE _ _ b3) (nI nE hq4)) (k _)
theorem top_ok (T:Txt K mg a) (F:Fun K "law" "law" ZB f fd):FnOk P w K mg base (CXr P w) 10 f fd ["_law_script"] (VA K):=zhC T F
end
local macro_rules | `(tactic| walk_at "b")=>`(tactic| first|((repeat intro _);rfl))
def zfK:Nat->(List Value->Prop)->Prop
 | 0,P=>P []
 | n + 1,P=>∀ x,zfK n λ l=>P (x :: l)
def jQ:∀ {P:List Value->Prop},zfK n P->∀ us:List Value,us.length=n->P us:=by
 induction n with
 | zero =>
  intro P h us e;cases us with
  | nil=>exact h
  | cons=>cases e
 | succ n ih =>
  intro P h us e;cases us with
  | nil=>cases e
  | cons x r=>exact ih (h x) r (Nat.succ.inj e)
abbrev NNy (K:A0) (x:Str):Prop:=nsIn K mainGlobals x=some none
abbrev NRy (K:A0) (x:Str) (f:Addr):Prop:=nsIn K mainGlobals x=some (some (.ref f))
abbrev FHy (K:A0) (x:Str) (st:Stmt):Prop:=∃ (f:Addr) (oc:Am) (od an:Aa) (osl:Ae) (kV doc pm cdv ct:Am),nsIn K mainGlobals x=some (some (.ref f))/\K.lookup f=some ⟨oc,od,.func (fnOf x x (zP st) (zK st) (zc st) .none kV doc pm an cdv ct),osl⟩/\codeIn K cdv x=true/\keepIn K (.ref f)=true
def fhy {x:Str} {st:Stmt} {f:Addr} {oc:Am} {od an:Aa} {osl:Ae} {kV doc pm cdv ct:Am} (a:nsIn K mainGlobals x=some (some (.ref f))) (l:K.lookup f=some ⟨oc,od,.func (fnOf x x (zP st) (zK st) (zc st) .none kV doc pm an cdv ct),osl⟩) (c:codeIn K cdv x=true) (k:keepIn K (.ref f)=true):FHy K x st:=⟨_,_,_,_,_,_,_,_,_,_,a,l,c,k⟩
def qG {mg:A4} {h:Heap} {x:Str} {st:Stmt} (X:K.In h) (G:h.Ns mainGlobals mg) (y:FHy K x st) (hb:∀ (kV doc pm:Am) (an:Aa) (cdv ct:Am),zfK ps.length λ us=>bindArgs (fnOf x x (zP st) (zK st) (zc st) .none kV doc pm an cdv ct) ⟨us,[]⟩=pure (ps.zip us):=by walk_at "b"):FA K mg x st ps:=by
 obtain ⟨_,_,_,_,_,_,_,_,_,_,a,l,c,k⟩:=y;exact ziQ X G a l c k λ _ _ _ _ _ _=>jQ (hb _ _ _ _ _ _)
abbrev CHy (K:A0) (C:Addr):Prop:=plainGet K C Str.empty=true/\hasDictIn K C=true/\plainOver K C=true/\findIn K (.ref C) "__setattr__"=some (some (.builtin "object.__setattr__"))/\makesIn K C=true/\keepIn K (.ref C)=true/\findIn K (.ref C) "__class__"=some (some (.builtin "object.__class__"))/\mroIn K C (.type "object")=some true
def CHy.c (h:CHy K C):Cls K C:=⟨h.1,h.2.1,h.2.2.1,h.2.2.2.1⟩
def CHy.w (h:CHy K C) (g:specialIn K (.builtin "object.__class__") "__get__"=some (some (.builtin "getset_descriptor.__get__"))) (t:takesIn K (.builtin "object.__class__")=some true):WI K C:=⟨h.2.2.2.2.2.2.1,h.2.2.2.2.2.2.2,g,t⟩
abbrev MHy (K:A0) (C:Addr) (m q:Str) (st:Stmt):Prop:=∃ (f:Addr) (oc:Am) (od an:Aa) (osl:Ae) (kV doc pm cdv ct:Am),findIn K (.ref C) m=some (some (.ref f))/\isFn K (.ref f)=true/\K.lookup f=some ⟨oc,od,.func (fnOf m q (zP st) (zK st) (zc st) .none kV doc pm an cdv ct),osl⟩/\codeIn K cdv q=true/\keepIn K (.ref f)=true
def mhy {m q:Str} {st:Stmt} {f:Addr} {oc:Am} {od an:Aa} {osl:Ae} {kV doc pm cdv ct:Am} (a:findIn K (.ref C) m=some (some (.ref f))) (i:isFn K (.ref f)=true) (l:K.lookup f=some ⟨oc,od,.func (fnOf m q (zP st) (zK st) (zc st) .none kV doc pm an cdv ct),osl⟩) (c:codeIn K cdv q=true) (k:keepIn K (.ref f)=true):MHy K C m q st:=⟨_,_,_,_,_,_,_,_,_,_,a,i,l,c,k⟩
def vR {m q:Str} {st:Stmt} (y:MHy K C m q st) (hb:∀ (kV doc pm:Am) (an:Aa) (cdv ct:Am),zfK ps.length λ us=>bindArgs (fnOf m q (zP st) (zK st) (zc st) .none kV doc pm an cdv ct) ⟨us,[]⟩=pure (ps.zip us):=by walk_at "b"):FM K C m q st ps:=by
 obtain ⟨_,_,_,_,_,_,_,_,_,_,a,i,l,c,k⟩:=y;exact ziM a i l c k λ _ _ _ _ _ _=>jQ (hb _ _ _ _ _ _)
def zar {q:Str} {st:Stmt} (z:CHy K C) (y:MHy K C "__init__" q st) (hb:∀ (kV doc pm:Am) (an:Aa) (cdv ct:Am),zfK ps.length λ us=>bindArgs (fnOf "__init__" q (zP st) (zK st) (zc st) .none kV doc pm an cdv ct) ⟨us,[]⟩=pure (ps.zip us):=by walk_at "b"):FK K C q st ps:=by
 obtain ⟨_,_,_,_,_,_,_,_,_,_,a,i,l,c,k⟩:=y;exact ziN z.2.2.2.2.1 z.2.2.2.2.2.1 a i l c k λ _ _ _ _ _ _=>jQ (hb _ _ _ _ _ _)
theorem all_mk {l:PySem.W.OpenLaw} {w:World} {h:Heap} {mg:A4} {fa fL f14 ya f37 yb f38 yc yd ye yf yg yh yi yj yk yl ym yn yo yp yq yr yt yu:Addr} (X:K.In h) (G:h.Ns mainGlobals mg) (hfa:mg "law"=some (.ref fa))
  {yv yx yy yz yA yB odL anL yC yD:Aa} {yE yF yG slL yH:Ae} {yI yJ yK yL yM yN yO yP yQ yR yS yT yU yV yW yX yY yZ ocL kVL dcL pmL cdL ctL y8 y9 yaa yba yca yda:Am}
  {yea yfa yga:Am} {yha yia yja:Aa} {yka yla yma:Nat} {yna yoa ypa:Ae} {yqa yra ysa:Tok}
  {yta yua yva ywa yxa yya yza yAa yBa:Tok}
  (h1:FHy K "check_pace" wB)
  (h2:FHy K "check_kind" wC)
  (h3:FHy K "check_ways" wy)
  (h4:FHy K "first_place" xV)
  (h5:FHy K "place_for_ware" jF)
  (h6:FHy K "common" ZC)
  (h7:FHy K "ratio" Q3)
  (h8:FHy K "ratio_times" xU)
  (h9:FHy K "lasting" Qg)
  (h10:FHy K "check_size" wz)
  (h11:FHy K "check_each_once" ju)
  (h12:FHy K "ends_for" Zg)
  (h13:FHy K "grow_tree" vb)
  (a14:nsIn K mainGlobals "even_work"=some (some (.ref f14))) (l14:K.lookup f14=some ⟨yI,yv,.func (fnOf "even_work" "even_work" (zP qv) (zK qv) (zc qv) (.ref ya) yJ yK yL yx yM yN),yE⟩) (c14:codeIn K yM "even_work"=true) (k14:keepIn K (.ref f14)=true)
  (yCa:K.lookup ya=some ⟨yea,yha,.seq #[.int 2 yqa] yka,yna⟩)
  (h15:FHy K "kind_of" Qh)
  (h16:FHy K "no_counts" w9)
  (h17:FHy K "empty_state" jd)
  (h18:FHy K "copied_state" xp)
  (h19:FHy K "heads_of" xo)
  (h20:FHy K "taken_ware" wt)
  (h21:FHy K "belt_at" Qi)
  (h22:FHy K "counted_place" jX)
  (h23:FHy K "act" VO)
  (h24:FHy K "act_all" Qj)
  (h25:FHy K "move_belt" va)
  (h26:FHy K "pass_turn" xC)
  (h27:FHy K "one_turn" Zf)
  (h28:FHy K "played" Jx)
  (h29:FHy K "kinds_in" ww)
  (h30:FHy K "kind_place" wx)
  (h31:FHy K "shape_of" xn)
  (h32:FHy K "round_ends" wu)
  (h33:FHy K "growth_of" xD)
  (h34:FHy K "cells_by_ware" jY)
  (h35:FHy K "origin_of" w6)
  (h36:FHy K "origins_of" xb)
  (a37:nsIn K mainGlobals "leapt"=some (some (.ref f37))) (l37:K.lookup f37=some ⟨yO,yy,.func (fnOf "leapt" "leapt" (zP wv) (zK wv) (zc wv) (.ref yb) yP yQ yR yz yS yT),yF⟩) (c37:codeIn K yS "leapt"=true) (k37:keepIn K (.ref f37)=true)
  (yDa:K.lookup yb=some ⟨yfa,yia,.seq #[.int 200 yra] yla,yoa⟩)
  (a38:nsIn K mainGlobals "shares_of"=some (some (.ref f38))) (l38:K.lookup f38=some ⟨yU,yA,.func (fnOf "shares_of" "shares_of" (zP qF) (zK qF) (zc qF) (.ref yc) yV yW yX yB yY yZ),yG⟩) (c38:codeIn K yY "shares_of"=true) (k38:keepIn K (.ref f38)=true)
  (yEa:K.lookup yc=some ⟨yga,yja,.seq #[.int 200 ysa] yma,ypa⟩)
  (h39:FHy K "_law_cell" Jy)
  (h40:FHy K "_law_far" WF)
  (h41:FHy K "_law_wares" Qk)
  (h42:FHy K "_law_turn" vd)
  (aL:nsIn K mainGlobals "law"=some (some (.ref fL))) (lL:K.lookup fL=some ⟨ocL,odL,.func (fnOf "law" "law" (zP ZB) (zK ZB) (zc ZB) .none kVL dcL pmL anL cdL ctL),slL⟩) (cL:codeIn K cdL "law"=true) (kL:keepIn K (.ref fL)=true)
  (yFa:NNy K "len")
  (yGa:NNy K "range")
  (yHa:NNy K "list")
  (yIa:NNy K "abs")
  (yJa:NNy K "sorted")
  (yKa:NNy K "enumerate")
  (yLa:NNy K "isinstance")
  (yMa:NNy K "max")
  (yNa:NNy K "tuple")
  (yOa:NNy K "zip")
  (yPa:NNy K "all")
  (yQa:NNy K "set")
  (yRa:NNy K "min")
  (ySa:NNy K "sum")
  (yTa:NNy K "int")
  (yUa:NRy K "WorkError" yd)
  (yVa:NRy K "NoRatio" ye)
  (yWa:NRy K "BadBelt" yf)
  (yXa:NRy K "BadKnot" yg)
  (yYa:NRy K "BadWork" yh)
  (yZa:NRy K "TooLong" yi)
  (y0a:NRy K "BadPaces" yj)
  (y1a:NRy K "Belt" yk)
  (y2a:NRy K "Knot" yl)
  (y3a:NRy K "Source" ym)
  (y4a:NRy K "Drain" yn)
  (y5a:NRy K "Parter" yo)
  (y6a:NRy K "Joiner" yp)
  (y7a:NRy K "Work" yq)
  (y8a:NRy K "State" yr)
  (y9a:NRy K "Lap" yt)
  (yab:CHy K yk)
  (ybb:NoAttr K yk "room")
  (ycb:NoAttr K yk "pace")
  (ydb:MHy K yk "__init__" "Belt.__init__" xF)
  (yeb:findIn K (.ref yl) "__init__"=some (some (.ref yu))) (yfb:isFn K (.ref yu)=true) (ygb:K.lookup yu=some ⟨y8,yC,.func (fnOf "__init__" "Knot.__init__" (zP qR) (zK qR) (zc qR) .none y9 yaa yba yD yca yda),yH⟩) (yhb:codeIn K yca "Knot.__init__"=true) (yib:keepIn K (.ref yu)=true)
  (yjb:specialIn K (.ref yl) "__getattribute__"=some (some (.builtin "type.__getattribute__")))
  (ykb:readsIn K yl (.type "type")=true)
  (ylb:findCls K (.ref yl) (.type "type") "__init__"=some (.val (.ref yu)))
  (ymb:CHy K ym)
  (ynb:NoAttr K ym "pace")
  (yob:NoAttr K ym "kinds")
  (ypb:NoAttr K ym "ins")
  (yqb:NoAttr K ym "outs")
  (yrb:MHy K ym "__init__" "Source.__init__" jL)
  (ysb:MHy K ym "choice" "Source.choice" j5)
  (ytb:MHy K ym "copied" "Source.copied" jZ)
  (yub:CHy K yn)
  (yvb:NoAttr K yn "pace")
  (ywb:NoAttr K yn "ins")
  (yxb:NoAttr K yn "outs")
  (yyb:MHy K yn "__init__" "Drain.__init__" xf)
  (yzb:MHy K yn "choice" "Drain.choice" xt)
  (yAb:MHy K yn "copied" "Drain.copied" xr)
  (yBb:CHy K yo)
  (yCb:NoAttr K yo "ins")
  (yDb:NoAttr K yo "outs")
  (yEb:MHy K yo "__init__" "Parter.__init__" jM)
  (yFb:MHy K yo "choice" "Parter.choice" j7)
  (yGb:MHy K yo "copied" "Parter.copied" j6)
  (yHb:CHy K yp)
  (yIb:NoAttr K yp "ins")
  (yJb:NoAttr K yp "outs")
  (yKb:MHy K yp "__init__" "Joiner.__init__" jN)
  (yLb:MHy K yp "choice" "Joiner.choice" jh)
  (yMb:MHy K yp "copied" "Joiner.copied" j8)
  (yNb:CHy K yq)
  (yOb:NoAttr K yq "belts")
  (yPb:NoAttr K yq "knots")
  (yQb:MHy K yq "__init__" "Work.__init__" jq)
  (yRb:MHy K yq "drains" "Work.drains" jK)
  (ySb:MHy K yq "sources" "Work.sources" jv)
  (yTb:MHy K yq "beat" "Work.beat" xE)
  (yUb:CHy K yr)
  (yVb:NoAttr K yr "turn")
  (yWb:NoAttr K yr "cells")
  (yXb:NoAttr K yr "sides")
  (yYb:NoAttr K yr "gone")
  (yZb:MHy K yr "__init__" "State.__init__" qX)
  (y0b:CHy K yt)
  (y1b:NoAttr K yt "before")
  (y2b:NoAttr K yt "length")
  (y3b:NoAttr K yt "origins")
  (y4b:NoAttr K yt "growth")
  (y5b:MHy K yt "__init__" "Lap.__init__" wD)
  (y6b:MHy K yt "new_ware" "Lap.new_ware" xq)
  (y7b:MHy K yt "ware_after" "Lap.ware_after" jG)
  (y8b:MHy K yt "cells_after" "Lap.cells_after" qL)
  (y9b:MHy K yt "gone_after" "Lap.gone_after" qY)
  (yac:MHy K yt "state_after" "Lap.state_after" jw)
  (wgn:specialIn K (.builtin "object.__class__") "__get__"=some (some (.builtin "getset_descriptor.__get__"))) (wtk:takesIn K (.builtin "object.__class__")=some true)
  (ybc:nsIn K mainGlobals "MOST_ROOM"=some (some (.int 6 yta)))
  (ycc:nsIn K mainGlobals "MOST_PACE"=some (some (.int 4 yua)))
  (ydc:nsIn K mainGlobals "MOST_KINDS"=some (some (.int 6 yva)))
  (yec:nsIn K mainGlobals "FEWEST_WAYS"=some (some (.int 2 ywa)))
  (yfc:nsIn K mainGlobals "MOST_WAYS"=some (some (.int 4 yxa)))
  (ygc:nsIn K mainGlobals "MOST_BELTS"=some (some (.int 24 yya)))
  (yhc:nsIn K mainGlobals "MOST_KNOTS"=some (some (.int 24 yza)))
  (yic:nsIn K mainGlobals "MOST_EVEN_WAYS"=some (some (.int 8 yAa)))
  (yjc:nsIn K mainGlobals "LEAST_EVEN_PACE"=some (some (.int 2 yBa)))
  (ykc:excIn K yf bmV "ValueError.__new__"=true)
  (ylc:excIn K yg bmV "ValueError.__new__"=true)
  (ymc:excIn K ye bmV "ValueError.__new__"=true)
  (ync:excIn K yh bmV "ValueError.__new__"=true)
  (yoc:excIn K yi bmV "ValueError.__new__"=true)
  (ypc:KOy K ym yn false)
  (yqc:KOy K yn yn true)
  (yrc:KOy K yo yn false)
  (ysc:KOy K yp yn false)
  (ytc:KOy K ym ym true)
  (yuc:KOy K yn ym false)
  (yvc:KOy K yo ym false)
  (ywc:KOy K yp ym false)
  (yxc:KOy K ym yp false)
  (yyc:KOy K yn yp false)
  (yzc:KOy K yo yp false)
  (yAc:KOy K yp yp true)
  : ∃ fd:FuncData,(∀ (s:An) (v:Am),BindsTo s fd ⟨[v],[]⟩ [("_law_script",v)])/\∀ base:Heap,K.In base->base.Ns mainGlobals mg->FnOk l.prog w K mg base (CXr l.prog w) 10 fa fd ["_law_script"] (VA K):=by
 have e:=hfa.symm.trans (cH X G aL);cases e;have T:Txt K mg ⟨yd,ye,yf,yg,yh,yi,yj,yk,yl,ym,yn,yo,yp,yq,yr,yt⟩:={
  kZ:=qG X G h1
  k8:=qG X G h2
  k9:=qG X G h3
  kO:=qG X G h4
  iX:=qG X G h5
  mE:=qG X G h6
  mO:=qG X G h7
  kP:=qG X G h8
  mh:=qG X G h9
  lh:=qG X G h10
  iT:=qG X G h11
  l5:=qG X G h12
  lI:=qG X G h13
  lJ:=zfo (st:=qv) (ps:=["ways","kinds","pace"]) X G a14 l14 c14 k14 yCa (.cons ⟨_,rfl⟩ (.nil)) (λ s us hK hl=>by refine jQ (n:=3) (P:=λ z=>BindsTo s _ ⟨z,[]⟩ (List.zip ["ways","kinds","pace"] z)) ?_ us hl;intro _ _ _;exact gR hK rfl yCa rfl rfl rfl) (λ s us hK hl=>by refine jQ (n:=2) (P:=λ z=>BindsTo s _ ⟨z,[]⟩ (List.zip ["ways","kinds","pace"] (z ++ _))) ?_ us (by simp at hl;lia);intro _ _;exact gR hK rfl yCa rfl rfl rfl)
  mi:=qG X G h15
  lK:=qG X G h16
  kR:=qG X G h17
  kF:=qG X G h18
  l7:=qG X G h19
  lj:=qG X G h20
  mj:=qG X G h21
  kh:=qG X G h22
  mY:=qG X G h23
  ml:=qG X G h24
  lM:=qG X G h25
  lO:=qG X G h26
  l8:=qG X G h27
  mF:=qG X G h28
  l9:=qG X G h29
  ly:=qG X G h30
  ma:=qG X G h31
  lz:=qG X G h32
  lP:=qG X G h33
  ki:=qG X G h34
  lQ:=qG X G h35
  lA:=qG X G h36
  mP:=zfo (st:=wv) (ps:=["work","turns","limit"]) X G a37 l37 c37 k37 yDa (.cons ⟨_,rfl⟩ (.nil)) (λ s us hK hl=>by refine jQ (n:=3) (P:=λ z=>BindsTo s _ ⟨z,[]⟩ (List.zip ["work","turns","limit"] z)) ?_ us hl;intro _ _ _;exact gR hK rfl yDa rfl rfl rfl) (λ s us hK hl=>by refine jQ (n:=2) (P:=λ z=>BindsTo s _ ⟨z,[]⟩ (List.zip ["work","turns","limit"] (z ++ _))) ?_ us (by simp at hl;lia);intro _ _;exact gR hK rfl yDa rfl rfl rfl)
  lR:=zfo (st:=qF) (ps:=["work","limit"]) X G a38 l38 c38 k38 yEa (.cons ⟨_,rfl⟩ (.nil)) (λ s us hK hl=>by refine jQ (n:=2) (P:=λ z=>BindsTo s _ ⟨z,[]⟩ (List.zip ["work","limit"] z)) ?_ us hl;intro _ _;exact gR hK rfl yEa rfl rfl rfl) (λ s us hK hl=>by refine jQ (n:=1) (P:=λ z=>BindsTo s _ ⟨z,[]⟩ (List.zip ["work","limit"] (z ++ _))) ?_ us (by simp at hl;lia);intro _;exact gR hK rfl yEa rfl rfl rfl)
  mG:=qG X G h39
  mQ:=qG X G h40
  mq:=qG X G h41
  mH:=qG X G h42
  iH:=bM X G yFa
  kG:=bM X G yGa
  mI:=bM X G yHa
  kN:=bM X G yIa
  lX:=bM X G yJa
  kD:=bM X G yKa
  iY:=bM X G yLa
  mz:=bM X G yMa
  me:=bM X G yNa
  mT:=bM X G yOa
  mU:=bM X G yPa
  mB:=bM X G yQa
  mC:=bM X G yRa
  mD:=bM X G ySa
  mV:=bM X G yTa
  kj:=cH X G yVa
  mr:=cH X G yWa
  iP:=cH X G yXa
  lB:=cH X G yYa
  mt:=cH X G yZa
  mW:=cH X G y1a
  lY:=cH X G y3a
  mf:=cH X G y4a
  mJ:=cH X G y5a
  lZ:=cH X G y6a
  mX:=cH X G y7a
  mR:=cH X G y8a
  mZ:=cH X G y9a
  iQ:=yab.c
  iM:=ybb
  iG:=ycb
  lS:=zar yab ydb
  iu:=ziO (st:=qR) (ps:=["self","ins","outs"]) (cH X G y2a) yjb ykb ylb ygb yhb yib (λ _ _ _ _ _ _=>jQ (by walk_at "b"))
  ir:=ymb.c
  iy:=ynb
  iw:=yob
  iZ:=ypb
  iI:=yqb
  mK:=ymb.w wgn wtk
  kS:=zar ymb yrb
  km:=vR ysb
  ko:=vR ytb
  iA:=yub.c
  ix:=yvb
  iN:=ywb
  i0:=yxb
  mS:=yub.w wgn wtk
  lC:=zar yub yyb
  kH:=vR yzb
  kI:=vR yAb
  iB:=yBb.c
  iK:=yCb
  iz:=yDb
  mL:=yBb.w wgn wtk
  kT:=zar yBb yEb
  kq:=vR yFb
  kr:=vR yGb
  iC:=yHb.c
  iD:=yIb
  iJ:=yJb
  mM:=yHb.w wgn wtk
  kU:=zar yHb yKb
  ku:=vR yLb
  kx:=vR yMb
  ik:=yNb.c
  iE:=yOb
  ii:=yPb
  lT:=zar yNb yQb
  kX:=vR yRb
  kJ:=vR ySb
  lU:=vR yTb
  ad:=yUb.c
  ie:=yVb
  ic:=yWb
  ip:=yXb
  ig:=yYb
  lD:=zar yUb yZb
  ij:=y0b.c
  io:=y1b
  iF:=y2b
  iS:=y3b
  iL:=y4b
  md:=zar y0b y5b
  kK:=vR y6b
  i5:=vR y7b
  iU:=vR y8b
  i6:=vR y9b
  iV:=vR yac
  lV:=⟨_,cH X G ybc⟩
  iO:=⟨_,cH X G ycc⟩
  lE:=⟨_,cH X G ydc⟩
  kY:=⟨_,cH X G yec⟩
  lW:=⟨_,cH X G yfc⟩
  lF:=⟨_,cH X G ygc⟩
  lG:=⟨_,cH X G yhc⟩
  i7:=⟨_,cH X G yic⟩
  iW:=⟨_,cH X G yjc⟩
  mv:=⟨ykc⟩
  iR:=⟨ylc⟩
  mw:=⟨ymc⟩
  lH:=⟨ync⟩
  my:=⟨yoc⟩
  ky:=ypc
  kM:=yqc
  kz:=yrc
  kA:=ysc
  i8:=ytc
  kB:=yuc
  i9:=yvc
  ka:=ywc
  kb:=yxc
  kC:=yyc
  ke:=yzc
  kg:=yAc
 }
 exact ⟨_,λ s v=>.of_eq rfl,λ base _ _=>top_ok T (wJ (st:=ZB) lL cL kL)⟩
def walk {l:PySem.W.OpenLaw} {q:Af} {loose:A8} {XP:(Str->Option Value)->Heap->Prop} {YP:World->Heap->Prop} {d:DefRec} {K:Params->PySem.W.Frag} (hn:l.most=some 63) (hdf:d.params.defaults=[])
  (hY:∀ (w:World) (h:Heap),YP w h->(K w.params).In h)
  (F:∀ (w:World) (mg:A4) (fa:Addr) (h:Heap),(K w.params).In h->h.Ns mainGlobals mg->mg d.name=some (.ref fa) ->
   ∃ fd:FuncData,(∀ (s:An) (u:Am),BindsTo s fd ⟨[u],[]⟩ [("_law_script",u)])/\∀ base:Heap,(K w.params).In base->base.Ns mainGlobals mg->FnOk l.prog w (K w.params) mg base (CXr l.prog w) 10 fa fd ["_law_script"] (VA (K w.params))) :
  PySem.W.WalkO q loose XP YP l.row.toRowW d [] (λ f vs=>PySem.call f vs) :=
 L2.walk_of (n:=63) (k:=10) (x:="_law_script") (CX:=λ w=>CXr l.prog w) (sp:=λ w=>VA (K w.params)) hn (by decide) hdf ⟨rfl,by decide,by decide⟩ hY F (λ _ _ a ns hl _ hS=>⟨a,ns,rfl,hS,hl,λ _=>rfl⟩) λ _ _ _ _ _ z=>zdH z
end K44
set_option Elab.async false
structure PySem.W.Fast:Prop where(tw2331685751002976959 tw11940168490635416234 tw17600856491319120826 tw13480812028478896126 tw670712055689127672 tw951526129023783375 tw13132583941370180568 tw5446485633501676779 tw113832548549503855 tw16145993772405241987 tw3661529920173534513 tw12689393661357282282 tw4615073400980068890 tw18254556472959438310 tw18436257492536724294 tw7388941220458302026 tw14342158724382945633 tw18015328057802709099 tw8672731773720539651 tw10599294912623724574 tw5072759564472766991 tw11635685492697424864 tw14736154059766958152 tw3867311659974302863 tw1732741964952987791 tw15911237842736898187 tw3188683734624490425 tw10975819522486946003 tw12325790510944145498 tw3467310722225323576 tw4695204720181237134 tw5846450625059617296 tw8046934873586471006 tw315439677772700761 tw3348942438836797846 tw14773869427016152567 tw10665157638214621821 tw10425533563520785442 tw4757457537099110430 tw16579219875160122750 tw3323806738020847366 tw13621438187266612467 tw6346224165367022640 tw12906912420631680388 tw9101616581515335481 tw6646874853632895733 tw3653702787148881963 tw6539403427759162511 tw14021323286061413261 tw11436938354889939300 tw12400938655172234437 tw13432742733457091255 tw17613042072671106417 tw16440687202635318655 tw3722180216943855684 tw14989996336264694669 tw13146578974674485778 tw9956713799839210424 tw9989173585406068124 tw1126951907659500480 tw5916539307295918885 tw11173053231697855359 tw2513727625051901035 tw11151260607781789868 tw353291363710666737 tw7165548185463834294 tw1136832352580459432 tw10382131938033585412 tw2525340370225796755 tw15018399245609348363 tw7102376789930915604 tw4439242299067773967 tw6484406694217800841 tw11822534509772715523 tw8082468434916551626 tw1406160011262692810 tw13845214090797266999 tw196328528811285102 tw8129857345071798050 tw7229452445217831216 tw6157247194802711366 tw16731886064815414147 tw7130031102031238333 tw17258239487474749560 tw12819163050701948505 tw8324422077320207466 tw9293741528276138020 tw14151698580568473702 tw15989531699145912258 tw6022957335437895098 tw15413012687894699139 tw2487936156267477204 tw17813114593725756330 tw10665670346982581548 tw6867081162587905555 tw13375571406296745945 tw12739340864827722171 tw18351490357314603505 tw3716591554833519805 tw5363544566257515850 tw8059007071497520788 tw11024706072941548069 tw481403933832239997 tw7719799525221322540 tw13734821162549638337 tw9128270622298289511 tw123536879588076419 tw3771035957737727253 tw387931642670350543 tw8925227550198610966 tw17426332492685945448 tw17822455859278318262 tw4703110077715337473 tw17977344049459785968 tw12405470925993274233 tw1713478209086577432 tw3978610541218537660 tw13376764549414378106 tw11160790650456483785 tw13726842307723618922 tw9741617083879925760 tw1939657744023426492 tw2254483805211960284 tw15063243235947396979 tw17402899049294832275 tw3349182979464978588 tw2476345543169325720 tw2275148596284550483 tw11512580672156640528 tw17545800830893157445 tw13605883369668804772 tw13722209468729909247 tw12649330932858778113 tw17175601900982752567 tw10004797849366341278 tw2838858943129656762 tw12359989702799700346 tw13371317486733177788 tw15523755926667985870 tw17641989859577249711 tw15297709925820525240 tw12985768509375016723 tw4702760028031894730 tw9725556882899263349 tw10879075851569031197 tw10534560456501206615 tw12045980757826580210 tw17722843985798406044 tw4058557792291465851 tw7637964759571890778 tw10533472745075719781 tw3546607467775406865 tw8349681512472744152 tw12564902202838702797 tw14136090270980794306 tw11750391697613726970 tw12559504969645091790 tw2953342123828374795 tw12402925906037768897 tw1481996743648104368 tw2448898028477989750 tw3212849825285088873 tw2295746595933238669 tw9344222781483004945 tw3260589033801419649 tw14683137931734077087 tw3997572729136431428 tw16328629161953386064 tw12163488787509725970 tw14886270599718727176 tw3806925060130141226 tw1597410408277938722 tw3588118167429266227 tw9905870753927924026 tw1544742820363300129 tw13004951747607988503 tw2873621553733668359 tw11419505656056761018 tw7984503659320471079 tw7670674327998628179 tw9544795706877628787 tw10464242943268071290 tw18388860938878703177 tw13159277833058408371 tw12907479919762895896 tw1969860400943189418 tw10430317649667907953 tw5269223661060859024 tw8855203236661071968 tw15744978439254358675 tw2590358536346426017 tw2280143135351351461 tw95158669096925163 tw703534770228123878 tw4001143152469335020 tw17061907057436223107 tw2248033297346251274 tw11301993540832997958 tw11500004707640942915 tw5554840843530109982 tw11898144674615371813 tw2680859707047250476 tw10720025082935002148 tw12896648157468316083 tw8909331909289272553 tw2245222532365575346 tw13258438403974775013 tw438383826325444726 tw13219471804072913254 tw160903934295366006 tw10791580063816913965 tw3440798638876927482 tw10198246548243128074 tw9354993831228673962 tw2768452273835737095 tw4994206273500191553 tw952479717378271836 tw7634237514356178201 tw7740046116109569757 tw14900253909872932830 tw5105207961461289075 tw7123694831449404464 tw11945360705942234250 tw4190033693130440388 tw284769242154784381 tw16727675451763974293 tw769434187618383957 tw10819923958340273369 tw7076254865842277456 tw10593732229323360155 tw3363247307929527312 tw1407017442526867343 tw2928713091196471454 tw13158434048866290540 tw9952767863189546958 tw796906152253210163 tw6868101171345061156 tw16061473382755860718 tw2783524658173887743 tw16203330302044134531 tw15213470839807412557 tw5069734539948428003 tw12870549863149776889 tw15403721141503323259 tw1240787835158919849 tw2435273085431161919 tw18182997269819421628 tw3416178171488569964 tw255958545697187698 tw12411033863092027810 tw1213878401683740115 tw14113962252656219966 tw307368456736772716 tw5346270912094675324 tw13060536795999836815 tw794895739918528040 tw3824494714659620877 tw14961525313168663562 tw851875859423080885 tw12663032169658455271 tw13852999787341169574 tw16935765178238535371 tw16552572488215780772 tw18006615748626822759 tw1622138423370519571 tw11600049820533447497 tw7340603877742170050 tw17488028059489696317 tw13916691334816699748 tw17911608633878591958 tw11793666743616799345 tw12344624847737661790 tw4867109260348364031 tw8273908452568155694 tw10360599055709022238 tw9052432659033136518 tw4669840080720766446 tw4023462942164351033 tw13403047793819605579 tw5889749108901192470 tw7878966141618393956 tw10919208922389214022 tw14177347782681525152 tw11693390568917070213 tw2295767712958824440 tw11196677671996196906 tw14203129875702562951 tw15558636450991998687 tw10556123631913975188 tw10999544891271240284 tw238966323932161980 tw11946950564234253365 tw15809243963510454131 tw14227404923831502868 tw14594921767758441227 tw12477850828751419611 tw13509514836592956869 tw11922262608757386391 tw3201652730117767478 tw15009209918171024243 tw15799409348848772730 tw10385315565170542540 tw15861450102712612117 tw2038870102824169601 tw17649435981053195275 tw10912798548905855760 tw2686735306169168462 tw3048997025914788618 tw6661605474713636367 tw17009724980419864969 tw3965227082007153026 tw14582968616135973229 tw4961814128704055921 tw16879306037004825271 tw14009429631709831117 tw1223760566201278811 tw12120315160402230642 tw422695315325419236 tw11482945041517199628 tw7636780467587873657 tw14642027212160859946 tw16175592023028323141 tw13192642907303979817 tw7458234376255791554 tw8915931001474748118 tw18158982927179714604 tw1619473348583421920 tw2832242657485243170 tw7837657314098699410 tw12697094310415844571 tw4791129754083084636 tw17664372134007809335 tw3311876734770809822 tw9126629596468182136 tw16324786783612325470 tw4526873741798609960 tw14714524477697988799 tw7286979643459800251 tw1561968416349054095 tw2581687500236207587 tw13671721206746435950 tw5372611251254146825 tw7094516327768876872 tw9731019279745290463 tw943017312869304696 tw11203111851775748909 tw5881714912454065549 tw13134244008054195942 tw16241616818561499416 tw18318461399109661116 tw1767789620178053629 tw16266268794335191214 tw7380487467441269246 tw11772082197660575897 tw4572147053739106121 tw16749674409741254638 tw14543969368117087364 tw8719309229785547458 tw15588944332398154623 tw8550783183871050712 tw11324902605312990172 tw4879779702408530407 tw4506351895919868069 tw12330503676148193432 tw5506218817617202340 tw16200438123610750817 tw969107923976883977 tw8429911983507563669 tw3782308706908305004 tw2284665149758658937 tw9680690345546884652 tw6905390530304469090 tw10363053270068030350 tw9090042288533578773 tw16487753225143987524 tw589103870809608460 tw11462545522483427940 tw11710250583182008518 tw9340659890240150657 tw16964976138725430726 tw13340329981989609093 tw7843335979525478223 tw3783253871537159274 tw13056489931341593688 tw18130075595317340811 tw4570077543751076535 tw565888983849264904 tw17889436206679521819 tw16589158802195093860 tw16705065224412330350 tw9839530511730100405 tw10624977856740470997 tw6878282309732425552 tw12331118891797473488 tw17588949629822376078 tw8100854463113784065 tw14916780964186520263 tw9244535224579558761 tw14624579065021029198 tw7382190700569727651 tw360643803532538771 tw10423905741823804354 tw6841926151310483795 tw15958805585974971956 tw13343862785741970308 tw1129734017656118335 tw17754841542499955860 tw13334829163929804608 tw16451900868652114231 tw17263853787831981717:True)
open PySem PySem.W PyProof.Rows
set_option maxRecDepth 100000 in
set_option maxHeartbeats 0 in
theorem PySem.Challenge.cw_beltshares_k44_whole_made_works_are_even_holds : PySem.Challenge.rw_beltshares_k44_whole_made_works_are_even.Holds := by
 w_on;o_law;k_head;(case hw=>w_witness2)
 k_fill
 refine K44.walk (l:=PySem.Challenge.rw_beltshares_k44_whole_made_works_are_even) rfl rfl (λ w h Y=>PySem.W.kIn_of Y) ?F
 case F =>
  intro w mg fa h KX G hmg;refine' K44.all_mk KX G hmg ..
  all_goals try first|(refine' K44.fhy ?a ?l ?c ?k;(case a=>k_is);(case l=>k_is);(case c=>k_is);(case k=>k_is))|(refine' K44.mhy ?a ?i ?l ?c ?k;(case a=>k_is);(case i=>k_is);(case l=>k_is);(case c=>k_is);(case k=>k_is))|(refine ⟨?_,?_,?_,?_,?_,?_,?_,?_⟩ <;> k_is)|k_is|(show nsIn _ _ _=_;k_is)|(show findIn _ _ _=_;k_is)|(show kitOne _ _ _=_;kit_is)|k_exc
