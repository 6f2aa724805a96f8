import PyProof.Rows.All
import Wide.All
import OpenK.AllK
import Wide.FinOn
import Lean
import PyProof.EqAt
import PyProof.EqKinds
import PyProof.TupleCall
import PyProof.NeKinds
import PyProof.SumWalkG
import PyProof.Rows.CallKwBuiltin
import PyProof.Rows.FStr
import PyProof.ListRange
import PyProof.ZipIter
import PyProof.CompFree
import KE.KIntText
import PyProof.StrWalks
import PyProof.Rows.StrMul
import PyProof.ConsumeWalk
import Wide.Txt
import PySem.Challenge.RW_beltshares_k47_whole_queues_for_ever
open PySem.W (instObj methodObj lookIn plainGet hasDictIn findIn handedIn plainGet_of isFn plainOver takerIn any_some makesIn typeIn emptyDict looks_findIn keepIn specialIn takesIn mroIn fnOf codeIn callWith_K methodCall_KW kitOne excIn kitCls subIn nsIn mg_of readsIn findCls mg_none_of)
set_option Elab.async false
set_option linter.all false
set_option maxRecDepth 100000
set_option compiler.extract_closed false
set_option bootstrap.genMatcherCode false
set_option hygiene false
local macro_rules | `(tactic| walk_at "p")=>`(tactic| first|exact Or.inl rfl|exact Or.inr rfl|assumption)
local macro_rules | `(tactic| walk_at "q")=>`(tactic| first|exact L2.nobehind _ (by decide) (by decide)|rfl)
set_option hygiene true
open List (nodup_append of_mem_zip range_succ nodup_nil all_cons map_nil)
def aa:=@List.getElem?_eq_some_iff
def ac:=@List.getElem?_eq_getElem
def ae:=@List.getD_eq_getElem?_getD
def af:=@List.mem_of_getElem?
def ah:=@List.length_map
def ai:=@PySem.wpAny_bind
def aj:=@PySem.Heap.get?_push_of_some
def ak:=@List.getElem?_map
def am:=@Option.map_eq_some_iff
def ao:=@if_neg
def ap:=@if_pos
def aq:=@PySem.F.plainAttrs_list
def ar:=@List.mem_cons
def au:=@Nat.le_refl
def av:=@List.size_toArray
def aw:=@List.mem_singleton
def ax:=@Int.toNat_natCast
def ay:=@PySem.F.type_list_append
def az:=@PySem.F.slot_list_append
def aA:=@PySem.Heap.lt_size
def aB:=@PySem.Heap.get?_push_size
def aC:=@Bool.false_ne_true
def aD:=@List.mem_cons_of_mem
def aE:=@List.mem_append
def aF:=@List.length_append
def aG:=@PySem.wpAny_pure
def aH:=@List.take_add_one
def aI:=@Option.some.inj
def aJ:=@List.length_take
def aK:=@Nat.lt_of_lt_of_le
def aM:=@List.take_length
def aN:=@List.getElem?_append_right
def aO:=@List.mem_map
def aP:=@List.getElem?_set_self
def aQ:=@List.getElem?_append_left
def aR:=@Nat.ne_of_lt
def aS:=@PySem.wpAny_mono
def aT:=@Option.getD_some
def aU:=@List.mem_append_right
def aV:=@List.map_append
def aW:=@beq_eq_false_iff_ne
def aX:=@List.length_cons
def aY:=@List.mem_cons_self
def aZ:=@Nat.le_trans
def a7:=@Ne.symm
def a8:=@decide_eq_false
def a9:=@List.not_mem_nil
def ba:=@List.getElem?_set_ne
def bb:=@PyProof.Rows.callWith_type1
def bc:=@List.Perm.refl
def bd:=@List.length_replicate
def be:=@PySem.Heap.get?_update_other
def bg:=@decide_eq_true
def bh:=@congrArg
def bj:=@PySem.wpAny_field
def bn:=@Option.bind_eq_some_iff
def bp:=@List.mem_append_left
def br:=@List.length_set
def bt:=@PySem.wpAny_Call_Name_kw
def bu:=@PySem.Obj.data_mapFields
def bw:=@Array.getElem?_eq_some_iff
def bx:=@List.getElem?_of_mem
def bz:=@or_false
def bA:=@Nat.zero_le
def bB:=@of_decide_eq_true
def bD:=@beq_iff_eq
def bE:=@List.map_cons
def bF:=@List.getLastD_eq_getLast?
def bH:=@PySem.mem_of_lookup
def bI:=@Int.toNat_of_nonneg
def bJ:=@List.take_zero
def bK:=@List.take_of_length_le
def bL:=@Int.natAbs_natCast
def bM:=@PySem.wpAny_seqItems
def bN:=@Int.le_refl
def bO:=@PySem.Heap.get?_update_self
def bP:=@PySem.W.mg_none_of
def bQ:=@Array.length_toList
def bR:=@PySem.wpAny_truthy_bool
def bS:=@List.all_eq_true
def bT:=@List.append_nil
def bU:=@Nat.le_of_lt
def bV:=@Int.emod_lt_of_pos
def bW:=@List.getElem?_eq_none
def bX:=@Int.emod_nonneg
def bY:=@PySem.Heap.size_push
def bZ:=@List.Perm.append_left
def b5:=@PySem.wpAny_setField_rec
def b6:=@PySem.W.mg_of
def b7:=@PySem.wpAny_passesOwn
def b8:=@PySem.Obj.isFreed_of_fields
def b9:=@Bool.and_eq_true
def cc:=@List.getElem?_eq_none_iff
def cf:=@List.length_reverse
def cg:=@Nat.lt_irrefl
def ci:=@PySem.F.slot_tuple_iterator_next
def cj:=@List.append_assoc
def ck:=@Option.map_some
def cm:=@List.mem_filter
def cn:=@List.mem_replicate
def cr:=@Int.natCast_nonneg
def cu:=@List.set_eq_of_length_le
def cv:=@List.map_set
def cx:=@if_false
def cy:=@PySem.F.plainAttrs_str
def cz:=@PySem.Paired.length
def cA:=@List.mem_range
def cB:=@Bool.and_false
def cC:=@PySem.wpAny_execs_nil
def cD:=@List.length_nil
def cE:=@List.lookup_cons
def cF:=@List.getElem_mem
def cG:=@PySem.SeqAt.EqAt.of_refs
def cH:=@PySem.wpAny_callSpecial?_slot
def cI:=@Int.natAbs_dvd_natAbs
def cJ:=@Array.getElem?_toList
def cK:=@List.replicate_succ
def cM:=@List.cons.inj
def cO:=@PySem.SeqAt.RcAt.tuples
def cP:=@Nat.le_succ
def cQ:=@List.exists_cons_of_ne_nil
def cR:=@List.find?_cons
def cS:=@PySem.codeAny_handlers_test
def cT:=@PySem.call_meets
def cU:=@Int.le_of_lt
def cV:=@Option.toList_some
def cW:=@Nat.lt_of_le_of_lt
def cX:=@List.pairwise_cons
def cY:=@Int.lt_of_lt_of_le
def cZ:=@Int.lt_of_le_of_lt
def c7:=@Bool.false_eq_true
def c8:=@Classical.byContradiction
def c9:=@PySem.wpAny_handleBy_cons
def da:=@decide_eq_true_eq
def db:=@Option.some.injEq
def dc:=@Option.isSome_map
def de:=@Function.comp_def
def dg:=@PySem.codeAny_mono
def dh:=@List.getElem?_replicate
def di:=@PySem.wpAny_setField
def dj:=@Nat.le_add_right
def dm:=@List.mem_flatMap
def dn:=@List.length_eq_zero_iff
def dq:=@List.length_drop
def dr:=@PySem.W.callWith_K
def du:=@Nat.ne_of_gt
def dA:=@Nat.mod_lt
def dB:=@Int.zero_add
def dC:=@PySem.wpAny_newObj_type
def dD:=@List.nodup_cons
def dE:=@Bool.eq_iff_iff
def dF:=@PySem.F.type_list_pop
def dG:=@PySem.F.slot_list_pop
def dH:=@PySem.wpAny_call_entry
def dI:=@PySem.W.methodCall_KW
def dJ:=@List.map_map
def dL:=@if_true
def dM:=@List.flatten_cons
def dN:=@ne_true_of_eq_false
def dO:=@PySem.codeAny_handlers_suite
def dP:=@List.length_pos_iff
def dR:=@PySem.SeqAt.EqAt.same
def dS:=@PySem.F.slot_zip_next
def dU:=@List.mem_filterMap
def dW:=@List.drop_eq_getElem_cons
def dX:=@PySem.wpAny_updateSeq_pair
def dY:=@Nat.succ_mul
def dZ:=@Nat.lt_trichotomy
def d5:=@Int.sub_self
def d6:=@Int.add_zero
def d7:=@Int.add_emod
def d8:=@Option.getD_none
def d9:=@Nat.lt_succ_self
def ee:=@Int.natCast_emod
def ef:=@PySem.wpAny_onRaise
def eu:=@PySem.wpAny_holding
def eB:=@List.take_append_of_le_length
def eC:=@PySem.typeIs_str
def eD:=@PySem.tupleKind_room_in1
def eE:=@Nat.not_lt_zero
def eI:=@Nat.min_le_left
def eJ:=@PySem.F.args_str_split_2
def eK:=@Nat.isDigit_of_mem_toDigits
def eM:=@PySem.wpAny_pyIter_list
def eR:=@Option.map_map
def eT:=@Int.fdiv_eq_ediv_of_nonneg
def eU:=@PySem.F.entry_str_split
def eV:=@List.take_append_drop
def eX:=@List.set_append_right
def eY:=@List.perm_append_comm
def eZ:=@List.length_singleton
def e6:=@List.getElem?_reverse
def fe:=@PySem.F.slot_dict_getitem
def ff:=@List.ne_nil_of_length_pos
def fg:=@List.getLast?_eq_getElem?
def fh:=@Array.getElem?_eq_getElem
def fj:=@PySem.wpAny_execs_cons
def fo:=@List.cons_append
def fq:=@PySem.SeqAt.RcAt.lists
def ft:=@PySem.F.type_list_extend
def fu:=@PySem.F.slot_list_extend
def fv:=@PyProof.Rows.digit_range
def fz:=@Option.isSome_iff_exists
def fA:=@PySem.F.slot_str_split
def fB:=@Bool.not_true
def fC:=@Bool.and_true
def fD:=@PySem.Around.in1_units
def fE:=@PySem.sizeLine_eq
def fF:=@PySem.seqIndex_of
def fG:=@Int.eq_ofNat_of_zero_le
def fH:=@PySem.W.cellsFrom_some
def fI:=@PySem.F.type_str_split
def fJ:=@PyProof.noPylong_small
def fK:=@Nat.sub_self
def fM:=@Nat.min_self
def fN:=@Nat.lt_or_ge
def fO:=@List.Perm.append_right
def fP:=@Int.lt_trans
def fQ:=@PySem.F.args_tuple_iterator_next_1
def fR:=@List.forIn_cons
def fS:=@List.flatMap_append
def fT:=@List.filterMap_cons
def fU:=@List.any_cons
def fV:=@PySem.W.KIN.signs_num
def fW:=@PySem.F.type_str_join
def fX:=@PySem.F.slot_str_join
def fY:=@List.getElem?_zipWith
def fZ:=@PySem.F.entry_tuple_iterator_next
def gb:=@PySem.wpAny_call
def gc:=@Int.emod_emod_of_dvd
def gd:=@Decidable.of_not_not
def gf:=@PySem.Calls.Name_function_global
def gg:=@PySem.intBits_le_64
def gi:=@PySem.W.pyHash_slot
def gj:=@PySem.W.looks_subIn
def gk:=@PySem.W.callWith_K0
def gm:=@Nat.add_le_add_left
def gu:=@List.toList_toArray
def gx:=@List.map_congr_left
def gy:=@List.length_zipWith
def gz:=@List.getElem?_range
def gA:=@PySem.wpAny_standAt
def gC:=@PySem.wpAny_comprehension_free
def gD:=@PySem.wpAny_attempt
def gF:=@List.take_succ
def gG:=@PySem.W.any_some
def gH:=@PySem.SeqAt.RcAt.lists_lengths
def gI:=@Array.forIn_toList
def gJ:=@Array.append_assoc
abbrev A0:=PySem.W.Frag
abbrev A1:=List (Int × Int)
abbrev A2:=List (PySem.Addr × PySem.Obj)
abbrev A3:=PySem.Value->PySem.Shared->Prop
abbrev A4:=PySem.Str->Option PySem.Value
abbrev A5:=PySem.Addr->Prop
abbrev A6:=List Int
abbrev A7:=List PySem.Value
abbrev A8:=List PySem.Str
abbrev A9:=Option Int
abbrev Aa:=Option PySem.Addr
abbrev Ab:=List PySem.Addr
abbrev Ac:=Array PySem.Value
abbrev Ae:=Array (Option PySem.Value)
abbrev Af:=PySem.Program
abbrev Ag:=Unit->PySem.Shared->Prop
abbrev Ah:=Int × Int->Int × Int->Prop
abbrev Ai:=List Bool
abbrev Aj:=List Nat
abbrev Ak:=Option Nat × Option Nat × Nat
abbrev Al:=PySem.Value->PySem.Value->PySem.Sem PySem.Value
abbrev Am:=PySem.Value
abbrev An:=PySem.Shared
abbrev Ao:=PySem.Around
namespace L2
open PySem PySem.Spec PyProof.Rows
variable {A:Ao} {s:An} {K:A0} {o6:A2} {w:World} {P:Af} {x:Str} {E Q:A3} {u:Am} {us:A7} {k t' i:Nat} {b C:Addr} {M:Model} {mg:A4} {base:Heap} {pos:Pos} {op:CmpOp} {f:Al} {tg:Expr} {fd:FuncData}
abbrev Key:=Sum Int Str
noncomputable def WP:Key->Value->Bool
 | .inl k,v=>Value.isInt k v
 | .inr x,v=>Value.isStrOf x v
noncomputable def zjZ (w:World):Key->Int
 | .inl k=>hashInt k
 | .inr x=>hashStr w x
theorem qJ:∀ {k:Key} {v:Am},WP k v=true->(∃ i t,k=Sum.inl i/\v=Value.int i t)\/(∃ x t,k=Sum.inr x/\v=Value.str x t)
 | .inl i,v,h=>by
  obtain ⟨t,e⟩:=Value.isInt_shape (k:=i) (v:=v) h;exact .inl ⟨i,t,rfl,e⟩
 | .inr x,v,h=>by
  obtain ⟨t,e⟩:=Value.isStrOf_shape (x:=x) (v:=v) h;exact .inr ⟨x,t,rfl,e⟩
def zej (i:Int) (t:Tok):WP (.inl i) (.int i t)=true:=by simp [WP,Value.isInt]
def zei (x:Str) (t:Tok):WP (.inr x) (.str x t)=true:=by simp [WP,Value.isStrOf]
def zix (a b:Int):decide ((Sum.inl a:Key)=Sum.inl b)=(a == b):=by
 by_cases e:a=b
 ·subst e;simp
 ·have h:¬ (Sum.inl a:Key)=Sum.inl b:=λ q=>e (Sum.inl.inj q);rw [a8 h];exact (aW.mpr e).symm
def ziu (a b:Str):decide ((Sum.inr a:Key)=Sum.inr b)=decide (a=b):=by
 by_cases e:a=b
 ·subst e;simp
 ·have h:¬ (Sum.inr a:Key)=Sum.inr b:=λ q=>e (Sum.inr.inj q);rw [a8 h,a8 e]
def ziw (a:Int) (b:Str):decide ((Sum.inl a:Key)=Sum.inr b)=false:=a8 (λ q=>nomatch q)
def ziv (a:Str) (b:Int):decide ((Sum.inr a:Key)=Sum.inl b)=false:=a8 (λ q=>nomatch q)
noncomputable def jc (prog:Af) (w:World):PySem.KeyKind prog w Key where
 is:=WP
 hash:=zjZ w
 inj:=λ v a b ha hb=>by
  rcases qJ ha with ⟨i,t,rfl,rfl⟩|⟨x,t,rfl,rfl⟩
  ·rcases qJ hb with ⟨j,u,rfl,e⟩|⟨y,u,rfl,e⟩
   ·injection e with e1 _;rw [e1]
   ·exact nomatch e
  ·rcases qJ hb with ⟨j,u,rfl,e⟩|⟨y,u,rfl,e⟩
   ·exact nomatch e
   ·injection e with e1 _;rw [e1]
 byValue:=λ k v h=>by
  rcases qJ h with ⟨i,t,rfl,rfl⟩|⟨x,t,rfl,rfl⟩ <;> rfl
 pyHash:=λ hv h=>by
  rcases qJ hv with ⟨i,t,rfl,rfl⟩|⟨x,t,rfl,rfl⟩
  ·exact wpAny_pyHash_int h
  ·exact wpAny_pyHash_str h
 eqBool:=λ hu hv h=>by
  rcases qJ hu with ⟨i,t,rfl,rfl⟩|⟨x,t,rfl,rfl⟩
  ·rcases qJ hv with ⟨j,u,rfl,rfl⟩|⟨y,u,rfl,rfl⟩
   ·rw [zix] at h;exact wpAny_eqBool_int h
   ·rw [ziw] at h;exact SeqAt.EqAt.int_str i t y u _ _ _ _ h
  ·rcases qJ hv with ⟨j,u,rfl,rfl⟩|⟨y,u,rfl,rfl⟩
   ·rw [ziv] at h;exact SeqAt.EqAt.str_int x t j u _ _ _ _ h
   ·rw [ziu] at h;exact wpAny_eqBool_str h
 «strs»:=λ k x t v h=>by
  rcases qJ h with ⟨i,u,rfl,e⟩|⟨y,u,rfl,e⟩
  ·exact nomatch e
  ·injection e with e1 _
   subst e1;cases v <;> rfl
def za4 (prog:Af) (w:World) (i:Int) (t:Tok):(jc prog w).is (.inl i) (.int i t)=true:=zej i t
def za3 (prog:Af) (w:World) (x:Str) (t:Tok):(jc prog w).is (.inr x) (.str x t)=true:=zei x t
inductive V where
 | non|bl (b:Bool)|int (i:Int)|str (x:Str)|byt (b:Array UInt8)|flt (b:UInt64)|ref (a:Addr)|ty (n:String)
 deriving DecidableEq
abbrev As:=List (List Key × V)
abbrev Ar:=List (Str × V)
abbrev Aq:=Option V
abbrev Ap:=List V
def RelV:V->Value->Prop
 | .non,u=>u=Value.none
 | .bl b,u=>u=Value.bool b
 | .int i,u=>∃ t,u=Value.int i t
 | .str x,u=>∃ t,u=Value.str x t
 | .byt b,u=>∃ t,u=Value.bytes b t
 | .flt b,u=>∃ t,u=Value.float b t
 | .ref a,u=>u=Value.ref a
 | .ty n,u=>u=Value.type n
abbrev Vals:List V->List Value->Prop:=Paired RelV
def Vals.length {xs:Ap} (r:Vals xs us):xs.length=us.length:=cz r
theorem Vals.get:∀ {xs:Ap} {us:A7} {i:Nat} {x:V},Vals xs us->xs[i]?=some x->∃ u,us[i]?=some u/\RelV x u
 | _,_,_,_,.nil,e=>by simp at e
 | _,_,0,_,.cons r _,e=>by simp at e;subst e;exact ⟨_,rfl,r⟩
 | _,_,i + 1,x,.cons _ t,e=>by
  obtain ⟨u,h1,h2⟩:=Vals.get (i:=i) (x:=x) t (by simpa using e);exact ⟨u,by simpa using h1,h2⟩
theorem Vals.set {x:V} {u:Am} (r:RelV x u):∀ {xs:Ap} {us:A7} (i:Nat),Vals xs us->Vals (xs.set i x) (us.set i u)
 | _,_,_,.nil=>.nil
 | _,_,0,.cons _ t=>.cons r t
 | _,_,i + 1,.cons q t=>.cons q (Vals.set r i t)
theorem Vals.append:∀ {xs ys:Ap} {us ws:A7},Vals xs us->Vals ys ws->Vals (xs ++ ys) (us ++ ws)
 | _,_,_,_,.nil,s=>s
 | _,_,_,_,.cons r t,s=>.cons r (Vals.append t s)
theorem Vals.take:∀ {xs:Ap} {us:A7} (n:Nat),Vals xs us->Vals (xs.take n) (us.take n)
 | _,_,0,_=>.nil
 | _,_,_ + 1,.nil=>.nil
 | _,_,n + 1,.cons r t=>.cons r (Vals.take n t)
theorem Vals.drop:∀ {xs:Ap} {us:A7} (n:Nat),Vals xs us->Vals (xs.drop n) (us.drop n)
 | _,_,0,r=>r
 | _,_,_ + 1,.nil=>.nil
 | _,_,n + 1,.cons _ t=>Vals.drop n t
def Vals.none_of:∀ {xs:Ap} {us:A7} {i:Nat},Vals xs us->xs[i]?=none->us[i]?=none:=λ {xs us i} r e=>by
 have h1:=r.length;have h2:xs.length<=i:=cc.mp e;exact cc.mpr (by lia)
def RelO:Option V->Option Value->Prop
 | some v,some u=>RelV v u
 | none,none=>True
 | _,_=>False
def KV {κ:Type}:List (κ × V)->List (κ × Value)->Prop:=Paired λ (p:κ × V) (q:κ × Value)=>p.1=q.1/\RelV p.2 q.2
noncomputable def kV:Key->V
 | .inl i=>.int i
 | .inr x=>.str x
inductive HO where
 | lst (xs:Ap)
 | tup (xs:Ap)
 | dK (om:List (Key × V))|dT (om:As)
 | set (S:Int->Bool) (n:Nat)
 | ins (C dx:Addr) (fs:Ar)
 | own (x:Addr)
 | xd (fs:Ar)
 | met (f x:Addr)
 | rng (lo hi:Int)
 | frz (o:Obj) (u:HO)
 | tbl (ps:Ac)
 | ext (φ:Heap->Prop)
variable {o:HO}
abbrev Hp:=Addr->Option HO
variable {H:Hp}
noncomputable def upd (H:Hp) (a:Addr) (o:HO):Hp:=λ b=>if b=a then some o else H b
def upd_same {a:Addr}:upd H a o a=some o:=by unfold upd;rw [ap rfl]
def oB:=@upd_same
def upd_ne {a b:Addr} (h:b≠a):upd H a o b=H b:=by unfold upd;rw [ao h]
def oC:=@upd_ne
def Zj {a:Addr} {o u:HO}:upd (upd H a o) a u=upd H a u:=by
 funext b;unfold upd;split <;> rfl
def Qh {a b:Addr} {o u:HO} (h:H a=some o) (h':H b=some u) (d:o≠u):a≠b:=by
 intro e;subst e;rw [h] at h';exact d (aI h')
def ne_of_none {a b:Addr} (h:H a=some o) (h':H b=none):a≠b:=by
 intro e;subst e;rw [h] at h';cases h'
def oE:=@ne_of_none
section
variable (P:Af) (w:World)
def ObjOk (H:Hp) (h:Heap) (a:Addr):HO->Prop
 | .lst xs=>xs.length<=sizeLine/\∃ (oo:A7) (n:Nat),Vals xs oo/\h.get? a=some { cls:=.type "list",data:=.seq oo.toArray n }
 | .tup xs=>xs.length<=sizeLine/\∃ oo:List Value,Vals xs oo/\IsTup h a oo.toArray
 | .dK om=>om.length<=sizeLine/\(a == sysModules)=false/\∃ vs,KV om vs/\h.DictOf (jc P w) a vs
 | .dT om=>om.length<=sizeLine/\(a == sysModules)=false/\∃ xs:List (List Key × Addr × Value),
   Paired (λ (p:List Key × V) (q:List Key × Addr × Value)=>p.1=q.1/\H q.2.1=some (.tup (p.1.map kV))/\RelV p.2 q.2.2) om xs /\
   ∃ o es ep,h.get? a=some o/\o.ExactDict/\o.data=.dict es ep/\es.toList=xs.map (entryOfKey (tupleKind (jc P w)))/\(xs.map (·.1)).Nodup
 | .set S n=>h.SetOf (intKind P w) a S n
 | .ins C dx fs=>H dx=some (.own a)/\fs.length<=1000/\dx≠a/\h.get? a=some (instObj C dx) /\
   ∃ mA,h.Ns1 dx mA/\(∀ f,RelO (fs.lookup f) (mA f))/\PySem.Within mA (fs.map (·.1))
 | .own _=>∃ o,h.get? a=some o
 | .xd fs=>∃ mA,h.Ns1 a mA/\∀ f,RelO (fs.lookup f) (mA f)
 | .rng lo hi=>∃ t u v,h.get? a=some { cls:=.type "range",data:=.fields #[.int lo t,.int hi u,.int 1 v] }
 | .frz o u=>h.get? a=some o/\ObjOk H h a u
 | .tbl ps=>h.get? a=some { cls:=.none,data:=.fields ps }
 | .met f x=>h.get? a=some (methodObj (.ref f) (.ref x))
 | .ext φ=>φ h/\(∃ o,h.get? a=some o)/\∀ h1 h2:Heap,φ h1->(∀ o,h1.get? a=some o->h2.get? a=some o)->φ h2
def HOk (H:Hp) (h:Heap):Prop:=∀ a o,H a=some o->ObjOk P w H h a o
end
section
variable {P:Af} {w:World} {H H':Hp} {h h':Heap} {a:Addr} {o:HO}
def ObjOk.lt (x:ObjOk P w H h a o):a < h.objs.size:=by
 cases o with
 | lst xs=>obtain ⟨_,_,_,_,e⟩:=x;exact aA e
 | tup xs=>obtain ⟨_,_,_,p⟩:=x;exact p.lt
 | dK om=>obtain ⟨_,_,_,_,o,_,_,e,_⟩:=x;exact aA e
 | dT om=>obtain ⟨_,_,_,_,o,_,_,e,_⟩:=x;exact aA e
 | set S n=>obtain ⟨o,_,_,_,e,_⟩:=x;exact aA e
 | ins C dx fs=>obtain ⟨_,_,_,e,_⟩:=x;exact aA e
 | own y=>obtain ⟨_,e⟩:=x;exact aA e
 | xd fs=>obtain ⟨_,⟨_,_,_,e,_⟩,_⟩:=x;exact aA e
 | rng lo hi=>obtain ⟨_,_,_,e⟩:=x;exact aA e
 | frz ob u=>obtain ⟨e,_⟩:=x;exact aA e
 | tbl ps=>exact aA (show h.get? a=some _ from x)
 | met f y=>exact aA (show h.get? a=some _ from x)
 | ext φ=>obtain ⟨_,⟨_,e⟩,_⟩:=x;exact aA e
theorem Paired.mapP {α β:Type} {F G:α->β->Prop}:∀ {l₁:List α} {l₂:List β},Paired F l₁ l₂->(∀ a b,F a b->G a b)->Paired G l₁ l₂
 | _,_,.nil,_=>.nil
 | _,_,.cons r t,f=>.cons (f _ _ r) (Paired.mapP t f)
theorem ObjOk.stay (x:ObjOk P w H h a o) (k:∀ b u,(b=a\/H b=some (.own a))->h.get? b=some u->h'.get? b=some u)
  (ho:∀ b,H b=some (.own a)->H' b=some (.own a)) (ht:∀ b xs,H b=some (.tup xs)->H' b=some (.tup xs)):ObjOk P w H' h' a o:=by
 induction o with
 | lst xs=>obtain ⟨z,oo,n,r,e⟩:=x;exact ⟨z,oo,n,r,k _ _ (.inl rfl) e⟩
 | tup xs=>obtain ⟨z,oo,r,ob,e,c⟩:=x;exact ⟨z,oo,r,ob,k _ _ (.inl rfl) e,c⟩
 | dK om=>obtain ⟨z,y,vs,r,ob,es,ep,e,c⟩:=x;exact ⟨z,y,vs,r,ob,es,ep,k _ _ (.inl rfl) e,c⟩
 | dT om =>
  obtain ⟨z,y,xs,r,ob,es,ep,e,c⟩:=x;exact ⟨z,y,xs,Paired.mapP r λ p q z=>⟨z.1,ht _ _ z.2.1,z.2.2⟩,ob,es,ep,k _ _ (.inl rfl) e,c⟩
 | set S n=>obtain ⟨ob,es,ep,t,e,c⟩:=x;exact ⟨ob,es,ep,t,k _ _ (.inl rfl) e,c⟩
 | ins C dx fs =>
  obtain ⟨d,z,ne,e,mA,⟨od,es,ep,e2,c⟩,r⟩:=x;exact ⟨ho _ d,z,ne,k _ _ (.inl rfl) e,mA,⟨od,es,ep,k _ _ (.inr d) e2,c⟩,r⟩
 | own y=>obtain ⟨ob,e⟩:=x;exact ⟨ob,k _ _ (.inl rfl) e⟩
 | xd fs=>obtain ⟨mA,⟨od,es,ep,e,c⟩,r⟩:=x;exact ⟨mA,⟨od,es,ep,k _ _ (.inl rfl) e,c⟩,r⟩
 | rng lo hi=>obtain ⟨t,u,v,e⟩:=x;exact ⟨t,u,v,k _ _ (.inl rfl) e⟩
 | frz ob u ih=>obtain ⟨e,q⟩:=x;exact ⟨k _ _ (.inl rfl) e,ih q⟩
 | tbl ps =>
  have e:h.get? a=some { cls:=.none,data:=.fields ps }:=x;show h'.get? a=some { cls:=.none,data:=.fields ps }
  exact k a _ (.inl rfl) e
 | met f y =>
  have e:h.get? a=some (methodObj (.ref f) (.ref y)):=x;show h'.get? a=some (methodObj (.ref f) (.ref y))
  exact k a _ (.inl rfl) e
 | ext φ=>obtain ⟨p,⟨o,e⟩,st⟩:=x;exact ⟨st _ _ p λ o q=>k _ _ (.inl rfl) q,⟨o,k _ _ (.inl rfl) e⟩,st⟩
def HOk.lt (x:HOk P w H h) (e:H a=some o):a < h.objs.size:=(x a o e).lt
def HOk.fresh (x:HOk P w H h) (e:h.objs.size<=a):H a=none:=by
 cases q:H a with
 | none=>rfl
 | some u=>exact absurd (aK (x.lt q) e) (cg _)
def HOk.kept (x:HOk P w H h) (k:∀ b u,h.get? b=some u->h'.get? b=some u):HOk P w H h':=λ a o e =>
 (x a o e).stay (λ b u _ q=>k b u q) (λ _ q=>q) λ _ _ q=>q
def HOk.laid (x:HOk P w H h) (k:∀ b u,h.get? b=some u->h'.get? b=some u) (hp:h.objs.size<=a) (new:ObjOk P w (upd H a o) h' a o):HOk P w (upd H a o) h':=λ b u e=>by
 have hn:=x.fresh hp;by_cases hb:b=a
 ·subst hb;rw [oB] at e;cases e;exact new
 ·rw [oC hb] at e;exact (x b u e).stay (λ c v _ q=>k c v q) (λ c q=>by rw [oC (oE q hn)];exact q) λ c xs q=>by rw [oC (oE q hn)];exact q
end
def Rd (H:Hp) (a:Addr) (u:HO):Prop:=H a=some u\/∃ o,H a=some (.frz o u)
def Rd.of {a:Addr} {u:HO} (h:H a=some u):Rd H a u:=.inl h
def Rd.ok {h:Heap} {a:Addr} {u:HO} (r:Rd H a u) (x:HOk P w H h):ObjOk P w H h a u:=by
 rcases r with r|⟨o,r⟩
 ·exact x a u r
 ·obtain ⟨_,q⟩:=x a _ r;exact q
def Mut:Option HO->Prop
 | some (.lst _)=>True
 | some (.dK _)=>True
 | some (.dT _)=>True
 | some (.set _ _)=>True
 | some (.ins _ _ _)=>True
 | some (.ext _)=>True
 | _=>False
section
variable {P:Af} {w:World} {H:Hp} {h h':Heap} {x e:Addr} {o':HO}
def HOk.write (ok:HOk P w H h) (mu:Mut (H x)) (he:e=x\/H e=some (.own x)) (k:∀ b u,b≠e->h.get? b=some u->h'.get? b=some u) (heo:∃ u,h'.get? e=some u)
  (new:ObjOk P w (upd H x o') h' x o'):HOk P w (upd H x o') h':=λ b u q=>by
 have nown:∀ c y,H c=some (.own y)->c≠x:=λ c y r z=>by subst z;rw [r] at mu;exact mu
 have ntup:∀ c xs,H c=some (.tup xs)->c≠x:=λ c xs r z=>by subst z;rw [r] at mu;exact mu
 by_cases hb:b=x
 ·subst hb;rw [oB] at q;cases q;exact new
 ·rw [oC hb] at q;by_cases hbe:b=e
  ·have q':H b=some (.own x):=by
    rcases he with z|z
    ·exact absurd (hbe.trans z) hb
    ·rw [hbe];exact z
   rw [q] at q';cases q';obtain ⟨v,hv⟩:=heo;exact ⟨v,by rw [hbe];exact hv⟩
  ·refine (ok b u q).stay (λ c v hc r=>k c v ?_ r) (λ c r=>by rw [oC (nown c b r)];exact r) λ c xs r=>by rw [oC (ntup c xs r)];exact r
   rcases hc with rfl|hc
   ·exact hbe
   ·rintro rfl;rcases he with z|z
    ·exact nown c b hc z
    ·rw [hc] at z;cases z;exact hb rfl
end
structure Un (fs ex:Ab) (H H':Hp) (h h':Heap):Prop where
 keep:∀ b o,h.get? b=some o->H b=none->b ∉ fs->b ∉ ex->h'.get? b=some o
 slot:∀ b o,h.get? b=some o->H b=none->b∈fs->b ∉ ex->∃ sl,h'.get? b=some { o with slots:=sl }
 free:∀ b o,h.get? b=some o->H b=none->b ∉ ex->H' b=none
 there:∀ b o,h.get? b=some o->b ∉ ex->∃ o',h'.get? b=some o'
 tups:∀ b xs,H b=some (.tup xs)->H' b=some (.tup xs)
 frzs:∀ b o u,H b=some (.frz o u)->H' b=some (.frz o u)
 tbls:∀ b ps,H b=some (.tbl ps)->∃ more,H' b=some (.tbl (ps ++ more))
section
variable {fs fs' ex ex':Ab} {H H1 H2:Hp} {h h1 h2 h':Heap} {a x e:Addr} {o:HO}
def Un.any (u:Un fs ex H H1 h h1) {ob:Obj} (q:h.get? b=some ob) (n:H b=none) (hx:b ∉ ex):∃ sl,h1.get? b=some { ob with slots:=sl }:=by
 by_cases hb:b∈fs
 ·exact u.slot b ob q n hb hx
 ·exact ⟨ob.slots,u.keep b ob q n hb hx⟩
def Un.trans (a:Un fs ex H H1 h h1) (b:Un fs ex H1 H2 h1 h2):Un fs ex H H2 h h2 where
 keep:=λ c ob q n hc hx=>b.keep c ob (a.keep c ob q n hc hx) (a.free c ob q n hx) hc hx
 slot:=λ c ob q n hc hx=>by
  obtain ⟨sl,e1⟩:=a.slot c ob q n hc hx;obtain ⟨sl',e2⟩:=b.slot c _ e1 (a.free c ob q n hx) hc hx;exact ⟨sl',e2⟩
 free:=λ c ob q n hx=>by
  obtain ⟨o',e1⟩:=a.there c ob q hx;exact b.free c o' e1 (a.free c ob q n hx) hx
 there:=λ c ob q hx=>by
  obtain ⟨o',e1⟩:=a.there c ob q hx;exact b.there c o' e1 hx
 tups:=λ c xs q=>b.tups c xs (a.tups c xs q)
 frzs:=λ c ob xs q=>b.frzs c ob xs (a.frzs c ob xs q)
 tbls:=λ c ps q=>by
  obtain ⟨m1,e1⟩:=a.tbls c ps q;obtain ⟨m2,e2⟩:=b.tbls c _ e1;exact ⟨m1 ++ m2,by rw [e2,gJ]⟩
def Un.kept (k:∀ b u,h.get? b=some u->h'.get? b=some u):Un fs ex H H h h' :=
 ⟨λ b ob q _ _ _=>k b ob q,λ b ob q _ _ _=>⟨ob.slots,k b ob q⟩,λ _ _ _ n _=>n,λ b ob q _=>⟨ob,k b ob q⟩,λ _ _ q=>q,λ _ _ _ q=>q,λ _ ps q=>⟨#[],by rw [q];simp⟩⟩
def Un.refl:Un fs ex H H h h:=Un.kept λ _ _ q=>q
def Un.laid (k:∀ b u,h.get? b=some u->h'.get? b=some u) (hp:h.objs.size<=a) (hn:H a=none):Un fs ex H (upd H a o) h h' where
 keep:=λ b u q _ _ _=>k b u q
 slot:=λ b u q _ _ _=>⟨u.slots,k b u q⟩
 free:=λ b u q n _=>by rw [oC (aR (aK (aA q) hp))];exact n
 there:=λ b u q _=>⟨u,k b u q⟩
 tups:=λ b xs q=>by rw [oC (oE q hn)];exact q
 frzs:=λ b u xs q=>by rw [oC (oE q hn)];exact q
 tbls:=λ b ps q=>⟨#[],by rw [oC (oE q hn),q];simp⟩
def Un.write (mu:Mut (H x)) (he:e=x\/H e=some (.own x)) (k:∀ b u,b≠e->h.get? b=some u->h'.get? b=some u) (heo:∃ u,h'.get? e=some u):Un fs ex H (upd H x o) h h':=by
 have hx:∀ b,H b=none->b≠x:=λ b n z=>by subst z;rw [n] at mu;exact mu
 have hb:∀ b,H b=none->b≠e:=λ b n z=>by
  subst z;rcases he with r|r
  ·exact hx b n r
  ·rw [n] at r;cases r
 have hm:∀ b u,H b=some u->¬ Mut (some u)->b≠x:=λ b u q nm z=>by subst z;rw [q] at mu;exact nm mu
 refine ⟨λ b u q n _ _=>k b u (hb b n) q,λ b u q n _ _=>⟨u.slots,k b u (hb b n) q⟩,λ b u q n _=>by rw [oC (hx b n)];exact n,λ b u q _=>?_,
  λ b xs q=>by rw [oC (hm b _ q λ z=>z)];exact q,λ b u xs q=>by rw [oC (hm b _ q λ z=>z)];exact q,λ b ps q=>⟨#[],by rw [oC (hm b _ q λ z=>z),q];simp⟩⟩
 by_cases hbe:b=e
 ·subst hbe;exact heo
 ·exact ⟨u,k b u hbe q⟩
def Un.mono (u:Un fs ex H H1 h h1) (hs:∀ b∈fs,b∈fs') (hx:∀ b∈ex,b∈ex'):Un fs' ex' H H1 h h1 :=
 ⟨λ b ob q n hb he=>u.keep b ob q n (λ z=>hb (hs b z)) λ z=>he (hx b z),λ _ _ q n _ he=>u.any q n λ z=>he (hx _ z),λ b ob q n he=>u.free b ob q n λ z=>he (hx b z),λ b ob q he=>u.there b ob q λ z=>he (hx b z),u.tups,u.frzs,u.tbls⟩
end
noncomputable def trk (h:Heap) (H:Hp):List Addr:=(List.range h.objs.size).filter λ a=>(H a).isSome
noncomputable def VY (h:Heap) (H:Hp):Heap:=PySem.W.hideAll h (trk h H)
def zel (h:Heap) (H:Hp):(VY h H).objs.size=h.objs.size:=PySem.W.hideAll_size _ _
def zfT {h:Heap} {o:Obj} (e:h.get? b=some o) (n:H b=none):(VY h H).get? b=some o :=
 PySem.W.hideAll_get _ e λ hm=>by
  have q:(H b).isSome=true:=(cm.mp hm).2;rw [n] at q;simp at q
def zg1 {h:Heap} {o:Obj} (e:(VY h H).get? b=some o):h.get? b=some o/\H b=none:=by
 have e':h.get? b=some o:=PySem.W.of_hideAll (trk h H) e;refine ⟨e',?_⟩;cases q:H b with
 | none=>rfl
 | some x =>
  have hm:b∈trk h H:=cm.mpr ⟨cA.mpr (aA e'),by simp [q]⟩;have z:(VY h H).get? b=none:=PySem.W.hideAll_none (trk h H) hm;rw [z] at e;cases e
noncomputable def zhp (g h:Heap) (L:Addr):List (Addr × Obj):=(List.range h.objs.size).filterMap λ a=>if a=L\/(g.get? a).isSome=true then none else (h.get? a).map λ o=>(a,o)
noncomputable def rest (g h:Heap) (L d:Addr):List (Addr × Obj):=(zhp g h L).filter λ p=>decide (p.1≠d)
structure Mod (K:A0) (mg:A4) (base:Heap):Prop where
 kin:K.In base
 glob:base.Ns mainGlobals mg
 blt:∃ mb,base.Ns builtinsNs mb/\∀ x:Str,x≠"__name__"->mb x=bootBuiltins x
 nolimit:base.NoLimit
structure Cx where
 prog:Program
 w:World
 K:PySem.W.Frag
 mg:Str->Option Value
 base:Heap
 A:Around
 N:List Str
 s₀:Shared
 H₀:Hp
 env:Env
 outer:List Env
 stack:List Env
 ex:List Addr
 fn:Str->Bool
 calm:Bool
 pn:List (Addr × Obj)
 xe:Value->Shared->Prop
variable {X:Cx}
noncomputable def frs (l:List Env):List Addr:=l.filterMap (·.frame)
noncomputable abbrev Cx.fs (X:Cx):List Addr:=frs X.outer
def Vis (sc:Scope) (x:Str):Prop:=sc.names.lookup x=some .local\/sc.names.lookup x=some .cell\/sc.names.lookup x=some .free
def Loc (sc:Scope) (x:Str):Prop:=sc.names.lookup x=some .local\/sc.names.lookup x=some .cell
def zj3 (env:Env) (h:Heap) (m:A4) (x:Str) (u:Am):Prop :=
 (env.kindOf x=some .local/\m x=some u)\/((env.kindOf x=some .cell\/env.kindOf x=some .free)/\∃ c,env.cells.lookup x=some c/\h.IsCell c (some u))
structure Cx.Ok (X:Cx):Prop where
 mod:Mod X.K X.mg X.base
 kind:X.env.scope.kind=.function
 glob:X.env.globals=mainGlobals
 blt:X.env.builtins=builtinsNs
 above:X.s₀.heap.objs.size<=X.env.locals
 inj:∀ x y c,X.env.cells.lookup x=some c->X.env.cells.lookup y=some c->x=y
 has:∀ x,(X.env.kindOf x=some .cell\/X.env.kindOf x=some .free)->∃ c,X.env.cells.lookup x=some c
 cab:∀ x c,X.fn x=true->X.env.cells.lookup x=some c->X.s₀.heap.objs.size<=c
 hd:X.calm=true->X.A.handled=none
 frames:X.A.frames=some X.stack
 stk:X.stack=X.outer\/(X.stack=X.env :: X.outer/\X.env.frame=some X.env.locals)
 exf:∀ b∈X.ex,b≠X.env.locals/\∀ x c,X.env.cells.lookup x=some c->c≠b
 bs:∀ b o,X.base.get? b=some o->X.s₀.heap.get? b=some o/\X.H₀ b=none
 bsz:X.base.objs.size<=X.s₀.heap.objs.size
 noex:∀ b o,X.base.get? b=some o->b ∉ X.ex
 exfs:∀ b∈X.ex,b ∉ X.fs
 funs:X.s₀.heap.FunFrames X.base X.outer
 frf:∀ b∈X.fs,X.H₀ b=none
structure Inv (X:Cx) (o6:A2) (σ:List Aq) (H:Hp) (s:An):Prop where
 ok:X.Ok
 os:s.os=X.s₀.os
 bare:AllBare s.gens
 base:Un X.fs X.ex X.H₀ H X.s₀.heap s.heap
 loc:∃ m,s.heap.Ns X.env.locals m/\∀ (i:Nat) (x:Str) (v:V),X.N[i]?=some x->σ[i]?=some (some v)->Vis X.env.scope x->∃ u,RelV v u/\zj3 X.env s.heap m x u
 cell:∀ x c,X.env.cells.lookup x=some c->∃ v,s.heap.IsCell c v
 free:H X.env.locals=none
 freeC:∀ x c,X.env.cells.lookup x=some c->H c=none
 pin:∀ p∈X.pn ++ o6,s.heap.get? p.1=some p.2/\H p.1=none/\p.1≠X.env.locals/\p.1 ∉ X.fs/\∀ v,p.2.data≠.cell v
 hok:HOk X.prog X.w H s.heap
 len:σ.length=X.N.length
section
variable {X:Cx} {o6:A2} {σ:List Aq} {H H':Hp} {s:An} {h':Heap}
def Cx.Ok.nofr (ok:X.Ok) {o:Obj} (e:X.base.get? b=some o):b ∉ X.fs:=λ hb=>by
 have:=(ok.funs.mem hb).1;rw [e] at this;cases this
def Inv.bs (I:Inv X o6 σ H s):∀ b o,X.base.get? b=some o->s.heap.get? b=some o/\H b=none:=λ b o e =>
 ⟨I.base.keep b o (I.ok.bs b o e).1 (I.ok.bs b o e).2 (I.ok.nofr e) (I.ok.noex b o e),I.base.free b o (I.ok.bs b o e).1 (I.ok.bs b o e).2 (I.ok.noex b o e)⟩
def Inv.bk (I:Inv X o6 σ H s):∀ b o,X.base.get? b=some o->s.heap.get? b=some o:=λ b o e=>(I.bs b o e).1
def Inv.mod (I:Inv X o6 σ H s):Mod X.K X.mg X.base:=I.ok.mod
def Inv.kIn (I:Inv X o6 σ H s):X.K.In s.heap:=I.ok.mod.kin.keeps I.bk
def Inv.nolimit (I:Inv X o6 σ H s):s.heap.NoLimit:=I.ok.mod.nolimit.keeps I.bk
def Inv.fr (I:Inv X o6 σ H s):∃ m,Fr X.base X.env.locals s.heap m :=
 let ⟨m,hn,_⟩:=I.loc
 ⟨m,hn,I.bk,aZ I.ok.bsz I.ok.above⟩
def Inv.lt (I:Inv X o6 σ H s):X.env.locals < s.heap.objs.size:=by
 obtain ⟨_,hn,_⟩:=I.loc;exact hn.lt
def Inv.sz (I:Inv X o6 σ H s):X.s₀.heap.objs.size<=s.heap.objs.size:=aZ I.ok.above (bU I.lt)
def Inv.nofs (I:Inv X o6 σ H s) {a:Addr} (h:s.heap.objs.size<=a):a ∉ X.fs:=λ hb=>by
 obtain ⟨_,o,ho,_⟩:=I.ok.funs.mem hb;exact absurd (aK (aA ho) (aZ I.sz h)) (cg _)
def Inv.cne (I:Inv X o6 σ H s):∀ x c,X.env.cells.lookup x=some c->c≠X.env.locals:=λ x c e z=>by
 obtain ⟨v,o,ho,hd⟩:=I.cell x c e;obtain ⟨m,⟨o',es,ep,ho',hd',_⟩,_⟩:=I.loc;rw [z,ho'] at ho;cases ho;rw [hd'] at hd;cases hd
def Inv.funs (I:Inv X o6 σ H s):s.heap.FunFrames X.base X.outer:=by
 have all:∀ (l:List Env),(∀ b∈frs l,b∈X.fs)->X.s₀.heap.FunFrames X.base l->s.heap.FunFrames X.base l:=by
  intro l
  induction l with
  | nil=>intro _ _;trivial
  | cons env r ih =>
   intro hs hl;obtain ⟨hk,⟨L,o,hf,hn,ho,hd⟩,hr⟩:=hl;have hL:L∈X.fs:=hs L (by unfold frs;rw [fT,hf];exact aY);obtain ⟨sl,e⟩:=I.base.slot L o ho (I.ok.frf L hL) hL λ z=>I.ok.exfs L z hL;exact ⟨hk,⟨L,_,hf,hn,e,hd⟩,ih (λ b hb=>hs b (by unfold frs;rw [fT,hf];exact aD _ hb)) hr⟩
 exact all X.outer (λ _ hb=>hb) I.ok.funs
def Inv.stack (I:Inv X o6 σ H s):s.heap.FunFrames X.base X.stack:=by
 rcases I.ok.stk with e|⟨e,hf⟩
 ·rw [e];exact I.funs
 ·rw [e];obtain ⟨m,hn,_⟩:=I.loc;refine .cons (by rw [I.ok.kind];decide) hf hn ?_ I.funs;exact Heap.get?_none_of_le (aZ I.ok.bsz I.ok.above)
def Inv.stkSub (I:Inv X o6 σ H s):∀ b∈frs X.stack,b∈X.env.locals :: X.fs:=λ b hb=>by
 rcases I.ok.stk with e|⟨e,hf⟩
 ·rw [e] at hb;exact aD _ hb
 ·rw [e] at hb;unfold frs at hb;rw [fT,hf] at hb;exact hb
def Inv.stkFree (I:Inv X o6 σ H s):∀ b∈frs X.stack,H b=none:=λ b hb=>by
 rcases ar.mp (I.stkSub b hb) with e|hb
 ·rw [e];exact I.free
 ·obtain ⟨_,o,ho,_⟩:=I.ok.funs.mem hb;exact I.base.free b o ho (I.ok.frf b hb) λ z=>I.ok.exfs b z hb
def Inv.step {g':Array GenState} {d':Drawn} {ch:Ab} (I:Inv X o6 σ H s)
  (hch:∀ b∈ch,(b∈X.ex\/X.s₀.heap.objs.size<=b)/\b≠X.env.locals/\(∀ x c,X.env.cells.lookup x=some c->c≠b)/\∀ p∈X.pn ++ o6,p.1≠b)
  (keep:∀ b o,b≠X.env.locals->b ∉ X.fs->b ∉ ch->s.heap.get? b=some o->H b=none->h'.get? b=some o)
  (slot:∀ b o,b≠X.env.locals->b∈X.fs->b ∉ ch->s.heap.get? b=some o->H b=none->∃ sl,h'.get? b=some { o with slots:=sl }) (free:∀ b o,b ∉ ch->s.heap.get? b=some o->H b=none->H' b=none)
  (there:∀ b o,b ∉ ch->s.heap.get? b=some o->∃ o',h'.get? b=some o')
  (tups:∀ b xs,H b=some (.tup xs)->H' b=some (.tup xs)) (frzs:∀ b o u,H b=some (.frz o u)->H' b=some (.frz o u)) (tbls:∀ b ps,H b=some (.tbl ps)->∃ more,H' b=some (.tbl (ps ++ more)))
  (ns:∀ m,s.heap.Ns X.env.locals m->h'.Ns X.env.locals m) (hok:HOk X.prog X.w H' h') (hg:AllBare g') :
  Inv X o6 σ H' { s with heap:=h',gens:=g',drawn:=d',toks:=t' }:=by
 have neL:∀ b o,X.s₀.heap.get? b=some o->b≠X.env.locals:=λ b o e=>aR (aK (aA e) I.ok.above);have neC:∀ b o,X.s₀.heap.get? b=some o->b ∉ X.ex->b ∉ ch:=λ b o e hx hb=>by
  rcases (hch b hb).1 with z|z
  ·exact hx z
  ·exact absurd (aK (aA e) z) (cg _)
 have cellK:∀ x c,X.env.cells.lookup x=some c->∀ v,s.heap.IsCell c v->h'.IsCell c v:=λ x c e v ⟨o,ho,hd⟩=>by
  have nch:c ∉ ch:=λ z=>(hch c z).2.2.1 x c e rfl;by_cases hc:c∈X.fs
  ·obtain ⟨sl,q⟩:=slot c o (I.cne x c e) hc nch ho (I.freeC x c e);exact ⟨_,q,hd⟩
  ·exact ⟨o,keep c o (I.cne x c e) hc nch ho (I.freeC x c e),hd⟩
 refine ⟨I.ok,I.os,hg,⟨λ b o e n hb hx=>?_,λ b o e n hb hx=>?_,λ b o e n hx=>?_,λ b o e hx=>?_,λ b xs e=>tups b xs (I.base.tups b xs e),λ b o xs e=>frzs b o xs (I.base.frzs b o xs e),λ b ps e=>?_⟩,?_,λ x c e=>?_,?_,λ x c e=>?_,λ p hp=>?_,hok,I.len⟩
 ·exact keep b o (neL b o e) hb (neC b o e hx) (I.base.keep b o e n hb hx) (I.base.free b o e n hx)
 ·obtain ⟨sl,e1⟩:=I.base.slot b o e n hb hx;obtain ⟨sl',e2⟩:=slot b _ (neL b o e) hb (neC b o e hx) e1 (I.base.free b o e n hx);exact ⟨sl',e2⟩
 ·obtain ⟨o',e1⟩:=I.base.there b o e hx;exact free b o' (neC b o e hx) e1 (I.base.free b o e n hx)
 ·obtain ⟨o',e1⟩:=I.base.there b o e hx;exact there b o' (neC b o e hx) e1
 ·obtain ⟨m1,e1⟩:=I.base.tbls b ps e;obtain ⟨m2,e2⟩:=tbls b _ e1;exact ⟨m1 ++ m2,by rw [e2,gJ]⟩
 ·obtain ⟨m,hn,hl⟩:=I.loc;refine ⟨m,ns m hn,λ i x v e1 e2 e3=>?_⟩;obtain ⟨u,r,l⟩:=hl i x v e1 e2 e3;refine ⟨u,r,?_⟩;rcases l with l|⟨k,c,e,z⟩
  ·exact .inl l
  ·exact .inr ⟨k,c,e,cellK x c e _ z⟩
 ·obtain ⟨v,z⟩:=I.cell x c e;exact ⟨v,cellK x c e v z⟩
 ·obtain ⟨m,⟨o,_,_,ho,_⟩,_⟩:=I.loc;exact free _ o (λ z=>(hch _ z).2.1 rfl) ho I.free
 ·obtain ⟨v,o,ho,hd⟩:=I.cell x c e;exact free c o (λ z=>(hch c z).2.2.1 x c e rfl) ho (I.freeC x c e)
 ·obtain ⟨e,n,ne,nf,d⟩:=I.pin p hp;have nch:p.1 ∉ ch:=λ z=>(hch p.1 z).2.2.2 p hp rfl;exact ⟨keep p.1 p.2 ne nf nch e n,free p.1 p.2 nch e n,ne,nf,d⟩
def Inv.un (I:Inv X o6 σ H s) (u:Un X.fs [] H H' s.heap h') (hok:HOk X.prog X.w H' h'):Inv X o6 σ H' { s with heap:=h',toks:=t' }:=by
 obtain ⟨m,⟨o,es,ep,ho,r⟩,_⟩:=id I.loc;obtain ⟨sl,hL⟩:=u.any ho I.free (by simp);exact I.step (g':=s.gens) (d':=s.drawn) (ch:=[]) (λ _ z=>nomatch z) (λ b o _ hb _ e n=>u.keep b o e n hb (by simp)) (λ b o _ hb _ e n=>u.slot b o e n hb (by simp)) (λ b o _ e n=>u.free b o e n (by simp)) (λ b o _ e=>u.there b o e (by simp)) u.tups u.frzs u.tbls (λ m' hm=>by
  obtain ⟨o',es',ep',ho',r'⟩:=hm;rw [ho] at ho';cases ho';exact ⟨_,es',ep',hL,r'⟩) hok I.bare
def Inv.call {g':Array GenState} {d':Drawn} {ch:Ab} (I:Inv X o6 σ H s) (u:Un (frs X.stack) ch H H' s.heap h') (hok:HOk X.prog X.w H' h') (hg:AllBare g')
  (hch:∀ b∈ch,(b∈X.ex\/X.s₀.heap.objs.size<=b)/\b≠X.env.locals/\(∀ x c,X.env.cells.lookup x=some c->c≠b)/\∀ p∈X.pn ++ o6,p.1≠b) :
  Inv X o6 σ H' { s with heap:=h',gens:=g',drawn:=d',toks:=t' }:=by
 obtain ⟨m,⟨o,es,ep,ho,r⟩,_⟩:=id I.loc;obtain ⟨sl,hL⟩:=u.any ho I.free λ z=>(hch _ z).2.1 rfl;exact I.step (ch:=ch) hch (λ b o hL hb hc e n=>u.keep b o e n (λ z=>(ar.mp (I.stkSub b z)).elim hL hb) hc) (λ b o _ _ hc e n=>u.any e n hc) (λ b o hc e n=>u.free b o e n hc) (λ b o hc e=>u.there b o e hc) u.tups u.frzs u.tbls (λ m' hm=>by
  obtain ⟨o',es',ep',ho',r'⟩:=hm;rw [ho] at ho';cases ho';exact ⟨_,es',ep',hL,r'⟩) hok hg
def Inv.turned {it:Addr} (I:Inv X o6 σ H s) (k:∀ b o,b≠it->s.heap.get? b=some o->h'.get? b=some o) (hn:H it=none) (hL:it≠X.env.locals)
  (h1:it∈X.ex\/X.s₀.heap.objs.size<=it) (h2:∀ x c,X.env.cells.lookup x=some c->c≠it) (h3:∀ p∈X.pn ++ o6,p.1≠it):Inv X o6 σ H { s with heap:=h',toks:=t' }:=by
 have nit:∀ b u,H b=some u->b≠it:=λ b u e z=>by rw [z,hn] at e;cases e
 refine I.step (g':=s.gens) (d':=s.drawn) (ch:=[it]) (λ b hb=>?_) (λ b o _ _ hc e _=>k b o (λ z=>hc (by simp [z])) e) (λ b o _ _ hc e _=>⟨o.slots,k b o (λ z=>hc (by simp [z])) e⟩) (λ _ _ _ _ n=>n)
  (λ b o hc e=>⟨o,k b o (λ z=>hc (by simp [z])) e⟩) (λ _ _ e=>e) (λ _ _ _ e=>e) (λ b ps e=>⟨#[],by rw [e];simp⟩) (λ m hm=>?_) (λ b u e=>?_) I.bare
 ·have e:b=it:=by simpa using hb
  subst e;exact ⟨h1,hL,h2,h3⟩
 ·obtain ⟨o,es,ep,ho,r⟩:=hm;exact ⟨o,es,ep,k _ o (a7 hL) ho,r⟩
 ·refine (I.hok b u e).stay (λ c v hc q=>k c v ?_ q) (λ _ q=>q) λ _ _ q=>q;rcases hc with z|z
  ·rw [z];exact nit b u e
  ·exact nit c _ z
def Inv.tok (I:Inv X o6 σ H s) (t:Nat):Inv X o6 σ H { s with toks:=t }:=I.un (h':=s.heap) (t':=t) Un.refl I.hok
def Inv.kept (I:Inv X o6 σ H s) (k:∀ b u,s.heap.get? b=some u->h'.get? b=some u):Inv X o6 σ H { s with heap:=h',toks:=t' }:=I.un (Un.kept k) (I.hok.kept k)
def Inv.laid {a:Addr} (I:Inv X o6 σ H s) (k:∀ b u,s.heap.get? b=some u->h'.get? b=some u) (hp:s.heap.objs.size<=a) (new:ObjOk X.prog X.w (upd H a o) h' a o) :
  Inv X o6 σ (upd H a o) { s with heap:=h',toks:=t' }:=I.un (Un.laid k hp (I.hok.fresh hp)) (I.hok.laid k hp new)
def Inv.write {x e:Addr} (I:Inv X o6 σ H s) (mu:Mut (H x)) (he:e=x\/H e=some (.own x)) (k:∀ b u,b≠e->s.heap.get? b=some u->h'.get? b=some u) (heo:∃ u,h'.get? e=some u)
  (new:ObjOk X.prog X.w (upd H x o) h' x o):Inv X o6 σ (upd H x o) { s with heap:=h',toks:=t' }:=I.un (Un.write mu he k heo) (I.hok.write mu he k heo new)
def Inv.pins_of {pins':A2} (I:Inv X o6 σ H s) (h:∀ p∈pins',s.heap.get? p.1=some p.2/\H p.1=none/\p.1≠X.env.locals/\p.1 ∉ X.fs/\∀ v,p.2.data≠.cell v):Inv X pins' σ H s :=
 ⟨I.ok,I.os,I.bare,I.base,I.loc,I.cell,I.free,I.freeC,λ p hp=>(aE.mp hp).elim (λ z=>I.pin p (bp _ z)) (h p),I.hok,I.len⟩
def zaY {N:A8} (hN:N.Nodup) {i j:Nat} (a:N[i]?=some x) (b:N[j]?=some x):i=j:=by
 obtain ⟨h1,e1⟩:=aa.mp a;obtain ⟨h2,e2⟩:=aa.mp b;exact (List.getElem_inj hN).mp (e1.trans e2.symm)
def Wy {v:V} {Q:Ag} (I:Inv X o6 σ H s) (hN:X.N.Nodup) (hi:X.N[i]?=some x) (hx:Loc X.env.scope x) (r:RelV v u)
  (h:∀ s',Inv X o6 (σ.set i (some v)) H s'->(∃ a,Heap.SameBut a s.heap s'.heap/\(a=X.env.locals\/X.env.cells.lookup x=some a))->Q () s') (hf:X.fn x=true\/X.env.scope.names.lookup x=some .local:=by walk_at "p"):wpAny M A (storeName X.env x u) Q E s:=by
 obtain ⟨m,hn,hl⟩:=id I.loc;have hcls:(X.env.scope.kind == .class || (X.env.scope.kind == .module && X.env.locals != X.env.globals))=false:=by rw [I.ok.kind];rfl
 have hiσ:i < σ.length:=by rw [I.len];exact (aa.mp hi).1
 have cne:=I.cne;have tracked:∀ {a:Addr} {h':Heap},(∃ o,s.heap.get? a=some o/\H a=none)->Heap.SameBut a s.heap h'->HOk X.prog X.w H h':=λ {a h'} ha hs b ob e=>by
  obtain ⟨_,_,hfree⟩:=ha;refine (I.hok b ob e).stay (λ c w' hc q=>(hs.2 c ?_).trans q) (λ _ q=>q) λ _ _ q=>q;rintro rfl;rcases hc with rfl|hc
  ·rw [hfree] at e;cases e
  ·rw [hfree] at hc;cases hc
 rcases hx with hk|hk
 ·refine wpAny_storeName_local hk hn (λ h' hn' hs=>?_) hcls;obtain ⟨oL,_,_,hoL,_⟩:=id hn;refine h _ ⟨I.ok,I.os,I.bare,⟨λ b o e n hb hx=>?_,λ b o e n hb hx=>?_,I.base.free,λ b o e hx=>?_,I.base.tups,I.base.frzs,I.base.tbls⟩,⟨_,hn',λ j y v' e1 e2 e3=>?_⟩,λ y c e=>?_,I.free,I.freeC,λ p hp=>?_,tracked ⟨oL,hoL,I.free⟩ hs,by simpa using I.len⟩ ⟨_,hs,.inl rfl⟩
  ·exact (hs.2 b (aR (aK (aA e) I.ok.above))).trans (I.base.keep b o e n hb hx)
  ·obtain ⟨sl,e1⟩:=I.base.slot b o e n hb hx;exact ⟨sl,(hs.2 b (aR (aK (aA e) I.ok.above))).trans e1⟩
  ·obtain ⟨o',e1⟩:=I.base.there b o e hx;exact ⟨o',(hs.2 b (aR (aK (aA e) I.ok.above))).trans e1⟩
  ·by_cases hj:j=i
   ·subst hj;rw [hi] at e1;cases e1;rw [aP hiσ] at e2;cases e2;exact ⟨u,r,.inl ⟨hk,by simp⟩⟩
   ·rw [ba (a7 hj)] at e2;obtain ⟨u',r',q⟩:=hl j y v' e1 e2 e3;refine ⟨u',r',?_⟩;rcases q with ⟨k,e⟩|⟨k,c,e,z⟩
    ·refine .inl ⟨k,?_⟩;have:y≠x:=λ e=>hj (zaY hN e1 (e ▸ hi));simp [this,e]
    ·exact .inr ⟨k,c,e,z.sameBut hs (cne y c e)⟩
  ·obtain ⟨w',z⟩:=I.cell y c e;exact ⟨w',z.sameBut hs (cne y c e)⟩
  ·obtain ⟨e,n,ne,nf,d⟩:=I.pin p hp;exact ⟨(hs.2 p.1 ne).trans e,n,ne,nf,d⟩
 ·have hfn:X.fn x=true:=by
   rcases hf with z|z
   ·exact z
   ·rw [z] at hk;cases hk
  obtain ⟨c,hc⟩:=I.ok.has x (.inl hk);obtain ⟨w',z⟩:=I.cell x c hc;refine wpAny_storeName_cell I.ok.kind hk hc z (λ h' hc' hs=>?_);obtain ⟨oc,hoc,hocd⟩:=id z;refine h { s with heap:=h' } ⟨I.ok,I.os,I.bare,⟨λ b o e n hb hx=>?_,λ b o e n hb hx=>?_,I.base.free,λ b o e hx=>?_,I.base.tups,I.base.frzs,I.base.tbls⟩,⟨m,hn.sameBut hs (a7 (cne x c hc)),λ j y v' e1 e2 e3=>?_⟩,λ y c' e=>?_,I.free,I.freeC,λ p hp=>?_,tracked ⟨oc,hoc,I.freeC x c hc⟩ hs,by simpa using I.len⟩ ⟨c,hs,.inr hc⟩
  ·exact (hs.2 b (aR (aK (aA e) (I.ok.cab x c hfn hc)))).trans (I.base.keep b o e n hb hx)
  ·obtain ⟨sl,e1⟩:=I.base.slot b o e n hb hx;exact ⟨sl,(hs.2 b (aR (aK (aA e) (I.ok.cab x c hfn hc)))).trans e1⟩
  ·obtain ⟨o',e1⟩:=I.base.there b o e hx;exact ⟨o',(hs.2 b (aR (aK (aA e) (I.ok.cab x c hfn hc)))).trans e1⟩
  ·by_cases hj:j=i
   ·subst hj;rw [hi] at e1;cases e1;rw [aP hiσ] at e2;cases e2;exact ⟨u,r,.inr ⟨.inl hk,c,hc,hc'⟩⟩
   ·rw [ba (a7 hj)] at e2;obtain ⟨u',r',q⟩:=hl j y v' e1 e2 e3;refine ⟨u',r',?_⟩;rcases q with q|⟨k,c',e,z'⟩
    ·exact .inl q
    ·refine .inr ⟨k,c',e,z'.sameBut hs ?_⟩;rintro rfl;exact hj (zaY hN e1 (I.ok.inj _ _ _ e hc ▸ hi))
  ·by_cases hcc:c'=c
   ·subst hcc;exact ⟨_,hc'⟩
   ·obtain ⟨w2,z2⟩:=I.cell y c' e;exact ⟨w2,z2.sameBut hs hcc⟩
  ·obtain ⟨e,n,ne,nf,d⟩:=I.pin p hp;refine ⟨(hs.2 p.1 ?_).trans e,n,ne,nf,d⟩;intro q;rw [q,hoc] at e;have q':oc=p.2:=aI e;exact d w' (by rw [<- q'];exact hocd)
def JW {v:V} {Q:Ag} (I:Inv X o6 σ H s) (hN:X.N.Nodup) (hi:X.N[i]?=some x) (hx:Loc X.env.scope x) (r:RelV v u)
  (h:∀ s',Inv X o6 (σ.set i (some v)) H s'->Q () s') (hf:X.fn x=true\/X.env.scope.names.lookup x=some .local:=by walk_at "p"):wpAny M A (storeName X.env x u) Q E s :=
 Wy I hN hi hx r (λ s' I' _=>h s' I') hf
def Inv.call' {s':An} {ch:Ab} (I:Inv X o6 σ H s) (ho:s'.os=s.os) (u:Un (frs X.stack) ch H H' s.heap s'.heap) (hok:HOk X.prog X.w H' s'.heap) (hg:AllBare s'.gens)
  (hch:∀ b∈ch,(b∈X.ex\/X.s₀.heap.objs.size<=b)/\b≠X.env.locals/\(∀ x c,X.env.cells.lookup x=some c->c≠b)/\∀ p∈X.pn ++ o6,p.1≠b):Inv X o6 σ H' s':=by
 obtain ⟨h',g',d',t',o'⟩:=s';have e:o'=s.os:=ho;subst e;exact I.call (g':=g') (t':=t') (d':=d') u hok hg hch
end
abbrev XK:=Value->Option Addr->Hp->Prop
abbrev St:=List Aq
variable {σ:St}
abbrev VK:=V->Hp->Prop
abbrev TE:=St->Hp->VK->Prop
abbrev TT:=St->Hp->(Bool->Hp->Prop)->Prop
abbrev TA:=St->Hp->(List V->Hp->Prop)->Prop
structure Ends where
 nx:St->Hp->Prop
 rt:VK
 bk:St->Hp->Prop:=λ _ _=>False
 ct:St->Hp->Prop:=λ _ _=>False
abbrev TS:=Ends->St->Hp->Prop
def EP (X:Cx) (o6:A2) (σ:St) (Q:VK) (u:Am) (s':An):Prop:=∃ v H',Inv X o6 σ H' s'/\RelV v u/\Q v H'
def TP (X:Cx) (o6:A2) (σ:St) (Q:Bool->Hp->Prop) (b:Bool) (s':An):Prop:=∃ H',Inv X o6 σ H' s'/\Q b H'
def AP (X:Cx) (o6:A2) (σ:St) (Q:List V->Hp->Prop) (us:A7) (s':An):Prop:=∃ vs H',Inv X o6 σ H' s'/\Vals vs us/\Q vs H'
def SP (X:Cx) (o6:A2) (D:Ends) (f:Flow) (s':An):Prop :=
 match f with
 | .next=>∃ σ' H',Inv X o6 σ' H' s'/\D.nx σ' H'
 | .brk=>∃ σ' H',Inv X o6 σ' H' s'/\D.bk σ' H'
 | .cont=>∃ σ' H',Inv X o6 σ' H' s'/\D.ct σ' H'
 | .ret u=>∃ v σ' H',Inv X o6 σ' H' s'/\RelV v u/\D.rt v H'
def PE (X:Cx) (e:Expr) (t:TE):Prop :=
 ∀ (o6:A2) (s:An) (σ:St) (H:Hp) (Q:VK),Inv X o6 σ H s->t σ H Q->wpAny (model X.prog X.w) X.A (eval e X.env) (EP X o6 σ Q) X.xe s
def PT (X:Cx) (e:Expr) (t:TT):Prop :=
 ∀ (o6:A2) (s:An) (σ:St) (H:Hp) (Q:Bool->Hp->Prop),Inv X o6 σ H s->t σ H Q->wpAny (model X.prog X.w) X.A (isTrue e X.env (eval e X.env)) (TP X o6 σ Q) X.xe s
def PW (X:Cx) (e:Expr) (t:TT):Prop :=
 ∀ (whole:Sem Value) (o6:A2) (s:An) (σ:St) (H:Hp) (Q:Bool->Hp->Prop),Inv X o6 σ H s->t σ H Q->wpAny (model X.prog X.w) X.A (isTrue e X.env whole) (TP X o6 σ Q) X.xe s
def PW.pt {e:Expr} {t:TT} (h:PW X e t):PT X e t:=h _
def PA (X:Cx) (es:List Expr) (t:TA):Prop :=
 ∀ (pos:Pos) (o6:A2) (s:An) (σ:St) (H:Hp) (Q:List V->Hp->Prop),Inv X o6 σ H s->t σ H Q->wpAny (model X.prog X.w) X.A (spliced (backTo pos (starEach es X.env))) (AP X o6 σ Q) X.xe s
def PS (X:Cx) (st:Stmt) (t:TS):Prop :=
 ∀ (o6:A2) (s:An) (σ:St) (H:Hp) (D:Ends),Inv X o6 σ H s->t D σ H->wpAny (model X.prog X.w) X.A (exec st X.env) (SP X o6 D) X.xe s
def PSs (X:Cx) (st:List Stmt) (t:TS):Prop :=
 ∀ (o6:A2) (s:An) (σ:St) (H:Hp) (D:Ends),Inv X o6 σ H s->t D σ H->wpAny (model X.prog X.w) X.A (execs st X.env) (SP X o6 D) X.xe s
def thn {α:Type} {t:Sem α} {Q Q':α->Shared->Prop} (h:wpAny M A t Q E s) (hQ:∀ a s,Q a s->Q' a s):wpAny M A t Q' E s:=aS h hQ λ _ _ x=>x
def qL {Q:VK} {t:Sem Value} {Q':A3} (h:wpAny M A t (EP X o6 σ Q) E s) (k:∀ u s1 x H1,Inv X o6 σ H1 s1->RelV x u->Q x H1->Q' u s1):wpAny M A t Q' E s:=thn h λ u s1 e=>by
 obtain ⟨x,H1,I1,r,q⟩:=e;exact k u s1 x H1 I1 r q
def vF {Q:List V->Hp->Prop} {t:Sem A7} {Q':List Value->Shared->Prop} (h:wpAny M A t (AP X o6 σ Q) E s) (k:∀ us s1 vs H1,Inv X o6 σ H1 s1->Vals vs us->Q vs H1->Q' us s1):wpAny M A t Q' E s:=thn h λ u s1 e=>by
 obtain ⟨x,H1,I1,r,q⟩:=e;exact k u s1 x H1 I1 r q
section
variable {X:Cx}
def bq:V->(Bool->Prop)->Prop
 | .bl k,P=>P k
 | _,_=>False
def Vb {x:V} {P:Bool->Prop} (h:bq x P):∃ k,x=.bl k/\P k:=by
 cases x <;> first|exact ⟨_,rfl,h⟩|exact False.elim h
def iq:V->(Int->Prop)->Prop
 | .int i,P=>P i
 | _,_=>False
def Qr {x:V} {P:Int->Prop} (h:iq x P):∃ i,x=.int i/\P i:=by
 cases x <;> first|exact ⟨_,rfl,h⟩|exact False.elim h
def Q5 {x y:V} {P:Int->Int->Prop} (h:iq x λ i=>iq y λ j=>P i j):∃ i j,x=.int i/\y=.int j/\P i j:=by
 obtain ⟨i,e,h⟩:=Qr h;obtain ⟨j,e2,h⟩:=Qr h;exact ⟨i,j,e,e2,h⟩
def nq:V->Prop->Prop
 | .non,P=>P
 | _,_=>False
def zcZ {x:V} {P:Prop} (h:nq x P):x=.non/\P:=by
 cases x <;> first|exact ⟨rfl,h⟩|exact False.elim h
def lq:List V->(V->Prop)->Prop
 | [v],P=>P v
 | _,_=>False
theorem zfF:∀ {xs:Ap} {P:V->Prop},lq xs P->∃ v,xs=[v]/\P v
 | [_],_,h=>⟨_,rfl,h⟩
 | [],_,h=>h.elim
 | _ :: _ :: _,_,h=>h.elim
def vq:Option Aq->(V->Prop)->Prop
 | some (some v),P=>P v
 | _,_=>False
theorem zhu:∀ {o:Option Aq} {P:V->Prop},vq o P->∃ v,o=some (some v)/\P v
 | some (some v),_,h=>⟨v,rfl,h⟩
 | some none,_,h=>h.elim
 | none,_,h=>h.elim
def szl (xs:Ap) (P:Prop):Prop:=cond (Nat.ble xs.length 12) P False
def zbN {xs:Ap} {P:Prop} (h:szl xs P):xs.length<=sizeLine/\P:=by
 unfold szl at h;cases e:Nat.ble xs.length 12 with
 | true=>rw [e] at h;exact ⟨aZ (Nat.le_of_ble_eq_true e) (by decide),h⟩
 | false=>rw [e] at h;exact h.elim
def tVar (i:Nat):TE:=λ σ H Q=>vq σ[i]? λ v=>Q v H
def tC (v:V):TE:=λ _ H Q=>Q v H
def zib (hN:X.N[i]?=some x) (hv:Vis X.env.scope x) (hd:(x == ("__debug__":Str))=false:=by decide) (hcd:(x == ("__classdict__":Str))=false:=by decide):PE X (.Name x pos) (tVar i):=by
 intro o6 s σ H Q I h;obtain ⟨v,e,h⟩:=zhu h;obtain ⟨m,hn,hl⟩:=I.loc;obtain ⟨u,r,l⟩:=hl i x v hN e hv;have fin:EP X o6 σ Q u s:=⟨v,H,I,r,h⟩;rcases l with ⟨hk,hm⟩|⟨hk,c,hc,hcell⟩
 ·exact wpAny_Name (wpAny_loadName_local I.ok.kind hk hn hm fin) hd
 ·rcases hk with hk|hk
  ·exact wpAny_Name (wpAny_loadName_cell I.ok.kind hk hc hcell fin) hd
  ·exact wpAny_Name (wpAny_loadName_free I.ok.kind hk hc hcell fin hcd) hd
def ze {i j pos}:PE X (.Constant (.int i) j pos) (tC (.int i)):=λ _ _ _ H _ I h=>wpAny_Constant_int ⟨.int i,H,I.tok _,⟨_,rfl⟩,h⟩
def Xr {b j pos}:PE X (.Constant (.bool b) j pos) (tC (.bl b)):=λ _ _ _ H _ I h=>Constant_bool ⟨.bl b,H,I,rfl,h⟩
def zA {j pos}:PE X (.Constant .none j pos) (tC .non):=λ _ _ _ H _ I h=>Constant_none ⟨.non,H,I,rfl,h⟩
def zO {x j pos}:PE X (.Constant (.str x) j pos) (tC (.str x)):=λ _ _ _ H _ I h=>Calls.Constant_str ⟨.str x,H,I.tok _,⟨_,rfl⟩,h⟩
def Gl (X:Cx) (x:Str):Prop:=X.env.kindOf x=some .globalImplicit
def jS (I:Inv X o6 σ H s) (hg:Gl X x) (hm:X.mg x=some u) (h:Q u s)
  (hd:(x == ("__debug__":Str))=false:=by decide):wpAny (model X.prog X.w) X.A (eval (.Name x pos) X.env) Q E s :=
 gf I.ok.kind hg (Calls.loadGlobal_global (by rw [I.ok.glob];exact I.mod.glob.keeps I.bk) hm h) hd
def vp (I:Inv X o6 σ H s) (hg:Gl X x) (hm:X.mg x=none) (hv:bootBuiltins x=some u) (h:Q u s)
  (hn:x≠"__name__":=by decide) (hd:(x == ("__debug__":Str))=false:=by decide):wpAny (model X.prog X.w) X.A (eval (.Name x pos) X.env) Q E s:=by
 obtain ⟨mb,h1,h2⟩:=I.mod.blt;exact gf I.ok.kind hg (Calls.loadGlobal_builtin (by rw [I.ok.glob];exact I.mod.glob.keeps I.bk) hm (by rw [I.ok.blt];exact h1.keeps I.bk) ((h2 x hn).trans hv) h) hd
variable {a b:Expr} {ta tb:TE} {pos:Pos}
def PC (X:Cx) (op:CmpOp) (a b:Expr) (t:TE):Prop :=
 ∀ (o6:A2) (s:An) (σ:St) (H:Hp) (Q:VK),Inv X o6 σ H s->t σ H Q ->
  wpAny (model X.prog X.w) X.A (eval a X.env) (λ v s₁=>wpAny (model X.prog X.w) X.A (eval b X.env) (λ u s₂=>wpAny (model X.prog X.w) X.A (compareOp op v u) (EP X o6 σ Q) X.xe s₂) X.xe s₁) X.xe s
def nobehind (b:Expr) (h:op≠.In) (h2:op≠.NotIn):behindInMarks op b=false:=by
 have e1:(op == CmpOp.In)=false:=by cases op <;> first|rfl|exact absurd rfl h
 have e2:(op == CmpOp.NotIn)=false:=by cases op <;> first|rfl|exact absurd rfl h2
 cases b <;> simp [behindInMarks,e1,e2]
def RelV.none_iff {x:V} {v:Am} (r:RelV x v):(v == Value.none)=decide (x=.non):=by
 cases x with
 | non=>cases r;rfl
 | bl _=>cases r;rfl
 | int _=>obtain ⟨t,rfl⟩:=r;rfl
 | str _=>obtain ⟨t,rfl⟩:=r;rfl
 | byt _=>obtain ⟨t,rfl⟩:=r;rfl
 | flt _=>obtain ⟨t,rfl⟩:=r;rfl
 | ref _=>cases r;rfl
 | ty _=>cases r;rfl
def tB (t:TE):TT:=λ σ H Q=>t σ H λ x H1=>bq x λ c=>Q c H1
def zfi {t:TE} (h:PC X op a b t) (h1:behindInMarks op b=false:=by walk_at "q"):PT X (.Compare a [op] [b] pos) (tB t):=by
 intro o6 s σ H Q I hw;refine wpAny_isTrue_Compare1 (thn (h o6 s σ H _ I hw) λ v s1 h1=>thn h1 λ u s2 h2=>thn h2 λ c s3 ⟨x,H1,I1,r1,q1⟩=>?_) h1;obtain ⟨d,rfl,q⟩:=Vb q1;cases r1;exact bR ⟨H1,I1,q⟩
variable {tA tB':TT} {rest:List Expr}
def tAnd (t u:TT):TT:=λ σ H Q=>t σ H λ c H1=>if c=true then u σ H1 Q else Q false H1
def tOr (t u:TT):TT:=λ σ H Q=>t σ H λ c H1=>if c=true then Q true H1 else u σ H1 Q
def tNot (t:TT):TT:=λ σ H Q=>t σ H λ c H1=>Q (!c) H1
def pw_and1 (ha:PT X a tA):PW X (.BoolOp .And [a] pos) tA:=by
 intro wh o6 s σ H Q I h;refine isTrue_and (thn (ha o6 s σ H Q I h) λ c s1 e=>?_);cases c with
 | true=>exact isTrue_and_nil e
 | false=>exact e
def pw_or1 (ha:PT X a tA):PW X (.BoolOp .Or [a] pos) tA:=by
 intro wh o6 s σ H Q I h;refine isTrue_or (thn (ha o6 s σ H Q I h) λ c s1 e=>?_);cases c with
 | false=>exact isTrue_or_nil e
 | true=>exact e
def pw_and (ha:PT X a tA) (hb:PW X (.BoolOp .And (b :: rest) pos) tB'):PW X (.BoolOp .And (a :: b :: rest) pos) (tAnd tA tB'):=by
 intro wh o6 s σ H Q I h;refine isTrue_and (thn (ha o6 s σ H _ I h) λ c s1 ⟨H1,I1,q1⟩=>?_);cases c with
 | true=>exact hb wh o6 s1 σ H1 Q I1 q1
 | false=>exact ⟨H1,I1,q1⟩
def pw_or (ha:PT X a tA) (hb:PW X (.BoolOp .Or (b :: rest) pos) tB'):PW X (.BoolOp .Or (a :: b :: rest) pos) (tOr tA tB'):=by
 intro wh o6 s σ H Q I h;refine isTrue_or (thn (ha o6 s σ H _ I h) λ c s1 ⟨H1,I1,q1⟩=>?_);cases c with
 | true=>exact ⟨H1,I1,q1⟩
 | false=>exact hb wh o6 s1 σ H1 Q I1 q1
def jv (ha:PT X a tA):PT X (.UnaryOp .Not a pos) (tNot tA):=by
 intro o6 s σ H Q I h;exact isTrue_not (ha o6 s σ H (λ c H1=>Q (!c) H1) I h)
def tAndV (ta tb:TE):TE:=λ σ H Q=>ta σ H λ x H1=>bq x λ c=>if c=true then tb σ H1 Q else Q (.bl false) H1
def zid {op} {t:TE} (h:PE X a t):PE X (.BoolOp op [a] pos) t:=λ o6 s σ H Q I hw=>BoolOp_one (h o6 s σ H Q I hw)
def zif (ha:PE X a ta) (hb:PE X (.BoolOp .And (b :: rest) pos) tb):PE X (.BoolOp .And (a :: b :: rest) pos) (tAndV ta tb):=by
 intro o6 s σ H Q I h;refine BoolOp_and (qL (ha o6 s σ H _ I h) λ v s1 x H1 I1 r1 q1=>?_);obtain ⟨c,rfl,q1⟩:=Vb q1;cases r1;refine bR ?_;cases c with
 | true=>exact hb o6 s1 σ H1 Q I1 q1
 | false=>exact ⟨.bl false,H1,I1,rfl,q1⟩
def tIf (t:TT) (ta tb:TE):TE:=λ σ H Q=>t σ H λ c H1=>if c=true then ta σ H1 Q else tb σ H1 Q
def wF {c:Expr} (hc:PT X c tA) (ha:PE X a ta) (hb:PE X b tb):PE X (.IfExp c a b pos) (tIf tA ta tb):=by
 intro o6 s σ H Q I h;refine wpAny_IfExp (thn (hc o6 s σ H _ I h) λ d s1 ⟨H1,I1,q1⟩=>?_);cases d with
 | true=>exact ha o6 s1 σ H1 Q I1 q1
 | false=>exact hb o6 s1 σ H1 Q I1 q1
end
def SqL (K:A0) (H:Hp) (a:Addr) (xs:Ap):Prop :=
 Rd H a (.lst xs) \/
  ∃ (o:Obj) (oo:Ac) (n:Nat),K.lookup a=some o/\o.cls=.type "list"/\o.dict=none/\o.data=.seq oo n/\oo.size<=sizeLine/\Vals xs oo.toList
def SqT (K:A0) (H:Hp) (a:Addr) (xs:Ap):Prop :=
 Rd H a (.tup xs) \/
  ∃ (o:Obj) (oo:Ac) (n:Nat),K.lookup a=some o/\o.cls=.type "tuple"/\o.data=.seq oo n/\oo.size<=sizeLine/\Vals xs oo.toList
noncomputable def zj1:Value->Option V
 | .none=>some .non
 | .bool b=>some (.bl b)
 | .int i _=>some (.int i)
 | .str x _=>some (.str x)
 | .bytes b _=>some (.byt b)
 | .float b _=>some (.flt b)
 | .ref a=>some (.ref a)
 | .type n=>some (.ty n)
 | _=>none
def RelV.abs {x:V} (r:RelV x u):zj1 u=some x:=by
 cases x with
 | non=>cases r;rfl
 | bl _=>cases r;rfl
 | int _=>obtain ⟨t,rfl⟩:=r;rfl
 | str _=>obtain ⟨t,rfl⟩:=r;rfl
 | byt _=>obtain ⟨t,rfl⟩:=r;rfl
 | flt _=>obtain ⟨t,rfl⟩:=r;rfl
 | ref _=>cases r;rfl
 | ty _=>cases r;rfl
def RelV.inj {x y:V} (r:RelV x u) (q:RelV y u):x=y:=aI (r.abs.symm.trans q.abs)
theorem Vals.inj:∀ {xs ys:Ap} {us:A7},Vals xs us->Vals ys us->xs=ys
 | _,_,_,.nil,.nil=>rfl
 | _,_,_,.cons r t,.cons r' t'=>by rw [r.inj r',Vals.inj t t']
section
variable {X:Cx} {o6:A2} {σ:St} {H:Hp} {s:An} {a:Addr} {xs ys:Ap}
def SqL.of (h:H a=some (.lst xs)):SqL K H a xs:=.inl (.inl h)
def SqT.of (h:H a=some (.tup xs)):SqT K H a xs:=.inl (.inl h)
def Inv.list (I:Inv X o6 σ H s) (h:SqL X.K H a xs):∃ oo:List Value,Vals xs oo/\PlainL s.heap a oo.toArray/\xs.length<=sizeLine:=by
 rcases h with h|⟨o,oo,n,hk,hc,hd,hs,hz,r⟩
 ·obtain ⟨z,oo,n,r,e⟩:=h.ok I.hok;exact ⟨oo,r,⟨_,n,e,rfl,rfl,rfl⟩,z⟩
 ·refine ⟨oo.toList,r,⟨o,n,I.kIn a o hk,hc,hd,by simpa using hs⟩,?_⟩;have e:=r.length;simp only [bQ] at e
  lia
def Inv.tuple (I:Inv X o6 σ H s) (h:SqT X.K H a xs):∃ oo:List Value,Vals xs oo/\IsTup s.heap a oo.toArray/\xs.length<=sizeLine:=by
 rcases h with h|⟨o,oo,n,hk,hc,hs,hz,r⟩
 ·obtain ⟨z,oo,r,p⟩:=h.ok I.hok;exact ⟨oo,r,p,z⟩
 ·refine ⟨oo.toList,r,⟨o,I.kIn a o hk,hc,n,by simpa using hs⟩,?_⟩;have e:=r.length;simp only [bQ] at e
  lia
def Inv.list_inj (I:Inv X o6 σ H s) (h:SqL X.K H a xs) (h':SqL X.K H a ys):xs=ys:=by
 obtain ⟨oo,r,⟨o,n,e,_,_,d⟩,_⟩:=I.list h;obtain ⟨its',r',⟨o',n',e',_,_,d'⟩,_⟩:=I.list h';rw [e] at e';cases e';rw [d] at d';injection d' with d1 _
 have:oo=its':=by simpa using bh Array.toList d1
 subst this;exact r.inj r'
def Inv.tuple_inj (I:Inv X o6 σ H s) (h:SqT X.K H a xs) (h':SqT X.K H a ys):xs=ys:=by
 obtain ⟨oo,r,⟨o,e,_,n,d⟩,_⟩:=I.tuple h;obtain ⟨its',r',⟨o',e',_,n',d'⟩,_⟩:=I.tuple h';rw [e] at e';cases e';rw [d] at d';injection d' with d1 _
 have:oo=its':=by simpa using bh Array.toList d1
 subst this;exact r.inj r'
end
noncomputable abbrev Cx.wish (X:Cx) (E:A3):Cx:={ X with xe:=E }
noncomputable abbrev Cx.nox (X:Cx):Cx:=X.wish λ _ _=>False
def Cx.Ok.wish (ok:X.Ok) (E:A3):(X.wish E).Ok :=
 ⟨ok.mod,ok.kind,ok.glob,ok.blt,ok.above,ok.inj,ok.has,ok.cab,ok.hd,ok.frames,ok.stk,ok.exf,ok.bs,ok.bsz,ok.noex,ok.exfs,ok.funs,ok.frf⟩
def Cx.Ok.unwish (ok:(X.wish E).Ok):X.Ok :=
 ⟨ok.mod,ok.kind,ok.glob,ok.blt,ok.above,ok.inj,ok.has,ok.cab,ok.hd,ok.frames,ok.stk,ok.exf,ok.bs,ok.bsz,ok.noex,ok.exfs,ok.funs,ok.frf⟩
section
variable {X:Cx} {o6:A2} {σ:St} {H:Hp} {s:An} {E:A3}
def Inv.wish (I:Inv X o6 σ H s) (E:A3):Inv (X.wish E) o6 σ H s:=⟨I.ok.wish E,I.os,I.bare,I.base,I.loc,I.cell,I.free,I.freeC,I.pin,I.hok,I.len⟩
def Inv.unwish (I:Inv (X.wish E) o6 σ H s):Inv X o6 σ H s:=⟨I.ok.unwish,I.os,I.bare,I.base,I.loc,I.cell,I.free,I.freeC,I.pin,I.hok,I.len⟩
def SP.unwish {D:Ends} {f:Flow} {s':An} (h:SP (X.wish E) o6 D f s'):SP X o6 D f s':=by
 cases f with
 | next=>obtain ⟨σ',H',I,q⟩:=h;exact ⟨σ',H',I.unwish,q⟩
 | brk=>obtain ⟨σ',H',I,q⟩:=h;exact ⟨σ',H',I.unwish,q⟩
 | cont=>obtain ⟨σ',H',I,q⟩:=h;exact ⟨σ',H',I.unwish,q⟩
 | ret u=>obtain ⟨v,σ',H',I,r,q⟩:=h;exact ⟨v,σ',H',I.unwish,r,q⟩
def PE.nox {e:Expr} {t:TE} (h:PE X.nox e t):PE X e t:=λ o6 s σ H Q I hw =>
 aS (h o6 s σ H Q (I.wish _) hw) (λ _ _ ⟨v,H',I',r,q⟩=>⟨v,H',I'.unwish,r,q⟩) λ _ _ z=>False.elim z
def PT.nox {e:Expr} {t:TT} (h:PT X.nox e t):PT X e t:=λ o6 s σ H Q I hw =>
 aS (h o6 s σ H Q (I.wish _) hw) (λ _ _ ⟨H',I',q⟩=>⟨H',I'.unwish,q⟩) λ _ _ z=>False.elim z
def PSs.nox {st:List Stmt} {t:TS} (h:PSs X.nox st t):PSs X st t:=λ o6 s σ H D I hw =>
 aS (h o6 s σ H D (I.wish _) hw) (λ _ _ q=>q.unwish) λ _ _ z=>False.elim z
end
section
variable {X:Cx} {st:Stmt} {rest:List Stmt} {t u:TS} {e:Expr} {te:TE} {pos:Pos}
def tNext:TS:=λ D σ H=>D.nx σ H
def tSeq (t u:TS):TS:=λ D σ H=>t { D with nx:=u D } σ H
def zp:PSs X [] tNext:=λ _ _ σ H _ I h=>cC ⟨σ,H,I,h⟩
def zh (h1:PS X st t) (h2:PSs X rest u):PSs X (st :: rest) (tSeq t u):=by
 intro o6 s σ H D I h;refine fj (thn (h1 o6 s σ H { D with nx:=u D } I h) λ f s1 q=>?_);cases f with
 | next =>
  obtain ⟨σ',H',I',q⟩:=q;exact h2 o6 s1 σ' H' D I' q
 | ret v=>exact q
 | brk=>exact q
 | cont=>exact q
def zd (h1:PS X st t):PSs X [st] t:=by
 intro o6 s σ H D I h;refine fj (thn (h1 o6 s σ H D I h) λ f s1 q=>?_);cases f with
 | next=>exact cC q
 | ret v=>exact q
 | brk=>exact q
 | cont=>exact q
def tBreak:TS:=λ D σ H=>D.bk σ H
def zfl:PS X (.Break pos) tBreak:=λ _ _ σ H _ I h=>wpAny_Break ⟨σ,H,I,h⟩
def Inv.quiet (I:Inv X o6 σ H s):interactive X.env=false:=by simp [interactive,I.ok.kind]
def tDrop (te:TE):TS:=λ D σ H=>te σ H λ _ H1=>D.nx σ H1
def zG (he:PE X e te) (hs:swapsWith e none pos.line X.env=pure false:=by rfl):PS X (.Expr e pos) (tDrop te):=by
 intro o6 s σ H D I h;exact wpAny_Expr_any (qL (he o6 s σ H _ I h) λ v s1 x H1 I1 r1 q1=>⟨σ,H1,I1,q1⟩) I.quiet hs
def tRet (te:TE):TS:=λ D σ H=>te σ H D.rt
def zk (he:PE X e te):PS X (.Return (some e) pos) (tRet te):=by
 intro o6 s σ H D I h;exact wpAny_Return_some (qL (he o6 s σ H _ I h) λ v s1 x H1 I1 r1 q1=>⟨x,σ,H1,I1,r1,q1⟩)
def tIfS (c:TT) (t u:TS):TS:=λ D σ H=>c σ H λ b H1=>if b=true then t D σ H1 else u D σ H1
def zF {c:Expr} {a b:List Stmt} {tc:TT} (hc:PT X c tc) (ha:PSs X a t) (hb:PSs X b u):PS X (.If c a b pos) (tIfS tc t u):=by
 intro o6 s σ H D I h;refine wpAny_If (thn (hc o6 s σ H _ I h) λ d s1 ⟨H1,I1,q1⟩=>?_);cases d with
 | true=>exact ha o6 s1 σ H1 D I1 q1
 | false=>exact hb o6 s1 σ H1 D I1 q1
def tNever:TS:=λ _ _ _=>False
def zfk:PS X st tNever:=λ _ _ _ _ _ _ h=>h.elim
end
abbrev TG:=V->St->Hp->(St->Hp->Prop)->Prop
abbrev TGs:=List V->St->Hp->(St->Hp->Prop)->Prop
def PG (X:Cx) (target:Expr) (t:TG):Prop :=
 ∀ (o6:A2) (s:An) (σ:St) (H:Hp) (v:V) (u:Am) (Q:St->Hp->Prop),Inv X o6 σ H s->RelV v u->t v σ H Q ->
  wpAny (model X.prog X.w) X.A (assign target X.env u) (λ _ s'=>∃ σ' H',Inv X o6 σ' H' s'/\Q σ' H') X.xe s
def PGs (X:Cx) (ts:List Expr) (t:TGs):Prop :=
 ∀ (o6:A2) (s:An) (σ:St) (H:Hp) (vs:Ap) (us:A7) (Q:St->Hp->Prop),Inv X o6 σ H s->Vals vs us->t vs σ H Q ->
  wpAny (model X.prog X.w) X.A (assignInOrder ((assignEach ts X.env).map (·.2)) us) (λ _ s'=>∃ σ' H',Inv X o6 σ' H' s'/\Q σ' H') X.xe s
abbrev zgn:=V->V->V->Hp->(Hp->Prop)->Prop
def ziX (X:Cx) (t:zgn):Prop :=
 ∀ (o6:A2) (s:An) (σ:St) (H:Hp) (o i v:V) (ov iv u:Am) (Q:Hp->Prop),Inv X o6 σ H s->RelV o ov->RelV i iv->RelV v u->t o i v H Q ->
  wpAny (model X.prog X.w) X.A (setItem ov iv u) (λ _ s'=>∃ H',Inv X o6 σ H' s'/\Q H') X.xe s
abbrev TIp:=V->V->Hp->VK->Prop
def PIp (X:Cx) (op:Operator) (t:TIp):Prop :=
 ∀ (o6:A2) (s:An) (σ:St) (H:Hp) (x y:V) (v u:Am) (Q:VK),Inv X o6 σ H s->RelV x v->RelV y u->t x y H Q ->
  wpAny (model X.prog X.w) X.A (inplaceOp op v u) (EP X o6 σ Q) X.xe s
section
variable {X:Cx} {pos:Pos}
def gName (i:Nat):TG:=λ v σ H Q=>Q (σ.set i (some v)) H
def Zn (hN:X.N.Nodup) (hi:X.N[i]?=some x) (hx:Loc X.env.scope x) (hf:X.fn x=true\/X.env.scope.names.lookup x=some .local:=by walk_at "p"):PG X (.Name x pos) (gName i):=by
 intro o6 s σ H v u Q I r h;exact wpAny_assign_Name (JW I hN hi hx r (λ s' I'=>⟨_,H,I',h⟩) hf)
def gNil:TGs:=λ vs σ H Q=>vs=[]/\Q σ H
def gCons (t:TG) (u:TGs):TGs:=λ vs σ H Q=>∃ v r,vs=v :: r/\t v σ H λ σ' H'=>u r σ' H' Q
def xf:PGs X [] gNil:=by
 intro o6 s σ H vs us Q I r h;obtain ⟨e,h⟩:=h;subst e;cases r;exact assignInOrder_nil ⟨σ,H,I,h⟩
theorem qc {e:Expr} {es:List Expr} {t:TG} {u:TGs} (h1:PG X e t) (h2:PGs X es u)
  (hs:(assignEach (e :: es) X.env).map (·.2)=assign e X.env :: (assignEach es X.env).map (·.2):=by rfl):PGs X (e :: es) (gCons t u):=by
 intro o6 s σ H vs us Q I r h;obtain ⟨v,vr,e1,h⟩:=h;subst e1;cases r with
 | cons r rr =>
  rw [hs];refine assignInOrder_cons (thn (h1 o6 s σ H _ _ _ I r h) λ _ s1 ⟨σ1,H1,I1,q1⟩=>?_);exact h2 o6 s1 σ1 H1 _ _ Q I1 rr q1
def gTup (K:A0) (n:Nat) (t:TGs):TG:=λ v σ H Q=>∃ a xs,v=.ref a/\SqT K H a xs/\xs.length=n/\t xs σ H Q
def wv {es:List Expr} {t:TGs} {n:Nat} (hc:X.calm=true) (h:PGs X es t)
  (hn:(assignEach es X.env).length=n:=by rfl) (hst:(assignEach es X.env).findIdx? (·.1)=none:=by rfl):PG X (.Tuple es k pos) (gTup X.K n t):=by
 intro o6 s σ H v u Q I r hw;obtain ⟨a,xs,e1,hq,hl,hw⟩:=hw;subst e1;cases r;obtain ⟨oo,rv,ht,hz⟩:=I.tuple hq;refine assign_Tuple_tuple (I.ok.hd hc) ht (by simp [hn,<- hl,rv.length]) hst λ h' hx=>?_;have I1:Inv X o6 σ H { s with heap:=h' }:=I.kept (t':=s.toks) λ b o e=>hx b o (aR (aA e)) e;exact h o6 _ σ H xs _ Q I1 (by simpa using rv) hw
def gSub (to ti:TE) (t:zgn):TG:=λ v σ H Q=>to σ H λ o H1=>ti σ H1 λ i H2=>t o i v H2 λ H3=>Q σ H3
def vT {o i:Expr} {to ti:TE} {t:zgn} (ho:PE X o to) (hi:PE X i ti) (hs:ziX X t)
  (ha:∀ v,assign (.Subscript o i pos) X.env v=(do
   let ov <- holding [v] (eval o X.env)
   let iv <- holding [v,ov] (eval i X.env)
   standAt pos
   holding [v,ov,iv] (setItem ov iv v)
   release [v,ov,iv] []):=by intro _;rfl):PG X (.Subscript o i pos) (gSub to ti t):=by
 intro o6 s σ H v u Q I r h;rw [ha];refine ai (eu (qL (ho o6 s σ H _ I h) λ ov s1 x H1 I1 r1 q1=>?_));refine ai (eu (qL (hi o6 s1 σ H1 _ I1 q1) λ iv s2 y H2 I2 r2 q2=>?_));refine ai (gA (ai (eu (thn (hs o6 s2 σ H2 x y v ov iv u _ I2 r1 r2 r q2) λ _ s3 ⟨H3,I3,q3⟩=>?_))));exact wpAny_release ⟨σ,H3,I3,q3⟩
def tAsg (te:TE) (g:TG):TS:=λ D σ H=>te σ H λ x H1=>g x σ H1 D.nx
def vd {tg e:Expr} {te:TE} {g:TG} (he:PE X e te) (hg:PG X tg g) (hs:swapsWithSole [tg] e pos.line X.env=pure false:=by rfl) (hw:swappedStores [tg] e X.env=pure none:=by rfl)
  (h1:(assignEach [tg] X.env).map (·.2)=[assign tg X.env]:=by rfl):PS X (.Assign [tg] e pos) (tAsg te g):=by
 intro o6 s σ H D I h;refine wpAny_Assign_stores (qL (he o6 s σ H _ I h) λ v s1 x H1 I1 r1 q1=>?_) hs hw;rw [h1];exact thn (hg o6 s1 σ H1 x v _ I1 r1 q1) λ _ s2 q=>q
def zfj {e:Expr} {te:TE} {pos':Pos} (hN:X.N.Nodup) (hi:X.N[i]?=some x) (hx:Loc X.env.scope x) (he:PE X e te) (hs:swapsWith e (some (.Name x pos')) pos.line X.env=pure false:=by rfl) (hf:X.fn x=true\/X.env.scope.names.lookup x=some .local:=by walk_at "p") :
  PS X (.Assign [.Name x pos'] e pos) (tAsg te (gName i)):=by
 intro o6 s σ H D I h;refine wpAny_Assign_Name (qL (he o6 s σ H _ I h) λ v s1 y H1 I1 r1 q1=>?_) hs;exact JW I1 hN hi hx r1 (λ s2 I2=>⟨_,H1,I2,q1⟩) hf
def tAug (i:Nat) (te:TE) (ti:TIp):TS:=λ D σ H=>vq σ[i]? λ x=>te σ H λ y H1=>ti x y H1 λ z H2=>D.nx (σ.set i (some z)) H2
def zh8 {e:Expr} {te:TE} {op:Operator} {ti:TIp} {pos':Pos} (hN:X.N.Nodup) (hi:X.N[i]?=some x) (hx:Loc X.env.scope x) (he:PE X e te) (ho:PIp X op ti) (hf:X.fn x=true\/X.env.scope.names.lookup x=some .local:=by walk_at "p") :
  PS X (.AugAssign (.Name x pos') op e pos) (tAug i te ti):=by
 intro o6 s σ H D I h;obtain ⟨v,e1,h⟩:=zhu h;obtain ⟨m,hn,hl⟩:=I.loc;have vis:Vis X.env.scope x:=by rcases hx with k|k;exact .inl k;exact .inr (.inl k)
 obtain ⟨u,r,l⟩:=hl i x v hi e1 vis;refine wpAny_AugAssign_Name ?_;have go:wpAny (model X.prog X.w) X.A (eval e X.env) (λ w s₂=>wpAny (model X.prog X.w) X.A (inplaceOp op u w) (λ r s₃=>wpAny (model X.prog X.w) X.A (storeName X.env x r) (λ _=>SP X o6 D .next) X.xe s₃) X.xe s₂) X.xe s:=by
  refine qL (he o6 s σ H _ I h) λ w s1 y H1 I1 r1 q1=>?_;refine qL (ho o6 s1 σ H1 v y u w _ I1 r r1 q1) λ z s2 zv H2 I2 r2 q2=>?_;exact JW I2 hN hi hx r2 (λ s3 I3=>⟨_,H2,I3,q2⟩) hf
 rcases l with ⟨hk,hm⟩|⟨hk,c,hc,hcell⟩
 ·exact wpAny_loadName_local I.ok.kind hk hn hm go
 ·rcases hk with hk|hk
  ·exact wpAny_loadName_cell I.ok.kind hk hc hcell go
  ·rcases hx with k|k
   ·have:X.env.scope.names.lookup x=some .free:=hk;rw [k] at this;cases this
   ·have:X.env.scope.names.lookup x=some .free:=hk;rw [k] at this;cases this
def zhy (to ti te:TE) (tget:V->V->Hp->VK->Prop) (tip:TIp) (tset:zgn):TS:=λ D σ H=>to σ H λ o H1=>ti σ H1 λ i H2=>tget o i H2 λ x H3=>te σ H3 λ y H4=>tip x y H4 λ z H5=>tset o i z H5 λ H6=>D.nx σ H6
def zjI (X:Cx) (t:V->V->Hp->VK->Prop):Prop :=
 ∀ (o6:A2) (s:An) (σ:St) (H:Hp) (o i:V) (ov iv:Am) (Q:VK),Inv X o6 σ H s->RelV o ov->RelV i iv->t o i H Q ->
  wpAny (model X.prog X.w) X.A (getItem ov iv) (EP X o6 σ Q) X.xe s
def zgQ {o i e:Expr} {to ti te:TE} {tget:V->V->Hp->VK->Prop} {tip:TIp} {tset:zgn} {op:Operator} {tpos:Pos} (ho:PE X o to) (hi:PE X i ti) (hg:zjI X tget) (he:PE X e te) (hp:PIp X op tip) (hs:ziX X tset)
  (ha:∀ ov iv new,augStore i ov iv new=(do holding [new,ov,iv] (setItem ov iv new);release [new,ov,iv] [];pure .next):=by intros;rfl):PS X (.AugAssign (.Subscript o i tpos) op e pos) (zhy to ti te tget tip tset):=by
 intro o6 s σ H D I h;refine wpAny_AugAssign_SubscriptAny (qL (ho o6 s σ H _ I h) λ ov s1 x1 H1 I1 r1 q1=>?_) ha;refine qL (hi o6 s1 σ H1 _ I1 q1) λ iv s2 x2 H2 I2 r2 q2=>?_;refine qL (hg o6 s2 σ H2 x1 x2 ov iv _ I2 r1 r2 q2) λ old s3 x3 H3 I3 r3 q3=>?_;refine qL (he o6 s3 σ H3 _ I3 q3) λ v s4 x4 H4 I4 r4 q4=>?_;refine qL (hp o6 s4 σ H4 x3 x4 old v _ I4 r3 r4 q4) λ new s5 x5 H5 I5 r5 q5=>?_;exact thn (hs o6 s5 σ H5 x1 x2 x5 ov iv new _ I5 r1 r2 r5 q5) λ _ s6 ⟨H6,I6,q6⟩=>⟨σ,H6,I6,q6⟩
def ipI (f:Int->Int->Int):TIp:=λ x y H Q=>iq x λ i=>iq y λ j=>Q (.int (f i j)) H
def ziE:PIp X .Add (ipI λ i j=>i + j):=by
 intro o6 s σ H x y v u Q I r1 r2 h;obtain ⟨i,j,e1,e2,q⟩:=Q5 h;subst e1;subst e2;obtain ⟨t,rfl⟩:=r1;obtain ⟨t',rfl⟩:=r2;exact iadd_int ⟨.int _,H,I.tok _,⟨_,rfl⟩,q⟩
def ziD:PIp X .Sub (ipI λ i j=>i - j):=by
 intro o6 s σ H x y v u Q I r1 r2 h;obtain ⟨i,j,e1,e2,q⟩:=Q5 h;subst e1;subst e2;obtain ⟨t,rfl⟩:=r1;obtain ⟨t',rfl⟩:=r2;exact isub_int ⟨.int _,H,I.tok _,⟨_,rfl⟩,q⟩
end
section
variable {X:Cx} {pos:Pos}
def zhP (c:TT) (tb:TS):TS:=λ D σ H=>∃ W:Nat->St->Hp->Prop,(∃ m,W m σ H)/\∀ m σ H,W m σ H ->
 c σ H λ b H1=>if b=true then ∃ N:St->Hp->Prop,(∀ σ' H',N σ' H'->∃ m',m' < m/\W m' σ' H')/\tb { D with nx:=N,ct:=N,bk:=D.nx } σ H1 else D.nx σ H1
def zaM {c:Expr} {body:List Stmt} {tc:TT} {tb:TS} (hp:PassesOwn (model X.prog X.w) X.A X.env X.xe) (hc:PT X c tc) (hb:PSs X body tb):PS X (.While c body [] pos) (zhP tc tb):=by
 intro o6 s σ H D I h;obtain ⟨W,⟨m0,w0⟩,turn⟩:=h;refine wpAny_While (codeAny_whileLoop (λ n s'=>∃ σ' H',Inv X o6 σ' H' s'/\W n σ' H') ?_ m0 ⟨σ,H,I,w0⟩);rintro n s1 ⟨σ1,H1,I1,w1⟩;refine b7 hp (thn (hc o6 s1 σ1 H1 _ I1 (turn n σ1 H1 w1)) λ b s2 ⟨H2,I2,q2⟩=>?_);cases b with
 | true =>
  obtain ⟨N,hN,q2⟩:=q2;rw [ap rfl];refine b7 hp (thn (hb o6 s2 σ1 H2 _ I2 q2) λ f s3 q3=>?_);cases f with
  | next =>
   obtain ⟨σ3,H3,I3,n3⟩:=q3;obtain ⟨m',hm,w3⟩:=hN σ3 H3 n3;exact ⟨m',hm,σ3,H3,I3,w3⟩
  | cont =>
   obtain ⟨σ3,H3,I3,n3⟩:=q3;obtain ⟨m',hm,w3⟩:=hN σ3 H3 n3;exact ⟨m',hm,σ3,H3,I3,w3⟩
  | brk=>exact q3
  | ret v=>exact q3
 | false =>
  rw [ao aC];exact cC ⟨σ1,H2,I2,q2⟩
end
structure It where
 go:Nat->Hp->Prop
 yld:Nat->Hp->V->Hp->Prop
 stop:Nat->Hp->Prop
def Q8 (X:Cx) (o6:A2) (H:Hp) (b:Addr):Prop :=
 H b=none/\b≠X.env.locals/\b ∉ X.fs/\(b∈X.ex\/X.s₀.heap.objs.size<=b)/\(∀ x c,X.env.cells.lookup x=some c->c≠b)/\∀ p∈X.pn ++ o6,p.1≠b
def Inv.fpOk {H H':Hp} (I:Inv X o6 σ H s) (hb:s.heap.objs.size<=b) (hn:H' b=none):Q8 X o6 H' b:=by
 refine ⟨hn,du (aK I.lt hb),I.nofs hb,.inr (aZ I.sz hb),λ x c e z=>?_,λ p hp z=>?_⟩
 ·obtain ⟨v,q⟩:=I.cell x c e;exact absurd (aK q.lt (by rw [z];exact hb)) (cg _)
 ·exact absurd (aK (aA (I.pin p hp).1) (by rw [z];exact hb)) (cg _)
structure Turn (P:Af) (w:World) (K:A0) (tg:Expr) (J:It) (fp:Ab) (it:Addr) (tn:Nat->Heap->Prop):Prop where
 mem:it∈fp
 obj:∀ i h,tn i h->∀ b∈fp,∃ o,h.get? b=some o/\∀ v,o.data≠.cell v
 keep:∀ i h h',tn i h->(∀ b∈fp,∀ o,h.get? b=some o->h'.get? b=some o)->tn i h'
 item:∀ (X:Cx),X.prog=P->X.w=w->X.K=K->X.calm=true->∀ (i:Nat) (o6:A2) (s:An) (σ:St) (H:Hp) (E:A3),Inv X o6 σ H s->(∀ b∈fp,Q8 X o6 H b)->tn i s.heap->J.go i H ->
  wpAny (model P w) X.A (pyNext (.ref it)) (λ r s1=>∃ u,r=some u /\
   wpAny (model P w) X.A (letOwnedTupleGo tg (.ref it) u) (λ _ s2=>∃ x H',Inv X o6 σ H' s2/\RelV x u/\J.yld i H x H'/\tn (i + 1) s2.heap/\∀ b∈fp,H' b=none) E s1) E s
 done:∀ (X:Cx),X.prog=P->X.w=w->X.K=K->X.calm=true->∀ (i:Nat) (o6:A2) (s:An) (σ:St) (H:Hp) (E:A3),Inv X o6 σ H s->(∀ b∈fp,Q8 X o6 H b)->tn i s.heap->J.stop i H ->
  wpAny (model P w) X.A (pyNext (.ref it)) (λ r s1=>r=none/\Inv X o6 σ H s1) E s
 self:∀ (A:Ao) (i:Nat) (s:An) (Q:A3) (E:A3),tn i s.heap->Q (.ref it) s->wpAny (model P w) A (pyIter (.ref it)) Q E s
abbrev TI:=St->Hp->(It->Hp->Prop)->Prop
def PIE (X:Cx) (o6:A2) (σ:St) (tg:Expr) (R:It->Hp->Prop) (itv:Am) (s2:An):Prop :=
 ∃ (it:Addr) (fp:Ab) (tn:Nat->Heap->Prop) (J:It) (H':Hp),itv=.ref it/\Inv X o6 σ H' s2/\Turn X.prog X.w X.K tg J fp it tn/\tn 0 s2.heap/\(∀ b∈fp,Q8 X o6 H' b)/\R J H'
def PI (X:Cx) (tg iter:Expr) (wi:TI):Prop :=
 ∀ (o6:A2) (s:An) (σ:St) (H:Hp) (R:It->Hp->Prop),Inv X o6 σ H s->wi σ H R ->
  wpAny (model X.prog X.w) X.A (eval iter X.env) (λ v s1=>wpAny (model X.prog X.w) X.A (pyIter v) (PIE X o6 σ tg R) X.xe s1) X.xe s
theorem WU {it:Addr} {o:Obj} {n:String} {vs:Ac} {Q:Ag} (ho:s.heap.get? it=some o) (hc:o.cls=.type n) (hd:o.data=.fields vs)
  (hn:["enumerate","zip","dict_itemiterator","dict_reverseitemiterator","odict_iterator","itertools.zip_longest","itertools.pairwise"].contains n=false) (hQ:Q () s):wpAny M A (letOwnedTupleGo tg (.ref it) u) Q E s:=by
 unfold letOwnedTupleGo;cases tg <;> first
  | exact aG hQ
  | (cases u <;> first
    | exact aG hQ
    | (refine ai (wpAny_load ho ?_)
       rw [hc,hd];show wpAny M A (if (["enumerate","zip","dict_itemiterator","dict_reverseitemiterator","odict_iterator","itertools.zip_longest","itertools.pairwise"].contains n && vs[0]? == some (rawInt _))=true then _ else _) Q E s
       rw [ao (by intro h;rw [hn,Bool.false_and] at h;cases h)];exact aG hQ))
noncomputable def Itl (K:A0) (a:Addr):It :=
 ⟨λ i H=>∃ xs x,SqL K H a xs/\xs[i]?=some x,λ i H x H'=>H'=H/\∀ xs,SqL K H a xs->xs[i]?=some x,λ i H=>∃ xs,SqL K H a xs/\xs.length<=i⟩
noncomputable def Itt (K:A0) (a:Addr):It :=
 ⟨λ i H=>∃ xs x,SqT K H a xs/\xs[i]?=some x,λ i H x H'=>H'=H/\∀ xs,SqT K H a xs->xs[i]?=some x,λ i H=>∃ xs,SqT K H a xs/\xs.length<=i⟩
noncomputable def Itr (lo:Int) (n:Nat):It:=⟨λ i _=>i < n,λ i H x H'=>H'=H/\x=.int (lo + i),λ i _=>n<=i⟩
def zdz (a it:Addr):Turn P w K tg (Itl K a) [it] it (λ i h=>h.IsListIter it a i) where
 mem:=by simp
 obj:=λ i h st b hb=>by
  have e:b=it:=by simpa using hb
  subst e;obtain ⟨o,e,c,d⟩:=st;exact ⟨o,e,λ v z=>by rw [d] at z;cases z⟩
 keep:=λ i h h' st k=>st.at λ o e=>k it (by simp) o e
 item:=by
  intro X hP hw hK hc i o6 s σ H E I hf st hg;subst hP hw hK;obtain ⟨xs,x,hq,hx⟩:=hg;obtain ⟨oo,rv,p,hz⟩:=I.list hq;obtain ⟨u,hu,ru⟩:=rv.get hx;obtain ⟨f0,f1,f2,f3,f4,f5⟩:=hf it (by simp);refine wpAny_pyNext_list_item st p.isList (x:=u) (by simpa using hu) λ h' st' sb=>?_;have I1:Inv X o6 σ H { s with heap:=h' }:=I.turned (t':=s.toks) (λ b o hb e=>(sb.2 b hb).trans e) f0 f1 f3 f4 f5;obtain ⟨o,e,c,d⟩:=id st';exact ⟨u,rfl,WU (s:={ s with heap:=h' }) e c d (by decide) ⟨x,H,I1,ru,⟨rfl,λ ys hy=>by rw [I.list_inj hy hq];exact hx⟩,st',λ b hb=>(hf b hb).1⟩⟩
 done:=by
  intro X hP hw hK hc i o6 s σ H E I hf st hg;subst hP hw hK;obtain ⟨xs,hq,hx⟩:=hg;obtain ⟨oo,rv,p,hz⟩:=I.list hq;obtain ⟨f0,f1,f2,f3,f4,f5⟩:=hf it (by simp);have hl:=rv.length;exact wpAny_pyNext_list_end (I.ok.hd hc) st p.isList (by simp;lia) λ h' eb=>⟨rfl,I.turned (t':=s.toks) (λ b o hb e=>eb b o hb e) f0 f1 f3 f4 f5⟩
 self:=λ _ _ _ _ _ st h=>wpAny_pyIter_listiter st h
def zbK (a it:Addr):Turn P w K tg (Itt K a) [it] it (λ i h=>h.IsTupleIter it a i) where
 mem:=by simp
 obj:=λ i h st b hb=>by
  have e:b=it:=by simpa using hb
  subst e;obtain ⟨o,e,c,d⟩:=st;exact ⟨o,e,λ v z=>by rw [d] at z;cases z⟩
 keep:=λ i h h' st k=>st.at λ o e=>k it (by simp) o e
 item:=by
  intro X hP hw hK hc i o6 s σ H E I hf st hg;subst hP hw hK;obtain ⟨xs,x,hq,hx⟩:=hg;obtain ⟨oo,rv,p,hz⟩:=I.tuple hq;obtain ⟨u,hu,ru⟩:=rv.get hx;obtain ⟨f0,f1,f2,f3,f4,f5⟩:=hf it (by simp);refine wpAny_pyNext_tuple_item st (show s.heap.IsTuple a oo.toArray from p) (x:=u) (by simpa using hu) λ h' st' sb=>?_;have I1:Inv X o6 σ H { s with heap:=h' }:=I.turned (t':=s.toks) (λ b o hb e=>(sb.2 b hb).trans e) f0 f1 f3 f4 f5;obtain ⟨o,e,c,d⟩:=id st';exact ⟨u,rfl,WU (s:={ s with heap:=h' }) e c d (by decide) ⟨x,H,I1,ru,⟨rfl,λ ys hy=>by rw [I.tuple_inj hy hq];exact hx⟩,st',λ b hb=>(hf b hb).1⟩⟩
 done:=by
  intro X hP hw hK hc i o6 s σ H E I hf st hg;subst hP hw hK;obtain ⟨xs,hq,hx⟩:=hg;obtain ⟨oo,rv,p,hz⟩:=I.tuple hq;obtain ⟨f0,f1,f2,f3,f4,f5⟩:=hf it (by simp);have hl:=rv.length;exact wpAny_pyNext_tuple_end (I.ok.hd hc) st (show s.heap.IsTuple a oo.toArray from p) (by simp;lia) λ h' eb=>⟨rfl,I.turned (t':=s.toks) (λ b o hb e=>eb b o hb e) f0 f1 f3 f4 f5⟩
 self:=λ _ _ _ _ _ st h=>wpAny_pyIter_tupleiter st h
def zbL (it:Addr) (lo:Int) (n:Nat):Turn P w K tg (Itr lo n) [it] it (λ i h=>IsRangeIter h it (lo + (i:Nat) * 1) ((n:Int) - (i:Nat)) 1) where
 mem:=by simp
 obj:=λ i h st b hb=>by
  have e:b=it:=by simpa using hb
  subst e;exact ⟨_,st,λ v z=>by
   have z':Data.fields _=Data.cell v:=z;cases z'⟩
 keep:=λ i h h' st k=>k it (by simp) _ st
 item:=by
  intro X hP hw hK hc i o6 s σ H E I hf st hg;subst hP hw hK;obtain ⟨f0,f1,f2,f3,f4,f5⟩:=hf it (by simp);have W:=Walks.range (prog:=X.prog) (w:=X.w) (I.ok.hd hc) it lo 1 n;refine W.item i s _ _ hg st λ v h' tk hv st' kk=>?_;obtain ⟨t,rfl⟩:=hv;have I1:Inv X o6 σ H { s with heap:=h',toks:=tk }:=I.turned (λ b o hb e=>kk b o (by simpa using hb) e) f0 f1 f3 f4 f5;refine ⟨_,rfl,WU (s:={ s with heap:=h',toks:=tk }) (n:="range_iterator") st' rfl rfl (by decide) ⟨.int (lo + i),H,I1,⟨t,?_⟩,⟨rfl,rfl⟩,st',λ b hb=>(hf b hb).1⟩⟩;rw [Int.mul_one]
 done:=by
  intro X hP hw hK hc i o6 s σ H E I hf st hg;subst hP hw hK;obtain ⟨f0,f1,f2,f3,f4,f5⟩:=hf it (by simp);exact wpAny_pyNext_range_end (I.ok.hd hc) st (by have:n<=i:=hg;lia) λ h' eb=>⟨rfl,I.turned (t':=s.toks) (λ b o hb e=>eb b o hb e) f0 f1 f3 f4 f5⟩
 self:=λ _ _ _ _ _ st h=>wpAny_pyIter_rangeiter st h
section
variable {X:Cx} {tg:Expr}
def zfe {R:It->Hp->Prop} {lo hi:Int} {t u v:Tok} {tk:Nat} (I:Inv X o6 σ H s) (h1:-(2 ^ 62)<=lo) (h2:lo < 2 ^ 62) (h3:-(2 ^ 62)<=hi) (h4:hi < 2 ^ 62)
  (q:R (Itr lo (hi - lo).toNat) H):wpAny (model X.prog X.w) X.A (pyIter (.ref s.heap.objs.size)) (PIE X o6 σ tg R) E { s with heap:=s.heap.push { cls:=.type "range",data:=.fields #[.int lo t,.int hi u,.int 1 v] },toks:=tk }:=by
 refine wpAny_pyIter_range (IsRange.new ..) (small_one h1 h2 h3 h4) ?_;have I1:Inv X o6 σ H { s with heap:=s.heap.push { cls:=.type "range",data:=.fields #[.int lo t,.int hi u,.int 1 v] },toks:=tk }:=I.kept λ b o e=>aj _ e;refine ⟨(s.heap.push { cls:=.type "range",data:=.fields #[.int lo t,.int hi u,.int 1 v] }).objs.size,[(s.heap.push { cls:=.type "range",data:=.fields #[.int lo t,.int hi u,.int 1 v] }).objs.size],_,_,H,rfl,
  I1.kept (t':=tk) λ b o e=>aj _ e,zbL _ lo (hi - lo).toNat,?_,λ b hb=>?_,q⟩
 ·have e1:lo + ((0:Nat):Int) * 1=lo:=by simp
  have e2:(((hi - lo).toNat:Nat):Int) - ((0:Nat):Int)=Builtin.Range.rangeSize lo hi 1:=by rw [rangeSize_one];split <;> lia
  show IsRangeIter _ _ (lo + ((0:Nat):Int) * 1) ((((hi - lo).toNat:Nat):Int) - ((0:Nat):Int)) 1
  rw [e1,e2];exact aB _ rfl
 ·have e:b=(s.heap.push { cls:=.type "range",data:=.fields #[.int lo t,.int hi u,.int 1 v] }).objs.size:=by simpa using hb
  subst e;exact I1.fpOk (au _) (I1.hok.fresh (au _))
def iRng1 (ta:TA):TI:=λ σ H R=>ta σ H λ vs H1=>lq vs λ v=>iq v λ j=>-(2 ^ 62)<=j/\j < 2 ^ 62/\R (Itr 0 j.toNat) H1
def zd4 {a:Expr} {ta:TA} {p pos:Pos} (hg:Gl X "range") (hm:X.mg "range"=none) (ha:PA X [a] ta) (hs:starEach [a] X.env=[(false,eval a X.env)]:=by rfl):PI X tg (.Call (.Name "range" p) [a] [] pos) (iRng1 ta):=by
 intro o6 s σ H R I h;refine Call_ (vp I hg hm boot_range (bb (vF (ha pos o6 s σ H _ I h) λ us s1 vs H1 I1 r1 q1=>?_) hs rfl));obtain ⟨v,e,q0⟩:=zfF q1;clear q1;obtain ⟨j,e2,q1,q2,q⟩:=Qr q0;subst e2;subst e;cases r1 with
 | cons r rr =>
  cases rr;obtain ⟨t,rfl⟩:=r;exact call_range_1 (zfe I1 (by lia) (by lia) q1 q2 (by simpa using q))
def tFor (wi:TI) (g:TG) (tb:TS):TS:=λ D σ H=>wi σ H λ J H1=>∃ W:Nat->Nat->St->Hp->Prop,(∃ m,W 0 m σ H1)/\∀ i m σ H,W i m σ H ->
 (J.stop i H/\D.nx σ H)\/(J.go i H/\∃ N:St->Hp->Prop,(∀ σ' H',N σ' H'->∃ m',m' < m/\W (i + 1) m' σ' H')/\∀ x H',J.yld i H x H'->g x σ H' λ σ2 H2=>tb { D with nx:=N,ct:=N,bk:=D.nx } σ2 H2)
noncomputable def Xq (fp:Ab) (h:Heap):List (Addr × Obj):=fp.filterMap λ b=>(h.get? b).map λ o=>(b,o)
def vo {fp:Ab} {h:Heap} {o:Obj} (hb:b∈fp) (e:h.get? b=some o):(b,o)∈Xq fp h:=dU.mpr ⟨b,hb,by rw [e];rfl⟩
def zeb {fp:Ab} {h:Heap} {p:Addr × Obj} (hp:p∈Xq fp h):p.1∈fp/\h.get? p.1=some p.2:=by
 obtain ⟨b,hb,e⟩:=dU.mp hp;cases q:h.get? b with
 | none=>rw [q] at e;cases e
 | some o =>
  rw [q] at e;have e':(b,o)=p:=aI e;subst e';exact ⟨hb,q⟩
def Inv.pinned {fp:Ab} (I:Inv X o6 σ H s) (hf:∀ b∈fp,Q8 X o6 H b) (ho:∀ b∈fp,∃ o,s.heap.get? b=some o/\∀ v,o.data≠.cell v):Inv X (o6 ++ Xq fp s.heap) σ H s :=
 I.pins_of λ p hp=>(aE.mp hp).elim (λ z=>I.pin p (aU _ z)) λ z=>by
  obtain ⟨hb,e⟩:=zeb z;obtain ⟨f0,f1,f2,_⟩:=hf p.1 hb;obtain ⟨o,e',d⟩:=ho p.1 hb;rw [e] at e';cases e';exact ⟨e,f0,f1,f2,d⟩
def Inv.unpinned {o6 pl:A2} (I:Inv X (o6 ++ pl) σ H s):Inv X o6 σ H s:=I.pins_of λ p hp=>I.pin p (aU _ (bp _ hp))
theorem qB {iter:Expr} {body:List Stmt} {wi:TI} {g:TG} {tb:TS} (hp:PassesOwn (model X.prog X.w) X.A X.env X.xe) (hc:X.calm=true) (hi:PI X tg iter wi) (hg:PG X tg g) (hb:PSs X body tb)
  (hs:∀ x,foldedSetIterable iter X.env x=pure x:=by intro _;rfl):PS X (.For tg iter body [] pos) (tFor wi g tb):=by
 intro o6 s σ H D I h;refine wpAny_For (thn (hi o6 s σ H _ I h) λ v s1 h1=>thn h1 λ itv s2 h2=>?_) hs;obtain ⟨it,fp,tn,J,H2,e,I2,T,st2,f2,W,⟨m0,w0⟩,turn⟩:=h2;subst e;have stat:∀ {H':Hp},(∀ b∈fp,H' b=none)->∀ b∈fp,Q8 X o6 H' b:=λ hn b hb=>⟨hn b hb,(f2 b hb).2⟩;refine codeAny_forLoop_any (λ n s'=>∃ i σ' H',Inv X o6 σ' H' s'/\tn i s'.heap/\(∀ b∈fp,H' b=none)/\W i n σ' H') ?_ m0 ⟨0,σ,H2,I2,st2,λ b hb=>(f2 b hb).1,w0⟩;rintro n s3 ⟨i,σ3,H3,I3,st3,fr3,w3⟩;rcases turn i n σ3 H3 w3 with ⟨stop,qn⟩|⟨go,N,hN,step⟩
 ·refine b7 hp (thn (T.done X rfl rfl rfl hc i o6 s3 σ3 H3 X.xe I3 (stat fr3) st3 stop) λ r s4 ⟨hr,I4⟩=>?_);subst hr;exact cC ⟨σ3,H3,I4,qn⟩
 ·refine b7 hp (thn (T.item X rfl rfl rfl hc i o6 s3 σ3 H3 X.xe I3 (stat fr3) st3 go) λ r s4 ⟨u,hr,h4⟩=>?_);subst hr;refine b7 hp (thn h4 λ _ s5 ⟨x,H5,I5,r5,y5,st5,fr5⟩=>?_);have I5':=I5.pinned (stat fr5) (T.obj _ _ st5);refine b7 hp (thn (hg _ s5 σ3 H5 x u _ I5' r5 (step x H5 y5)) λ _ s6 ⟨σ6,H6,I6,q6⟩=>?_);refine b7 hp (thn (hb _ s6 σ6 H6 _ I6 q6) λ f s7 q7=>?_);have again:∀ {σ7:St} {H7:Hp},Inv X (o6 ++ Xq fp s5.heap) σ7 H7 s7->N σ7 H7->∃ m,m < n/\∃ i σ' H',Inv X o6 σ' H' s7/\tn i s7.heap/\(∀ b∈fp,H' b=none)/\W i m σ' H':=λ {σ7 H7} I7 n7=>by
   obtain ⟨m',hm,w7⟩:=hN σ7 H7 n7;refine ⟨m',hm,i + 1,σ7,H7,I7.unpinned,T.keep _ _ _ st5 λ b hb o e=>(I7.pin (b,o) (aU _ (aU _ (vo hb e)))).1,λ b hb=>?_,w7⟩;obtain ⟨o,e,d⟩:=T.obj _ _ st5 b hb;exact (I7.pin (b,o) (aU _ (aU _ (vo hb e)))).2.1
  cases f with
  | next=>obtain ⟨σ7,H7,I7,n7⟩:=q7;exact again I7 n7
  | cont=>obtain ⟨σ7,H7,I7,n7⟩:=q7;exact again I7 n7
  | brk=>obtain ⟨σ7,H7,I7,q7⟩:=q7;exact ⟨σ7,H7,I7.unpinned,q7⟩
  | ret v=>obtain ⟨x7,σ7,H7,I7,r7,q7⟩:=q7;exact ⟨x7,σ7,H7,I7.unpinned,r7,q7⟩
end
abbrev R2:=V->V->Hp->VK->Prop
def OpR (X:Cx) (f:Al) (r:R2):Prop :=
 ∀ (o6:A2) (s:An) (σ:St) (H:Hp) (x y:V) (v u:Am) (Q:VK),Inv X o6 σ H s->RelV x v->RelV y u->r x y H Q ->
  wpAny (model X.prog X.w) X.A (f v u) (EP X o6 σ Q) X.xe s
def UnR (X:Cx) (f:Value->Sem Value) (r:V->Hp->VK->Prop):Prop :=
 ∀ (o6:A2) (s:An) (σ:St) (H:Hp) (x:V) (v:Am) (Q:VK),Inv X o6 σ H s->RelV x v->r x H Q ->
  wpAny (model X.prog X.w) X.A (f v) (EP X o6 σ Q) X.xe s
def CallR (X:Cx) (f:Am) (r:List V->Hp->VK->Prop):Prop :=
 ∀ (o6:A2) (s:An) (σ:St) (H:Hp) (xs:Ap) (us:A7) (Q:VK),Inv X o6 σ H s->Vals xs us->r xs H Q ->
  wpAny (model X.prog X.w) X.A (call f us) (EP X o6 σ Q) X.xe s
def zj2 (X:Cx) (r:V->Hp->(Bool->Hp->Prop)->Prop):Prop :=
 ∀ (o6:A2) (s:An) (σ:St) (H:Hp) (x:V) (v:Am) (Q:Bool->Hp->Prop),Inv X o6 σ H s->RelV x v->r x H Q ->
  wpAny (model X.prog X.w) X.A (truthy v) (TP X o6 σ Q) X.xe s
def tOp (r:R2) (ta tb:TE):TE:=λ σ H Q=>ta σ H λ x H1=>tb σ H1 λ y H2=>r x y H2 Q
def tUn (r:V->Hp->VK->Prop) (ta:TE):TE:=λ σ H Q=>ta σ H λ x H1=>r x H1 Q
def rI (C:Int->Int->Prop) (g:Int->Int->V):R2:=λ x y H Q=>iq x λ i=>iq y λ j=>C i j/\Q (g i j) H
def rI0 (g:Int->Int->V):R2:=λ x y H Q=>iq x λ i=>iq y λ j=>Q (g i j) H
def rU (g:Int->V):V->Hp->VK->Prop:=λ x H Q=>iq x λ i=>Q (g i) H
section
variable {X:Cx} {a b c:Expr} {ta tb tc:TE} {pos:Pos}
def ziR (ha:PE X a ta) (hb:PE X b tb) {R:V->V->Hp->Prop} (I:Inv X o6 σ H s)
  (h:ta σ H λ x H1=>tb σ H1 λ y H2=>R x y H2)
  (hf:∀ v u s2 x y H2,Inv X o6 σ H2 s2->RelV x v->RelV y u->R x y H2->wpAny (model X.prog X.w) X.A (f v u) Q X.xe s2) :
  wpAny (model X.prog X.w) X.A (eval a X.env) (λ v s₁=>wpAny (model X.prog X.w) X.A (eval b X.env) (λ u s₂=>wpAny (model X.prog X.w) X.A (f v u) Q X.xe s₂) X.xe s₁) X.xe s:=by
 refine qL (ha o6 s σ H _ I h) λ v s1 x H1 I1 r1 q1=>?_;refine qL (hb o6 s1 σ H1 _ I1 q1) λ u s2 y H2 I2 r2 q2=>?_;exact hf v u s2 x y H2 I2 r1 r2 q2
def zJ {op:Operator} {r:R2} (ho:OpR X (binaryOp op) r) (ha:PE X a ta) (hb:PE X b tb):PE X (.BinOp a op b pos) (tOp r ta tb):=by
 intro o6 s σ H Q I h;exact wpAny_BinOp (ziR ha hb I h λ v u s2 x y H2 I2 rx ry q=>ho o6 s2 σ H2 x y v u Q I2 rx ry q)
def zaS {op:UnaryOp} {r:V->Hp->VK->Prop} (ho:UnR X (unaryOp op) r) (ha:PE X a ta):PE X (.UnaryOp op a pos) (tUn r ta):=by
 intro o6 s σ H Q I h;exact UnaryOp_ (qL (ha o6 s σ H _ I h) λ v s1 x H1 I1 r1 q1=>ho o6 s1 σ H1 x v Q I1 r1 q1)
def opI {C:Int->Int->Prop} {g:Int->Int->Int}
  (rule:∀ (i j:Int) (t u:Tok) (s:An) (Q:A3) (E:A3),C i j->Q (.int (g i j) s.toks) { s with toks:=s.toks + 1 }->wpAny (model X.prog X.w) X.A (f (.int i t) (.int j u)) Q E s) :
  OpR X f (rI C λ i j=>.int (g i j)):=by
 intro o6 s σ H x y v u Q I rx ry h;obtain ⟨i,j,rfl,rfl,hc,q⟩:=Q5 h;obtain ⟨t,rfl⟩:=rx;obtain ⟨t',rfl⟩:=ry;exact rule i j t t' s _ _ hc ⟨.int (g i j),H,I.tok _,⟨_,rfl⟩,q⟩
def zjn {g:Int->Int->Int}
  (rule:∀ (i j:Int) (t u:Tok) (s:An) (Q:A3) (E:A3),Q (.int (g i j) s.toks) { s with toks:=s.toks + 1 }->wpAny (model X.prog X.w) X.A (f (.int i t) (.int j u)) Q E s) :
  OpR X f (rI0 λ i j=>.int (g i j)):=by
 intro o6 s σ H x y v u Q I rx ry h;obtain ⟨i,j,rfl,rfl,q⟩:=Q5 h;obtain ⟨t,rfl⟩:=rx;obtain ⟨t',rfl⟩:=ry;exact rule i j t t' s _ _ ⟨.int (g i j),H,I.tok _,⟨_,rfl⟩,q⟩
def zgY {g:Int->Int->Bool}
  (rule:∀ (i j:Int) (t u:Tok) (s:An) (Q:A3) (E:A3),Q (.bool (g i j)) s->wpAny (model X.prog X.w) X.A (f (.int i t) (.int j u)) Q E s) :
  OpR X f (rI0 λ i j=>.bl (g i j)):=by
 intro o6 s σ H x y v u Q I rx ry h;obtain ⟨i,j,rfl,rfl,q⟩:=Q5 h;obtain ⟨t,rfl⟩:=rx;obtain ⟨t',rfl⟩:=ry;exact rule i j t t' s _ _ ⟨.bl (g i j),H,I,rfl,q⟩
def zj4 (i j:Int):Prop:=0 < j/\j < 1073741824
def zjL (i j:Int):Prop:=0<=j/\j<=1000000/\i.natAbs < 2 ^ 64
def CMul (i j:Int):Prop:=(-(2 ^ 64) < i/\i < 2 ^ 64)\/(-(2 ^ 64) < j/\j < 2 ^ 64)
def CMul.ok {i j:Int} (h:CMul i j):IntMulOk i j:=by
 rcases h with ⟨h1,h2⟩|⟨h1,h2⟩
 ·exact .of_left (intBits_le_64 h1 h2)
 ·exact .of_right (intBits_le_64 h1 h2)
def op_add:OpR X (binaryOp .Add) (rI0 λ i j=>.int (i + j)):=zjn λ _ _ _ _ _ _ _ q=>add_int q
def vn:OpR X (binaryOp .Sub) (rI0 λ i j=>.int (i - j)):=zjn λ _ _ _ _ _ _ _ q=>sub_int q
def zgW:OpR X (binaryOp .FloorDiv) (rI zj4 λ i j=>.int (i / j)):=opI λ i j _ _ _ _ _ hc q=>by
 have h1:(0:Int) < j:=hc.1;have h2:j < 1073741824:=hc.2;exact floordiv_int (by lia) (by rw [eT i (by lia)];exact q) (.inl (fJ (by lia)))
def jo:OpR X (binaryOp .Mod) (rI (λ _ j=>0 < j) λ i j=>.int (i % j)):=opI λ i j _ _ _ _ _ hc q=>by
 have h1:(0:Int) < j:=hc;exact mod_int' (by lia) (by rw [Int.fmod_eq_emod_of_nonneg i (by lia)];exact q)
def zii:OpR X (binaryOp .Pow) (rI zjL λ i j=>.int (i ^ j.toNat)):=opI λ _ _ _ _ _ _ _ hc q=>pow_int_small hc.1 hc.2.1 hc.2.2 q
def unI {f:Value->Sem Value} {g:Int->Int}
  (rule:∀ (i:Int) (t:Tok) (s:An) (Q:A3) (E:A3),Q (.int (g i) s.toks) { s with toks:=s.toks + 1 }->wpAny (model X.prog X.w) X.A (f (.int i t)) Q E s) :
  UnR X f (rU λ i=>.int (g i)):=by
 intro o6 s σ H x v Q I rx h;obtain ⟨i,rfl,q⟩:=Qr h;obtain ⟨t,rfl⟩:=rx;exact rule i t s _ _ ⟨.int (g i),H,I.tok _,⟨_,rfl⟩,q⟩
def JU:UnR X (unaryOp .USub) (rU λ i=>.int (-i)):=unI λ _ _ _ _ _ q=>neg_int q
end
noncomputable def zi9:V->V->Bool
 | .non,.non=>true | .non,.int _=>true | .int _,.non=>true | .non,.bl _=>true | .bl _,.non=>true | .non,.str _=>true | .str _,.non=>true
 | .int _,.int _=>true | .bl _,.bl _=>true | .str _,.str _=>true | .byt _,.byt _=>true
 | .int _,.str _=>true | .str _,.int _=>true | .bl _,.str _=>true | .str _,.bl _=>true
 | _,_=>false
def rEq:R2:=λ x y H Q=>zi9 x y=true/\Q (.bl (decide (x=y))) H
def rNe:R2:=λ x y H Q=>zi9 x y=true/\Q (.bl (!decide (x=y))) H
def zdj {i j:Int}:decide (V.int i=V.int j)=(i == j):=by
 rw [dE];simp
def zf6 {i j:Bool}:decide (V.bl i=V.bl j)=(i == j):=by
 rw [dE];simp
def zdi {i j:Str}:decide (V.str i=V.str j)=(i == j):=by
 rw [dE];simp
def zdk {i j:Array UInt8}:decide (V.byt i=V.byt j)=(i.toList == j.toList):=by
 rw [dE];cases i;cases j;simp
section
variable {X:Cx} {a b c:Expr} {ta tb tc:TE} {pos:Pos}
def qe {Q:VK} {k k':Bool} (I:Inv X o6 σ H s) (q:Q (.bl k) H) (e:k=k'):EP X o6 σ Q (.bool k') s:=by
 subst e;exact ⟨.bl k,H,I,rfl,q⟩
def op_eq:OpR X (compareOp .Eq) rEq:=by
 intro o6 s σ H x y v u Q I rx ry h;obtain ⟨hs,q⟩:=h;cases x with
 | non =>
  cases rx;cases y with
  | non=>cases ry;exact PySem.EqNone.eq_none_none (qe I q (by simp))
  | bl j=>cases ry;exact PySem.EqNone.eq_none_bool (qe I q (by simp))
  | int j=>obtain ⟨t',rfl⟩:=ry;exact PySem.EqNone.eq_none_int (qe I q (by simp))
  | str j=>obtain ⟨t',rfl⟩:=ry;exact PySem.EqNone.eq_none_str (qe I q (by simp))
  | _=>exact absurd (show false=true from hs) aC
 | bl i =>
  cases rx;cases y with
  | non=>cases ry;exact PySem.EqNone.eq_bool_none (qe I q (by simp))
  | bl j=>cases ry;exact eq_bool (qe I q zf6)
  | str j=>obtain ⟨t',rfl⟩:=ry;exact PySem.EqMixed.eq_bool_str (qe I q (by simp))
  | _=>exact absurd (show false=true from hs) aC
 | int i =>
  obtain ⟨t,rfl⟩:=rx;cases y with
  | non=>cases ry;exact PySem.EqNone.eq_int_none (qe I q (by simp))
  | int j=>obtain ⟨t',rfl⟩:=ry;exact eq_int (qe I q zdj)
  | str j=>obtain ⟨t',rfl⟩:=ry;exact PySem.EqMixed.eq_int_str (qe I q (by simp))
  | _=>exact absurd (show false=true from hs) aC
 | str i =>
  obtain ⟨t,rfl⟩:=rx;cases y with
  | non=>cases ry;exact PySem.EqNone.eq_str_none (qe I q (by simp))
  | bl j=>cases ry;exact PySem.EqMixed.eq_str_bool (qe I q (by simp))
  | int j=>obtain ⟨t',rfl⟩:=ry;exact PySem.EqMixed.eq_str_int (qe I q (by simp))
  | str j=>obtain ⟨t',rfl⟩:=ry;exact eq_str (qe I q zdi)
  | _=>exact absurd (show false=true from hs) aC
 | byt i =>
  obtain ⟨t,rfl⟩:=rx;cases y with
  | byt j=>obtain ⟨t',rfl⟩:=ry;exact PySem.W.eq_bytes (qe I q zdk)
  | _=>exact absurd (show false=true from hs) aC
 | _=>cases y <;> exact absurd (show false=true from hs) aC
def op_ne:OpR X (compareOp .NotEq) rNe:=by
 intro o6 s σ H x y v u Q I rx ry h;obtain ⟨hs,q⟩:=h;cases x with
 | non =>
  cases rx;cases y with
  | non=>cases ry;exact PySem.EqNone.ne_none_none (qe I q (by simp))
  | bl j=>cases ry;exact PySem.EqNone.ne_none_bool (qe I q (by simp))
  | int j=>obtain ⟨t',rfl⟩:=ry;exact PySem.EqNone.ne_none_int (qe I q (by simp))
  | str j=>obtain ⟨t',rfl⟩:=ry;exact PySem.EqNone.ne_none_str (qe I q (by simp))
  | _=>exact absurd (show false=true from hs) aC
 | bl i =>
  cases rx;cases y with
  | non=>cases ry;exact PySem.EqNone.ne_bool_none (qe I q (by simp))
  | bl j=>cases ry;exact ne_bool (qe I q (bh not zf6))
  | str j=>obtain ⟨t',rfl⟩:=ry;exact PySem.EqMixed.ne_bool_str (qe I q (by simp))
  | _=>exact absurd (show false=true from hs) aC
 | int i =>
  obtain ⟨t,rfl⟩:=rx;cases y with
  | non=>cases ry;exact PySem.EqNone.ne_int_none (qe I q (by simp))
  | int j=>obtain ⟨t',rfl⟩:=ry;exact ne_int (qe I q (bh not zdj))
  | str j=>obtain ⟨t',rfl⟩:=ry;exact PySem.EqMixed.ne_int_str (qe I q (by simp))
  | _=>exact absurd (show false=true from hs) aC
 | str i =>
  obtain ⟨t,rfl⟩:=rx;cases y with
  | non=>cases ry;exact PySem.EqNone.ne_str_none (qe I q (by simp))
  | bl j=>cases ry;exact PySem.EqMixed.ne_str_bool (qe I q (by simp))
  | int j=>obtain ⟨t',rfl⟩:=ry;exact PySem.EqMixed.ne_str_int (qe I q (by simp))
  | str j=>obtain ⟨t',rfl⟩:=ry;exact ne_str (qe I q (bh not zdi))
  | _=>exact absurd (show false=true from hs) aC
 | byt i =>
  obtain ⟨t,rfl⟩:=rx;cases y with
  | byt j=>obtain ⟨t',rfl⟩:=ry;exact PySem.W.ne_bytes (qe I q (bh not zdk))
  | _=>exact absurd (show false=true from hs) aC
 | _=>cases y <;> exact absurd (show false=true from hs) aC
def op_lt:OpR X (compareOp .Lt) (rI0 λ i j=>.bl (decide (i < j))):=zgY λ _ _ _ _ _ _ _ q=>lt_int q
def op_le:OpR X (compareOp .LtE) (rI0 λ i j=>.bl (decide (i<=j))):=zgY λ _ _ _ _ _ _ _ q=>le_int q
def op_gt:OpR X (compareOp .Gt) (rI0 λ i j=>.bl (decide (j < i))):=zgY λ _ _ _ _ _ _ _ q=>gt_int q
def op_ge:OpR X (compareOp .GtE) (rI0 λ i j=>.bl (decide (j<=i))):=zgY λ _ _ _ _ _ _ _ q=>ge_int q
def zd7:OpR X (compareOp .In) (λ x y H Q=>∃ i j,x=.str i/\y=.str j/\Q (.bl (!(Builtin.Str.occurrences j i 0 j.length 1).isEmpty)) H):=by
 intro o6 s σ H x y v u Q I rx ry h;obtain ⟨i,j,rfl,rfl,q⟩:=h;obtain ⟨t,rfl⟩:=rx;obtain ⟨t',rfl⟩:=ry;exact in_str (qe I q rfl)
def op_isN:OpR X (compareOp .Is) (λ x y H Q=>nq y (Q (.bl (decide (x=.non))) H)):=by
 intro o6 s σ H x y v u Q I rx ry h;obtain ⟨rfl,q⟩:=zcZ h;cases ry;refine is_none_gen (qe I q ?_);cases x <;> first
  | (cases rx;rfl)
  | (obtain ⟨t,rfl⟩:=rx;rfl)
def op_notN:OpR X (compareOp .IsNot) (λ x y H Q=>nq y (Q (.bl (!decide (x=.non))) H)):=by
 intro o6 s σ H x y v u Q I rx ry h;obtain ⟨rfl,q⟩:=zcZ h;cases ry;refine isnot_none_gen (qe I q ?_);cases x <;> first
  | (cases rx;rfl)
  | (obtain ⟨t,rfl⟩:=rx;rfl)
def OpR.or {r r':R2} (h:OpR X f r) (h':OpR X f r'):OpR X f (λ x y H Q=>r x y H Q\/r' x y H Q):=by
 intro o6 s σ H x y v u Q I rx ry q;rcases q with q|q
 ·exact h o6 s σ H x y v u Q I rx ry q
 ·exact h' o6 s σ H x y v u Q I rx ry q
def zq (b:Expr) (h:op≠.In:=by decide) (h2:op≠.NotIn:=by decide):behindInMarks op b=false:=by
 have e1:(op == CmpOp.In)=false:=by cases op <;> first|rfl|exact absurd rfl h
 have e2:(op == CmpOp.NotIn)=false:=by cases op <;> first|rfl|exact absurd rfl h2
 cases b <;> simp [behindInMarks,e1,e2]
def Zo {r:R2} (ho:OpR X (compareOp op) r) (ha:PE X a ta) (hb:PE X b tb) (hm:behindInMarks op b=false):PE X (.Compare a [op] [b] pos) (tOp r ta tb):=by
 intro o6 s σ H Q I h;exact wpAny_Compare1 (ziR ha hb I h λ v u s2 x y H2 I2 rx ry q=>ho o6 s2 σ H2 x y v u Q I2 rx ry q) hm
def tTest (t:TE):TT:=λ σ H Q=>t σ H λ x H'=>bq x λ k=>Q k H'
def zl {r:R2} (ho:OpR X (compareOp op) r) (ha:PE X a ta) (hb:PE X b tb) (hm:behindInMarks op b=false):PT X (.Compare a [op] [b] pos) (tTest (tOp r ta tb)):=by
 intro o6 s σ H Q I h;refine wpAny_isTrue_Compare1 (qL (ha o6 s σ H _ I h) λ v s1 x H1 I1 r1 q1=>qL (hb o6 s1 σ H1 _ I1 q1) λ u s2 y H2 I2 r2 q2 =>
  thn (ho o6 s2 σ H2 x y v u _ I2 r1 r2 q2) λ c s3 ⟨z,H3,I3,r3,q3⟩=>?_) hm
 obtain ⟨k,e,q3⟩:=Vb q3;subst e;cases r3;exact bR ⟨H3,I3,q3⟩
def tChain (r r':R2) (ta tb tc:TE):TE:=λ σ H Q=>ta σ H λ x H1=>tb σ H1 λ y H2=>r x y H2 λ z H3=>bq z λ k =>
 (if k=true then tc σ H3 λ w' H4=>r' y w' H4 Q else Q (.bl false) H3)
theorem jR {op op':CmpOp} {r r':R2} (ho:OpR X (compareOp op) r) (ho':OpR X (compareOp op') r') (ha:PE X a ta) (hb:PE X b tb) (hc:PE X c tc)
  (hm:lastMarks [op,op'] [b,c]=false:=by with_unfolding_all rfl):PT X (.Compare a [op,op'] [b,c] pos) (tTest (tChain r r' ta tb tc)):=by
 intro o6 s σ H Q I h;refine isTrue_chain (qL (ha o6 s σ H _ I h) λ v s1 x H1 I1 r1 q1=>test_link (qL (hb o6 s1 σ H1 _ I1 q1) λ u s2 y H2 I2 r2 q2 =>
  thn (ho o6 s2 σ H2 x y v u _ I2 r1 r2 q2) λ d s3 ⟨z,H3,I3,r3,q3⟩=>?_)) hm
 obtain ⟨k,e,q3⟩:=Vb q3;subst e;cases r3;refine bR ?_;cases k with
 | false =>
  obtain ⟨k',e',q'⟩:=Vb q3;cases e';exact ite_ff ⟨H3,I3,q'⟩
 | true =>
  refine ite_tt (test_last (thn (hc o6 s3 σ H3 _ I3 q3) λ w' s4 ⟨z',H4,I4,r4,q4⟩=>thn (ho' o6 s4 σ H4 y z' u w' _ I4 r2 r4 q4) λ d' s5 ⟨z2,H5,I5,r5,q5⟩=>?_));obtain ⟨k2,e2,q5⟩:=Vb q5;subst e2;cases r5;exact bR ⟨H5,I5,q5⟩
def zeI (K:A0) (x:V) (H:Hp) (k:Bool):Prop :=
 match x with
 | .non=>k=false
 | .bl b=>k=b
 | .int i=>k=(i != 0)
 | .str y=>y.length<=sizeLine/\k=((y.length:Int) != 0)
 | .byt y=>y.size<=sizeLine/\k=((y.size:Int) != 0)
 | .ref p=>(∃ xs,SqL K H p xs/\k=!xs.isEmpty)\/(∃ xs,SqT K H p xs/\k=!xs.isEmpty)\/∃ om,H p=some (.dK om)/\k=!om.isEmpty
 | _=>False
def zcs {κ:Type} {om:List (κ × V)} {vs:List (κ × Value)} (r:KV om vs):(!vs.isEmpty)=!om.isEmpty:=by
 cases r <;> rfl
def XM {xs:Ap} {oo:A7} (r:Vals xs oo):(!oo.toArray.isEmpty)=!xs.isEmpty:=by
 cases r <;> simp
def ZX:(sizeLine:Nat) < 2 ^ 63:=by rw [fE];decide
def zhN:zj2 X (λ x H Q=>∃ k,zeI X.K x H k/\Q k H):=by
 intro o6 s σ H x v Q I rx h;obtain ⟨k,e,q⟩:=h;have hl:=ZX;have hs:sizeLine=16777216:=fE;cases x with
 | non =>
  cases rx;have e':k=false:=e;subst e';exact truthy_none ⟨H,I,q⟩
 | bl b =>
  cases rx;have e':k=b:=e;subst e';exact bR ⟨H,I,q⟩
 | int i =>
  obtain ⟨t,rfl⟩:=rx;have e':k=(i != 0):=e;subst e';exact PySem.P.truthy_int ⟨H,I,q⟩
 | str y =>
  obtain ⟨t,rfl⟩:=rx;obtain ⟨hy,e'⟩:y.length<=sizeLine/\k=((y.length:Int) != 0):=e;subst e';exact PySem.P.truthy_str (by lia) ⟨H,I.tok _,q⟩
 | byt y =>
  obtain ⟨t,rfl⟩:=rx;obtain ⟨hy,e'⟩:y.size<=sizeLine/\k=((y.size:Int) != 0):=e;subst e';exact PySem.W.truthy_bytes (by lia) ⟨H,I.tok _,q⟩
 | ref p =>
  cases rx;have e':(∃ xs,SqL X.K H p xs/\k=!xs.isEmpty)\/(∃ xs,SqT X.K H p xs/\k=!xs.isEmpty)\/∃ om,H p=some (.dK om)/\k=!om.isEmpty:=e;rcases e' with ⟨xs,hx,e'⟩|⟨xs,hx,e'⟩|⟨om,hx,e'⟩
  ·subst e';obtain ⟨oo,r,pl,hz⟩:=I.list hx;have hlen:=r.length;exact wpAny_truthy_list pl.isList (by simp only [av];lia) ⟨H,I.tok _,by rw [XM r];exact q⟩
  ·subst e';obtain ⟨oo,r,pl,hz⟩:=I.tuple hx;have hlen:=r.length;exact truthy_tuple pl (by simp only [av];lia) ⟨H,I.tok _,by rw [XM r];exact q⟩
  ·subst e';obtain ⟨hz,hS,vs,r,m⟩:om.length<=sizeLine/\(p == sysModules)=false/\∃ vs,KV om vs/\s.heap.DictOf (jc X.prog X.w) p vs:=I.hok p _ hx;have hlen:om.length=vs.length:=cz r;exact wpAny_truthy_dict hS m (by lia) ⟨H,I.tok _,by rw [zcs r];exact q⟩
 | _=>exact (show False from e).elim
def trq (K:A0) (x:V) (H:Hp) (Q:Bool->Hp->Prop):Prop :=
 match x with
 | .bl b=>Q b H
 | x=>∃ k,zeI K x H k/\Q k H
def zhO {x:V} {Q:Bool->Hp->Prop} (h:trq K x H Q):∃ k,zeI K x H k/\Q k H:=by
 cases x <;> first|exact ⟨_,rfl,h⟩|exact h
def tTru (K:A0) (ta:TE):TT:=λ σ H Q=>ta σ H λ x H'=>trq K x H' Q
def qO (ha:PE X a ta) (he:∀ whole,isTrue a X.env whole=(do let v <- whole;standAt a.pos;holding [v] (truthy v))) :
  PT X a (tTru X.K ta):=by
 intro o6 s σ H Q I h;exact isTrue_plain (qL (ha o6 s σ H _ I h) λ v s1 x H1 I1 r1 q1=>zhN o6 s1 σ H1 x v Q I1 r1 (zhO q1)) (he _)
def op_add_str:OpR X (binaryOp .Add) (λ x y H Q=>∃ i j,x=.str i/\y=.str j/\i.length + j.length<=sizeLine/\Q (.str (i ++ j)) H):=by
 intro o6 s σ H x y v u Q I rx ry h;obtain ⟨i,j,rfl,rfl,hz,q⟩:=h;obtain ⟨t,rfl⟩:=rx;obtain ⟨t',rfl⟩:=ry;exact add_str (λ t' tk=>⟨.str (i ++ j),H,I.tok _,⟨_,rfl⟩,q⟩) hz
def ZC {x:V} (r:Vals [x] us):∃ u,us=[u]/\RelV x u:=by
 cases r with
 | cons r1 r2=>cases r2;exact ⟨_,rfl,r1⟩
def zhw {x y:V} (r:Vals [x,y] us):∃ u w',us=[u,w']/\RelV x u/\RelV y w':=by
 cases r with
 | cons r1 r2 =>
  cases r2 with
  | cons r3 r4=>cases r4;exact ⟨_,_,rfl,r1,r3⟩
def zey (hc:X.calm=true):CallR X (.builtin "max") (λ xs H Q=>∃ i j,xs=[.int i,.int j]/\Q (.int (if j > i then j else i)) H):=by
 intro o6 s σ H xs us Q I r h;obtain ⟨i,j,rfl,q⟩:=h;obtain ⟨u,w',rfl,⟨t,rfl⟩,⟨t',rfl⟩⟩:=zhw r;refine max_two_ints (I.ok.hd hc) λ h' tk k=>⟨_,H,I.kept k,?_,q⟩;by_cases hj:j > i
 ·rw [ap hj,ap hj];exact ⟨_,rfl⟩
 ·rw [ao hj,ao hj];exact ⟨_,rfl⟩
def V5:CallR X (.type "str") (λ xs H Q=>∃ i,xs=[.int i]/\i.natAbs.log2 < 1920/\Q (.str (toString i)) H):=by
 intro o6 s σ H xs us Q I r h;obtain ⟨i,rfl,hz,q⟩:=h;obtain ⟨u,rfl,t,rfl⟩:=ZC r;exact PySem.P.str_of_int hz ⟨.str _,H,I.tok _,⟨_,rfl⟩,q⟩
def zjJ (K:A0) (x:V) (H:Hp) (n:Nat):Prop :=
 match x with
 | .str y=>y.length<=sizeLine/\n=y.length
 | .byt y=>y.size<=sizeLine/\n=y.size
 | .ref p=>(∃ xs,SqL K H p xs/\n=xs.length)\/∃ xs,SqT K H p xs/\n=xs.length
 | _=>False
def zgb:CallR X (.builtin "len") (λ xs H Q=>∃ x n,xs=[x]/\zjJ X.K x H n/\Q (.int n) H):=by
 intro o6 s σ H xs us Q I r h;obtain ⟨x,n,rfl,e,q⟩:=h;obtain ⟨u,rfl,rx⟩:=ZC r;have hl:=ZX;have hs:sizeLine=16777216:=fE;cases x with
 | str y =>
  obtain ⟨t,rfl⟩:=rx;obtain ⟨hy,e'⟩:y.length<=sizeLine/\n=y.length:=e;subst e';exact len_str (by lia) ⟨.int _,H,I.tok _,⟨_,rfl⟩,q⟩
 | byt y =>
  obtain ⟨t,rfl⟩:=rx;obtain ⟨hy,e'⟩:y.size<=sizeLine/\n=y.size:=e;subst e';exact PySem.W.len_bytes (by lia) ⟨.int _,H,I.tok _,⟨_,rfl⟩,q⟩
 | ref p =>
  cases rx;have e':(∃ xs,SqL X.K H p xs/\n=xs.length)\/∃ xs,SqT X.K H p xs/\n=xs.length:=e;rcases e' with ⟨xs,hx,e'⟩|⟨xs,hx,e'⟩
  ·subst e';obtain ⟨oo,r',pl,hz⟩:=I.list hx;have hlen:=r'.length;exact Calls.call_len_list pl.isList (by simp only [av];lia) ⟨.int xs.length,H,I.tok _,⟨_,by simp only [av];rw [hlen]⟩,q⟩
  ·subst e';obtain ⟨oo,r',pl,hz⟩:=I.tuple hx;have hlen:=r'.length;exact len_tuple pl (by simp only [av];lia) ⟨.int xs.length,H,I.tok _,⟨_,by simp only [av];rw [hlen]⟩,q⟩
 | _=>exact (show False from e).elim
end
structure ObjM (h:Heap) (x dx C:Addr) (mA:A4):Prop where
 obj:h.get? x=some (instObj C dx)
 ns:h.Ns1 dx mA
 ne:dx≠x
def zee {h:Heap} {dx:Addr} {mA:A4} (n:h.Ns1 dx mA):∃ od,h.get? dx=some od/\∀ name,lookIn name od=some (mA name):=by
 obtain ⟨o,es,ep,ho,hd,hk,_,hm⟩:=n;refine ⟨o,ho,λ name=>?_⟩;have e:=hm name;unfold nsFind findBy at e;rw [<- Array.find?_toList] at e;unfold lookIn;rw [hd];dsimp only
 split
 ·rename_i y q;rw [q] at e;exact bh some e
 ·rename_i q;rw [q] at e;have a:es.toList.any (·.refKey)=false:=by
   rw [List.any_eq_false];intro y hy;obtain ⟨z,t,hkey⟩:=hk y (Array.mem_toList_iff.mp hy);simp [DictEntry.refKey,hkey]
  have a':¬ es.toList.any (·.refKey)=true:=by rw [a];exact aC
  rw [ao a'];exact bh some e
def ObjM.look {h:Heap} {x dx C:Addr} {mA:A4} (I:ObjM h x dx C mA):∃ od,PySem.W.InstAt h x (instObj C dx) C (some od)/\∀ name,lookIn name od=some (mA name) :=
 let ⟨od,ho,hl⟩:=zee I.ns
 ⟨od,⟨I.obj,rfl,rfl,ho⟩,hl⟩
section
variable {prog:Af} {w:World} {A:Ao} {E:A3} {s:An} {K:A0} {x dx C f:Addr} {mA:A4} {name:Str} {v:Am}
def zhb {expr:Bool} (X:K.In s.heap) (I:ObjM s.heap x dx C mA) (hg:plainGet K C name=true) (hh:hasDictIn K C=true)
  (ha:findIn K (.ref C) name=some none) (hv:mA name=some v) (hv':handedIn v=true) (h:Q v { s with toks:=s.toks + 1 }) :
  wpAny (model prog w) A (getAttr (.ref x) name expr) Q E s:=by
 obtain ⟨od,J,hl⟩:=I.look;exact PySem.W.get_value X J (plainGet_of hg).1 (PySem.W.findObj_own hh ha rfl (by rw [hl,hv])) hv' h
def zfW {pl:Sem Bool} {Q:Value × List Value->Shared->Prop} (X:K.In s.heap) (I:ObjM s.heap x dx C mA) (hg:plainGet K C name=true)
  (hf:findIn K (.ref C) name=some (some (.ref f))) (ht:isFn K (.ref f)=true) (hv:mA name=none) (h:Q (.ref f,[.ref x]) s) :
  wpAny (model prog w) A (getMethod (.ref x) name pl) Q E s:=by
 obtain ⟨od,J,hl⟩:=I.look;exact PySem.W.method_fn X J (plainGet_of hg).1 (plainGet_of hg).2 hf (bD.mp ht) (by show (lookIn name od).map (·.isSome)=some false;rw [hl,hv];rfl) h
def zgE {ns:A8} {Q:Ag} (X:K.In s.heap) (I:ObjM s.heap x dx C mA)
  (hs:findIn K (.ref C) "__setattr__"=some (some (.builtin "object.__setattr__"))) (hp:plainOver K C=true) (ht:takerIn K C name=some none) (hh:hasDictIn K C=true)
  (hw:PySem.Within mA ns) (hsz:ns.length<=sizeLine)
  (h:∀ h',ObjM h' x dx C (λ y=>if y=name then some v else mA y)->Heap.SameBut dx s.heap h'->Q () { s with heap:=h',toks:=s.toks + 2 }) :
  wpAny (model prog w) A (setAttr (.ref x) name v) Q E s:=by
 obtain ⟨od,J,hl⟩:=I.look;refine PySem.W.set_plain X J hs (PySem.W.osa_open (s:={ s with toks:=s.toks + 1 }) (r:=none) X J hp ht λ b=>?_);obtain ⟨cd,hc,hd'⟩:=gG hh;have hx:s.heap.get? x=some ⟨.ref C,some dx,.plain,#[]⟩:=I.obj;refine ai (aG (ai (ai (wpAny_loadPart hx (ai (PySem.W.Looks.here (s:={ s with toks:=s.toks + 1 }) (PySem.W.looks_clsIn X hc) ?_))))));rw [hd'];refine aG (a:=some dx) (ai (aG (ai ?_)));refine wpAny_nsSet1 (s:={ s with toks:=s.toks + 1 }) I.ns λ h' hn2 hs2=>?_;obtain ⟨oD,esD,epD,hoD,hdD,hcD⟩:=hn2.count (PySem.Within.cons name v hw);refine ai (wpAny_lookBehind hoD (by rw [hdD];exact pastItsLine_dict (aZ hcD (by rw [aX];lia))) ?_);exact aG (h _ ⟨(hs2.2 _ (a7 I.ne)).trans I.obj,hn2,I.ne⟩ hs2)
def za7 {R:Result->Shared->Prop} {vs:A7} {kw:List (Str × Value)} (X:K.In s.heap) (hm:makesIn K C=true)
  (hi:findIn K (.ref C) "__init__"=some (some (.ref f))) (hf:typeIn K (.ref f)=some (.type "function"))
  (h:codeAny (model prog w) (A.under (.builtin "type.__call__" ⟨.ref C :: vs,kw⟩)) (.call (.ref f) ⟨.ref (s.heap.objs.size + 1) :: vs,kw⟩) (PySem.W.InitBack (s.heap.objs.size + 1) R)
   { s with heap:=(s.heap.push emptyDict).push (instObj C s.heap.objs.size) }) :
  codeAny (model prog w) A (.call (.ref C) ⟨vs,kw⟩) R s:=by
 obtain ⟨hh,g,d,t,os⟩:=s;exact PySem.W.make_core (PySem.W.makes_of X hm) (looks_findIn X hi) (λ self=>PySem.W.bind_fn X self hf) (.inl rfl) h
end
noncomputable def zS (f:Str) (v:V):List (Str × V)->List (Str × V)
 | []=>[(f,v)]
 | (g,x) :: r=>if g=f then (g,v) :: r else (g,x) :: zS f v r
theorem zE (f g:Str) (v:V):∀ fs:List (Str × V),(zS f v fs).lookup g=if g=f then some v else fs.lookup g
 | []=>by
  show List.lookup g [(f,v)]=_
  by_cases h:g=f
  ·have hb:(g == f)=true:=bD.mpr h;simp only [List.lookup,hb,ap h]
  ·have hb:(g == f)=false:=aW.mpr h;simp only [List.lookup,hb,ao h]
 | (k,x) :: r=>by
  have ih:=zE f g v r;rw [show zS f v ((k,x) :: r)=(if k=f then (k,v) :: r else (k,x) :: zS f v r) from rfl];by_cases hk:k=f
  ·rw [ap hk];by_cases h:g=k
   ·have hb:(g == k)=true:=bD.mpr h;simp only [List.lookup,hb,ap (h.trans hk)]
   ·have hb:(g == k)=false:=aW.mpr h;simp only [List.lookup,hb,ao (λ e:g=f=>h (e.trans hk.symm))]
  ·rw [ao hk];by_cases h:g=k
   ·have hb:(g == k)=true:=bD.mpr h;simp only [List.lookup,hb,ao (λ e:g=f=>hk (h.symm.trans e))]
   ·have hb:(g == k)=false:=aW.mpr h;simp only [List.lookup,hb];exact ih
theorem Q3 (f:Str) (v:V):∀ fs:List (Str × V),f∈(zS f v fs).map (·.1)/\∀ g,g∈fs.map (·.1)->g∈(zS f v fs).map (·.1)
 | []=>⟨by simp [zS],λ g h=>by simp at h⟩
 | (k,x) :: r=>by
  obtain ⟨i1,i2⟩:=Q3 f v r;rw [show zS f v ((k,x) :: r)=(if k=f then (k,v) :: r else (k,x) :: zS f v r) from rfl];by_cases hk:k=f
  ·rw [ap hk];subst hk;exact ⟨by simp,λ g h=>by simpa using h⟩
  ·rw [ao hk];refine ⟨?_,λ g h=>?_⟩
   ·rw [bE];exact aD _ i1
   ·rw [bE] at h ⊢;rcases ar.mp h with e|e
    ·exact ar.mpr (.inl e)
    ·exact aD _ (i2 g e)
theorem wm (f:Str) (v:V):∀ fs:List (Str × V),(zS f v fs).length<=fs.length + 1
 | []=>by simp [zS]
 | (k,x) :: r=>by
  have ih:=wm f v r;rw [show zS f v ((k,x) :: r)=(if k=f then (k,v) :: r else (k,x) :: zS f v r) from rfl];by_cases hk:k=f
  ·rw [ap hk,aX,aX];lia
  ·rw [ao hk,aX,aX];lia
def RelO.some_of {v:V} {o:Option Value} (r:RelO (some v) o):∃ u,o=some u/\RelV v u:=by
 cases o with
 | none=>exact (show False from r).elim
 | some u=>exact ⟨u,rfl,r⟩
def RelO.none_of {o:Option Value} (r:RelO none o):o=none:=by
 cases o with
 | none=>rfl
 | some u=>exact (show False from r).elim
def zeo {v:V} (r:RelV v u):handedIn u=true:=by
 cases v with
 | non=>cases (show u=Value.none from r);rfl
 | bl b=>cases (show u=Value.bool b from r);rfl
 | int i=>obtain ⟨t,e⟩:=(show ∃ t,u=Value.int i t from r);cases e;rfl
 | str x=>obtain ⟨t,e⟩:=(show ∃ t,u=Value.str x t from r);cases e;rfl
 | byt b=>obtain ⟨t,e⟩:=(show ∃ t,u=Value.bytes b t from r);cases e;rfl
 | flt b=>obtain ⟨t,e⟩:=(show ∃ t,u=Value.float b t from r);cases e;rfl
 | ref a=>cases (show u=Value.ref a from r);rfl
 | ty n=>cases (show u=Value.type n from r);rfl
section
variable {P:Af} {w:World} {H H':Hp} {h h':Heap} {a C dx:Addr} {fs fs':Ar}
def JP (hok:HOk P w H h) (e:H a=some (.ins C dx fs)):∃ mA,ObjM h a dx C mA/\(∀ f,RelO (fs.lookup f) (mA f))/\PySem.Within mA (fs.map (·.1))/\fs.length<=1000/\H dx=some (.own a):=by
 obtain ⟨d,z,ne,ob,mA,n,r,q⟩:=(show ObjOk P w H h a (.ins C dx fs) from hok a _ e);exact ⟨mA,⟨ob,n,ne⟩,r,q,z,d⟩
end
structure Cls (K:A0) (C:Addr):Prop where
 pg:plainGet K C Str.empty=true
 hd:hasDictIn K C=true
 po:plainOver K C=true
 sa:findIn K (.ref C) "__setattr__"=some (some (.builtin "object.__setattr__"))
def Cls.get (c:Cls K C) (f:Str):plainGet K C f=true:=c.pg
def NoAttr (K:A0) (C:Addr) (f:Str):Prop:=findIn K (.ref C) f=some none
def NoAttr.taker {f:Str} (n:NoAttr K C f):takerIn K C f=some none:=by
 unfold takerIn;rw [show findIn K (.ref C) f=some none from n]
 rfl
structure Meth (K:A0) (C:Addr) (m:Str) (f:Addr):Prop where
 at_:findIn K (.ref C) m=some (some (.ref f))
 fn:isFn K (.ref f)=true
 kp:keepIn K (.ref f)=true
section
variable {X:Cx} {o6:A2} {σ:St} {H:Hp} {s:An} {a C dx:Addr} {fs:Ar} {f:Str} {v:V} {A:Ao} {E:A3}
def XO {b:Bool} (I:Inv X o6 σ H s) (e:H a=some (.ins C dx fs)) (c:Cls X.K C) (n:NoAttr X.K C f) (l:fs.lookup f=some v)
  (h:∀ u s',Inv X o6 σ H s'->RelV v u->Q u s'):wpAny (model X.prog X.w) A (getAttr (.ref a) f b) Q E s:=by
 obtain ⟨mA,O,r,_,_,_⟩:=JP I.hok e;obtain ⟨u,hu,ru⟩:=RelO.some_of (v:=v) (o:=mA f) (by rw [<- l];exact r f);exact zhb I.kIn O (c.get f) c.hd n hu (zeo ru) (h u _ (I.tok _) ru)
def vx {m:Str} {g:Addr} {pl:Sem Bool} {Q:Value × List Value->Shared->Prop} (I:Inv X o6 σ H s) (e:H a=some (.ins C dx fs)) (c:Cls X.K C) (k:Meth X.K C m g) (l:fs.lookup m=none)
  (h:Q (.ref g,[.ref a]) s):wpAny (model X.prog X.w) A (getMethod (.ref a) m pl) Q E s:=by
 obtain ⟨mA,O,r,_,_,_⟩:=JP I.hok e;have hn:mA m=none:=RelO.none_of (by rw [<- l];exact r m);exact zfW I.kIn O (c.get m) k.at_ k.fn hn h
def J8 {y:V} {Q:Ag} (I:Inv X o6 σ H s) (e:H a=some (.ins C dx fs)) (c:Cls X.K C) (n:NoAttr X.K C f) (hl:fs.length < 1000) (ry:RelV y u)
  (h:∀ s',Inv X o6 σ (upd H a (.ins C dx (zS f y fs))) s'->Q () s'):wpAny (model X.prog X.w) A (setAttr (.ref a) f u) Q E s:=by
 obtain ⟨mA,O,r,wi,_,ho⟩:=JP I.hok e;have hz:(fs.map (·.1)).length<=sizeLine:=by rw [ah,fE];lia
 refine zgE I.kIn O c.sa c.po n.taker c.hd wi hz λ h' O' sb=>h _ ?_;have hd:∃ o,h'.get? dx=some o:=let ⟨o,_,_,e',_⟩:=O'.ns;⟨o,e'⟩
 refine I.write (x:=a) (e:=dx) (by rw [e];exact True.intro) (.inr ho) (λ b q hb z=>(sb.2 b hb).trans z) hd ?_;refine ⟨by rw [oC O.ne];exact ho,?_,O.ne,O'.obj,_,O'.ns,λ g=>?_,λ g hg=>?_⟩
 ·have:=wm f y fs;lia
 ·show RelO ((zS f y fs).lookup g) (if g=f then some u else mA g)
  rw [zE];by_cases q:g=f
  ·rw [ap q,ap q];exact ry
  ·rw [ao q,ao q];exact r g
 ·by_cases q:g=f
  ·rw [q];exact (Q3 f y fs).1
  ·refine (Q3 f y fs).2 g (wi g λ z=>hg ?_);show (if g=f then some u else mA g)=none
   rw [ao q];exact z
def Inv.made (I:Inv X o6 σ H s):Inv X o6 σ (upd (upd H s.heap.objs.size (.own (s.heap.objs.size + 1))) (s.heap.objs.size + 1) (.ins C s.heap.objs.size []))
  { s with heap:=(s.heap.push emptyDict).push (instObj C s.heap.objs.size) }:=by
 have e1:(s.heap.push emptyDict).get? s.heap.objs.size=some emptyDict:=aB s.heap rfl;have e2:((s.heap.push emptyDict).push (instObj C s.heap.objs.size)).get? (s.heap.objs.size + 1)=some (instObj C s.heap.objs.size):=by
  have:=aB (s.heap.push emptyDict) (o:=instObj C s.heap.objs.size) rfl
  rwa [bY] at this
 have e3:(s.heap.push emptyDict).Ns s.heap.objs.size (λ _=>none):=⟨emptyDict,#[],_,e1,rfl,(λ e he=>absurd he (by simp)),λ _=>rfl⟩;have I1:=I.laid (a:=s.heap.objs.size) (o:=.own (s.heap.objs.size + 1)) (h':=s.heap.push emptyDict) (t':=s.toks) (λ b u q=>aj _ q) (au _) ⟨_,e1⟩;refine I1.laid (a:=s.heap.objs.size + 1) (o:=.ins C s.heap.objs.size []) (t':=s.toks) (λ b u q=>aj _ q) (Nat.le_of_eq (bY _ _)) ?_;have ne:s.heap.objs.size≠s.heap.objs.size + 1:=aR (d9 _);refine ⟨by rw [oC ne,oB],bA _,ne,e2,λ _=>none,(Heap.Ns1.of_empty e3).at λ o q=>aj _ q,λ _=>True.intro,λ y hy=>absurd rfl hy⟩
def zho {prog:Af} {env:Env} {e:Expr} {f:Str} {s:An} (hb:attributeBase e f env (eval e env)=eval e env)
  (h:wpAny (model prog w) A (eval e env) (λ o s₁=>wpAny (model prog w) A (getAttr o f true) Q E s₁) E s):wpAny (model prog w) A (eval (.Attribute e f pos) env) Q E s :=
 Attribute_any_ h (by rw [arm_eval_Attribute,hb])
end
def tFld (K:A0) (ta:TE) (f:Str):TE:=λ σ H Q=>ta σ H λ x H1=>∃ a C dx fs v,x=.ref a/\H1 a=some (.ins C dx fs)/\Cls K C/\NoAttr K C f/\fs.lookup f=some v/\Q v H1
def sFld (K:A0) (ta tv:TE) (f:Str):TS:=λ D σ H=>tv σ H λ y H1=>ta σ H1 λ x H2=>∃ a C dx fs,x=.ref a/\H2 a=some (.ins C dx fs)/\Cls K C/\NoAttr K C f/\fs.length < 1000 /\
 D.nx σ (upd H2 a (.ins C dx (zS f y fs)))
def zjK (X:Cx) (op:Operator) (rd:V->V->Hp->VK->Prop):Prop :=
 ∀ (o6:A2) (s:An) (σ:St) (H:Hp) (x y:V) (u v:Am) (Q:VK),Inv X o6 σ H s->RelV x u->RelV y v->rd x y H Q->wpAny (model X.prog X.w) X.A (inplaceOp op u v) (EP X o6 σ Q) X.xe s
def zgF (K:A0) (ta tv:TE) (rd:V->V->Hp->VK->Prop) (f:Str):TS:=λ D σ H=>ta σ H λ x H1=>∃ a C dx fs v,x=.ref a/\H1 a=some (.ins C dx fs)/\Cls K C/\NoAttr K C f/\fs.lookup f=some v /\
 tv σ H1 λ y H2=>rd v y H2 λ z H3=>∃ dx' fs',H3 a=some (.ins C dx' fs')/\fs'.length < 1000/\D.nx σ (upd H3 a (.ins C dx' (zS f z fs')))
section
variable {X:Cx} {o e value:Expr} {f:Str} {pos pos' tpos:Pos} {ta tv:TE}
def zm (he:PE X e ta) (hb:attributeBase e f X.env (eval e X.env)=eval e X.env):PE X (.Attribute e f pos) (tFld X.K ta f):=by
 intro o6 s σ H Q I h;refine zho hb (qL (he o6 s σ H _ I h) λ u s1 x H1 I1 rx qq_=>?_);obtain ⟨a,C,dx,fs,v,ex,ea,c,n,l,q⟩:=qq_;subst ex;obtain rfl:u=Value.ref a:=rx;exact XO I1 ea c n l λ u' s2 I2 ru=>⟨v,H1,I2,ru,q⟩
def qZ (ha:PE X o ta) (hv:PE X value tv) (hs:swapsWith value (some (.Attribute o f pos')) pos.line X.env=pure false):PS X (.Assign [.Attribute o f pos'] value pos) (sFld X.K ta tv f):=by
 intro o6 s σ H D I h;refine plainObj_wpAny_Assign_Attribute (qL (hv o6 s σ H _ I h) λ u s1 y H1 I1 ry q=>qL (ha o6 s1 σ H1 _ I1 q) λ ov s2 x H2 I2 rx qq_=>?_) hs;obtain ⟨a,C,dx,fs,ex,ea,c,n,l,q2⟩:=qq_;subst ex;obtain rfl:ov=Value.ref a:=rx;exact J8 I2 ea c n l ry λ s3 I3=>⟨σ,_,I3,q2⟩
def zd2 {op:Operator} {rd:V->V->Hp->VK->Prop} (ha:PE X o ta) (hv:PE X value tv) (hop:zjK X op rd):PS X (.AugAssign (.Attribute o f tpos) op value pos) (zgF X.K ta tv rd f):=by
 intro o6 s σ H D I h;refine wpAny_AugAssign_AttributeAny (qL (ha o6 s σ H _ I h) λ ov s1 x H1 I1 rx qq_=>?_);obtain ⟨a,C,dx,fs,v,ex,ea,c,n,l,q⟩:=qq_;subst ex;obtain rfl:ov=Value.ref a:=rx;refine XO I1 ea c n l λ u s2 I2 ru=>qL (hv o6 s2 σ H1 _ I2 q) λ w3 s3 y H2 I3 ry q3=>thn (hop o6 s3 σ H2 v y u w3 _ I3 ru ry q3) λ w4 s4 ⟨z,H3,I4,rz,dx',fs',ea',l',q4⟩=>?_;exact J8 I4 ea' c n l' rz λ s5 I5=>⟨σ,_,I5,q4⟩
def zjT:V->V->Hp->VK->Prop:=λ x y H Q=>∃ i j,x=.int i/\y=.int j/\Q (.int (i + j)) H
def ziF:zjK X .Add zjT:=by
 rintro o6 s σ H x y u v Q I rx ry ⟨i,j,rfl,rfl,q⟩;obtain ⟨t,rfl⟩:=(show ∃ t,u=Value.int i t from rx);obtain ⟨t',rfl⟩:=(show ∃ t',v=Value.int j t' from ry);exact PyProof.Rows.iadd_int ⟨.int (i + j),H,I.tok _,⟨_,rfl⟩,q⟩
end
section
variable {X:Cx} {o6:A2} {σ:St} {H:Hp} {s:An} {A:Ao} {E:A3} {Q:A3} {c:Am} {b:Bool}
inductive TyOf (K:A0) (H:Hp):V->Value->Prop where
 | non:TyOf K H .non (.type "NoneType")
 | bl (x:Bool):TyOf K H (.bl x) (.type "bool")
 | int (i:Int):TyOf K H (.int i) (.type "int")
 | str (x:Str):TyOf K H (.str x) (.type "str")
 | flt (x:UInt64):TyOf K H (.flt x) (.type "float")
 | lst {a:Addr} {xs:Ap} (e:H a=some (.lst xs)):TyOf K H (.ref a) (.type "list")
 | frz {a:Addr} {o:Obj} {xs:Ap} (e:H a=some (.frz o (.lst xs))):TyOf K H (.ref a) (.type "list")
 | tup {a:Addr} {xs:Ap} (e:H a=some (.tup xs)):TyOf K H (.ref a) (.type "tuple")
 | dK {a:Addr} {om:List (Key × V)} (e:H a=some (.dK om)):TyOf K H (.ref a) (.type "dict")
 | dT {a:Addr} {om:As} (e:H a=some (.dT om)):TyOf K H (.ref a) (.type "dict")
 | ins {a C dx:Addr} {fs:Ar} (e:H a=some (.ins C dx fs)) (cl:Cls K C) (ha:findIn K (.ref C) "__class__"=some (some (.builtin "object.__class__")))
   (hn:specialIn K (.builtin "object.__class__") "__get__"=some (some (.builtin "getset_descriptor.__get__"))) (htk:takesIn K (.builtin "object.__class__")=some true)
   (hm:mroIn K C (.type "object")=some true):TyOf K H (.ref a) (.ref C)
end
structure Room (k:Nat) (A:Ao):Prop where
 hd:A.handled=none
 dp:A.depth + 3 * k + 5 < recursionLimit
 un:A.units + 16 * k + 200 < cLine
def Room.mono {j k:Nat} (r:Room k A) (h:j<=k):Room j A:=⟨r.hd,by have:=r.dp;lia,by have:=r.un;lia⟩
def Room.deeper (r:Room (k + 1) A) (env:Env):Room k (A.deeper env) :=
 ⟨r.hd,by have:=r.dp;show A.depth + 1 + 3 * k + 5 < _;lia,by have:=r.un;show A.units + 3 + 16 * k + 200 < _;lia⟩
def Room.in1 (r:Room (k + 1) A):Room k A.in1 :=
 ⟨r.hd,by have:=r.dp;show A.depth + 3 * k + 5 < _;lia,by have:=r.un;show A.units + 1 + 16 * k + 200 < _;lia⟩
def zcm {kw:List (Str × Value)}:(A.under (.builtin "type.__call__" ⟨.ref C :: us,kw⟩)).depth=A.depth + 1:=by
 first|rfl|simp [Around.under,Code.weight,Code.isCreation,Code.isGuard,Code.isCaller,Code.frames,Code.isFrame,guardIds]
def zcl {kw:List (Str × Value)}:(A.under (.builtin "type.__call__" ⟨.ref C :: us,kw⟩)).units=A.units + 1:=by
 first|rfl|simp [Around.under,Code.cUnits,Code.frames,Code.isFrame]
def Room.make (r:Room (k + 1) A) (C:Addr) (us:A7) (kw:List (Str × Value)):Room k (A.under (.builtin "type.__call__" ⟨.ref C :: us,kw⟩)) :=
 ⟨r.hd,by have:=r.dp;rw [zcm];lia,by have:=r.un;rw [zcl];lia⟩
def Room.depth (r:Room k A):A.depth < recursionLimit:=by have:=r.dp;lia
def Room.units (r:Room k A):A.units + 64 < cLine:=by have:=r.un;lia
def tNil:TA:=λ _ H Q=>Q [] H
def tCons (ta:TE) (tr:TA):TA:=λ σ H Q=>ta σ H λ x H1=>tr σ H1 λ xs H2=>Q (x :: xs) H2
section
variable {X:Cx} {e:Expr} {es:List Expr} {te:TE} {t:TA} {pos:Pos}
def zb:PA X [] tNil:=λ _ _ _ _ H Q I h=>Calls.spliced_nil ⟨[],H,I,.nil,h⟩
def za (ha:PE X e te) (hr:PA X es t) (hs:starEach (e :: es) X.env=(false,eval e X.env) :: starEach es X.env:=by rfl):PA X (e :: es) (tCons te t):=by
 intro pos o6 s σ H Q I h;rw [hs];show wpAny _ _ (spliced ((false,eval e X.env) :: backTo pos (starEach es X.env))) _ _ s
 refine Calls.spliced_cons (qL (ha o6 s σ H _ I h) λ u s1 x H1 I1 r1 q1=>?_);exact vF (hr pos o6 s1 σ H1 _ I1 q1) λ us s2 xs H2 I2 r2 q2=>⟨x :: xs,H2,I2,.cons r1 r2,q2⟩
def tTup (t:TA):TE:=λ σ H Q=>t σ H λ xs H1=>szl xs (∀ p,H1 p=none->Q (.ref p) (upd H1 p (.tup xs)))
def tLst (t:TA):TE:=λ σ H Q=>t σ H λ xs H1=>szl xs (∀ p,H1 p=none->Q (.ref p) (upd H1 p (.lst xs)))
def jn {x1} (h:PA X es t):PE X (.Tuple es x1 pos) (tTup t):=by
 intro o6 s σ H Q I hq;refine wpAny_Tuple_spliced (vF (h pos o6 s σ H _ I hq) λ us s1 xs H1 I1 r q=>let ⟨z,q⟩:=zbN q;⟨by rw [<- r.length];exact z,?_⟩);have hf:H1 s1.heap.objs.size=none:=I1.hok.fresh (au _);refine ⟨.ref s1.heap.objs.size,upd H1 s1.heap.objs.size (.tup xs),I1.laid (t':=s1.toks) (λ b u e=>aj _ e) (au _) ?_,rfl,q _ hf⟩;exact ⟨z,us,r,⟨_,aB _ rfl,rfl,_,rfl⟩⟩
def zL (h:PA X es t):PE X (.List es pos) (tLst t):=by
 intro o6 s σ H Q I hq;refine wpAny_List_spliced (vF (h pos o6 s σ H _ I hq) λ us s1 xs H1 I1 r q=>let ⟨z,q⟩:=zbN q;⟨by rw [<- r.length];exact z,?_⟩);have hf:H1 s1.heap.objs.size=none:=I1.hok.fresh (au _);refine ⟨.ref s1.heap.objs.size,upd H1 s1.heap.objs.size (.lst xs),I1.laid (t':=s1.toks) (λ b u e=>aj _ e) (au _) ?_,rfl,q _ hf⟩;exact ⟨z,us,0,r,aB _ rfl⟩
end
abbrev Sp:=List V->Hp->VK->XK->Prop
abbrev CXT:=List Env->Hp->Shared->XK->Value->Shared->Prop
variable {CX:CXT}
structure Env0 (P:Af) (w:World) (K:A0) (mg:A4) (base:Heap) (A:Ao) (outer:List Env) (s:An) (H:Hp):Prop where
 frames:A.frames=some outer
 mod:Mod K mg base
 bs:∀ b o,base.get? b=some o->s.heap.get? b=some o/\H b=none
 bsz:base.objs.size<=s.heap.objs.size
 funs:s.heap.FunFrames base outer
 frf:∀ b∈frs outer,H b=none
 hok:HOk P w H s.heap
 bare:AllBare s.gens
def CE (outer:List Env) (P:Af) (w:World) (H:Hp) (s:An) (Q:VK) (u:Am) (s':An):Prop :=
 ∃ v H',s'.os=s.os/\AllBare s'.gens/\Un (frs outer) [] H H' s.heap s'.heap/\HOk P w H' s'.heap/\RelV v u/\Q v H'
def CR (CX:CXT) (outer:List Env) (P:Af) (w:World) (H:Hp) (s:An) (Q:VK) (E:XK) (r:Result) (s':An):Prop :=
 match r with
 | .ok (.ret u)=>CE outer P w H s Q u s'
 | .ok _=>False
 | .error e=>CX outer H s E e s'
structure FnOk (P:Af) (w:World) (K:A0) (mg:A4) (base:Heap) (CX:CXT) (k:Nat) (f:Addr) (fd:FuncData) (ps:A8) (sp:Sp):Prop where
 len:∀ vs H Q E,sp vs H Q E->vs.length=ps.length
 run:∀ (A:Ao) (outer:List Env) (s:An) (H:Hp) (args:Args) (us:A7) (vs:Ap) (Q:VK) (E:XK),Room k A->Env0 P w K mg base A outer s H->BindsTo s fd args (ps.zip us)->Vals vs us->sp vs H Q E ->
  codeAny (model P w) A (.call (.ref f) args) (CR CX outer P w H s Q E) s
def FnOk.mono {j k:Nat} {f:Addr} {ps:A8} {sp:Sp} (F:FnOk P w K mg base CX j f fd ps sp) (h:j<=k) :
  FnOk P w K mg base CX k f fd ps sp:=⟨F.len,λ A outer s H args us vs Q E hr=>F.run A outer s H args us vs Q E (hr.mono h)⟩
def FnOk.imp {f:Addr} {ps:A8} {sp sp':Sp} (F:FnOk P w K mg base CX k f fd ps sp)
  (h:∀ vs H Q E,sp' vs H Q E->sp vs H Q E):FnOk P w K mg base CX k f fd ps sp' :=
 ⟨λ vs H Q E q=>F.len vs H Q E (h _ _ _ _ q),λ A outer s H args us vs Q E hr he hb hv hs=>F.run A outer s H args us vs Q E hr he hb hv (h _ _ _ _ hs)⟩
def Env0.make {outer:List Env} (e:Env0 P w K mg base A outer s H) (C:Addr) (us:A7) (kw:List (Str × Value)) :
  Env0 P w K mg base (A.under (.builtin "type.__call__" ⟨.ref C :: us,kw⟩)) outer s H:=⟨by first|exact e.frames|(simpa [Around.under,Code.envs,Code.isFrame,pushEnvs] using e.frames),e.mod,e.bs,e.bsz,e.funs,e.frf,e.hok,e.bare⟩
def Env0.in1 {outer:List Env} (e:Env0 P w K mg base A outer s H) :
  Env0 P w K mg base A.in1 outer s H:=⟨e.frames,e.mod,e.bs,e.bsz,e.funs,e.frf,e.hok,e.bare⟩
section
variable {X:Cx} {o6:A2} {σ:St} {H:Hp} {s s':An}
def Inv.env0 (I:Inv X o6 σ H s):Env0 X.prog X.w X.K X.mg X.base X.A X.stack s H :=
 ⟨I.ok.frames,I.ok.mod,I.bs,aZ I.ok.bsz I.sz,I.stack,I.stkFree,I.hok,I.bare⟩
def Inv.after {Q:VK} (I:Inv X o6 σ H s) (h:CE X.stack X.prog X.w H s Q u s'):EP X o6 σ Q u s':=by
 obtain ⟨v,H',os,bare,un,hok,r,q⟩:=h;obtain ⟨hh,g,d,t,os'⟩:=s';obtain rfl:os'=s.os:=os;exact ⟨v,H',I.call (h':=hh) (g':=g) (d':=d) (t':=t) (ch:=[]) un hok bare (λ b z=>absurd z (by simp)),r,q⟩
end
def Binds (K:A0) (fd:FuncData) (ps:A8) (ds:A7):Prop :=
 ∀ (s:An) (us:A7),K.In s.heap->(us ++ ds).length=ps.length->BindsTo s fd ⟨us,[]⟩ (ps.zip (us ++ ds))
def Binds.all {ps:A8} (h:∀ us:List Value,us.length=ps.length->bindArgs fd ⟨us,[]⟩=pure (ps.zip us)):Binds K fd ps []:=λ s us _ hl=>by
 rw [bT] at hl ⊢;exact .of_eq (h us hl)
def zcK (CX:CXT) (X:Cx) (E:XK):Prop:=∀ (o6:A2) (σ:St) (H:Hp) (s:An) (e:Am) (s':An),Inv X o6 σ H s->CX X.stack H s E e s'->X.xe e s'
section
variable {X:Cx} {CX:CXT} {k:Nat} {f C:Addr} {fd:FuncData} {ps:A8} {sp:Sp} {dvs:Ap} {ds:A7} {E:XK} {x m:Str} {p pos apos:Pos} {e o:Expr} {es:List Expr} {ta:TE} {t:TA}
theorem zb2 {Q:VK} {vs:Ap} (F:FnOk X.prog X.w X.K X.mg X.base CX k f fd ps sp) (hr:Room k X.A) (hb:Binds X.K fd ps ds) (hd:Vals dvs ds) (hx:zcK CX X E)
  (I:Inv X o6 σ H s) (r:Vals vs us) (h:sp (vs ++ dvs) H Q E):wpAny (model X.prog X.w) X.A (call (.ref f) us) (EP X o6 σ Q) X.xe s:=by
 have r2:Vals (vs ++ dvs) (us ++ ds):=r.append hd;have hl:(us ++ ds).length=ps.length:=by rw [<- r2.length];exact F.len _ _ _ _ h
 refine gb (dg (F.run X.A X.stack s H ⟨us,[]⟩ (us ++ ds) (vs ++ dvs) Q E hr I.env0 (hb s us I.kIn hl) r2 h) λ r s' hq=>?_);cases r with
 | error e=>exact hx o6 σ H s e s' I hq
 | ok fl =>
  cases fl with
  | ret u=>exact I.after hq
  | next=>exact False.elim hq
  | brk=>exact False.elim hq
  | cont=>exact False.elim hq
structure Mk (K:A0) (C f:Addr):Prop where
 makes:makesIn K C=true
 init:findIn K (.ref C) "__init__"=some (some (.ref f))
 fn:isFn K (.ref f)=true
 kp:keepIn K (.ref C)=true
theorem ze8 {Q:VK} {vs:Ap} (M:Mk X.K C f) (F:FnOk X.prog X.w X.K X.mg X.base CX k f fd ps sp) (hr:Room (k + 1) X.A) (hb:Binds X.K fd ps ds) (hd:Vals dvs ds)
  (hx:zcK CX X E) (I:Inv X o6 σ H s) (r:Vals vs us)
  (h:∀ x dx,H x=none->H dx=none->dx≠x->sp (.ref x :: (vs ++ dvs)) (upd (upd H dx (.own x)) x (.ins C dx [])) (λ v H2=>v=.non/\Q (.ref x) H2) E) :
  wpAny (model X.prog X.w) X.A (call (.ref C) us) (EP X o6 σ Q) X.xe s:=by
 have hq:=h (s.heap.objs.size + 1) s.heap.objs.size (I.hok.fresh (cP _)) (I.hok.fresh (au _)) (aR (d9 _));have I2:=Inv.made (C:=C) I;have r2:Vals (V.ref (s.heap.objs.size + 1) :: (vs ++ dvs)) (Value.ref (s.heap.objs.size + 1) :: (us ++ ds)):=.cons rfl (r.append hd);have hl:(Value.ref (s.heap.objs.size + 1) :: us ++ ds).length=ps.length:=by
  have e:=r2.length;rw [F.len _ _ _ _ hq] at e;exact e.symm
 refine gb (za7 (f:=f) I.kIn M.makes M.init (bD.mp M.fn) (dg (F.run _ X.stack _ _ ⟨Value.ref (s.heap.objs.size + 1) :: us,[]⟩ (Value.ref (s.heap.objs.size + 1) :: (us ++ ds)) _ _ E (hr.make C us [])
  (I2.env0.make C us []) (hb _ (Value.ref (s.heap.objs.size + 1) :: us) I2.kIn hl) r2 hq) λ r s' hq'=>?_))
 cases r with
 | error e=>exact hx o6 σ _ _ e s' I2 hq'
 | ok fl =>
  cases fl with
  | ret u =>
   obtain ⟨v,H',I3,rv,ev,q3⟩:=I2.after hq';subst ev;exact ⟨rv,⟨V.ref (s.heap.objs.size + 1),H',I3,rfl,q3⟩⟩
  | next=>exact False.elim hq'
  | brk=>exact False.elim hq'
  | cont=>exact False.elim hq'
end
def PK (X:Cx) (kws:List Keyword) (t:TA):Prop :=
 ∀ (pos:Pos) (o6:A2) (s:An) (σ:St) (H:Hp) (Q:List V->Hp->Prop),Inv X o6 σ H s->t σ H Q->wpAny (model X.prog X.w) X.A (evalAll ((backToKw pos (keywordEach kws X.env)).map (·.2))) (AP X o6 σ Q) X.xe s
section
variable {X:Cx} {CX:CXT} {k:Nat} {f C:Addr} {fd:FuncData} {ps ks:A8} {sp:Sp} {E:XK} {x m:Str} {p pos apos kpos:Pos} {e o:Expr} {es:List Expr} {kws:List Keyword} {te ta:TE} {t tk:TA} {nm:Option Str}
variable {g:List Value->List Value->List Value} {gV:List V->List V->List V}
end
structure FnScope (N P:A8) (sc:Scope):Prop where
 kind:sc.kind=.function
 co:sc.isCoroutine=false
 gen:sc.isGenerator=false
 nd:N.Nodup
 pre:N.take P.length=P
 par:∀ x∈P,sc.names.lookup x=some .local\/sc.names.lookup x=some .cell
 nofree:∀ y∈sc.names,y.2≠.free
theorem Vc {kindOf:Str->Option NameKind} {x:Str}:∀ {binds:List (Str × Value)} {m:A4},(∀ v,(x,v) ∉ binds)->bindL kindOf binds m x=m x
 | [],_,_=>rfl
 | (n,v) :: r,m,h=>by
  unfold bindL;rw [Vc λ w hw=>h w (aD _ hw)]
  split
  ·have:x≠n:=by rintro rfl;exact h v aY
   simp [this]
  ·rfl
theorem Ve {kindOf:Str->Option NameKind} {x:Str}:∀ {binds:List (Str × Value)} {m:A4},(∀ v,(x,v) ∉ binds)->bindC kindOf binds m x=m x
 | [],_,_=>rfl
 | (n,v) :: r,m,h=>by
  unfold bindC;rw [Ve λ w hw=>h w (aD _ hw)]
  split
  ·rfl
  ·have:x≠n:=by rintro rfl;exact h v aY
   simp [this]
theorem Vd {kindOf:Str->Option NameKind} {x:Str} {v:Am}:∀ {P:A8} {vs:A7} {i:Nat} {m:A4},P.Nodup->P[i]?=some x->vs[i]?=some v->kindOf x=some .local ->
  bindL kindOf (P.zip vs) m x=some v
 | [],_,_,_,_,h,_,_=>by simp at h
 | _ :: _,[],_,_,_,_,h,_=>by simp at h
 | p :: P,w :: vs,0,m,nd,h1,h2,hk=>by
  simp at h1 h2;subst h1;subst h2;show bindL kindOf ((p,w) :: P.zip vs) m p=_
  unfold bindL;rw [Vc λ v hv=>(dD.mp nd).1 (of_mem_zip hv).1,ap hk];simp
 | p :: P,w :: vs,i + 1,m,nd,h1,h2,hk=>by
  show bindL kindOf ((p,w) :: P.zip vs) m x=_
  unfold bindL;exact Vd (i:=i) (dD.mp nd).2 (by simpa using h1) (by simpa using h2) hk
theorem Vf {kindOf:Str->Option NameKind} {x:Str} {v:Am}:∀ {P:A8} {vs:A7} {i:Nat} {m:A4},P.Nodup->P[i]?=some x->vs[i]?=some v->kindOf x≠some .local ->
  bindC kindOf (P.zip vs) m x=some v
 | [],_,_,_,_,h,_,_=>by simp at h
 | _ :: _,[],_,_,_,_,h,_=>by simp at h
 | p :: P,w :: vs,0,m,nd,h1,h2,hk=>by
  simp at h1 h2;subst h1;subst h2;show bindC kindOf ((p,w) :: P.zip vs) m p=_
  unfold bindC;rw [Ve λ v hv=>(dD.mp nd).1 (of_mem_zip hv).1,ao hk];simp
 | p :: P,w :: vs,i + 1,m,nd,h1,h2,hk=>by
  show bindC kindOf ((p,w) :: P.zip vs) m x=_
  unfold bindC;exact Vf (i:=i) (dD.mp nd).2 (by simpa using h1) (by simpa using h2) hk
noncomputable def start (N:A8) (vs:Ap):St:=vs.map some ++ List.replicate (N.length - vs.length) none
noncomputable def JB (CX:CXT) (P:Af) (w:World) (K:A0) (mg:A4) (base:Heap) (N:A8) (qual:Str) (scope:Scope) (f:Addr) (cd:Am) (A:Ao) (outer:List Env) (s:An) (H:Hp) (E:XK):Cx where
 prog:=P
 w:=w
 K:=K
 mg:=mg
 base:=base
 A:=A.deeper (envOfC qual scope s.heap.objs.size f cd)
 N:=N
 s₀:=s
 H₀:=H
 env:=envOfC qual scope s.heap.objs.size f cd
 outer:=outer
 stack:=envOfC qual scope s.heap.objs.size f cd :: outer
 ex:=[]
 calm:=true
 fn:=λ _=>true
 pn:=[]
 xe:=λ e s'=>wpAny (model P w) (A.deeper (envOfC qual scope s.heap.objs.size f cd)) (leaving (envOfC qual scope s.heap.objs.size f cd) e) (λ _ s''=>CX outer H s E e s'') (λ e' s''=>CX outer H s E e' s'') s'
def zbv {sc:Scope} {n:Nat} (h:sc.names.lookup x=some .cell):∃ c,(cellsFrom n sc.names []).lookup x=some c:=by
 have q:=fH sc.names n [] (.inl h);exact fz.mp q
theorem zek {N ps:A8} {qual:Str} {scope:Scope} {f:Addr} {cd:Am} {outer:List Env} {s s1:An} {E:XK} {vs:Ap}
  (S:FnScope N ps scope) (hd:A.handled=none) (e0:Env0 P w K mg base A outer s H) (hl:vs.length=ps.length) (r:Vals vs us)
  (x:InCallC s s.heap.objs.size (bindL (envOfC qual scope s.heap.objs.size f cd).kindOf (ps.zip us) λ _=>none) (cellsFrom (s.heap.objs.size + 1) scope.names []) (bindC (envOfC qual scope s.heap.objs.size f cd).kindOf (ps.zip us) λ _=>none) s1) :
  Inv (JB CX P w K mg base N qual scope f cd A outer s H E) [] (start N vs) H s1:=by
 have hpl:ps.length<=N.length:=by have:=bh List.length S.pre;rw [aJ] at this;lia
 obtain ⟨h1,tk,rfl,hk⟩:=x.done;have noA:∀ b:Addr,b ∉ (JB CX P w K mg base N qual scope f cd A outer s H E).ex:=λ b z=>absurd (show b∈([]:Ab) from z) (by simp);refine ⟨⟨e0.mod,S.kind,rfl,rfl,au _,λ y z c h1 h2=>?_,λ y hy=>?_,λ y c _ h=>?_,λ _=>hd,Around.frames_deeper e0.frames,.inr ⟨rfl,rfl⟩,λ b z=>absurd z (noA b),e0.bs,e0.bsz,λ b _ _=>noA b,λ b z=>absurd z (noA b),e0.funs,e0.frf⟩,
  rfl,e0.bare,Un.kept hk,⟨_,x.toInCall.ns,λ i y v h1 h2 h3=>?_⟩,λ y c h=>⟨_,x.cell y c h⟩,e0.hok.fresh (au _),λ y c h=>?_,λ p hp=>absurd (show p∈([]:A2) from hp) (by simp),e0.hok.kept hk,?_⟩
 ·exact name_of_addr x.apart (bH h1) (bH h2)
 ·have hy:scope.names.lookup y=some .cell\/scope.names.lookup y=some .free:=hy;rcases hy with hy|hy
  ·exact zbv hy
  ·exact absurd rfl (S.nofree _ (bH hy))
 ·exact bU (x.above y c (bH h))
 ·have hi:i < vs.length:=by
   unfold start at h2;by_cases hi:i < vs.length
   ·exact hi
   ·rw [aN (by simpa using hi)] at h2;rw [dh] at h2
    split at h2 <;> cases h2
  have ha:vs[i]?=some v:=by
   unfold start at h2;rw [aQ (by simpa using hi),ak] at h2;cases e:vs[i]? with
   | none=>rw [e] at h2;cases h2
   | some a=>rw [e] at h2;cases h2;rfl
  obtain ⟨u,hu,rv⟩:=r.get ha;have hp:ps[i]?=some y:=by
   rw [<- S.pre,List.getElem?_take_of_lt (by lia)];exact h1
  have ndP:ps.Nodup:=by rw [<- S.pre];exact S.nd.sublist (List.take_sublist _ _)
  refine ⟨u,rv,?_⟩;rcases S.par y (af hp) with k|k
  ·exact .inl ⟨k,Vd ndP hp hu k⟩
  ·obtain ⟨c,e⟩:=zbv (n:=s.heap.objs.size + 1) k;refine .inr ⟨.inl k,c,e,?_⟩;have q:=x.cell y c e;rw [Vf ndP hp hu (by show scope.names.lookup y≠_;rw [k];decide)] at q;exact q
 ·exact e0.hok.fresh (bU (x.above y c (bH h)))
 ·unfold start;show _=N.length
  rw [aF,ah,bd]
  lia
theorem zfZ {f:Addr} {name qual:Str} {params:Arguments} {body:List Stmt} {scope:Scope} {dV kV doc pm cdv ct oc:Am} {an od:Aa}
  {osl:Ae} {N ps:A8} {sp:Sp} (lk:K.lookup f=some ⟨oc,od,.func (fnOf name qual params body scope dV kV doc pm an cdv ct),osl⟩) (hcd:codeIn K cdv qual=true) (S:FnScope N ps scope)
  (len:∀ vs H Q E,sp vs H Q E->vs.length=ps.length)
  (hbody:∀ (A:Ao) (outer:List Env) (s:An) (H:Hp) (vs:Ap) (Q:VK) (E:XK),Room k (A.deeper (envOfC qual scope s.heap.objs.size f cdv))->sp vs H Q E ->
   ∃ t,PSs (JB CX P w K mg base N qual scope f cdv A outer s H E) body t/\t { nx:=λ _ H'=>Q .non H',rt:=Q } (start N vs) H) :
  FnOk P w K mg base CX (k + 1) f (fnOf name qual params body scope dV kV doc pm an cdv ct) ps sp:=by
 refine ⟨len,λ A outer s H args us vs Q E hr e0 hb r hsp=>?_⟩;have hl:=len _ _ _ _ hsp;have KX:K.In s.heap:=e0.mod.kin.keeps λ b o e=>(e0.bs b o e).1;have lim:s.heap.NoLimit:=e0.mod.nolimit.keeps λ b o e=>(e0.bs b o e).1;have hkind:∀ y∈ps.zip us,scope.names.lookup y.1=some .local\/(scope.names.lookup y.1=some .cell/\((cellsFrom (s.heap.objs.size + 1) scope.names []).lookup y.1).isSome=true):=λ ⟨n,v⟩ hy=>by
  rcases S.par n (of_mem_zip hy).1 with q|q
  ·exact .inl q
  ·exact .inr ⟨q,fH _ _ _ (.inl q)⟩
 refine codeAny_call_function hr.depth (KX _ _ lk) rfl S.co S.gen rfl (PySem.W.codeRec_of KX hcd) (hb _ _ _ _ ?_);refine wpAny_newFunctionEnv_cells S.kind hkind λ env he s1 x=>?_;subst he;refine ⟨lim.keeps x.toInCall.keep,codeAny_func ?_⟩;obtain ⟨t,ht,hq⟩:=hbody A outer s H vs Q E (hr.deeper _) hsp;have I:Inv (JB CX P w K mg base N qual scope f cdv A outer s H E) [] (start N vs) H s1:=zek S hr.hd e0 hl r x;refine aS (ht [] s1 (start N vs) H _ I hq) (λ fl s' hs=>?_) λ e s' hs=>hs;have fin:∀ {σ':St} {H':Hp} {v:V} {u:Am},Inv (JB CX P w K mg base N qual scope f cdv A outer s H E) [] σ' H' s'->RelV v u->Q v H'->CE outer P w H s Q u s' :=
  λ {σ' H' v u} J rv q=>⟨v,H',J.os,J.bare,J.base,J.hok,rv,q⟩
 cases fl with
 | ret u =>
  obtain ⟨v,σ',H',J,rv,q⟩:=hs;exact fin J rv q
 | next =>
  obtain ⟨σ',H',J,q⟩:=hs;exact fin (v:=V.non) (u:=Value.none) J rfl q
 | brk =>
  obtain ⟨_,_,_,q⟩:=hs;exact False.elim q
 | cont =>
  obtain ⟨_,_,_,q⟩:=hs;exact False.elim q
section
variable {X:Cx} {x:Str} {p pos:Pos} {e:Expr} {es:List Expr} {t:TA} {id T:String} {r:List V->Hp->VK->Prop}
def tCB (r:List V->Hp->VK->Prop) (t:TA):TE:=λ σ H Q=>t σ H λ vs H1=>r vs H1 Q
def zfq (hc:CallR X (.builtin id) r) (hg:Gl X x) (hm:X.mg x=none) (hv:bootBuiltins x=some (.builtin id)) (ha:PA X (e :: es) t) (hn:x≠"__name__":=by decide) (hdb:(x == ("__debug__":Str))=false:=by decide)
  (he:starEach (e :: es) X.env=(false,eval e X.env) :: starEach es X.env:=by rfl) (hpl:(backTo pos (starEach es X.env)).any (·.1)=false:=by rfl):PE X (.Call (.Name x p) (e :: es) [] pos) (tCB r t):=by
 intro o6 s σ H Q I h;refine bt (vp I hg hm hv ?_ hn hdb);exact PyProof.Rows.callWith_builtin1 (vF (ha pos o6 s σ H _ I h) λ us s1 vs H1 I1 r1 q1=>hc o6 s1 σ H1 vs us Q I1 r1 q1) he hpl
def zd5 (hc:CallR X (.type T) r) (hg:Gl X x) (hm:X.mg x=none) (hv:bootBuiltins x=some (.type T)) (ha:PA X (e :: es) t) (hn:x≠"__name__":=by decide) (hdb:(x == ("__debug__":Str))=false:=by decide)
  (he:starEach (e :: es) X.env=(false,eval e X.env) :: starEach es X.env:=by rfl) (hpl:(backTo pos (starEach es X.env)).any (·.1)=false:=by rfl):PE X (.Call (.Name x p) (e :: es) [] pos) (tCB r t):=by
 intro o6 s σ H Q I h;refine bt (vp I hg hm hv ?_ hn hdb);exact bb (vF (ha pos o6 s σ H _ I h) λ us s1 vs H1 I1 r1 q1=>hc o6 s1 σ H1 vs us Q I1 r1 q1) he hpl
end
end L2
namespace HT
open PySem PyProof.Rows
section
open PySem.SeqAt
open PySem.AutoSeq1 (wpAny_loadPart')
open PySem.MeetsSeq PySem.MeetsSeq2 PySem.MeetsSeq3
end
section
variable {prog:Af} {w:World} {A:Ao} {E:A3} {s:An}
noncomputable def sIx (n d:Nat):Option Int->Nat
 | none=>d
 | some v=>if v < 0 then (v + (n:Int)).toNat else min v.toNat n
theorem sIx_none (n d:Nat):sIx n d none=d:=rfl
def sIx_nat (n d k:Nat):sIx n d (some (k:Int))=min k n:=by
 show (if (k:Int) < 0 then ((k:Int) + (n:Int)).toNat else min (k:Int).toNat n)=min k n
 rw [ao (by lia),ax]
end
end HT
namespace L2
open PySem PySem.Spec PyProof.Rows
variable {us:A7}
abbrev TO:=St->Hp->(Option Int->Hp->Prop)->Prop
def PO (X:Cx) (e:Option Expr) (t:TO):Prop :=
 ∀ (o6:A2) (s:An) (σ:St) (H:Hp) (Q:Option Int->Hp->Prop),Inv X o6 σ H s->t σ H Q ->
  wpAny (model X.prog X.w) X.A (evalPart e X.env) (λ u s'=>∃ o H',Inv X o6 σ H' s'/\IsPart u o/\Q o H') X.xe s
def tNoPart:TO:=λ _ H Q=>Q none H
def tPart (t:TE):TO:=λ σ H Q=>t σ H λ x H1=>iq x λ i=>Q (some i) H1
def zcu {ns:A6}:∀ {us:A7},Vals (ns.map V.int) us->IntsAre us ns:=by
 induction ns with
 | nil=>intro us r;rw [map_nil] at r;cases r;exact .nil
 | cons n ns ih =>
  intro us r;rw [bE] at r;cases r with
  | cons r1 r2 =>
   obtain ⟨t,e⟩:=r1;subst e;exact .cons n t (ih r2)
section
variable {X:Cx} {e:Expr} {te:TE} {lo hi:Option Expr} {tl th:TO} {pos p2:Pos}
def qR:PO X none tNoPart:=by
 intro o6 s σ H Q I h;rw [evalPart_none];exact aG ⟨none,H,I,.none,h⟩
def qv (h:PE X e te):PO X (some e) (tPart te):=by
 intro o6 s σ H Q I hw;rw [evalPart_some];refine qL (h o6 s σ H _ I hw) λ u s1 x H1 I1 r1 q1=>?_;obtain ⟨i,rfl,q⟩:=Qr q1;obtain ⟨t,rfl⟩:=r1;exact ⟨some i,H1,I1,.int i t,q⟩
def SlR (X:Cx) (r:V->Option Int->Option Int->Hp->VK->Prop):Prop :=
 ∀ (o6:A2) (s:An) (σ:St) (H:Hp) (x:V) (v vl vu:Am) (lo hi:A9) (sl:Addr) (Q:VK),Inv X o6 σ H s->RelV x v->s.heap.IsSliceOf sl vl vu .none->IsPart vl lo->IsPart vu hi->r x lo hi H Q ->
  ∃ T id,typeLookup (.type T) "__getitem__"=pure (some (.builtin id))/\s.TypeIs v T/\wpAny (model X.prog X.w) X.A (getItem v (.ref sl)) (EP X o6 σ Q) X.xe s
def SlR.or {r r':V->Option Int->Option Int->Hp->VK->Prop} (h:SlR X r) (h':SlR X r'):SlR X (λ x lo hi H Q=>r x lo hi H Q\/r' x lo hi H Q):=by
 intro o6 s σ H x v vl vu lo hi sl Q I rx hs pl pu q;rcases q with q|q
 ·exact h o6 s σ H x v vl vu lo hi sl Q I rx hs pl pu q
 ·exact h' o6 s σ H x v vl vu lo hi sl Q I rx hs pl pu q
def tSl (r:V->Option Int->Option Int->Hp->VK->Prop) (te:TE) (tl th:TO):TE:=λ σ H Q=>te σ H λ x H1=>tl σ H1 λ l H2=>th σ H2 λ u H3=>r x l u H3 Q
def qu {r:V->Option Int->Option Int->Hp->VK->Prop} (hr:SlR X r) (he:PE X e te) (hl:PO X lo tl) (hu:PO X hi th):PE X (.Subscript e (.Slice lo hi none p2) pos) (tSl r te tl th):=by
 intro o6 s σ H Q I h;refine Subscript_ (qL (he o6 s σ H _ I h) λ v s1 x H1 I1 r1 q1=>?_);refine wpAny_Slice (thn (hl o6 s1 σ H1 _ I1 q1) λ vl s2 ⟨l,H2,I2,pl,q2⟩=>thn (hu o6 s2 σ H2 _ I2 q2) λ vu s3 ⟨u,H3,I3,pu,q3⟩=>?_);rw [evalPart_none];refine aG ?_;have I4:Inv X o6 σ H3 { s3 with heap:=s3.heap.push { cls:=.type "slice",data:=.fields #[vl,vu,.none] } }:=I3.kept (t':=s3.toks) λ b ob q=>aj _ q;obtain ⟨T,id,hT,ht,hg⟩:=hr o6 { s3 with heap:=s3.heap.push { cls:=.type "slice",data:=.fields #[vl,vu,.none] } } σ H3 x v vl vu l u s3.heap.objs.size Q I4 r1 (Heap.IsSliceOf.new ..) pl pu q3;show wpAny (model X.prog X.w) X.A (subscriptTail e (.Slice lo hi none p2) v (.ref s3.heap.objs.size)) (EP X o6 σ Q) X.xe { s3 with heap:=s3.heap.push { cls:=.type "slice",data:=.fields #[vl,vu,.none] } }
 exact tail_any (ops:=[.ref s3.heap.objs.size,v]) ht hT hg (by with_unfolding_all rfl)
noncomputable def wL (xs:Ap) (lo hi:A9):List V:=(xs.drop (HT.sIx xs.length 0 lo)).take (HT.sIx xs.length xs.length hi - HT.sIx xs.length 0 lo)
def zbr (xs:Ap) (lo hi:A9):(wL xs lo hi).length<=xs.length:=by
 unfold wL;rw [aJ,dq]
 lia
end
noncomputable def ixN (n:Nat) (i:Int):Option Nat:=if 0<=i then (if i < n then some i.toNat else none) else if -(n:Int)<=i then some (i + n).toNat else none
noncomputable def atI {α:Type} (xs:List α) (i:Int):Option α:=(ixN xs.length i).bind λ j=>xs[j]?
def zc8 {n:Nat} {i:Int} {j:Nat} (h:ixN n i=some j):seqIndex? i n=some j/\j < n/\-(n:Int)<=i/\i < n:=by
 unfold ixN at h;by_cases h0:0<=i
 ·rw [ap h0] at h;by_cases h1:i < n
  ·rw [ap h1] at h;have e:i.toNat=j:=aI h;exact ⟨by rw [fF h0 h1,e],by lia,by lia,h1⟩
  ·rw [ao h1] at h;cases h
 ·rw [ao h0] at h;by_cases h1:-(n:Int)<=i
  ·rw [ap h1] at h;have e:(i + n).toNat=j:=aI h;exact ⟨by rw [seqIndex_neg (by lia) h1,e],by lia,h1,by lia⟩
  ·rw [ao h1] at h;cases h
def JR {α:Type} {xs:List α} {i:Int} {v:α} (h:atI xs i=some v):∃ j,seqIndex? i xs.length=some j/\xs[j]?=some v/\j < xs.length/\-(xs.length:Int)<=i/\i < xs.length:=by
 unfold atI at h;cases e:ixN xs.length i with
 | none=>rw [e] at h;cases h
 | some j =>
  rw [e] at h;obtain ⟨h1,h2,h3,h4⟩:=zc8 e;exact ⟨j,h1,h,h2,h3,h4⟩
def zD {α:Type} {xs:List α} {j:Nat} {v:α} (h:xs[j]?=some v):atI xs (j:Int)=some v:=by
 have hj:j < xs.length:=(aa.mp h).1;have e:ixN xs.length (j:Int)=some j:=by
  unfold ixN;rw [ap (by lia),ap (by lia)];simp
 unfold atI;rw [e];exact h
def zdx (b:Expr):Prop:=∀ o i,subscripted b false o i=operate [o,i] (getItem o i)
def IxR (X:Cx) (r:R2):Prop :=
 ∀ (value slice:Expr) (o6:A2) (s:An) (σ:St) (H:Hp) (x y:V) (v u:Am) (Q:VK),Inv X o6 σ H s->RelV x v->RelV y u->r x y H Q ->
  subscripted slice false v u=operate [v,u] (getItem v u)->wpAny (model X.prog X.w) X.A (subscriptTail value slice v u) (EP X o6 σ Q) X.xe s
def MtR (X:Cx) (id:String) (r:V->List V->Hp->VK->Prop):Prop :=
 ∀ (o6:A2) (s:An) (σ:St) (H:Hp) (x:V) (xs:Ap) (v:Am) (us:A7) (Q:VK),Inv X o6 σ H s->RelV x v->Vals xs us->r x xs H Q ->
  wpAny (model X.prog X.w) X.A (call (.builtin id) (v :: us)) (EP X o6 σ Q) X.xe s
section
variable {X:Cx} {a b:Expr} {ta tb:TE} {pos:Pos}
def IxR.or {r r':R2} (h:IxR X r) (h':IxR X r'):IxR X (λ x y H Q=>r x y H Q\/r' x y H Q):=by
 intro value slice o6 s σ H x y v u Q I rx ry q hs;rcases q with q|q
 ·exact h value slice o6 s σ H x y v u Q I rx ry q hs
 ·exact h' value slice o6 s σ H x y v u Q I rx ry q hs
def MtR.or {id:String} {r r':V->List V->Hp->VK->Prop} (h:MtR X id r) (h':MtR X id r'):MtR X id (λ x xs H Q=>r x xs H Q\/r' x xs H Q):=by
 intro o6 s σ H x xs v us Q I rx rs q;rcases q with q|q
 ·exact h o6 s σ H x xs v us Q I rx rs q
 ·exact h' o6 s σ H x xs v us Q I rx rs q
def zjk {r:R2} (hr:IxR X r) (ha:PE X a ta) (hb:PE X b tb) (hs:zdx b):PE X (.Subscript a b pos) (tOp r ta tb):=by
 intro o6 s σ H Q I h;exact Subscript_ (ziR ha hb I h λ v u s2 x y H2 I2 rx ry q=>hr a b o6 s2 σ H2 x y v u Q I2 rx ry q (hs _ _))
def zjh (K:A0):R2:=λ x y H Q=>∃ p xs i v,x=.ref p/\y=.int i/\SqL K H p xs/\atI xs i=some v/\Q v H
def zjf (K:A0):R2:=λ x y H Q=>∃ p xs i v,x=.ref p/\y=.int i/\SqT K H p xs/\atI xs i=some v/\Q v H
def zjg:R2:=λ x y H Q=>∃ z i c,x=.str z/\y=.int i/\z.length<=sizeLine/\atI z.cps.toList i=some c/\Q (.str ⟨#[c]⟩) H
def ix_list:IxR X (zjh X.K):=by
 intro value slice o6 s σ H x y v u Q I rx ry h hs;obtain ⟨p,xs,i,z,rfl,rfl,hq,he,q⟩:=h;cases rx;obtain ⟨t,rfl⟩:=ry;obtain ⟨oo,r,pl,hz⟩:=I.list hq;obtain ⟨j,h1,h2,h3,h4,h5⟩:=JR he;obtain ⟨w,ew,rw'⟩:=r.get h2;have hl:=r.length;have hn:=ZX;have fin:EP X o6 σ Q w s:=⟨z,H,I,rw',q⟩;by_cases h0:0<=i
 ·have hj:i.toNat=j:=by
   rw [fF h0 h5] at h1;exact aI h1
  exact item_listR pl.isList h0 (by lia) (by rw [hj];simpa using ew) fin hs
 ·have hj:(i + (oo.toArray.size:Int)).toNat=j:=by
   rw [seqIndex_neg (by lia) h4] at h1;rw [av,<- hl];exact aI h1
  exact subscriptTail_builtinR (x:=w) pl.isList.typeIs slot_list_getitem.lookup
   (wpAny_getItem_list_neg (Q:=λ r s'=>r=w/\EP X o6 σ Q r s') pl.isList (by lia) (by rw [av] <;> lia) (by lia) (by rw [hj];simpa using ew) ⟨rfl,fin⟩) hs
def ix_tup:IxR X (zjf X.K):=by
 intro value slice o6 s σ H x y v u Q I rx ry h hs;obtain ⟨p,xs,i,z,rfl,rfl,hq,he,q⟩:=h;cases rx;obtain ⟨t,rfl⟩:=ry;obtain ⟨oo,r,pl,hz⟩:=I.tuple hq;obtain ⟨j,h1,h2,h3,h4,h5⟩:=JR he;obtain ⟨w,ew,rw'⟩:=r.get h2;have hl:=r.length;have hn:=ZX;have fin:EP X o6 σ Q w s:=⟨z,H,I,rw',q⟩;exact subscriptTail_builtinR (x:=w) pl.typeIs slot_tuple_getitem.lookup
  (getItem_tuple (j:=j) (Q:=λ r s'=>r=w/\EP X o6 σ Q r s') pl (by lia) (by lia) (by rw [av,<- hl];exact h1) (by simpa using ew) ⟨rfl,fin⟩) hs
def ziA:IxR X zjg:=by
 intro value slice o6 s σ H x y v u Q I rx ry h hs;obtain ⟨z,i,c,rfl,rfl,hz,he,q⟩:=h;obtain ⟨t,rfl⟩:=rx;obtain ⟨t',rfl⟩:=ry;obtain ⟨j,h1,h2,h3,h4,h5⟩:=JR he;have hl:z.cps.toList.length=z.length:=by simp [Str.length]
 rw [hl] at h1 h4 h5;have hn:=ZX;exact tail_any (eC s z t) slot_str_getitem.lookup (getItem_str (c:=c) (by
  have e1:decide (i < -(2 ^ 63:Int))=false:=a8 (by lia);have e2:decide (i ≥ 2 ^ 63)=false:=a8 (by lia);rw [e1,e2,Bool.or_false]) (by rw [h1];simpa using h2) ⟨.str ⟨#[c]⟩,H,I.tok _,⟨_,rfl⟩,q⟩) hs
def rIx (K:A0):R2:=λ x y H Q=>zjh K x y H Q\/zjf K x y H Q\/zjg x y H Q
def ziB:IxR X (rIx X.K):=ix_list.or (ix_tup.or ziA)
def zck (oo:A7) (n j:Nat) (u:Am):Obj.mapSeq (·.setIfInBounds j u) { cls:=.type "list",data:=.seq oo.toArray n }={ cls:=.type "list",data:=.seq (oo.set j u).toArray n }:=by
 simp [Obj.mapSeq]
def Inv.lst {o6:A2} {σ:St} {H:Hp} {s:An} {p:Addr} {xs:Ap} (I:Inv X o6 σ H s) (h:H p=some (.lst xs)) :
  ∃ (oo:A7) (n:Nat),Vals xs oo/\s.heap.get? p=some { cls:=.type "list",data:=.seq oo.toArray n }/\xs.length<=sizeLine:=by
 obtain ⟨z,oo,n,r,e⟩:=I.hok p _ h;exact ⟨oo,n,r,e,z⟩
def Inv.lstUpd {o6:A2} {σ:St} {H:Hp} {s:An} {p:Addr} {xs ys:Ap} {oo its':A7} {n n':Nat} {f:Obj->Obj} (I:Inv X o6 σ H s) (h:H p=some (.lst xs))
  (ho:s.heap.get? p=some { cls:=.type "list",data:=.seq oo.toArray n }) (hf:f { cls:=.type "list",data:=.seq oo.toArray n }={ cls:=.type "list",data:=.seq its'.toArray n' }) (r:Vals ys its') (hz:ys.length<=sizeLine) (t:Nat) :
  Inv X o6 σ (upd H p (.lst ys)) { s with heap:=s.heap.update p f,toks:=t }:=by
 have e:(s.heap.update p f).get? p=some { cls:=.type "list",data:=.seq its'.toArray n' }:=by
  rw [bO f ho (by rw [hf] <;> rfl),hf]
 refine I.write (x:=p) (e:=p) (by rw [h];trivial) (.inl rfl) (λ b u hb q=>(be _ _ (a7 hb)).trans q) ⟨_,e⟩ ?_;exact ⟨hz,its',n',r,e⟩
def zhC:V->V->V->Hp->(Hp->Prop)->Prop:=λ o i v H Q=>∃ p xs k j,o=.ref p/\i=.int k/\H p=some (.lst xs)/\ixN xs.length k=some j/\Q (upd H p (.lst (xs.set j v)))
def jL:ziX X zhC:=by
 intro o6 s σ H o i v ov iv u Q I ro ri rv h;obtain ⟨p,xs,k,j,rfl,rfl,hp,hj,q⟩:=h;cases ro;obtain ⟨t,rfl⟩:=ri;obtain ⟨oo,n,r,ho,hz⟩:=I.lst hp;obtain ⟨h1,h2,h3,h4⟩:=zc8 hj;have hl:=r.length;have hn:=ZX;have I':Inv X o6 σ (upd H p (.lst (xs.set j v))) { s with heap:=s.heap.update p (Obj.mapSeq (·.setIfInBounds j u)) } :=
  I.lstUpd hp ho (zck oo n j u) (r.set rv j) (by rw [br];exact hz) s.toks
 by_cases h0:0<=k
 ·have hk:k.toNat=j:=by
   rw [fF h0 h4] at h1;exact aI h1
  exact PySem.W.ki_setAt ho h0 (by lia) (by rw [av,<- hl];exact h4) (by rw [hk];exact ⟨_,I',q⟩)
 ·have hk:(k + (oo.toArray.size:Int)).toNat=j:=by
   rw [seqIndex_neg (by lia) h3] at h1;rw [av,<- hl];exact aI h1
  exact PySem.W.ki_setBack ho (by lia) (by rw [av,<- hl];exact h3) (by lia) (by rw [hk];exact ⟨_,I',q⟩)
def Vs (lo hi:A9) (n:Nat):(sliceBounds lo hi none n).1=((HT.sIx n 0 lo:Nat):Int)/\(sliceBounds lo hi none n).2.1=((HT.sIx n n hi:Nat):Int)/\(sliceBounds lo hi none n).2.2=1:=by
 refine ⟨?_,?_,rfl⟩
 ·cases lo with
  | none=>simp [sliceBounds,HT.sIx]
  | some i =>
   simp only [sliceBounds,HT.sIx,d8,show (1:Int) > 0 by decide,dL];by_cases h:i < 0
   ·simp only [h,dL] <;> lia
   ·simp only [h,cx] <;> lia
 ·cases hi with
  | none=>simp [sliceBounds,HT.sIx]
  | some i =>
   simp only [sliceBounds,HT.sIx,d8,show (1:Int) > 0 by decide,dL];by_cases h:i < 0
   ·simp only [h,dL] <;> lia
   ·simp only [h,cx] <;> lia
def X5 (oo:A7) (lo hi:A9):slicePick oo.toArray lo hi none=((oo.drop (HT.sIx oo.length 0 lo)).take (HT.sIx oo.length oo.length hi - HT.sIx oo.length 0 lo)).toArray:=by
 obtain ⟨h1,h2,h3⟩:=Vs lo hi oo.toArray.size;unfold slicePick;rw [h1,h2,h3];simp only [sliceRange_one,pick_run,av] <;> rfl
def zh3 (K:A0):V->Option Int->Option Int->Hp->VK->Prop:=λ x lo hi H Q=>∃ a xs,x=.ref a/\SqL K H a xs/\∀ p,H p=none->Q (.ref p) (upd H p (.lst (wL xs lo hi)))
def zgC:SlR X (zh3 X.K):=by
 intro o6 s σ H x v vl vu lo hi sl Q I rx hs pl pu h;obtain ⟨a,xs,rfl,hx,q⟩:=h;cases rx;obtain ⟨oo,r,ht,hz⟩:=I.list hx;have hlen:=r.length;refine ⟨"list",_,slot_list_getitem.lookup,ht.isList.typeIs,?_⟩;refine wpAny_getItem_list_slice ht.isList hs pl pu .none (by simp) ?_ (by rw [av] <;> lia);rw [X5,<- hlen];refine ⟨.ref s.heap.objs.size,_,I.laid (t':=s.toks) (o:=.lst (wL xs lo hi)) (λ b ob q=>aj _ q) (au _) ?_,rfl,q _ (I.hok.fresh (au _))⟩;exact ⟨aZ (zbr xs lo hi) hz,_,0,(r.drop (HT.sIx xs.length 0 lo)).take (HT.sIx xs.length xs.length hi - HT.sIx xs.length 0 lo),aB _ rfl⟩
noncomputable def xk:V->Bool
 | .non=>true
 | .bl _=>true
 | .int _=>true
 | .str _=>true
 | _=>false
noncomputable def eqV:V->V->Bool
 | .non,.non=>true
 | .bl a,.bl b=>a == b
 | .bl a,.int b=>(if a then 1 else 0) == b
 | .int a,.bl b=>a == (if b then 1 else 0)
 | .int a,.int b=>a == b
 | .str a,.str b=>a == b
 | _,_=>false
def ZZ {A:Ao} {s:An} {y x:V} {u v:Am} (ry:RelV y u) (rx:RelV x v) (fy:xk y=true) (fx:xk x=true):SeqAt.EqAt A s u v (eqV y x):=by
 cases y with
 | non =>
  cases ry;cases x with
  | non=>cases rx;exact dR _
  | bl b=>cases rx;exact SeqAt.EqAt.none_bool b
  | int b=>obtain ⟨t,rfl⟩:=rx;exact SeqAt.EqAt.none_int b t
  | str b=>obtain ⟨t,rfl⟩:=rx;exact SeqAt.EqAt.none_str b t
  | _=>exact absurd (show false=true from fx) aC
 | bl a =>
  cases ry;cases x with
  | non=>cases rx;exact SeqAt.EqAt.bool_none a
  | bl b=>cases rx;exact SeqAt.EqAt.bool_bool a b
  | int b=>obtain ⟨t,rfl⟩:=rx;exact SeqAt.EqAt.bool_int a b t
  | str b=>obtain ⟨t,rfl⟩:=rx;exact SeqAt.EqAt.bool_str a b t
  | _=>exact absurd (show false=true from fx) aC
 | int a =>
  obtain ⟨t',rfl⟩:=ry;cases x with
  | non=>cases rx;exact SeqAt.EqAt.int_none a t'
  | bl b=>cases rx;exact SeqAt.EqAt.int_bool a t' b
  | int b=>obtain ⟨t,rfl⟩:=rx;exact SeqAt.EqAt.int_int a t' b t
  | str b=>obtain ⟨t,rfl⟩:=rx;exact SeqAt.EqAt.int_str a t' b t
  | _=>exact absurd (show false=true from fx) aC
 | str a =>
  obtain ⟨t',rfl⟩:=ry;cases x with
  | non=>cases rx;exact SeqAt.EqAt.str_none a t'
  | bl b=>cases rx;exact SeqAt.EqAt.str_bool a t' b
  | int b=>obtain ⟨t,rfl⟩:=rx;exact SeqAt.EqAt.str_int a t' b t
  | str b=>obtain ⟨t,rfl⟩:=rx;exact SeqAt.EqAt.str_str a t' b t
  | _=>exact absurd (show false=true from fx) aC
 | _=>exact absurd (show false=true from fy) aC
noncomputable def eqU (x:V) (u:Am):Bool:=match u with
 | .none=>eqV .non x
 | .bool b=>eqV (.bl b) x
 | .int i _=>eqV (.int i) x
 | .str z _=>eqV (.str z) x
 | _=>false
def zf1 {x y:V} {u:Am} (r:RelV y u) (f:xk y=true):eqU x u=eqV y x:=by
 cases y with
 | non=>cases r;rfl
 | bl b=>cases r;rfl
 | int i=>obtain ⟨t,rfl⟩:=r;rfl
 | str z=>obtain ⟨t,rfl⟩:=r;rfl
 | _=>exact absurd (show false=true from f) aC
theorem QB {x:V}:∀ {xs:Ap} {us:A7},Vals xs us->xs.all xk=true->us.any (eqU x)=xs.any λ y=>eqV y x
 | _,_,.nil,_=>rfl
 | y :: xs,u :: us,.cons r t,f=>by
  rw [all_cons,b9] at f;rw [fU,fU,zf1 r f.1,QB t f.2]
theorem vX {A:Ao} {s:An} {x:V} {v:Am} (rx:RelV x v) (fx:xk x=true):∀ {xs:Ap} {us:A7},Vals xs us->xs.all xk=true->∀ u∈us,SeqAt.EqAt A s u v (eqU x u)
 | _,_,.nil,_=>λ u hu=>by cases hu
 | y :: xs,u :: us,.cons r t,f=>λ u' hu=>by
  rw [all_cons,b9] at f;rcases ar.mp hu with rfl|hu
  ·rw [zf1 r f.1];exact ZZ r rx f.1 fx
  ·exact vX rx fx t f.2 u' hu
noncomputable def inV (x:V) (xs:Ap):Bool:=xs.any λ y=>eqV y x
def rIn (K:A0) (neg:Bool):R2:=λ x y H Q=>∃ p xs,y=.ref p/\(SqL K H p xs\/SqT K H p xs)/\xk x=true/\xs.all xk=true/\Q (.bl (if neg then !inV x xs else inV x xs)) H
def zd8:OpR X (compareOp .In) (rIn X.K false):=by
 intro o6 s σ H x y v u Q I rx ry h;obtain ⟨p,xs,rfl,hq,fx,fs,q⟩:=h;cases ry;rcases hq with hq|hq
 ·obtain ⟨oo,r,pl,hz⟩:=I.list hq;refine SeqAt.in_listAt (eqU x) pl.isList (λ w hw=>vX rx fx r fs w (by simpa using hw)) ⟨.bl _,H,I,rfl,?_⟩;rw [show oo.toArray.any (eqU x)=oo.any (eqU x) by simp,QB r fs];exact q
 ·obtain ⟨oo,r,pl,hz⟩:=I.tuple hq;refine SeqAt.in_tupleAt (eqU x) pl (λ w hw=>vX rx fx r fs w (by simpa using hw)) ⟨.bl _,H,I,rfl,?_⟩;rw [show oo.toArray.any (eqU x)=oo.any (eqU x) by simp,QB r fs];exact q
def VO:OpR X (compareOp .NotIn) (rIn X.K true):=by
 intro o6 s σ H x y v u Q I rx ry h;obtain ⟨p,xs,rfl,hq,fx,fs,q⟩:=h;cases ry;rcases hq with hq|hq
 ·obtain ⟨oo,r,pl,hz⟩:=I.list hq;refine SeqAt.notIn_listAt (eqU x) pl.isList (λ w hw=>vX rx fx r fs w (by simpa using hw)) ⟨.bl _,H,I,rfl,?_⟩;rw [show oo.toArray.any (eqU x)=oo.any (eqU x) by simp,QB r fs];exact q
 ·obtain ⟨oo,r,pl,hz⟩:=I.tuple hq;refine SeqAt.notIn_tupleAt (eqU x) pl (λ w hw=>vX rx fx r fs w (by simpa using hw)) ⟨.bl _,H,I,rfl,?_⟩;rw [show oo.toArray.any (eqU x)=oo.any (eqU x) by simp,QB r fs];exact q
def CallR.or {f:Am} {r r':List V->Hp->VK->Prop} (h:CallR X f r) (h':CallR X f r'):CallR X f (λ xs H Q=>r xs H Q\/r' xs H Q):=by
 intro o6 s σ H xs us Q I rs q;rcases q with q|q
 ·exact h o6 s σ H xs us Q I rs q
 ·exact h' o6 s σ H xs us Q I rs q
def V6:CallR X (.type "list") (λ xs H Q=>∃ p ys,xs=[.ref p]/\(SqL X.K H p ys\/SqT X.K H p ys)/\∀ l,H l=none->Q (.ref l) (upd H l (.lst ys))):=by
 intro o6 s σ H xs us Q I r h;obtain ⟨p,ys,rfl,hq,q⟩:=h;obtain ⟨u,rfl,rx⟩:=ZC r;cases rx;have fin:∀ (oo:A7),Vals ys oo->ys.length<=sizeLine->∀ (h':Heap) (c':Nat),(∀ b o',s.heap.get? b=some o'->h'.get? b=some o') ->
   h'.get? s.heap.objs.size=some { cls:=.type "list",dict:=none,data:=.seq oo.toArray c',slots:=#[] }->EP X o6 σ Q (.ref s.heap.objs.size) { s with heap:=h' }:=λ oo r' hz h' c' kp e =>
  ⟨.ref s.heap.objs.size,_,I.laid (t':=s.toks) kp (au _) (show ObjOk X.prog X.w _ h' _ (.lst ys) from ⟨hz,oo,c',r',e⟩),rfl,q _ (I.hok.fresh (au _))⟩
 rcases hq with hq|hq
 ·obtain ⟨oo,r',pl,hz⟩:=I.list hq;have hlen:=r'.length;obtain ⟨o,ho,hc,n,hd⟩:=pl.isList;exact call_list_seq p (.inl rfl) ho hc hd (λ h' c' kp e=>fin oo r' hz h' c' kp e) (by simp only [av] <;> lia)
 ·obtain ⟨oo,r',pl,hz⟩:=I.tuple hq;have hlen:=r'.length;obtain ⟨o,ho,hc,n,hd⟩:=pl;exact call_list_seq p (.inr rfl) ho hc hd (λ h' c' kp e=>fin oo r' hz h' c' kp e) (by simp only [av] <;> lia)
def Wo:CallR X (.type "tuple") (λ xs H Q=>∃ p ys,xs=[.ref p]/\((SqL X.K H p ys/\∀ l,H l=none->Q (.ref l) (upd H l (.tup ys)))\/(SqT X.K H p ys/\Q (.ref p) H))):=by
 intro o6 s σ H xs us Q I r h;obtain ⟨p,ys,rfl,h⟩:=h;obtain ⟨u,rfl,rx⟩:=ZC r;cases rx;rcases h with ⟨hq,q⟩|⟨hq,q⟩
 ·obtain ⟨oo,r',pl,hz⟩:=I.list hq;have hlen:=r'.length;refine call_tuple_list pl.isList (λ h' kp=>?_) (by simp only [av] <;> lia);have I1:Inv X o6 σ H { s with heap:=h' }:=I.kept (t':=s.toks) kp;have I2:Inv X o6 σ (upd H h'.objs.size (.tup ys)) { s with heap:=h'.push { cls:=.type "tuple",data:=.seq oo.toArray } } :=
   I1.laid (t':=s.toks) (λ b o e=>aj _ e) (au _) (show ObjOk X.prog X.w _ _ _ (.tup ys) from ⟨hz,oo,r',IsTup.new _ _⟩)
  exact ⟨.ref h'.objs.size,_,I2,rfl,q _ (I1.hok.fresh (au _))⟩
 ·obtain ⟨oo,r',pl,hz⟩:=I.tuple hq;exact call_tuple_same pl ⟨.ref p,H,I,rfl,q⟩
def tyV (K:A0) (T:String) (x:V) (H:Hp):Prop:=match x with
 | .str _=>T="str"
 | .int _=>T="int"
 | .ref p=>(T="list"/\∃ xs,SqL K H p xs)\/(T="tuple"/\∃ o,K.lookup p=some o/\o.cls=.type "tuple"/\o.dict=none) \/
   (T="dict"/\((∃ om,H p=some (.dK om))\/∃ om,H p=some (.dT om)))\/(T="set"/\∃ S n,H p=some (.set S n))
 | _=>False
theorem zhM {o6:A2} {σ:St} {H:Hp} {s:An} {T:String} {x:V} {v:Am} (I:Inv X o6 σ H s) (r:RelV x v) (ty:tyV X.K T x H) :
  s.TypeIs v T/\∀ a,v=.ref a->∃ ob,s.heap.get? a=some ob/\ob.dict=none:=by
 cases x with
 | str z =>
  obtain ⟨t,rfl⟩:=r;cases (show T="str" from ty);exact ⟨eC s z t,λ _ e=>nomatch e⟩
 | int i =>
  obtain ⟨t,rfl⟩:=r;cases (show T="int" from ty);exact ⟨typeIs_int s i t,λ _ e=>nomatch e⟩
 | ref p =>
  cases r;rcases ty with ⟨rfl,xs,hq⟩|⟨rfl,o,hk,hc,hd⟩|⟨rfl,hk⟩|⟨rfl,S,n,hk⟩
  ·obtain ⟨oo,_,pl,_⟩:=I.list hq;refine ⟨pl.isList.typeIs,λ a e=>?_⟩;cases e;obtain ⟨o,n,e,c,hd,_⟩:=pl;exact ⟨o,e,hd⟩
  ·refine ⟨⟨o,I.kIn p o hk,hc⟩,λ a e=>?_⟩;cases e;exact ⟨o,I.kIn _ o hk,hd⟩
  ·have z:∃ o,s.heap.get? p=some o/\o.ExactDict:=by
    rcases hk with ⟨om,hk⟩|⟨om,hk⟩
    ·obtain ⟨_,_,_,_,o,_,_,e,ex,_⟩:=I.hok p _ hk;exact ⟨o,e,ex⟩
    ·obtain ⟨_,_,_,_,o,_,_,e,ex,_⟩:=I.hok p _ hk;exact ⟨o,e,ex⟩
   obtain ⟨o,e,ex⟩:=z;refine ⟨⟨o,e,ex.1⟩,λ a e2=>?_⟩;cases e2;exact ⟨o,e,ex.2.1⟩
  ·obtain ⟨o,_,_,_,e,ex,_⟩:=I.hok p _ hk;refine ⟨⟨o,e,ex.1⟩,λ a e2=>?_⟩;cases e2;exact ⟨o,e,ex.2.1⟩
 | _=>exact False.elim ty
def tBM (K:A0) (T:String) (r:V->List V->Hp->VK->Prop) (to:TE) (t:TA):TE:=λ σ H Q=>to σ H λ x H1=>tyV K T x H1/\t σ H1 λ xs H2=>r x xs H2 Q
variable {o e:Expr} {es:List Expr} {to:TE} {t:TA} {name:Str} {apos cpos:Pos} {T id:String} {r:V->List V->Hp->VK->Prop}
def qC (pa:PlainAttrs T) (slot:Slot T name id) (hty:typeOf (.builtin id)=pure (.type "method_descriptor")) (hm:MtR X id r) (ho:PE X o to) (ha:PA X (e :: es) t)
  (hbase:attributeBase o name X.env (eval o X.env)=eval o X.env:=by rfl)
  (hfew:((backTo cpos (starEach (e :: es) X.env)).all (λ x=>!x.1) && (backToKw cpos (keywordEach [] X.env)).all (λ x=>x.1.isSome)
   && decide ((e :: es).length + ([]:List Keyword).length + (if ([]:List Keyword).isEmpty then 0 else 1) < 30))=true:=by rfl)
  (hline:(apos.endLine == cpos.line)=true:=by rfl) (hs:starEach (e :: es) X.env=(false,eval e X.env) :: starEach es X.env:=by rfl) (hplain:(backTo cpos (starEach es X.env)).any (·.1)=false:=by rfl) :
  PE X (.Call (.Attribute o name apos) (e :: es) [] cpos) (tBM X.K T r to t):=by
 intro o6 s σ H Q I h;refine wpAny_Call_method_late hbase hfew hline rfl (qL (ho o6 s σ H _ I h) λ v s1 x H1 I1 r1 qq_=>?_);obtain ⟨ty,q1⟩:=qq_;obtain ⟨h1,h2⟩:=zhM I1 r1 ty;refine ⟨T,id,pa,slot,hty,h1,h2,?_⟩;have hA:=ha cpos o6 s1 σ H1 _ I1 q1;rw [hs] at hA ⊢;refine Calls.callWith_builtin (by show (false || (backTo cpos (starEach es X.env)).any (·.1))=false;rw [hplain] <;> rfl) (Calls.evalArgs_plain ?_);exact thn hA λ us s2 ⟨vs,H2,I2,r2,q2⟩=>hm o6 s2 σ H2 x vs v us Q I2 r1 r2 q2
end
def MtM (X:Cx) (id:String) (r:V->List V->Hp->VK->Prop):Prop :=
 ∀ (o6:A2) (s:An) (σ:St) (H:Hp) (x:V) (xs:Ap) (v:Am) (us:A7) (Q:VK),Inv X o6 σ H s->RelV x v->Vals xs us->r x xs H Q ->
  wpAny (model X.prog X.w) X.A (call (.builtin id) (v :: us)) (EP X o6 σ Q) X.xe s
def Vals.one {x:V} (h:Vals [x] us):∃ u,us=[u]/\RelV x u:=by
 cases h with
 | cons r t=>cases t;exact ⟨_,rfl,r⟩
def Vals.two {x y:V} (h:Vals [x,y] us):∃ u v,us=[u,v]/\RelV x u/\RelV y v:=by
 cases h with
 | cons r t =>
  obtain ⟨v,rfl,q⟩:=Vals.one t;exact ⟨_,_,rfl,r,q⟩
theorem Vals.zero:∀ {us:A7},Vals [] us->us=[]
 | _,.nil=>rfl
def Vals.dropLast {xs:Ap} (h:Vals xs us):Vals xs.dropLast us.dropLast:=by
 induction h with
 | nil=>exact .nil
 | cons r t ih =>
  cases t with
  | nil=>exact .nil
  | cons q t'=>exact .cons r ih
theorem Vals.eraseIdx:∀ {xs:Ap} {us:A7} (i:Nat),Vals xs us->Vals (xs.eraseIdx i) (us.eraseIdx i)
 | _,_,_,.nil=>.nil
 | _,_,0,.cons _ t=>t
 | _,_,i + 1,.cons r t=>.cons r (Vals.eraseIdx i t)
def Vals.reverse {xs:Ap} (h:Vals xs us):Vals xs.reverse us.reverse:=by
 induction h with
 | nil=>exact .nil
 | cons r t ih=>rw [List.reverse_cons,List.reverse_cons];exact Vals.append ih (.cons r .nil)
theorem Vals.rep {xs:Ap} {us:A7} (h:Vals xs us):∀ k:Nat,Vals (List.replicate k xs).flatten (List.replicate k us).flatten
 | 0=>.nil
 | k + 1=>by
  rw [cK,cK,dM,dM];exact Vals.append h (Vals.rep h k)
theorem WJ {α:Type}:∀ (l:List α) (i:Nat),(l.eraseIdx i).length<=l.length
 | [],_=>au _
 | _ :: _,0=>cP _
 | _ :: r,i + 1=>Nat.succ_le_succ (WJ r i)
theorem WV (oo:A7):∀ (k:Nat) (oq:A7),
  List.foldl (λ x1 x2=>x1 ++ x2) oq.toArray (List.replicate k oo.toArray)=(oq ++ (List.replicate k oo).flatten).toArray
 | 0,oq=>by simp
 | k + 1,oq=>by
  have e:oq.toArray ++ oo.toArray=(oq ++ oo).toArray:=by simp
  have e2:(oq ++ oo) ++ (List.replicate k oo).flatten=oq ++ (List.replicate (k + 1) oo).flatten:=by
   rw [cK,dM,cj]
  rw [<- e2,<- WV oo k (oq ++ oo),<- e,cK,List.foldl_cons]
section
variable {X:Cx} {o6:A2} {σ:St} {H:Hp} {s:An} {l b:Addr} {xs ys zs:Ap}
def Inv.lset {oo its':A7} {n:Nat} {f:Array Value->Array Value} {t':Nat} (I:Inv X o6 σ H s) (hH:H l=some (.lst xs))
  (e:s.heap.get? l=some { cls:=.type "list",data:=.seq oo.toArray n }) (hf:f oo.toArray=its'.toArray) (hv:Vals ys its') (hz:ys.length<=sizeLine) :
  Inv X o6 σ (upd H l (.lst ys)) { s with heap:=s.heap.update l (Obj.mapSeq f),toks:=t' }:=by
 have q:=PySem.IsL.update e f;rw [hf] at q;refine I.write (x:=l) (e:=l) (by rw [hH];exact trivial) (.inl rfl) (λ b' u hb hu=>(be s.heap (Obj.mapSeq f) (a7 hb)).trans hu) ⟨_,q⟩ ?_;exact ⟨hz,its',_,hv,q⟩
def Inv.lnew {oo:A7} {t':Nat} (I:Inv X o6 σ H s) (hv:Vals ys oo) (hz:ys.length<=sizeLine) :
  Inv X o6 σ (upd H s.heap.objs.size (.lst ys)) { s with heap:=s.heap.push { cls:=.type "list",data:=.seq oo.toArray },toks:=t' } :=
 I.laid (λ _ _ q=>aj _ q) (au _) ⟨hz,oo,0,hv,aB _ rfl⟩
def Inv.fresh (I:Inv X o6 σ H s):H s.heap.objs.size=none:=I.hok.fresh (au _)
def Inv.lstM (I:Inv X o6 σ H s) (hH:H l=some (.lst xs)):xs.length<=sizeLine/\∃ (oo:A7) (n:Nat),Vals xs oo/\xs.length=oo.length/\s.heap.get? l=some { cls:=.type "list",data:=.seq oo.toArray n }:=by
 obtain ⟨z,oo,n,r,e⟩:=I.hok l _ hH;exact ⟨z,oo,n,r,r.length,e⟩
def zaX {n:Nat} (h:n<=sizeLine):Builtin.List.listTooLong n=false:=by
 unfold Builtin.List.listTooLong;exact a8 (by lia)
end
section
variable {X:Cx}
def zgM:V->List V->Hp->VK->Prop:=λ x vs H Q=>∃ l xs y,x=.ref l/\vs=[y]/\H l=some (.lst xs)/\xs.length < sizeLine/\Q .non (upd H l (.lst (xs ++ [y])))
def zQ:MtM X "list.append" zgM:=by
 intro o6 s σ H x vs v us Q I rx rv h;obtain ⟨l,xs,y,rfl,rfl,hH,hz,q⟩:=h;cases rx;obtain ⟨u,rfl,ru⟩:=rv.one;obtain ⟨z,oo,n,r,hl,e⟩:=I.lstM hH;refine cT F.slot_list_append ⟨_,e,rfl⟩ F.entry_list_append (F.args_list_append_2 _ _) (PySem.list_append l oo.toArray n u (by rw [av];lia)) ⟨e,?_⟩;refine ⟨.non,_,I.lset (its':=oo ++ [u]) hH e (by simp) (r.append (.cons ru .nil)) ?_,rfl,q⟩;rw [aF,eZ]
 lia
def zgJ:V->List V->Hp->VK->Prop:=λ x vs H Q=>∃ l b xs zs,x=.ref l/\vs=[.ref b]/\H l=some (.lst xs)/\H b=some (.lst zs)/\xs.length + zs.length<=sizeLine/\Q .non (upd H l (.lst (xs ++ zs)))
def WF:MtM X "list.extend" zgJ:=by
 intro o6 s σ H x vs v us Q I rx rv h;obtain ⟨l,b,xs,zs,rfl,rfl,hH,hB,hz,q⟩:=h;cases rx;obtain ⟨u,rfl,ru⟩:=rv.one;cases ru;obtain ⟨z,oo,n,r,hl,e⟩:=I.lstM hH;obtain ⟨z2,its2,n2,r2,hl2,e2⟩:=I.lstM hB;have hsz:oo.toArray.size + its2.toArray.size<=sizeLine:=by rw [av,av];lia
 have hlong:¬ (!oo.toArray.isEmpty && Builtin.List.listTooLong (oo.toArray.size + its2.toArray.size))=true:=by
  rw [zaX hsz,cB];exact aC
 refine cT F.slot_list_extend ⟨_,e,rfl⟩ F.entry_list_extend (F.args_list_extend_2 _ _)
  (AutoSeq1.list_extend_list_list_0 l oo.toArray n b its2.toArray n2 hlong (by rw [av];lia) (by lia)) ⟨e,e2,?_⟩
 refine ⟨.non,_,I.lset (its':=oo ++ its2) hH e (by simp) (r.append r2) ?_,rfl,q⟩;rw [aF]
 lia
def zh4:V->List V->Hp->VK->Prop:=λ x vs H Q=>∃ l xs i k y,x=.ref l/\vs=[.int i]/\H l=some (.lst xs)/\-(2 ^ 63)<=i/\i < 2 ^ 63/\seqIndex? i xs.length=some k/\xs[k]?=some y/\Q y (upd H l (.lst (xs.eraseIdx k)))
def Xy:MtM X "list.pop" zh4:=by
 intro o6 s σ H x vs v us Q I rx rv h;obtain ⟨l,xs,i,k,y,rfl,rfl,hH,h1,h2,hk,hy,q⟩:=h;cases rx;obtain ⟨u,rfl,ru⟩:=rv.one;obtain ⟨t,rfl⟩:=ru;obtain ⟨z,oo,n,r,hl,e⟩:=I.lstM hH;obtain ⟨w,hw,rw'⟩:=r.get hy;refine cT F.slot_list_pop ⟨_,e,rfl⟩ F.entry_list_pop (F.args_list_pop_2 _ _)
  (MeetsSeq.list_pop_at l oo.toArray n i t k w (fitsIndex_both h1 h2) (by rw [av,<- hl];exact hk) (by rw [<- cJ];exact hw) (by rw [av];lia)) ⟨e,?_⟩
 refine ⟨y,_,I.lset (its':=oo.eraseIdx k) hH e ?_ (r.eraseIdx k) ?_,rw',q⟩
 ·show oo.toArray.eraseIdxIfInBounds k=(oo.eraseIdx k).toArray
  rw [List.eraseIdxIfInBounds_toArray]
 ·have:=WJ xs k
  lia
def zjS:R2:=λ x y H Q=>∃ l k xs,x=.ref l/\y=.int k/\H l=some (.lst xs)/\-(2 ^ 63)<=k/\k < 2 ^ 63/\xs.length * k.toNat<=sizeLine /\
 ∀ p,H p=none->Q (.ref p) (upd H p (.lst (List.replicate k.toNat xs).flatten))
def zg4 {α:Type} (xs:List α) (k:Nat):(List.replicate k xs).flatten.length=k * xs.length:=by
 induction k with
 | zero=>simp
 | succ k ih=>rw [cK,dM,aF,ih,dY,Nat.add_comm]
def zce:OpR X (binaryOp .Mult) zjS:=by
 intro o6 s σ H x y v u Q I rx ry h;obtain ⟨l,k,xs,rfl,rfl,hH,h1,h2,hz,q⟩:=h;cases rx;obtain ⟨t,rfl⟩:=ry;obtain ⟨z,oo,n,r,hl,e⟩:=I.lstM hH;have hlen:oo.toArray.size * k.toNat<=sizeLine:=by rw [av,<- hl];exact hz
 have hcap:¬ oo.toArray.size * k.toNat > (2 ^ 63 - 1) / 8:=by
  have:(sizeLine:Nat)<=(2 ^ 63 - 1) / 8:=by decide
  lia
 have hfit:¬ (!Builtin.List.listFitsIndex k)=true:=by
  rw [fitsIndex_both h1 h2];exact aC
 have hlong:¬ Builtin.List.listTooLong (oo.toArray.size * k.toNat)=true:=by
  rw [zaX hlen];exact aC
 have hnew:List.foldl (λ x1 x2=>x1 ++ x2) #[] (List.replicate (if oo.toArray.isEmpty=true then 0 else k.toNat) oo.toArray)=(List.replicate k.toNat oo).flatten.toArray:=by
  have f0:∀ m:Nat,List.foldl (λ x1 x2=>x1 ++ x2) #[] (List.replicate m oo.toArray)=(List.replicate m oo).flatten.toArray:=λ m=>by
   have:=WV oo m [];rw [List.nil_append] at this;exact this
  rw [f0];cases oo with
  | nil=>simp
  | cons a r'=>rw [ao (by simp)]
 refine wpAny_binaryOp_repeat_ref (T:="list") (U:="int") (by decide) ⟨_,e,rfl⟩ (λ s'=>typeIs_int s' k t) noFill_list_mul F.fills_int_mul F.slot_int_rmul repeat_list F.slot_int_index.lookup
  (cT F.slot_int_rmul (typeIs_int s k t) F.entry_int_rmul (F.args_int_rmul_2 _ _) (int___rmul___int_list k t l oo.toArray n)
   ⟨e,rfl,⟨_,e,rfl⟩,cT F.slot_list_mul ⟨_,e,rfl⟩ F.entry_list_mul (F.args_list_mul_2 _ _) (AutoListH.list___mul___list_int_3 l oo.toArray n k t hfit hcap hlong) ⟨e,?_⟩⟩)
 rw [hnew];exact ⟨.ref _,_,I.lnew (t':=s.toks) (r.rep k.toNat) (by rw [zg4,Nat.mul_comm];exact hz),rfl,q _ I.fresh⟩
end
section
variable {prog:Af} {w:World} {A:Ao} {E:A3} {s:An}
end
section
variable {X:Cx}
end
end L2
namespace Att
open PySem PySem.W PySem.Calls PyProof.Rows
def Jz {P:Params} {h:Heap}:∀ (ns:A6) (vs:A7),WellAll P h vs (ns.map WData.int)->IntsAre vs ns:=by
 intro ns
 induction ns with
 | nil =>
  intro vs w;rw [map_nil] at w;cases w;exact .nil
 | cons n ns ih =>
  intro vs w;rw [bE] at w;cases w with
  | cons a b =>
   cases a;exact .cons _ _ (ih _ b)
theorem zdJ {l:OpenLaw} {n:Nat} (hn:l.most=some n) {P:Params} {h:Heap} {args:List WData} {vals:A7}
  (hpre:l.row.toRowW.claim.pre args=true) (hwl:WellAll P h vals args) :
  ∃ a vs ns,vals=[Value.ref a]/\args=[WData.list (ns.map WData.int)]/\h.get? a=some { cls:=.type "list",data:=.seq vs.toArray }/\IntsAre vs ns/\ns.length<=n:=by
 have hsh:WShape.hasAll [] args [.list .int]=true:=(pre_splitW hpre).1;have hc:l.pre.holds [] { args:=args }=true:=(pre_splitW hpre).2;obtain ⟨d,r,rfl,h1,h2⟩:=hasAllW_cons hsh;obtain rfl:=hasAllW_nil h2;obtain ⟨xs,rfl,h3⟩:=hasW_list h1;obtain ⟨ns,rfl⟩:=items_int h3;have hlen:ns.length<=n:=by
  unfold OpenLaw.pre at hc;have h4:(WTm.not (.lt (.lit (.int (n:Int))) (.len (.arg 0)))).holds [] { args:=[.list (ns.map .int)] }=true:=by
   have h4:=(holds_andW hc).1;rw [hn] at h4;exact h4
  have h5:=condW_of h4 (w_not (w_lt w_lit (w_len_list (w_arg rfl))));rw [ah] at h5;refine Nat.le_of_not_lt λ q=>?_;have q':(n:Int) < ((ns.length:Nat):Int):=by lia
  first
   | (rw [bg q'] at h5;exact absurd h5 (by decide))
   | (simp at h5;lia)
 cases hwl with
 | cons w1 w2 =>
  cases w2;cases w1 with
  | list ho hall=>exact ⟨_,_,ns,rfl,rfl,ho,Jz ns _ hall,hlen⟩
def zd3 (l:OpenLaw) (args:List WData):l.row.toRowW.claim.post args (.bool true) args=true :=
 postW_of (r:=l.row.toRowW) (X:=(true == true))
  (show WShape.has [] (.bool true) .bool=true by first|rfl|decide|simp [WShape.has,WShape.arms,WShape.armsAll])
  (show (WTm.eq .res (.lit (.bool true))).value [] { args:=args,res:=some (.bool true),after:=args }=some (.bool (true == true)) from w_eq_bool (w_res rfl) w_lit) rfl
def attach_call {l:OpenLaw} {n:Nat} {q:Af} {loose:A8} {XP:(Str->Option Value)->Heap->Prop} {YP:World->Heap->Prop} {d:DefRec}
  (hn:l.most=some n) (hdf:d.params.defaults=[])
  (call:∀ (w:World) (s₀ s₁:An) (mg mb:A4) (fa:Addr) (o:Obj) (pm cd doc:Am) (a:Addr) (vs:A7) (ns:A6),
   Ground q loose [] XP w s₀ mg mb s₁.heap->YP w s₁.heap ->
   s₁.heap.get? fa=some o->o.data=.func (docDef d.name d.params d.body d.scope pm cd doc)->s₁.heap.CodeRec cd d.name->mg d.name=some (.ref fa) ->
   s₁.heap.get? a=some { cls:=.type "list",data:=.seq vs.toArray }->IntsAre vs ns->ns.length<=n->s₁.gens=#[] ->
   codeAny (model l.prog w) callerA (.call (.ref fa) ⟨[.ref a],[]⟩) (λ r s'=>r=.ok (.ret (.bool true))/\OldK s₁.heap s'.heap/\s'.os=s₁.os/\AllBare s'.gens) s₁) :
  WalkO q loose XP YP l.row.toRowW d [] (λ f vs=>PySem.call f vs):=by
 intro w s₀ s₁ mg mb G Y fa o pm cd doc dV kV ho hd hcd hD hmg hg args vals as hpre hlay hrd hwl hlo;obtain rfl:dV=.none:=Dflts.none hD hdf;obtain rfl:kV=.none:=Dflts.noKw hD;obtain ⟨a,vs,ns,rfl,rfl,hobj,hints,hlen⟩:=zdJ hn hpre hwl;refine enter_call (dg (call w s₀ s₁ mg mb fa o pm cd doc a vs ns G Y ho (fd_plain hd) hcd hmg hobj hints hlen hg) λ r s' hq=>?_);obtain ⟨rfl,h2,h3,h4⟩:=hq;exact ⟨.inl ⟨.bool true,.bool true,[],rfl,λ _=>rfl,.bool true,zd3 l _,λ _=>⟨List.Pairwise.nil,λ _ hm=>(nomatch hm)⟩⟩,h2,h3,h4⟩
section
variable {prog:Af} {w:World} {A:Ao} {E:A3} {s:An} {K:Frag}
noncomputable def ledger (h:Heap) (L d:Addr):List (Addr × Obj):=(List.range h.objs.size).filterMap λ a=>if a=L\/a=d then none else (h.get? a).map λ o=>(a,o)
end
end Att
namespace L2
open PySem PySem.Spec PyProof.Rows
variable {fd:FuncData}
theorem Wu:∀ {vs:A7} {ns:A6},IntsAre vs ns->Vals (ns.map V.int) vs
 | _,_,.nil=>.nil
 | _,_,.cons n t h=>.cons ⟨t,rfl⟩ (Wu h)
def ziY (H:Hp):Prop:=∀ b,H b=none\/∃ o xs,H b=some (.frz o (.lst xs))
theorem zfG {P:Af} {w:World} {K:A0} {mg mb:A4} {CX:CXT} {k:Nat} {fa a:Addr} {x:Str} {sp:Sp} {s₁:An} {vs:A7} {ns:A6}
  (KX:K.In s₁.heap) (hns:s₁.heap.Ns mainGlobals mg) (hb:s₁.heap.Ns builtinsNs mb) (hbb:∀ x:Str,x≠"__name__"->mb x=bootBuiltins x) (hlim:s₁.heap.NoLimit) (hg:s₁.gens=#[])
  (ha:s₁.heap.get? a=some { cls:=.type "list",data:=.seq vs.toArray }) (hi:IntsAre vs ns) (hl:ns.length<=sizeLine) (hr:Room k callerA)
  (F:∀ base:Heap,K.In base->base.Ns mainGlobals mg->FnOk P w K mg base CX k fa fd [x] sp) (hbind:∀ (s:An) (u:Am),BindsTo s fd ⟨[u],[]⟩ [(x,u)])
  (hsp:∀ H:Hp,ziY H->SqL K H a (ns.map V.int)->sp [.ref a] H (λ v _=>v=.bl true) λ _ _ _=>False)
  (hCX:∀ H e s',CX [] H s₁ (λ _ _ _=>False) e s'->False) :
  codeAny (model P w) callerA (.call (.ref fa) ⟨[.ref a],[]⟩) (λ r s'=>r=.ok (.ret (.bool true))/\OldK s₁.heap s'.heap/\s'.os=s₁.os/\AllBare s'.gens) s₁:=by
 have rv:=Wu hi;have lenV:=hi.length;have core:∀ H:Hp,ziY H->SqL K H a (ns.map V.int)->HOk P w H s₁.heap->(∀ b,H b≠none->b=a)->(H a≠none->K.lookup a=none) ->
   codeAny (model P w) callerA (.call (.ref fa) ⟨[.ref a],[]⟩) (λ r s'=>r=.ok (.ret (.bool true))/\OldK s₁.heap s'.heap/\s'.os=s₁.os/\AllBare s'.gens) s₁:=by
  intro H hO hS hok hA hK;have base_of:∀ {b:Addr} {o:Obj},s₁.heap.get? b=some o->H b=none->(VY s₁.heap H).get? b=some o:=λ e n=>zfT e n;have noA:∀ {b:Addr} {o:Obj} {es:Array DictEntry} {ep:Nat},s₁.heap.get? b=some o->o.data=.dict es ep->H b=none:=λ {b o es ep} e d=>by
   cases q:H b with
   | none=>rfl
   | some u =>
    have e':b=a:=hA b (by rw [q];simp);subst e';rw [ha] at e;cases e;have d':Data.seq vs.toArray _=Data.dict es ep:=d;cases d'
  have nsK:∀ {b:Addr} {m:A4},s₁.heap.Ns b m->(VY s₁.heap H).Ns b m:=λ {b m} ⟨o,es,ep,e,d,r⟩=>⟨o,es,ep,base_of e (noA e d),d,r⟩;have hKb:K.In (VY s₁.heap H):=λ b o e=>base_of (KX b o e) (by
   cases q:H b with
   | none=>rfl
   | some u =>
    have e':b=a:=hA b (by rw [q];simp);subst e';rw [hK (by rw [q];simp)] at e;cases e)
  have hM:Mod K mg (VY s₁.heap H):=⟨hKb,nsK hns,⟨mb,nsK hb,hbb⟩,let ⟨mc,h1,h2⟩:=hlim;⟨mc,nsK h1,h2⟩⟩;have e0:Env0 P w K mg (VY s₁.heap H) callerA [] s₁ H:=⟨rfl,hM,λ b o e=>zg1 e,Nat.le_of_eq (zel _ _),trivial,λ b hb=>absurd (show b∈([]:Ab) from hb) (by simp),hok,.of_eq hg⟩;refine dg ((F _ hKb (nsK hns)).run callerA [] s₁ H ⟨[.ref a],[]⟩ [.ref a] [.ref a] _ _ hr e0 (hbind s₁ (.ref a)) (.cons rfl .nil) (hsp H hO hS)) λ r s' h=>?_;cases r with
  | error e=>exact (hCX H e s' h).elim
  | ok fl =>
   cases fl with
   | next=>exact False.elim h
   | brk=>exact False.elim h
   | cont=>exact False.elim h
   | ret u =>
    obtain ⟨v,H',os,bare,un,hok',r',q⟩:=h;have q':v=.bl true:=q;subst q';obtain rfl:u=Value.bool true:=r';refine ⟨rfl,OldK.of_keep λ b o e=>?_,os,bare⟩;cases q:H b with
    | none=>exact un.keep b o e q (by intro z;exact absurd (show b∈([]:Ab) from z) (by simp)) (by simp)
    | some u =>
     rcases hO b with z|⟨ob,xs,z⟩
     ·rw [q] at z;cases z
     ·have z2:=un.frzs b ob _ z;obtain ⟨e1,_⟩:=hok b _ z;obtain ⟨e2,_⟩:=hok' b _ z2;rw [e] at e1;cases e1;exact e2
 cases hk:K.lookup a with
 | some o =>
  have e:=KX a o hk;rw [ha] at e;cases e;refine core (λ _=>none) (λ _=>.inl rfl) (.inr ⟨_,vs.toArray,_,hk,rfl,rfl,rfl,by rw [av,lenV];exact hl,by simpa using rv⟩) (λ b u z=>by have z':(none:Option HO)=some u:=z;cases z') (λ b z=>absurd rfl z) λ z=>absurd rfl z
 | none =>
  refine core (λ b=>if b=a then some (.frz { cls:=.type "list",data:=.seq vs.toArray } (.lst (ns.map V.int))) else none) (λ b=>?_) (.inl (.inr ⟨{ cls:=.type "list",data:=.seq vs.toArray },ap rfl⟩)) (λ b u z=>?_) (λ b z=>?_) λ _=>hk
  ·by_cases hb:b=a
   ·exact .inr ⟨_,_,ap hb⟩
   ·exact .inl (ao hb)
  ·by_cases hb:b=a
   ·have z':=(ap hb).symm.trans z;cases z';subst hb;exact ⟨ha,by rw [ah];exact hl,vs,_,rv,ha⟩
   ·have z':=(ao hb).symm.trans z;cases z'
  ·by_cases hb:b=a
   ·exact hb
   ·exact absurd (ao hb) z
def walk_of {l:PySem.W.OpenLaw} {n k:Nat} {q:Af} {loose:A8} {XP:(Str->Option Value)->Heap->Prop} {YP:World->Heap->Prop} {d:DefRec} {K:Params->PySem.W.Frag} {CX:World->CXT} {sp:World->Sp} {x:Str}
  (hn:l.most=some n) (hn2:n<=sizeLine) (hdf:d.params.defaults=[]) (hr:Room k callerA)
  (hY:∀ (w:World) (h:Heap),YP w h->(K w.params).In h)
  (F:∀ (w:World) (mg:A4) (fa:Addr) (h:Heap),(K w.params).In h->h.Ns mainGlobals mg->mg d.name=some (.ref fa) ->
   ∃ fd:FuncData,(∀ (s:An) (u:Am),BindsTo s fd ⟨[u],[]⟩ [(x,u)]) /\
    ∀ base:Heap,(K w.params).In base->base.Ns mainGlobals mg->FnOk l.prog w (K w.params) mg base (CX w) k fa fd [x] (sp w))
  (hsp:∀ (w:World) (H:Hp) (a:Addr) (ns:A6),ns.length<=n->ziY H->SqL (K w.params) H a (ns.map V.int)->sp w [.ref a] H (λ v _=>v=.bl true) λ _ _ _=>False)
  (hCX:∀ (w:World) (H:Hp) (s:An) (e:Am) (s':An),CX w [] H s (λ _ _ _=>False) e s'->False) :
  PySem.W.WalkO q loose XP YP l.row.toRowW d [] (λ f vs=>PySem.call f vs):=by
 refine Att.attach_call hn hdf λ w s₀ s₁ mg mb fa o pm cd doc a vs ns G Y ho hd hcd hmg hobj hints hlen hg=>?_;have KX:=hY w _ Y;obtain ⟨fd,hb,hF⟩:=F w mg fa _ KX G.T.g hmg;exact zfG KX G.T.g G.T.b G.T.builtins G.T.nolimit hg hobj hints (aZ hlen hn2) hr hF hb (λ H hO hS=>hsp w H a ns hlen hO hS) λ H e s'=>hCX w H s₁ e s'
noncomputable def zR (s:Stmt) (j:Nat):Stmt:=match s with
 | .ClassDef _ _ _ body _ _ _ _ _ _ _=>body.getD j (.Pass ⟨0,0,0,0⟩)
 | _=>.Pass ⟨0,0,0,0⟩
noncomputable def qf (s:Stmt):Arguments:=match s with
 | .FunctionDef _ a _ _ _ _ _ _ _ _=>a
 | _=>{ posonlyargs:=[],args:=[],vararg:=none,kwonlyargs:=[],kw_defaults:=[],kwarg:=none,defaults:=[] }
noncomputable def z6 (s:Stmt):List Stmt:=match s with
 | .FunctionDef _ _ b _ _ _ _ _ _ _=>b
 | _=>[]
noncomputable def zg (s:Stmt):Scope:=match s with
 | .FunctionDef _ _ _ _ _ _ sc _ _ _=>sc
 | _=>{ kind:=.function,names:=[],isGenerator:=false,isCoroutine:=false }
abbrev CX0:CXT:=λ _ _ _ _ _ _=>False
structure Fun (K:A0) (x qual:Str) (st:Stmt) (f:Addr) (fd:FuncData):Prop where
 ex:∃ (oc:Am) (od:Aa) (kV doc pm:Am) (an:Aa) (cdv ct:Am) (osl:Ae),
  fd=fnOf x qual (qf st) (z6 st) (zg st) .none kV doc pm an cdv ct/\K.lookup f=some ⟨oc,od,.func fd,osl⟩/\codeIn K cdv qual=true
 kp:keepIn K (.ref f)=true
section
variable {P:Af} {w:World} {K:A0} {mg:A4} {base:Heap}
def Fun.ok {x qual:Str} {st:Stmt} {f:Addr} {N ps:A8} {k:Nat} {sp:Sp} (F:Fun K x qual st f fd) (S:FnScope N ps (zg st)) (len:∀ vs H Q E,sp vs H Q E->vs.length=ps.length)
  (hbody:∀ (cdv:Am) (A:Ao) (outer:List Env) (s:An) (H:Hp) (vs:Ap) (Q:VK) (E:XK),Room k (A.deeper (envOfC qual (zg st) s.heap.objs.size f cdv))->sp vs H Q E ->
   ∃ t,PSs (JB CX0 P w K mg base N qual (zg st) f cdv A outer s H E).nox (z6 st) t/\t { nx:=λ _ H'=>Q .non H',rt:=Q } (start N vs) H):FnOk P w K mg base CX0 (k + 1) f fd ps sp:=by
 obtain ⟨oc,od,kV,doc,pm,an,cdv,ct,osl,rfl,lk,hcd⟩:=F.ex;refine zfZ lk hcd S len λ A outer s H vs Q E hr hsp=>?_;obtain ⟨t,h,q⟩:=hbody cdv A outer s H vs Q E hr hsp;exact ⟨t,h.nox,q⟩
def Fun.binds {x qual:Str} {st:Stmt} {f:Addr} {ps:A8} (F:Fun K x qual st f fd)
  (h:∀ (kV doc pm:Am) (an:Aa) (cdv ct:Am) (us:A7),us.length=ps.length->bindArgs (fnOf x qual (qf st) (z6 st) (zg st) .none kV doc pm an cdv ct) ⟨us,[]⟩=pure (ps.zip us)):Binds K fd ps []:=by
 obtain ⟨oc,od,kV,doc,pm,an,cdv,ct,osl,rfl,lk,hcd⟩:=F.ex;exact .all (h kV doc pm an cdv ct)
def vy {x qual:Str} {st:Stmt} {f:Addr} {oc:Am} {od an:Aa} {osl:Ae} {kV doc pm cdv ct:Am} (l:K.lookup f=some ⟨oc,od,.func (fnOf x qual (qf st) (z6 st) (zg st) .none kV doc pm an cdv ct),osl⟩)
  (c:codeIn K cdv qual=true) (k:keepIn K (.ref f)=true):Fun K x qual st f (fnOf x qual (qf st) (z6 st) (zg st) .none kV doc pm an cdv ct):=⟨⟨oc,od,kV,doc,pm,an,cdv,ct,osl,rfl,l,c⟩,k⟩
end
def zda {A:Ao} {k:Nat} (hr:Room k A):A.units + 1 < cLine:=cW (gm (by decide:1<=64) _) hr.units
def zn {n:Nat} (h:n<=1000):n < sizeLine:=cW h (by decide)
section
variable {X:Cx}
end
def zT {c A B:Prop} [Decidable c] (h1:c->A) (h2:¬ c->B):if c then A else B:=by
 by_cases h:c
 ·rw [ap h];exact h1 h
 ·rw [ao h];exact h2 h
def Same (H H':Hp):Prop:=∀ b o,H b=some o->H' b=some o
def Same.refl (H:Hp):Same H H:=λ _ _ h=>h
def Same.trans {H H1 H2:Hp} (a:Same H H1) (b:Same H1 H2):Same H H2:=λ c o h=>b c o (a c o h)
def Same.free {H H':Hp} (e:Same H H') {l:Addr} (h:H' l=Option.none):H l=Option.none:=by
 cases q:H l with
 | none=>rfl
 | some o =>
  rw [e l o q] at h;cases h
def Same.seq {K:A0} {H H':Hp} {a:Addr} {xs:Ap} (e:Same H H') (h:SqL K H a xs):SqL K H' a xs:=by
 rcases h with (h|⟨o,h⟩)|h
 ·exact .inl (.inl (e _ _ h))
 ·exact .inl (.inr ⟨o,e _ _ h⟩)
 ·exact .inr h
end L2
set_option maxHeartbeats 4000000
namespace L2
open PySem PySem.Spec PyProof.Rows
variable {K:A0} {H:Hp} {P:Af} {w:World} {base:Heap} {s:An} {sp:Sp} {mg:A4} {ps:A8} {oe:Obj} {o6:A2} {cls:Am} {x:Str}
abbrev GK:=Value->St->Hp->Prop
structure Exc (g h:Heap) (H:Hp) (pn:A2) (a:Addr) (cls:Am):Prop where
 ex:∃ (oe:Obj) (vs:Ac) (T:Addr) (oT:Obj) (ts:Ac),h.get? a=some oe/\oe.cls=cls/\oe.dict=none/\oe.data=.fields vs/\vs[1]?=some (.ref T)/\T≠a /\
  h.get? T=some oT/\oT.data=.fields ts/\ts[3]?=some .none/\g.get? T=none/\H T=none/\∀ p∈pn,p.1≠T
 ga:g.get? a=none
 Ha:H a=none
 pa:∀ p∈pn,p.1≠a
def ObjOk.there {h:Heap} {a:Addr} {o:HO} (x:ObjOk P w H h a o):∃ ob,h.get? a=some ob:=by
 cases o with
 | lst xs=>obtain ⟨_,_,_,_,e⟩:=x;exact ⟨_,e⟩
 | tup xs=>obtain ⟨_,_,_,ob,e,_⟩:=x;exact ⟨_,e⟩
 | dK om=>obtain ⟨_,_,_,_,o,_,_,e,_⟩:=x;exact ⟨_,e⟩
 | dT om=>obtain ⟨_,_,_,_,o,_,_,e,_⟩:=x;exact ⟨_,e⟩
 | set S n=>obtain ⟨o,_,_,_,e,_⟩:=x;exact ⟨_,e⟩
 | ins C dx fs=>obtain ⟨_,_,_,e,_⟩:=x;exact ⟨_,e⟩
 | own y=>obtain ⟨_,e⟩:=x;exact ⟨_,e⟩
 | xd fs=>obtain ⟨_,⟨_,_,_,e,_⟩,_⟩:=x;exact ⟨_,e⟩
 | rng lo hi=>obtain ⟨_,_,_,e⟩:=x;exact ⟨_,e⟩
 | frz ob u=>obtain ⟨e,_⟩:=x;exact ⟨_,e⟩
 | tbl ps=>exact ⟨_,(show h.get? a=some _ from x)⟩
 | met f y=>exact ⟨_,(show h.get? a=some _ from x)⟩
 | ext φ=>obtain ⟨_,⟨_,e⟩,_⟩:=x;exact ⟨_,e⟩
section
variable {M:Model} {A:Ao} {E:A3} {s:An}
def WW {env:Env} {outer:List Env} {L e:Addr} {vs:Ac} {head:Am} {hadNext:Bool} {Q:Ag}
  (hfr:A.frames=some (env :: outer)) (hl:s.heap.FunFrames base (env :: outer)) (hf:env.frame=some L) (he:s.heap.get? e=some oe) (hd:oe.data=.fields vs) (hsz:1 < vs.size)
  (h:∀ h' T,(∀ b o,b ∉ (env :: outer).filterMap (·.frame)->b≠e->s.heap.get? b=some o->h'.get? b=some o)->(∀ b o,b≠e->s.heap.get? b=some o->∃ sl,h'.get? b=some { o with slots:=sl }) ->
   s.heap.get? T=none->T≠e->h'.get? e=some (oe.mapFields (·.setIfInBounds 1 (.ref T)))->(∃ oT ts,h'.get? T=some oT/\oT.data=.fields ts/\ts[3]?=some .none)->Q () { s with heap:=h' }) :
  wpAny M A (do let a <- frameOf env;let pl <- entryPlaceOf L hadNext;let b <- EntryCells.newEntry head a .none (rawInt L) .none pl;setField (.ref e) 1 b) (λ _ s'=>wpAny M A (setFlight (.ref e) none) Q E s') E s:=by
 have hene:e ∉ (env :: outer).filterMap (·.frame):=λ hm=>by
  obtain ⟨_,o,ho,hnf⟩:=hl.mem hm;rw [he] at ho;injection ho with ho;subst ho;exact hnf vs hd
 refine ai (wpAny_frameOf_fun hfr hl hf λ h₁ hs₁=>?_);refine ai (wpAny_entryPlaceOf λ pl hpl=>?_);unfold EntryCells.newEntry newFields;refine ai (dC ?_ (hpl.sizeOk5 _ _ _ _ _));have he₁:h₁.get? e=some oe:=(hs₁.2.1 e hene).trans he;have he₂:=aj (h:=h₁) { cls:=.type "traceback",dict:=none,data:=.fields ([head,.ref L,.none,rawInt L,.none] ++ (if pl.isEmpty then List.replicate 6 Value.none else pl)).toArray } he₁;refine di he₂ hd hsz ?_;have hTe:h₁.objs.size≠e:=du (aA he₁);have hd₃:=bu hd (·.setIfInBounds 1 (Value.ref h₁.objs.size));have he₃:=bO (Obj.mapFields (·.setIfInBounds 1 (Value.ref h₁.objs.size))) he₂ (b8 hd₃);have hT₃:=(be (h₁.push { cls:=.type "traceback",dict:=none,data:=.fields ([head,.ref L,.none,rawInt L,.none] ++ (if pl.isEmpty then List.replicate 6 Value.none else pl)).toArray })
  (Obj.mapFields (·.setIfInBounds 1 (Value.ref h₁.objs.size))) (a7 hTe)).trans (aB h₁ rfl)
 unfold setFlight;refine ai (bj he₃ hd₃ (x:=.ref h₁.objs.size) (by simp [hsz]) ?_);rw [ap (show (Value.ref h₁.objs.size != Value.none)=true from by simp)];refine di hT₃ rfl (by simp only [av,aF,aX,cD] <;> lia) ?_;have keep:∀ b o,b≠e->h₁.get? b=some o ->
   (((h₁.push { cls:=.type "traceback",dict:=none,data:=.fields ([head,.ref L,.none,rawInt L,.none] ++ (if pl.isEmpty then List.replicate 6 Value.none else pl)).toArray }).update e (Obj.mapFields (·.setIfInBounds 1 (Value.ref h₁.objs.size)))).update h₁.objs.size
    (Obj.mapFields (·.setIfInBounds 3 ((none:Aa).elim Value.none λ f=>rawInt f)))).get? b=some o:=λ b o hbe hb=>by
  have hbT:h₁.objs.size≠b:=du (aA hb);rw [be _ _ hbT,be _ _ (a7 hbe)];exact aj _ hb
 refine h _ h₁.objs.size (λ b o hb hbe q=>keep b o hbe ((hs₁.2.1 b hb).trans q)) (λ b o hbe q=>?_) (Heap.get?_none_of_le (by rw [hs₁.1];exact au _)) hTe ?_ ?_
 ·obtain ⟨sl,hs⟩:=hs₁.2.2 b o q;exact ⟨sl,keep b _ hbe hs⟩
 ·rw [be _ _ hTe];exact he₃
 ·exact ⟨_,_,bO _ hT₃ (b8 (bu rfl _)),bu rfl _,by first|(simp;done)|(rcases hpl with rfl|⟨_,_,_,_,_,_,_,rfl⟩ <;> simp)⟩
def WK {env:Env} {outer:List Env} {L e:Addr} {vs:Ac} {ch:Ab} {Q:Ag}
  (hfr:A.frames=some (env :: outer)) (hl:s.heap.FunFrames base (env :: outer)) (hf:env.frame=some L) (he:s.heap.get? e=some oe) (hd:oe.data=.fields vs)
  (h1:(vs[1]?=some .none/\ch=[e])\/∃ T oT ts,vs[1]?=some (.ref T)/\T≠e/\s.heap.get? T=some oT/\oT.data=.fields ts/\ts[3]?=some .none/\ch=[e,T])
  (h:∀ h' T,(∀ b o,b ∉ (env :: outer).filterMap (·.frame)->b ∉ ch->s.heap.get? b=some o->h'.get? b=some o)->(∀ b o,b ∉ ch->s.heap.get? b=some o->∃ sl,h'.get? b=some { o with slots:=sl }) ->
   (∀ b∈ch,∃ o,h'.get? b=some o)->s.heap.get? T=none->T≠e->h'.get? e=some (oe.mapFields (·.setIfInBounds 1 (.ref T)))->(∃ oT ts,h'.get? T=some oT/\oT.data=.fields ts/\ts[3]?=some .none)->Q () { s with heap:=h' }) :
  wpAny M A (noteFrame (.ref e) env) (λ _ s'=>wpAny M A (setFlight (.ref e) none) Q E s') E s:=by
 rcases h1 with ⟨h1,rfl⟩|⟨T,oT,ts,h1,hTe,hT,hdT,h3,rfl⟩
 ·unfold noteFrame;simp only [hf];refine ai (bj he hd h1 ?_);rw [ao (by decide)];refine WW hfr hl hf he hd (bw.mp h1).1 λ h' T k1 k2 k3 k4 k5 k6=>?_;refine h h' T (λ b o hb hc q=>k1 b o hb (λ z=>hc (by simp [z])) q) (λ b o hc q=>k2 b o (λ z=>hc (by simp [z])) q) (λ b hb=>?_) k3 k4 k5 k6;obtain rfl:b=e:=by simpa using hb
  exact ⟨_,k5⟩
 ·unfold noteFrame;simp only [hf];refine ai (bj he hd h1 ?_);rw [ap (show (Value.ref T != Value.none)=true from by simp)];refine ai (bj hT hdT h3 ?_);rw [ao (show ¬ ((Value.none == rawInt L)=true) from by simp [rawInt])];refine ai (di hT hdT (bw.mp h3).1 ?_);have other:∀ b,b≠T->(s.heap.update T (Obj.mapFields (·.setIfInBounds 3 Value.none))).get? b=s.heap.get? b:=λ b hb=>be _ _ (a7 hb);have noRecord:∀ b o,s.heap.get? b=some o->(∀ vs,o.data≠.fields vs)->b≠T:=λ b o hb hnf q=>by
   rw [q,hT] at hb;injection hb with hb;subst hb;exact hnf ts hdT
  have hT':=bO (Obj.mapFields (·.setIfInBounds 3 Value.none)) hT (b8 (bu hdT _));refine WW hfr (hl.of_keeps λ b o hb hnf=>⟨o,(other b (noRecord b o hb hnf)).trans hb,rfl⟩) hf ((other e (a7 hTe)).trans he) hd (bw.mp h1).1 λ h' T' k1 k2 k3 k4 k5 k6=>?_;have hTT:T'≠T:=λ z=>by rw [z,hT'] at k3;cases k3
  refine h h' T' (λ b o hb hc q=>k1 b o hb (λ z=>hc (by simp [z])) ((other b (λ z=>hc (by simp [z]))).trans q)) (λ b o hc q=>k2 b o (λ z=>hc (by simp [z])) ((other b (λ z=>hc (by simp [z]))).trans q)) (λ b hb=>?_) ((other T' hTT).symm.trans k3) k4 k5 k6;rcases ar.mp hb with rfl|hb
  ·exact ⟨_,k5⟩
  ·obtain rfl:b=T:=by simpa using hb
   obtain ⟨sl,q⟩:=k2 b _ hTe hT';exact ⟨_,q⟩
end
section
variable {X:Cx} {o6:A2} {σ:List Aq} {H:Hp} {s:An} {h':Heap}
def Inv.stepx {ch:Ab} (I:Inv X o6 σ H s)
  (hch:∀ b∈ch,X.s₀.heap.get? b=none/\H b=none/\∀ p∈X.pn ++ o6,p.1≠b) (hrec:∀ b∈ch,∃ o vs,s.heap.get? b=some o/\o.data=.fields vs)
  (keep:∀ b o,b ∉ frs X.stack->b ∉ ch->s.heap.get? b=some o->h'.get? b=some o)
  (slot:∀ b o,b ∉ ch->s.heap.get? b=some o->∃ sl,h'.get? b=some { o with slots:=sl }) (there:∀ b∈ch,∃ o,h'.get? b=some o):Inv X o6 σ H { s with heap:=h' }:=by
 have neL:∀ b∈ch,b≠X.env.locals:=λ b hb z=>by
  obtain ⟨o,vs,ho,hd⟩:=hrec b hb;obtain ⟨m,⟨o',es,ep,ho',hd',_⟩,_⟩:=I.loc;rw [z,ho'] at ho;cases ho;rw [hd'] at hd;cases hd
 have neC:∀ b∈ch,∀ x c,X.env.cells.lookup x=some c->c≠b:=λ b hb x c e z=>by
  obtain ⟨o,vs,ho,hd⟩:=hrec b hb;obtain ⟨v,o',ho',hd'⟩:=I.cell x c e;rw [z,ho] at ho';cases ho';rw [hd] at hd';cases hd'
 have nch:∀ b o,X.s₀.heap.get? b=some o->b ∉ ch:=λ b o e hb=>by rw [(hch b hb).1] at e;cases e
 have trk:∀ b u,H b=some u->b ∉ ch/\b ∉ frs X.stack:=λ b u e=>⟨(λ hb=>by rw [(hch b hb).2.1] at e;cases e),(λ hb=>by rw [I.stkFree b hb] at e;cases e)⟩;have nfs:∀ b,b ∉ X.fs->b≠X.env.locals->b ∉ frs X.stack:=λ b h1 h2 z=>(ar.mp (I.stkSub b z)).elim h2 h1;have ltL:∀ b o,X.s₀.heap.get? b=some o->b≠X.env.locals:=λ b o e=>aR (aK (aA e) I.ok.above);have cellK:∀ x c,X.env.cells.lookup x=some c->∀ v,s.heap.IsCell c v->h'.IsCell c v:=λ x c e v ⟨o,ho,hd⟩=>by
  obtain ⟨sl,q⟩:=slot c o (λ z=>neC c z x c e rfl) ho;exact ⟨_,q,hd⟩
 have hok:HOk X.prog X.w H h':=λ b u e=>(I.hok b u e).stay (λ c v hc q=>by
  have hcH:∃ u',H c=some u':=by
   rcases hc with rfl|z
   ·exact ⟨_,e⟩
   ·exact ⟨_,z⟩
  obtain ⟨u',hu⟩:=hcH;exact keep c v (trk c u' hu).2 (trk c u' hu).1 q) (λ _ q=>q) λ _ _ q=>q
 refine ⟨I.ok,I.os,I.bare,⟨λ b o e n hb hx=>?_,λ b o e n hb hx=>?_,I.base.free,λ b o e hx=>?_,I.base.tups,I.base.frzs,I.base.tbls⟩,?_,λ x c e=>?_,I.free,I.freeC,λ p hp=>?_,hok,I.len⟩
 ·exact keep b o (nfs b hb (ltL b o e)) (nch b o e) (I.base.keep b o e n hb hx)
 ·obtain ⟨sl,e1⟩:=I.base.slot b o e n hb hx;obtain ⟨sl',e2⟩:=slot b _ (nch b o e) e1;exact ⟨sl',e2⟩
 ·obtain ⟨o',e1⟩:=I.base.there b o e hx;obtain ⟨sl',e2⟩:=slot b _ (nch b o e) e1;exact ⟨_,e2⟩
 ·obtain ⟨m,⟨o,es,ep,ho,r⟩,hl⟩:=I.loc;obtain ⟨sl,q⟩:=slot _ o (λ z=>neL _ z rfl) ho;refine ⟨m,⟨_,es,ep,q,r⟩,λ i x v e1 e2 e3=>?_⟩;obtain ⟨u,r',l⟩:=hl i x v e1 e2 e3;refine ⟨u,r',?_⟩;rcases l with l|⟨k,c,e,z⟩
  ·exact .inl l
  ·exact .inr ⟨k,c,e,cellK x c e _ z⟩
 ·obtain ⟨v,z⟩:=I.cell x c e;exact ⟨v,cellK x c e v z⟩
 ·obtain ⟨e,n,ne,nf,d⟩:=I.pin p hp;exact ⟨keep p.1 p.2 (nfs _ nf ne) (λ z=>(hch p.1 z).2.2 p hp rfl) e,n,ne,nf,d⟩
theorem WL {a:Addr} {vs:Ac} {E:A3} {Q:Ag} (I:Inv X o6 σ H s) (hst:X.stack=X.env :: X.outer) (hfr:X.env.frame=some X.env.locals) (hex:X.ex=[])
  (he:s.heap.get? a=some oe) (hdict:oe.dict=none) (hd:oe.data=.fields vs) (ga:X.s₀.heap.get? a=none) (Ha:H a=none) (hpa:∀ p∈X.pn ++ o6,p.1≠a)
  (h1:vs[1]?=some .none\/∃ T oT ts,vs[1]?=some (.ref T)/\T≠a/\s.heap.get? T=some oT/\oT.data=.fields ts/\ts[3]?=some .none/\X.s₀.heap.get? T=none/\H T=none/\∀ p∈X.pn ++ o6,p.1≠T)
  (hQ:∀ s',Inv X o6 σ H s'->Exc X.s₀.heap s'.heap H (X.pn ++ o6) a oe.cls->Q () s') :
  wpAny (model X.prog X.w) X.A (noteFrame (.ref a) X.env) (λ _ s'=>wpAny (model X.prog X.w) X.A (setFlight (.ref a) none) Q E s') E s:=by
 have hfs:=I.ok.frames;have hFF:=I.stack;rw [hst] at hfs hFF;have hS:frs X.stack=(X.env :: X.outer).filterMap (·.frame):=by rw [hst];rfl
 have fin:∀ (ch:Ab),(∀ b∈ch,X.s₀.heap.get? b=none/\H b=none/\∀ p∈X.pn ++ o6,p.1≠b)->(∀ b∈ch,∃ o vs,s.heap.get? b=some o/\o.data=.fields vs)->a∈ch ->
   ∀ h' T,(∀ b o,b ∉ (X.env :: X.outer).filterMap (·.frame)->b ∉ ch->s.heap.get? b=some o->h'.get? b=some o)->(∀ b o,b ∉ ch->s.heap.get? b=some o->∃ sl,h'.get? b=some { o with slots:=sl }) ->
   (∀ b∈ch,∃ o,h'.get? b=some o)->s.heap.get? T=none->T≠a->h'.get? a=some (oe.mapFields (·.setIfInBounds 1 (.ref T)))->(∃ oT ts,h'.get? T=some oT/\oT.data=.fields ts/\ts[3]?=some .none)->Q () { s with heap:=h' }:=by
  intro ch hch hrec ha h' T k1 k2 k3 k4 k5 k6 k7;have I':=I.stepx (h':=h') hch hrec (λ b o hb hc q=>k1 b o (by rw [<- hS];exact hb) hc q) k2 k3;refine hQ _ I' ⟨?_,ga,Ha,hpa⟩;obtain ⟨oT,ts,q1,q2,q3⟩:=k7;have hsz:1 < vs.size:=by
   rcases h1 with z|⟨_,_,_,z,_⟩ <;> exact (bw.mp z).1
  refine ⟨_,_,T,oT,ts,k6,Obj.cls_mapFields _ _,by obtain ⟨c,d,dt,sl⟩:=oe;cases dt <;> exact hdict,bu hd _,by simp [hsz],k5,q1,q2,q3,?_,?_,λ p hp z=>?_⟩
  ·cases e:X.s₀.heap.get? T with
   | none=>rfl
   | some o =>
    obtain ⟨o',e'⟩:=I.base.there T o e (by rw [hex];simp);rw [k4] at e';cases e'
  ·cases e:H T with
   | none=>rfl
   | some u =>
    obtain ⟨o',e'⟩:=(I.hok T u e).there;rw [k4] at e';cases e'
  ·have:=(I.pin p hp).1;rw [z,k4] at this;cases this
 rcases h1 with h1|⟨T,oT,ts,h1,hTa,hT,hdT,h3,gT,HT,pT⟩
 ·refine WK (ch:=[a]) hfs hFF hfr he hd (.inl ⟨h1,rfl⟩) (fin [a] (λ b hb=>?_) (λ b hb=>?_) (by simp))
  ·obtain rfl:b=a:=by simpa using hb
   exact ⟨ga,Ha,hpa⟩
  ·obtain rfl:b=a:=by simpa using hb
   exact ⟨oe,vs,he,hd⟩
 ·refine WK (ch:=[a,T]) hfs hFF hfr he hd (.inr ⟨T,oT,ts,h1,hTa,hT,hdT,h3,rfl⟩) (fin [a,T] (λ b hb=>?_) (λ b hb=>?_) (by simp))
  ·rcases ar.mp hb with rfl|hb
   ·exact ⟨ga,Ha,hpa⟩
   ·obtain rfl:b=T:=by simpa using hb
    exact ⟨gT,HT,pT⟩
  ·rcases ar.mp hb with rfl|hb
   ·exact ⟨oe,vs,he,hd⟩
   ·obtain rfl:b=T:=by simpa using hb
    exact ⟨oT,ts,hT,hdT⟩
end
def JG (X:Cx) (G:GK) (e:Am) (s:An):Prop:=∃ a cls σ H,e=Value.ref a/\Inv X [] σ H s/\Exc X.s₀.heap s.heap H X.pn a cls/\G cls σ H
def xeG (X:Cx) (G:GK) (e:Am) (s:An):Prop:=wpAny (model X.prog X.w) X.A (noteFrame e X.env) (λ _ s'=>wpAny (model X.prog X.w) X.A (setFlight e none) (λ _ s''=>JG X G e s'') (λ _ _=>False) s') (λ _ _=>False) s
noncomputable abbrev Cx.exg (X:Cx) (G:GK):Cx:=X.wish (xeG X G)
structure Bod (X:Cx):Prop where
 st:X.stack=X.env :: X.outer
 fr:X.env.frame=some X.env.locals
 ex:X.ex=[]
def qX {X:Cx} {G:GK}:PassesOwn (model X.prog X.w) X.A X.env (xeG X G):=PassesOwn.looking
def Inv.nopins {X:Cx} {σ:St} (I:Inv X o6 σ H s):Inv X [] σ H s:=I.pins_of λ p hp=>absurd hp (by simp)
def Exc.less {g h:Heap} {pn pn':A2} {a:Addr} (x:Exc g h H pn a cls) (hp:∀ p∈pn',p∈pn):Exc g h H pn' a cls:=by
 obtain ⟨⟨oe,vs,T,oT,ts,h1,h2,h3,h4,h5,h6,h7,h8,h9,h10,h11,h12⟩,ga,Ha,pa⟩:=x;exact ⟨⟨oe,vs,T,oT,ts,h1,h2,h3,h4,h5,h6,h7,h8,h9,h10,h11,λ p q=>h12 p (hp p q)⟩,ga,Ha,λ p q=>pa p (hp p q)⟩
def CXr (P:Af) (w:World):CXT:=λ outer H s E e s'=>∃ a cls H',e=Value.ref a/\s'.os=s.os/\AllBare s'.gens/\Un (frs outer) [] H H' s.heap s'.heap/\HOk P w H' s'.heap /\
 Exc s.heap s'.heap H' [] a cls/\E cls none H'
section
variable {X:Cx} {o6:A2} {σ:St} {H:Hp} {s:An} {G:GK}
def Q9 {e:Am} {s':An} (B:Bod X) (I:Inv X o6 σ H s) (h:CXr X.prog X.w X.stack H s (λ cls _ H'=>G cls σ H') e s'):xeG X G e s':=by
 obtain ⟨a,cls,H',rfl,os,bare,un,hok,⟨⟨oe,vs,T,oT,ts,h1,h2,h3,h4,h5,h6,h7,h8,h9,h10,h11,_⟩,ga,Ha,_⟩,hG⟩:=h;have I':Inv X o6 σ H' s':=I.call' os un hok bare (λ b z=>absurd z (by simp));have old:∀ b,s.heap.get? b=none->X.s₀.heap.get? b=none:=λ b hb=>by
  cases e:X.s₀.heap.get? b with
  | none=>rfl
  | some o =>
   obtain ⟨o',e'⟩:=I.base.there b o e (by rw [B.ex];simp);rw [hb] at e';cases e'
 have pin:∀ b,s.heap.get? b=none->∀ p∈X.pn ++ o6,p.1≠b:=λ b hb p hp z=>by
  have:=(I.pin p hp).1;rw [z,hb] at this;cases this
 refine WL I' B.st B.fr B.ex h1 h3 h4 (old a ga) Ha (pin a ga) (.inr ⟨T,oT,ts,h5,h6,h7,h8,h9,old T h10,h11,pin T h10⟩) λ s'' I2 x=>?_;exact ⟨a,oe.cls,σ,H',rfl,I2.nopins,x.less λ p hp=>bp _ hp,h2 ▸ hG⟩
def zbH {a:Addr} {args:A7} {h':Heap} (B:Bod X) (I:Inv X o6 σ H s) (hm:Heap.MadeExcOf s.heap h' a cls args) (hG:G cls σ H):xeG X G (.ref a) { s with heap:=h' }:=by
 obtain ⟨t,h1,h2,h3⟩:=hm.there;have I':Inv X o6 σ H { s with heap:=h' }:=I.kept (t':=s.toks) hm.keeps;have ga:X.s₀.heap.get? a=none:=by
  cases e:X.s₀.heap.get? a with
  | none=>rfl
  | some o =>
   obtain ⟨o',e'⟩:=I.base.there a o e (by rw [B.ex];simp);rw [hm.new] at e';cases e'
 have Ha:H a=none:=by
  cases e:H a with
  | none=>rfl
  | some u =>
   obtain ⟨o',e'⟩:=(I.hok a u e).there;rw [hm.new] at e';cases e'
 refine WL (s:={ s with heap:=h' }) I' B.st B.fr B.ex h1 rfl rfl ga Ha (λ p hp z=>?_) (.inl rfl) λ s'' I2 x=>?_
 ·have:=(I.pin p hp).1;rw [z,hm.new] at this;cases this
 ·exact ⟨a,cls,σ,H,rfl,I2.nopins,x.less λ p hp=>bp _ hp,hG⟩
end
section
variable {P:Af} {w:World} {K:A0} {mg:A4} {base:Heap}
noncomputable abbrev cxR (P:Af) (w:World) (K:A0) (mg:A4) (base:Heap) (N:A8) (qual:Str) (scope:Scope) (f:Addr) (cd:Am) (A:Ao) (outer:List Env) (s:An) (H:Hp) (E:XK):Cx :=
 JB (CXr P w) P w K mg base N qual scope f cd A outer s H E
def Fun.okx {x qual:Str} {st:Stmt} {f:Addr} {fd:FuncData} {N ps:A8} {k:Nat} (F:Fun K x qual st f fd) (S:FnScope N ps (zg st)) (len:∀ vs H Q E,sp vs H Q E->vs.length=ps.length)
  (hbody:∀ (cdv:Am) (A:Ao) (outer:List Env) (s:An) (H:Hp) (vs:Ap) (Q:VK) (E:XK),Room k (A.deeper (envOfC qual (zg st) s.heap.objs.size f cdv))->sp vs H Q E ->
   ∃ t,PSs ((cxR P w K mg base N qual (zg st) f cdv A outer s H E).exg λ cls _ H'=>E cls none H') (z6 st) t/\t { nx:=λ _ H'=>Q .non H',rt:=Q } (start N vs) H):FnOk P w K mg base (CXr P w) (k + 1) f fd ps sp:=by
 obtain ⟨oc,od,kV,doc,pm,an,cdv,ct,osl,rfl,lk,hcd⟩:=F.ex;refine zfZ lk hcd S len λ A outer s H vs Q E hr hsp=>?_;obtain ⟨t,h,q⟩:=hbody cdv A outer s H vs Q E hr hsp;refine ⟨t,λ o6 s σ H' D I hw=>?_,q⟩;refine aS (h o6 s σ H' D (I.wish _) hw) (λ _ _ z=>z.unwish) λ e s' z=>?_;refine ai (aS (show wpAny _ _ _ _ _ _ from z) (λ _ s1 y1=>aS y1 (λ _ s'' y=>?_) λ _ _ y=>y.elim) λ _ _ y=>y.elim);obtain ⟨a,cls,σ2,H2,rfl,J,xx,g⟩:=y;exact ⟨a,cls,H2,rfl,J.os,J.bare,J.base,J.hok,xx.less (λ p hp=>absurd hp (by simp)),g⟩
end
structure Cal (P:Af) (w:World) (K:A0) (mg:A4) (base:Heap) (x:Str) (k:Nat) (ps:A8) (dvs:Ap) (sp:Sp):Prop where
 ex:∃ f fd ds,FnOk P w K mg base (CXr P w) k f fd ps sp/\mg x=some (.ref f)/\keepIn K (.ref f)=true/\Binds K fd ps ds/\Vals dvs ds
structure MCal (P:Af) (w:World) (K:A0) (mg:A4) (base:Heap) (C:Addr) (m:Str) (k:Nat) (ps:A8) (dvs:Ap) (sp:Sp):Prop where
 cl:Cls K C
 ex:∃ f fd ds,FnOk P w K mg base (CXr P w) k f fd ps sp/\Meth K C m f/\Binds K fd ps ds/\Vals dvs ds
structure KCal (P:Af) (w:World) (K:A0) (mg:A4) (base:Heap) (x:Str) (C:Addr) (k:Nat) (ps:A8) (dvs:Ap) (sp:Sp):Prop where
 gl:mg x=some (.ref C)
 ex:∃ f fd ds,FnOk P w K mg base (CXr P w) k f fd ps sp/\Mk K C f/\Binds K fd ps ds/\Vals dvs ds
def Cal.mono {j k:Nat} {dvs:Ap} (c:Cal P w K mg base x j ps dvs sp) (h:j<=k:=by decide):Cal P w K mg base x k ps dvs sp:=by
 obtain ⟨f,fd,ds,a,b⟩:=c.ex;exact ⟨f,fd,ds,a.mono h,b⟩
def MCal.mono {C:Addr} {m:Str} {j k:Nat} {dvs:Ap} (c:MCal P w K mg base C m j ps dvs sp) (h:j<=k:=by decide):MCal P w K mg base C m k ps dvs sp:=by
 obtain ⟨f,fd,ds,a,b⟩:=c.ex;exact ⟨c.cl,f,fd,ds,a.mono h,b⟩
def KCal.mono {C:Addr} {j k:Nat} {dvs:Ap} (c:KCal P w K mg base x C j ps dvs sp) (h:j<=k:=by decide):KCal P w K mg base x C k ps dvs sp:=by
 obtain ⟨f,fd,ds,a,b⟩:=c.ex;exact ⟨c.gl,f,fd,ds,a.mono h,b⟩
section
variable {X:Cx} {G:GK} {k:Nat} {f C:Addr} {fd:FuncData} {ps:A8} {sp:Sp} {dvs:Ap} {ds:A7} {x m:Str} {p pos apos:Pos} {e o:Expr} {es:List Expr} {ta:TE} {t:TA}
theorem JK {σ:St} {Q:VK} {us:A7} {vs:Ap} (B:Bod X) (F:FnOk X.prog X.w X.K X.mg X.base (CXr X.prog X.w) k f fd ps sp) (hr:Room k X.A) (hb:Binds X.K fd ps ds) (hd:Vals dvs ds)
  (I:Inv (X.exg G) o6 σ H s) (r:Vals vs us) (h:sp (vs ++ dvs) H Q (λ cls _ H'=>G cls σ H')):wpAny (model X.prog X.w) X.A (call (.ref f) us) (EP (X.exg G) o6 σ Q) (xeG X G) s:=by
 have r2:Vals (vs ++ dvs) (us ++ ds):=r.append hd;have hl:(us ++ ds).length=ps.length:=by rw [<- r2.length];exact F.len _ _ _ _ h
 refine gb (dg (F.run X.A X.stack s H ⟨us,[]⟩ (us ++ ds) (vs ++ dvs) Q _ hr I.unwish.env0 (hb s us I.kIn hl) r2 h) λ r s' hq=>?_);cases r with
 | error e=>exact Q9 B I.unwish hq
 | ok fl =>
  cases fl with
  | ret u=>exact I.after hq
  | next=>exact False.elim hq
  | brk=>exact False.elim hq
  | cont=>exact False.elim hq
theorem zdR {σ:St} {Q:VK} {us:A7} {vs:Ap} (B:Bod X) (M:Mk X.K C f) (F:FnOk X.prog X.w X.K X.mg X.base (CXr X.prog X.w) k f fd ps sp) (hr:Room (k + 1) X.A) (hb:Binds X.K fd ps ds) (hd:Vals dvs ds)
  (I:Inv (X.exg G) o6 σ H s) (r:Vals vs us)
  (h:∀ x dx,H x=none->H dx=none->dx≠x->sp (.ref x :: (vs ++ dvs)) (upd (upd H dx (.own x)) x (.ins C dx [])) (λ v H2=>v=.non/\Q (.ref x) H2) (λ cls _ H'=>G cls σ H')) :
  wpAny (model X.prog X.w) X.A (call (.ref C) us) (EP (X.exg G) o6 σ Q) (xeG X G) s:=by
 have hq:=h (s.heap.objs.size + 1) s.heap.objs.size (I.hok.fresh (cP _)) (I.hok.fresh (au _)) (aR (d9 _));have I2:=Inv.made (C:=C) I;have r2:Vals (V.ref (s.heap.objs.size + 1) :: (vs ++ dvs)) (Value.ref (s.heap.objs.size + 1) :: (us ++ ds)):=.cons rfl (r.append hd);have hl:(Value.ref (s.heap.objs.size + 1) :: us ++ ds).length=ps.length:=by
  have e:=r2.length;rw [F.len _ _ _ _ hq] at e;exact e.symm
 refine gb (za7 (f:=f) I.kIn M.makes M.init (bD.mp M.fn) (dg (F.run _ X.stack _ _ ⟨Value.ref (s.heap.objs.size + 1) :: us,[]⟩ (Value.ref (s.heap.objs.size + 1) :: (us ++ ds)) _ _ _ (hr.make C us [])
  (I2.unwish.env0.make C us []) (hb _ (Value.ref (s.heap.objs.size + 1) :: us) I2.kIn hl) r2 hq) λ r s' hq'=>?_))
 cases r with
 | error e=>exact Q9 B I2.unwish hq'
 | ok fl =>
  cases fl with
  | ret u =>
   obtain ⟨v,H',I3,rv,ev,q3⟩:=I2.after hq';subst ev;exact ⟨rv,⟨V.ref (s.heap.objs.size + 1),H',I3,rfl,q3⟩⟩
  | next=>exact False.elim hq'
  | brk=>exact False.elim hq'
  | cont=>exact False.elim hq'
def tCl (X:Cx) (k:Nat) (x:Str) (G:GK) (t:TA):TE:=λ σ H Q=>∃ ps dvs sp,Cal X.prog X.w X.K X.mg X.base x k ps dvs sp/\t σ H λ vs H1=>sp (vs ++ dvs) H1 Q (λ cls _ H'=>G cls σ H')
def zy (B:Bod X) (hr:Room k X.A) (ha:PA (X.exg G) (e :: es) t) (hg:Gl X x:=by rfl) (hdb:(x == ("__debug__":Str))=false:=by decide)
  (he:starEach (e :: es) X.env=(false,eval e X.env) :: starEach es X.env:=by rfl) (hpl:(backTo pos (starEach es X.env)).any (·.1)=false:=by rfl) :
  PE (X.exg G) (.Call (.Name x p) (e :: es) [] pos) (tCl X k x G t):=by
 intro o6 s σ H Q I h;obtain ⟨ps,dvs,sp,⟨f,fd,ds,F,hm,hk,hb,hd⟩,h⟩:=h;refine bt (jS I hg hm ?_ hdb);refine dr (h₀:=X.base) I.ok.mod.kin hk (vF (ha pos o6 s σ H _ I h) λ us s1 vs H1 I1 r q=>⟨I1.kIn,?_⟩) he hpl;exact JK B F hr hb hd I1 r q
def tMk (X:Cx) (k:Nat) (x:Str) (G:GK) (t:TA):TE:=λ σ H Q=>∃ C ps dvs sp,KCal X.prog X.w X.K X.mg X.base x C k ps dvs sp/\t σ H λ vs H1=>∀ y dx,H1 y=none->H1 dx=none->dx≠y ->
 sp (.ref y :: (vs ++ dvs)) (upd (upd H1 dx (.own y)) y (.ins C dx [])) (λ v H2=>v=.non/\Q (.ref y) H2) (λ cls _ H'=>G cls σ H')
def qW (B:Bod X) (hr:Room (k + 1) X.A) (ha:PA (X.exg G) (e :: es) t) (hg:Gl X x:=by rfl) (hdb:(x == ("__debug__":Str))=false:=by decide)
  (he:starEach (e :: es) X.env=(false,eval e X.env) :: starEach es X.env:=by rfl) (hpl:(backTo pos (starEach es X.env)).any (·.1)=false:=by rfl) :
  PE (X.exg G) (.Call (.Name x p) (e :: es) [] pos) (tMk X k x G t):=by
 intro o6 s σ H Q I h;obtain ⟨C,ps,dvs,sp,⟨hm,f,fd,ds,F,M,hb,hd⟩,h⟩:=h;refine bt (jS I hg hm ?_ hdb);refine dr (h₀:=X.base) I.ok.mod.kin M.kp (vF (ha pos o6 s σ H _ I h) λ us s1 vs H1 I1 r q=>⟨I1.kIn,?_⟩) he hpl;exact zdR B M F hr hb hd I1 r q
def tMth (X:Cx) (k:Nat) (m:Str) (G:GK) (ta:TE) (t:TA):TE:=λ σ H Q=>ta σ H λ y H1=>∃ a C dx fs ps dvs sp,y=.ref a/\H1 a=some (.ins C dx fs)/\fs.lookup m=none /\
 MCal X.prog X.w X.K X.mg X.base C m k ps dvs sp/\t σ H1 λ vs H2=>sp (.ref a :: (vs ++ dvs)) H2 Q (λ cls _ H'=>G cls σ H')
def QX {pl:Sem Bool} (B:Bod X) (hr:Room k X.A) (he:PE (X.exg G) o ta) (ha:PA (X.exg G) (e :: es) t)
  (hst:starEach (e :: es) X.env=(false,eval e X.env) :: starEach es X.env:=by rfl) (hpl:(backTo pos (starEach es X.env)).any (·.1)=false:=by rfl)
  (ht:eval (.Call (.Attribute o m apos) (e :: es) [] pos) X.env=(do
   let ov <- eval o X.env
   standAt apos.atName
   let (f,first) <- holding [ov] (getMethod ov m pl)
   callWith pos f first (backTo pos (starEach (e :: es) X.env)) (backToKw pos (keywordEach [] X.env))):=by rfl) :
  PE (X.exg G) (.Call (.Attribute o m apos) (e :: es) [] pos) (tMth X k m G ta t):=by
 intro o6 s σ H Q I h;refine dI (pl:=pl) (thn (he o6 s σ H _ I h) λ u s1 hz=>?_) ht;obtain ⟨x,H1,I1,rx,a,C,dx,fs,ps,dvs,sp,ex,ea,l,⟨c,f,fd,ds,F,hm,hb,hd⟩,q⟩:=hz;subst ex;obtain rfl:u=Value.ref a:=rx;refine vx I1 ea c hm l ?_;refine dr (first:=[.ref a]) (h₀:=X.base) I.ok.mod.kin hm.kp (vF (ha pos o6 s1 σ H1 _ I1 q) λ us s2 vs H2 I2 r q2=>⟨I2.kIn,?_⟩) hst hpl;exact JK (us:=.ref a :: us) (vs:=.ref a :: vs) B F hr hb hd I2 (.cons rfl r) q2
def JM {pl:Sem Bool} (B:Bod X) (hr:Room k X.A) (he:PE (X.exg G) o ta)
  (ht:eval (.Call (.Attribute o m apos) [] [] pos) X.env=(do
   let ov <- eval o X.env
   standAt apos.atName
   let (f,first) <- holding [ov] (getMethod ov m pl)
   callWith pos f first (backTo pos (starEach [] X.env)) (backToKw pos (keywordEach [] X.env))):=by rfl) :
  PE (X.exg G) (.Call (.Attribute o m apos) [] [] pos) (tMth X k m G ta tNil):=by
 intro o6 s σ H Q I h;refine dI (pl:=pl) (thn (he o6 s σ H _ I h) λ u s1 hz=>?_) ht;obtain ⟨x,H1,I1,rx,a,C,dx,fs,ps,dvs,sp,ex,ea,l,⟨c,f,fd,ds,F,hm,hb,hd⟩,q⟩:=hz;subst ex;obtain rfl:u=Value.ref a:=rx;refine vx I1 ea c hm l ?_;exact gk (first:=[.ref a]) I1.kIn hm.kp (JK (us:=[.ref a]) (vs:=[.ref a]) B F hr hb hd I1 (.cons rfl .nil) q)
def tGl (X:Cx) (x:Str):TE:=λ _ H Q=>∃ v u,X.mg x=some u/\RelV v u/\Q v H
def xi (hg:Gl X x:=by rfl) (hd:(x == ("__debug__":Str))=false:=by decide):PE X (.Name x pos) (tGl X x):=λ _ _ _ H _ I h=>by
 obtain ⟨v,u,hm,r,h⟩:=h;exact jS I hg hm ⟨v,H,I,r,h⟩ hd
def tBl (X:Cx) (x:Str) (v:V):TE:=λ _ H Q=>X.mg x=none/\Q v H
def zjj {n:String} (hv:bootBuiltins x=some (.type n)) (hg:Gl X x:=by rfl) (hn:x≠"__name__":=by decide) (hd:(x == ("__debug__":Str))=false:=by decide):PE X (.Name x pos) (tBl X x (.ty n)):=λ _ _ _ H _ I h=>by
 obtain ⟨hm,h⟩:=h;exact vp I hg hm hv ⟨.ty n,H,I,rfl,h⟩ hn hd
def tBi (X:Cx) (x:Str) (r:List V->Hp->VK->Prop) (t:TA):TE:=λ σ H Q=>X.mg x=none/\t σ H λ vs H1=>r vs H1 Q
def qb {id:String} {r:List V->Hp->VK->Prop} (hc:CallR X (.builtin id) r) (hv:bootBuiltins x=some (.builtin id)) (ha:PA X (e :: es) t) (hg:Gl X x:=by rfl) (hn:x≠"__name__":=by decide) (hdb:(x == ("__debug__":Str))=false:=by decide)
  (he:starEach (e :: es) X.env=(false,eval e X.env) :: starEach es X.env:=by rfl) (hpl:(backTo pos (starEach es X.env)).any (·.1)=false:=by rfl):PE X (.Call (.Name x p) (e :: es) [] pos) (tBi X x r t):=λ o6 s σ H Q I h =>
 zfq hc hg h.1 hv ha hn hdb he hpl o6 s σ H Q I h.2
def wG {T:String} {r:List V->Hp->VK->Prop} (hc:CallR X (.type T) r) (hv:bootBuiltins x=some (.type T)) (ha:PA X (e :: es) t) (hg:Gl X x:=by rfl) (hn:x≠"__name__":=by decide) (hdb:(x == ("__debug__":Str))=false:=by decide)
  (he:starEach (e :: es) X.env=(false,eval e X.env) :: starEach es X.env:=by rfl) (hpl:(backTo pos (starEach es X.env)).any (·.1)=false:=by rfl):PE X (.Call (.Name x p) (e :: es) [] pos) (tBi X x r t):=λ o6 s σ H Q I h =>
 zd5 hc hg h.1 hv ha hn hdb he hpl o6 s σ H Q I h.2
end
section
variable {X:Cx} {tg:Expr} {a b c e o:Expr} {ta tb tc:TE} {pos:Pos}
def iSeq (K:A0) (tl:TE):TI:=λ σ H R=>tl σ H λ x H1=>∃ a,x=.ref a/\(((∃ xs,SqL K H1 a xs)/\R (Itl K a) H1)\/((∃ xs,SqT K H1 a xs)/\R (Itt K a) H1))
def qo {l:Expr} {tl:TE} (hl:PE X l tl):PI X tg l (iSeq X.K tl):=by
 intro o6 s σ H R I h;refine qL (hl o6 s σ H _ I h) λ v s1 x H1 I1 r1 q1=>?_;obtain ⟨a,e,q⟩:=q1;subst e;cases r1;rcases q with ⟨⟨xs,hq⟩,q⟩|⟨⟨xs,hq⟩,q⟩
 ·obtain ⟨oo,rv,p,hz⟩:=I1.list hq;refine eM p.isList ?_;refine ⟨s1.heap.objs.size,[s1.heap.objs.size],_,_,H1,rfl,I1.kept (t':=s1.toks) λ b o e=>aj _ e,zdz a _,⟨_,aB _ rfl,rfl,rfl⟩,λ b hb=>?_,q⟩;have e:b=s1.heap.objs.size:=by simpa using hb
  subst e;exact I1.fpOk (au _) (I1.hok.fresh (au _))
 ·obtain ⟨oo,rv,p,hz⟩:=I1.tuple hq;refine wpAny_pyIter_tuple (show s1.heap.IsTuple a oo.toArray from p) ?_;refine ⟨s1.heap.objs.size,[s1.heap.objs.size],_,_,H1,rfl,I1.kept (t':=s1.toks) λ b o e=>aj _ e,zbK a _,⟨_,aB _ rfl,rfl,rfl⟩,λ b hb=>?_,q⟩;have e:b=s1.heap.objs.size:=by simpa using hb
  subst e;exact I1.fpOk (au _) (I1.hok.fresh (au _))
def vh {ta:TA} {p pos:Pos} (ha:PA X [a] ta) (hg:Gl X "range":=by rfl) (hs:starEach [a] X.env=[(false,eval a X.env)]:=by rfl):PI X tg (.Call (.Name "range" p) [a] [] pos) (λ σ H R=>X.mg "range"=none/\iRng1 ta σ H R) :=
 λ o6 s σ H R I h=>zd4 hg h.1 ha hs o6 s σ H R I h.2
def zff (K:A0):R2:=λ x y H Q=>∃ l b xs zs,x=.ref l/\y=.ref b/\SqL K H l xs/\SqL K H b zs/\xs.length + zs.length<=sizeLine/\∀ p,H p=none->Q (.ref p) (upd H p (.lst (xs ++ zs)))
def zgX:OpR X (binaryOp .Add) (zff X.K):=by
 intro o6 s σ H x y v u Q I rx ry h;obtain ⟨l,b,xs,zs,rfl,rfl,hH,hB,hz,q⟩:=h;cases rx;cases ry;obtain ⟨oo,r,p,z⟩:=I.list hH;obtain ⟨its2,r2,p2,z2⟩:=I.list hB;have e1:=r.length;have e2:=r2.length;obtain ⟨⟨cls,dd,data,sl⟩,n,ho,hc,hdd,hd⟩:=p;obtain ⟨⟨cls2,dd2,data2,sl2⟩,n2,ho2,hc2,hdd2,hd2⟩:=p2;simp only at hc hd hc2 hd2;subst hc hd hc2 hd2;have ea:oo.toArray ++ its2.toArray=(oo ++ its2).toArray:=by simp
 refine concat_meets ⟨_,ho,rfl⟩ ⟨_,ho2,rfl⟩ noFill_list_add seq_list_add PySem.F.slot_list_add PySem.F.entry_list_add (PySem.F.args_list_add_2 _ _) (list_addW l b oo.toArray its2.toArray n n2 dd dd2 sl sl2 (by simp only [av];lia)) ⟨ho,ho2,?_⟩;rw [ea];exact ⟨.ref _,_,I.lnew (t':=s.toks) (r.append r2) (by rw [aF];lia),rfl,q _ I.fresh⟩
def OpR.wk {f:Al} {r r':R2} (h:OpR X f r) (k:∀ x y H Q,r' x y H Q->r x y H Q):OpR X f r':=λ o6 s σ H x y v u Q I rx ry q=>h o6 s σ H x y v u Q I rx ry (k x y H Q q)
def zaK (K:A0):R2:=λ x y H Q=>match x,y with
 | .int i,.int j=>Q (.int (i + j)) H
 | .str i,.str j=>i.length + j.length<=sizeLine/\Q (.str (i ++ j)) H
 | x,y=>zff K x y H Q
def qd:OpR X (binaryOp .Add) (zaK X.K):=(op_add.or (op_add_str.or zgX)).wk λ x y H Q h=>by
 unfold zaK at h
 split at h
 ·exact .inl h
 ·exact .inr (.inl ⟨_,_,rfl,rfl,h⟩)
 ·exact .inr (.inr h)
def rT (c:Int->Int->Prop) [∀ i j,Decidable (c i j)]:R2:=λ x y H Q=>iq x λ i=>iq y λ j=>if c i j then Q (.bl true) H else Q (.bl false) H
def zcr {c:Prop} [Decidable c] {Q:VK} (h:if c then Q (.bl true) H else Q (.bl false) H):Q (.bl (decide c)) H:=by
 by_cases e:c
 ·rw [ap e] at h;rw [bg e];exact h
 ·rw [ao e] at h;rw [a8 e];exact h
def zc9 {c:Prop} [Decidable c] {Q:VK} (h:if ¬ c then Q (.bl true) H else Q (.bl false) H):Q (.bl (!decide c)) H:=by
 by_cases e:c
 ·rw [ao (λ z=>z e)] at h;rw [bg e];exact h
 ·rw [ap e] at h;rw [a8 e];exact h
def OpR.t {f:Al} {c:Int->Int->Prop} [∀ i j,Decidable (c i j)] (h:OpR X f (rI0 λ i j=>.bl (decide (c i j)))):OpR X f (rT c):=h.wk λ x y H Q q=>by
 obtain ⟨i,j,rfl,rfl,q⟩:=Q5 q;exact zcr q
def zft:OpR X (compareOp .Lt) (rT λ i j=>i < j):=op_lt.t
def xj:OpR X (compareOp .LtE) (rT λ i j=>i<=j):=op_le.t
def Jd:OpR X (compareOp .Gt) (rT λ i j=>j < i):=op_gt.t
def Je:OpR X (compareOp .GtE) (rT λ i j=>j<=i):=op_ge.t
def ja:OpR X (compareOp .Is) (λ x y H Q=>nq y (if x=.non then Q (.bl true) H else Q (.bl false) H)):=op_isN.wk λ x y H Q q=>by
 obtain ⟨rfl,q⟩:=zcZ q;exact zcr q
def vj:OpR X (compareOp .IsNot) (λ x y H Q=>nq y (if ¬ x=.non then Q (.bl true) H else Q (.bl false) H)):=op_notN.wk λ x y H Q q=>by
 obtain ⟨rfl,q⟩:=zcZ q;exact zc9 q
def zcb {op:Operator} {b:Expr} {y:V} {r:R2} (ho:OpR X (binaryOp op) r) (hb:PE X b (tC y)) {ta:TE} {r':V->Hp->VK->Prop} (k:∀ x H Q,r' x H Q->r x y H Q) {pos:Pos} (ha:PE X a ta):PE X (.BinOp a op b pos) (tUn r' ta):=by
 intro o6 s σ H Q I h;refine wpAny_BinOp (qL (ha o6 s σ H _ I h) λ v s1 x H1 I1 r1 q1=>thn (hb o6 s1 σ H1 (λ z H2=>z=y/\H2=H1) I1 ⟨rfl,rfl⟩) λ u s2 ⟨z,H2,I2,r2,e,e2⟩=>?_);subst e e2;exact ho o6 s2 σ H2 x z v u Q I2 r1 r2 (k x H2 Q q1)
def zcc {k:Int} {j:Nat} {p2 pos:Pos} {ta:TE} (ha:PE X a ta) (h:decide (0 < k)=true:=by rfl):PE X (.BinOp a .Mod (.Constant (.int k) j p2) pos) (tUn (rU λ i=>.int (i % k)) ta) :=
 zcb jo ze (λ x H Q q=>by obtain ⟨i,rfl,q⟩:=Qr q;exact ⟨bB h,q⟩) ha
def VN {k:Int} {j:Nat} {p2 pos:Pos} {ta:TE} (ha:PE X a ta) (h:decide (0 < k/\k < 1073741824)=true:=by rfl):PE X (.BinOp a .FloorDiv (.Constant (.int k) j p2) pos) (tUn (rU λ i=>.int (i / k)) ta) :=
 zcb zgW ze (λ x H Q q=>by obtain ⟨i,rfl,q⟩:=Qr q;have z:=bB h;exact ⟨z,q⟩) ha
def zca {b k:Int} {j j2:Nat} {p1 p2 pos:Pos} (h:decide (0<=k/\k<=1000000/\b.natAbs < 2 ^ 64)=true:=by rfl):PE X (.BinOp (.Constant (.int b) j p1) .Pow (.Constant (.int k) j2 p2) pos) (tC (.int (b ^ k.toNat))):=by
 intro o6 s σ H Q I q;have z:=bB h;exact zJ zii ze ze o6 s σ H Q I ⟨z,q⟩
def VM {b k:Int} {j j2:Nat} {p1 p2 p3 pos:Pos} {ta:TE} (ha:PE X a ta) (h:decide (0<=k/\k<=1000000/\b.natAbs < 2 ^ 64)=true:=by rfl) (h0:decide (0 < b)=true:=by rfl) :
  PE X (.BinOp a .Mod (.BinOp (.Constant (.int b) j p1) .Pow (.Constant (.int k) j2 p2) p3) pos) (tUn (rU λ i=>.int (i % b ^ k.toNat)) ta) :=
 zcb jo (zca h) (λ x H Q q=>by obtain ⟨i,rfl,q⟩:=Qr q;exact ⟨Int.pow_pos (bB h0),q⟩) ha
structure MulOk (i j:Int):Prop where
 h:IntMulOk i j
def vV:OpR X (binaryOp .Mult) (rI MulOk λ i j=>.int (i * j)):=opI λ _ _ _ _ _ _ _ hc q=>mul_int q hc.h
structure CFd (_ j:Int):Prop where
 a:j≠0
 b:j.natAbs.log2 < 9000
def zcY:OpR X (binaryOp .FloorDiv) (rI CFd λ i j=>.int (i.fdiv j)):=opI λ _ _ _ _ _ _ _ hc q=>floordiv_int hc.1 q (.inl (PyProof.noPylong_of_log2 hc.2))
def mul_okL {i j:Int} (h1:-(2 ^ 64) < i) (h2:i < 2 ^ 64):MulOk i j:=⟨PySem.IntMulOk.of_left (gg h1 h2)⟩
def mul_okR {i j:Int} (h1:-(2 ^ 64) < j) (h2:j < 2 ^ 64):MulOk i j:=⟨PySem.IntMulOk.of_right (gg h1 h2)⟩
def fd_ok {i j:Int} (h1:0 < j) (h2:j.natAbs < 2 ^ 8999):CFd i j:=⟨by lia,by
 have:=(Nat.log2_lt (n:=j.natAbs) (k:=8999) (by lia)).mpr h2
 lia⟩
def fdiv_pos {i j:Int} (h:0 < j):i.fdiv j=i / j:=eT i (cU h)
noncomputable def xQ:List V->List V->Bool
 | [],[]=>true
 | x :: xs,y :: ys=>eqV x y && xQ xs ys
 | _,_=>false
theorem wC:∀ {xs ys:Ap},xs.length≠ys.length->xQ xs ys=false
 | [],[],h=>absurd rfl h
 | [],_ :: _,_=>rfl
 | _ :: _,[],_=>rfl
 | x :: xs,y :: ys,h=>by
  have:=wC (xs:=xs) (ys:=ys) (λ e=>h (by simp [e]));unfold xQ;rw [this,cB]
theorem wD:∀ {xs ys:Ap},xs.length=ys.length->(List.range xs.length).all (λ j=>eqV (xs.getD j .non) (ys.getD j .non))=xQ xs ys
 | [],[],_=>rfl
 | [],_ :: _,h=>by simp at h
 | _ :: _,[],h=>by simp at h
 | x :: xs,y :: ys,h=>by
  have ih:=wD (xs:=xs) (ys:=ys) (by simpa using h);unfold xQ;rw [<- ih,aX,List.range_succ_eq_map,all_cons,List.all_map]
  rfl
theorem Vals.getD:∀ {xs:Ap} {us:A7} {j:Nat} (h:j < us.length),Vals xs us->RelV (xs.getD j .non) us[j]
 | _,_,0,_,.cons r _=>r
 | _,_,j + 1,h,.cons _ t=>Vals.getD (j:=j) (by simpa using h) t
def xl {xs:Ap} (f:xs.all xk=true) (j:Nat):xk (xs.getD j .non)=true:=by
 rw [ae];cases e:xs[j]? with
 | none=>rfl
 | some x=>exact bS.mp f x (af e)
def zgK (K:A0) (neg:Bool):R2:=λ x y H Q=>∃ a b xs ys,x=.ref a/\y=.ref b/\((SqL K H a xs/\SqL K H b ys)\/(SqT K H a xs/\SqT K H b ys))/\xs.all xk=true/\ys.all xk=true/\Q (.bl (if neg then !xQ xs ys else xQ xs ys)) H
def zd9 (hu:X.A.units < cLine):OpR X (compareOp .Eq) (zgK X.K false):=by
 intro o6 s σ H x y v u Q I rx ry h;obtain ⟨a,b,xs,ys,rfl,rfl,hq,fx,fy,q⟩:=h;cases rx;cases ry;have fin:EP X o6 σ Q (.bool (xQ xs ys)) s:=⟨.bl (xQ xs ys),H,I,rfl,q⟩;rcases hq with ⟨h1,h2⟩|⟨h1,h2⟩
 ·obtain ⟨oo,r,p,_⟩:=I.list h1;obtain ⟨its2,r2,p2,_⟩:=I.list h2;have e1:=r.length;have e2:=r2.length;by_cases hl:xs.length=ys.length
  ·refine fq (e:=λ j=>eqV (xs.getD j .non) (ys.getD j .non)) p.isList p2.isList (by simp only [av];lia) hu (λ j h1 h2=>?_) _ _ _ _ ?_
   ·exact ZZ (Vals.getD (by simpa using h1) r) (Vals.getD (by simpa using h2) r2) (xl fx j) (xl fy j)
   ·rw [av,<- e1,wD hl];exact fin
  ·rw [wC hl] at fin;exact gH p.isList p2.isList (by simp only [av];simp;lia) hu _ _ _ _ fin
 ·obtain ⟨oo,r,p,_⟩:=I.tuple h1;obtain ⟨its2,r2,p2,_⟩:=I.tuple h2;have e1:=r.length;have e2:=r2.length;refine cO (e:=λ j=>eqV (xs.getD j .non) (ys.getD j .non)) p p2 hu (λ j h1 h2=>?_) _ _ _ _ ?_
  ·exact ZZ (Vals.getD (by simpa using h1) r) (Vals.getD (by simpa using h2) r2) (xl fx j) (xl fy j)
  ·by_cases hl:xs.length=ys.length
   ·have em:min oo.toArray.size its2.toArray.size=xs.length:=by simp only [av];lia
    have es:(oo.toArray.size == its2.toArray.size)=true:=by simp only [av];rw [bD];lia
    rw [em,es,wD hl,fC];exact fin
   ·have es:(oo.toArray.size == its2.toArray.size)=false:=by simp only [av];rw [aW];lia
    rw [es,cB];rw [wC hl] at fin;exact fin
def zd6 (hu:X.A.units < cLine):OpR X (compareOp .NotEq) (zgK X.K true):=by
 intro o6 s σ H x y v u Q I rx ry h;obtain ⟨a,b,xs,ys,rfl,rfl,hq,fx,fy,q⟩:=h;cases rx;cases ry;have fin:EP X o6 σ Q (.bool (!xQ xs ys)) s:=⟨.bl (!xQ xs ys),H,I,rfl,q⟩;rcases hq with ⟨h1,h2⟩|⟨h1,h2⟩
 ·obtain ⟨oo,r,p,_⟩:=I.list h1;obtain ⟨its2,r2,p2,_⟩:=I.list h2;have e1:=r.length;have e2:=r2.length;by_cases hl:xs.length=ys.length
  ·refine SeqAt.RcNeAt.lists (e:=λ j=>eqV (xs.getD j .non) (ys.getD j .non)) p.isList p2.isList (by simp only [av];lia) hu (λ j h1 h2=>?_) _ _ _ _ ?_
   ·exact ZZ (Vals.getD (by simpa using h1) r) (Vals.getD (by simpa using h2) r2) (xl fx j) (xl fy j)
   ·rw [av,<- e1,wD hl];exact fin
  ·rw [wC hl] at fin;exact SeqAt.RcNeAt.lists_lengths p.isList p2.isList (by simp only [av];simp;lia) hu _ _ _ _ fin
 ·obtain ⟨oo,r,p,_⟩:=I.tuple h1;obtain ⟨its2,r2,p2,_⟩:=I.tuple h2;have e1:=r.length;have e2:=r2.length;refine SeqAt.RcNeAt.tuples (e:=λ j=>eqV (xs.getD j .non) (ys.getD j .non)) p p2 hu (λ j h1 h2=>?_) _ _ _ _ ?_
  ·exact ZZ (Vals.getD (by simpa using h1) r) (Vals.getD (by simpa using h2) r2) (xl fx j) (xl fy j)
  ·by_cases hl:xs.length=ys.length
   ·have em:min oo.toArray.size its2.toArray.size=xs.length:=by simp only [av];lia
    have es:(oo.toArray.size == its2.toArray.size)=true:=by simp only [av];rw [bD];lia
    rw [em,es,wD hl,fC];exact fin
   ·have es:(oo.toArray.size == its2.toArray.size)=false:=by simp only [av];rw [aW];lia
    rw [es,cB];rw [wC hl] at fin;exact fin
inductive DE (K:A0) (H:Hp):Nat->V->V->Bool->Prop
 | flat {n:Nat} {x y:V}:xk x=true->xk y=true->DE K H n x y (eqV x y)
 | same {n:Nat} {p:Addr}:DE K H n (.ref p) (.ref p) true
 | lists {n:Nat} {p q:Addr} {xs ys:Ap} {e:Nat->Bool}:p≠q->SqL K H p xs->SqL K H q ys->xs.length=ys.length->(∀ j x y,xs[j]?=some x->ys[j]?=some y->DE K H n x y (e j))->DE K H (n + 1) (.ref p) (.ref q) ((List.range xs.length).all e)
 | listsL {n:Nat} {p q:Addr} {xs ys:Ap}:p≠q->SqL K H p xs->SqL K H q ys->xs.length≠ys.length->DE K H (n + 1) (.ref p) (.ref q) false
 | tuples {n:Nat} {p q:Addr} {xs ys:Ap} {e:Nat->Bool}:p≠q->SqT K H p xs->SqT K H q ys->(∀ j x y,xs[j]?=some x->ys[j]?=some y->DE K H n x y (e j))->DE K H (n + 1) (.ref p) (.ref q) ((List.range (min xs.length ys.length)).all e && xs.length == ys.length)
 | nt {n:Nat} {p:Addr} {xs:Ap}:SqT K H p xs->DE K H n .non (.ref p) false
 | tn {n:Nat} {p:Addr} {xs:Ap}:SqT K H p xs->DE K H n (.ref p) .non false
def Vals.at_ {xs:Ap} {us:A7} (r:Vals xs us) {j:Nat} (h:j < us.toArray.size):∃ x,xs[j]?=some x/\RelV x us.toArray[j]:=by
 have h':j < us.length:=by simpa using h
 have hl:j < xs.length:=by rw [r.length];exact h'
 obtain ⟨u,hu,ru⟩:=r.get (ac hl);have e:us.toArray[j]=u:=by
  have:=aa.mp hu;obtain ⟨_,e⟩:=this;simpa using e
 exact ⟨xs[j],ac hl,e ▸ ru⟩
def zdl {σ:St} {n:Nat} {x y:V} {b:Bool} (I:Inv X o6 σ H s) (h:DE X.K H n x y b):∀ {u v:Am} {A:Ao},RelV x u->RelV y v->A.units + n < cLine->SeqAt.EqAt A s u v b:=by
 induction h with
 | flat fx fy=>intro u v A rx ry _;exact ZZ rx ry fx fy
 | same=>intro u v A rx ry _;cases rx;cases ry;exact dR _
 | lists hne h1 h2 hl _ ih =>
  intro u v A rx ry hu;cases rx;cases ry;obtain ⟨oo,r,p,_⟩:=I.list h1;obtain ⟨its2,r2,p2,_⟩:=I.list h2;have e1:=r.length;have e2:=r2.length;refine cG hne ?_;have:=fq (A:=A) (s:=s) p.isList p2.isList (by simp only [av];lia) (by lia) (λ j h1 h2=>by
   obtain ⟨x,hx,rx⟩:=r.at_ h1;obtain ⟨y,hy,ry⟩:=r2.at_ h2;exact ih j x y hx hy rx ry (by show A.units + 1 + _ < _;lia))
  rw [av,<- e1] at this;exact this
 | listsL hne h1 h2 hl =>
  intro u v A rx ry hu;cases rx;cases ry;obtain ⟨oo,r,p,_⟩:=I.list h1;obtain ⟨its2,r2,p2,_⟩:=I.list h2;have e1:=r.length;have e2:=r2.length;exact cG hne (gH p.isList p2.isList (by simp only [av];simp;lia) (by lia))
 | tuples hne h1 h2 _ ih =>
  intro u v A rx ry hu;cases rx;cases ry;obtain ⟨oo,r,p,_⟩:=I.tuple h1;obtain ⟨its2,r2,p2,_⟩:=I.tuple h2;have e1:=r.length;have e2:=r2.length;refine cG hne ?_;have:=cO (A:=A) (s:=s) p p2 (by lia) (λ j h1 h2=>by
   obtain ⟨x,hx,rx⟩:=r.at_ h1;obtain ⟨y,hy,ry⟩:=r2.at_ h2;exact ih j x y hx hy rx ry (by show A.units + 1 + _ < _;lia))
  simp only [av,<- e1,<- e2] at this;exact this
 | nt h1 =>
  intro u v A rx ry hu;cases rx;cases ry;obtain ⟨oo,r,p,_⟩:=I.tuple h1;exact SeqAt.EqAt.none_tuple p (by lia)
 | tn h1 =>
  intro u v A rx ry hu;cases rx;cases ry;obtain ⟨oo,r,p,_⟩:=I.tuple h1;exact SeqAt.EqAt.tuple_none p (by lia)
def zgL (K:A0) (neg:Bool):R2:=λ x y H Q=>∃ p q xs ys n e,x=.ref p/\y=.ref q/\n<=8/\(∀ j x y,xs[j]?=some x->ys[j]?=some y->DE K H n x y (e j)) /\
 ((SqL K H p xs/\SqL K H q ys/\xs.length=ys.length/\Q (.bl (if neg then !((List.range xs.length).all e) else (List.range xs.length).all e)) H) \/
   (SqT K H p xs/\SqT K H q ys/\Q (.bl (if neg then !((List.range (min xs.length ys.length)).all e && xs.length == ys.length) else ((List.range (min xs.length ys.length)).all e && xs.length == ys.length))) H))
def zcg (hu:X.A.units + 100 < cLine):OpR X (compareOp .Eq) (zgL X.K false):=by
 intro o6 s σ H x y v u Q I rx ry h;obtain ⟨p,q,xs,ys,n,e,rfl,rfl,hn,hde,h⟩:=h;cases rx;cases ry;rcases h with ⟨h1,h2,hl,q⟩|⟨h1,h2,q⟩
 ·obtain ⟨oo,r,p,_⟩:=I.list h1;obtain ⟨its2,r2,p2,_⟩:=I.list h2;have e1:=r.length;have e2:=r2.length;refine fq (e:=e) p.isList p2.isList (by simp only [av];lia) (by lia) (λ j h1 h2=>?_) _ _ _ _ ?_
  ·obtain ⟨x,hx,rx⟩:=r.at_ h1;obtain ⟨y,hy,ry⟩:=r2.at_ h2;exact zdl I (hde j x y hx hy) rx ry (by show X.A.units + 1 + _ < _;lia)
  ·rw [av,<- e1];exact ⟨.bl _,H,I,rfl,q⟩
 ·obtain ⟨oo,r,p,_⟩:=I.tuple h1;obtain ⟨its2,r2,p2,_⟩:=I.tuple h2;have e1:=r.length;have e2:=r2.length;refine cO (e:=e) p p2 (by lia) (λ j h1 h2=>?_) _ _ _ _ ?_
  ·obtain ⟨x,hx,rx⟩:=r.at_ h1;obtain ⟨y,hy,ry⟩:=r2.at_ h2;exact zdl I (hde j x y hx hy) rx ry (by show X.A.units + 1 + _ < _;lia)
  ·simp only [av,<- e1,<- e2];exact ⟨.bl _,H,I,rfl,q⟩
def zcf (hu:X.A.units + 100 < cLine):OpR X (compareOp .NotEq) (zgL X.K true):=by
 intro o6 s σ H x y v u Q I rx ry h;obtain ⟨p,q,xs,ys,n,e,rfl,rfl,hn,hde,h⟩:=h;cases rx;cases ry;rcases h with ⟨h1,h2,hl,q⟩|⟨h1,h2,q⟩
 ·obtain ⟨oo,r,p,_⟩:=I.list h1;obtain ⟨its2,r2,p2,_⟩:=I.list h2;have e1:=r.length;have e2:=r2.length;refine SeqAt.RcNeAt.lists (e:=e) p.isList p2.isList (by simp only [av];lia) (by lia) (λ j h1 h2=>?_) _ _ _ _ ?_
  ·obtain ⟨x,hx,rx⟩:=r.at_ h1;obtain ⟨y,hy,ry⟩:=r2.at_ h2;exact zdl I (hde j x y hx hy) rx ry (by show X.A.units + 1 + _ < _;lia)
  ·rw [av,<- e1];exact ⟨.bl _,H,I,rfl,q⟩
 ·obtain ⟨oo,r,p,_⟩:=I.tuple h1;obtain ⟨its2,r2,p2,_⟩:=I.tuple h2;have e1:=r.length;have e2:=r2.length;refine SeqAt.RcNeAt.tuples (e:=e) p p2 (by lia) (λ j h1 h2=>?_) _ _ _ _ ?_
  ·obtain ⟨x,hx,rx⟩:=r.at_ h1;obtain ⟨y,hy,ry⟩:=r2.at_ h2;exact zdl I (hde j x y hx hy) rx ry (by show X.A.units + 1 + _ < _;lia)
  ·simp only [av,<- e1,<- e2];exact ⟨.bl _,H,I,rfl,q⟩
def zaJ (K:A0):R2:=λ x y H Q=>match x,y with
 | .int i,.int j=>Q (.bl (decide (i=j))) H
 | .str i,.str j=>Q (.bl (decide (i=j))) H
 | .bl i,.bl j=>Q (.bl (decide (i=j))) H
 | x,y=>rEq x y H Q\/zgK K false x y H Q\/zgL K false x y H Q
def VH (K:A0):R2:=λ x y H Q=>match x,y with
 | .int i,.int j=>Q (.bl (!decide (i=j))) H
 | .str i,.str j=>Q (.bl (!decide (i=j))) H
 | .bl i,.bl j=>Q (.bl (!decide (i=j))) H
 | x,y=>rNe x y H Q\/zgK K true x y H Q\/zgL K true x y H Q
def zdW (K:A0):R2:=λ x y H Q=>match x,y with
 | .int i,.int j=>if i=j then Q (.bl true) H else Q (.bl false) H
 | .str i,.str j=>if i=j then Q (.bl true) H else Q (.bl false) H
 | .bl i,.bl j=>if i=j then Q (.bl true) H else Q (.bl false) H
 | x,y=>zaJ K x y H Q
def zdU (K:A0):R2:=λ x y H Q=>match x,y with
 | .int i,.int j=>if ¬ i=j then Q (.bl true) H else Q (.bl false) H
 | .str i,.str j=>if ¬ i=j then Q (.bl true) H else Q (.bl false) H
 | .bl i,.bl j=>if ¬ i=j then Q (.bl true) H else Q (.bl false) H
 | x,y=>VH K x y H Q
def zfw (hu:X.A.units + 100 < cLine):OpR X (compareOp .Eq) (zaJ X.K):=(op_eq.or ((zd9 (by lia)).or (zcg hu))).wk λ x y H Q h=>by
 unfold zaJ at h
 split at h <;> first|exact h|exact .inl ⟨rfl,by simpa using h⟩
def zjo (hu:X.A.units + 100 < cLine):OpR X (compareOp .NotEq) (VH X.K):=(op_ne.or ((zd6 (by lia)).or (zcf hu))).wk λ x y H Q h=>by
 unfold VH at h
 split at h <;> first|exact h|exact .inl ⟨rfl,by simpa using h⟩
def qx (hu:X.A.units + 100 < cLine):OpR X (compareOp .Eq) (zdW X.K):=(zfw hu).wk λ x y H Q h=>by
 unfold zdW at h
 split at h <;> first|exact h|exact zcr (Q:=Q) h
def ZD (hu:X.A.units + 100 < cLine):OpR X (compareOp .NotEq) (zdU X.K):=(zjo hu).wk λ x y H Q h=>by
 unfold zdU at h
 split at h <;> first|exact h|exact zc9 (Q:=Q) h
def Room.units1 {k:Nat} {A:Ao} (r:Room k A):A.units + 100 < cLine:=by have:=r.un;lia
noncomputable def ziK:V->Option Value
 | .ty n=>some (.type n)
 | .ref a=>some (.ref a)
 | _=>none
def z9:bootBuiltins "len"=some (.builtin "len"):=by decide +kernel
def qz:bootBuiltins "isinstance"=some (.builtin "isinstance"):=by decide +kernel
def ziO:bootBuiltins "max"=some (.builtin "max"):=by decide +kernel
def ziQ:bootBuiltins "all"=some (.builtin "all"):=by decide +kernel
def zeE:bootBuiltins "sorted"=some (.builtin "sorted"):=by decide +kernel
def ziN:bootBuiltins "str"=some (.type "str"):=by decide +kernel
def ziP:bootBuiltins "int"=some (.type "int"):=by decide +kernel
def vA:bootBuiltins "list"=some (.type "list"):=by decide +kernel
def Zg:bootBuiltins "tuple"=some (.type "tuple"):=by decide +kernel
def Jh:kitOne K (.type "int") (.type "int")=some true:=by rfl
def Qp:kitOne K (.type "int") (.type "bool")=some false:=by rfl
def ZF:kitOne K (.type "bool") (.type "bool")=some true:=by rfl
def Jg:kitOne K (.type "str") (.type "str")=some true:=by rfl
def zbf:kitOne K (.type "tuple") (.type "tuple")=some true:=by rfl
def ziC:IxR X (rIx X.K):=ziB
def qa:CallR X (.builtin "len") (λ xs H Q=>lq xs λ x=>∃ n,zjJ X.K x H n/\Q (.int n) H):=λ o6 s σ H xs us Q I r h=>let ⟨x,e,n,h⟩:=zfF h;zgb o6 s σ H xs us Q I r ⟨x,n,e,h⟩
def zfE {xs:Ap} {P:Int->Prop} (h:lq xs λ v=>iq v P):∃ i,xs=[.int i]/\P i:=by
 obtain ⟨v,rfl,h⟩:=zfF h;obtain ⟨i,rfl,h⟩:=Qr h;exact ⟨i,rfl,h⟩
end
abbrev bmV:List Value:=[.type "ValueError",.type "Exception",.type "BaseException",.type "object"]
structure XC (K:A0) (C:Addr):Prop where
 q:excIn K C bmV "ValueError.__new__"=true
def zhL {C:Addr} {h₀:Heap} (X:K.In h₀) (x:XC K C):∃ bm N nm q bs hdct sn sub ab col dd k0 k1 k2 k3 k5 mN,h₀.get? C=some (excClassObj nm q C N bs bm hdct sn sub ab col dd k0 k1 k2 k3 k5 "ValueError.__new__")/\h₀.Ns N mN/\mN "__init__"=none/\OwnTail h₀ bmV bm:=by
 have q:=x.q;unfold excIn at q
 split at q
 ·rename_i dd cd sl ho
  split at q
  ·rename_i C' bm k0 k1 k2 k3 n k5 hm hs;simp only [b9,bD,Bool.not_eq_true'] at q;obtain ⟨⟨⟨⟨⟨rfl,rfl⟩,hdel⟩,ht⟩,hok⟩,hni⟩:=q;obtain ⟨nm,bs,mro,ns,qn,hd,sn,sub,ab,col,del⟩:=cd;dsimp only at hm hdel hok hni;subst hm hdel;have hsl:sl=#[k0,k1,k2,k3,some (.builtin "ValueError.__new__"),k5]:=by
    obtain ⟨l⟩:=sl;simp only at hs;rw [hs]
   subst hsl;exact ⟨bm,ns,nm,qn,bs,hd,sn,sub,ab,col,dd,k0,k1,k2,k3,k5,_,X _ _ ho,.of_isNs (PySem.W.isNs_of_in X hok),PySem.W.nsMap_none_of_in X hok hni,PySem.W.tail_of_in X ht⟩
  ·cases q
 ·cases q
section
variable {X:Cx} {G:GK} {x n:Str} {np cpos pos hpos:Pos} {e₀:Expr} {es:List Expr} {t:TA}
def tRaise (X:Cx) (x:Str) (G:GK) (t:TA):TS:=λ _ σ H=>∃ C,X.mg x=some (.ref C)/\XC X.K C/\t σ H λ vs H1=>szl vs (G (.ref C) σ H1)
def jm (B:Bod X) (hc:X.calm=true) (ha:PA (X.exg G) (e₀ :: es) t) (hg:Gl X x:=by rfl) (hdb:(x == ("__debug__":Str))=false:=by decide)
  (he:starEach (e₀ :: es) X.env=(false,eval e₀ X.env) :: starEach es X.env:=by rfl) (hpl:(backTo cpos (starEach es X.env)).any (·.1)=false:=by rfl) :
  PS (X.exg G) (.Raise (some (.Call (.Name x np) (e₀ :: es) [] cpos)) none pos) (tRaise X x G t):=by
 intro o6 s σ H D I h;obtain ⟨C,hm,xc,h⟩:=h;obtain ⟨tl,N,nm,q,bs,hdct,sn,sub,ab,col,dd,k0,k1,k2,k3,k5,mN,hC,hN,hni,T⟩:=zhL I.ok.mod.kin xc;refine wpAny_Raise_call_subT (C:=C) (nm:=nm) (q:=q) (N:=N) (bs:=bs) (bm:=tl) (hdct:=hdct) (sn:=sn) (sub:=sub) (ab:=ab) (col:=col) (dd:=dd) (k0:=k0) (k1:=k1) (k2:=k2) (k3:=k3) (k5:=k5)
  F.excBase_ValueError (mN:=mN) (T.hasType F.excBase_ValueError.hasBase) (I.ok.hd hc) (by rw [he];show (false || (backTo cpos (starEach es X.env)).any (·.1))=false;rw [hpl];rfl) hni (jS I hg hm ⟨rfl,?_⟩ hdb)
 have hA:=ha cpos o6 s σ H _ I h;rw [he] at hA ⊢;refine Calls.evalArgs_plain (thn hA λ us s2 ⟨vs,H2,I2,r,g⟩=>?_);obtain ⟨hl,g⟩:=zbN g;exact ⟨rfl,by rw [<- r.length];exact hl,I2.bk _ _ hC,hN.keeps I2.bk,T.keeps I2.bk,λ h' a hm=>zbH B I2.unwish hm g⟩
end
noncomputable def zjC (a:Addr) (cls:Am):HO:=.ext λ h=>∃ o vs,h.get? a=some o/\o.cls=cls/\o.dict=none/\o.data=.fields vs
def Exc.obj {g h:Heap} {pn:A2} {a:Addr} (x:Exc g h H pn a cls):∃ o vs,h.get? a=some o/\o.cls=cls/\o.dict=none/\o.data=.fields vs:=by
 obtain ⟨oe,vs,_,_,_,h1,h2,h3,h4,_⟩:=x.ex;exact ⟨oe,vs,h1,h2,h3,h4⟩
section
variable {X:Cx} {o6:A2} {σ:St} {H:Hp} {s:An}
def ZY {M:Model} {A:Ao} {E:A3} {a:Addr} {Q:Ag} (I:Inv X o6 σ H s) (x:Exc X.s₀.heap s.heap H (X.pn ++ o6) a cls)
  (hQ:∀ s',Inv X o6 σ H s'->Exc X.s₀.heap s'.heap H (X.pn ++ o6) a cls->Q () s'):wpAny M A (setFlight (.ref a) none) Q E s:=by
 obtain ⟨⟨oe,vs,T,oT,ts,h1,h2,h3,h4,h5,h6,h7,h8,h9,h10,h11,h12⟩,ga,Ha,pa⟩:=x;have h3s:3 < ts.size:=(bw.mp h9).1;refine wpAny_setFlight_none h1 h4 h5 h7 h8 h3s ?_;have hT:=bO (Obj.mapFields (·.setIfInBounds 3 Value.none)) h7 (b8 (bu h8 _));have other:∀ b,b≠T->(s.heap.update T (Obj.mapFields (·.setIfInBounds 3 Value.none))).get? b=s.heap.get? b:=λ b hb=>be _ _ (a7 hb);refine hQ _ (I.stepx (ch:=[T]) (λ b hb=>?_) (λ b hb=>?_) (λ b o _ hc q=>(other b (λ z=>hc (by simp [z]))).trans q) (λ b o hc q=>⟨o.slots,(other b (λ z=>hc (by simp [z]))).trans q⟩) λ b hb=>?_)
  ⟨⟨oe,vs,T,_,_,(other a (a7 h6)).trans h1,h2,h3,h4,h5,h6,hT,bu h8 _,by simp [h3s],h10,h11,h12⟩,ga,Ha,pa⟩
 ·obtain rfl:b=T:=by simpa using hb
  exact ⟨h10,h11,h12⟩
 ·obtain rfl:b=T:=by simpa using hb
  exact ⟨oT,ts,h7,h8⟩
 ·obtain rfl:b=T:=by simpa using hb
  exact ⟨_,hT⟩
end
noncomputable abbrev Cx.suite (X:Cx) (pn:A2) (a:Addr):Cx:={ X with pn:=pn,A:=X.A.mark (some (.ref a)),calm:=false,xe:=λ _ _=>False }
noncomputable abbrev Cx.pinned (X:Cx) (pn:A2):Cx:={ X with pn:=pn }
section
variable {X:Cx} {o6:A2} {σ:St} {H:Hp} {s:An}
def Inv.topn (I:Inv X o6 σ H s):Inv (X.pinned (X.pn ++ o6)) [] σ H s :=
 ⟨⟨I.ok.mod,I.ok.kind,I.ok.glob,I.ok.blt,I.ok.above,I.ok.inj,I.ok.has,I.ok.cab,I.ok.hd,I.ok.frames,I.ok.stk,I.ok.exf,I.ok.bs,I.ok.bsz,I.ok.noex,I.ok.exfs,I.ok.funs,I.ok.frf⟩,
  I.os,I.bare,I.base,I.loc,I.cell,I.free,I.freeC,λ p hp=>I.pin p (by rwa [bT] at hp),I.hok,I.len⟩
def Inv.ofpn (I:Inv (X.pinned (X.pn ++ o6)) [] σ H s):Inv X o6 σ H s :=
 ⟨⟨I.ok.mod,I.ok.kind,I.ok.glob,I.ok.blt,I.ok.above,I.ok.inj,I.ok.has,I.ok.cab,I.ok.hd,I.ok.frames,I.ok.stk,I.ok.exf,I.ok.bs,I.ok.bsz,I.ok.noex,I.ok.exfs,I.ok.funs,I.ok.frf⟩,
  I.os,I.bare,I.base,I.loc,I.cell,I.free,I.freeC,λ p hp=>I.pin p (by rw [bT];exact hp),I.hok,I.len⟩
def Inv.tosuite {pn:A2} {a:Addr} (I:Inv (X.pinned pn) [] σ H s):Inv (X.suite pn a) [] σ H s :=
 ⟨⟨I.ok.mod,I.ok.kind,I.ok.glob,I.ok.blt,I.ok.above,I.ok.inj,I.ok.has,I.ok.cab,λ h=>Bool.noConfusion h,I.ok.frames,I.ok.stk,I.ok.exf,I.ok.bs,I.ok.bsz,I.ok.noex,I.ok.exfs,I.ok.funs,I.ok.frf⟩,
  I.os,I.bare,I.base,I.loc,I.cell,I.free,I.freeC,I.pin,I.hok,I.len⟩
def Inv.ofsuite {pn:A2} {a:Addr} (hd:X.calm=true->X.A.handled=none) (I:Inv (X.suite pn a) [] σ H s):Inv (X.pinned pn) [] σ H s :=
 ⟨⟨I.ok.mod,I.ok.kind,I.ok.glob,I.ok.blt,I.ok.above,I.ok.inj,I.ok.has,I.ok.cab,hd,I.ok.frames,I.ok.stk,I.ok.exf,I.ok.bs,I.ok.bsz,I.ok.noex,I.ok.exfs,I.ok.funs,I.ok.frf⟩,
  I.os,I.bare,I.base,I.loc,I.cell,I.free,I.freeC,I.pin,I.hok,I.len⟩
end
def wn {M:Model} {A:Ao} {E:A3} {e C D:Addr} {b:Bool} {Q:Bool->Shared->Prop} (X:K.In s.heap) (he:s.heap.get? e=some oe) (hcls:oe.cls=.ref C)
  (k1:kitCls K (.ref C) (.ref D)=some b) (k2:subIn K (.ref D) (.type "BaseException")=some true) (hq:Q b s):wpAny M A (excMatches (.ref e) (.ref D)) Q E s:=by
 obtain ⟨L1,L2,L3⟩:=PySem.W.kit_cls (M:=M) X k1;have L4:=gj (M:=M) X k2;have f:=tc_notTuple;obtain ⟨hp,g,d,tk,os⟩:=s;unfold excMatches
 repeat (first|(with_reducible refine wpAny_loadPart_at he ?_;rw [hcls])|with_reducible refine L1.at ?_|with_reducible refine L2.at ?_|with_reducible refine L3.at ?_|with_reducible refine L4.at ?_|wp_step)
 cases b
 ·wp_walk
  exact hq
 ·wp_walk
  exact hq
section
variable {X:Cx} {G:GK} {x n:Str} {np pos hpos:Pos} {i:Nat} {body suite:List Stmt} {b₀:Stmt} {tb:List (Addr × Obj)->GK->TS} {th:List (Addr × Obj)->Addr->TS}
end
structure FA (K:A0) (mg:A4) (x:Str) (st:Stmt) (ps:A8):Prop where
 ex:∃ f fd,Fun K x x st f fd/\mg x=some (.ref f)/\Binds K fd ps []
def FA.cal {st:Stmt} {k:Nat} (h:FA K mg x st ps) (ok:∀ {f fd},Fun K x x st f fd->FnOk P w K mg base (CXr P w) k f fd ps sp) :
  Cal P w K mg base x k ps [] sp:=by
 obtain ⟨f,fd,F,m,b⟩:=h.ex;exact ⟨f,fd,[],ok F,m,F.kp,b,.nil⟩
def zjB {h:Heap} {st:Stmt} {f:Addr} {oc:Am} {od an:Aa} {osl:Ae} {kV doc pm cdv ct:Am} (X:K.In h) (G:h.Ns mainGlobals mg)
  (a:nsIn K mainGlobals x=some (some (.ref f))) (l:K.lookup f=some ⟨oc,od,.func (fnOf x x (qf st) (z6 st) (zg st) .none kV doc pm an cdv ct),osl⟩)
  (c:codeIn K cdv x=true) (k:keepIn K (.ref f)=true)
  (hb:∀ (kV doc pm:Am) (an:Aa) (cdv ct:Am) (us:A7),us.length=ps.length->bindArgs (fnOf x x (qf st) (z6 st) (zg st) .none kV doc pm an cdv ct) ⟨us,[]⟩=pure (ps.zip us)):FA K mg x st ps :=
 ⟨f,_,vy l c k,b6 X G a,(vy l c k).binds hb⟩
def zeu {e:Am} {s':An} (h:CXr P w [] H s (λ _ _ _=>False) e s'):False:=by
 obtain ⟨_,_,_,_,_,_,_,_,_,z⟩:=h;exact z
end L2
namespace L2
open PySem PySem.Spec PySem.Calls PyProof.Rows
variable {K:A0} {C:Addr} {st:Stmt} {ps:A8}
structure XI (K:A0) (C:Addr):Prop where
 ga:findIn K (.ref C) "__getattribute__"=some (some (.builtin "BaseException.__getattribute__"))
 gt:findIn K (.ref C) "__getattr__"=some none
 cl:findIn K (.ref C) "__class__"=some (some (.builtin "object.__class__"))
 hd:hasDictIn K C=true
 gn:specialIn K (.builtin "object.__class__") "__get__"=some (some (.builtin "getset_descriptor.__get__"))
 tk:takesIn K (.builtin "object.__class__")=some true
 mo:mroIn K C (.type "object")=some true
 mb:subIn K (.ref C) (.type "BaseException")=some true
section
variable {prog:Af} {w:World} {A:Ao} {E:A3} {s:An} {K:A0} {a C:Addr} {o:Obj} {vs:Ac}
def zbo {hp:Heap} (hx:hp.get? a=some o) (hc:o.cls=.ref C) (hd:o.dict=none) (hv:o.data=.fields vs):PySem.W.InstAt hp a o C none:=by
 refine ⟨hx,hc,?_,?_⟩
 ·obtain ⟨c,d,dt,sl⟩:=o;simp only at hv;subst hv
  rfl
 ·rw [hd]
  trivial
def zer {Q:Option Value->Shared->Prop} (X:K.In s.heap) (f:XI K C) (hx:s.heap.get? a=some o) (hc:o.cls=.ref C) (hd:o.dict=none) (hv:o.data=.fields vs)
  (h:Q (some (.ref C)) { s with toks:=s.toks + 1 }):wpAny (model prog w) A (getAttr? (.ref a) "__class__") Q E s:=by
 have I:=zbo hx hc hd hv;have hf:PySem.W.findObj K C none "__class__"=some (.bind (.builtin "getset_descriptor.__get__") (.builtin "object.__class__")):=by
   obtain ⟨cd,hcd,_⟩:=gG f.hd;simp [PySem.W.findObj,hcd,f.cl,f.gn,f.tk]
 obtain ⟨hh,g,d,t,os⟩:=s;have T0:=I.type (M:=model prog w);have T1:=looks_findIn (M:=model prog w) X f.ga;have T2:=PySem.W.looks_find (M:=model prog w) X I hf;have T3:=looks_findIn (M:=model prog w) X f.gt;have T4:=gj (M:=model prog w) X f.mb;have f3:=F.attr_ValueError.ga.bind (.ref a);unfold getAttr? getAttrBy? getAttrBy;refine ai (wpAny_mkText (ai (gD (eu (ai (T0.at (ai (T1.at ?_))))))));dsimp only;have nga:(onTheHeap (Value.ref C) && Value.builtin "BaseException.__getattribute__" == Value.builtin "object.__getattribute__")=false:=by
  have z:(Value.builtin "BaseException.__getattribute__" == Value.builtin "object.__getattribute__")=false:=by decide +kernel
  rw [z,cB]
 rw [nga,ao aC];unfold getAttrByItsOwn
 repeat (any_goals (first|assumption|with_reducible refine T0.at ?_|with_reducible refine T3.at ?_|with_reducible refine T1.at ?_|wp_step))
 refine codeAny_call_builtin F.attr_ValueError.ga.plain F.entry_bexc_ga ?_;have hk:builtinKind "BaseException.__getattribute__"=some .slot:=by decide +kernel
 have hsp:splitId "BaseException.__getattribute__"=some ("BaseException","__getattribute__"):=by decide +kernel
 have hav:=F.args_bexc_ga (.ref a) (Value.str (Str.ofString "__class__") t);simp only [checkBuiltinCall,hk,hsp];refine ai ?_;unfold isInstance
 repeat (first|with_reducible refine T2.at ?_|with_reducible refine T0.at ?_|with_reducible refine T4.at ?_|wp_step)
 refine PySem.W.class_get (s:=⟨hh,g,d,t + 1,os⟩) (ox:=o) (od:=none) X I f.mo ?_;refine aG ?_;refine PySem.W.handed_on rfl ?_;exact aG h
def zfL {vs:Ac} (f:XI K C):PySem.W.KitX K (.ref a) (.ref C) (λ h=>∃ o vs,h.get? a=some o/\o.cls=.ref C/\o.dict=none/\o.data=.fields vs) where
 ty:=λ M h _ ⟨o,vs,e,c,d,v⟩=>(zbo e c d v).type
 it:=λ _ _ X _=>by
  obtain ⟨cd,hcd,_⟩:=gG f.hd;unfold PySem.W.clsIn at hcd
  split at hcd
  ·rename_i c' d' cd' sl' ho;intro A' Q' E' s' k q;unfold isType loadHead;exact ai (wpAny_loadPart (k _ _ (X _ _ ho)) (aG q))
  ·cases hcd
 ne:=λ h tp dd oo n sl X htp=>by
  obtain ⟨cd,hcd,_⟩:=gG f.hd;refine Bool.eq_false_iff.mpr λ q=>?_;have e:C=tp:=Value.ref.inj (bD.mp q);subst e;unfold PySem.W.clsIn at hcd
  split at hcd
  ·rename_i ho;have z:=(X _ _ ho).symm.trans htp;cases z
  ·cases hcd
 ca:=λ X ⟨o,vs,e,c,d,v⟩ k=>zer X f e c d v k
end
inductive TyX (K:A0) (H:Hp):V->Value->Prop where
 | old {x:V} {t:Am} (h:TyOf K H x t):TyX K H x t
 | exc {a C:Addr} (h:H a=some (zjC a (.ref C))) (f:XI K C):TyX K H (.ref a) (.ref C)
noncomputable def zdo:List V->Option A7
 | []=>some []
 | c :: r=>match ziK c,zdo r with
  | some u,some us=>some (u :: us)
  | _,_=>none
def zdp {c:V} {u v:Am} (h:ziK c=some u) (r:RelV c v):v=u:=by
 cases c with
 | ty n=>cases r;exact aI h
 | ref a=>cases r;exact aI h
 | _=>cases h
theorem zbu:∀ {cs:Ap} {us vs:A7},zdo cs=some us->Vals cs vs->vs=us
 | [],_,_,h,.nil=>aI h
 | c :: r,us,v :: vs,h,.cons rc rr=>by
  unfold zdo at h
  split at h
  ·rename_i u us' h1 h2;cases h;rw [zdp h1 rc,zbu h2 rr]
  ·cases h
theorem zis {X:Cx} {o6:A2} {σ:St} {H:Hp} {s:An} {x:V} {u t:Am} (I:Inv X o6 σ H s) (rx:RelV x u) (ty:TyX X.K H x t) :
  ∃ Hx:Heap->Prop,PySem.W.KitX X.K u t Hx/\Hx s.heap/\u≠.builtin "__main__.__loader__#opaque":=by
 cases ty with
 | @exc a C ea f =>
  cases (show u=Value.ref a from rx);obtain ⟨p,_⟩:=(show ObjOk X.prog X.w H s.heap a (zjC a (.ref C)) from I.hok a _ ea);exact ⟨_,zfL (vs:=#[]) f,p,λ z=>nomatch z⟩
 | old ty =>
  cases ty with
  | non=>cases (show u=Value.none from rx);exact ⟨_,PySem.W.kitx_none,True.intro,λ z=>nomatch z⟩
  | bl y=>cases (show u=Value.bool y from rx);exact ⟨_,PySem.W.kitx_bool,True.intro,λ z=>nomatch z⟩
  | int i=>obtain ⟨t,q⟩:=(show ∃ t,u=Value.int i t from rx);cases q;exact ⟨_,PySem.W.kitx_int,True.intro,λ z=>nomatch z⟩
  | str y=>obtain ⟨t,q⟩:=(show ∃ t,u=Value.str y t from rx);cases q;exact ⟨_,PySem.W.kitx_str,True.intro,λ z=>nomatch z⟩
  | flt y=>obtain ⟨t,q⟩:=(show ∃ t,u=Value.float y t from rx);cases q;exact ⟨_,PySem.W.kitx_float,True.intro,λ z=>nomatch z⟩
  | @lst a xs ea =>
   cases (show u=Value.ref a from rx);obtain ⟨_,_,n,_,h1⟩:=(show ObjOk X.prog X.w H s.heap a (.lst xs) from I.hok a _ ea);exact ⟨_,PySem.W.kitx_list,⟨_,h1,rfl⟩,λ z=>nomatch z⟩
  | @frz a ob xs ea =>
   cases (show u=Value.ref a from rx);obtain ⟨_,_,_,n,_,h1⟩:=(show ObjOk X.prog X.w H s.heap a (.frz ob (.lst xs)) from I.hok a _ ea);exact ⟨_,PySem.W.kitx_list,⟨_,h1,rfl⟩,λ z=>nomatch z⟩
  | @tup a xs ea =>
   cases (show u=Value.ref a from rx);obtain ⟨_,_,_,p⟩:=(show ObjOk X.prog X.w H s.heap a (.tup xs) from I.hok a _ ea);obtain ⟨o,h1,h2,_⟩:=p;exact ⟨_,PySem.W.kitx_tuple,⟨o,h1,h2⟩,λ z=>nomatch z⟩
  | @dK a om ea =>
   cases (show u=Value.ref a from rx);obtain ⟨_,_,vs,_,p⟩:=(show ObjOk X.prog X.w H s.heap a (.dK om) from I.hok a _ ea);obtain ⟨o,es,ep,h1,h2,_⟩:=p;exact ⟨_,PySem.W.kitx_dict,⟨o,h1,h2.1⟩,λ z=>nomatch z⟩
  | @dT a om ea =>
   cases (show u=Value.ref a from rx);obtain ⟨_,_,xs,_,o,es,ep,h1,h2,_⟩:=(show ObjOk X.prog X.w H s.heap a (.dT om) from I.hok a _ ea);exact ⟨_,PySem.W.kitx_dict,⟨o,h1,h2.1⟩,λ z=>nomatch z⟩
  | @ins a C dx fs ea cl ha hn htk hm =>
   cases (show u=Value.ref a from rx);obtain ⟨mA,O,_⟩:=JP I.hok ea;obtain ⟨od,J,_⟩:=O.look;exact ⟨_,PySem.W.kitx_own (cl.get _) cl.hd ha hn htk hm,J,λ z=>nomatch z⟩
def zdV (K:A0):List V->Hp->VK->Prop:=λ xs H Q=>∃ x c t b,xs=[x,c]/\TyX K H x t/\((∃ u,ziK c=some u/\kitOne K t u=some b)\/(∃ p cs us,c=.ref p/\H p=some (.tup cs)/\zdo cs=some us/\PySem.W.kitAny K t us=some b))/\Q (.bl b) H
def Zh {X:Cx}:CallR X (.builtin "isinstance") (zdV X.K):=by
 intro o6 s σ H xs us Q I r h;obtain ⟨x,c,t,b,rfl,ty,hc,q⟩:=h;obtain ⟨v,v2,rfl,rx,rc⟩:=r.two;obtain ⟨Hx,Z,p,nx⟩:=zis I rx ty;rcases hc with ⟨u,hu,e⟩|⟨pt,cs,us,rfl,hp,hu,e⟩
 ·obtain rfl:=zdp hu rc;exact PySem.W.kia_one Z I.kIn p e nx λ tk=>⟨.bl b,H,I.tok tk,rfl,q⟩
 ·cases rc;obtain ⟨_,oo,rv,o,h1,h2,n,h3⟩:=(show ObjOk X.prog X.w H s.heap pt (.tup cs) from I.hok pt _ hp);obtain rfl:=zbu hu rv;obtain ⟨cl,dd,dt,sl⟩:=o;simp only at h2 h3;subst h2 h3;exact PySem.W.kia_tup Z I.kIn p h1 e nx λ tk=>⟨.bl b,H,I.tok tk,rfl,q⟩
def zeg {t:Am} {D:Addr} {b:Bool} (h1:hasDictIn K D=true) (h2:typeIn K (.ref D)=some (.type "type")) (h3:subIn K t (.ref D)=some b):kitCls K t (.ref D)=some b:=by
 obtain ⟨cd,hcd,_⟩:=gG h1;simp [kitCls,hcd,h2,h3]
structure FK (K:A0) (C:Addr) (qual:Str) (st:Stmt) (ps:A8):Prop where
 ex:∃ f fd,Fun K "__init__" qual st f fd/\Mk K C f/\Binds K fd ps []
structure FM (K:A0) (C:Addr) (m qual:Str) (st:Stmt) (ps:A8):Prop where
 ex:∃ f fd,Fun K m qual st f fd/\Meth K C m f/\Binds K fd ps []
def FK.cal {P:Af} {w:World} {mg:A4} {base:Heap} {x:Str} {qual:Str} {k:Nat} {sp:Sp} (h:FK K C qual st ps) (gl:mg x=some (.ref C))
  (ok:∀ {f fd},Fun K "__init__" qual st f fd->FnOk P w K mg base (CXr P w) k f fd ps sp):KCal P w K mg base x C k ps [] sp:=by
 obtain ⟨f,fd,F,m,b⟩:=h.ex;exact ⟨gl,f,fd,[],ok F,m,b,.nil⟩
def FM.cal {P:Af} {w:World} {mg:A4} {base:Heap} {m qual:Str} {k:Nat} {sp:Sp} (h:FM K C m qual st ps) (cl:Cls K C)
  (ok:∀ {f fd},Fun K m qual st f fd->FnOk P w K mg base (CXr P w) k f fd ps sp):MCal P w K mg base C m k ps [] sp:=by
 obtain ⟨f,fd,F,mm,b⟩:=h.ex;exact ⟨cl,f,fd,[],ok F,mm,b,.nil⟩
def zjx {qual:Str} {f:Addr} {oc:Am} {od an:Aa} {osl:Ae} {kV doc pm cdv ct:Am} (mk:makesIn K C=true) (kc:keepIn K (.ref C)=true)
  (a:findIn K (.ref C) "__init__"=some (some (.ref f))) (i:isFn K (.ref f)=true) (l:K.lookup f=some ⟨oc,od,.func (fnOf "__init__" qual (qf st) (z6 st) (zg st) .none kV doc pm an cdv ct),osl⟩)
  (c:codeIn K cdv qual=true) (k:keepIn K (.ref f)=true)
  (hb:∀ (kV doc pm:Am) (an:Aa) (cdv ct:Am) (us:A7),us.length=ps.length->bindArgs (fnOf "__init__" qual (qf st) (z6 st) (zg st) .none kV doc pm an cdv ct) ⟨us,[]⟩=pure (ps.zip us)):FK K C qual st ps :=
 ⟨f,_,vy l c k,⟨mk,a,i,kc⟩,(vy l c k).binds hb⟩
def zjw {m qual:Str} {f:Addr} {oc:Am} {od an:Aa} {osl:Ae} {kV doc pm cdv ct:Am}
  (a:findIn K (.ref C) m=some (some (.ref f))) (i:isFn K (.ref f)=true) (l:K.lookup f=some ⟨oc,od,.func (fnOf m qual (qf st) (z6 st) (zg st) .none kV doc pm an cdv ct),osl⟩)
  (c:codeIn K cdv qual=true) (k:keepIn K (.ref f)=true)
  (hb:∀ (kV doc pm:Am) (an:Aa) (cdv ct:Am) (us:A7),us.length=ps.length->bindArgs (fnOf m qual (qf st) (z6 st) (zg st) .none kV doc pm an cdv ct) ⟨us,[]⟩=pure (ps.zip us)):FM K C m qual st ps :=
 ⟨f,_,vy l c k,⟨a,i,k⟩,(vy l c k).binds hb⟩
structure WI (K:A0) (C:Addr):Prop where
 c:findIn K (.ref C) "__class__"=some (some (.builtin "object.__class__"))
 m:mroIn K C (.type "object")=some true
 g:specialIn K (.builtin "object.__class__") "__get__"=some (some (.builtin "getset_descriptor.__get__"))
 t:takesIn K (.builtin "object.__class__")=some true
def WI.ty {H:Hp} {a C dx:Addr} {fs:Ar} (f:WI K C) (cl:Cls K C) (h:H a=some (.ins C dx fs)):TyX K H (.ref a) (.ref C):=.old (.ins h cl f.c f.g f.t f.m)
section
variable {prog:Af} {w:World} {A:Ao} {E:A3} {s:An}
end
section
variable {X:Cx} {a e:Expr} {ta:TA} {te:TE} {pos p kp:Pos}
def jg:SlR X (zh3 X.K):=zgC
def Zv:CallR X (.type "list") (λ xs H Q=>∃ p ys,xs=[.ref p]/\(SqL X.K H p ys\/SqT X.K H p ys)/\∀ l,H l=none->Q (.ref l) (upd H l (.lst ys))):=V6
end
section
variable {X:Cx} {v v1 v2:Expr} {es:List Expr} {te:TE} {pos p:Pos}
def ziL:CallR X (.type "str") (λ xs H Q=>lq xs λ v=>iq v λ i=>i.natAbs.log2 < 1920/\Q (.str (toString i)) H):=λ o6 s σ H xs us Q I r h=>V5 o6 s σ H xs us Q I r (zfE h)
def zi5 (t u:TS):TS:=λ D σ H=>∃ M:St->Hp->Prop,t { D with nx:=M } σ H/\∀ σ' H',M σ' H'->u D σ' H'
def qG {st:Stmt} {rest:List Stmt} {t u:TS} (h1:PS X st t) (h2:PSs X rest u):PSs X (st :: rest) (zi5 t u):=by
 intro o6 s σ H D I ⟨M,ht,hu⟩;refine fj (thn (h1 o6 s σ H _ I ht) λ f s1 q=>?_);cases f with
 | next=>exact let ⟨σ',H',I',q⟩:=q;h2 o6 s1 σ' H' D I' (hu σ' H' q)
 | _=>exact q
def zhx (t u:TS):TS:=λ D σ H=>tSeq t u D σ H
def zi {st:Stmt} {rest:List Stmt} {t u:TS} (h1:PS X st t) (h2:PSs X rest u):PSs X (st :: rest) (zhx t u):=show PSs X (st :: rest) (tSeq t u) from zh h1 h2
structure Nx (N:St->Hp->Prop) (u:TS) (D:Ends):Prop where
 h:∀ σ H,u D σ H->N σ H
def nxt {t u:TS} {D:Ends} {σ:St} {H:Hp} (k:∀ N,Nx N u D->t { D with nx:=N } σ H):zhx t u D σ H:=k (u D) ⟨λ _ _ h=>h⟩
def useN {N:St->Hp->Prop} {u:TS} {D:Ends} {σ:St} {H:Hp} (n:Nx N u D) (q:u D σ H):N σ H:=n.h σ H q
def cut {t u:TS} {D:Ends} {σ:St} {H:Hp} (M:St->Hp->Prop) (h1:t { D with nx:=M } σ H) (h2:∀ σ' H',M σ' H'->u D σ' H'):zi5 t u D σ H:=⟨M,h1,h2⟩
end
section
variable {X:Cx} {k:Nat} {x m:Str} {p pos apos:Pos} {e o:Expr} {es:List Expr} {ta:TE} {t:TA}
def passF:zcK (CXr X.prog X.w) X (λ _ _ _=>False):=λ _ _ _ _ _ _ _ h=>let ⟨_,_,_,_,_,_,_,_,_,z⟩:=h;z.elim
def tClN (X:Cx) (k:Nat) (x:Str) (t:TA):TE:=λ σ H Q=>∃ ps dvs sp,Cal X.prog X.w X.K X.mg X.base x k ps dvs sp/\t σ H λ vs H1=>sp (vs ++ dvs) H1 Q (λ _ _ _=>False)
def ZU (hr:Room k X.A) (ha:PA X (e :: es) t) (hg:Gl X x:=by rfl) (hdb:(x == ("__debug__":Str))=false:=by decide)
  (he:starEach (e :: es) X.env=(false,eval e X.env) :: starEach es X.env:=by rfl) (hpl:(backTo pos (starEach es X.env)).any (·.1)=false:=by rfl) :
  PE X (.Call (.Name x p) (e :: es) [] pos) (tClN X k x t):=by
 intro o6 s σ H Q I h;obtain ⟨ps,dvs,sp,⟨f,fd,ds,F,hm,hk,hb,hd⟩,h⟩:=h;refine bt (jS I hg hm ?_ hdb);refine dr (h₀:=X.base) I.ok.mod.kin hk (vF (ha pos o6 s σ H _ I h) λ us s1 vs H1 I1 r q=>⟨I1.kIn,?_⟩) he hpl;exact zb2 F hr hb hd passF I1 r q
def tMkN (X:Cx) (k:Nat) (x:Str) (t:TA):TE:=λ σ H Q=>∃ C ps dvs sp,KCal X.prog X.w X.K X.mg X.base x C k ps dvs sp/\t σ H λ vs H1=>∀ y dx,H1 y=none->H1 dx=none->dx≠y ->
 sp (.ref y :: (vs ++ dvs)) (upd (upd H1 dx (.own y)) y (.ins C dx [])) (λ v H2=>v=.non/\Q (.ref y) H2) (λ _ _ _=>False)
def zie (hr:Room (k + 1) X.A) (ha:PA X (e :: es) t) (hg:Gl X x:=by rfl) (hdb:(x == ("__debug__":Str))=false:=by decide)
  (he:starEach (e :: es) X.env=(false,eval e X.env) :: starEach es X.env:=by rfl) (hpl:(backTo pos (starEach es X.env)).any (·.1)=false:=by rfl) :
  PE X (.Call (.Name x p) (e :: es) [] pos) (tMkN X k x t):=by
 intro o6 s σ H Q I h;obtain ⟨C,ps,dvs,sp,⟨hm,f,fd,ds,F,M,hb,hd⟩,h⟩:=h;refine bt (jS I hg hm ?_ hdb);refine dr (h₀:=X.base) I.ok.mod.kin M.kp (vF (ha pos o6 s σ H _ I h) λ us s1 vs H1 I1 r q=>⟨I1.kIn,?_⟩) he hpl;exact ze8 M F hr hb hd passF I1 r q
def tMthN (X:Cx) (k:Nat) (m:Str) (ta:TE) (t:TA):TE:=λ σ H Q=>ta σ H λ y H1=>∃ a C dx fs ps dvs sp,y=.ref a/\H1 a=some (.ins C dx fs)/\fs.lookup m=none /\
 MCal X.prog X.w X.K X.mg X.base C m k ps dvs sp/\t σ H1 λ vs H2=>sp (.ref a :: (vs ++ dvs)) H2 Q (λ _ _ _=>False)
def zgU {pl:Sem Bool} (hr:Room k X.A) (he:PE X o ta) (ha:PA X (e :: es) t)
  (hst:starEach (e :: es) X.env=(false,eval e X.env) :: starEach es X.env:=by rfl) (hpl:(backTo pos (starEach es X.env)).any (·.1)=false:=by rfl)
  (ht:eval (.Call (.Attribute o m apos) (e :: es) [] pos) X.env=(do
   let ov <- eval o X.env
   standAt apos.atName
   let (f,first) <- holding [ov] (getMethod ov m pl)
   callWith pos f first (backTo pos (starEach (e :: es) X.env)) (backToKw pos (keywordEach [] X.env))):=by rfl) :
  PE X (.Call (.Attribute o m apos) (e :: es) [] pos) (tMthN X k m ta t):=by
 intro o6 s σ H Q I h;refine dI (pl:=pl) (thn (he o6 s σ H _ I h) λ u s1 hz=>?_) ht;obtain ⟨x,H1,I1,rx,a,C,dx,fs,ps,dvs,sp,ex,ea,l,⟨c,f,fd,ds,F,hm,hb,hd⟩,q⟩:=hz;subst ex;obtain rfl:u=Value.ref a:=rx;refine vx I1 ea c hm l ?_;refine dr (first:=[.ref a]) (h₀:=X.base) I.ok.mod.kin hm.kp (vF (ha pos o6 s1 σ H1 _ I1 q) λ us s2 vs H2 I2 r q2=>⟨I2.kIn,?_⟩) hst hpl;exact zb2 (us:=.ref a :: us) (vs:=.ref a :: vs) F hr hb hd passF I2 (.cons rfl r) q2
def zfo {pl:Sem Bool} (hr:Room k X.A) (he:PE X o ta)
  (ht:eval (.Call (.Attribute o m apos) [] [] pos) X.env=(do
   let ov <- eval o X.env
   standAt apos.atName
   let (f,first) <- holding [ov] (getMethod ov m pl)
   callWith pos f first (backTo pos (starEach [] X.env)) (backToKw pos (keywordEach [] X.env))):=by rfl) :
  PE X (.Call (.Attribute o m apos) [] [] pos) (tMthN X k m ta tNil):=by
 intro o6 s σ H Q I h;refine dI (pl:=pl) (thn (he o6 s σ H _ I h) λ u s1 hz=>?_) ht;obtain ⟨x,H1,I1,rx,a,C,dx,fs,ps,dvs,sp,ex,ea,l,⟨c,f,fd,ds,F,hm,hb,hd⟩,q⟩:=hz;subst ex;obtain rfl:u=Value.ref a:=rx;refine vx I1 ea c hm l ?_;exact gk (first:=[.ref a]) I1.kIn hm.kp (zb2 (us:=[.ref a]) (vs:=[.ref a]) F hr hb hd passF I1 (.cons rfl .nil) q)
end
noncomputable def jr (cells:List (Str × Addr)):List (Str × NameKind)->List (Str × Addr)->List (Str × Addr)
 | [],cs=>cs
 | (n,k) :: r,cs=>if k=.free then jr cells r ((n,(cells.lookup n).getD 0) :: cs) else jr cells r cs
def zew (cells:List (Str × Addr)) (ns:List (Str × NameKind)):Prop:=∀ y∈ns,y.2=.free->∃ c,cells.lookup y.1=some c
def ZJ {scope:Scope} {env:Env} (h:zew env.cells scope.names):closureFor scope env=pure (jr env.cells scope.names []):=by
 simp only [closureFor];have key:∀ (ns:List (Str × NameKind)) (cs:List (Str × Addr)),zew env.cells ns ->
   (forIn ns cs λ x r=>if (x.2 == NameKind.free)=true then do let c <- cellOf env x.1;pure (ForInStep.yield ((x.1,c) :: r)) else pure (ForInStep.yield r):Sem (List (Str × Addr)))=pure (jr env.cells ns cs):=by
  intro ns
  induction ns with
  | nil=>intro cs _;rfl
  | cons y r ih =>
   intro cs hc;obtain ⟨n,k⟩:=y;have hr:zew env.cells r:=λ z hz=>hc z (aD _ hz);rw [fR];by_cases hk:k=.free
   ·subst hk;obtain ⟨c,e⟩:=hc (n,.free) aY rfl;have e':cellOf env n=pure c:=by unfold cellOf;simp only at e;rw [e]
    simp only [beq_self_eq_true,dL,e',pure_bind];rw [ih _ hr];simp only at e;simp [jr,e]
   ·have hb:(k == NameKind.free)=false:=by simpa using hk
    simp only [hb,c7,cx,pure_bind];rw [ih _ hr];simp [jr,hk]
 have:=key scope.names [] h
 first
  | exact this
  | (simp only [bind_pure] at *;exact this)
theorem Z1 {cells:List (Str × Addr)} {x:Str} {c:Addr}:∀ {ns:List (Str × NameKind)} {cs:List (Str × Addr)},zew cells ns->(∀ c,cs.lookup x=some c->cells.lookup x=some c)->(jr cells ns cs).lookup x=some c->cells.lookup x=some c
 | [],_,_,hs,h=>hs c h
 | (n,k) :: r,cs,hc,hs,h=>by
  have hr:zew cells r:=λ z hz=>hc z (aD _ hz);unfold jr at h
  split at h
  ·rename_i hk;obtain ⟨d,e⟩:=hc (n,k) aY hk;refine Z1 hr (λ c' hc'=>?_) h;rw [cE] at hc'
   split at hc'
   ·rename_i hx;have hx:x=n:=by simpa using hx
    subst hx;simp only at e;rw [e] at hc' ⊢;exact hc'
   ·exact hs c' hc'
  ·exact Z1 hr hs h
theorem Zd {cells:List (Str × Addr)} {x:Str}:∀ {ns:List (Str × NameKind)} {cs:List (Str × Addr)},(∃ c,cs.lookup x=some c)->∃ c,(jr cells ns cs).lookup x=some c
 | [],_,h=>h
 | (n,k) :: r,cs,h=>by
  unfold jr
  split
  ·refine Zd ?_;rw [cE]
   split
   ·exact ⟨_,rfl⟩
   ·exact h
  ·exact Zd h
theorem Z0 {cells:List (Str × Addr)} {x:Str}:∀ {ns:List (Str × NameKind)} {cs:List (Str × Addr)},(x,NameKind.free)∈ns->∃ c,(jr cells ns cs).lookup x=some c
 | [],_,h=>by simp at h
 | (n,k) :: r,cs,h=>by
  unfold jr;rcases ar.mp h with h|h
  ·cases h;rw [ap rfl];exact Zd ⟨(cells.lookup x).getD 0,by rw [cE];simp⟩
  ·split <;> exact Z0 h
noncomputable def zfc (scope osc:Scope):Scope :=
 { scope with names:=scope.names.map λ (n,k)=>if (k == .free && osc.kind == .function && osc.names.lookup n == some .cell) then (n,.cell) else (n,k) }
def zb6 {scope osc:Scope} {x:Str} (hcell:∀ y∈scope.names,y.2≠.cell) (h:(zfc scope osc).names.lookup x=some .cell\/(zfc scope osc).names.lookup x=some .free):(x,NameKind.free)∈scope.names:=by
 have key:∀ k,(k=.cell\/k=.free)->(zfc scope osc).names.lookup x=some k->(x,NameKind.free)∈scope.names:=λ k hk hl=>by
  have hm:=bH hl;obtain ⟨⟨n,k'⟩,hm',e⟩:=aO.mp hm;simp only at e
  split at e
  ·rename_i hc;simp only [b9,bD] at hc;cases e;rw [<- hc.1.1];exact hm'
  ·cases e;rcases hk with rfl|rfl
   ·exact absurd rfl (hcell _ hm')
   ·exact hm'
 rcases h with h|h
 ·exact key _ (.inl rfl) h
 ·exact key _ (.inr rfl) h
noncomputable def cxC (X:Cx) (N:A8) (scope:Scope) (s:An) (H:Hp) (fp:Ab) (o6:A2):Cx where
 prog:=X.prog
 w:=X.w
 K:=X.K
 mg:=X.mg
 base:=X.base
 A:=X.A
 N:=N
 s₀:=s
 H₀:=H
 env:=compEnvC scope (jr X.env.cells scope.names []) s.heap.objs.size X.env
 outer:=X.stack
 stack:=X.stack
 ex:=fp
 fn:=λ _=>false
 calm:=X.calm
 pn:=X.pn ++ o6
 xe:=λ _ _=>False
noncomputable def stC (nv:Nat) (caps:Aj) (σ:St):St:=List.replicate nv none ++ caps.map λ k=>(σ[k]?).getD none
structure CompOk (osc scope:Scope) (ON:A8) (vars:A8) (caps:Aj):Prop where
 kind:scope.kind=.function
 cell:∀ y∈scope.names,y.2≠.cell
 loc:∀ y∈scope.names,y.2=.local->scope.names.lookup y.1=some .local
 free:∀ y∈scope.names,y.2=.free->osc.names.lookup y.1=some .cell\/osc.names.lookup y.1=some .free
 caps:∀ k∈caps,k < ON.length/\scope.names.lookup (ON.getD k Str.empty)=some .free
noncomputable def zdn (osc scope:Scope) (ON:A8) (caps:Aj):Bool :=
 scope.kind == .function && scope.names.all (λ y=>y.2 != .cell) && scope.names.all (λ y=>y.2 != .local || scope.names.lookup y.1 == some .local) &&
 scope.names.all (λ y=>y.2 != .free || (osc.names.lookup y.1 == some .cell || osc.names.lookup y.1 == some .free)) && caps.all λ k=>decide (k < ON.length) && scope.names.lookup (ON.getD k Str.empty) == some .free
def zbs {osc scope:Scope} {ON vars:A8} {caps:Aj} (h:zdn osc scope ON caps=true):CompOk osc scope ON vars caps:=by
 simp only [zdn,b9,bS,bD,bne_iff_ne,Bool.or_eq_true,da] at h;obtain ⟨⟨⟨⟨h1,h2⟩,h3⟩,h4⟩,h5⟩:=h;refine ⟨h1,h2,λ y hy e=>(h3 y hy).resolve_left (λ z=>z e),λ y hy e=>(h4 y hy).resolve_left (λ z=>z e),λ k hk=>h5 k hk⟩
theorem Xn {osc:Scope} {x:Str}:∀ {ns:List (Str × NameKind)},ns.lookup x=some .free ->
  (ns.map λ (n,k)=>if (k == NameKind.free && osc.kind == .function && osc.names.lookup n == some .cell) then (n,NameKind.cell) else (n,k)).lookup x=some .cell \/
  (ns.map λ (n,k)=>if (k == NameKind.free && osc.kind == .function && osc.names.lookup n == some .cell) then (n,NameKind.cell) else (n,k)).lookup x=some .free
 | [],h=>by simp at h
 | (n,k) :: r,h=>by
  have ih:=@Xn osc x r;rw [bE];show List.lookup x ((if (k == NameKind.free && osc.kind == .function && osc.names.lookup n == some .cell)=true then (n,NameKind.cell) else (n,k)) :: _)=_\/List.lookup x ((if (k == NameKind.free && osc.kind == .function && osc.names.lookup n == some .cell)=true then (n,NameKind.cell) else (n,k)) :: _)=_
  cases hx:x == n with
  | true =>
   simp only [cE,hx] at h;cases h
   split
   ·exact .inl (by simp [cE,hx])
   ·exact .inr (by simp [cE,hx])
  | false =>
   simp only [cE,hx] at h
   split <;> (simp only [cE,hx];exact ih h)
section
variable {X:Cx} {o6:A2} {σ:St} {H:Hp} {s:An} {fp:Ab} {N vars:A8} {caps:Aj} {scope osc:Scope}
theorem zfR (I:Inv X o6 σ H s) (hosc:X.env.scope=osc) (C:CompOk osc scope X.N vars caps) (hN:N=vars ++ caps.map λ k=>X.N.getD k Str.empty)
  (hf:∀ b∈fp,Q8 X o6 H b) (hfo:∀ b∈fp,∃ o,s.heap.get? b=some o)
  {h':Heap} {tk:Nat} {mm:A4} (hns:h'.Ns s.heap.objs.size mm) (hk:∀ b o,s.heap.get? b=some o->h'.get? b=some o) :
  Inv (cxC X N scope s H fp o6) [] (stC vars.length caps σ) H { s with heap:=h',toks:=tk }:=by
 have hkf:∀ y∈scope.names,y.2=.free->X.env.kindOf y.1=some .cell\/X.env.kindOf y.1=some .free:=λ y hy e=>by
  have z:=C.free y hy e;rw [<- hosc] at z;exact z
 have hcl:zew X.env.cells scope.names:=λ y hy e=>I.ok.has y.1 (hkf y hy e);have get:∀ x c,(jr X.env.cells scope.names []).lookup x=some c->X.env.cells.lookup x=some c:=λ x c h=>Z1 hcl (λ c h=>by simp at h) h;refine ⟨⟨I.ok.mod,C.kind,I.ok.glob,I.ok.blt,au _,λ x y c h1 h2=>I.ok.inj x y c (get x c h1) (get y c h2),λ x hx=>Z0 (zb6 (osc:=X.env.scope) C.cell hx),λ _ _ h _=>Bool.noConfusion h,I.ok.hd,I.ok.frames,.inl rfl,
   λ b hb=>⟨?_,λ x c h=>(hf b hb).2.2.2.2.1 x c (get x c h)⟩,I.bs,aZ I.ok.bsz I.sz,λ b o e hb=>?_,λ b hb z=>(ar.mp (I.stkSub b z)).elim (hf b hb).2.1 (hf b hb).2.2.1,I.stack,I.stkFree⟩,
  rfl,I.bare,Un.kept hk,⟨_,hns,λ i x v e1 e2 e3=>?_⟩,λ x c h=>?_,I.hok.fresh (au _),λ x c h=>I.freeC x c (get x c h),λ p hp=>?_,I.hok.kept hk,?_⟩
 ·obtain ⟨o,e⟩:=hfo b hb;exact aR (aA e)
 ·rcases (hf b hb).2.2.2.1 with z|z
  ·exact I.ok.noex b o e z
  ·exact absurd (aK (aA (I.ok.bs b o e).1) z) (cg _)
 ·have hi:¬ i < vars.length:=λ hi=>by
   unfold stC at e2;rw [aQ (by simpa using hi),dh] at e2
   split at e2 <;> cases e2
  have e1':(vars ++ caps.map λ k=>X.N.getD k Str.empty)[i]?=some x:=by rw [<- hN];exact e1
  unfold stC at e2;rw [aN (by simpa using hi),bd,ak] at e2;rw [aN (by lia),ak] at e1';cases ek:caps[i - vars.length]? with
  | none=>rw [ek] at e2;cases e2
  | some k =>
   rw [ek] at e1' e2;obtain ⟨hkl,hlk⟩:=C.caps k (af ek);have ex:X.N.getD k Str.empty=x:=by simpa using e1'
   have es:σ[k]?.getD none=some v:=by simpa using e2
   have es':σ[k]?=some (some v):=by
    cases q:σ[k]? with
    | none=>rw [q] at es;cases es
    | some z=>rw [q] at es;simp only [aT] at es;rw [es]
   have eN:X.N[k]?=some x:=by
    rw [<- ex,ae,ac hkl];rfl
   rw [ex] at hlk;have hm:(x,NameKind.free)∈scope.names:=bH hlk;have hkx:=hkf _ hm rfl;obtain ⟨m,_,hl⟩:=I.loc;obtain ⟨u,r,L⟩:=hl k x v eN es' (hkx.elim (λ z=>.inr (.inl z)) λ z=>.inr (.inr z));refine ⟨u,r,.inr ⟨Xn (osc:=X.env.scope) hlk,?_⟩⟩;obtain ⟨c',ec⟩:=Z0 (cells:=X.env.cells) (cs:=[]) hm;rcases L with ⟨z,_⟩|⟨_,c,ec2,o,ho,hd⟩
   ·rcases hkx with y|y <;> (simp only at y;rw [y] at z;cases z)
   ·have z:=get x c' ec;rw [ec2] at z;obtain rfl:c=c':=aI z;exact ⟨c,ec,o,hk _ _ ho,hd⟩
 ·obtain ⟨v,o,ho,hd⟩:=I.cell x c (get x c h);exact ⟨v,o,hk _ _ ho,hd⟩
 ·have hp':p∈X.pn ++ o6:=by simpa [cxC] using hp
  obtain ⟨e,n,ne,nf,d⟩:=I.pin p hp';exact ⟨hk _ _ e,n,aR (aA e),λ z=>(ar.mp (I.stkSub _ z)).elim ne nf,d⟩
 ·show (stC vars.length caps σ).length=N.length
  rw [hN];simp [stC]
def zct {σ':St} {H':Hp} {s':An} (I:Inv X o6 σ H s) (hf:∀ b∈fp,Q8 X o6 H b) (I':Inv (cxC X N scope s H fp o6) [] σ' H' s'):Inv X o6 σ H' s' :=
 I.call' (ch:=fp) I'.os I'.base I'.hok I'.bare λ b hb=>⟨(hf b hb).2.2.2.1,(hf b hb).2.1,(hf b hb).2.2.2.2.1,(hf b hb).2.2.2.2.2⟩
end
section
variable {prog:Af} {w:World} {A:Ao} {R:Result->Shared->Prop} {s:An}
abbrev NoX:Value->Shared->Prop:=λ _ _=>False
theorem zev {elt target iter:Expr} {ifs:List Expr} {scope:Scope} {pos:Pos} {it oq:Am} {env:Env} (I:Nat->Shared->Prop)
  (turn:∀ n s,I n s->wpAny (model prog w) A (pyNext it) (λ r s₁=>match r with
   | none=>R (.ok .next) s₁
   | some v=>wpAny (model prog w) A (letOwnedTupleGo target it v) (λ _ s₁'=>wpAny (model prog w) A (assign target env v) (λ _ s₂ =>
     wpAny (model prog w) A (forIn ifs true λ c r=>if r=true then do let ok <- isTrue c env (eval c env);pure (ForInStep.yield ok) else pure (ForInStep.yield r)) (λ ok s₃ =>
      if ok=true then wpAny (model prog w) A (eval elt env) (λ x s₄ =>
       wpAny (model prog w) A (call (.builtin "list.append") [oq,x]) (λ _ s₅=>∃ m,m < n/\I m s₅) NoX s₄) NoX s₃
      else ∃ m,m < n/\I m s₃) NoX s₂) NoX s₁') NoX s₁) NoX s)
  (n:Nat) (h:I n s) :
  codeAny (model prog w) A (.compLoop (.ListComp elt [⟨target,iter,ifs,0⟩] scope pos) 0 it oq env) R s:=by
 refine codeAny_loop rfl I (λ n s hI=>?_) n h;show wpAny _ A ((compTurn (.ListComp elt [⟨target,iter,ifs,0⟩] scope pos) 0 it oq env).onRaise (λ x=>do noteFrame x env;theTreesLotGoes x)) _ _ s
 refine wpAny_noted ?_;rw [compTurn_list];refine ai (gA (ai (aS (turn n s hI) (λ r s₁ h₁=>?_) λ _ _ h'=>h'.elim)));cases r with
 | none=>exact aG h₁
 | some v =>
  refine ai (aS h₁ (λ _ s₁' h₁'=>?_) λ _ _ h'=>h'.elim);refine ai (aS h₁' (λ _ s₂ h₂=>ai (aS h₂ (λ ok s₃ h₃=>?_) λ _ _ h'=>h'.elim)) λ _ _ h'=>h'.elim);cases ok with
  | false=>exact aG ⟨rfl,h₃⟩
  | true =>
   exact ai (ai (aS h₃ (λ x s₄ h₄=>ai (aS h₄ (λ _ s₅ h₅=>aG (aG ⟨rfl,h₅⟩)) λ _ _ h'=>h'.elim)) λ _ _ h'=>h'.elim))
end
def zgo (X:Cx) (ifs:List Expr) (t:TT):Prop :=
 ∀ (o6:A2) (s:An) (σ:St) (H:Hp) (Q:Bool->Hp->Prop),Inv X o6 σ H s->t σ H Q ->
  wpAny (model X.prog X.w) X.A (forIn ifs true λ c r=>if r=true then do let ok <- isTrue c X.env (eval c X.env);pure (ForInStep.yield ok) else pure (ForInStep.yield r)) (TP X o6 σ Q) X.xe s
def tYes:TT:=λ _ H Q=>Q true H
def ql {X:Cx}:zgo X [] tYes:=λ _ _ _ H _ I h=>wpAny_tests_nil ⟨H,I,h⟩
def VJ {X:Cx} {c:Expr} {t:TT} (h:PT X c t):zgo X [c] t:=λ o6 s σ H Q I hw=>wpAny_tests_one (h o6 s σ H Q I hw)
abbrev CB (α:Type):=Shared->Hp->List Addr->List (Addr × Obj)->α
def tLc (wi:TI) (nv:Nat) (caps:Aj) (g:CB TG) (tt:CB TT) (te:CB TE):TE:=λ σ H Q=>wi σ H λ J H1=>∀ (s3:An) (H3:Hp) (fp:Ab) (pns:A2) oq,H1 oq=none ->
 ∃ W:Nat->Nat->St->Hp->Prop,(∃ m,W 0 m (stC nv caps σ) (upd H1 oq (.lst [])))/\∀ i m σ' H',W i m σ' H' ->
  (J.stop i H'/\Q (.ref oq) H')\/(J.go i H'/\∃ N:St->Hp->Prop,(∀ σ'' H'',N σ'' H''->∃ m',m' < m/\W (i + 1) m' σ'' H'')/\∀ x H'',J.yld i H' x H''->g s3 H3 fp pns x σ' H'' λ σ2 H2=>tt s3 H3 fp pns σ2 H2 λ b H5 =>
   if b=true then te s3 H3 fp pns σ2 H5 λ y H4=>∃ ys,H4 oq=some (.lst ys)/\ys.length < sizeLine/\N σ2 (upd H4 oq (.lst (ys ++ [y]))) else N σ2 H5)
section
variable {X:Cx} {elt target iter:Expr} {ifs:List Expr} {scope osc:Scope} {pos:Pos} {wi:TI} {g:CB TG} {tt:CB TT} {te:CB TE} {N vars:A8} {caps:Aj}
theorem XV {o6:A2} {σ:St} {H2:Hp} {s2:An} {it:Addr} {fp:Ab} {tn:Nat->Heap->Prop} {J:It} {Q:VK} {RR:Value->Addr->Result->Shared->Prop} {E:A3}
  (hosc:X.env.scope=osc) (C:CompOk osc scope X.N vars caps) (hN:N=vars ++ caps.map λ k=>X.N.getD k Str.empty) (hc:X.calm=true)
  (hg:∀ s H fp o6,PG (cxC X N scope s H fp o6) target (g s H fp o6)) (ht:∀ s H fp o6,zgo (cxC X N scope s H fp o6) ifs (tt s H fp o6)) (he:∀ s H fp o6,PE (cxC X N scope s H fp o6) elt (te s H fp o6))
  (I2:Inv X o6 σ H2 s2) (T:Turn X.prog X.w X.K target J fp it tn) (st2:tn 0 s2.heap) (hf:∀ b∈fp,Q8 X o6 H2 b)
  (h:∀ (s3:An) (H3:Hp) (fp:Ab) (pns:A2) oq,H2 oq=none->∃ W:Nat->Nat->St->Hp->Prop,(∃ m,W 0 m (stC vars.length caps σ) (upd H2 oq (.lst [])))/\∀ i m σ' H',W i m σ' H' ->
   (J.stop i H'/\Q (.ref oq) H')\/(J.go i H'/\∃ N:St->Hp->Prop,(∀ σ'' H'',N σ'' H''->∃ m',m' < m/\W (i + 1) m' σ'' H'')/\∀ x H'',J.yld i H' x H''->g s3 H3 fp pns x σ' H'' λ σ2 H2=>tt s3 H3 fp pns σ2 H2 λ b H5 =>
    if b=true then te s3 H3 fp pns σ2 H5 λ y H4=>∃ ys,H4 oq=some (.lst ys)/\ys.length < sizeLine/\N σ2 (upd H4 oq (.lst (ys ++ [y]))) else N σ2 H5))
  (hRR:∀ oq C s' H' m,Inv X o6 σ H' s'->Q (.ref oq) H'->s'.heap.Ns C m->H' C=none->C≠X.env.locals->X.s₀.heap.objs.size<=C->(∀ x c,X.env.cells.lookup x=some c->c≠C)->(∀ p∈X.pn ++ o6,p.1≠C)->RR (.ref oq) C (.ok .next) s') :
  wpAny (model X.prog X.w) X.A (newList []) (λ oq s₃=>wpAny (model X.prog X.w) X.A (newFunctionEnv scope X.env.globals (jr X.env.cells scope.names []) [] X.env.qual none .none (some X.env)) (λ cenv s₄ =>
   codeAny (model X.prog X.w) X.A (.compStart (.ListComp elt [⟨target,iter,ifs,0⟩] scope pos) 0 (.ref it) oq { cenv with scope:=relabel scope X.env }) (RR oq cenv.locals) s₄) E s₃) E s2:=by
 refine dC (wpAny_newFunctionEnv C.cell (by intro y hy;simp at hy) (λ h₁ hns₁ hsb₁=>?_) C.kind);obtain ⟨W,⟨m0,w0⟩,turn⟩:=h { s2 with heap:=s2.heap.push { cls:=.type "list",dict:=none,data:=.seq ([]:A7).toArray } } (upd H2 s2.heap.objs.size (.lst [])) fp o6 s2.heap.objs.size I2.fresh;have I3:Inv X o6 σ (upd H2 s2.heap.objs.size (.lst [])) { s2 with heap:=s2.heap.push { cls:=.type "list",dict:=none,data:=.seq ([]:A7).toArray } }:=I2.lnew (oo:=[]) (t':=s2.toks) .nil (by decide);dsimp only at hns₁ hsb₁ ⊢;have hfo:∀ b∈fp,∃ o,s2.heap.get? b=some o:=λ b hb=>let ⟨o,e,_⟩:=T.obj _ _ st2 b hb;⟨o,e⟩
 have hf3:∀ b∈fp,Q8 X o6 (upd H2 s2.heap.objs.size (.lst [])) b:=λ b hb=>by
  refine ⟨?_,(hf b hb).2⟩;obtain ⟨o,e⟩:=hfo b hb;rw [oC (aR (aA e))];exact (hf b hb).1
 generalize hs3:({ s2 with heap:=s2.heap.push { cls:=.type "list",dict:=none,data:=.seq ([]:A7).toArray } }:An)=s3 at I3 turn;have eh:s2.heap.push { cls:=.type "list",dict:=none,data:=.seq ([]:A7).toArray }=s3.heap:=by rw [<- hs3]
 have old:∀ b o,s2.heap.get? b=some o->s3.heap.get? b=some o:=λ b o e=>by rw [<- eh];exact aj _ e
 rw [eh] at hns₁ hsb₁ ⊢;have es:({ s2 with heap:=h₁,toks:=s2.toks + ([]:List (Str × Value)).length }:An)={ s3 with heap:=h₁,toks:=s2.toks }:=by rw [<- hs3];rfl
 rw [es];generalize hH3:upd H2 s2.heap.objs.size (.lst [])=H3 at *;have hk:∀ b o,s3.heap.get? b=some o->h₁.get? b=some o:=λ b o e=>hsb₁.extBut b o (aR (aA e)) (aj _ e);have I4:Inv (cxC X N scope s3 H3 fp o6) [] (stC vars.length caps σ) H3 { s3 with heap:=h₁,toks:=s2.toks }:=zfR I3 hosc C hN hf3 (λ b hb=>let ⟨o,e⟩:=hfo b hb;⟨o,old b o e⟩) hns₁ hk;have st4:tn 0 h₁:=T.keep _ _ _ st2 λ b hb o e=>hk b o (old b o e);have stat:∀ {H':Hp},(∀ b∈fp,H' b=none)->∀ b∈fp,Q8 (cxC X N scope s3 H3 fp o6) [] H' b:=λ hn b hb =>
  ⟨hn b hb,(I4.ok.exf b hb).1,I4.ok.exfs b hb,.inl hb,(I4.ok.exf b hb).2,λ p hp=>(hf b hb).2.2.2.2.2 p (by simpa [cxC] using hp)⟩
 have loop:∀ s4:Shared,s4={ s3 with heap:=h₁,toks:=s2.toks } ->
   codeAny (model X.prog X.w) X.A (.compLoop (.ListComp elt [⟨target,iter,ifs,0⟩] scope pos) 0 (.ref it) (.ref s2.heap.objs.size) (cxC X N scope s3 H3 fp o6).env) (RR (.ref s2.heap.objs.size) s3.heap.objs.size) s4:=by
  rintro s4 rfl;refine zev (λ n s'=>∃ i σ' H',Inv (cxC X N scope s3 H3 fp o6) [] σ' H' s'/\tn i s'.heap/\(∀ b∈fp,H' b=none)/\W i n σ' H') ?_ m0 ⟨0,_,H3,I4,st4,λ b hb=>(hf3 b hb).1,w0⟩;rintro n s5 ⟨i,σ5,H5,I5,st5,fr5,w5⟩;rcases turn i n σ5 H5 w5 with ⟨stop,qn⟩|⟨go,NN,hNN,step⟩
  ·refine thn (T.done (cxC X N scope s3 H3 fp o6) rfl rfl rfl hc i [] s5 σ5 H5 NoX I5 (stat fr5) st5 stop) λ r s6 ⟨hr,I6⟩=>?_;subst hr;obtain ⟨m,hn,_⟩:=I6.loc;have hlt:∀ b o,s3.heap.get? b=some o->b≠s3.heap.objs.size:=λ b o e=>aR (aA e);obtain ⟨m3,⟨oL,_,_,hoL,_⟩,_⟩:=I3.loc;refine hRR _ _ s6 H5 m (zct I3 hf3 I6) qn hn I6.free (λ z=>hlt _ _ hoL z.symm) I3.sz (λ x c ec z=>?_) λ p hp z=>hlt _ _ (I3.pin p hp).1 z;obtain ⟨v,o,ho,_⟩:=I3.cell x c ec;exact hlt _ _ ho z
  ·refine thn (T.item (cxC X N scope s3 H3 fp o6) rfl rfl rfl hc i [] s5 σ5 H5 NoX I5 (stat fr5) st5 go) λ r s6 ⟨u,hr,h6⟩=>?_;subst hr;refine thn h6 λ _ s7 ⟨x,H7,I7,r7,y7,st7,fr7⟩=>?_;have I7':=I7.pinned (stat fr7) (T.obj _ _ st7);have again:∀ {σ8:St} {H8:Hp} {s8:An},Inv (cxC X N scope s3 H3 fp o6) ([] ++ Xq fp s7.heap) σ8 H8 s8->NN σ8 H8->∃ m,m < n/\∃ i σ' H',Inv (cxC X N scope s3 H3 fp o6) [] σ' H' s8/\tn i s8.heap/\(∀ b∈fp,H' b=none)/\W i m σ' H':=λ {σ8 H8 s8} I8 n8=>by
    obtain ⟨m',hm,w8⟩:=hNN σ8 H8 n8;refine ⟨m',hm,i + 1,σ8,H8,I8.unpinned,T.keep _ _ _ st7 λ b hb o e=>(I8.pin (b,o) (aU _ (aU _ (vo hb e)))).1,λ b hb=>?_,w8⟩;obtain ⟨o,e,d⟩:=T.obj _ _ st7 b hb;exact (I8.pin (b,o) (aU _ (aU _ (vo hb e)))).2.1
   refine thn (hg s3 H3 fp o6 _ s7 σ5 H7 x u _ I7' r7 (step x H7 y7)) λ _ s8 ⟨σ8,H8,I8,q8⟩=>?_;refine thn (ht s3 H3 fp o6 _ s8 σ8 H8 _ I8 q8) λ b s9 ⟨H9,I9,q9⟩=>?_;cases b with
   | false=>exact again I9 q9
   | true =>
    refine qL (he s3 H3 fp o6 _ s9 σ8 H9 _ I9 q9) λ v s10 y H10 I10 r10 qq_=>?_;obtain ⟨ys,ea,hz,q10⟩:=qq_;refine thn (zQ (X:=cxC X N scope s3 H3 fp o6) _ s10 σ8 H10 (.ref s2.heap.objs.size) [y] (.ref s2.heap.objs.size) [v] (λ _ H'=>NN σ8 H') I10 rfl (.cons r10 .nil) ⟨_,ys,y,rfl,rfl,ea,hz,q10⟩) λ _ s11 ⟨_,H11,I11,_,q11⟩=>?_;exact again I11 q11
 exact codeAny_compStart_list (loop _ rfl) (T.self X.A 0 _ _ _ st4 (loop _ rfl))
def jI {ON:A8} (hosc:X.env.scope=osc) (hON:X.N=ON) (hB:zdn osc scope ON caps=true) (hN:N=vars ++ caps.map λ k=>ON.getD k Str.empty) (hc:X.calm=true) (hi:PI X target iter wi)
  (hg:∀ s H fp o6,PG (cxC X N scope s H fp o6) target (g s H fp o6)) (ht:∀ s H fp o6,zgo (cxC X N scope s H fp o6) ifs (tt s H fp o6)) (he:∀ s H fp o6,PE (cxC X N scope s H fp o6) elt (te s H fp o6))
  (hs:∀ x,foldedSetIterable iter X.env x=pure x:=by intro _;rfl):PE X (.ListComp elt [⟨target,iter,ifs,0⟩] scope pos) (tLc wi vars.length caps g tt te):=by
 subst hON;intro o6 s σ H Q I h;have C:CompOk osc scope X.N vars caps:=zbs hB;have hclos:closureFor scope X.env=pure (jr X.env.cells scope.names []):=ZJ λ y hy e=>I.ok.has y.1 (by have z:=C.free y hy e;rw [<- hosc] at z;exact z);rw [eval_ListComp];refine gC (use:=none) rfl hs hclos C.kind C.loc (thn (hi o6 s σ H _ I h) λ v s1 h1=>thn h1 λ itv s2 h2=>?_);obtain ⟨it,fp,tn,J,H2,e,I2,T,st2,f2,hw⟩:=h2;subst e;refine XV (N:=N) (RR:=λ oq Cc=>compPost (model X.prog X.w) X.A X.xe none (EP X o6 σ Q) oq Cc) hosc C hN hc hg ht he I2 T st2 f2 hw λ oq Cc s' H' m I' q hn hC hL hsz hcc hpp=>?_;refine ⟨m,hn,λ h' hs'=>⟨.ref oq,H',?_,rfl,q⟩⟩;exact I'.turned (t':=s'.toks) (it:=Cc) (λ b o hb e=>(hs'.2 b hb).trans e) hC (λ z=>hL z) (.inr hsz) hcc hpp
def Xo {ON:A8} {i:Nat} {x:Str} {pos' spos:Pos} (hNd:X.N.Nodup) (hix:X.N[i]?=some x) (hx:Loc X.env.scope x)
  (hosc:X.env.scope=osc) (hON:X.N=ON) (hB:zdn osc scope ON caps=true) (hN:N=vars ++ caps.map λ k=>ON.getD k Str.empty) (hc:X.calm=true) (hi:PI X target iter wi)
  (hg:∀ s H fp o6,PG (cxC X N scope s H fp o6) target (g s H fp o6)) (ht:∀ s H fp o6,zgo (cxC X N scope s H fp o6) ifs (tt s H fp o6)) (he:∀ s H fp o6,PE (cxC X N scope s H fp o6) elt (te s H fp o6))
  (hsw:swapsWith (.ListComp elt [⟨target,iter,ifs,0⟩] scope pos) (some (.Name x pos')) spos.line X.env=pure true:=by rfl)
  (hf:X.fn x=true\/X.env.scope.names.lookup x=some .local:=by walk_at "p")
  (hs:∀ x,foldedSetIterable iter X.env x=pure x:=by intro _;rfl):PS X (.Assign [.Name x pos'] (.ListComp elt [⟨target,iter,ifs,0⟩] scope pos) spos) (tAsg (tLc wi vars.length caps g tt te) (gName i)):=by
 subst hON;intro o6 s σ H D I h;have C:CompOk osc scope X.N vars caps:=zbs hB;have hclos:closureFor scope X.env=pure (jr X.env.cells scope.names []):=ZJ λ y hy e=>I.ok.has y.1 (by have z:=C.free y hy e;rw [<- hosc] at z;exact z);rw [exec_Assign_Name_used _ _ _ _ hsw];refine ai (gA (ai ?_));show wpAny _ X.A (do let _ <- comprehension (.ListComp elt [⟨target,iter,ifs,0⟩] scope pos) scope X.env _ (newList []) false (eval iter X.env) (some (assign (.Name x pos') X.env))) _ _ s
 refine ai (aS (gC (use:=some (assign (.Name x pos') X.env)) (Q:=λ _ s'=>SP X o6 D .next s') rfl hs hclos C.kind C.loc (thn (hi o6 s σ H _ I h) λ v s1 h1=>thn h1 λ itv s2 h2=>?_)) (λ _ s' hq=>aG (aG hq)) λ _ _ e=>e);obtain ⟨it,fp,tn,J,H2,e,I2,T,st2,f2,hw⟩:=h2;subst e;refine XV (N:=N) (Q:=λ v H1=>gName i v σ H1 D.nx) (RR:=λ oq Cc=>compPost (model X.prog X.w) X.A X.xe (some (assign (.Name x pos') X.env)) (λ _ s'=>SP X o6 D .next s') oq Cc) hosc C hN hc hg ht he I2 T st2 f2 hw λ oq Cc s' H' m I' q hn hC hL hsz hcc hpp=>?_;refine wpAny_assign_Name (Wy I' hNd hix hx (v:=.ref oq) rfl (λ s3 I3 ⟨a,sb,ha⟩=>?_) hf);have hne:Cc≠a:=λ z=>by
  rcases ha with e|e
  ·exact hL (z.trans e)
  ·exact hcc x a e z.symm
 refine ⟨m,hn.sameBut sb hne,λ h' hs'=>⟨_,H',?_,q⟩⟩;exact I3.turned (t':=s3.toks) (it:=Cc) (λ b o hb e=>(hs'.2 b hb).trans e) hC (λ z=>hL z) (.inr hsz) hcc hpp
end
variable {b:Bool} {Q:A3} {i:Nat} {X:Cx}
section
variable {X:Cx} {o6:A2} {σ:St} {H:Hp} {s:An} {h':Heap} {ch:Ab}
def Inv.turnNew {T:Addr} {o:HO} {t':Nat} (I:Inv X o6 σ H s) (hch:∀ b∈ch,Q8 X o6 H b) (hT:s.heap.objs.size<=T) (keep:∀ b o,b ∉ ch->s.heap.get? b=some o->h'.get? b=some o)
  (new:ObjOk X.prog X.w (upd H T o) h' T o):Inv X o6 σ (upd H T o) { s with heap:=h',toks:=t' }:=by
 have hn:H T=none:=I.hok.fresh hT;have lt:∀ b u,s.heap.get? b=some u->b≠T:=λ b u e=>aR (aK (aA e) hT);have nch:∀ b u,H b=some u->b ∉ ch:=λ b u e z=>by rw [(hch b z).1] at e;cases e
 refine I.step (g':=s.gens) (d':=s.drawn) (ch:=ch) (λ b hb=>⟨(hch b hb).2.2.2.1,(hch b hb).2.1,(hch b hb).2.2.2.2.1,(hch b hb).2.2.2.2.2⟩) (λ b o _ _ hc e _=>keep b o hc e) (λ b o _ _ hc e _=>⟨o.slots,keep b o hc e⟩)
  (λ b o _ e n=>by rw [oC (lt b o e)];exact n) (λ b o hc e=>⟨o,keep b o hc e⟩) (λ b xs e=>by rw [oC (oE e hn)];exact e) (λ b o u e=>by rw [oC (oE e hn)];exact e)
  (λ b ps e=>⟨#[],by rw [oC (oE e hn),e];simp⟩) (λ m hm=>?_) (λ b u e=>?_) I.bare
 ·obtain ⟨o,es,ep,ho,r⟩:=hm;exact ⟨o,es,ep,keep _ o (λ z=>(hch _ z).2.1 rfl) ho,r⟩
 ·by_cases hb:b=T
  ·subst hb;rw [oB] at e;cases e;exact new
  ·rw [oC hb] at e;refine (I.hok b u e).stay (λ c v hc q=>keep c v ?_ q) (λ c q=>by rw [oC (oE q hn)];exact q) λ c xs q=>by rw [oC (oE q hn)];exact q
   rcases hc with z|z
   ·rw [z];exact nch b u e
   ·exact nch c _ z
def Inv.turnL {t':Nat} (I:Inv X o6 σ H s) (hch:∀ b∈ch,Q8 X o6 H b) (keep:∀ b o,b ∉ ch->s.heap.get? b=some o->h'.get? b=some o):Inv X o6 σ H { s with heap:=h',toks:=t' }:=by
 have nch:∀ b u,H b=some u->b ∉ ch:=λ b u e z=>by rw [(hch b z).1] at e;cases e
 refine I.step (g':=s.gens) (d':=s.drawn) (ch:=ch) (λ b hb=>⟨(hch b hb).2.2.2.1,(hch b hb).2.1,(hch b hb).2.2.2.2.1,(hch b hb).2.2.2.2.2⟩) (λ b o _ _ hc e _=>keep b o hc e) (λ b o _ _ hc e _=>⟨o.slots,keep b o hc e⟩)
  (λ _ _ _ _ n=>n) (λ b o hc e=>⟨o,keep b o hc e⟩) (λ _ _ e=>e) (λ _ _ _ e=>e) (λ b ps e=>⟨#[],by rw [e];simp⟩) (λ m hm=>?_) (λ b u e=>?_) I.bare
 ·obtain ⟨o,es,ep,ho,r⟩:=hm;exact ⟨o,es,ep,keep _ o (λ z=>(hch _ z).2.1 rfl) ho,r⟩
 ·refine (I.hok b u e).stay (λ c v hc q=>keep c v ?_ q) (λ _ q=>q) λ _ _ q=>q;rcases hc with z|z
  ·rw [z];exact nch b u e
  ·exact nch c _ z
end
noncomputable def Ite (K:A0) (a:Addr):It :=
 ⟨λ i H=>∃ xs x,SqL K H a xs/\xs[i]?=some x,λ i H v H'=>∃ t x,H t=none/\v=.ref t/\(∀ xs,SqL K H a xs->xs[i]?=some x)/\H'=upd H t (.tup [.int i,x]),λ i H=>∃ xs,SqL K H a xs/\xs.length<=i⟩
def zdA {P:Af} {w:World} {K:A0} {elts:List Expr} {x1} {pos:Pos} (a e it:Addr) (hne:e≠it) :
  Turn P w K (.Tuple elts x1 pos) (Ite K a) [e,it] e (λ i h=>(∃ old,IsEnum h e it i old)/\h.IsListIter it a i) where
 mem:=by simp
 obj:=λ i h st b hb=>by
  obtain ⟨⟨old,he⟩,o,ho,c,d⟩:=st;rcases ar.mp hb with rfl|hb
  ·exact ⟨_,he,λ v z=>by cases z⟩
  ·obtain rfl:b=it:=by simpa using hb
   exact ⟨o,ho,λ v z=>by rw [d] at z;cases z⟩
 keep:=λ i h h' st k=>by
  obtain ⟨⟨old,he⟩,hi⟩:=st;exact ⟨⟨old,k e (by simp) _ he⟩,hi.at λ o z=>k it (by simp) o z⟩
 item:=by
  intro X hP hw hK hc i o6 s σ H E I hf st hg;subst hP hw hK;obtain ⟨⟨old,he⟩,hi⟩:=st;obtain ⟨xs,x,hq,hx⟩:=hg;obtain ⟨oo,rv,p,hz⟩:=I.list hq;obtain ⟨u,hu,ru⟩:=rv.get hx;refine wpAny_pyNext_enum_item he hi p.isList (x:=u) (by simpa using hu) hne λ h' he' hi' hT hsz hk=>?_;refine ⟨_,rfl,?_⟩;have I1:Inv X o6 σ (upd H s.heap.objs.size (.tup [.int i,x])) { s with heap:=h',toks:=s.toks + 1 }:=I.turnNew hf (au _) (λ b o hb q=>hk b o (λ z=>hb (by simp [z])) (λ z=>hb (by simp [z])) q)
   ⟨by show 2<=sizeLine;decide,[.int i s.toks,u],.cons ⟨_,rfl⟩ (.cons ru .nil),⟨_,hT,rfl,_,rfl⟩⟩
  have hn:H s.heap.objs.size=none:=I.hok.fresh (au _);have ne:∀ b∈[e,it],b≠s.heap.objs.size:=λ b hb=>by
   rcases ar.mp hb with rfl|hb
   ·exact aR (aA he)
   ·obtain rfl:b=it:=by simpa using hb
    obtain ⟨o,ho,_⟩:=hi;exact aR (aA ho)
  have fr:∀ b∈[e,it],(upd H s.heap.objs.size (.tup [.int i,x])) b=none:=λ b hb=>by rw [oC (ne b hb)];exact (hf b hb).1
  refine wpAny_letOwnedTupleGo_enum he' λ h'' he'' hs''=>?_;refine ⟨.ref s.heap.objs.size,_,I1.turnL (t':=s.toks + 1) (ch:=[e]) (λ b hb=>?_) (λ b o hb q=>(hs''.2 b (λ z=>hb (by simp [z]))).trans q),rfl,
   ⟨s.heap.objs.size,x,hn,rfl,λ ys hy=>by rw [I.list_inj hy hq];exact hx,rfl⟩,⟨⟨u,?_⟩,hi'.extBut hs''.extBut (a7 hne)⟩,fr⟩
  ·obtain rfl:b=e:=by simpa using hb
   exact ⟨fr b (by simp),(hf b (by simp)).2⟩
  ·exact he''
 done:=by
  intro X hP hw hK hc i o6 s σ H E I hf st hg;subst hP hw hK;obtain ⟨⟨old,he⟩,hi⟩:=st;obtain ⟨xs,hq,hx⟩:=hg;obtain ⟨oo,rv,p,hz⟩:=I.list hq;have hl:=rv.length;exact wpAny_pyNext_enum_end (I.ok.hd hc) he hi p.isList (by simp;lia) λ h' eb=>⟨rfl,I.turnL (t':=s.toks) hf λ b o hb q=>eb b o (λ z=>hb (by simp [z])) q⟩
 self:=λ _ _ _ _ _ st h=>by
  obtain ⟨⟨old,he⟩,_⟩:=st;exact wpAny_pyIter_enum he h
def zac:bootBuiltins "enumerate"=some (.type "enumerate"):=by decide +kernel
def ziM:bootBuiltins "zip"=some (.type "zip"):=by decide +kernel
def iEnum (X:Cx) (ta:TA):TI:=λ σ H R=>X.mg "enumerate"=none/\ta σ H λ vs H1=>∃ a xs,vs=[.ref a]/\H1 a=some (.lst xs)/\R (Ite X.K a) H1
def qS {a:Expr} {elts:List Expr} {x1} {tp p pos:Pos} {ta:TA} (ha:PA X [a] ta) (hg:Gl X "enumerate":=by rfl)
  (hs:starEach [a] X.env=(false,eval a X.env) :: starEach [] X.env:=by rfl) (hpl:(backTo pos (starEach [] X.env)).any (·.1)=false:=by rfl) :
  PI X (.Tuple elts x1 tp) (.Call (.Name "enumerate" p) [a] [] pos) (iEnum X ta):=by
 intro o6 s σ H R I h;refine bt (vp I hg h.1 zac ?_);refine bb (vF (ha pos o6 s σ H _ I h.2) λ us s1 vs H1 I1 r1 q1=>?_) hs hpl;obtain ⟨l,xs,rfl,hq,hR⟩:=q1;obtain ⟨u,rfl,rx⟩:=ZC r1;cases rx;obtain ⟨hz,oo,n,rv,hl,e⟩:=I1.lstM hq;refine call_enumerate_1 e λ h' he hi hsz hk=>wpAny_pyIter_enum he ?_;refine ⟨s1.heap.objs.size + 1,[s1.heap.objs.size + 1,s1.heap.objs.size],_,_,H1,rfl,I1.kept (t':=s1.toks) hk,zdA l _ _ (Nat.succ_ne_self _),⟨⟨_,he⟩,hi⟩,λ b hb=>?_,hR⟩;rcases ar.mp hb with rfl|hb
 ·exact I1.fpOk (cP _) (I1.hok.fresh (cP _))
 ·obtain rfl:b=s1.heap.objs.size:=by simpa using hb
  exact I1.fpOk (au _) (I1.hok.fresh (au _))
def ItAt (b:Bool) (h:Heap) (it a:Addr) (i:Nat):Prop:=if b=true then h.IsListIter it a i else h.IsTupleIter it a i
def SqAt (b:Bool) (h:Heap) (a:Addr) (items:Ac):Prop:=if b=true then h.IsList a items else h.IsTuple a items
noncomputable def Q4 (b:Bool):String:=if b=true then "list_iterator" else "tuple_iterator"
def ItAt.at' {h h':Heap} {it a:Addr} (x:ItAt b h it a i) (hk:∀ o,h.get? it=some o->h'.get? it=some o):ItAt b h' it a i:=by
 cases b <;> exact let ⟨o,ho,r⟩:=x;⟨o,hk o ho,r⟩
def ItAt.obj {h:Heap} {it a:Addr} (x:ItAt b h it a i):∃ o,h.get? it=some o/\∀ v,o.data≠.cell v:=by
 cases b <;> exact let ⟨o,ho,_,hd⟩:=x;⟨o,ho,λ v z=>by rw [hd] at z;cases z⟩
def SqAt.at' {h h':Heap} {a:Addr} {items:Ac} (x:SqAt b h a items) (hk:∀ o,h.get? a=some o->h'.get? a=some o):SqAt b h' a items:=by
 cases b <;> exact let ⟨o,ho,r⟩:=x;⟨o,hk o ho,r⟩
section
variable {prog:Af} {w:World} {A:Ao} {E:A3} {s:An}
def Qg {it t:Addr} {items} {x:Am} (hit:s.heap.IsTupleIter it t i) (ht:s.heap.IsTuple t items) (hx:items[i]?=some x)
  (hQ:∀ h',h'.IsTupleIter it t (i + 1)->Heap.SameBut it s.heap h'->Q x { s with heap:=h' }):wpAny (model prog w) A (Builtin.SmallTypes.nextOf (.ref it)) Q E s:=by
 obtain ⟨o,ho,hc,hd⟩:=id hit;obtain ⟨ol,hol,_,nl,hdl⟩:=ht;unfold Builtin.SmallTypes.nextOf;refine ai (cH (name:=Str.ofString "__next__") hit.typeIs ci
  (dH ci hit.typeIs fZ ?_ (fQ _)))
 show wpAny _ _ (field (.ref it) 0 >>= _) _ _ s
 refine ai (bj ho hd (x:=.ref t) rfl ?_);show wpAny _ _ (if (Value.ref t == Value.none)=true then _ else _) _ _ s
 rw [ao (show ¬ ((Value.ref t == Value.none)=true) from aC)];show wpAny _ _ (field (.ref it) 1 >>= _) _ _ s
 refine ai (bj ho hd (x:=.int i 0) rfl ?_);show wpAny _ _ (seqItems? (.ref t) >>= _) _ _ s
 refine ai (bM hol hdl ?_);simp only [ax,hx];refine ai (di ho hd (by simp) (aG ⟨x,rfl,aG (hQ _ ?_ (Heap.SameBut.update ..))⟩));exact ⟨_,bO _ ho (b8 (bu hd _)),(Obj.cls_mapFields ..).trans hc,by
  rw [bu hd];simp [rawInt]⟩
def QY {it t:Addr} {items} (hh:A.handled=none) (hit:s.heap.IsTupleIter it t i) (ht:s.heap.IsTuple t items) (hx:items[i]?=none)
  (hE:∀ h' e,Heap.ExtBut it s.heap h'->(∃ o,h'.get? e=some o/\o.cls=.type "StopIteration")->E (.ref e) { s with heap:=h' }) :
  wpAny (model prog w) A (Builtin.SmallTypes.nextOf (.ref it)) Q E s:=by
 obtain ⟨o,ho,hc,hd⟩:=id hit;obtain ⟨ol,hol,_,nl,hdl⟩:=ht;unfold Builtin.SmallTypes.nextOf;refine ai (cH (name:=Str.ofString "__next__") hit.typeIs ci
  (dH ci hit.typeIs fZ ?_ (fQ _)))
 show wpAny _ _ (field (.ref it) 0 >>= _) _ _ s
 refine ai (bj ho hd (x:=.ref t) rfl ?_);show wpAny _ _ (if (Value.ref t == Value.none)=true then _ else _) _ _ s
 rw [ao (show ¬ ((Value.ref t == Value.none)=true) from aC)];show wpAny _ _ (field (.ref it) 1 >>= _) _ _ s
 refine ai (bj ho hd (x:=.int i 0) rfl ?_);show wpAny _ _ (seqItems? (.ref t) >>= _) _ _ s
 refine ai (bM hol hdl ?_);simp only [ax,hx];refine ai (wpAny_rule (ai (di ho hd (by simp) ?_)));show wpAny _ _ (newExc (.type "StopIteration") [] >>= _) _ _ _
 refine ai ?_;simp only [newExc,newTuple];refine ai (dC ?_ (by size_fits));refine ai (m:=firstArgMember _ _) (wpAny_of_eq (a:=Value.none) (by first|rfl|(simp only [firstArgMember];rfl)) ?_);refine dC ?_ (by size_fits);simp only [raiseNew];refine ai (wpAny_handled ?_)
 first|rw [show A.in1.handled=none from hh] | rw [hh]
 refine ai (aG (wpAny_throw ?_));exact hE _ _ (((Heap.SameBut.update ..).extBut.push _).push _) ⟨_,aB _ rfl,rfl⟩
def vW {it t:Addr} {items} {x:Am} (hit:ItAt b s.heap it t i) (ht:SqAt b s.heap t items) (hx:items[i]?=some x)
  (hQ:∀ h',ItAt b h' it t (i + 1)->Heap.SameBut it s.heap h'->Q x { s with heap:=h' }):wpAny (model prog w) A (Builtin.SmallTypes.nextOf (.ref it)) Q E s:=by
 cases b
 ·exact Qg hit ht hx hQ
 ·exact wpAny_nextOf_list_item hit ht hx hQ
def Xx {it t:Addr} {items} (hh:A.handled=none) (hit:ItAt b s.heap it t i) (ht:SqAt b s.heap t items) (hx:items[i]?=none)
  (hE:∀ h' e,Heap.ExtBut it s.heap h'->(∃ o,h'.get? e=some o/\o.cls=.type "StopIteration")->E (.ref e) { s with heap:=h' }) :
  wpAny (model prog w) A (Builtin.SmallTypes.nextOf (.ref it)) Q E s:=by
 cases b
 ·exact QY hh hit ht hx hE
 ·exact wpAny_nextOf_list_end hh hit ht hx hE
def WD {t:Addr} {items} (ht:SqAt b s.heap t items)
  (hQ:Q (.ref s.heap.objs.size) { s with heap:=s.heap.push { cls:=.type (Q4 b),data:=.fields #[.ref t,.int 0 0] } }):wpAny (model prog w) A (pyIter (.ref t)) Q E s:=by
 cases b
 ·exact wpAny_pyIter_tuple ht hQ
 ·exact eM ht hQ
def zeJ {b1 b2:Bool} {z TI TO i1 i2 l1 l2:Addr} {k1 k2:Nat} {xs ys:Ac} {x y a b:Am} (D:ZipApart z TI TO i1 i2 l1 l2)
  (hz:IsZip s.heap z TI TO .none) (hTI:IsPair s.heap TI (.ref i1) (.ref i2)) (hTO:IsPair s.heap TO a b)
  (h1:ItAt b1 s.heap i1 l1 k1) (h2:ItAt b2 s.heap i2 l2 k2) (hl1:SqAt b1 s.heap l1 xs) (hl2:SqAt b2 s.heap l2 ys) (hx:xs[k1]?=some x) (hy:ys[k2]?=some y)
  (hQ:∀ h',IsZip h' z TI TO (rawInt s.heap.objs.size)->IsPair h' TO x y->ItAt b1 h' i1 l1 (k1 + 1)->ItAt b2 h' i2 l2 (k2 + 1)->IsPair h' s.heap.objs.size x y->h'.objs.size=s.heap.objs.size + 1 ->
   (∀ c o,c≠z->c≠TO->c≠i1->c≠i2->s.heap.get? c=some o->h'.get? c=some o)->Q (.ref s.heap.objs.size) { s with heap:=h' }) :
  wpAny (model prog w) A (Builtin.«zip.__next__» ⟨[.ref z],[]⟩) (λ fin s'=>∃ v,fin=.done (.ret v)/\Q v s') E s:=by
 show wpAny _ _ (field (.ref z) 2 >>= _) _ _ _
 refine ai (bj hz rfl (x:=.bool false) rfl ?_);show wpAny _ _ (field (.ref z) 3 >>= _) _ _ _
 refine ai (bj hz rfl (x:=.ref TI) rfl ?_);refine ai (bM hTI rfl ?_);show wpAny _ _ (Builtin.SmallTypes.ownedTupleIsFree (.ref z) >>= _) _ _ _
 refine ai ?_;unfold Builtin.SmallTypes.ownedTupleIsFree;refine ai (bj hz rfl (x:=.none) rfl (aG ?_));simp only [dL];refine ai (wpAny_rule ?_);refine ai (bj hz rfl (x:=.ref TO) rfl ?_);refine ai (b5 hz (by simp) λ h₁ hz₁ hs₁=>?_);replace hz₁:IsZip h₁ z TI TO .ellipsis:=hz₁;refine ai ?_;simp only [List.zipIdx_cons,List.zipIdx_nil,fR,List.forIn_nil];refine ai (ai (ef ?_));show wpAny _ _ (Builtin.SmallTypes.nextOf (.ref i1) >>= _) _ _ _
 refine ai (vW (h1.at' λ o e=>hs₁.extBut _ _ D.i1z e) (hl1.at' λ o e=>hs₁.extBut _ _ D.l1z e) hx λ h₂ h1₂ hs₂=>aG ?_);have hTO₂:IsPair h₂ TO a b:=hs₂.extBut _ _ D.TOi1 (hs₁.extBut _ _ D.TOz hTO);refine ai (bM hTO₂ rfl ?_);refine ai (dX hTO₂ λ h₃ hTO₃ hs₃=>?_);replace hTO₃:IsPair h₃ TO x b:=hTO₃;refine ai (wpAny_letGo (aG ?_));refine ai (ai (ef ?_));show wpAny _ _ (Builtin.SmallTypes.nextOf (.ref i2) >>= _) _ _ _
 refine ai (vW (h2.at' λ o e=>hs₃.extBut _ _ D.TOi2.symm (hs₂.extBut _ _ D.i12.symm (hs₁.extBut _ _ D.i2z e)))
  (hl2.at' λ o e=>hs₃.extBut _ _ D.l2TO (hs₂.extBut _ _ D.l2i1 (hs₁.extBut _ _ D.l2z e))) hy λ h₄ h2₄ hs₄=>aG ?_)
 have hTO₄:IsPair h₄ TO x b:=hs₄.extBut _ _ D.TOi2 hTO₃;refine ai (bM hTO₄ rfl ?_);refine ai (dX hTO₄ λ h₅ hTO₅ hs₅=>?_);replace hTO₅:IsPair h₅ TO x y:=hTO₅;refine ai (wpAny_letGo (aG (aG ?_)));refine ai (bM hTO₅ rfl ?_);refine ai (wpAny_newTuple ?_);have hsz:h₅.objs.size=s.heap.objs.size:=by rw [hs₅.1,hs₄.1,hs₃.1,hs₂.1,hs₁.1]
 have hz₅:IsZip h₅ z TI TO .ellipsis:=hs₅.extBut _ _ D.TOz.symm (hs₄.extBut _ _ D.i2z.symm (hs₃.extBut _ _ D.TOz.symm (hs₂.extBut _ _ D.i1z.symm hz₁)));have hk₅:∀ c o,c≠z->c≠TO->c≠i1->c≠i2->s.heap.get? c=some o->h₅.get? c=some o:=λ c o c1 c2 c3 c4 e =>
  hs₅.extBut _ _ c2 (hs₄.extBut _ _ c4 (hs₃.extBut _ _ c2 (hs₂.extBut _ _ c3 (hs₁.extBut _ _ c1 e))))
 have h1₅:ItAt b1 h₅ i1 l1 (k1 + 1):=h1₂.at' λ o e=>hs₅.extBut _ _ D.TOi1.symm (hs₄.extBut _ _ D.i12 (hs₃.extBut _ _ D.TOi1.symm e));have h2₅:ItAt b2 h₅ i2 l2 (k2 + 1):=h2₄.at' λ o e=>hs₅.extBut _ _ D.TOi2.symm e;have hzlt:z < h₅.objs.size:=aA hz₅;show wpAny _ _ (Builtin.SmallTypes.ownedTupleHandOut (.ref z) (.ref h₅.objs.size) >>= _) _ _ _
 refine ai ?_;unfold Builtin.SmallTypes.ownedTupleHandOut;have hz₆:IsZip (h₅.push { cls:=.type "tuple",data:=.seq #[x,y] }) z TI TO .ellipsis:=aj _ hz₅;refine ai (b5 hz₆ (by simp) λ h₇ hz₇ hs₇=>?_);replace hz₇:IsZip h₇ z TI TO (rawInt h₅.objs.size):=hz₇;refine b5 hz₇ (by simp) λ h₈ hz₈ hs₈=>?_;replace hz₈:IsZip h₈ z TI TO (rawInt h₅.objs.size):=hz₈;have up:∀ c o,c≠z->h₅.get? c=some o->h₈.get? c=some o:=λ c o c1 e=>hs₈.extBut _ _ c1 (hs₇.extBut _ _ c1 (aj _ e));have hT₈:IsPair h₈ h₅.objs.size x y:=hs₈.extBut _ _ (du hzlt) (hs₇.extBut _ _ (du hzlt) (aB _ rfl));have hz8:h₈.objs.size=h₅.objs.size + 1:=by rw [hs₈.1,hs₇.1,bY]
 rw [hsz] at hz₈ hT₈ hz8;refine aG ⟨_,rfl,?_⟩;show Q (.ref h₅.objs.size) _
 rw [hsz];exact hQ h₈ hz₈ (up _ _ D.TOz hTO₅) (h1₅.at' λ o e=>up _ o D.i1z e) (h2₅.at' λ o e=>up _ o D.i2z e) hT₈ hz8 λ c o c1 c2 c3 c4 e=>up c o c1 (hk₅ c o c1 c2 c3 c4 e)
theorem zgp {b1 b2:Bool} {z TI TO i1 i2 l1 l2:Addr} {k1 k2:Nat} {xs ys:Ac} {a b:Am} {Q:Fin->Shared->Prop} (hh:A.handled=none) (D:ZipApart z TI TO i1 i2 l1 l2)
  (hz:IsZip s.heap z TI TO .none) (hTI:IsPair s.heap TI (.ref i1) (.ref i2)) (hTO:IsPair s.heap TO a b)
  (h1:ItAt b1 s.heap i1 l1 k1) (h2:ItAt b2 s.heap i2 l2 k2) (hl1:SqAt b1 s.heap l1 xs) (hl2:SqAt b2 s.heap l2 ys) (hend:xs[k1]?=none\/ys[k2]?=none)
  (hE:∀ h' e,(∀ c o,c≠z->c≠TO->c≠i1->c≠i2->s.heap.get? c=some o->h'.get? c=some o)->(∃ o,h'.get? e=some o/\o.cls=.type "StopIteration")->E (.ref e) { s with heap:=h' }) :
  wpAny (model prog w) A (Builtin.«zip.__next__» ⟨[.ref z],[]⟩) Q E s:=by
 show wpAny _ _ (field (.ref z) 2 >>= _) _ _ _
 refine ai (bj hz rfl (x:=.bool false) rfl ?_);show wpAny _ _ (field (.ref z) 3 >>= _) _ _ _
 refine ai (bj hz rfl (x:=.ref TI) rfl ?_);refine ai (bM hTI rfl ?_);show wpAny _ _ (Builtin.SmallTypes.ownedTupleIsFree (.ref z) >>= _) _ _ _
 refine ai ?_;unfold Builtin.SmallTypes.ownedTupleIsFree;refine ai (bj hz rfl (x:=.none) rfl (aG ?_));simp only [dL];refine ai (wpAny_rule ?_);refine ai (bj hz rfl (x:=.ref TO) rfl ?_);refine ai (b5 hz (by simp) λ h₁ hz₁ hs₁=>?_);replace hz₁:IsZip h₁ z TI TO .ellipsis:=hz₁;refine ai ?_;simp only [List.zipIdx_cons,List.zipIdx_nil,fR,List.forIn_nil];refine ai (ai (ef ?_));show wpAny _ _ (Builtin.SmallTypes.nextOf (.ref i1) >>= _) _ _ _
 cases hx:xs[k1]? with
 | none =>
  refine ai (Xx hh (h1.at' λ o e=>hs₁.extBut _ _ D.i1z e) (hl1.at' λ o e=>hs₁.extBut _ _ D.l1z e) hx λ h₂ e hs₂ he=>?_);obtain ⟨oe,hoe,hce⟩:=he;have hz₂:IsZip h₂ z TI TO .ellipsis:=hs₂ _ _ D.i1z.symm hz₁;have hez:e≠z:=λ x=>by subst x;rw [hz₂] at hoe;cases hoe;simp at hce
  refine b5 hz₂ (by simp) λ h₃ _ hs₃=>hE h₃ e (λ c o c1 _ c3 _ x=>hs₃.extBut _ _ c1 (hs₂ _ _ c3 (hs₁.extBut _ _ c1 x))) ⟨oe,hs₃.extBut _ _ hez hoe,hce⟩
 | some x =>
  have hy:ys[k2]?=none:=by rcases hend with h|h;rw [hx] at h;cases h;exact h
  refine ai (vW (h1.at' λ o e=>hs₁.extBut _ _ D.i1z e) (hl1.at' λ o e=>hs₁.extBut _ _ D.l1z e) hx λ h₂ h1₂ hs₂=>aG ?_);have hTO₂:IsPair h₂ TO a b:=hs₂.extBut _ _ D.TOi1 (hs₁.extBut _ _ D.TOz hTO);refine ai (bM hTO₂ rfl ?_);refine ai (dX hTO₂ λ h₃ hTO₃ hs₃=>?_);refine ai (wpAny_letGo (aG ?_));refine ai (ai (ef ?_));show wpAny _ _ (Builtin.SmallTypes.nextOf (.ref i2) >>= _) _ _ _
  refine ai (Xx hh (h2.at' λ o e=>hs₃.extBut _ _ D.TOi2.symm (hs₂.extBut _ _ D.i12.symm (hs₁.extBut _ _ D.i2z e)))
   (hl2.at' λ o e=>hs₃.extBut _ _ D.l2TO (hs₂.extBut _ _ D.l2i1 (hs₁.extBut _ _ D.l2z e))) hy λ h₄ e hs₄ he=>?_)
  obtain ⟨oe,hoe,hce⟩:=he;have hz₄:IsZip h₄ z TI TO .ellipsis:=hs₄ _ _ D.i2z.symm (hs₃.extBut _ _ D.TOz.symm (hs₂.extBut _ _ D.i1z.symm hz₁));have hez:e≠z:=λ x=>by subst x;rw [hz₄] at hoe;cases hoe;simp at hce
  refine b5 hz₄ (by simp) λ h₅ _ hs₅=>hE h₅ e (λ c o c1 c2 c3 c4 x=>hs₅.extBut _ _ c1 (hs₄ _ _ c4 (hs₃.extBut _ _ c2 (hs₂.extBut _ _ c3 (hs₁.extBut _ _ c1 x))))) ⟨oe,hs₅.extBut _ _ hez hoe,hce⟩
noncomputable abbrev zH1 (h:Heap) (b1:Bool) (l1:Addr):Heap:=h.push { cls:=.type (Q4 b1),data:=.fields #[.ref l1,.int 0 0] }
noncomputable abbrev zH2 (h:Heap) (b1 b2:Bool) (l1 l2:Addr):Heap:=(zH1 h b1 l1).push { cls:=.type (Q4 b2),data:=.fields #[.ref l2,.int 0 0] }
noncomputable abbrev zH3 (h:Heap) (b1 b2:Bool) (l1 l2:Addr):Heap:=(zH2 h b1 b2 l1 l2).push { cls:=.type "tuple",data:=.seq #[.ref h.objs.size,.ref (zH1 h b1 l1).objs.size] }
noncomputable abbrev zH4 (h:Heap) (b1 b2:Bool) (l1 l2:Addr):Heap:=(zH3 h b1 b2 l1 l2).push { cls:=.type "tuple",data:=.seq #[.none,.none] }
noncomputable abbrev zH5 (h:Heap) (b1 b2:Bool) (l1 l2:Addr):Heap:=(zH4 h b1 b2 l1 l2).push { cls:=.type "zip",data:=.fields #[.none,.bool false,.bool false,.ref (zH2 h b1 b2 l1 l2).objs.size,.ref (zH3 h b1 b2 l1 l2).objs.size] }
end
def zed {b1 b2:Bool} (l1 l2:Addr) (xs ys:Ac) :
  Meets (Builtin.«zip.__new__» ⟨[.type "zip",.ref l1,.ref l2],[]⟩) (λ _ R s=>SqAt b1 s.heap l1 xs/\SqAt b2 s.heap l2 ys /\
   R (.ok (.ret (.ref (zH4 s.heap b1 b2 l1 l2).objs.size))) { s with heap:=zH5 s.heap b1 b2 l1 l2 }) :=
 .of_wp λ prog w A R s h=>by
  obtain ⟨hp,g,d,tk,os⟩:=s;obtain ⟨hl1,hl2,h⟩:=h;have hsub:=sub_zip;have hL1:SqAt b1 (Shared.heap ⟨hp,g,d,tk,os⟩) l1 xs:=hl1;have hL2:SqAt b2 (Shared.heap ⟨hp.push { cls:=.type (Q4 b1),data:=.fields #[.ref l1,.int 0 0] },g,d,tk,os⟩) l2 ys:=hl2.at' λ o e=>aj _ e
  wp_walk using WD hL1,WD hL2
  exact ⟨_,rfl,h⟩
section
variable {prog:Af} {w:World} {A:Ao} {E:A3} {s:An}
def ItAt.new {h:Heap} {it l:Addr} (e:h.get? it=some { cls:=.type (Q4 b),data:=.fields #[.ref l,.int 0 0] }):ItAt b h it l 0:=by
 cases b <;> exact ⟨_,e,rfl,rfl⟩
def zga {b1 b2:Bool} {l1 l2:Addr} {xs ys:Ac} (hl1:SqAt b1 s.heap l1 xs) (hl2:SqAt b2 s.heap l2 ys)
  (h:∀ h',IsZip h' (s.heap.objs.size + 4) (s.heap.objs.size + 2) (s.heap.objs.size + 3) .none->IsPair h' (s.heap.objs.size + 2) (.ref s.heap.objs.size) (.ref (s.heap.objs.size + 1)) ->
   IsPair h' (s.heap.objs.size + 3) .none .none->ItAt b1 h' s.heap.objs.size l1 0->ItAt b2 h' (s.heap.objs.size + 1) l2 0->h'.objs.size=s.heap.objs.size + 5 ->
   (∀ c o,s.heap.get? c=some o->h'.get? c=some o)->Q (.ref (s.heap.objs.size + 4)) { s with heap:=h' }) :
  wpAny (model prog w) A (call (.type "zip") [.ref l1,.ref l2]) Q E s:=by
 refine callType_new F.called_zip (by decide) (F.typeCall_zip_2 _ _) (F.newCall_zip_2 _ _) (λ obj=>F.args_object_init_3 obj _ _) F.entry_zip_new
  (zed (b1:=b1) (b2:=b2) l1 l2 xs ys) ⟨hl1,hl2,?_⟩
 have z1:(zH1 s.heap b1 l1).objs.size=s.heap.objs.size + 1:=bY ..;have z2:(zH2 s.heap b1 b2 l1 l2).objs.size=s.heap.objs.size + 2:=by rw [bY,z1]
 have z3:(zH3 s.heap b1 b2 l1 l2).objs.size=s.heap.objs.size + 3:=by rw [bY,z2]
 have z4:(zH4 s.heap b1 b2 l1 l2).objs.size=s.heap.objs.size + 4:=by rw [bY,z3]
 have z5:(zH5 s.heap b1 b2 l1 l2).objs.size=s.heap.objs.size + 5:=by rw [bY,z4]
 have g5:(zH5 s.heap b1 b2 l1 l2).get? (zH4 s.heap b1 b2 l1 l2).objs.size=some _:=aB _ rfl;have g4:(zH5 s.heap b1 b2 l1 l2).get? (zH3 s.heap b1 b2 l1 l2).objs.size=some _:=aj _ (aB _ rfl);have g3:(zH5 s.heap b1 b2 l1 l2).get? (zH2 s.heap b1 b2 l1 l2).objs.size=some _:=aj _ (aj _ (aB _ rfl));have g2:(zH5 s.heap b1 b2 l1 l2).get? (zH1 s.heap b1 l1).objs.size=some _:=aj _ (aj _ (aj _ (aB _ rfl)));have g1:(zH5 s.heap b1 b2 l1 l2).get? s.heap.objs.size=some _:=aj _ (aj _ (aj _ (aj _ (aB _ rfl))));show _/\_
 rw [z2,z3,z4] at g5;rw [z1,z2] at g3;rw [z3] at g4;rw [z1] at g2;rw [z4];exact ⟨⟨_,g5,rfl⟩,h _ g5 g3 g4 (ItAt.new g1) (ItAt.new g2) z5 λ c o x =>
  aj _ (aj _ (aj _ (aj _ (aj _ x))))⟩
end
def SqB (b:Bool) (K:A0) (H:Hp) (a:Addr) (xs:Ap):Prop:=if b=true then SqL K H a xs else SqT K H a xs
def Inv.sqB {o6:A2} {σ:St} {H:Hp} {s:An} {a:Addr} {xs:Ap} (I:Inv X o6 σ H s) (h:SqB b X.K H a xs):∃ oo:List Value,Vals xs oo/\SqAt b s.heap a oo.toArray:=by
 cases b
 ·obtain ⟨oo,r,p,_⟩:=I.tuple (show SqT X.K H a xs from h);exact ⟨oo,r,p⟩
 ·obtain ⟨oo,r,p,_⟩:=I.list (show SqL X.K H a xs from h);exact ⟨oo,r,p.isList⟩
def Inv.sqB_inj {o6:A2} {σ:St} {H:Hp} {s:An} {a:Addr} {xs ys:Ap} (I:Inv X o6 σ H s) (h1:SqB b X.K H a xs) (h2:SqB b X.K H a ys):xs=ys:=by
 cases b
 ·exact I.tuple_inj (show SqT X.K H a xs from h1) (show SqT X.K H a ys from h2)
 ·exact I.list_inj (show SqL X.K H a xs from h1) (show SqL X.K H a ys from h2)
noncomputable def Itz (K:A0) (b1 b2:Bool) (a1 a2:Addr):It :=
 ⟨λ i H=>∃ xs ys x y,SqB b1 K H a1 xs/\SqB b2 K H a2 ys/\xs[i]?=some x/\ys[i]?=some y,
   λ i H v H'=>∃ t x y,H t=none/\v=.ref t/\(∀ xs,SqB b1 K H a1 xs->xs[i]?=some x)/\(∀ ys,SqB b2 K H a2 ys->ys[i]?=some y)/\H'=upd H t (.tup [x,y]),
   λ i H=>∃ xs ys,SqB b1 K H a1 xs/\SqB b2 K H a2 ys/\(xs.length<=i\/ys.length<=i)⟩
def SqB.there {o6:A2} {σ:St} {H:Hp} {s:An} {a:Addr} {xs:Ap} (I:Inv X o6 σ H s) (h:SqB b X.K H a xs):∃ o,s.heap.get? a=some o/\(o.cls=.type "list"\/o.cls=.type "tuple")/\∃ oo n,o.data=.seq oo n:=by
 obtain ⟨oo,_,p⟩:=I.sqB h;cases b
 ·obtain ⟨o,e,c,n,d⟩:=p;exact ⟨o,e,.inr c,_,n,d⟩
 ·obtain ⟨o,e,c,n,d⟩:=p;exact ⟨o,e,.inl c,_,n,d⟩
def zeM {P:Af} {w:World} {K:A0} {elts:List Expr} {x1} {pos:Pos} {b1 b2:Bool} (z TI TO i1 i2 l1 l2:Addr) (D:ZipApart z TI TO i1 i2 l1 l2) :
  Turn P w K (.Tuple elts x1 pos) (Itz K b1 b2 l1 l2) [z,TI,TO,i1,i2] z (λ i h=>IsZip h z TI TO .none/\IsPair h TI (.ref i1) (.ref i2)/\(∃ a b,IsPair h TO a b)/\ItAt b1 h i1 l1 i/\ItAt b2 h i2 l2 i) where
 mem:=by simp
 obj:=λ i h st b hb=>by
  obtain ⟨hz,hTI,⟨a,b',hTO⟩,h1,h2⟩:=st;simp only [ar,a9,bz] at hb;rcases hb with rfl|rfl|rfl|rfl|rfl
  ·exact ⟨_,hz,λ v z=>by cases z⟩
  ·exact ⟨_,hTI,λ v z=>by cases z⟩
  ·exact ⟨_,hTO,λ v z=>by cases z⟩
  ·exact h1.obj
  ·exact h2.obj
 keep:=λ i h h' st k=>by
  obtain ⟨hz,hTI,⟨a,b',hTO⟩,h1,h2⟩:=st;exact ⟨k z (by simp) _ hz,k TI (by simp) _ hTI,⟨a,b',k TO (by simp) _ hTO⟩,h1.at' λ o e=>k i1 (by simp) o e,h2.at' λ o e=>k i2 (by simp) o e⟩
 item:=by
  intro X hP hw hK hc i o6 s σ H E I hf st hg;subst hP hw hK;obtain ⟨hz,hTI,⟨a,b',hTO⟩,h1,h2⟩:=st;obtain ⟨xs,ys,x,y,q1,q2,hx,hy⟩:=hg;obtain ⟨its1,r1,p1⟩:=I.sqB q1;obtain ⟨its2,r2,p2⟩:=I.sqB q2;obtain ⟨u1,hu1,ru1⟩:=r1.get hx;obtain ⟨u2,hu2,ru2⟩:=r2.get hy;have hT:s.TypeIs (.ref z) "zip":=⟨_,hz,rfl⟩;unfold pyNext;refine ai (gD (cH (name:=Str.ofString "__next__") hT dS (dH dS hT F.entry_zip_next
   (zeJ D hz hTI hTO h1 h2 p1 p2 (x:=u1) (y:=u2) (by simpa using hu1) (by simpa using hu2) λ h' a1 a2 a3 a4 a5 a6 hk=>aG ?_) (F.args_zip_next_1 _))))
  refine ⟨_,rfl,?_⟩;have I1:Inv X o6 σ (upd H s.heap.objs.size (.tup [x,y])) { s with heap:=h' }:=I.turnNew (t':=s.toks) hf (au _) (λ b o hb q=>hk b o (λ z=>hb (by simp [z])) (λ z=>hb (by simp [z])) (λ z=>hb (by simp [z])) (λ z=>hb (by simp [z])) q)
   ⟨by show 2<=sizeLine;decide,[u1,u2],.cons ru1 (.cons ru2 .nil),⟨_,a5,rfl,_,rfl⟩⟩
  have hn:H s.heap.objs.size=none:=I.hok.fresh (au _);have ne:∀ b∈[z,TI,TO,i1,i2],b≠s.heap.objs.size:=λ b hb=>by
   have:∃ o,s.heap.get? b=some o:=by
    simp only [ar,a9,bz] at hb;rcases hb with rfl|rfl|rfl|rfl|rfl
    ·exact ⟨_,hz⟩
    ·exact ⟨_,hTI⟩
    ·exact ⟨_,hTO⟩
    ·exact let ⟨o,e,_⟩:=h1.obj;⟨o,e⟩
    ·exact let ⟨o,e,_⟩:=h2.obj;⟨o,e⟩
   obtain ⟨o,e⟩:=this;exact aR (aA e)
  have fr:∀ b∈[z,TI,TO,i1,i2],(upd H s.heap.objs.size (.tup [x,y])) b=none:=λ b hb=>by rw [oC (ne b hb)];exact (hf b hb).1
  have hTI':IsPair h' TI (.ref i1) (.ref i2):=hk _ _ D.TIz D.TITO D.TIi1 D.TIi2 hTI;refine wpAny_letOwnedTupleGo_zip a1 λ h'' hz'' hs''=>?_;refine ⟨.ref s.heap.objs.size,_,I1.turnL (t':=s.toks) (ch:=[z]) (λ b hb=>?_) (λ b o hb q=>(hs''.2 b (λ z=>hb (by simp [z]))).trans q),rfl,
   ⟨s.heap.objs.size,x,y,hn,rfl,λ zs hy=>by rw [I.sqB_inj hy q1];exact hx,λ zs hz=>by rw [I.sqB_inj hz q2];exact hy,rfl⟩,
   ⟨hz'',hs''.extBut _ _ D.TIz hTI',⟨_,_,hs''.extBut _ _ D.TOz a2⟩,a3.at' λ o e=>hs''.extBut _ _ D.i1z e,a4.at' λ o e=>hs''.extBut _ _ D.i2z e⟩,fr⟩
  obtain rfl:b=z:=by simpa using hb
  exact ⟨fr b (by simp),(hf b (by simp)).2⟩
 done:=by
  intro X hP hw hK hc i o6 s σ H E I hf st hg;subst hP hw hK;obtain ⟨hz,hTI,⟨a,b',hTO⟩,h1,h2⟩:=st;obtain ⟨xs,ys,q1,q2,hx⟩:=hg;obtain ⟨its1,r1,p1⟩:=I.sqB q1;obtain ⟨its2,r2,p2⟩:=I.sqB q2;have e1:=r1.length;have e2:=r2.length;have hT:s.TypeIs (.ref z) "zip":=⟨_,hz,rfl⟩;have hend:its1.toArray[i]?=none\/its2.toArray[i]?=none:=by
   rcases hx with h|h
   ·exact .inl (by simp;lia)
   ·exact .inr (by simp;lia)
  unfold pyNext;refine ai (gD (cH (name:=Str.ofString "__next__") hT dS
   (dH dS hT F.entry_zip_next (zgp (I.ok.hd hc) D hz hTI hTO h1 h2 p1 p2 hend λ h' e hk he=>?_) (F.args_zip_next_1 _))))
  obtain ⟨o,ho,hcl⟩:=he;refine ai (wpAny_isInstance (T:="StopIteration") (b:=true) ⟨o,ho,hcl⟩ isSubtype_stop ?_);exact aG ⟨rfl,I.turnL (t':=s.toks) hf λ b o hb q=>hk b o (λ z=>hb (by simp [z])) (λ z=>hb (by simp [z])) (λ z=>hb (by simp [z])) (λ z=>hb (by simp [z])) q⟩
 self:=λ _ _ _ _ _ st h=>wpAny_pyIter_zip st.1 h
def zdy (n l1 l2:Nat) (h1:l1 < n) (h2:l2 < n):ZipApart (n + 4) (n + 2) (n + 3) n (n + 1) l1 l2:=by
 constructor <;> (show (_:Nat)≠_) <;> lia
def iZip (X:Cx) (ta:TA):TI:=λ σ H R=>X.mg "zip"=none/\ta σ H λ vs H1=>∃ b1 b2 l1 l2 xs ys,vs=[.ref l1,.ref l2]/\SqB b1 X.K H1 l1 xs/\SqB b2 X.K H1 l2 ys/\R (Itz X.K b1 b2 l1 l2) H1
def zfn {a b:Expr} {elts:List Expr} {x1} {tp p pos:Pos} {ta:TA} (ha:PA X [a,b] ta) (hg:Gl X "zip":=by rfl)
  (hs:starEach [a,b] X.env=(false,eval a X.env) :: starEach [b] X.env:=by rfl) (hpl:(backTo pos (starEach [b] X.env)).any (·.1)=false:=by rfl) :
  PI X (.Tuple elts x1 tp) (.Call (.Name "zip" p) [a,b] [] pos) (iZip X ta):=by
 intro o6 s σ H R I h;refine bt (vp I hg h.1 ziM ?_);refine bb (vF (ha pos o6 s σ H _ I h.2) λ us s1 vs H1 I1 r1 q1=>?_) hs hpl;obtain ⟨b1,b2,l1,l2,xs,ys,rfl,q1,q2,hR⟩:=q1;obtain ⟨u1,u2,rfl,rx,ry⟩:=zhw r1;cases rx;cases ry;obtain ⟨its1,rv1,p1⟩:=I1.sqB q1;obtain ⟨its2,rv2,p2⟩:=I1.sqB q2;obtain ⟨o1,e1,_⟩:=SqB.there I1 q1;obtain ⟨o2,e2,_⟩:=SqB.there I1 q2;have n1:=aA e1;have n2:=aA e2;refine zga p1 p2 λ h' hz hTI hTO h1 h2 hsz hk=>wpAny_pyIter_zip hz ?_;refine ⟨s1.heap.objs.size + 4,[s1.heap.objs.size + 4,s1.heap.objs.size + 2,s1.heap.objs.size + 3,s1.heap.objs.size,s1.heap.objs.size + 1],_,_,H1,rfl,I1.kept (t':=s1.toks) hk,
  zeM _ _ _ _ _ l1 l2 (zdy _ _ _ n1 n2),⟨hz,hTI,⟨_,_,hTO⟩,h1,h2⟩,λ b hb=>?_,hR⟩
 have ge:s1.heap.objs.size<=b:=by
  simp only [ar,a9,bz] at hb;rcases hb with rfl|rfl|rfl|rfl|rfl
  ·exact dj _ _
  ·exact dj _ _
  ·exact dj _ _
  ·exact au _
  ·exact dj _ _
 exact I1.fpOk ge (I1.hok.fresh ge)
section
variable {K:A0} {σ:St} {H:Hp}
def XR {a:Addr} {xs:Ap} {DN:St->Hp->Prop} {B:(St->Hp->Prop)->V->St->Hp->Prop} (Pv:Nat->St->Hp->Prop) (h0:Pv 0 σ H) (hl:∀ i σ H,i<=xs.length->Pv i σ H->SqL K H a xs)
  (hs:∀ i x t σ H,xs[i]?=some x->H t=none->Pv i σ H->B (Pv (i + 1)) (.ref t) σ (upd H t (.tup [.int i,x]))) (hd:∀ σ H,Pv xs.length σ H->DN σ H) :
  ∃ W:Nat->Nat->St->Hp->Prop,(∃ m,W 0 m σ H)/\∀ i m σ H,W i m σ H ->
   ((Ite K a).stop i H/\DN σ H)\/((Ite K a).go i H/\∃ N:St->Hp->Prop,(∀ σ' H',N σ' H'->∃ m',m' < m/\W (i + 1) m' σ' H')/\∀ x H',(Ite K a).yld i H x H'->B N x σ H'):=by
 refine ⟨λ i m σ H=>m=xs.length - i/\i<=xs.length/\Pv i σ H,⟨xs.length,by simp,bA _,h0⟩,?_⟩;rintro i m σ H ⟨rfl,hi,p⟩;have q:=hl i σ H hi p;by_cases hlt:i < xs.length
 ·refine .inr ⟨⟨xs,xs[i],q,by simp [hlt]⟩,Pv (i + 1),λ σ' H' p'=>⟨xs.length - (i + 1),by lia,rfl,hlt,p'⟩,λ v H' y=>?_⟩;obtain ⟨t,x,ht,rfl,hx,rfl⟩:=y;exact hs i x t σ _ (hx xs q) ht p
 ·have e:i=xs.length:=by lia
  subst e;exact .inl ⟨⟨xs,q,au _⟩,hd σ H p⟩
def zhH {b1 b2:Bool} {a1 a2:Addr} {xs ys:Ap} {DN:St->Hp->Prop} {B:(St->Hp->Prop)->V->St->Hp->Prop} (Pv:Nat->St->Hp->Prop) (h0:Pv 0 σ H) (hl:∀ i σ H,i<=min xs.length ys.length->Pv i σ H->SqB b1 K H a1 xs/\SqB b2 K H a2 ys)
  (hs:∀ i x y t σ H,xs[i]?=some x->ys[i]?=some y->H t=none->Pv i σ H->B (Pv (i + 1)) (.ref t) σ (upd H t (.tup [x,y]))) (hd:∀ σ H,Pv (min xs.length ys.length) σ H->DN σ H) :
  ∃ W:Nat->Nat->St->Hp->Prop,(∃ m,W 0 m σ H)/\∀ i m σ H,W i m σ H ->
   ((Itz K b1 b2 a1 a2).stop i H/\DN σ H)\/((Itz K b1 b2 a1 a2).go i H/\∃ N:St->Hp->Prop,(∀ σ' H',N σ' H'->∃ m',m' < m/\W (i + 1) m' σ' H')/\∀ x H',(Itz K b1 b2 a1 a2).yld i H x H'->B N x σ H'):=by
 refine ⟨λ i m σ H=>m=min xs.length ys.length - i/\i<=min xs.length ys.length/\Pv i σ H,⟨min xs.length ys.length,by simp,bA _,h0⟩,?_⟩;rintro i m σ H ⟨rfl,hi,p⟩;obtain ⟨q1,q2⟩:=hl i σ H hi p;by_cases hlt:i < min xs.length ys.length
 ·have l1:i < xs.length:=by lia
  have l2:i < ys.length:=by lia
  refine .inr ⟨⟨xs,ys,xs[i],ys[i],q1,q2,by simp [l1],by simp [l2]⟩,Pv (i + 1),λ σ' H' p'=>⟨min xs.length ys.length - (i + 1),by lia,rfl,hlt,p'⟩,λ v H' y=>?_⟩;obtain ⟨t,x,y,ht,rfl,hx,hy,rfl⟩:=y;exact hs i x y t σ _ (hx xs q1) (hy ys q2) ht p
 ·have e:i=min xs.length ys.length:=by lia
  subst e;exact .inl ⟨⟨xs,ys,q1,q2,by lia⟩,hd σ H p⟩
end
section
variable {X:Cx} {N:A8} {scope:Scope} {s:An} {H:Hp} {fp:Ab} {o6:A2}
theorem cxC_K:(cxC X N scope s H fp o6).K=X.K:=rfl
theorem cxC_mg:(cxC X N scope s H fp o6).mg=X.mg:=rfl
theorem cxC_prog:(cxC X N scope s H fp o6).prog=X.prog:=rfl
theorem cxC_w:(cxC X N scope s H fp o6).w=X.w:=rfl
theorem cxC_base:(cxC X N scope s H fp o6).base=X.base:=rfl
end
structure BCal (P:Af) (w:World) (K:A0) (mg:A4) (base:Heap) (x m:Str) (k:Nat) (ps:A8) (dvs:Ap) (sp:Sp):Prop where
 ex:∃ C f fd ds,mg x=some (.ref C)/\specialIn K (.ref C) "__getattribute__"=some (some (.builtin "type.__getattribute__"))/\readsIn K C (.type "type")=true /\
  findCls K (.ref C) (.type "type") m=some (.val (.ref f))/\handedIn (.ref f)=true/\FnOk P w K mg base (CXr P w) k f fd ps sp/\keepIn K (.ref f)=true/\Binds K fd ps ds/\Vals dvs ds
def BCal.mono {P:Af} {w:World} {K:A0} {mg:A4} {base:Heap} {x m:Str} {j k:Nat} {ps:A8} {dvs:Ap} {sp:Sp} (c:BCal P w K mg base x m j ps dvs sp) (h:j<=k:=by decide):BCal P w K mg base x m k ps dvs sp:=by
 obtain ⟨C,f,fd,ds,a,b,c,d,e,g,r⟩:=c.ex;exact ⟨C,f,fd,ds,a,b,c,d,e,g.mono h,r⟩
section
variable {X:Cx} {G:GK} {k:Nat} {x m:Str} {p pos apos:Pos} {e:Expr} {es:List Expr} {t:TA}
def tBase (X:Cx) (k:Nat) (x m:Str) (G:GK) (t:TA):TE:=λ σ H Q=>∃ ps dvs sp,BCal X.prog X.w X.K X.mg X.base x m k ps dvs sp/\t σ H λ vs H1=>sp (vs ++ dvs) H1 Q (λ cls _ H'=>G cls σ H')
def Zp {pl:Sem Bool} (B:Bod X) (hr:Room k X.A) (ha:PA (X.exg G) (e :: es) t) (hg:Gl X x:=by rfl) (hdb:(x == ("__debug__":Str))=false:=by decide)
  (hst:starEach (e :: es) X.env=(false,eval e X.env) :: starEach es X.env:=by rfl) (hpl:(backTo pos (starEach es X.env)).any (·.1)=false:=by rfl)
  (ht:eval (.Call (.Attribute (.Name x p) m apos) (e :: es) [] pos) X.env=(do
   let ov <- eval (.Name x p) X.env
   standAt apos.atName
   let (f,first) <- holding [ov] (getMethod ov m pl)
   callWith pos f first (backTo pos (starEach (e :: es) X.env)) (backToKw pos (keywordEach [] X.env))):=by rfl) :
  PE (X.exg G) (.Call (.Attribute (.Name x p) m apos) (e :: es) [] pos) (tBase X k x m G t):=by
 intro o6 s σ H Q I h;obtain ⟨ps,dvs,sp,⟨C,f,fd,ds,hm,hga,hrd,hfc,hhd,F,hk,hb,hd⟩,h⟩:=h;refine dI (pl:=pl) (jS I hg hm ?_ hdb) ht;refine PySem.W.method_cls I.kIn hga (PySem.W.cls_value I.kIn hrd hfc hhd ?_);have I0:=I.tok (s.toks + 1);refine dr (first:=[]) (h₀:=X.base) I.ok.mod.kin hk (vF (ha pos o6 _ σ H _ I0 h) λ us s1 vs H1 I1 r q=>⟨I1.kIn,?_⟩) hst hpl;exact JK B F hr hb hd I1 r q
end
structure FB (K:A0) (mg:A4) (x m qual:Str) (st:Stmt) (ps:A8):Prop where
 ex:∃ C f fd,mg x=some (.ref C)/\specialIn K (.ref C) "__getattribute__"=some (some (.builtin "type.__getattribute__"))/\readsIn K C (.type "type")=true /\
  findCls K (.ref C) (.type "type") m=some (.val (.ref f))/\Fun K m qual st f fd/\keepIn K (.ref f)=true/\Binds K fd ps []
def FB.cal {P:Af} {w:World} {K:A0} {mg:A4} {base:Heap} {x m qual:Str} {st:Stmt} {ps:A8} {k:Nat} {sp:Sp} (h:FB K mg x m qual st ps)
  (ok:∀ {f fd},Fun K m qual st f fd->FnOk P w K mg base (CXr P w) k f fd ps sp):BCal P w K mg base x m k ps [] sp:=by
 obtain ⟨C,f,fd,a,b,c,d,F,kp,bi⟩:=h.ex;exact ⟨C,f,fd,[],a,b,c,d,rfl,ok F,kp,bi,.nil⟩
def zjz {K:A0} {mg:A4} {C:Addr} {x m qual:Str} {st:Stmt} {ps:A8} {f:Addr} {oc:Am} {od an:Aa} {osl:Ae} {kV doc pm cdv ct:Am} (gl:mg x=some (.ref C))
  (ga:specialIn K (.ref C) "__getattribute__"=some (some (.builtin "type.__getattribute__"))) (rd:readsIn K C (.type "type")=true) (fc:findCls K (.ref C) (.type "type") m=some (.val (.ref f)))
  (l:K.lookup f=some ⟨oc,od,.func (fnOf m qual (qf st) (z6 st) (zg st) .none kV doc pm an cdv ct),osl⟩)
  (c:codeIn K cdv qual=true) (k:keepIn K (.ref f)=true)
  (hb:∀ (kV doc pm:Am) (an:Aa) (cdv ct:Am) (us:A7),us.length=ps.length->bindArgs (fnOf m qual (qf st) (z6 st) (zg st) .none kV doc pm an cdv ct) ⟨us,[]⟩=pure (ps.zip us)):FB K mg x m qual st ps :=
 ⟨C,f,_,gl,ga,rd,fc,vy l c k,k,(vy l c k).binds hb⟩
section
variable {X:Cx} {a b:Expr} {ta:TA} {p pos lp lpos:Pos}
noncomputable def rgL (lo:Int) (n:Nat):List V:=(List.range n).map λ (i:Nat)=>V.int (lo + (i:Int))
def zbJ {lo:Int} {n:Nat} {oq:Ac} (h:ItemsOf (λ i v=>∃ t,v=.int (lo + i * 1) t) oq n):Vals (rgL lo n) oq.toList:=by
 have key:∀ (k:Nat) (l:A7) (m:Nat),l.length=m->(∀ i v,l[i]?=some v->∃ t,v=Value.int (lo + ((k + i:Nat):Int)) t)->Vals ((List.range' k m).map λ (i:Nat)=>V.int (lo + (i:Int))) l:=by
  intro k l
  induction l generalizing k with
  | nil=>intro m hm _;simp at hm;subst hm;exact .nil
  | cons x r ih =>
   intro m hm hv;obtain ⟨m,rfl⟩:∃ m',m=m' + 1:=⟨r.length,by simpa using hm.symm⟩;rw [List.range'_succ,bE];refine .cons ?_ (ih (k + 1) m (by simpa using hm) λ i v e=>?_)
   ·obtain ⟨t,e⟩:=hv 0 x rfl;exact ⟨t,by simpa using e⟩
   ·obtain ⟨t,e'⟩:=hv (i + 1) v (by simpa using e);exact ⟨t,by rw [e'];congr 2;lia⟩
 have:=key 0 oq.toList n (by simpa using h.1) λ i v e=>by
  obtain ⟨t,e'⟩:=h.2 i v (by simpa using e);exact ⟨t,by rw [e'];simp⟩
 rw [rgL,List.range_eq_range'];exact this
def tRg1 (X:Cx) (ta:TA):TE:=λ σ H Q=>X.mg "range"=none/\ta σ H λ vs H1=>lq vs λ v=>iq v λ j=>∀ p,H1 p=none->Q (.ref p) (upd H1 p (.rng 0 j))
def zic (ha:PA X [a] ta) (hg:Gl X "range":=by rfl) (hs:starEach [a] X.env=[(false,eval a X.env)]:=by rfl):PE X (.Call (.Name "range" p) [a] [] pos) (tRg1 X ta):=by
 intro o6 s σ H Q I h;refine Call_ (vp I hg h.1 boot_range (bb (vF (ha pos o6 s σ H _ I h.2) λ us s1 vs H1 I1 r1 q1=>?_) hs rfl));obtain ⟨j,e,q⟩:=zfE q1;subst e;cases r1 with
 | cons r rr =>
  cases rr;obtain ⟨t,rfl⟩:=r;exact call_range_1 ⟨.ref _,_,I1.laid (o:=.rng 0 j) (λ b o e=>aj _ e) (au _) ⟨_,_,_,aB _ rfl⟩,rfl,q _ I1.fresh⟩
def zb3 {lo:Int} {n:Nat}:(rgL lo n).length=n:=by simp [rgL]
def zgg (hc:X.calm=true):CallR X (.type "list") (λ xs H Q=>∃ p lo hi,xs=[.ref p]/\H p=some (.rng lo hi)/\(-(2 ^ 62)<=lo/\lo < 2 ^ 62/\-(2 ^ 62)<=hi/\hi < 2 ^ 62/\(hi - lo).toNat<=1000)/\∀ l,H l=none->Q (.ref l) (upd H l (.lst (rgL lo (hi - lo).toNat)))):=by
 intro o6 s σ H xs us Q I r h;obtain ⟨p,lo,hi,rfl,hq,⟨h1,h2,h3,h4,h5⟩,q⟩:=h;obtain ⟨u,rfl,rx⟩:=ZC r;cases rx;obtain ⟨t,u,v,e⟩:=I.hok p _ hq;refine call_list_range (n:=(hi - lo).toNat) (I.ok.hd hc) e (small_one h1 h2 h3 h4) (by rw [rangeSize_one];split <;> lia) (by lia) λ h' tk acc' c' hk hS hit=>?_;exact ⟨.ref _,_,I.laid (o:=.lst (rgL lo (hi - lo).toNat)) (t':=tk) hk (au _) ⟨by rw [zb3];exact bU (zn h5),acc'.toList,c',zbJ hit,by simpa using hS⟩,rfl,q _ I.fresh⟩
end
end L2
namespace L2
open PySem PySem.Spec PyProof.Rows
noncomputable def Itd (lo:Int) (n:Nat):It:=⟨λ i _=>i < n,λ i H x H'=>H'=H/\x=.int (lo - i),λ i _=>n<=i⟩
def zdB {P:Af} {w:World} {K:A0} {tg:Expr} (it:Addr) (lo:Int) (n:Nat):Turn P w K tg (Itd lo n) [it] it (λ i h=>IsRangeIter h it (lo + (i:Nat) * (-1)) ((n:Int) - (i:Nat)) (-1)) where
 mem:=by simp
 obj:=λ i h st b hb=>by
  have e:b=it:=by simpa using hb
  subst e;exact ⟨_,st,λ v z=>by
   have z':Data.fields _=Data.cell v:=z;cases z'⟩
 keep:=λ i h h' st k=>k it (by simp) _ st
 item:=by
  intro X hP hw hK hc i o6 s σ H E I hf st hg;subst hP hw hK;obtain ⟨f0,f1,f2,f3,f4,f5⟩:=hf it (by simp);have W:=Walks.range (prog:=X.prog) (w:=X.w) (I.ok.hd hc) it lo (-1) n;refine W.item i s _ _ hg st λ v h' tk hv st' kk=>?_;obtain ⟨t,rfl⟩:=hv;have I1:Inv X o6 σ H { s with heap:=h',toks:=tk }:=I.turned (λ b o hb e=>kk b o (by simpa using hb) e) f0 f1 f3 f4 f5;refine ⟨_,rfl,WU (s:={ s with heap:=h',toks:=tk }) (n:="range_iterator") st' rfl rfl (by decide) ⟨.int (lo - i),H,I1,⟨t,?_⟩,⟨rfl,rfl⟩,st',λ b hb=>(hf b hb).1⟩⟩
  congr 1;lia
 done:=by
  intro X hP hw hK hc i o6 s σ H E I hf st hg;subst hP hw hK;obtain ⟨f0,f1,f2,f3,f4,f5⟩:=hf it (by simp);exact wpAny_pyNext_range_end (I.ok.hd hc) st (by have:n<=i:=hg;lia) λ h' eb=>⟨rfl,I.turned (t':=s.toks) (λ b o hb e=>eb b o hb e) f0 f1 f3 f4 f5⟩
 self:=λ _ _ _ _ _ st h=>wpAny_pyIter_rangeiter st h
def vS (a b:Int):Builtin.Range.rangeSize a b (-1)=((a - b).toNat:Int):=by
 unfold Builtin.Range.rangeSize;rw [ao (by decide),show (- (-1:Int))=1 from rfl,Int.ediv_one]
 split <;> lia
def zbS {a b:Int} (ha:-(2 ^ 62)<=a) (ha':a < 2 ^ 62) (hb:-(2 ^ 62)<=b) (hb':b < 2 ^ 62):Builtin.Range.small a b (-1)=true:=by
 unfold Builtin.Range.small;rw [vS];simp only [Builtin.Range.rangeFitsLong,b9,Bool.or_eq_true,da,bD,show ¬ ((-1:Int) > 0) by decide,cx]
 lia
section
variable {X:Cx} {tg:Expr}
def zhe {o6:A2} {σ:St} {H:Hp} {s:An} {R:It->Hp->Prop} {E:A3} {lo hi:Int} {t u v:Tok} {tk:Nat} (I:Inv X o6 σ H s) (h1:-(2 ^ 62)<=lo) (h2:lo < 2 ^ 62) (h3:-(2 ^ 62)<=hi) (h4:hi < 2 ^ 62)
  (q:R (Itd lo (lo - hi).toNat) H):wpAny (model X.prog X.w) X.A (pyIter (.ref s.heap.objs.size)) (PIE X o6 σ tg R) E { s with heap:=s.heap.push { cls:=.type "range",data:=.fields #[.int lo t,.int hi u,.int (-1) v] },toks:=tk }:=by
 refine wpAny_pyIter_range (IsRange.new ..) (zbS h1 h2 h3 h4) ?_;have I1:Inv X o6 σ H { s with heap:=s.heap.push { cls:=.type "range",data:=.fields #[.int lo t,.int hi u,.int (-1) v] },toks:=tk }:=I.kept λ b o e=>aj _ e;refine ⟨(s.heap.push { cls:=.type "range",data:=.fields #[.int lo t,.int hi u,.int (-1) v] }).objs.size,[(s.heap.push { cls:=.type "range",data:=.fields #[.int lo t,.int hi u,.int (-1) v] }).objs.size],_,_,H,rfl,
  I1.kept (t':=tk) λ b o e=>aj _ e,zdB _ lo (lo - hi).toNat,?_,λ b hb=>?_,q⟩
 ·have e1:lo + ((0:Nat):Int) * (-1)=lo:=by simp
  have e2:(((lo - hi).toNat:Nat):Int) - ((0:Nat):Int)=Builtin.Range.rangeSize lo hi (-1):=by rw [vS];lia
  show IsRangeIter _ _ (lo + ((0:Nat):Int) * (-1)) ((((lo - hi).toNat:Nat):Int) - ((0:Nat):Int)) (-1)
  rw [e1,e2];exact aB _ rfl
 ·have e:b=(s.heap.push { cls:=.type "range",data:=.fields #[.int lo t,.int hi u,.int (-1) v] }).objs.size:=by simpa using hb
  subst e;exact I1.fpOk (au _) (I1.hok.fresh (au _))
def iRng3 (X:Cx) (ta:TA):TI:=λ σ H R=>X.mg "range"=none/\ta σ H λ vs H1=>∃ i j:Int,vs=[.int i,.int j,.int (-1)]/\(-1000<=i/\i < 1000/\-1000<=j/\j < 1000)/\R (Itd i (i - j).toNat) H1
theorem zia {a b c:Expr} {ta:TA} {p pos:Pos} (ha:PA X [a,b,c] ta) (hg:Gl X "range":=by rfl) (hs:starEach [a,b,c] X.env=[(false,eval a X.env),(false,eval b X.env),(false,eval c X.env)]:=by rfl) (hs2:starEach [b,c] X.env=[(false,eval b X.env),(false,eval c X.env)]:=by rfl) :
  PI X tg (.Call (.Name "range" p) [a,b,c] [] pos) (iRng3 X ta):=by
 intro o6 s σ H R I h;refine Call_ (vp I hg h.1 boot_range (bb (vF (ha pos o6 s σ H _ I h.2) λ us s1 vs H1 I1 r1 q1=>?_) (by rw [hs,hs2]) (by rw [hs2];rfl)));obtain ⟨i,j,e,⟨q1,q2,q3,q4⟩,q⟩:=q1;subst e;cases r1 with
 | cons r rr =>
  cases rr with
  | cons r' rr =>
   cases rr with
   | cons r'' rr =>
    cases rr;obtain ⟨t,rfl⟩:=r;obtain ⟨t',rfl⟩:=r';obtain ⟨t'',rfl⟩:=r'';exact call_range_3 (by decide) (zhe I1 (by lia) (by lia) (by lia) (by lia) q) (Or.inl (fJ (by lia)))
def zjv {K:A0} {σ:St} {H:Hp} {lo:Int} {n:Nat} {DN:St->Hp->Prop} {B:(St->Hp->Prop)->V->St->Hp->Prop} (Pv:Nat->St->Hp->Prop) (h0:Pv 0 σ H)
  (hs:∀ i σ H,i < n->Pv i σ H->B (Pv (i + 1)) (.int (lo - i)) σ H) (hd:∀ σ H,Pv n σ H->DN σ H) :
  ∃ W:Nat->Nat->St->Hp->Prop,(∃ m,W 0 m σ H)/\∀ i m σ H,W i m σ H ->
   ((Itd lo n).stop i H/\DN σ H)\/((Itd lo n).go i H/\∃ N:St->Hp->Prop,(∀ σ' H',N σ' H'->∃ m',m' < m/\W (i + 1) m' σ' H')/\∀ x H',(Itd lo n).yld i H x H'->B N x σ H'):=by
 refine ⟨λ i m σ H=>m=n - i/\i<=n/\Pv i σ H,⟨n,by simp,bA _,h0⟩,?_⟩;rintro i m σ H ⟨rfl,hi,p⟩;by_cases hlt:i < n
 ·refine .inr ⟨hlt,Pv (i + 1),λ σ' H' p'=>⟨n - (i + 1),by lia,rfl,hlt,p'⟩,λ x H' y=>?_⟩;obtain ⟨e,y⟩:=y;subst e y;exact hs i σ _ hlt p
 ·have e:i=n:=by lia
  subst e;exact .inl ⟨au _,hd σ H p⟩
end
section
variable {X:Cx} {tg:Expr}
def Its (x:Str):It:=⟨λ i _=>i < x.cps.size,λ i H v H'=>H'=H/\∃ c,x.cps[i]?=some c/\v=.str ⟨#[c]⟩,λ i _=>i=x.cps.size⟩
def zeN {P:Af} {w:World} {K:A0} {tg:Expr} (it:Addr) (x:Str) (t:Tok) (nm:String) (hn:nm="str_ascii_iterator"\/nm="str_iterator")
  (W:∀ A:Around,A.handled=none->Walks P w A it [it] [it] x.cps.size (SignAt x) (λ i h=>h.IsStrIter it nm x t i))
  (hself:∀ (A:Ao) (i:Nat) (s:An) (Q:A3) (E:A3),s.heap.IsStrIter it nm x t i->Q (.ref it) s->wpAny (model P w) A (pyIter (.ref it)) Q E s):Turn P w K tg (Its x) [it] it (λ i h=>h.IsStrIter it nm x t i) where
 mem:=by simp
 obj:=λ i h st b hb=>by
  have e:b=it:=by simpa using hb
  subst e;obtain ⟨o,e,c,d⟩:=st;exact ⟨o,e,λ v z=>by rw [d] at z;cases z⟩
 keep:=λ i h h' st k=>let ⟨o,e,r⟩:=st;⟨o,k it (by simp) o e,r⟩
 item:=by
  intro X hP hw hK hc i o6 s σ H E I hf st hg;subst hP hw hK;obtain ⟨f0,f1,f2,f3,f4,f5⟩:=hf it (by simp);refine (W X.A (I.ok.hd hc)).item i s _ _ hg st λ v h' tk hv st' kk=>?_;obtain ⟨c,u,hcx,rfl⟩:=hv;have I1:Inv X o6 σ H { s with heap:=h',toks:=tk }:=I.turned (λ b o hb e=>kk b o (by simpa using hb) e) f0 f1 f3 f4 f5;obtain ⟨o,e,c1,d⟩:=id st';refine ⟨_,rfl,WU (s:={ s with heap:=h',toks:=tk }) e c1 d (by rcases hn with rfl|rfl <;> decide) ⟨.str ⟨#[c]⟩,H,I1,⟨_,rfl⟩,⟨rfl,c,hcx,rfl⟩,st',λ b hb=>(hf b hb).1⟩⟩
 done:=by
  intro X hP hw hK hc i o6 s σ H E I hf st hg;subst hP hw hK;have hg:i=x.cps.size:=hg;subst hg;obtain ⟨f0,f1,f2,f3,f4,f5⟩:=hf it (by simp);exact (W X.A (I.ok.hd hc)).done s _ _ st λ h' tk kk=>⟨rfl,I.turned (λ b o hb e=>kk b o (by simpa using hb) e) f0 f1 f3 f4 f5⟩
 self:=hself
def iStr (tl:TE):TI:=λ σ H R=>tl σ H λ v H1=>∃ x,v=.str x/\R (Its x) H1
def zh9 {l:Expr} {tl:TE} (hl:PE X l tl):PI X tg l (iStr tl):=by
 intro o6 s σ H R I h;refine qL (hl o6 s σ H _ I h) λ v s1 y H1 I1 r1 q1=>?_;obtain ⟨x,e,q⟩:=q1;subst e;obtain ⟨t,rfl⟩:=r1;have fin:∀ nm,nm="str_ascii_iterator"\/nm="str_iterator"->(∀ A:Around,A.handled=none->Walks X.prog X.w A s1.heap.objs.size [s1.heap.objs.size] [s1.heap.objs.size] x.cps.size (SignAt x) (λ i h=>h.IsStrIter s1.heap.objs.size nm x t i)) ->
   (∀ (A:Ao) (i:Nat) (s:An) (Q:A3) (E:A3),s.heap.IsStrIter s1.heap.objs.size nm x t i->Q (.ref s1.heap.objs.size) s->wpAny (model X.prog X.w) A (pyIter (.ref s1.heap.objs.size)) Q E s) ->
   PIE X o6 σ tg R (.ref s1.heap.objs.size) { s1 with heap:=s1.heap.push { cls:=.type nm,data:=.fields #[.str x t,.int 0 0] } }:=by
  intro nm hn W hs;refine ⟨s1.heap.objs.size,[s1.heap.objs.size],_,_,H1,rfl,I1.kept (t':=s1.toks) λ b o e=>aj _ e,zeN _ x t nm hn W hs,⟨_,aB _ rfl,rfl,rfl⟩,λ b hb=>?_,q⟩;have e:b=s1.heap.objs.size:=by simpa using hb
  subst e;exact I1.fpOk (au _) (I1.hok.fresh (au _))
 cases ha:x.cps.all (· < 128)
 ·exact wpAny_pyIter_wide ha (fin _ (.inr rfl) (λ A hA=>Walks.strWide hA _ x t) λ _ _ _ _ _ st h=>wpAny_pyIter_striter_wide st h)
 ·exact wpAny_pyIter_ascii ha (fin _ (.inl rfl) (λ A hA=>Walks.strAscii hA _ x t) λ _ _ _ _ _ st h=>wpAny_pyIter_striter_ascii st h)
def zju {σ:St} {H:Hp} {x:Str} {DN:St->Hp->Prop} {B:(St->Hp->Prop)->V->St->Hp->Prop} (Pv:Nat->St->Hp->Prop) (h0:Pv 0 σ H)
  (hs:∀ i c σ H,x.cps[i]?=some c->Pv i σ H->B (Pv (i + 1)) (.str ⟨#[c]⟩) σ H) (hd:∀ σ H,Pv x.cps.size σ H->DN σ H) :
  ∃ W:Nat->Nat->St->Hp->Prop,(∃ m,W 0 m σ H)/\∀ i m σ H,W i m σ H ->
   ((Its x).stop i H/\DN σ H)\/((Its x).go i H/\∃ N:St->Hp->Prop,(∀ σ' H',N σ' H'->∃ m',m' < m/\W (i + 1) m' σ' H')/\∀ v H',(Its x).yld i H v H'->B N v σ H'):=by
 refine ⟨λ i m σ H=>m=x.cps.size - i/\i<=x.cps.size/\Pv i σ H,⟨x.cps.size,by simp,bA _,h0⟩,?_⟩;rintro i m σ H ⟨rfl,hi,p⟩;by_cases hlt:i < x.cps.size
 ·refine .inr ⟨hlt,Pv (i + 1),λ σ' H' p'=>⟨x.cps.size - (i + 1),by lia,rfl,hlt,p'⟩,λ v H' y=>?_⟩;obtain ⟨e,c,hc,y⟩:=y;subst e y;exact hs i c σ _ hc p
 ·have e:i=x.cps.size:=by lia
  subst e;exact .inl ⟨rfl,hd σ H p⟩
def zin:OpR X (compareOp .In) (λ x y H Q=>∃ i j,x=.str i/\y=.str j/\Q (.bl (!(Builtin.Str.occurrences j i 0 j.length 1).isEmpty)) H):=zd7
def zhk:CallR X (.type "int") (λ xs H Q=>∃ x n,xs=[.str x]/\PySem.intText? x=some n/\x.length<=640/\Q (.int n) H):=by
 intro o6 s σ H xs us Q I r h;obtain ⟨x,n,rfl,hn,hl,q⟩:=h;obtain ⟨u,rfl,rx⟩:=ZC r;obtain ⟨t,rfl⟩:=rx;exact PySem.W.KIN.call_text hn hl ⟨.int n,H,I.tok _,⟨_,rfl⟩,q⟩
def ziS (hc:X.calm=true):CallR X (.builtin "all") (λ xs H Q=>∃ p,∃ bs:List Bool,xs=[.ref p]/\H p=some (.lst (bs.map V.bl))/\Q (.bl (bs.all id)) H):=by
 intro o6 s σ H xs us Q I r h;obtain ⟨p,bs,rfl,hp,q⟩:=h;obtain ⟨u,rfl,rx⟩:=ZC r;cases rx;obtain ⟨oo,rv,hl,hz⟩:=I.list (SqL.of (K:=X.K) hp);have hl':=hl.isList;have hlt:p < s.heap.objs.size:=by obtain ⟨_,e,_⟩:=hl';exact aA e
 have hlen:oo.length=bs.length:=by have:=rv.length;rw [ah] at this;exact this.symm
 refine call_all_walk (eM hl' ?_);refine ⟨s.heap.objs.size,[s.heap.objs.size,p],[s.heap.objs.size],oo.toArray.size,_,_,λ i=>(bs[i]?).getD true,rfl,Walks.list (A:=X.A.in1) (I.ok.hd hc) _ p (aR hlt) oo.toArray,
  ⟨⟨_,aB _ rfl,rfl,rfl⟩,hl'.push _⟩,λ i v s' Q' E' hP hQ=>?_,λ h' tk hk=>?_⟩
 ·have hP:oo[i]?=some v:=by simpa using hP
  have hib:i < bs.length:=by rw [<- hlen];exact (aa.mp hP).1
  obtain ⟨u,hu,ru⟩:=rv.get (i:=i) (x:=.bl bs[i]) (by rw [ak,ac hib];rfl);rw [hu] at hP;cases hP;cases ru;have e:(bs[i]?).getD true=bs[i]:=by rw [ac hib];rfl
  simp only [e] at hQ;exact bR hQ
 ·have e:((List.range oo.toArray.size).all λ i=>(bs[i]?).getD true)=bs.all id:=by
   rw [av,hlen];cases hb:bs.all id with
   | true =>
    rw [bS] at hb ⊢;intro i hi;have hi:=cA.mp hi;rw [ac hi];exact hb _ (cF hi)
   | false =>
    rw [List.all_eq_false] at hb ⊢;obtain ⟨b,hbm,hbf⟩:=hb;obtain ⟨i,hi,rfl⟩:=List.getElem_of_mem hbm;exact ⟨i,cA.mpr hi,by rw [ac hi];exact hbf⟩
  rw [e];refine ⟨.bl (bs.all id),H,I.kept (t':=tk) (λ b o eb=>hk b o (λ hm=>?_) (aj _ eb)),rfl,q⟩;rw [aw.mp hm] at eb;exact cg _ (aA eb)
end
def ZH (c:Nat):Bool:=decide (48<=c) && decide (c<=57)
def XS:(("0123456789":Str)).length=10:=by decide +kernel
def zg2 (c:Nat):Builtin.Str.occurrences ("0123456789":Str) ⟨#[c]⟩ 0 10 1=if ZH c=true then [c - 48] else []:=by
 by_cases h:ZH c=true
 ·rw [ap h];have h1:48<=c/\c<=57:=by simpa [ZH] using h
  have h2:c=48\/c=49\/c=50\/c=51\/c=52\/c=53\/c=54\/c=55\/c=56\/c=57:=by lia
  rcases h2 with rfl|rfl|rfl|rfl|rfl|rfl|rfl|rfl|rfl|rfl <;> decide +kernel
 ·rw [ao h];have h1:¬ (48<=c/\c<=57):=by simpa [ZH] using h
  have:=PySem.W.occ_nil_of_no (x:=("0123456789":Str)) (y:=⟨#[c]⟩) 1 (λ i hi=>?_)
  ·rw [XS] at this;exact this
  ·have hi:i + 1<=10:=by rw [XS] at hi;exact hi
   have h3:i=0\/i=1\/i=2\/i=3\/i=4\/i=5\/i=6\/i=7\/i=8\/i=9:=by lia
   have key:∀ d:Nat,48<=d/\d<=57->((#[d]:Array Nat) == #[c])=false:=λ d hd=>by
    rw [aW];intro z;have:d=c:=by simpa using z
    lia
   rcases h3 with rfl|rfl|rfl|rfl|rfl|rfl|rfl|rfl|rfl|rfl <;> exact key _ (by decide)
end L2
namespace L2
open PySem PySem.Spec PySem.Calls PyProof.Rows
theorem Z3:∀ {us:A7} {ns:A6},IntsAre us ns->Vals (ns.map V.int) us
 | _,_,.nil=>.nil
 | _,_,.cons n t h=>.cons ⟨t,rfl⟩ (Z3 h)
section
variable {X:Cx}
def zeF:CallR X (.builtin "sorted") (λ xs H Q=>∃ p,∃ ns:List Int,xs=[.ref p]/\SqL X.K H p (ns.map V.int)/\ns.length < 64 /\
  ∀ (ms:A6) l,ms.Perm ns->ms.Pairwise (·<=·)->H l=none->Q (.ref l) (upd H l (.lst (ms.map V.int)))):=by
 intro o6 s σ H xs us Q I r h;obtain ⟨p,ns,rfl,hp,h64,q⟩:=h;obtain ⟨u,rfl,rx⟩:=ZC r;cases rx;obtain ⟨oo,rv,hl,hz⟩:=I.list hp;have hlen:oo.length=ns.length:=by have:=rv.length;rw [ah] at this;exact this.symm
 refine sorted_ints hl.isList (zcu rv) (by lia) λ out ms a1 a2 a3=>?_;obtain ⟨e,he⟩:=sortedAll_at s.heap oo out;exact ⟨.ref _,_,I.laid (a:=s.heap.objs.size + 1) (o:=.lst (ms.map V.int)) (t':=s.toks) (λ b o h=>sortedAll_old h) (cP _) ⟨by rw [ah,a2.length_eq];exact bU (zn (by lia)),out.toList,e,Z3 a1,by simpa using he⟩,rfl,q ms _ a2 a3 (I.hok.fresh (cP _))⟩
end
structure FunD (K:A0) (x qual:Str) (st:Stmt) (f:Addr) (fd:FuncData):Prop where
 ex:∃ (oc:Am) (od:Aa) (dV kV doc pm:Am) (an:Aa) (cdv ct:Am) (osl:Ae),
  fd=fnOf x qual (qf st) (z6 st) (zg st) dV kV doc pm an cdv ct/\K.lookup f=some ⟨oc,od,.func fd,osl⟩/\codeIn K cdv qual=true
 kp:keepIn K (.ref f)=true
section
variable {P:Af} {w:World} {K:A0} {mg:A4} {base:Heap}
def FunD.okx {x qual:Str} {st:Stmt} {f:Addr} {fd:FuncData} {N ps:A8} {k:Nat} {sp:Sp} (F:FunD K x qual st f fd) (S:FnScope N ps (zg st)) (len:∀ vs H Q E,sp vs H Q E->vs.length=ps.length)
  (hbody:∀ (cdv:Am) (A:Ao) (outer:List Env) (s:An) (H:Hp) (vs:Ap) (Q:VK) (E:XK),Room k (A.deeper (envOfC qual (zg st) s.heap.objs.size f cdv))->sp vs H Q E ->
   ∃ t,PSs ((cxR P w K mg base N qual (zg st) f cdv A outer s H E).exg λ cls _ H'=>E cls none H') (z6 st) t/\t { nx:=λ _ H'=>Q .non H',rt:=Q } (start N vs) H):FnOk P w K mg base (CXr P w) (k + 1) f fd ps sp:=by
 obtain ⟨oc,od,dV,kV,doc,pm,an,cdv,ct,osl,rfl,lk,hcd⟩:=F.ex;refine zfZ lk hcd S len λ A outer s H vs Q E hr hsp=>?_;obtain ⟨t,h,q⟩:=hbody cdv A outer s H vs Q E hr hsp;refine ⟨t,λ o6 s σ H' D I hw=>?_,q⟩;refine aS (h o6 s σ H' D (I.wish _) hw) (λ _ _ z=>z.unwish) λ e s' z=>?_;refine ai (aS (show wpAny _ _ _ _ _ _ from z) (λ _ s1 y1=>aS y1 (λ _ s'' y=>?_) λ _ _ y=>y.elim) λ _ _ y=>y.elim);obtain ⟨a,cls,σ2,H2,rfl,J,xx,g⟩:=y;exact ⟨a,cls,H2,rfl,J.os,J.bare,J.base,J.hok,xx.less (λ p hp=>absurd hp (by simp)),g⟩
structure FD (K:A0) (mg:A4) (x:Str) (st:Stmt) (ps:A8) (dvs:Ap):Prop where
 ex:∃ f fd ds,FunD K x x st f fd/\mg x=some (.ref f)/\Binds K fd ps []/\Binds K fd ps ds/\Vals dvs ds
def FD.cal {x:Str} {st:Stmt} {ps:A8} {dvs:Ap} {k:Nat} {sp:Sp} (h:FD K mg x st ps dvs) (ok:∀ {f fd},FunD K x x st f fd->FnOk P w K mg base (CXr P w) k f fd ps sp) :
  Cal P w K mg base x k ps [] sp:=by
 obtain ⟨f,fd,_,F,m,b,_⟩:=h.ex;exact ⟨f,fd,[],ok F,m,F.kp,b,.nil⟩
def zjy {h:Heap} {x:Str} {st:Stmt} {ps:A8} {dvs:Ap} {f dT:Addr} {oc toc:Am} {od an tod:Aa} {osl tsl:Ae} {items:Ac} {tn:Nat} {kV doc pm cdv ct:Am} (X:K.In h) (G:h.Ns mainGlobals mg)
  (a:nsIn K mainGlobals x=some (some (.ref f))) (l:K.lookup f=some ⟨oc,od,.func (fnOf x x (qf st) (z6 st) (zg st) (.ref dT) kV doc pm an cdv ct),osl⟩)
  (c:codeIn K cdv x=true) (k:keepIn K (.ref f)=true) (lt:K.lookup dT=some ⟨toc,tod,.seq items tn,tsl⟩) (hv:Vals dvs items.toList)
  (hb:∀ (s:An) (us:A7),K.In s.heap->us.length=ps.length->BindsTo s (fnOf x x (qf st) (z6 st) (zg st) (.ref dT) kV doc pm an cdv ct) ⟨us,[]⟩ (ps.zip us))
  (hd:∀ (s:An) (us:A7),K.In s.heap->(us ++ items.toList).length=ps.length->BindsTo s (fnOf x x (qf st) (z6 st) (zg st) (.ref dT) kV doc pm an cdv ct) ⟨us,[]⟩ (ps.zip (us ++ items.toList))):FD K mg x st ps dvs :=
 ⟨f,_,items.toList,⟨⟨oc,od,.ref dT,kV,doc,pm,an,cdv,ct,osl,rfl,l,c⟩,k⟩,b6 X G a,(λ s us hK hl=>by rw [bT] at hl ⊢;exact hb s us hK hl),hd,hv⟩
end
section
variable {prog:Af} {w:World} {A:Ao} {E:A3} {s:An} {R:Result->Shared->Prop}
end
section
variable {X:Cx} {a:Expr} {ta:TA} {p p2 pos pos2:Pos}
def zbB:bootBuiltins "reversed"=some (.type "reversed"):=by decide +kernel
end
section
variable {X:Cx}
end
end L2
namespace L2
open PySem PySem.Spec PyProof.Rows
variable {H:Hp} {om:As} {w:World} {v:V} {K:A0} {b l:Addr} {P:Af} {u:Am} {i:Nat}
inductive D where
 | non|bl (b:Bool)|int (i:Int)|str (x:Str)|lst (xs:List D)|tup (xs:List D)|ob (C:Addr) (fs:List (Str × D))
inductive Rep (H:Hp) (p:A5):V->D->Prop where
 | non:Rep H p .non .non
 | bl {b:Bool}:Rep H p (.bl b) (.bl b)
 | int {i:Int}:Rep H p (.int i) (.int i)
 | str {x:Str}:Rep H p (.str x) (.str x)
 | lst {l:Addr} {vs:Ap} {ds:List D}:p l->H l=some (.lst vs)->vs.length=ds.length->(∀ (i:Nat) v d,vs[i]?=some v->ds[i]?=some d->Rep H p v d)->Rep H p (.ref l) (.lst ds)
 | tup {l:Addr} {vs:Ap} {ds:List D}:p l->H l=some (.tup vs)->vs.length=ds.length->(∀ (i:Nat) v d,vs[i]?=some v->ds[i]?=some d->Rep H p v d)->Rep H p (.ref l) (.tup ds)
 | ob {l C dx:Addr} {fs:Ar} {ds:List (Str × D)}:p l->H l=some (.ins C dx fs)->fs.map (·.1)=ds.map (·.1)->(∀ (i:Nat) f g,fs[i]?=some f->ds[i]?=some g->Rep H p f.2 g.2)->Rep H p (.ref l) (.ob C ds)
def Rep.keep {H H':Hp} {p q:A5} (s:∀ b o,p b->H b=some o->q b/\H' b=some o) {d:D} (h:Rep H p v d):Rep H' q v d:=by
 induction h with
 | non=>exact .non
 | bl=>exact .bl
 | int=>exact .int
 | str=>exact .str
 | lst pl hl e _ ih=>exact .lst (s _ _ pl hl).1 (s _ _ pl hl).2 e ih
 | tup pl hl e _ ih=>exact .tup (s _ _ pl hl).1 (s _ _ pl hl).2 e ih
 | ob pl hl e _ ih=>exact .ob (s _ _ pl hl).1 (s _ _ pl hl).2 e ih
structure Reps (H:Hp) (p:A5) (vs:Ap) (ds:List D):Prop where
 len:vs.length=ds.length
 g:∀ (i:Nat) v d,vs[i]?=some v->ds[i]?=some d->Rep H p v d
section
variable {H H':Hp} {p q:A5} {vs us:Ap} {ds es:List D} {v:V} {d:D}
def Reps.keep (s:∀ b o,p b->H b=some o->q b/\H' b=some o) (h:Reps H p vs ds):Reps H' q vs ds:=⟨h.len,λ i v d a b=>(h.g i v d a b).keep s⟩
def Reps.nil:Reps H p [] []:=⟨rfl,λ i v d h=>by simp at h⟩
theorem Reps.cons (h:Rep H p v d) (k:Reps H p vs ds):Reps H p (v :: vs) (d :: ds):=⟨by simp [k.len],λ i u e a b=>by
 cases i with
 | zero =>
  have a:v=u:=by simpa using a
  have b:d=e:=by simpa using b
  rw [<- a,<- b];exact h
 | succ i=>exact k.g i u e (by simpa using a) (by simpa using b)⟩
def Reps.one (h:Rep H p v d):Reps H p [v] [d]:=.cons h .nil
def Reps.append (h:Reps H p vs ds) (k:Reps H p us es):Reps H p (vs ++ us) (ds ++ es):=by
 refine ⟨by rw [aF,aF,h.len,k.len],λ i v r e1 e2=>?_⟩;by_cases hi:i < vs.length
 ·rw [aQ hi] at e1;rw [aQ (by rw [<- h.len];exact hi)] at e2;exact h.g i v r e1 e2
 ·rw [aN (by lia)] at e1;rw [aN (by rw [<- h.len];lia),<- h.len] at e2;exact k.g _ v r e1 e2
def Reps.at (h:Reps H p vs ds) (e:vs[i]?=some v):∃ d,ds[i]?=some d/\Rep H p v d:=by
 have hi:=(aa.mp e).1;have e2:ds[i]?=some (ds[i]'(by rw [<- h.len];exact hi)):=ac _;exact ⟨_,e2,h.g i v _ e e2⟩
def Reps.of (h:Reps H p vs ds) (e:ds[i]?=some d):∃ v,vs[i]?=some v/\Rep H p v d:=by
 have hi:=(aa.mp e).1;have e2:vs[i]?=some (vs[i]'(by rw [h.len];exact hi)):=ac _;exact ⟨_,e2,h.g i _ d e2 e⟩
def Reps.take (h:Reps H p vs ds) (n:Nat):Reps H p (vs.take n) (ds.take n):=⟨by rw [aJ,aJ,h.len],λ i v d a b=>by
 rw [List.getElem?_take] at a b;by_cases hn:i < n
 ·rw [ap hn] at a b;exact h.g i v d a b
 ·rw [ao hn] at a;cases a⟩
def Reps.drop (h:Reps H p vs ds) (n:Nat):Reps H p (vs.drop n) (ds.drop n):=⟨by rw [dq,dq,h.len],λ i v d a b=>by
 rw [List.getElem?_drop] at a b;exact h.g _ v d a b⟩
def Reps.reverse (h:Reps H p vs ds):Reps H p vs.reverse ds.reverse:=⟨by rw [cf,cf,h.len],λ i v d a b=>by
 have hi:i < vs.length:=by have:=(aa.mp a).1;rw [cf] at this;exact this
 rw [e6 hi] at a;rw [e6 (by rw [<- h.len];exact hi),<- h.len] at b;exact h.g _ v d a b⟩
def Reps.mk' (h:Reps H p vs ds) (pl:p l) (e:H l=some (.lst vs)):Rep H p (.ref l) (.lst ds):=.lst pl e h.len h.g
def Reps.mkT (h:Reps H p vs ds) (pl:p l) (e:H l=some (.tup vs)):Rep H p (.ref l) (.tup ds):=.tup pl e h.len h.g
def Rep.lst' (h:Rep H p v (.lst ds)):∃ l us,v=.ref l/\p l/\H l=some (.lst us)/\Reps H p us ds:=by
 cases h with|lst a b c e=>exact ⟨_,_,rfl,a,b,c,e⟩
def Rep.tup' (h:Rep H p v (.tup ds)):∃ l us,v=.ref l/\p l/\H l=some (.tup us)/\Reps H p us ds:=by
 cases h with|tup a b c e=>exact ⟨_,_,rfl,a,b,c,e⟩
theorem ZW {f:Str}:∀ {fs:Ar} {gs:List (Str × D)},fs.map (·.1)=gs.map (·.1)->(∀ (i:Nat) x y,fs[i]?=some x->gs[i]?=some y->Rep H p x.2 y.2) ->
  (∀ d,gs.lookup f=some d->∃ u,fs.lookup f=some u/\Rep H p u d)/\(gs.lookup f=none->fs.lookup f=none)
 | [],[],_,_=>⟨λ d h=>by simp at h,λ _=>rfl⟩
 | [],_ :: _,e,_=>by simp at e
 | _ :: _,[],e,_=>by simp at e
 | (a,u) :: fs,(b,c) :: gs,e,r=>by
  have e1:a=b:=by simpa using (cM e).1
  subst e1;have ih:=ZW (f:=f) (fs:=fs) (gs:=gs) (cM e).2 λ i x y hx hy=>r (i + 1) x y (by simpa using hx) (by simpa using hy);by_cases hf:f=a
  ·have hb:(f == a)=true:=bD.mpr hf;refine ⟨λ d h=>?_,λ h=>?_⟩
   ·simp only [List.lookup,hb] at h ⊢;cases h;exact ⟨_,rfl,r 0 (a,u) (a,c) rfl rfl⟩
   ·simp only [List.lookup,hb] at h;cases h
  ·have hb:(f == a)=false:=aW.mpr hf;simp only [List.lookup,hb];exact ih
def Rep.ob' {C:Addr} {gs:List (Str × D)} (h:Rep H p v (.ob C gs)):∃ l dx fs,v=.ref l/\p l/\H l=some (.ins C dx fs)/\(∀ f d,gs.lookup f=some d->∃ u,fs.lookup f=some u/\Rep H p u d)/\(∀ f,gs.lookup f=none->fs.lookup f=none):=by
 cases h with|ob a b c e=>exact ⟨_,_,_,rfl,a,b,λ f=>(ZW c e).1,λ f=>(ZW c e).2⟩
noncomputable abbrev D.ints (ns:A6):D:=.lst (ns.map D.int)
theorem reps_ints:∀ {ns:A6},Reps H p (ns.map V.int) (ns.map D.int)
 | []=>.nil
 | _ :: _=>.cons .int reps_ints
theorem JO:∀ {ns:A6} {vs:Ap},Reps H p vs (ns.map D.int)->vs=ns.map V.int
 | [],[],_=>rfl
 | [],_ :: _,h=>by have:=h.len;simp at this
 | _ :: _,[],h=>by have:=h.len;simp at this
 | n :: ns,v :: vs,h=>by
  have h1:=h.g 0 v (.int n) rfl rfl;have h2:Reps H p vs (ns.map D.int):=⟨by have:=h.len;simpa using this,λ i u d a b=>h.g (i + 1) u d (by simpa using a) (by simpa using b)⟩;cases h1;rw [bE,JO h2]
def Rep.ints' {ns:A6} (h:Rep H p v (.ints ns)):∃ l,v=.ref l/\p l/\H l=some (.lst (ns.map V.int)):=by
 obtain ⟨l,us,e,a,b,c⟩:=h.lst';rw [JO c] at b;exact ⟨l,e,a,b⟩
def qm {ns:A6} (pl:p l) (e:H l=some (.lst (ns.map V.int))):Rep H p (.ref l) (.ints ns):=reps_ints.mk' pl e
end
def Off (ms:Ab):Addr->Prop:=λ b=>b ∉ ms
def Fr (ms:Ab) (H H':Hp):Prop:=∀ b o,b ∉ ms->H b=some o->H' b=some o
section
variable {H H' H2:Hp} {ms ns:Ab} {x:Addr} {o:HO} {v:V} {d:D} {vs:Ap} {ds:List D}
def Fr.refl:Fr ms H H:=λ _ _ _ h=>h
def Fr.trans (a:Fr ms H H') (b:Fr ms H' H2):Fr ms H H2:=λ c o n h=>b c o n (a c o n h)
def Fr.more (a:Fr ms H H') (s:∀ b,b∈ms->b∈ns):Fr ns H H':=λ b o n h=>a b o (λ z=>n (s b z)) h
def Same.fr (a:Same H H'):Fr ms H H':=λ b o _ h=>a b o h
def qw (h:x∈ms):Fr ms H (upd H x o):=λ b u n hb=>by
 rw [oC (λ z=>n (by rw [z];exact h))];exact hb
def zcz (h:H x=none):Fr ms H (upd H x o):=(same_upd' h).fr where
 same_upd' {H:Hp} {x:Addr} {o:HO} (h:H x=none):Same H (upd H x o):=λ b u hb=>by rw [oC (oE hb h)];exact hb
def Fr.same (a:Fr ms H H') (h:∀ m∈ms,H m=none):Same H H':=λ b o hb=>a b o (λ z=>by rw [h b z] at hb;cases hb) hb
def Rep.fr (h:Rep H (Off ms) v d) (s:Fr ms H H'):Rep H' (Off ms) v d:=h.keep λ b o pb hb=>⟨pb,s b o pb hb⟩
def Reps.fr (h:Reps H (Off ms) vs ds) (s:Fr ms H H'):Reps H' (Off ms) vs ds:=h.keep λ b o pb hb=>⟨pb,s b o pb hb⟩
def Rep.more (h:Rep H (Off ms) v d) (s:∀ b,b∈ns->b∈ms\/H b=none):Rep H (Off ns) v d:=h.keep λ b o pb hb=>⟨λ z=>(s b z).elim pb (λ q=>by rw [q] at hb;cases hb),hb⟩
def Reps.more (h:Reps H (Off ms) vs ds) (s:∀ b,b∈ns->b∈ms\/H b=none):Reps H (Off ns) vs ds:=h.keep λ b o pb hb=>⟨λ z=>(s b z).elim pb (λ q=>by rw [q] at hb;cases hb),hb⟩
def Rep.same (h:Rep H (Off ms) v d) (s:Same H H'):Rep H' (Off ms) v d:=h.fr s.fr
def Reps.same (h:Reps H (Off ms) vs ds) (s:Same H H'):Reps H' (Off ms) vs ds:=h.fr s.fr
def Rep.ahead (h:Rep H (Off []) v d) (s:Same H H') (n:∀ m∈ms,H m=none):Rep H' (Off ms) v d:=h.keep λ b o _ hb=>⟨(λ z=>nomatch (n b z).symm.trans hb),s b o hb⟩
def Reps.ahead (h:Reps H (Off []) vs ds) (s:Same H H') (n:∀ m∈ms,H m=none):Reps H' (Off ms) vs ds:=h.keep λ b o _ hb=>⟨(λ z=>nomatch (n b z).symm.trans hb),s b o hb⟩
def Rep.all {p:A5} (h:Rep H p v d):Rep H (Off []) v d:=h.keep λ b o _ hb=>⟨(λ z=>nomatch z),hb⟩
def Reps.all {p:A5} (h:Reps H p vs ds):Reps H (Off []) vs ds:=h.keep λ b o _ hb=>⟨(λ z=>nomatch z),hb⟩
end
def fd_small {i j:Int} (h1:0 < j) (h2:j < 1000000):CFd i j:=fd_ok h1 (aK (show j.natAbs < 2 ^ 20 by lia) (Nat.pow_le_pow_right (by decide) (by decide)))
def Xp {α:Type} {xs:List α} {k:Int} (h0:0<=k) (h1:k < xs.length):seqIndex? k xs.length=some k.toNat:=by
 unfold seqIndex?;have:¬ k < 0:=by lia
 simp [this,h0,h1]
def vL {H H':Hp} {xs:Ap} (s:Same H H') (h:SqL K H l xs):SqL K H' l xs:=s.seq h
def zhF {X:Cx}:OpR X (compareOp .In) (rIn X.K false):=zd8
def zfv {X:Cx}:OpR X (compareOp .NotIn) (rIn X.K true):=VO
noncomputable def del (H:Hp) (x:Addr):Hp:=λ b=>if b=x then none else H b
section
variable {K:A0} {H:Hp} {Q:VK} {p:A5} {v:V} {d:D} {ds:List D} {f:Str}
def zgI {C:Addr} {gs:List (Str × D)} {R:V->Prop} (h:Rep H p v (.ob C gs)) (c:Cls K C) (n:NoAttr K C f) (e:gs.lookup f=some d) (q:∀ u,Rep H p u d->R u) :
  ∃ a C dx fs u,v=.ref a/\H a=some (.ins C dx fs)/\Cls K C/\NoAttr K C f/\fs.lookup f=some u/\R u:=by
 obtain ⟨l,dx,fs,rfl,_,a,b,_⟩:=h.ob';obtain ⟨u,e1,r⟩:=b f d e;exact ⟨l,C,dx,fs,u,rfl,a,c,n,e1,q u r⟩
def zhK {vs:Ap} {i:Int} (h:Reps H p vs ds) (e:atI ds i=some d):∃ u,atI vs i=some u/\Rep H p u d:=by
 unfold atI at e ⊢;rw [h.len];cases z:ixN ds.length i with
 | none=>rw [z] at e;cases e
 | some j=>rw [z] at e;exact h.of (i:=j) e
end
def qV {H H':Hp} {p:A5} {d:D} (h:Rep H p v d) (s:Same H H'):Rep H' p v d:=h.keep λ b o pb hb=>⟨pb,s b o hb⟩
section
variable {X:Cx}
def zji (K:A0):R2:=λ x y H Q=>∃ p xs i v,x=.ref p/\y=.int i/\SqL K H p xs/\0<=i/\atI xs i=some v/\Q v H
def zfX:zjI X (zji X.K):=by
 intro o6 s σ H x y v u Q I rx ry h;obtain ⟨p,xs,i,z,rfl,rfl,hq,h0,he,q⟩:=h;cases rx;obtain ⟨t,rfl⟩:=ry;obtain ⟨oo,r,pl,hz⟩:=I.list hq;obtain ⟨j,h1,h2,h3,h4,h5⟩:=JR he;obtain ⟨w,ew,rw'⟩:=r.get h2;have hl:=r.length;have hn:=ZX;have hj:i.toNat=j:=by
  rw [fF h0 h5] at h1;exact aI h1
 exact wpAny_getItem_list pl.isList h0 (by lia) (by rw [hj];simpa using ew) ⟨z,H,I,rw',q⟩
end
inductive Hard:D->Prop where
 | non:Hard .non
 | bl {b:Bool}:Hard (.bl b)
 | int {i:Int}:Hard (.int i)
 | str {x:Str}:Hard (.str x)
 | tup {ds:List D}:(∀ (i:Nat) d,ds[i]?=some d->Hard d)->Hard (.tup ds)
def Rep.hard {p q:A5} {d:D} (h:Rep H p v d) (hd:Hard d) (k:∀ b xs,p b->H b=some (.tup xs)->q b):Rep H q v d:=by
 induction h with
 | non=>exact .non
 | bl=>exact .bl
 | int=>exact .int
 | str=>exact .str
 | lst pl hl e _ ih=>cases hd
 | tup pl hl e _ ih =>
  cases hd with
  | tup hd=>exact .tup (k _ _ pl hl) hl e λ i v d a b=>ih i v d a b (hd i d b)
 | ob pl hl e _ ih=>cases hd
def zfz {as:Ab} (nd:as.Nodup) {i j:Nat} (h1:as[i]?=some b) (h2:as[j]?=some b):i=j:=by
 obtain ⟨hi,e1⟩:=aa.mp h1;obtain ⟨hj,e2⟩:=aa.mp h2;have P:=List.pairwise_iff_getElem.mp nd;rcases dZ i j with h|h|h
 ·exact absurd (e1.trans e2.symm) (P i j hi hj h)
 ·exact h
 ·exact absurd (e2.trans e1.symm) (P j i hj hi h)
structure NL (H:Hp) (p:A5) (G:Addr) (as:Ab) (xss:List (List D)):Prop where
 out:H G=some (.lst (as.map V.ref))
 len:as.length=xss.length
 nd:as.Nodup
 nG:G ∉ as
 g:∀ (i:Nat) b xs,as[i]?=some b->xss[i]?=some xs->∃ vs,H b=some (.lst vs)/\Reps H p vs xs
section
variable {H H':Hp} {p q:A5} {G:Addr} {as:Ab} {xss:List (List D)}
def NL.keep (h:NL H p G as xss) (s:∀ b o,(b=G\/b∈as\/p b)->H b=some o->H' b=some o) (sp:∀ b,p b->H b≠none->q b):NL H' q G as xss:=by
 refine ⟨s _ _ (.inl rfl) h.out,h.len,h.nd,h.nG,λ i b xs e1 e2=>?_⟩;obtain ⟨vs,h1,h2⟩:=h.g i b xs e1 e2;exact ⟨vs,s _ _ (.inr (.inl (af e1))) h1,h2.keep λ c o pc hc=>⟨sp c pc (by rw [hc];intro z;cases z),s c o (.inr (.inr pc)) hc⟩⟩
def NL.same (h:NL H p G as xss) (s:Same H H'):NL H' p G as xss:=h.keep (λ b o _ hb=>s b o hb) λ _ hp _=>hp
def NL.at (h:NL H p G as xss) {xs:List D} (e:xss[i]?=some xs):∃ b vs,as[i]?=some b/\H b=some (.lst vs)/\Reps H p vs xs:=by
 have hi:=(aa.mp e).1;have e2:as[i]?=some (as[i]'(by rw [h.len];exact hi)):=ac _;obtain ⟨vs,h1,h2⟩:=h.g i _ xs e2 e;exact ⟨_,vs,e2,h1,h2⟩
def zch {H:Hp} {p:A5} {G:Addr} (h:H G=some (.lst [])):NL H p G [] []:=⟨h,rfl,nodup_nil,by simp,λ i b xs e=>by simp at e⟩
def NL.rep (h:NL H p G as xss):Rep H (Off []) (.ref G) (.lst (xss.map D.lst)):=by
 refine .lst (λ z=>nomatch z) h.out (by rw [ah,ah,h.len]) λ i v d e1 e2=>?_;rw [ak,am] at e1 e2;obtain ⟨b,e1,rfl⟩:=e1;obtain ⟨xs,e2,rfl⟩:=e2;obtain ⟨vs,h1,h2⟩:=h.g i b xs e1 e2;exact h2.all.mk' (λ z=>nomatch z) h1
def NL.put {vs:Ap} {ys:List D} (h:NL H p G as xss) (e:as[i]?=some b) (np:¬ p b) (r:Reps H p vs ys):NL (upd H b (.lst vs)) p G as (xss.set i ys):=by
 have hb:=af e;have nG:G≠b:=λ z=>h.nG (by rw [z];exact hb);have rk:∀ {us:Ap} {zs:List D},Reps H p us zs->Reps (upd H b (.lst vs)) p us zs:=λ r=>r.keep λ c o pc hc=>⟨pc,by rw [oC (λ z=>np (by rw [<- z];exact pc))];exact hc⟩;refine ⟨by rw [oC nG];exact h.out,by rw [br,h.len],h.nd,h.nG,λ j c xs e1 e2=>?_⟩;by_cases hj:j=i
 ·subst hj;rw [e] at e1;cases e1;have hl:j < xss.length:=by rw [<- h.len];exact (aa.mp e).1
  rw [aP hl] at e2;cases e2;exact ⟨vs,oB,rk r⟩
 ·rw [ba (a7 hj)] at e2;have nc:c≠b:=λ z=>by
   subst z;exact hj (zfz h.nd e1 e)
  obtain ⟨us,h1,h2⟩:=h.g j c xs e1 e2;exact ⟨us,by rw [oC nc];exact h1,rk h2⟩
def NL.push {vs:Ap} {ys:List D} (h:NL H p G as xss) (hb:H b=some (.lst vs)) (nb:b ∉ as) (nG:b≠G) (np:¬ p G) (r:Reps H p vs ys):NL (upd H G (.lst (as.map V.ref ++ [.ref b]))) p G (as ++ [b]) (xss ++ [ys]):=by
 have rk:∀ {us:Ap} {zs:List D},Reps H p us zs->Reps (upd H G (.lst (as.map V.ref ++ [.ref b]))) p us zs:=λ r=>r.keep λ c o pc hc=>⟨pc,by rw [oC (λ z=>np (by rw [<- z];exact pc))];exact hc⟩;refine ⟨by rw [oB,aV];rfl,by simp [h.len],?_,?_,λ j c xs e1 e2=>?_⟩
 ·rw [nodup_append];refine ⟨h.nd,by simp,?_⟩;intro x hx y hy z;rw [aw.mp hy] at z;exact nb (by rw [<- z];exact hx)
 ·intro z;rcases aE.mp z with z|z
  ·exact h.nG z
  ·exact nG (aw.mp z).symm
 ·by_cases hj:j < as.length
  ·rw [aQ hj] at e1;rw [aQ (by rw [<- h.len];exact hj)] at e2;obtain ⟨us,h1,h2⟩:=h.g j c xs e1 e2;have nc:c≠G:=λ z=>h.nG (by rw [<- z];exact af e1);exact ⟨us,by rw [oC nc];exact h1,rk h2⟩
  ·rw [aN (by lia)] at e1;rw [aN (by rw [<- h.len];lia),<- h.len] at e2;have hj0:j - as.length=0:=by have:=(aa.mp e1).1;simp at this;lia
   rw [hj0] at e1 e2;have e1:b=c:=by simpa using e1
   have e2:ys=xs:=by simpa using e2
   subst e1 e2;exact ⟨vs,by rw [oC nG];exact hb,rk r⟩
end
def z8 (H:Hp):Addr->Prop:=λ b=>∃ xs,H b=some (.tup xs)
def NL.tup {H H':Hp} {G:Addr} {as:Ab} {xss:List (List D)} (h:NL H (z8 H) G as xss) (s:∀ b o,(b=G\/b∈as\/z8 H b)->H b=some o->H' b=some o):NL H' (z8 H') G as xss :=
 h.keep s λ b hb _=>by
  obtain ⟨xs,hx⟩:=hb;exact ⟨xs,s b _ (.inr (.inr ⟨xs,hx⟩)) hx⟩
def NL.isl {G:Addr} {as:Ab} {p:A5} {xss:List (List D)} (h:NL H p G as xss) (hb:b∈G :: as):∃ vs,H b=some (.lst vs):=by
 rcases ar.mp hb with rfl|hb
 ·exact ⟨_,h.out⟩
 ·obtain ⟨j,hj⟩:=bx hb;obtain ⟨vs,h1,_⟩:=h.g j b _ hj (ac (by rw [<- h.len];exact (aa.mp hj).1));exact ⟨vs,h1⟩
def uc {mg:A4} {base:Heap} {x:Str} {k:Nat} {G:List V->Sp->Prop} {ps:A8} {dvs:Ap} {sp:Sp} (c:Cal P w K mg base x k ps dvs sp) (h:G dvs sp):∃ ps dvs sp,Cal P w K mg base x k ps dvs sp/\G dvs sp:=⟨ps,dvs,sp,c,h⟩
def un2 {t:Addr} {x y:V} {G:V->V->Prop} (h:H t=some (.tup [x,y])) (q:G x y):∃ a xs,V.ref t=.ref a/\SqT K H a xs/\xs.length=2/\∃ v r,xs=v :: r/\∃ v' r',r=v' :: r'/\r'=[]/\G v v':=⟨t,_,rfl,SqT.of h,rfl,x,_,rfl,y,_,rfl,rfl,q⟩
def ra {a C dx:Addr} {fs:Ar} {f:Str} {G:V->Prop} (h:H a=some (.ins C dx fs)) (c:Cls K C) (n:NoAttr K C f) (e:fs.lookup f=some v) (q:G v):∃ a' C dx fs v,V.ref a=.ref a'/\H a'=some (.ins C dx fs)/\Cls K C/\NoAttr K C f/\fs.lookup f=some v/\G v:=⟨a,C,dx,fs,v,rfl,h,c,n,e,q⟩
section
variable {prog:Af} {w:World} {A:Ao} {E:A3} {s:An}
noncomputable abbrev lit (l:Addr):Obj:={ cls:=.type (Q4 true),data:=.fields #[.ref l,.int 0 0] }
end
section
variable {prog:Af} {w:World} {A:Ao} {E:A3} {s:An}
end
def Itv (K:A0) (a:Addr) (n:Nat):It :=
 ⟨λ i H=>∃ xs x,SqL K H a xs/\xs.length=n/\xs.reverse[i]?=some x,λ i H x H'=>H'=H/\∀ xs,SqL K H a xs->xs.reverse[i]?=some x,λ i _=>n<=i⟩
def zeO {tg:Expr} (a it:Addr) (n:Nat):Turn P w K tg (Itv K a n) [it] it (λ i h=>i<=n/\h.IsRevIter it a ((n:Int) - 1 - (i:Int))) where
 mem:=by simp
 obj:=λ i h st b hb=>by
  have e:b=it:=by simpa using hb
  subst e;obtain ⟨_,o,e,c,d⟩:=st;exact ⟨o,e,λ v z=>by rw [d] at z;cases z⟩
 keep:=λ i h h' st k=>⟨st.1,st.2.at λ o e=>k it (by simp) o e⟩
 item:=by
  intro X hP hw hK hc i o6 s σ H E I hf st hg;subst hP hw hK;obtain ⟨xs,x,hq,hn,hx⟩:=hg;obtain ⟨oo,rv,p,hz⟩:=I.list hq;have hi:i < n:=by
   have:=(aa.mp hx).1;rw [cf,hn] at this;exact this
  have hx':xs[n - 1 - i]?=some x:=by
   rw [e6 (by rw [hn];exact hi),hn] at hx;exact hx
  obtain ⟨u,hu,ru⟩:=rv.get hx';obtain ⟨f0,f1,f2,f3,f4,f5⟩:=hf it (by simp);have e1:(n:Int) - 1 - (i:Int)=((n - 1 - i:Nat):Int):=by lia
  refine wpAny_pyNext_rev_item (i:=n - 1 - i) (by rw [<- e1];exact st.2) p.isList (x:=u) (by simpa using hu) λ h' st' sb=>?_;have I1:Inv X o6 σ H { s with heap:=h' }:=I.turned (t':=s.toks) (λ b o hb e=>(sb.2 b hb).trans e) f0 f1 f3 f4 f5;have st2:h'.IsRevIter it a ((n:Int) - 1 - ((i + 1:Nat):Int)):=by
   rw [show (n:Int) - 1 - ((i + 1:Nat):Int)=((n - 1 - i:Nat):Int) - 1 by lia];exact st'
  obtain ⟨o,e,c,d⟩:=id st';exact ⟨u,rfl,WU (s:={ s with heap:=h' }) e c d (by decide) ⟨x,H,I1,ru,⟨rfl,λ ys hy=>by rw [I.list_inj hy hq];exact hx⟩,⟨hi,st2⟩,λ b hb=>(hf b hb).1⟩⟩
 done:=by
  intro X hP hw hK hc i o6 s σ H E I hf st hg;subst hP hw hK;obtain ⟨f0,f1,f2,f3,f4,f5⟩:=hf it (by simp);have e:i=n:=Nat.le_antisymm st.1 hg;have st2:s.heap.IsRevIter it a (-1):=by
   have:=st.2;rw [show (n:Int) - 1 - (i:Int)=-1 by lia] at this;exact this
  exact wpAny_pyNext_rev_end (I.ok.hd hc) st2 λ h' eb=>⟨rfl,I.turned (t':=s.toks) (λ b o hb e=>eb b o hb e) f0 f1 f3 f4 f5⟩
 self:=λ _ _ _ _ _ st h=>wpAny_pyIter_revIter st.2 h
def iRev (X:Cx) (ta:TA):TI:=λ σ H R=>X.mg "reversed"=none/\ta σ H λ vs H1=>∃ l xs,vs=[.ref l]/\SqL X.K H1 l xs/\R (Itv X.K l xs.length) H1
def zaR {X:Cx} {a:Expr} {tg:Expr} {p pos:Pos} {ta:TA} (ha:PA X [a] ta) (hg:Gl X "reversed":=by rfl)
  (hs:starEach [a] X.env=(false,eval a X.env) :: starEach [] X.env:=by rfl) (hpl:(backTo pos (starEach [] X.env)).any (·.1)=false:=by rfl) :
  PI X tg (.Call (.Name "reversed" p) [a] [] pos) (iRev X ta):=by
 intro o6 s σ H R I h;refine bt (vp I hg h.1 zbB ?_);refine bb (vF (ha pos o6 s σ H _ I h.2) λ us s1 vs H1 I1 r1 q1=>?_) hs hpl;obtain ⟨l,xs,rfl,hq,hR⟩:=q1;obtain ⟨u,rfl,rx⟩:=ZC r1;cases rx;obtain ⟨oo,rv,hl,hz⟩:=I1.list hq;have hlen:=rv.length;refine call_reversed_list hl.isList ?_;have hit:(s1.heap.push (revObj l ((oo.toArray.size:Int) - 1))).IsRevIter s1.heap.objs.size l ((xs.length:Int) - 1 - ((0:Nat):Int)):=⟨_,aB _ rfl,rfl,by rw [hlen];simp [revObj]⟩;refine wpAny_pyIter_revIter (s:={ s1 with heap:=s1.heap.push (revObj l ((oo.toArray.size:Int) - 1)) }) hit ?_;refine ⟨s1.heap.objs.size,[s1.heap.objs.size],_,_,H1,rfl,I1.kept (t':=s1.toks) (λ b o e=>aj _ e),zeO l _ xs.length,⟨bA _,hit⟩,λ b hb=>?_,hR⟩;obtain rfl:b=s1.heap.objs.size:=by simpa using hb
 exact I1.fpOk (au _) (I1.hok.fresh (au _))
def zjt {σ:St} {a:Addr} {xs:Ap} {DN:St->Hp->Prop} {B:(St->Hp->Prop)->V->St->Hp->Prop} (Pv:Nat->St->Hp->Prop) (h0:Pv 0 σ H) (hl:∀ i σ H,i<=xs.length->Pv i σ H->SqL K H a xs)
  (hs:∀ i x σ H,xs.reverse[i]?=some x->Pv i σ H->B (Pv (i + 1)) x σ H) (hd:∀ σ H,Pv xs.length σ H->DN σ H) :
  ∃ W:Nat->Nat->St->Hp->Prop,(∃ m,W 0 m σ H)/\∀ i m σ H,W i m σ H ->
   ((Itv K a xs.length).stop i H/\DN σ H)\/((Itv K a xs.length).go i H/\∃ N:St->Hp->Prop,(∀ σ' H',N σ' H'->∃ m',m' < m/\W (i + 1) m' σ' H')/\∀ x H',(Itv K a xs.length).yld i H x H'->B N x σ H'):=by
 refine ⟨λ i m σ H=>m=xs.length - i/\i<=xs.length/\Pv i σ H,⟨xs.length,by simp,bA _,h0⟩,?_⟩;rintro i m σ H ⟨rfl,hi,p⟩;have q:=hl i σ H hi p;by_cases hlt:i < xs.length
 ·refine .inr ⟨⟨xs,xs.reverse[i]'(by rw [cf];exact hlt),q,rfl,ac _⟩,Pv (i + 1),λ σ' H' p'=>⟨xs.length - (i + 1),by lia,rfl,hlt,p'⟩,λ x H' y=>?_⟩;obtain ⟨e,y⟩:=y;subst e;exact hs i x σ _ (y xs q) p
 ·have e:i=xs.length:=by lia
  subst e;exact .inl ⟨au _,hd σ H p⟩
section
variable {X:Cx} {pos pos':Pos} {x:Str}
def zu (i:Nat) {e:Expr} {te:TE} (hN:X.N.Nodup) (he:PE X e te) (hi:X.N[i]?=some x:=by rfl) (hx:Loc X.env.scope x:=by exact Or.inl rfl) (hs:swapsWith e (some (.Name x pos')) pos.line X.env=pure false:=by rfl)
  (hf:Or (X.fn x=true) (X.env.scope.names.lookup x=some .local):=by walk_at "p"):PS X (.Assign [.Name x pos'] e pos) (tAsg te (gName i)):=zfj hN hi hx he hs hf
def qp (i:Nat) (hN:X.N.Nodup) (hi:X.N[i]?=some x:=by rfl) (hx:Loc X.env.scope x:=by exact Or.inl rfl) (hf:Or (X.fn x=true) (X.env.scope.names.lookup x=some .local):=by walk_at "p"):PG X (.Name x pos) (gName i):=Zn hN hi hx hf
def zr {a b:Expr} {ta tb:TE} (ha:PE X a ta) (hb:PE X b tb) (hs:zdx b:=by intro _ _;rfl):PE X (.Subscript a b pos) (tOp (rIx X.K) ta tb):=zjk ziC ha hb hs
end
section
variable {X:Cx}
theorem zcN:∀ {ys:A8} {us:A7},Vals (ys.map V.str) us->StrsAre us ys
 | [],_,h=>by cases h;exact .nil
 | y :: ys,_,h=>by
  cases h with
  | cons r rr =>
   obtain ⟨t,rfl⟩:=r;exact .cons y t (zcN rr)
def zje:V->List V->Hp->VK->Prop:=λ x vs H Q=>∃ sep l ys,x=.str sep/\vs=[.ref l]/\H l=some (.lst (ys.map V.str))/\(ys.map (·.length)).sum + ys.length * sep.length<=16777216/\Q (.str (Str.join sep ys)) H
def zc2:MtM X "str.join" zje:=by
 intro o6 s σ H x vs v us Q I rx rv h;obtain ⟨sep,l,ys,rfl,rfl,hH,hz,q⟩:=h;obtain ⟨t,rfl⟩:=rx;obtain ⟨u,rfl,ru⟩:=rv.one;cases ru;obtain ⟨oo,r,hl,_⟩:=I.list (SqL.of hH);have e:Txt.join sep ys=Str.join sep ys:=StrLaws.glued_eq_join sep ys;exact join_list hl.isList (by simpa using zcN r) hz λ t' k=>⟨.str _,H,I.tok _,⟨_,rfl⟩,by rw [e];exact q⟩
end
section
variable {X:Cx} {G:GK} {x y:Str} {np mp pos hpos gpos:Pos} {body su sv:List Stmt} {b₀ c₀:Stmt} {tb:List (Addr × Obj)->GK->TS} {th ti:List (Addr × Obj)->Addr->TS}
def tTry2 (X:Cx) (x y:Str) (tb:List (Addr × Obj)->GK->TS) (th ti:List (Addr × Obj)->Addr->TS):TS:=λ D σ H=>∃ Dc Ec,X.mg x=some (.ref Dc)/\subIn X.K (.ref Dc) (.type "BaseException")=some true/\X.mg y=some (.ref Ec)/\subIn X.K (.ref Ec) (.type "BaseException")=some true /\
 ∀ pn,tb pn (λ cls σ' H'=>∃ C,cls=.ref C/\((kitCls X.K (.ref C) (.ref Dc)=some true/\∀ a,H' a=none->th pn a D σ' H')\/(kitCls X.K (.ref C) (.ref Dc)=some false/\kitCls X.K (.ref C) (.ref Ec)=some true/\∀ a,H' a=none->ti pn a D σ' H'))) D σ H
theorem zgN (B:Bod X) (hc:X.calm=true)
  (hb:∀ pn G',PSs ((X.pinned pn).exg G') body (tb pn G')) (hs:∀ pn a,PSs (X.suite pn a) (b₀ :: su) (th pn a)) (ht:∀ pn a,PSs (X.suite pn a) (c₀ :: sv) (ti pn a)) (hg:Gl X x:=by rfl) (hg2:Gl X y:=by rfl) (hdb:(x == ("__debug__":Str))=false:=by decide) (hdb2:(y == ("__debug__":Str))=false:=by decide) :
  PS (X.exg G) (.Try body [.ExceptHandler (some (.Name x np)) none (b₀ :: su) hpos,.ExceptHandler (some (.Name y mp)) none (c₀ :: sv) gpos] [] [] pos) (tTry2 X x y tb th ti):=by
 intro o6 s σ H D I h;obtain ⟨Dc,Ec,hm,hsub,hm2,hsub2,h⟩:=h;have I1:=I.unwish.topn;refine wpAny_Try_except (aS (hb (X.pn ++ o6) _ [] s σ H D (I1.wish _) (h (X.pn ++ o6))) (λ f s1 q=>?_) λ e s1 q=>?_)
 ·cases f with
  | next =>
   obtain ⟨σ',H',J,q⟩:=q;exact cC ⟨σ',H',J.unwish.ofpn.wish _,q⟩
  | brk=>obtain ⟨σ',H',J,q⟩:=q;exact ⟨σ',H',J.unwish.ofpn.wish _,q⟩
  | cont=>obtain ⟨σ',H',J,q⟩:=q;exact ⟨σ',H',J.unwish.ofpn.wish _,q⟩
  | ret u=>obtain ⟨v,σ',H',J,r,q⟩:=q;exact ⟨v,σ',H',J.unwish.ofpn.wish _,r,q⟩
 ·refine aS (show wpAny _ _ _ _ _ _ from q) (λ _ s2 q2=>aS q2 (λ _ s3 q3=>?_) λ _ _ z=>z.elim) λ _ _ z=>z.elim;obtain ⟨a,cls,σ',H',rfl,J,xx,C,rfl,hth⟩:=q3;have J2:Inv (X.suite (X.pn ++ o6) a) [] σ' H' s3:=J.tosuite;obtain ⟨oe,vs,he,hcls,_,_⟩:=xx.obj;rcases hth with ⟨hk,hth⟩|⟨hk,hk2,hth⟩
  ·refine c9 (cS (jS J2 hg hm (wn J2.kIn he hcls hk hsub ?_) hdb)) (by intro z;cases z);refine dO ?_;refine ZY J2 (xx.less λ p hp=>by rwa [bT] at hp) λ s4 J4 x4=>?_;refine aS (hs (X.pn ++ o6) a [] s4 _ _ _ J4 (hth a xx.Ha)) (λ f s6 q6=>?_) λ _ _ z=>False.elim z;cases f with
   | next=>obtain ⟨σ7,H7,J7,q7⟩:=q6;exact ⟨σ7,H7,(J7.ofsuite I.ok.hd).ofpn.wish _,q7⟩
   | brk=>obtain ⟨σ7,H7,J7,q7⟩:=q6;exact ⟨σ7,H7,(J7.ofsuite I.ok.hd).ofpn.wish _,q7⟩
   | cont=>obtain ⟨σ7,H7,J7,q7⟩:=q6;exact ⟨σ7,H7,(J7.ofsuite I.ok.hd).ofpn.wish _,q7⟩
   | ret u=>obtain ⟨v,σ7,H7,J7,r7,q7⟩:=q6;exact ⟨v,σ7,H7,(J7.ofsuite I.ok.hd).ofpn.wish _,r7,q7⟩
  ·refine c9 (cS (jS J2 hg hm (wn J2.kIn he hcls hk hsub ?_) hdb)) (by intro z;cases z);refine c9 (cS (jS J2 hg2 hm2 (wn J2.kIn he hcls hk2 hsub2 ?_) hdb2)) (by intro z;cases z);refine dO ?_;refine ZY J2 (xx.less λ p hp=>by rwa [bT] at hp) λ s4 J4 x4=>?_;refine aS (ht (X.pn ++ o6) a [] s4 _ _ _ J4 (hth a xx.Ha)) (λ f s6 q6=>?_) λ _ _ z=>False.elim z;cases f with
   | next=>obtain ⟨σ7,H7,J7,q7⟩:=q6;exact ⟨σ7,H7,(J7.ofsuite I.ok.hd).ofpn.wish _,q7⟩
   | brk=>obtain ⟨σ7,H7,J7,q7⟩:=q6;exact ⟨σ7,H7,(J7.ofsuite I.ok.hd).ofpn.wish _,q7⟩
   | cont=>obtain ⟨σ7,H7,J7,q7⟩:=q6;exact ⟨σ7,H7,(J7.ofsuite I.ok.hd).ofpn.wish _,q7⟩
   | ret u=>obtain ⟨v,σ7,H7,J7,r7,q7⟩:=q6;exact ⟨v,σ7,H7,(J7.ofsuite I.ok.hd).ofpn.wish _,r7,q7⟩
end
section
variable {X:Cx}
def zcE {prog:Af} {A:Ao} {E:A3} {s:An} {Q:A3} {x y:Str} {t u:Tok} (hy:(y.length == 0)=false) (hx:x.length + 2<=sizeLine)
  (hq:∀ (l:List (Str × Tok)) (k:Nat),l.map (·.1)=Txt.split x y->Q (.ref s.heap.objs.size) { s with toks:=k,heap:=s.heap.push { cls:=.type "list",data:=.seq (strValues l).toArray } }) :
  wpAny (model prog w) A (call (.builtin "str.split") [.str x t,.str y u]) Q E s:=by
 cases h1:(decide (x.length < y.length) || decide (Builtin.Str.strKind x < Builtin.Str.strKind y))
 ·cases hf:(Builtin.Str.occurrences x y 0 x.length (x.length + 1)).isEmpty
  ·have e:Txt.split x y=Builtin.Str.partsBetween x (Builtin.Str.occurrences x y 0 x.length (x.length + 1)) y.length:=(ao (dN h1)).trans (ao (dN hf));have hl:=split_le x y;rw [e] at hl;refine cT fA (eC _ _ _) eU (eJ _ _) (meets_str_split_sep x y t u h1 hy hf (by lia) (by lia)) ?_;show wants Q E _ { s with toks:=_,heap:=s.heap.push { cls:=.type "list",data:=.seq (strsFrom s.toks (Builtin.Str.partsBetween x (Builtin.Str.occurrences x y 0 x.length (x.length + 1)) y.length)).toArray } }
   rw [strsFrom_eq];exact hq (numbered s.toks _) _ ((numbered_texts _ _).trans e.symm)
  ·exact cT fA (eC _ _ _) eU (eJ _ _) (meets_str_split_not_found x y t u h1 hy hf)
    (hq [(x,t)] _ ((ao (dN h1)).trans (ap hf)).symm)
 ·exact cT fA (eC _ _ _) eU (eJ _ _) (meets_str_split_cannot_occur x y t u h1)
   (hq [(x,t)] _ (ap h1).symm)
theorem Wt:∀ (l:List (Str × Tok)),Vals ((l.map (·.1)).map V.str) (strValues l)
 | []=>.nil
 | p :: l=>.cons ⟨p.2,rfl⟩ (Wt l)
def zh2:V->List V->Hp->VK->Prop:=λ x vs H Q=>∃ t y,x=.str t/\vs=[.str y]/\(y.length == 0)=false/\t.length + 2<=sizeLine/\∀ l,H l=none->Q (.ref l) (upd H l (.lst ((Txt.split t y).map V.str)))
def za0:MtM X "str.split" zh2:=by
 intro o6 s σ H x vs v us Q I rx rv h;obtain ⟨t,y,rfl,rfl,hy,hz,q⟩:=h;obtain ⟨tk,rfl⟩:=rx;obtain ⟨u,rfl,ru⟩:=rv.one;obtain ⟨tk2,rfl⟩:=ru;refine zcE hy hz λ l k e=>?_;have hf:H s.heap.objs.size=none:=I.hok.fresh (au _);have hl:=split_le t y;refine ⟨.ref s.heap.objs.size,upd H s.heap.objs.size (.lst ((Txt.split t y).map V.str)),I.laid (t':=k) (λ b u e=>aj _ e) (au _) ?_,rfl,q _ hf⟩;rw [<- e];exact ⟨by rw [ah,e];lia,strValues l,0,Wt l,aB _ rfl⟩
end
theorem XQ {c:Nat}:∀ {a b A B:Aj},c ∉ a->c ∉ b->a ++ c :: A=b ++ c :: B->a=b/\A=B
 | [],[],_,_,_,_,h=>⟨rfl,(cM h).2⟩
 | [],y :: b,_,_,_,hb,h=>absurd (cM h).1 (λ e=>hb (by rw [e];exact aY ..))
 | x :: a,[],_,_,ha,_,h=>absurd (cM h).1 (λ e=>ha (by rw [<- e];exact aY ..))
 | x :: a,y :: b,A,B,ha,hb,h=>by
  obtain ⟨e1,e2⟩:=cM h;obtain ⟨e3,e4⟩:=XQ (λ z=>ha (aD _ z)) (λ z=>hb (aD _ z)) e2;exact ⟨by rw [e1,e3],e4⟩
def zcO {x y:Str} (h:x.cps.toList=y.cps.toList):x=y:=by
 obtain ⟨x⟩:=x;obtain ⟨y⟩:=y;exact bh Str.mk (Array.toList_inj.mp h)
def Zr (c:Nat) (x y:Str) (r:A8):(Str.join ⟨#[c]⟩ (x :: y :: r)).cps.toList=x.cps.toList ++ c :: (Str.join ⟨#[c]⟩ (y :: r)).cps.toList:=by
 show ((x.cps ++ #[c]) ++ (Str.join ⟨#[c]⟩ (y :: r)).cps).toList=_
 simp
theorem zbk {c:Nat}:∀ {xs ys:A8},xs≠[]->ys≠[]->(∀ x∈xs,c ∉ x.cps.toList)->(∀ y∈ys,c ∉ y.cps.toList)->Str.join ⟨#[c]⟩ xs=Str.join ⟨#[c]⟩ ys->xs=ys
 | [],_,h,_,_,_,_=>absurd rfl h
 | _,[],_,h,_,_,_=>absurd rfl h
 | [x],[y],_,_,_,_,e=>by rw [show x=y from e]
 | [x],y :: z :: r,_,_,hx,_,e=>by
  have e:=bh (λ s:Str=>s.cps.toList) e;simp only [Zr] at e;have e:x.cps.toList=y.cps.toList ++ c :: (Str.join ⟨#[c]⟩ (z :: r)).cps.toList:=e;exact absurd (by rw [e];simp) (hx x (aY ..))
 | x :: z :: r,[y],_,_,_,hy,e=>by
  have e:=bh (λ s:Str=>s.cps.toList) e;simp only [Zr] at e;have e:x.cps.toList ++ c :: (Str.join ⟨#[c]⟩ (z :: r)).cps.toList=y.cps.toList:=e;exact absurd (by rw [<- e];simp) (hy y (aY ..))
 | x :: x2 :: r,y :: y2 :: q,_,_,hx,hy,e=>by
  have e:=bh (λ s:Str=>s.cps.toList) e;simp only [Zr] at e;obtain ⟨e1,e2⟩:=XQ (hx x (aY ..)) (hy y (aY ..)) e;have:=zbk (xs:=x2 :: r) (ys:=y2 :: q) (by simp) (by simp) (λ z hz=>hx z (aD _ hz)) (λ z hz=>hy z (aD _ hz)) (zcO e2);rw [zcO e1,this]
def JX {c:Nat} {xs:A8} (h0:xs≠[]) (h:∀ x∈xs,c ∉ x.cps.toList):Txt.split (Str.join ⟨#[c]⟩ xs) ⟨#[c]⟩=xs :=
 zbk (λ z=>by have:=split_pos (Str.join ⟨#[c]⟩ xs) ⟨#[c]⟩;rw [z] at this;simp at this) h0 (StrLaws.split_free _ c) h (StrLaws.join_split _ _)
section
variable {X:Cx}
end
section
variable {κ:Type} [DecidableEq κ]
noncomputable def xn (om:List (κ × V)) (k:κ):Option V:=(om.find? λ kv=>decide (kv.1=k)).map (·.2)
noncomputable def vI (om:List (κ × V)) (k:κ) (v:V):List (κ × V) :=
 if (om.any λ kv=>decide (kv.1=k))=true then om.map (λ kv=>if kv.1=k then (kv.1,v) else kv) else om ++ [(k,v)]
noncomputable def zhI (om:List (κ × V)) (k:κ):List (κ × V):=om.filter λ kv=>decide (kv.1≠k)
def je {p:κ × V} {r:List (κ × V)} {k:κ} (e:p.1=k):xn (p :: r) k=some p.2:=by simp [xn,cR,e]
def jf {p:κ × V} {r:List (κ × V)} {k:κ} (e:¬ p.1=k):xn (p :: r) k=xn r k:=by simp [xn,cR,e]
theorem Z4 (k:κ):∀ om:List (κ × V),(om.any λ kv=>decide (kv.1=k))=(xn om k).isSome
 | []=>rfl
 | p :: r=>by
  rw [fU];by_cases e:p.1=k
  ·simp only [je e,bg e,Bool.true_or,Option.isSome_some]
  ·rw [jf e,a8 e,Bool.false_or];exact Z4 k r
theorem zak (k j:κ) (y:V):∀ om:List (κ × V),xn (om.map λ kv=>if kv.1=k then (kv.1,y) else kv) j=(xn om j).map λ x=>if j=k then y else x
 | []=>rfl
 | p :: r=>by
  have ih:=zak k j y r;rw [bE];by_cases h:p.1=k
  ·rw [ap h];by_cases e:p.1=j
   ·rw [je (p:=(p.1,y)) e,je e,ck,ap (e.symm.trans h)]
   ·rw [jf (p:=(p.1,y)) e,jf e,ih]
  ·rw [ao h];by_cases e:p.1=j
   ·rw [je (p:=p) e,je e,ck,ao (λ z=>h (e.trans z))]
   ·rw [jf (p:=p) e,jf e,ih]
theorem Wv (k j:κ) (y:V):∀ om:List (κ × V),xn om k=none->xn (om ++ [(k,y)]) j=if j=k then some y else xn om j
 | [],_=>by
  by_cases e:k=j
  ·rw [ap e.symm];exact je (p:=(k,y)) e
  ·rw [ao (λ z=>e z.symm)];exact jf (p:=(k,y)) e
 | p :: r,hn=>by
  rw [fo];have hk:¬ p.1=k:=λ z=>by rw [je z] at hn;cases hn
  rw [jf hk] at hn;have ih:=Wv k j y r hn;by_cases e:p.1=j
  ·rw [je e,je e,ao (λ z=>hk (e.trans z))]
  ·rw [jf e,jf e,ih]
def zaj (om:List (κ × V)) (k j:κ) (y:V):xn (vI om k y) j=if j=k then some y else xn om j:=by
 unfold vI;by_cases a:(om.any λ kv=>decide (kv.1=k))=true
 ·rw [ap a,zak];rw [Z4] at a;by_cases e:j=k
  ·obtain ⟨x,hx⟩:=fz.mp a;rw [ap e,e,hx,ck,ap rfl]
  ·rw [ao e];cases xn om j with
   | none=>rfl
   | some x=>rw [ck,ao e]
 ·rw [ao a];refine Wv k j y om ?_;rw [Z4] at a;cases q:xn om k with
  | none=>rfl
  | some x=>rw [q] at a;exact (a rfl).elim
def Jf (om:List (κ × V)) (k:κ) (v:V):(vI om k v).length<=om.length + 1:=by
 unfold vI
 split
 ·rw [ah];lia
 ·rw [aF,aX,cD];lia
def RelO.isSome_eq {o:Aq} {u:Option Value} (r:RelO o u):o.isSome=u.isSome:=by
 cases o with
 | none=>cases u with
  | none=>rfl
  | some _=>exact (show False from r).elim
 | some _=>cases u with
  | none=>exact (show False from r).elim
  | some _=>rfl
def RelO.getD {o:Aq} {u:Option Value} {d:V} {d':Am} (r:RelO o u) (rd:RelV d d'):RelV (o.getD d) (u.getD d'):=by
 cases o with
 | none=>cases u with
  | none=>exact rd
  | some _=>exact (show False from r).elim
 | some _=>cases u with
  | none=>exact (show False from r).elim
  | some _=>exact r
def KV.val {om:List (κ × V)} {vs:List (κ × Value)} (r:KV om vs) (k:κ):RelO (xn om k) (valueAt vs k):=by
 unfold KV at r
 induction r with
 | nil=>exact True.intro
 | @cons p q ps qs h t ih =>
  obtain ⟨h1,h2⟩:=h;by_cases e:p.1=k
  ·have e':q.1=k:=h1.symm.trans e;have b:valueAt (q :: qs) k=some q.2:=by simp [valueAt,cR,e']
   rw [je e,b];exact h2
  ·have e':¬ q.1=k:=λ z=>e (h1.trans z);have b:valueAt (q :: qs) k=valueAt qs k:=by simp [valueAt,cR,e']
   rw [jf e,b];exact ih
def KV.any {om:List (κ × V)} {vs:List (κ × Value)} (r:KV om vs) (k:κ):(om.any λ kv=>decide (kv.1=k))=vs.any λ kv=>decide (kv.1=k):=by
 unfold KV at r
 induction r with
 | nil=>rfl
 | cons h t ih=>rw [fU,fU,ih,h.1]
theorem KV.repl {om:List (κ × V)} {vs:List (κ × Value)} (r:KV om vs) (k:κ) {y:V} (ry:RelV y u) :
  KV (om.map λ kv=>if kv.1=k then (kv.1,y) else kv) (vs.map λ kv=>if kv.1=k then (kv.1,u) else kv):=by
 unfold KV at r ⊢
 induction r with
 | nil=>exact .nil
 | @cons p q ps qs h t ih =>
  rw [bE,bE];refine .cons ?_ ih;obtain ⟨h1,h2⟩:=h;by_cases e:p.1=k
  ·rw [ap e,ap (h1.symm.trans e)];exact ⟨h1,ry⟩
  ·rw [ao e,ao (λ z=>e (h1.trans z))];exact ⟨h1,h2⟩
def KV.put {om:List (κ × V)} {vs:List (κ × Value)} (r:KV om vs) (k:κ) {y:V} (ry:RelV y u):KV (vI om k y) (stored vs k u):=by
 unfold vI stored;rw [r.any k];by_cases e:(vs.any λ kv=>decide (kv.1=k))=true
 ·rw [ap e,ap e];exact r.repl k ry
 ·rw [ao e,ao e];exact Paired.snoc r ⟨rfl,ry⟩
def KV.drop {om:List (κ × V)} {vs:List (κ × Value)} (r:KV om vs) (k:κ):KV (zhI om k) (without vs k):=by
 unfold KV at r ⊢;unfold zhI without
 induction r with
 | nil=>exact .nil
 | @cons p q ps qs h t ih =>
  obtain ⟨h1,h2⟩:=h;rw [List.filter_cons,List.filter_cons];by_cases e:p.1=k
  ·have a:¬ decide (p.1≠k)=true:=by simp [e]
   have b:¬ decide (q.1≠k)=true:=by simp [h1.symm.trans e]
   rw [ao a,ao b];exact ih
  ·have e':¬ q.1=k:=λ z=>e (h1.trans z);have a:decide (p.1≠k)=true:=by simp [e]
   have b:decide (q.1≠k)=true:=by simp [e']
   rw [ap a,ap b];exact .cons ⟨h1,h2⟩ ih
def KV.keys {om:List (κ × V)} {vs:List (κ × Value)} (r:KV om vs):om.map (·.1)=vs.map (·.1):=by
 unfold KV at r
 induction r with
 | nil=>rfl
 | cons h t ih=>rw [bE,bE,ih,h.1]
def KV.length {om:List (κ × V)} {vs:List (κ × Value)} (r:KV om vs):om.length=vs.length:=cz r
end
def zc6 {k:Key} (r:RelV (kV k) u):(jc P w).is k u=true:=by
 cases k with
 | inl i=>obtain ⟨t,e⟩:=(show ∃ t,u=Value.int i t from r);subst e;exact za4 P w i t
 | inr x=>obtain ⟨t,e⟩:=(show ∃ t,u=Value.str x t from r);subst e;exact za3 P w x t
theorem WR {P:Af} {w:World}:∀ {ks:List Key} {us:A7},Vals (ks.map kV) us->ItemsAre (jc P w) ks us
 | [],_,r=>by rw [map_nil] at r;cases r;exact .nil
 | k :: ks,_,r=>by
  rw [bE] at r;cases r with
  | cons h t=>exact .cons (zc6 h) (WR t)
abbrev KT (H:Hp):List (List Key × V)->List (List Key × Addr × Value)->Prop:=Paired λ p q=>p.1=q.1/\H q.2.1=some (.tup (p.1.map kV))/\RelV p.2 q.2.2
def KT.val {xs:List (List Key × Addr × Value)} (r:KT H om xs) (k:List Key):RelO (xn om k) ((atKey xs k).map (·.2)):=by
 induction r with
 | nil=>exact True.intro
 | @cons p q ps qs h t ih =>
  obtain ⟨h1,_,h2⟩:=h;by_cases e:p.1=k
  ·have e':q.1=k:=h1.symm.trans e;have b:atKey (q :: qs) k=some q.2:=by simp [atKey,cR,e']
   rw [je e,b];exact h2
  ·have e':¬ q.1=k:=λ z=>e (h1.trans z);have b:atKey (q :: qs) k=atKey qs k:=by simp [atKey,cR,e']
   rw [jf e,b];exact ih
theorem KT.repl {xs:List (List Key × Addr × Value)} (r:KT H om xs) (k:List Key) {y:V} (ry:RelV y u) :
  KT H (om.map λ kv=>if kv.1=k then (kv.1,y) else kv) (xs.map (putAt k u)):=by
 induction r with
 | nil=>exact .nil
 | @cons p q ps qs h t ih =>
  rw [bE,bE];refine .cons ?_ ih;obtain ⟨h1,h2,h3⟩:=h;unfold putAt;by_cases e:p.1=k
  ·rw [ap e,ap (h1.symm.trans e)];exact ⟨h1,h2,ry⟩
  ·rw [ao e,ao (λ z=>e (h1.trans z))];exact ⟨h1,h2,h3⟩
def KT.put {xs:List (List Key × Addr × Value)} (r:KT H om xs) (k:List Key) {y:V} (hb:H b=some (.tup (k.map kV))) (ry:RelV y u) :
  KT H (vI om k y) (storedH xs k b u):=by
 have e:(om.any λ kv=>decide (kv.1=k))=(atKey xs k).isSome:=by
  rw [Z4,(r.val k).isSome_eq,dc]
 unfold vI storedH;rw [e];by_cases q:(atKey xs k).isSome=true
 ·rw [ap q,ap q];exact r.repl k ry
 ·rw [ao q,ao q];exact Paired.snoc r ⟨rfl,hb,ry⟩
def KT.keeps {H H':Hp} {xs:List (List Key × Addr × Value)} (r:KT H om xs) (ht:∀ b ys,H b=some (.tup ys)->H' b=some (.tup ys)):KT H' om xs :=
 Paired.mapP r λ _ _ z=>⟨z.1,ht _ _ z.2.1,z.2.2⟩
section
variable {P:Af} {w:World} {H:Hp} {h:Heap} {a:Addr}
def zhB {u:HO} (ok:HOk P w H h) (e:Rd H a u):ObjOk P w H h a u:=e.ok ok
def zdh {om:List (Key × V)} (ok:HOk P w H h) (e:Rd H a (.dK om)):om.length<=sizeLine/\(a == sysModules)=false/\∃ vs,KV om vs/\h.DictOf (jc P w) a vs :=
 show ObjOk P w H h a (.dK om) from zhB ok e
def zjE {om:List (Key × V)} (ok:HOk P w H h) (e:H a=some (.dK om)):om.length<=sizeLine/\(a == sysModules)=false/\∃ vs,KV om vs/\h.DictOf (jc P w) a vs:=zdh ok (.inl e)
def VV {ks:List Key} (ok:HOk P w H h) (e:H a=some (.tup (ks.map kV))):(tupleKind (jc P w)).is h ks a:=by
 obtain ⟨_,oo,r,o,h1,h2,n,h3⟩:=(show ObjOk P w H h a (.tup (ks.map kV)) from ok a _ e);exact ⟨o,oo.toArray,n,h1,h2,h3,by simpa using WR r⟩
theorem zdg (ok:HOk P w H h) (e:Rd H a (.dT om)):om.length<=sizeLine/\(a == sysModules)=false /\
  ∃ xs,KT H om xs/\h.DictOfH (tupleKind (jc P w)) a xs:=by
 obtain ⟨z,y,xs,r,o,es,ep,h1,h2,h3,h4,h5⟩:=(show ObjOk P w H h a (.dT om) from zhB ok e);refine ⟨z,y,xs,r,o,es,ep,h1,h2,h3,h4,λ x hx=>?_,h5⟩;have all:∀ {l:As} {m:List (List Key × Addr × Value)},KT H l m->∀ x∈m,(tupleKind (jc P w)).is h x.1 x.2.1:=by
  intro l m q
  induction q with
  | nil=>intro x hx;exact nomatch hx
  | @cons p q ps qs hq t ih =>
   intro x hx;rcases ar.mp hx with e|hx
   ·subst e;exact VV ok (by rw [<- hq.1];exact hq.2.1)
   ·exact ih x hx
 exact all r x hx
def zjD (ok:HOk P w H h) (e:H a=some (.dT om)):om.length<=sizeLine/\(a == sysModules)=false /\
  ∃ xs,KT H om xs/\h.DictOfH (tupleKind (jc P w)) a xs:=zdg ok (.inl e)
end
def DGet (H:Hp) (a:Addr) (y:V) (r:Aq):Prop :=
 (∃ om k,Rd H a (.dK om)/\y=kV k/\r=xn om k)\/∃ om k b,Rd H a (.dT om)/\y=.ref b/\H b=some (.tup (k.map kV))/\r=xn om k
def DPut (H:Hp) (a:Addr) (y v:V) (H':Hp):Prop :=
 (∃ om k,H a=some (.dK om)/\y=kV k/\om.length < sizeLine/\H'=upd H a (.dK (vI om k v))) \/
 ∃ om k b,H a=some (.dT om)/\y=.ref b/\H b=some (.tup (k.map kV))/\om.length < sizeLine/\H'=upd H a (.dT (vI om k v))
def DGet.k {a:Addr} {om:List (Key × V)} {k:Key} (e:H a=some (.dK om)):DGet H a (kV k) (xn om k):=.inl ⟨om,k,.inl e,rfl,rfl⟩
def DGet.t {a b:Addr} {k:List Key} (e:H a=some (.dT om)) (eb:H b=some (.tup (k.map kV))):DGet H a (.ref b) (xn om k):=.inr ⟨om,k,b,.inl e,rfl,eb,rfl⟩
def DPut.k {a:Addr} {om:List (Key × V)} {k:Key} (e:H a=some (.dK om)) (hl:om.length < sizeLine):DPut H a (kV k) v (upd H a (.dK (vI om k v))):=.inl ⟨om,k,e,rfl,hl,rfl⟩
def DPut.t {a b:Addr} {k:List Key} (e:H a=some (.dT om)) (eb:H b=some (.tup (k.map kV))) (hl:om.length < sizeLine) :
  DPut H a (.ref b) v (upd H a (.dT (vI om k v))):=.inr ⟨om,k,b,e,rfl,eb,hl,rfl⟩
section
variable {X:Cx} {o6:A2} {σ:St} {H:Hp} {s:An} {a:Addr} {y v:V} {u r:Am} {o:Aq} {A:Ao} {E:A3}
def Inv.big (I:Inv X o6 σ H s):sysModules < s.heap.objs.size:=by
 have h:mainGlobals < s.heap.objs.size:=(I.mod.glob.keeps I.bk).lt;exact Nat.lt_trans (by decide) h
def zet {Q:A3} (hu:A.units + 1 < cLine) (I:Inv X o6 σ H s) (g:DGet H a y (some v)) (ry:RelV y u) (h:∀ w' s',Inv X o6 σ H s'->RelV v w'->Q w' s') :
  wpAny (model X.prog X.w) A (getItem (.ref a) u) Q E s:=by
 rcases g with ⟨om,k,e,ey,l⟩|⟨om,k,b,e,ey,eb,l⟩
 ·subst ey;obtain ⟨z,hd,vs,rel,dd⟩:=zdh I.hok e;obtain ⟨w',hw,rw'⟩:=RelO.some_of (v:=v) (o:=valueAt vs k) (by rw [l];exact rel.val k);exact wpAny_getItem_of (zc6 ry) dd.mapOf hw (h w' _ (I.tok _) rw')
 ·subst ey;cases (show u=Value.ref b from ry);obtain ⟨z,hd,xs,rel,dd⟩:=zdg I.hok e;obtain ⟨w',hw,rw'⟩:=RelO.some_of (v:=v) (o:=(atKey xs k).map (·.2)) (by rw [l];exact rel.val k);obtain ⟨p,hp,hp2⟩:=am.mp hw;refine wpAny_getItem_heap (eD hu) (VV I.hok eb) dd hp ?_;rw [hp2];exact h w' _ (I.tok _) rw'
def zj0 {Q:A3} (hu:A.units + 1 < cLine) (I:Inv X o6 σ H s) (g:DGet H a y o) (ry:RelV y u) (h:∀ s',Inv X o6 σ H s'->Q (.bool o.isSome) s') :
  wpAny (model X.prog X.w) A (compareOp .In u (.ref a)) Q E s:=by
 rcases g with ⟨om,k,e,ey,l⟩|⟨om,k,b,e,ey,eb,l⟩
 ·subst ey;obtain ⟨z,hd,vs,rel,dd⟩:=zdh I.hok e;refine wpAny_in_of (zc6 ry) hd dd.mapOf ?_;rw [<- (rel.val k).isSome_eq,<- l];exact h _ (I.tok _)
 ·subst ey;cases (show u=Value.ref b from ry);obtain ⟨z,hd,xs,rel,dd⟩:=zdg I.hok e;refine wpAny_in_heap (eD hu) (VV I.hok eb) hd dd ?_;have q:=(rel.val k).isSome_eq;rw [dc] at q;rw [<- q,<- l];exact h _ (I.tok _)
def V4 {h':Heap} {t':Nat} {ob:HO} (I:Inv X o6 σ H s) (mu:Mut (H a)) (hs:Heap.SameBut a s.heap h') (he:∃ q,h'.get? a=some q) (new:ObjOk X.prog X.w (upd H a ob) h' a ob) :
  Inv X o6 σ (upd H a ob) { s with heap:=h',toks:=t' } :=
 I.write (x:=a) (e:=a) mu (.inl rfl) (λ b q hb z=>(hs.2 b hb).trans z) he new
def ziH {H':Hp} {h':Heap} {om:List (Key × V)} {vs:List (Key × Value)} (z:om.length<=sizeLine) (hd:(a == sysModules)=false) (rel:KV om vs) (dd:h'.DictOf (jc P w) a vs) :
  ObjOk P w H' h' a (.dK om):=⟨z,hd,vs,rel,dd⟩
def zes {H':Hp} {Q:Ag} (hu:A.units + 1 < cLine) (I:Inv X o6 σ H s) (g:DPut H a y v H') (ry:RelV y u) (rv:RelV v r) (h:∀ s',Inv X o6 σ H' s'->Q () s') :
  wpAny (model X.prog X.w) A (setItem (.ref a) u r) Q E s:=by
 rcases g with ⟨om,k,e,ey,l,eH⟩|⟨om,k,b,e,ey,eb,l,eH⟩
 ·subst ey eH;obtain ⟨z,hd,vs,rel,dd⟩:=zjE I.hok e;have hz:vs.length<=sizeLine:=by rw [<- rel.length];exact z
  have hl:(vI om k v).length<=sizeLine:=by have:=Jf om k v;lia
  refine wpAny_setItem_pairs (hsz:=hz) (zc6 ry) dd λ h' dd' hs=>h _ ?_;have he:∃ q,h'.get? a=some q:=let ⟨q,_,_,hq,_⟩:=dd';⟨q,hq⟩
  exact V4 I (by rw [e];exact True.intro) hs he (ziH hl hd (rel.put k rv) dd')
 ·subst ey eH;cases (show u=Value.ref b from ry);obtain ⟨z,hd,xs,rel,dd⟩:=zjD I.hok e;have hz:xs.length<=sizeLine:=by rw [<- cz rel];exact z
  have hl:(vI om k v).length<=sizeLine:=by have:=Jf om k v;lia
  refine wpAny_setItem_heap (hsz:=hz) (eD hu) (VV I.hok eb) dd λ h' dd' hs=>h _ ?_;obtain ⟨q,es,ep,hq,h2,h3,h4,_,h5⟩:=dd';refine V4 I (by rw [e];exact True.intro) hs ⟨q,hq⟩ ⟨hl,hd,_,(rel.put k eb rv).keeps λ c ys ec=>?_,q,es,ep,hq,h2,h3,h4,h5⟩;rw [oC (Qh ec e (λ z=>nomatch z))];exact ec
end
section
variable {X:Cx} {o6:A2} {σ:St} {H:Hp} {s:An} {a:Addr} {om:List (Key × V)} {k:Key} {u:Am} {A:Ao} {E:A3}
end
def ziZ (i:Expr):Prop:=∀ ov iv,subscripted i false ov iv=operate [ov,iv] (getItem ov iv)
theorem zcM {prog:Af} {A:Ao} {E:A3} {s:An} {env:Env} {value slice:Expr} {pos:Pos} {T id:String} {Q:A3}
  (hl:typeLookup (.type T) "__getitem__"=pure (some (.builtin id))) (hs:ziZ slice)
  (h:wpAny (model prog w) A (eval value env) (λ o s₁=>wpAny (model prog w) A (eval slice env) (λ i s₂=>s₂.TypeIs o T/\wpAny (model prog w) A (getItem o i) Q E s₂) E s₁) E s) :
  wpAny (model prog w) A (eval (.Subscript value slice pos) env) Q E s:=by
 refine Subscript_ (aS h (λ o s₁ h₁=>aS h₁ (λ i s₂ h₂=>?_) λ _ _ x=>x) λ _ _ x=>x);obtain ⟨hT,h₂⟩:=h₂;unfold subscriptTail;refine ai ?_;rw [getitemInPython_of_ne hT.not_modules];refine ai (wpAny_specialOf hT hl ?_);have fin:wpAny (model prog w) A (subscripted slice false o i) (λ r s₃=>wpAny (model prog w) A (letTemporaryGo value o r >>= λ _=>pure r) Q E s₃) E s₂:=by
  rw [hs o i];exact wpAny_operating (aS h₂ (λ r s₃ h₃=>ai (wpAny_letTemporaryGo (aG h₃))) λ _ _ x=>x)
 first
  | exact aG (ai fin)
  | exact ai (aG (ai fin))
  | exact ai fin
def zbp {X:Cx} {o6:A2} {σ:St} {s:An} {a:Addr} {y:V} {o:Aq} (I:Inv X o6 σ H s) (g:DGet H a y o):s.TypeIs (.ref a) "dict":=by
 rcases g with ⟨om,k,e,_,_⟩|⟨om,k,b,e,_,_,_⟩
 ·obtain ⟨_,_,vs,_,dd⟩:=zdh I.hok e;exact dd.typeIs
 ·obtain ⟨_,_,xs,_,dd⟩:=zdg I.hok e;exact dd.typeIs
def tDGet (td ty:TE):TE:=λ σ H Q=>td σ H λ x H1=>ty σ H1 λ y H2=>∃ a v,x=.ref a/\DGet H2 a y (some v)/\Q v H2
def tDIn (ty td:TE):TE:=λ σ H Q=>ty σ H λ y H1=>td σ H1 λ x H2=>∃ a o,x=.ref a/\DGet H2 a y o/\Q (.bl o.isSome) H2
def sDPut (td ty tv:TE):TS:=λ D σ H=>tv σ H λ v H1=>td σ H1 λ x H2=>ty σ H2 λ y H3=>∃ a H4,x=.ref a/\DPut H3 a y v H4/\D.nx σ H4
section
variable {X:Cx} {o i e value:Expr} {pos pos' tpos:Pos} {td ty tv:TE}
def zcU (hu:X.A.units + 1 < cLine) (ho:PE X o td) (hi:PE X i ty) (hs:ziZ i):PE X (.Subscript o i pos) (tDGet td ty):=by
 intro o6 s σ H Q I h;refine zcM fe.lookup hs (thn (ho o6 s σ H _ I h) λ u s1 ⟨x,H1,I1,rx,q1⟩=>thn (hi o6 s1 σ H1 _ I1 q1) λ iv s2 ⟨y,H2,I2,ry,a,v,ex,g,q2⟩=>?_);subst ex;obtain rfl:u=Value.ref a:=rx;exact ⟨zbp I2 g,zet hu I2 g ry λ w' s3 I3 rw'=>⟨v,H2,I3,rw',q2⟩⟩
def zih (hu:X.A.units + 1 < cLine) (hi:PE X i ty) (ho:PE X o td):PC X .In i o (tDIn ty td):=by
 intro o6 s σ H Q I h;refine thn (hi o6 s σ H _ I h) λ iv s1 ⟨y,H1,I1,ry,q1⟩=>thn (ho o6 s1 σ H1 _ I1 q1) λ u s2 ⟨x,H2,I2,rx,a,ov,ex,g,q2⟩=>?_;subst ex;obtain rfl:u=Value.ref a:=rx;exact zj0 hu I2 g ry λ s3 I3=>⟨.bl ov.isSome,H2,I3,rfl,q2⟩
def zgP (hu:X.A.units + 1 < cLine) (ho:PE X o td) (hi:PE X i ty) (hv:PE X value tv) (hs:swapsWith value (some (.Subscript o i pos')) pos.line X.env=pure false) :
  PS X (.Assign [.Subscript o i pos'] value pos) (sDPut td ty tv):=by
 intro o6 s σ H D I h;refine wpAny_Assign_Subscript (thn (hv o6 s σ H _ I h) λ r s1 ⟨v,H1,I1,rv,q1⟩=>thn (ho o6 s1 σ H1 _ I1 q1) λ u s2 ⟨x,H2,I2,rx,q2⟩=>thn (hi o6 s2 σ H2 _ I2 q2) λ iv s3 ⟨y,H3,I3,ry,a,H4,ex,g,q3⟩=>?_) hs;subst ex;obtain rfl:u=Value.ref a:=rx;exact zes hu I3 g ry rv λ s4 I4=>⟨σ,H4,I4,q3⟩
end
def zf3 (h:Heap) (hb:sysModules < h.objs.size):ObjOk P w H (h.push { cls:=.type "dict",data:=.dict #[] }) h.objs.size (.dT []) :=
 ⟨bA _,aW.mpr (a7 (aR hb)),[],.nil,_,#[],0,aB _ rfl,⟨rfl,rfl,rfl⟩,rfl,rfl,nodup_nil⟩
def tDNewT:TE:=λ _ H Q=>∀ p,H p=none->Q (.ref p) (upd H p (.dT []))
section
variable {X:Cx} {pos:Pos}
def zfp:PE X (.Dict [] [] pos) tDNewT:=λ o6 s σ H Q I h =>
 wpAny_Dict_empty ⟨.ref s.heap.objs.size,_,I.laid (a:=s.heap.objs.size) (o:=.dT []) (t':=s.toks) (λ _ _ q=>aj _ q) (au _) (zf3 s.heap I.big),rfl,h _ (I.hok.fresh (au _))⟩
end
section
variable {X:Cx} {o6:A2} {σ:St} {H:Hp} {s:An} {a:Addr} {y d:V} {u r:Am} {o:Aq} {A:Ao} {E:A3}
end
section
variable {X:Cx} {o e f:Expr} {apos cpos:Pos} {td ty tx:TE}
end
section
variable {κ:Type} [DecidableEq κ]
end
end L2
namespace L2
open PySem PySem.Spec PySem.Calls PyProof.Rows
section
variable {X:Cx}
end
end L2
namespace L2
open PySem PySem.Spec PyProof.Rows
variable {items:Ac}
section
variable {prog:Af} {w:World} {A:Ao} {E:A3} {s:An} {it d:Addr} {i ep:Nat} {es:Array DictEntry} {od:Obj}
end
theorem wH {α β:Type} {F:α->β->Prop}:∀ {l₁:List α} {l₂:List β},Paired F l₁ l₂->∀ {i:Nat} {x:α} {y:β},l₁[i]?=some x->l₂[i]?=some y->F x y
 | _,_,.nil,_,_,_,h,_=>nomatch h
 | _,_,.cons r t,0,_,_,h,h'=>by cases h;cases h';exact r
 | _,_,.cons r t,i + 1,_,_,h,h'=>wH t h h'
section
variable {prog:Af} {w:World}
structure KItem (prog:Af) (w:World) (κ:Type) [DecidableEq κ] (d:Nat) where
 is:Heap->κ->Value->Prop
 hash:κ->Int
 draws:κ->Nat
 inj:∀ {h:Heap} {v:Am} {x y:κ},is h x v->is h y v->x=y
 keeps:∀ {h h':Heap} {k:κ} {v:Am} {a:Addr} {o:Obj} {es:Array DictEntry} {ep:Nat},is h k v->h.get? a=some o->o.data=.dict es ep->Heap.SameBut a h h'->is h' k v
 pyHash:∀ {A:Ao} {E:A3} {s:An} {k:κ} {v:Am} {Q:Int->Shared->Prop},A.units + d < cLine->is s.heap k v->Q (hash k) { s with toks:=s.toks + draws k }->wpAny (model prog w) A (PySem.pyHash v) Q E s
 eq:∀ {A:Ao} {s:An} {x y:κ} {u v:Am},A.units + d < cLine->is s.heap x u->is s.heap y v->SeqAt.EqAt A s u v (decide (x=y))
 quiet:∀ {A:Ao} {E:A3} {s:An} {n:Nat} {k:κ} {v:Am} {Q:Bool->Shared->Prop},d<=n->is s.heap k v->Q true s->wpAny (model prog w) A (eqIsQuiet n v) Q E s
noncomputable def oiV:Option Int->V
 | none=>.non
 | some n=>.int n
def zaU (x:A9):xk (oiV x)=true:=by cases x <;> rfl
def zim (x y:A9):eqV (oiV x) (oiV y)=decide (x=y):=by
 cases x with
 | none=>cases y <;> simp [oiV,eqV]
 | some a =>
  cases y with
  | none=>simp [oiV,eqV]
  | some b =>
   show (a == b)=decide (some a=some b)
   by_cases e:a=b <;> simp [e]
def zg0 {x y:A9} {v:Am} (h1:RelV (oiV x) v) (h2:RelV (oiV y) v):x=y:=by
 cases x <;> cases y
 ·rfl
 ·cases h1;obtain ⟨t,e⟩:=h2;cases e
 ·cases h2;obtain ⟨t,e⟩:=h1;cases e
 ·obtain ⟨t,rfl⟩:=h1;obtain ⟨t,e⟩:=h2;cases e;rfl
noncomputable def zjs:Option Int->Int
 | none=>reduceHash 0xFCA86420
 | some n=>hashInt n
def zaV {x:A9} {v:Am} (h:RelV (oiV x) v):carriedByValue v=true:=by
 cases x with
 | none=>cases h;rfl
 | some n=>obtain ⟨t,rfl⟩:=h;rfl
noncomputable def jV (prog:Af) (w:World):KItem prog w A9 0 where
 is:=λ _ k v=>RelV (oiV k) v
 hash:=zjs
 draws:=λ _=>1
 inj:=zg0
 keeps:=λ h _ _ _=>h
 pyHash:=by
  intro A E s k v Q hu h q;cases k with
  | none =>
   cases h;exact gi (T:="NoneType") rfl F.slot_NoneType_hash F.entry_NoneType_hash (F.args_NoneType_hash_1 _) (beq_builtin_none _) (.inr (by lia)) (ai (aG (ai (wpAny_mkInt (aG ⟨_,_,rfl,q⟩)))))
  | some n =>
   obtain ⟨t,rfl⟩:=h;exact wpAny_pyHash_int q
 eq:=by
  intro A s x y u v hu h1 h2;rw [<- zim];exact ZZ h1 h2 (zaU x) (zaU y)
 quiet:=by
  intro A E s n k v Q _ h q;rw [eqIsQuiet_byValue _ (zaV h)];exact aG q
inductive HashAll (prog:Af) (w:World) (d:Nat) (hp:Heap):List Value->List (Int × Nat)->Prop
 | nil:HashAll prog w d hp [] []
 | cons {v:Am} {h:Int × Nat} {vs:A7} {hs:List (Int × Nat)}:(∀ (A:Ao) (E:A3) (s:An) (Q:Int->Shared->Prop),s.heap=hp->A.units + d < cLine->Q h.1 { s with toks:=s.toks + h.2 }->wpAny (model prog w) A (PySem.pyHash v) Q E s)->HashAll prog w d hp vs hs->HashAll prog w d hp (v :: vs) (h :: hs)
theorem WS {d:Nat} {hp:Heap} {A:Ao} {E:A3} (hu:A.units + d < cLine):∀ {vs:A7} {hs:List (Int × Nat)} {s:An} {b:Array Int} {Q:Array Int->Shared->Prop},HashAll prog w d hp vs hs->s.heap=hp->(∀ b',b'.toList=b.toList ++ hs.map (·.1)->Q b' { s with toks:=s.toks + (hs.map (·.2)).sum }) ->
  wpAny (model prog w) A (forIn vs b λ x r=>do let h <- PySem.pyHash x;pure PUnit.unit;pure (ForInStep.yield (r.push h))) Q E s
 | _,_,s,b,Q,.nil,_,h=>aG (h b (by simp))
 | _,_,s,b,Q,.cons (h:=h0) x r,e,h=>by
  rw [fR];refine ai (ai (x A E s _ e hu ?_));refine ai (aG (aG ?_));refine WS hu r (by exact e) λ b' hb=>?_;have:=h b' (by simp [hb]);simpa [Nat.add_assoc] using this
def zbn {d:Nat} {a:Addr} {hs:List (Int × Nat)} {A:Ao} {E:A3} {s:An} {Q:Int->Shared->Prop} (hT:IsTup s.heap a items) (all:HashAll prog w d s.heap items.toList hs) (hu:A.units + (d + 1) < cLine)
  (h:Q (reduceHash (Builtin.Tuple.tupleHashOf (hs.map (·.1)))) { s with toks:=s.toks + ((hs.map (·.2)).sum + 1) }):wpAny (model prog w) A (PySem.pyHash (.ref a)) Q E s:=by
 obtain ⟨o,ho,hc,n,hd⟩:=hT;refine gi (T:="tuple") ⟨_,ho,hc⟩ F.slot_tuple_hash F.entry_tuple_hash (F.args_tuple_hash_1 _) (beq_builtin_none _) (.inr (by lia)) ?_;show wpAny _ _ (Builtin.Tuple.tupleItemsOf (.ref a) >>= _) _ _ s
 refine ai (wpAny_tupleItemsOf ho hd ?_);refine ai ?_;rw [<- gI];refine WS (d:=d) (by simp only [fD];lia) all rfl λ b hb=>?_;show wpAny _ _ (retInt (Builtin.Tuple.tupleHashOf b.toList)) _ _ _
 rw [hb];exact ai (wpAny_mkInt (aG ⟨_,_,rfl,by simpa [Nat.add_assoc] using h⟩))
def WC {d:Nat} {a:Addr} {A:Ao} {E:A3} {s:An} {Q:Bool->Shared->Prop} {n:Nat} (hT:IsTup s.heap a items) (all:∀ v∈items.toList,∀ (A:Ao) (E:A3) (Q:Bool->Shared->Prop),Q true s->wpAny (model prog w) A (eqIsQuiet n v) Q E s) (h:Q true s):wpAny (model prog w) A (eqIsQuiet (n + 1) (.ref a)) Q E s:=by
 obtain ⟨o,ho,hc,m,hd⟩:=hT;have hT:s.TypeIs (.ref a) "tuple":=⟨o,ho,hc⟩;unfold eqIsQuiet;refine ai (wpAny_specialOf hT F.slot_tuple_eq.lookup ?_);show wpAny _ _ (isInstance (.ref a) (.type "tuple") >>= _) _ _ s
 refine ai (wpAny_isInstance hT isSubtype_tuple_tuple ?_);simp only [fB,c7,cx];refine ai (bM ho hd ?_);refine ai ?_;show wpAny _ _ (forIn items _ _) _ _ s
 rw [<- gI];refine wpAny_forIn_list _ (λ rest r s'=>r.1=none/\s'=s/\∀ v∈rest,v∈items.toList) _ ?_ ?_ _ _ ⟨rfl,rfl,λ v hv=>hv⟩
 ·rintro v rest r s' ⟨hr,rfl,hall⟩;refine ai (all v (hall v aY) _ _ _ ?_);simp only [fB,c7,cx];exact aG ⟨rfl,rfl,λ u hu'=>hall u (aD _ hu')⟩
 ·rintro ⟨r1,r2⟩ s' ⟨hr,rfl,_⟩;simp only at hr;subst hr;exact aG h
def XL {h h':Heap} {b a:Addr} {o:Obj} {es:Array DictEntry} {ep:Nat} (x:IsTup h b items) (ho:h.get? a=some o) (hd:o.data=.dict es ep) (hs:Heap.SameBut a h h'):IsTup h' b items:=by
 obtain ⟨o',h1,h2,n,h3⟩:=x;have ne:b≠a:=λ z=>by
  subst z;rw [ho] at h1;cases h1;rw [hd] at h3;cases h3
 exact ⟨o',(hs.2 b ne).trans h1,h2,n,h3⟩
def Zs {h:Heap} {b:Addr} {xs ys:Ac} (x:IsTup h b xs) (y:IsTup h b ys):xs=ys:=by
 obtain ⟨o,h1,_,n,h3⟩:=x;obtain ⟨o',g1,_,m,g3⟩:=y;rw [h1] at g1;cases g1;rw [h3] at g3;injection g3
def ziT {κ:Type} [DecidableEq κ] {xs ys:List κ}:((List.range (min xs.length ys.length)).all (λ j=>decide (xs[j]?=ys[j]?)) && xs.length == ys.length)=decide (xs=ys):=by
 by_cases e:xs=ys
 ·subst e;simp
 ·rw [a8 e];by_cases hl:xs.length=ys.length
  ·have:¬ (List.range (min xs.length ys.length)).all (λ j=>decide (xs[j]?=ys[j]?))=true:=λ z=>e (List.ext_getElem? λ j=>by
    rw [bS] at z;by_cases hj:j < xs.length
    ·exact bB (z j (cA.mpr (by lia)))
    ·rw [bW (by lia),bW (by lia)])
   simp only [Bool.not_eq_true] at this;rw [this]
   rfl
  ·have:(xs.length == ys.length)=false:=aW.mpr hl;rw [this,cB]
section
variable {κ:Type} [DecidableEq κ] {d:Nat}
theorem ZV {F:κ->Value->Prop} (f:∀ (x y:κ) (v:Am),F x v->F y v->x=y):∀ {xs ys:List κ} {vs:A7},Paired F xs vs->Paired F ys vs->xs=ys
 | _,_,_,.nil,h=>by cases h;rfl
 | _,_,_,.cons a t,h=>by
  cases h with
  | cons b u=>rw [f _ _ _ a b,ZV f t u]
def zba {n d e c:Nat} (l:d<=e) (h:n + e < c):n + d < c:=cW (gm l n) h
def zjr {A:Ao} {e c:Nat} (h:A.units + (e + 1) < c):A.in1.units + e < c:=by
 simp only [fD]
 lia
def zeT {n d:Nat} (h:d + 1<=n):∃ m,n=m + 1/\d<=m:=⟨n - 1,by lia,by lia⟩
noncomputable def Zk (I:KItem prog w κ d):KItem prog w (List κ) (d + 1) where
 is:=λ h ks v=>∃ a items,v=.ref a/\IsTup h a items/\Paired (I.is h) ks items.toList
 hash:=λ ks=>reduceHash (Builtin.Tuple.tupleHashOf (ks.map I.hash))
 draws:=λ ks=>(ks.map I.draws).sum + 1
 inj:=by
  rintro h v x y ⟨a,items,rfl,h1,h2⟩ ⟨b,items',e,g1,g2⟩;cases e;have:=Zs h1 g1;subst this;exact ZV (F:=I.is h) (λ _ _ _ p q=>I.inj p q) h2 g2
 keeps:=by
  rintro h h' k v a o es ep ⟨b,items,rfl,h1,h2⟩ ho hd hs;exact ⟨b,items,rfl,XL h1 ho hd hs,Paired.mapP h2 λ p q z=>I.keeps z ho hd hs⟩
 pyHash:=by
  rintro A E s k v Q hu ⟨b,items,rfl,h1,h2⟩ q;have all:∀ {ks:List κ} {vs:A7},Paired (I.is s.heap) ks vs->HashAll prog w d s.heap vs (ks.map λ k=>(I.hash k,I.draws k)):=by
   intro ks vs p
   induction p with
   | nil=>exact .nil
   | cons z _ ih=>exact .cons (λ A E s' Q e hu q=>I.pyHash hu (by rw [e];exact z) q) ih
  refine zbn h1 (all h2) hu ?_;rw [dJ,dJ];exact q
 eq:=by
  rintro A s x y u v hu ⟨a,xs,rfl,h1,h2⟩ ⟨b,ys,rfl,g1,g2⟩;by_cases e:a=b
  ·subst e;have:=Zs h1 g1;subst this;rw [ZV (F:=I.is s.heap) (λ _ _ _ p q=>I.inj p q) h2 g2,bg rfl];exact dR _
  ·refine cG e ?_;have l1:x.length=xs.size:=by rw [cz h2,bQ]
   have l2:y.length=ys.size:=by rw [cz g2,bQ]
   have:=cO (A:=A) (s:=s) (e:=λ j=>decide (x[j]?=y[j]?)) h1 g1 (by lia) (λ j hj1 hj2=>by
    obtain ⟨k1,e1⟩:∃ k,x[j]?=some k:=⟨x[j]'(by lia),ac _⟩;obtain ⟨k2,e2⟩:∃ k,y[j]?=some k:=⟨y[j]'(by lia),ac _⟩;have p1:=wH h2 e1 (show xs.toList[j]?=some xs[j] by rw [cJ,fh hj1]);have p2:=wH g2 e2 (show ys.toList[j]?=some ys[j] by rw [cJ,fh hj2]);rw [e1,e2,show decide (some k1=some k2)=decide (k1=k2) by simp];exact I.eq (zjr hu) p1 p2)
   rw [<- l1,<- l2,ziT] at this;exact this
 quiet:=by
  rintro A E s n k v Q hn ⟨b,items,rfl,h1,h2⟩ q;obtain ⟨m,rfl,hm⟩:=zeT hn;refine WC (d:=d) h1 (λ v hv A E Q q=>?_) q;obtain ⟨j,hj⟩:=List.mem_iff_getElem?.mp hv;have hl:=(aa.mp hj).1;obtain ⟨k1,e1⟩:∃ x,k[j]?=some x:=⟨k[j]'(by rw [cz h2];exact hl),ac _⟩;exact I.quiet hm (wH h2 e1 hj) q
end
section
variable {κ1 κ2 κ3 κ4:Type} [DecidableEq κ1] [DecidableEq κ2] [DecidableEq κ3] [DecidableEq κ4] {d1 d2 d3 d4:Nat}
inductive QIs (I1:KItem prog w κ1 d1) (I2:KItem prog w κ2 d2) (I3:KItem prog w κ3 d3) (I4:KItem prog w κ4 d4) (h:Heap) (k:κ1 × κ2 × κ3 × κ4) (v:Am):Prop
 | i (a:Addr) (u1 u2 u3 u4:Am):v=.ref a->IsTup h a #[u1,u2,u3,u4]->I1.is h k.1 u1->I2.is h k.2.1 u2->I3.is h k.2.2.1 u3->I4.is h k.2.2.2 u4->QIs I1 I2 I3 I4 h k v
noncomputable def zfh (I1:KItem prog w κ1 d1) (I2:KItem prog w κ2 d2) (I3:KItem prog w κ3 d3) (I4:KItem prog w κ4 d4) (d:Nat) (l1:d1<=d) (l2:d2<=d) (l3:d3<=d) (l4:d4<=d):KItem prog w (κ1 × κ2 × κ3 × κ4) (d + 1) where
 is:=QIs I1 I2 I3 I4
 hash:=λ k=>reduceHash (Builtin.Tuple.tupleHashOf [I1.hash k.1,I2.hash k.2.1,I3.hash k.2.2.1,I4.hash k.2.2.2])
 draws:=λ k=>[I1.draws k.1,I2.draws k.2.1,I3.draws k.2.2.1,I4.draws k.2.2.2].sum + 1
 inj:=by
  rintro h v ⟨x1,x2,x3,x4⟩ ⟨y1,y2,y3,y4⟩ ⟨a,u1,u2,u3,u4,rfl,h1,i1,i2,i3,i4⟩ ⟨b,v1,v2,v3,v4,e,g1,j1,j2,j3,j4⟩;cases e;have:=Zs h1 g1;cases this;simp only at i1 i2 i3 i4 j1 j2 j3 j4;rw [I1.inj i1 j1,I2.inj i2 j2,I3.inj i3 j3,I4.inj i4 j4]
 keeps:=by
  rintro h h' k v a o es ep ⟨b,u1,u2,u3,u4,rfl,h1,i1,i2,i3,i4⟩ ho hd hs;exact ⟨b,u1,u2,u3,u4,rfl,XL h1 ho hd hs,I1.keeps i1 ho hd hs,I2.keeps i2 ho hd hs,I3.keeps i3 ho hd hs,I4.keeps i4 ho hd hs⟩
 pyHash:=by
  rintro A E s k v Q hu ⟨b,u1,u2,u3,u4,rfl,h1,i1,i2,i3,i4⟩ q;refine zbn (d:=d) (hs:=[(I1.hash k.1,I1.draws k.1),(I2.hash k.2.1,I2.draws k.2.1),(I3.hash k.2.2.1,I3.draws k.2.2.1),(I4.hash k.2.2.2,I4.draws k.2.2.2)]) h1 ?_ hu q;exact .cons (λ A E s' Q e hu q=>I1.pyHash (zba l1 hu) (by rw [e];exact i1) q) (.cons (λ A E s' Q e hu q=>I2.pyHash (zba l2 hu) (by rw [e];exact i2) q) (.cons (λ A E s' Q e hu q=>I3.pyHash (zba l3 hu) (by rw [e];exact i3) q) (.cons (λ A E s' Q e hu q=>I4.pyHash (zba l4 hu) (by rw [e];exact i4) q) .nil)))
 eq:=by
  rintro A s ⟨x1,x2,x3,x4⟩ ⟨y1,y2,y3,y4⟩ u v hu ⟨a,u1,u2,u3,u4,rfl,h1,i1,i2,i3,i4⟩ ⟨b,v1,v2,v3,v4,rfl,g1,j1,j2,j3,j4⟩;simp only at i1 i2 i3 i4 j1 j2 j3 j4;by_cases e:a=b
  ·subst e;have:=Zs h1 g1;cases this;rw [I1.inj i1 j1,I2.inj i2 j2,I3.inj i3 j3,I4.inj i4 j4,bg rfl];exact dR _
  ·refine cG e ?_;have hu':=zjr hu;have:=cO (A:=A) (s:=s) (e:=λ j=>[decide (x1=y1),decide (x2=y2),decide (x3=y3),decide (x4=y4)].getD j true) h1 g1 (by lia) (λ j hj1 hj2=>by
    match j,hj1,hj2 with
    | 0,_,_=>exact I1.eq (zba l1 hu') i1 j1
    | 1,_,_=>exact I2.eq (zba l2 hu') i2 j2
    | 2,_,_=>exact I3.eq (zba l3 hu') i3 j3
    | 3,_,_=>exact I4.eq (zba l4 hu') i4 j4)
   have z:((List.range (min (#[u1,u2,u3,u4]:Ac).size (#[v1,v2,v3,v4]:Ac).size)).all (λ j=>[decide (x1=y1),decide (x2=y2),decide (x3=y3),decide (x4=y4)].getD j true) && (#[u1,u2,u3,u4]:Ac).size == (#[v1,v2,v3,v4]:Ac).size)=decide ((x1,x2,x3,x4)=(y1,y2,y3,y4)):=by
    show ((List.range 4).all _ && true)=_
    rw [show List.range 4=[0,1,2,3] from rfl];simp only [all_cons,List.all_nil,fC,List.getD_cons_zero,List.getD_cons_succ,Prod.mk.injEq,Bool.decide_and]
   rw [z] at this;exact this
 quiet:=by
  rintro A E s n k v Q hn ⟨b,u1,u2,u3,u4,rfl,h1,i1,i2,i3,i4⟩ q;obtain ⟨m,rfl,hm⟩:=zeT hn;refine WC (d:=d) h1 (λ v hv A E Q q=>?_) q;have hv:v=u1\/v=u2\/v=u3\/v=u4:=by simpa using hv
  rcases hv with rfl|rfl|rfl|rfl
  ·exact I1.quiet (aZ l1 hm) i1 q
  ·exact I2.quiet (aZ l2 hm) i2 q
  ·exact I3.quiet (aZ l3 hm) i3 q
  ·exact I4.quiet (aZ l4 hm) i4 q
end
abbrev ShK:=Option Int × List (List A9) × List A9 × List A9
noncomputable def jG (prog:Af) (w:World):KItem prog w ShK 3:=zfh (jV prog w) (Zk (Zk (jV prog w))) (Zk (jV prog w)) (Zk (jV prog w)) 2 (by decide) (by decide) (by decide) (by decide)
noncomputable def wB (prog:Af) (w:World):HeapKind prog w ShK where
 is:=λ h k a=>(jG prog w).is h k (.ref a)
 hash:=(jG prog w).hash
 draws:=(jG prog w).draws
 room:=λ A=>A.units + 3 < cLine
 inj:=λ hx hy=>(jG prog w).inj hx hy
 keeps:=λ x ho hd hs=>(jG prog w).keeps x ho hd hs
 pyHash:=λ hu hk h=>(jG prog w).pyHash hu hk h
 eqBool:=λ hu hx hy h=>(jG prog w).eq hu hx hy prog w _ _ h
 quiet:=λ hk h=>(jG prog w).quiet (by decide) hk h
end
noncomputable def oiD:Option Int->D
 | none=>.non
 | some n=>.int n
noncomputable def shD (k:ShK):D:=.tup [oiD k.1,.tup (k.2.1.map λ r=>.tup (r.map oiD)),.tup (k.2.2.1.map oiD),.tup (k.2.2.2.map oiD)]
theorem WE {α β:Type} {F:α->β->Prop}:∀ {xs:List α} {ys:List β},xs.length=ys.length->(∀ (i:Nat) x y,xs[i]?=some x->ys[i]?=some y->F x y)->Paired F xs ys
 | [],[],_,_=>.nil
 | [],_ :: _,h,_=>by simp at h
 | _ :: _,[],h,_=>by simp at h
 | x :: xs,y :: ys,h,f=>.cons (f 0 x y rfl rfl) (WE (by simpa using h) λ i a b e1 e2=>f (i + 1) a b e1 e2)
section
variable {P:Af} {w:World} {H:Hp} {h:Heap} {p:A5}
def Qv {x:A9} {v:V} {u:Am} (r:Rep H p v (oiD x)) (e:RelV v u):(jV P w).is h x u:=by
 cases x with
 | none =>
  have r:Rep H p v .non:=r;cases r;exact e
 | some n =>
  have r:Rep H p v (.int n):=r;cases r;exact e
def JH {κ:Type} [DecidableEq κ] {d:Nat} (ok:HOk P w H h) {I:KItem P w κ d} {f:κ->D} (hI:∀ x v u,Rep H p v (f x)->RelV v u->I.is h x u) {xs:List κ} {v:V} {u:Am} (r:Rep H p v (.tup (xs.map f))) (e:RelV v u):(Zk I).is h xs u:=by
 obtain ⟨t,us,rfl,_,ht,rr⟩:=Rep.tup' r;obtain ⟨_,oo,vals,isT⟩:=(show ObjOk P w H h t (.tup us) from ok t _ ht);refine ⟨t,oo.toArray,e,isT,WE ?_ λ i x y e1 e2=>?_⟩
 ·rw [gu,<- vals.length,rr.len,ah]
 ·rw [gu] at e2;obtain ⟨v',hv',rv⟩:=rr.of (i:=i) (d:=f x) (by rw [ak,e1];rfl);exact hI x v' y rv (wH vals hv' e2)
theorem zdm {α:Type} {n:Nat}:∀ {us:List α},us.length=n + 1->∃ v w,us=v :: w/\w.length=n
 | v :: w,h=>⟨v,w,rfl,by simpa using h⟩
def zcW {v:V} {vs:Ap} {us:A7} (h:Vals (v :: vs) us):∃ u ws,us=u :: ws/\RelV v u/\Vals vs ws:=by
 cases h with
 | cons a b=>exact ⟨_,_,rfl,a,b⟩
def Zm (ok:HOk P w H h) {k:ShK} {b:Addr} (r:Rep H p (.ref b) (shD k)):(wB P w).is h k b:=by
 obtain ⟨t,us,e,_,ht,rr⟩:=Rep.tup' r;cases e;obtain ⟨_,oo,vals,isT⟩:=(show ObjOk P w H h b (.tup us) from ok b _ ht);have g:=rr.g;obtain ⟨v1,w1,rfl,l1⟩:=zdm rr.len;obtain ⟨v2,w2,rfl,l2⟩:=zdm l1;obtain ⟨v3,w3,rfl,l3⟩:=zdm l2;obtain ⟨v4,w4,rfl,l4⟩:=zdm l3;cases dn.mp l4;obtain ⟨u1,z1,rfl,q1,vals⟩:=zcW vals;obtain ⟨u2,z2,rfl,q2,vals⟩:=zcW vals;obtain ⟨u3,z3,rfl,q3,vals⟩:=zcW vals;obtain ⟨u4,z4,rfl,q4,vals⟩:=zcW vals;cases vals;have k1:=Qv (P:=P) (w:=w) (h:=h) (g 0 v1 _ rfl rfl) q1;have k2:=JH ok (I:=Zk (jV P w)) (λ x v u r e=>JH ok (I:=jV P w) (λ x v u r e=>Qv r e) r e) (g 1 v2 _ rfl rfl) q2;have k3:=JH ok (I:=jV P w) (λ x v u r e=>Qv r e) (g 2 v3 _ rfl rfl) q3;have k4:=JH ok (I:=jV P w) (λ x v u r e=>Qv r e) (g 3 v4 _ rfl rfl) q4;exact ⟨b,u1,u2,u3,u4,rfl,isT,k1,k2,k3,k4⟩
end
noncomputable def toV (x:ShK × Addr × Addr):ShK × Addr × Value:=(x.1,x.2.1,.ref x.2.2)
noncomputable def sdO (P:Af) (w:World) (D:Addr) (xs:List (ShK × Addr × Addr)):HO:=.ext λ h=>((D == sysModules)=false/\xs.length<=sizeLine/\(xs.map (·.1)).Nodup)/\∃ o es ep,h.get? D=some o/\o.ExactDict/\o.data=.dict es ep/\es.toList=(xs.map toV).map (entryOfKey (wB P w))
def keysOk (H:Hp) (xs:List (ShK × Addr × Addr)):Prop:=∀ x∈xs,∃ p:Addr->Prop,Rep H p (.ref x.2.1) (shD x.1)
noncomputable def wj (xs:List (ShK × Addr × Addr)) (k:ShK):Option Addr:=(xs.find? λ x=>decide (x.1=k)).map (·.2.2)
theorem Qo (k:ShK):∀ xs:List (ShK × Addr × Addr),(atKey (xs.map toV) k).map (·.2)=(wj xs k).map Value.ref
 | []=>rfl
 | x :: xs=>by
  have ih:=Qo k xs;unfold atKey wj at ih ⊢;rw [bE,cR,cR];show Option.map _ (Option.map _ (match decide (x.1=k) with|true=>some (toV x)|false=>_))=_
  by_cases e:x.1=k
  ·rw [bg e];rfl
  ·rw [a8 e];exact ih
def keysOk.same {H H':Hp} {xs:List (ShK × Addr × Addr)} (h:keysOk H xs) (s:∀ b ys,H b=some (.tup ys)->H' b=some (.tup ys)) (t:∀ x∈xs,∃ p:Addr->Prop,Rep H p (.ref x.2.1) (shD x.1)/\∀ b o,p b->H b=some o->H' b=some o):keysOk H' xs:=λ x hx=>by
 obtain ⟨p,r,k⟩:=t x hx;exact ⟨p,r.keep λ b o pb hb=>⟨pb,k b o pb hb⟩⟩
def zcQ {P:Af} {w:World} {H:Hp} {h:Heap} {D:Addr} {xs:List (ShK × Addr × Addr)} (ok:HOk P w H h) (e:H D=some (sdO P w D xs)) (ks:keysOk H xs):(D == sysModules)=false/\xs.length<=sizeLine/\(xs.map (·.1)).Nodup/\h.DictOfH (wB P w) D (xs.map toV):=by
 obtain ⟨⟨⟨h1,h2,h3⟩,o,es,ep,g1,g2,g3,g4⟩,_,_⟩:=(show ObjOk P w H h D (sdO P w D xs) from ok D _ e);refine ⟨h1,h2,h3,o,es,ep,g1,g2,g3,g4,λ x hx=>?_,by rw [dJ];exact h3⟩;obtain ⟨y,hy,rfl⟩:=aO.mp hx;obtain ⟨p,r⟩:=ks y hy;exact Zm ok r
def zhA {P:Af} {w:World} {H:Hp} {h:Heap} {D:Addr} {xs:List (ShK × Addr × Addr)} (h1:(D == sysModules)=false) (h2:xs.length<=sizeLine) (h3:(xs.map (·.1)).Nodup) (g:∃ o es ep,h.get? D=some o/\o.ExactDict/\o.data=.dict es ep/\es.toList=(xs.map toV).map (entryOfKey (wB P w))):ObjOk P w H h D (sdO P w D xs):=by
 refine ⟨⟨⟨h1,h2,h3⟩,g⟩,?_,?_⟩
 ·obtain ⟨o,_,_,g1,_⟩:=g;exact ⟨o,g1⟩
 ·rintro k1 k2 ⟨a,o,es,ep,g1,g2⟩ k;exact ⟨a,o,es,ep,k o g1,g2⟩
section
variable {X:Cx} {o6:A2} {σ:St} {H:Hp} {s:An} {D b y:Addr} {A:Ao} {E:A3} {xs:List (ShK × Addr × Addr)} {k:ShK} {p:A5}
def ZM (hu:A.units + 100 < cLine):(wB X.prog X.w).room A.in1:=by
 show A.in1.units + 3 < cLine
 simp only [fD]
 lia
def zjR {Q:A3} (hu:A.units + 100 < cLine) (I:Inv X o6 σ H s) (e:H D=some (sdO X.prog X.w D xs)) (ks:keysOk H xs) (r:Rep H p (.ref b) (shD k)) (h:∀ s',Inv X o6 σ H s'->Q (.bool (wj xs k).isSome) s'):wpAny (model X.prog X.w) A (compareOp .In (.ref b) (.ref D)) Q E s:=by
 obtain ⟨h1,h2,h3,dd⟩:=zcQ I.hok e ks;refine wpAny_in_heap (ZM hu) (Zm I.hok r) h1 dd ?_;have q:=bh Option.isSome (Qo k xs);rw [dc,dc] at q;rw [q];exact h _ (I.tok _)
def zjb {Q:A3} (hu:A.units + 100 < cLine) (I:Inv X o6 σ H s) (e:H D=some (sdO X.prog X.w D xs)) (ks:keysOk H xs) (r:Rep H p (.ref b) (shD k)) (l:wj xs k=some y) (h:∀ s',Inv X o6 σ H s'->Q (.ref y) s'):wpAny (model X.prog X.w) A (getItem (.ref D) (.ref b)) Q E s:=by
 obtain ⟨h1,h2,h3,dd⟩:=zcQ I.hok e ks;have q:=Qo k xs;rw [l] at q;obtain ⟨z,hz,e2⟩:=am.mp q;refine wpAny_getItem_heap (ZM hu) (Zm I.hok r) dd hz ?_;rw [e2];exact h _ (I.tok _)
def zja {Q:Ag} (hu:A.units + 100 < cLine) (I:Inv X o6 σ H s) (e:H D=some (sdO X.prog X.w D xs)) (ks:keysOk H xs) (r:Rep H p (.ref b) (shD k)) (l:wj xs k=none) (hl:xs.length < sizeLine) (h:∀ s',Inv X o6 σ (upd H D (sdO X.prog X.w D (xs ++ [(k,b,y)]))) s'->Q () s'):wpAny (model X.prog X.w) A (setItem (.ref D) (.ref b) (.ref y)) Q E s:=by
 obtain ⟨h1,h2,h3,dd⟩:=zcQ I.hok e ks;have q:=Qo k xs;rw [l] at q;have q:atKey (xs.map toV) k=none:=by simpa using q
 refine wpAny_setItem_heap (hsz:=by rw [ah];exact h2) (ZM hu) (Zm I.hok r) dd λ h' dd' hs=>h _ ?_;rw [storedH_new q] at dd';obtain ⟨o,es,ep,g1,g2,g3,g4,_,g5⟩:=dd';refine V4 I (by rw [e];exact True.intro) hs ⟨o,g1⟩ (zhA h1 (by simp;lia) ?_ ⟨o,es,ep,g1,g2,g3,?_⟩)
 ·have:(xs ++ [(k,b,y)]).map (·.1)=((xs.map toV ++ [(k,b,Value.ref y)]).map (·.1)):=by simp [toV]
  rw [this];exact g5
 ·rw [g4];simp [toV]
end
def tSIn (P:Af) (w:World) (ty td:TE):TE:=λ σ H Q=>ty σ H λ y H1=>td σ H1 λ x H2=>∃ D b xs k p,x=.ref D/\y=.ref b/\H2 D=some (sdO P w D xs)/\keysOk H2 xs/\Rep H2 p (.ref b) (shD k)/\Q (.bl (wj xs k).isSome) H2
def tSGet (P:Af) (w:World) (td ty:TE):TE:=λ σ H Q=>td σ H λ x H1=>ty σ H1 λ y H2=>∃ D b xs k p z,x=.ref D/\y=.ref b/\H2 D=some (sdO P w D xs)/\keysOk H2 xs/\Rep H2 p (.ref b) (shD k)/\wj xs k=some z/\Q (.ref z) H2
def sSPut (P:Af) (w:World) (td ty tv:TE):TS:=λ N σ H=>tv σ H λ v H1=>td σ H1 λ x H2=>ty σ H2 λ y H3=>∃ D b xs k p z,x=.ref D/\y=.ref b/\v=.ref z/\H3 D=some (sdO P w D xs)/\keysOk H3 xs/\Rep H3 p (.ref b) (shD k)/\wj xs k=none/\xs.length < sizeLine/\N.nx σ (upd H3 D (sdO P w D (xs ++ [(k,b,z)])))
def tSNew (P:Af) (w:World):TE:=λ _ H Q=>∀ p,H p=none->Q (.ref p) (upd H p (sdO P w p []))
section
variable {X:Cx} {o i value:Expr} {pos pos':Pos} {td ty tv:TE}
def zig (hu:X.A.units + 100 < cLine) (hi:PE X i ty) (ho:PE X o td):PC X .In i o (tSIn X.prog X.w ty td):=by
 intro o6 s σ H Q I h;refine qL (hi o6 s σ H _ I h) λ iv s1 y H1 I1 ry q1=>qL (ho o6 s1 σ H1 _ I1 q1) λ u s2 x H2 I2 rx qq_=>?_;obtain ⟨D,b,xs,k,p,ex,ey,e,ks,r,q2⟩:=qq_;subst ex ey;obtain rfl:u=Value.ref D:=rx;obtain rfl:iv=Value.ref b:=ry;exact zjR hu I2 e ks r λ s3 I3=>⟨.bl _,H2,I3,rfl,q2⟩
def zgT (hu:X.A.units + 100 < cLine) (ho:PE X o td) (hi:PE X i ty) (hs:ziZ i):PE X (.Subscript o i pos) (tSGet X.prog X.w td ty):=by
 intro o6 s σ H Q I h;refine zcM fe.lookup hs (qL (ho o6 s σ H _ I h) λ u s1 x H1 I1 rx q1=>qL (hi o6 s1 σ H1 _ I1 q1) λ iv s2 y H2 I2 ry qq_=>?_);obtain ⟨D,b,xs,k,p,z,ex,ey,e,ks,r,l,q2⟩:=qq_;subst ex ey;obtain rfl:u=Value.ref D:=rx;obtain rfl:iv=Value.ref b:=ry;exact ⟨(zcQ I2.hok e ks).2.2.2.typeIs,zjb hu I2 e ks r l λ s3 I3=>⟨.ref z,H2,I3,rfl,q2⟩⟩
def zgO (hu:X.A.units + 100 < cLine) (ho:PE X o td) (hi:PE X i ty) (hv:PE X value tv) (hs:swapsWith value (some (.Subscript o i pos')) pos.line X.env=pure false) :
  PS X (.Assign [.Subscript o i pos'] value pos) (sSPut X.prog X.w td ty tv):=by
 intro o6 s σ H N I h;refine wpAny_Assign_Subscript (qL (hv o6 s σ H _ I h) λ r s1 v H1 I1 rv q1=>qL (ho o6 s1 σ H1 _ I1 q1) λ u s2 x H2 I2 rx q2=>qL (hi o6 s2 σ H2 _ I2 q2) λ iv s3 y H3 I3 ry qq_=>?_) hs;obtain ⟨D,b,xs,k,p,z,ex,ey,ez,e,ks,r',l,hl,q3⟩:=qq_;subst ex ey ez;obtain rfl:u=Value.ref D:=rx;obtain rfl:iv=Value.ref b:=ry;obtain rfl:r=Value.ref z:=rv;exact zja hu I3 e ks r' l hl λ s4 I4=>⟨σ,_,I4,q3⟩
def zgS:PE X (.Dict [] [] pos) (tSNew X.prog X.w):=λ o6 s σ H Q I h =>
 wpAny_Dict_empty ⟨.ref s.heap.objs.size,_,I.laid (a:=s.heap.objs.size) (o:=sdO X.prog X.w s.heap.objs.size []) (t':=s.toks) (λ _ _ q=>aj _ q) (au _) (zhA (aW.mpr (a7 (aR I.big))) (bA _) nodup_nil ⟨_,#[],0,aB _ rfl,⟨rfl,rfl,rfl⟩,rfl,rfl⟩),rfl,h _ (I.hok.fresh (au _))⟩
end
section
variable {X:Cx} {G:GK} {x:Str} {np pos hpos:Pos} {body su:List Stmt} {b₀:Stmt} {tb:List (Addr × Obj)->GK->TS} {th:List (Addr × Obj)->Addr->TS}
def zi4 (X:Cx) (x:Str) (tb:List (Addr × Obj)->GK->TS) (th:List (Addr × Obj)->Addr->TS):TS:=λ D σ H=>∃ Dc,X.mg x=some (.ref Dc)/\subIn X.K (.ref Dc) (.type "BaseException")=some true /\
 ∀ pn,tb pn (λ cls σ' H'=>∃ C,cls=.ref C/\kitCls X.K (.ref C) (.ref Dc)=some true/\∀ a,H' a=none->th pn a D σ' H') D σ H
theorem zh7 (B:Bod X) (hc:X.calm=true)
  (hb:∀ pn G',PSs ((X.pinned pn).exg G') body (tb pn G')) (hs:∀ pn a,PSs (X.suite pn a) (b₀ :: su) (th pn a)) (hg:Gl X x:=by rfl) (hdb:(x == ("__debug__":Str))=false:=by decide) :
  PS (X.exg G) (.Try body [.ExceptHandler (some (.Name x np)) none (b₀ :: su) hpos] [] [] pos) (zi4 X x tb th):=by
 intro o6 s σ H D I h;obtain ⟨Dc,hm,hsub,h⟩:=h;have I1:=I.unwish.topn;refine wpAny_Try_except (aS (hb (X.pn ++ o6) _ [] s σ H D (I1.wish _) (h (X.pn ++ o6))) (λ f s1 q=>?_) λ e s1 q=>?_)
 ·cases f with
  | next =>
   obtain ⟨σ',H',J,q⟩:=q;exact cC ⟨σ',H',J.unwish.ofpn.wish _,q⟩
  | brk=>obtain ⟨σ',H',J,q⟩:=q;exact ⟨σ',H',J.unwish.ofpn.wish _,q⟩
  | cont=>obtain ⟨σ',H',J,q⟩:=q;exact ⟨σ',H',J.unwish.ofpn.wish _,q⟩
  | ret u=>obtain ⟨v,σ',H',J,r,q⟩:=q;exact ⟨v,σ',H',J.unwish.ofpn.wish _,r,q⟩
 ·refine aS (show wpAny _ _ _ _ _ _ from q) (λ _ s2 q2=>aS q2 (λ _ s3 q3=>?_) λ _ _ z=>z.elim) λ _ _ z=>z.elim;obtain ⟨a,cls,σ',H',rfl,J,xx,C,rfl,hk,hth⟩:=q3;have J2:Inv (X.suite (X.pn ++ o6) a) [] σ' H' s3:=J.tosuite;obtain ⟨oe,vs,he,hcls,_,_⟩:=xx.obj;refine c9 (cS (jS J2 hg hm (wn J2.kIn he hcls hk hsub ?_) hdb)) (by intro z;cases z);refine dO ?_;refine ZY J2 (xx.less λ p hp=>by rwa [bT] at hp) λ s4 J4 x4=>?_;refine aS (hs (X.pn ++ o6) a [] s4 _ _ _ J4 (hth a xx.Ha)) (λ f s6 q6=>?_) λ _ _ z=>False.elim z;cases f with
  | next=>obtain ⟨σ7,H7,J7,q7⟩:=q6;exact ⟨σ7,H7,(J7.ofsuite I.ok.hd).ofpn.wish _,q7⟩
  | brk=>obtain ⟨σ7,H7,J7,q7⟩:=q6;exact ⟨σ7,H7,(J7.ofsuite I.ok.hd).ofpn.wish _,q7⟩
  | cont=>obtain ⟨σ7,H7,J7,q7⟩:=q6;exact ⟨σ7,H7,(J7.ofsuite I.ok.hd).ofpn.wish _,q7⟩
  | ret u=>obtain ⟨v,σ7,H7,J7,r7,q7⟩:=q6;exact ⟨v,σ7,H7,(J7.ofsuite I.ok.hd).ofpn.wish _,r7,q7⟩
end
def QA {X:Cx}:CallR X (.type "tuple") (λ xs H Q=>∃ p ys,xs=[.ref p]/\((SqL X.K H p ys/\∀ l,H l=none->Q (.ref l) (upd H l (.tup ys)))\/(SqT X.K H p ys/\Q (.ref p) H))):=Wo
end L2
namespace L2
section
variable {G:Prop} {A B C D E F H I:Type}
def iE2 {k:A->B->Prop} (a:A) (b:B) (p:k a b):∃ a b,k a b:=⟨a,b,p⟩
def iE3 {k:A->B->C->Prop} (a:A) (b:B) (c:C) (p:k a b c):∃ a b c,k a b c:=⟨a,b,c,p⟩
def iE4 {k:A->B->C->D->Prop} (a:A) (b:B) (c:C) (d:D) (p:k a b c d):∃ a b c d,k a b c d:=⟨a,b,c,d,p⟩
def iE5 {k:A->B->C->D->E->Prop} (a:A) (b:B) (c:C) (d:D) (e:E) (p:k a b c d e):∃ a b c d e,k a b c d e:=⟨a,b,c,d,e,p⟩
def iE6 {k:A->B->C->D->E->F->Prop} (a:A) (b:B) (c:C) (d:D) (e:E) (f:F) (p:k a b c d e f):∃ a b c d e f,k a b c d e f:=⟨a,b,c,d,e,f,p⟩
def iE7 {k:A->B->C->D->E->F->H->Prop} (a:A) (b:B) (c:C) (d:D) (e:E) (f:F) (g:H) (p:k a b c d e f g):∃ a b c d e f g,k a b c d e f g:=⟨a,b,c,d,e,f,g,p⟩
def iE8 {k:A->B->C->D->E->F->H->I->Prop} (a:A) (b:B) (c:C) (d:D) (e:E) (f:F) (g:H) (i:I) (p:k a b c d e f g i):∃ a b c d e f g i,k a b c d e f g i:=⟨a,b,c,d,e,f,g,i,p⟩
def oE1 {k:A->Prop} (h:∃ a,k a) (w:∀ a,k a->G):G:=by obtain ⟨a,p⟩:=h;exact w a p
def oE2 {k:A->B->Prop} (h:∃ a b,k a b) (w:∀ a b,k a b->G):G:=by obtain ⟨a,b,p⟩:=h;exact w a b p
def oE3 {k:A->B->C->Prop} (h:∃ a b c,k a b c) (w:∀ a b c,k a b c->G):G:=by obtain ⟨a,b,c,p⟩:=h;exact w a b c p
def oE4 {k:A->B->C->D->Prop} (h:∃ a b c d,k a b c d) (w:∀ a b c d,k a b c d->G):G:=by obtain ⟨a,b,c,d,p⟩:=h;exact w a b c d p
def oE5 {k:A->B->C->D->E->Prop} (h:∃ a b c d e,k a b c d e) (w:∀ a b c d e,k a b c d e->G):G:=by obtain ⟨a,b,c,d,e,p⟩:=h;exact w a b c d e p
def oE6 {k:A->B->C->D->E->F->Prop} (h:∃ a b c d e f,k a b c d e f) (w:∀ a b c d e f,k a b c d e f->G):G:=by obtain ⟨a,b,c,d,e,f,p⟩:=h;exact w a b c d e f p
def oE7 {k:A->B->C->D->E->F->H->Prop} (h:∃ a b c d e f g,k a b c d e f g) (w:∀ a b c d e f g,k a b c d e f g->G):G:=by obtain ⟨a,b,c,d,e,f,g,p⟩:=h;exact w a b c d e f g p
def oE8 {k:A->B->C->D->E->F->H->I->Prop} (h:∃ a b c d e f g i,k a b c d e f g i) (w:∀ a b c d e f g i,k a b c d e f g i->G):G:=by obtain ⟨a,b,c,d,e,f,g,i,p⟩:=h;exact w a b c d e f g i p
end
section
variable {G A B C D E F H I J:Prop}
def iA3 (a:A) (b:B) (c:C):A/\B/\C:=⟨a,b,c⟩
def iA4 (a:A) (b:B) (c:C) (d:D):A/\B/\C/\D:=⟨a,b,c,d⟩
def iA5 (a:A) (b:B) (c:C) (d:D) (e:E):A/\B/\C/\D/\E:=⟨a,b,c,d,e⟩
def iA6 (a:A) (b:B) (c:C) (d:D) (e:E) (f:F):A/\B/\C/\D/\E/\F:=⟨a,b,c,d,e,f⟩
def iA7 (a:A) (b:B) (c:C) (d:D) (e:E) (f:F) (g:H):A/\B/\C/\D/\E/\F/\H:=⟨a,b,c,d,e,f,g⟩
def iA8 (a:A) (b:B) (c:C) (d:D) (e:E) (f:F) (g:H) (i:I):A/\B/\C/\D/\E/\F/\H/\I:=⟨a,b,c,d,e,f,g,i⟩
def iA9 (a:A) (b:B) (c:C) (d:D) (e:E) (f:F) (g:H) (i:I) (j:J):A/\B/\C/\D/\E/\F/\H/\I/\J:=⟨a,b,c,d,e,f,g,i,j⟩
def oA2 (h:A/\B) (k:A->B->G):G:=by obtain ⟨a,b⟩:=h;exact k a b
def oA3 (h:A/\B/\C) (k:A->B->C->G):G:=by obtain ⟨a,b,c⟩:=h;exact k a b c
def oA4 (h:A/\B/\C/\D) (k:A->B->C->D->G):G:=by obtain ⟨a,b,c,d⟩:=h;exact k a b c d
def oA5 (h:A/\B/\C/\D/\E) (k:A->B->C->D->E->G):G:=by obtain ⟨a,b,c,d,e⟩:=h;exact k a b c d e
def oA6 (h:A/\B/\C/\D/\E/\F) (k:A->B->C->D->E->F->G):G:=by obtain ⟨a,b,c,d,e,f⟩:=h;exact k a b c d e f
def oA7 (h:A/\B/\C/\D/\E/\F/\H) (k:A->B->C->D->E->F->H->G):G:=by obtain ⟨a,b,c,d,e,f,g⟩:=h;exact k a b c d e f g
def oA8 (h:A/\B/\C/\D/\E/\F/\H/\I) (k:A->B->C->D->E->F->H->I->G):G:=by obtain ⟨a,b,c,d,e,f,g,i⟩:=h;exact k a b c d e f g i
def oA9 (h:A/\B/\C/\D/\E/\F/\H/\I/\J) (k:A->B->C->D->E->F->H->I->J->G):G:=by obtain ⟨a,b,c,d,e,f,g,i,j⟩:=h;exact k a b c d e f g i j
end
end L2
namespace Mine
def zfY {p r:Int} (hp:0<=p) (hr:0 < r):Int.gcd r (p % r)=Int.gcd p r:=by
 have e:(p % r).natAbs=p.natAbs % r.natAbs:=by
  have h1:p=(p.natAbs:Int):=by lia
  have h2:r=(r.natAbs:Int):=by lia
  rw [h1,h2,<- ee,bL,bL,bL]
 show Nat.gcd r.natAbs (p % r).natAbs=Nat.gcd p.natAbs r.natAbs
 rw [e,Nat.gcd_comm p.natAbs,Nat.gcd_rec r.natAbs p.natAbs,Nat.gcd_comm]
def zhc {p:Int} (hp:0<=p):(Int.gcd p 0:Int)=p:=by
 rw [Int.gcd_zero_right];lia
def zdb {a b:Int} (h:¬ (a=0/\b=0)):1<=(Int.gcd a b:Int):=by
 have:0 < Int.gcd a b:=Int.gcd_pos_iff.mpr (by lia)
 lia
end Mine
namespace Mine
structure IsLcm (ns:A6) (l:Int):Prop where
 pos:0 < l
 dv:∀ n∈ns,n ∣ l
 least:∀ m:Int,(∀ n∈ns,n ∣ m)->l ∣ m
def IsLcm.nil:IsLcm [] 1:=⟨by decide,(λ _ h=>nomatch h),λ m _=>Int.one_dvd m⟩
def zir {a b:Int} (ha:0 < a) (hb:0 < b):a / (Int.gcd a b:Int) * b=(Nat.lcm a.natAbs b.natAbs:Int):=by
 have g:(Int.gcd a b:Int) ∣ a:=Int.gcd_dvd_left ..;obtain ⟨k,hk⟩:=g;have gp:0 < (Int.gcd a b:Int):=by have:=zdb (a:=a) (b:=b) (by lia);lia
 have e1:a / (Int.gcd a b:Int)=k:=by
  conv=>lhs;rw [hk]
  have hk':=hk;rw [Int.mul_comm (Int.gcd a b:Int) k];have e2:Int.gcd (k * (Int.gcd a b:Int)) b=Int.gcd a b:=by rw [Int.mul_comm,<- hk]
  rw [e2];exact Int.mul_ediv_cancel _ (by lia)
 have hkn:0 < k:=by
  rcases (by lia:k<=0\/0 < k) with h|h
  ·have:=Int.mul_nonpos_of_nonneg_of_nonpos (cU gp) h
   lia
  ·exact h
 have hg:Nat.gcd a.natAbs b.natAbs * Nat.lcm a.natAbs b.natAbs=a.natAbs * b.natAbs:=Nat.gcd_mul_lcm ..;have ea:a.natAbs=Nat.gcd a.natAbs b.natAbs * k.natAbs:=by
  have:=bh Int.natAbs hk;rw [Int.natAbs_mul,bL] at this;exact this
 have gp':0 < Nat.gcd a.natAbs b.natAbs:=by
  have:(Nat.gcd a.natAbs b.natAbs:Int)=(Int.gcd a b:Int):=rfl
  lia
 have e3:Nat.lcm a.natAbs b.natAbs=k.natAbs * b.natAbs:=by
  apply Nat.eq_of_mul_eq_mul_left gp';rw [hg,<- Nat.mul_assoc,<- ea]
 rw [e1,e3];rw [Int.natCast_mul];have h1:k=(k.natAbs:Int):=by lia
 have h2:b=(b.natAbs:Int):=by lia
 rw [<- h1,<- h2]
def ZE {a b:Int} (h:a ∣ b):a.natAbs ∣ b.natAbs:=cI.mpr h
def IsLcm.step {ns:A6} {l p:Int} (x:IsLcm ns l) (hp:0 < p):IsLcm (ns ++ [p]) (l / (Int.gcd l p:Int) * p):=by
 rw [zir x.pos hp];have lp:0 < l.natAbs:=by have:=x.pos;lia
 have pp:0 < p.natAbs:=by lia
 refine ⟨?_,λ n hn=>?_,λ m hm=>?_⟩
 ·have:=Nat.lcm_pos lp pp
  lia
 ·rcases aE.mp hn with h|h
  ·have h1:=x.dv n h;refine Int.dvd_trans h1 ?_;rw [<- cI,bL];exact Nat.dvd_lcm_left ..
  ·rw [aw.mp h,<- cI,bL];exact Nat.dvd_lcm_right ..
 ·have h1:=x.least m λ n hn=>hm n (bp _ hn);have h2:=hm p (aU _ (aw.mpr rfl));rw [<- cI,bL];exact Nat.lcm_dvd (ZE h1) (ZE h2)
def VZ {a b:Int} (hb:0 < b):(Int.gcd a b:Int)<=b:=Int.le_of_dvd hb (Int.gcd_dvd_right ..)
end Mine
namespace L2
open PySem PySem.Spec PyProof.Rows
variable {i:Int} {xs:Ap} {v:V} {CX:CXT} {P:Af} {w:World} {mg:A4} {base:Heap} {N:A8} {qual:Str} {scope:Scope} {f:Addr} {cd:Am} {A:Ao} {s:An} {E:XK} {n:Nat}
section
variable {X:Cx} {K:A0} {σ:St} {H:Hp} {Q:VK} {D:Ends}
theorem rd_iq {P:Int->Prop}:iq (.int i) P=P i:=rfl
theorem rd_bq {b:Bool} {P:Bool->Prop}:bq (.bl b) P=P b:=rfl
theorem rd_nq {P:Prop}:nq .non P=P:=rfl
theorem rd_lq {P:V->Prop}:lq [v] P=P v:=rfl
theorem rd_vq {P:V->Prop}:vq (some (some v)) P=P v:=rfl
theorem rd_addI {i j:Int}:zaK K (.int i) (.int j) H Q=Q (.int (i + j)) H:=rfl
theorem rd_addS {i j:Str}:zaK K (.str i) (.str j) H Q=(i.length + j.length<=sizeLine/\Q (.str (i ++ j)) H):=rfl
theorem rd_mc {α β:Type} {f:α->β} {a:α} {l:List α}:List.map f (a :: l)=f a :: List.map f l:=rfl
theorem rd_mn {α β:Type} {f:α->β}:List.map f []=[]:=rfl
theorem rd_itT {A B:Prop}:(if true=true then A else B)=A:=rfl
theorem rd_itF {A B:Prop}:(if false=true then A else B)=B:=rfl
theorem rd_is0 {A B:Prop}:(if V.non=V.non then A else B)=A:=rfl
theorem rd_is1 {a:Addr} {A B:Prop}:(if V.ref a=V.non then A else B)=B:=rfl
theorem rd_is2 {a:Int} {A B:Prop}:(if V.int a=V.non then A else B)=B:=rfl
theorem rd_in0 {A B:Prop}:(if ¬ V.non=V.non then A else B)=B:=rfl
theorem rd_in1 {a:Addr} {A B:Prop}:(if ¬ V.ref a=V.non then A else B)=A:=rfl
theorem rd_in2 {a:Int} {A B:Prop}:(if ¬ V.int a=V.non then A else B)=A:=rfl
theorem rd_sz0 {P:Prop}:szl [] P=P:=rfl
section
variable {P:Prop} {a b c d e f g h i:V}
theorem rd_sz1:szl [a] P=P:=rfl
theorem rd_sz2:szl [a,b] P=P:=rfl
theorem rd_sz3:szl [a,b,c] P=P:=rfl
theorem rd_sz4:szl [a,b,c,d] P=P:=rfl
theorem rd_sz5:szl [a,b,c,d,e] P=P:=rfl
theorem rd_sz6:szl [a,b,c,d,e,f] P=P:=rfl
theorem rd_sz7:szl [a,b,c,d,e,f,g] P=P:=rfl
theorem rd_sz8:szl [a,b,c,d,e,f,g,h] P=P:=rfl
theorem rd_sz9:szl [a,b,c,d,e,f,g,h,i] P=P:=rfl
end
noncomputable def zde:Nat->List Stmt->Bool
 | 0,_=>false
 | n + 1,b=>match b.getLast? with
  | some (.Return ..)=>true
  | some (.Raise ..)=>true
  | some (.Continue ..)=>true
  | some (.Break ..)=>true
  | some (.If _ b e _)=>zde n b && zde n e
  | _=>false
noncomputable def zjA:Stmt->Bool
 | .For ..=>true
 | .While ..=>true
 | .Try ..=>true
 | .If _ b e _=>!zde 9 b && !zde 9 e
 | _=>false
def fa {X:Cx} {st:Stmt} {t:TS} (_:zjA st=true) (p:PS X st t):PS X st t:=p
structure Vr (X:Cx) (i:Nat) (x:Str):Prop where
 n:X.N[i]?=some x
 v:Vis X.env.scope x
 d:(x == ("__debug__":Str))=false
 c:(x == ("__classdict__":Str))=false
def pq {X:Cx} (i:Nat) {x:Str} {pos:Pos} (h:Vr X i x:=by walk_at "v"):PE X (.Name x pos) (tVar i):=zib h.n h.v h.d h.c
theorem rd_trB {b:Bool} {P:Bool->Hp->Prop}:trq K (.bl b) H P=P b H:=rfl
theorem rd_trI {P:Bool->Hp->Prop}:trq K (.int i) H P=∃ k,zeI K (.int i) H k/\P k H:=rfl
theorem rd_trR {a:Addr} {P:Bool->Hp->Prop}:trq K (.ref a) H P=∃ k,zeI K (.ref a) H k/\P k H:=rfl
theorem rd_trS {x:Str} {P:Bool->Hp->Prop}:trq K (.str x) H P=∃ k,zeI K (.str x) H k/\P k H:=rfl
theorem rd_eqI {i j:Int}:zaJ K (.int i) (.int j) H Q=Q (.bl (decide (i=j))) H:=rfl
theorem rd_neI {i j:Int}:VH K (.int i) (.int j) H Q=Q (.bl (!decide (i=j))) H:=rfl
theorem rd_eqS {i j:Str}:zaJ K (.str i) (.str j) H Q=Q (.bl (decide (i=j))) H:=rfl
theorem rd_eqB {i j:Bool}:zaJ K (.bl i) (.bl j) H Q=Q (.bl (decide (i=j))) H:=rfl
theorem rd_eTI {i j:Int}:zdW K (.int i) (.int j) H Q=if i=j then Q (.bl true) H else Q (.bl false) H:=rfl
theorem rd_eTS {i j:Str}:zdW K (.str i) (.str j) H Q=if i=j then Q (.bl true) H else Q (.bl false) H:=rfl
theorem rd_eTB {i j:Bool}:zdW K (.bl i) (.bl j) H Q=if i=j then Q (.bl true) H else Q (.bl false) H:=rfl
theorem rd_nTI {i j:Int}:zdU K (.int i) (.int j) H Q=if ¬ i=j then Q (.bl true) H else Q (.bl false) H:=rfl
theorem rd_nTS {i j:Str}:zdU K (.str i) (.str j) H Q=if ¬ i=j then Q (.bl true) H else Q (.bl false) H:=rfl
theorem rd_nTB {i j:Bool}:zdU K (.bl i) (.bl j) H Q=if ¬ i=j then Q (.bl true) H else Q (.bl false) H:=rfl
theorem rd_eTR {a b:Addr}:zdW K (.ref a) (.ref b) H Q=zaJ K (.ref a) (.ref b) H Q:=rfl
theorem rd_nTR {a b:Addr}:zdU K (.ref a) (.ref b) H Q=VH K (.ref a) (.ref b) H Q:=rfl
def rd_fvI {P:Str->Prop} {R:Str->Prop}:((∃ j,V.int i=V.int j/\j.natAbs.log2 < 1920/\P (toString j))\/(∃ y,V.int i=V.str y/\y.length<=sizeLine/\R y)) ↔ i.natAbs.log2 < 1920/\P (toString i) :=
 ⟨λ h=>h.elim (λ ⟨_,e,h⟩=>by cases e;exact h) (λ ⟨_,e,_⟩=>nomatch e),λ h=>.inl ⟨i,rfl,h⟩⟩
def rd_strS {y:Str} {P:Str->Prop}:(∃ z,V.str y=V.str z/\P z) ↔ P y:=⟨λ ⟨_,e,h⟩=>by cases e;exact h,λ h=>⟨y,rfl,h⟩⟩
def zh0 {a b:Addr} (h1:SqT K H a xs) (h2:SqT K H b xs) (hf:xs.all xk=true) (hs:xQ xs xs=true) (q:Q (.bl false) H):VH K (.ref a) (.ref b) H Q :=
 .inr (.inl ⟨a,b,xs,xs,rfl,rfl,.inr ⟨h1,h2⟩,hf,hf,by rw [hs];exact q⟩)
theorem rd_c0:((0:Nat):Int)=0:=rfl
theorem rd_c1:((1:Nat):Int)=1:=rfl
theorem rd_c2:((2:Nat):Int)=2:=rfl
theorem rd_c3:((3:Nat):Int)=3:=rfl
theorem rd_c4:((4:Nat):Int)=4:=rfl
theorem rd_c5:((5:Nat):Int)=5:=rfl
theorem rd_c6:((6:Nat):Int)=6:=rfl
def xG {p:Addr} {k:Int} {j:Nat} {R:Hp->Prop} (h:H p=some (.lst xs)) (e:ixN xs.length k=some j) (q:R (upd H p (.lst (xs.set j v)))):zhC (.ref p) (.int k) v H R:=⟨p,xs,k,j,rfl,rfl,h,e,q⟩
def Zc {k:Int} (h0:0<=k) (h1:k < n):ixN n k=some k.toNat:=by unfold ixN;rw [ap h0,ap h1]
theorem cx_K {K:A0} {outer:List Env} {H:Hp}:(JB CX P w K mg base N qual scope f cd A outer s H E).K=K:=rfl
theorem cx_mg {K:A0} {outer:List Env} {H:Hp}:(JB CX P w K mg base N qual scope f cd A outer s H E).mg=mg:=rfl
theorem cx_prog {K:A0} {outer:List Env} {H:Hp}:(JB CX P w K mg base N qual scope f cd A outer s H E).prog=P:=rfl
theorem cx_w {K:A0} {outer:List Env} {H:Hp}:(JB CX P w K mg base N qual scope f cd A outer s H E).w=w:=rfl
theorem cx_base {K:A0} {outer:List Env} {H:Hp}:(JB CX P w K mg base N qual scope f cd A outer s H E).base=base:=rfl
def rd_cpow {n:Int}:zjL 10 n ↔ 0<=n/\n<=1000000:=⟨λ h=>⟨h.1,h.2.1⟩,λ h=>⟨h.1,h.2,by decide⟩⟩
def rd_isiI:zdV K [.int i,.ty "int"] H Q ↔ Q (.bl true) H:=by
 refine ⟨λ h=>?_,λ q=>⟨_,_,_,_,rfl,.old (.int i),.inl ⟨_,rfl,Jh⟩,q⟩⟩;obtain ⟨x,c,t,b,e,ty,k,q⟩:=h;cases e;rcases k with ⟨u,hu,k⟩|⟨_,_,_,e,_⟩
 ·cases hu;cases ty with|old ty=>cases ty;rw [Jh] at k;cases k;exact q
 ·cases e
def rd_isiIB:zdV K [.int i,.ty "bool"] H Q ↔ Q (.bl false) H:=by
 refine ⟨λ h=>?_,λ q=>⟨_,_,_,_,rfl,.old (.int i),.inl ⟨_,rfl,Qp⟩,q⟩⟩;obtain ⟨x,c,t,b,e,ty,k,q⟩:=h;cases e;rcases k with ⟨u,hu,k⟩|⟨_,_,_,e,_⟩
 ·cases hu;cases ty with|old ty=>cases ty;rw [Qp] at k;cases k;exact q
 ·cases e
def rd_isiB {i:Bool}:zdV K [.bl i,.ty "bool"] H Q ↔ Q (.bl true) H:=by
 refine ⟨λ h=>?_,λ q=>⟨_,_,_,_,rfl,.old (.bl i),.inl ⟨_,rfl,ZF⟩,q⟩⟩;obtain ⟨x,c,t,b,e,ty,k,q⟩:=h;cases e;rcases k with ⟨u,hu,k⟩|⟨_,_,_,e,_⟩
 ·cases hu;cases ty with|old ty=>cases ty;rw [ZF] at k;cases k;exact q
 ·cases e
def rd_isiS {i:Str}:zdV K [.str i,.ty "str"] H Q ↔ Q (.bl true) H:=by
 refine ⟨λ h=>?_,λ q=>⟨_,_,_,_,rfl,.old (.str i),.inl ⟨_,rfl,Jg⟩,q⟩⟩;obtain ⟨x,c,t,b,e,ty,k,q⟩:=h;cases e;rcases k with ⟨u,hu,k⟩|⟨_,_,_,e,_⟩
 ·cases hu;cases ty with|old ty=>cases ty;rw [Jg] at k;cases k;exact q
 ·cases e
def zha {a:Addr} (h:H a=some (.tup xs)) (q:Q (.bl true) H):zdV K [.ref a,.ty "tuple"] H Q:=⟨_,_,_,_,rfl,.old (.tup h),.inl ⟨_,rfl,zbf⟩,q⟩
def xb {a b:Addr} {xs ys:Ap} (h1:SqL K H a xs) (h2:SqL K H b ys) (hl:xs.length + ys.length<=sizeLine) (q:∀ p,H p=none->Q (.ref p) (upd H p (.lst (xs ++ ys)))):zaK K (.ref a) (.ref b) H Q :=
 show zff K _ _ H Q from ⟨a,b,xs,ys,rfl,rfl,h1,h2,hl,q⟩
def js (h:n<=1000):n<=sizeLine:=bU (zn h)
def qK {a:Addr} {DN:St->Hp->Prop} {B:(St->Hp->Prop)->V->St->Hp->Prop} (Pv:Nat->St->Hp->Prop) (h0:Pv 0 σ H) (hl:∀ i σ H,i<=xs.length->Pv i σ H->SqL K H a xs)
  (hs:∀ i x σ H,xs[i]?=some x->Pv i σ H->B (Pv (i + 1)) x σ H) (hd:∀ σ H,Pv xs.length σ H->DN σ H) :
  ∃ W:Nat->Nat->St->Hp->Prop,(∃ m,W 0 m σ H)/\∀ i m σ H,W i m σ H ->
   ((Itl K a).stop i H/\DN σ H)\/((Itl K a).go i H/\∃ N:St->Hp->Prop,(∀ σ' H',N σ' H'->∃ m',m' < m/\W (i + 1) m' σ' H')/\∀ x H',(Itl K a).yld i H x H'->B N x σ H'):=by
 refine ⟨λ i m σ H=>m=xs.length - i/\i<=xs.length/\Pv i σ H,⟨xs.length,by simp,bA _,h0⟩,?_⟩;rintro i m σ H ⟨rfl,hi,p⟩;have q:=hl i σ H hi p;by_cases hlt:i < xs.length
 ·refine .inr ⟨⟨xs,xs[i],q,by simp [hlt]⟩,Pv (i + 1),λ σ' H' p'=>⟨xs.length - (i + 1),by lia,rfl,hlt,p'⟩,λ x H' y=>?_⟩;obtain ⟨e,y⟩:=y;subst e;exact hs i x σ _ (y xs q) p
 ·have e:i=xs.length:=by lia
  subst e;exact .inl ⟨⟨xs,q,au _⟩,hd σ H p⟩
def Qu {lo:Int} {DN:St->Hp->Prop} {B:(St->Hp->Prop)->V->St->Hp->Prop} (Pv:Nat->St->Hp->Prop) (h0:Pv 0 σ H)
  (hs:∀ i σ H,i < n->Pv i σ H->B (Pv (i + 1)) (.int (lo + i)) σ H) (hd:∀ σ H,Pv n σ H->DN σ H) :
  ∃ W:Nat->Nat->St->Hp->Prop,(∃ m,W 0 m σ H)/\∀ i m σ H,W i m σ H ->
   ((Itr lo n).stop i H/\DN σ H)\/((Itr lo n).go i H/\∃ N:St->Hp->Prop,(∀ σ' H',N σ' H'->∃ m',m' < m/\W (i + 1) m' σ' H')/\∀ x H',(Itr lo n).yld i H x H'->B N x σ H'):=by
 refine ⟨λ i m σ H=>m=n - i/\i<=n/\Pv i σ H,⟨n,by simp,bA _,h0⟩,?_⟩;rintro i m σ H ⟨rfl,hi,p⟩;by_cases hlt:i < n
 ·refine .inr ⟨hlt,Pv (i + 1),λ σ' H' p'=>⟨n - (i + 1),by lia,rfl,hlt,p'⟩,λ x H' y=>?_⟩;obtain ⟨e,y⟩:=y;subst e y;exact hs i σ _ hlt p
 ·have e:i=n:=by lia
  subst e;exact .inl ⟨au _,hd σ H p⟩
def zh1 {a b:Addr} {xs ys:Ap} (hn:n<=8) (h1:SqL K H a xs) (h2:SqL K H b ys) (hl:xs.length=ys.length) (hde:∀ (j:Nat) (x y:V),xs[j]?=some x->ys[j]?=some y->DE K H n x y true) (q:Q (.bl false) H):VH K (.ref a) (.ref b) H Q :=
 .inr (.inr ⟨a,b,xs,ys,n,λ _=>true,rfl,rfl,hn,hde,.inl ⟨h1,h2,hl,by rw [bS.mpr (λ _ _=>rfl)];exact q⟩⟩)
def xw {a:Addr} {lo hi:A9} (h:SqL K H a xs) (q:∀ p,H p=none->Q (.ref p) (upd H p (.lst (wL xs lo hi)))):zh3 K (.ref a) lo hi H Q:=⟨a,xs,rfl,h,q⟩
def upd_keep {a b:Addr} {o u:HO} (h:H b=some u) (ha:H a=none):upd H a o b=some u:=by rw [oC (oE h ha)];exact h
def oF:=@upd_keep
def zf {a:Addr} {o:HO} (ha:H a=none):Same H (upd H a o):=λ _ _ h=>oF h ha
def rd_ixT {a:Addr} (h:H a=some (.tup xs)) (e:atI xs i=some v) (q:Q v H):rIx K (.ref a) (.int i) H Q:=.inr (.inl ⟨a,xs,i,v,rfl,rfl,SqT.of h,e,q⟩)
def oG:=@rd_ixT
def zt {a:Addr} (h:SqL K H a xs) (e:atI xs i=some v) (q:Q v H):rIx K (.ref a) (.int i) H Q:=.inl ⟨a,xs,i,v,rfl,rfl,h,e,q⟩
def zjd {N0:St->Hp->Prop} {B:(St->Hp->Prop)->Prop} (h:B N0):∃ N:St->Hp->Prop,(∀ σ' H',N σ' H'->N0 σ' H')/\B N:=⟨N0,λ _ _ h=>h,h⟩
end
end L2
set_option hygiene false
local macro_rules | `(tactic| walk_at "v")=>`(tactic| exact ⟨rfl,by first|exact Or.inl rfl|exact Or.inr (Or.inl rfl)|exact Or.inr (Or.inr rfl),by decide,by decide⟩)
local macro_rules | `(tactic| walk_at "f") => do
 let f:=fun (s:String)=>Lean.mkIdent (if s.front == '.' then "L2"++s else s).toName
 let a ← (".start .tDNewT .sDPut .tDIn .tDGet .tSIn .tSGet .sSPut .tSNew .tB .rd_mc .rd_mn List.length_cons List.length_nil List.cons_append List.nil_append .tSeq .tAsg .gName .tC .tOp .tUn .tTest .tIfS .tRet .tNext .tDrop .tNot .tAnd .tOr .tAndV .tCons .tNil .tTup .tLst .tBi .tBl .tVar ↓.rd_vq .rd_vq ↓.rd_iq .rd_iq ↓.rd_bq .rd_bq ↓.rd_nq .rd_nq ↓.rd_lq .rd_lq ↓.rd_itT .rd_itT ↓.rd_itF .rd_itF ↓.rd_is0 .rd_is0 ↓.rd_is1 .rd_is1 ↓.rd_is2 .rd_is2 ↓.rd_in0 .rd_in0 ↓.rd_in1 .rd_in1 ↓.rd_in2 .rd_in2 .rI .rI0 .rU .rT .ipI .tTru .rd_trB .rd_trI .rd_trR .rd_trS .tAug .rd_addI .rd_addS .rd_eqI .rd_neI .rd_eqS .rd_eqB .rd_eTI .rd_eTS .rd_eTB .rd_eTR .rd_nTI .rd_nTR .rd_nTS .rd_nTB .rd_fvI .rd_strS .rd_sz0 .rd_sz1 .rd_sz2 .rd_sz3 .rd_sz4 .rd_sz5 .rd_sz6 .rd_sz7 .gSub .tBreak .rd_sz8 .rd_sz9 .cx_K .cx_mg .cx_prog .cx_w .cx_base .gTup .gCons .gNil .tCl .tGl .tChain .tRaise .tTry2 .tNever .sFld .tFld .tMk .tMth .tBM .tSl .tNoPart .tPart .tClN .tMkN .tMthN .tBase .tYes .tRg1 .tIf .cxC_K .cxC_mg .cxC_prog .cxC_w .cxC_base eq_self reduceCtorEq decide_false Option.getD_some Option.getD_none List.getElem?_cons_zero List.getElem?_cons_succ List.set_cons_zero List.set_cons_succ List.replicate Nat.reduceSub Nat.reduceAdd true_and and_true .rd_cpow Int.reduceToNat Int.reducePow Int.reduceLT Int.reduceLE Int.reduceNeg .fdiv_pos .rd_isiI .rd_isiIB .rd_isiB .rd_isiS Bool.not_true Bool.not_false Bool.false_eq_true reduceIte decide_true decide_eq_true_eq Bool.true_eq_false Bool.not_eq_true' decide_eq_false_iff_not .rd_c0 .rd_c1 .rd_c2 .rd_c3 .rd_c4 .rd_c5 .rd_c6 Int.reduceEq not_true_eq_false not_false_eq_true Int.reduceMul Int.reduceAdd Int.reduceSub".splitOn " ").toArray.mapM fun s=>if s.front == '↓' then `(Lean.Parser.Tactic.simpLemma| ↓$(f (s.drop 1).toString):term) else `(Lean.Parser.Tactic.simpLemma| $(f s):term)
 `(tactic| (simp only [$a,*]))
local macro_rules | `(tactic| walk_at "r")=>`(tactic| try walk_at "f")
local macro_rules | `(tactic| walk_at "m")=>`(tactic| (refine L2.rd_ixT (by assumption) rfl ?_;try walk_at "f"))
local macro_rules | `(tactic| walk_at "h")=>`(tactic| first|assumption|exact L2.mul_okR (by decide) (by decide)|exact L2.mul_okL (by decide) (by decide)|exact L2.mul_okR (by lia) (by lia)|exact L2.mul_okL (by lia) (by lia)|exact L2.fd_ok (by decide) (by decide +kernel)|decide|lia|exact L2.fd_small (by lia) (by lia))
local macro_rules | `(tactic| walk_at "n")=>`(tactic| repeat (refine And.intro (by walk_at "h") ?_))
local macro_rules | `(tactic| walk_at "e")=>`(tactic| (walk_at "a";(try simp only [L2.tFor,L2.iSeq,L2.iRng1,L2.iRng3,L2.iStr,L2.iEnum,L2.iZip,L2.iRev]);try walk_at "f"))
local macro_rules | `(tactic| walk_at "d")=>`(tactic| (walk_at "a";(try simp only [L2.tLc,L2.iSeq,L2.stC,L2.iRng1,L2.iRng3,L2.iStr,L2.iEnum,L2.iZip,L2.iRev]);try walk_at "f"))
local macro_rules | `(tactic| walk_at "a")=>`(tactic| repeat (first|walk_at "f" | refine And.intro (by assumption) ?_|refine L2.nxt λ Nq_ hNq_=>?_|refine L2.useN (by assumption) ?_))
local macro_rules | `(tactic| walk_at "l")=>`(tactic| first|assumption|exact a7 (by assumption)|exact L2.ne_of_none (by assumption) (by assumption)|exact a7 (L2.ne_of_none (by assumption) (by assumption)))
local macro_rules | `(tactic| walk_at "g")=>`(tactic| first|assumption|exact L2.upd_same|(refine L2.upd_keep ?_ (by assumption);walk_at "g")|(rw [L2.upd_ne (by walk_at "l")];walk_at "g"))
set_option hygiene false
local macro_rules | `(tactic| walk_at "i")=>`(tactic| (intro vs H Q E h;first|(cases h;subst_vars;rfl)|repeat (first|(obtain ⟨rfl,_⟩:=h;rfl)|obtain ⟨_,h⟩:=h)))
local macro_rules | `(tactic| walk_at "j")=>`(tactic| intro cdv A outer s H vs Q EX hr h)
local macro_rules | `(tactic| walk_at "k")=>`(tactic| intro cdv A outer s H vs Q E hr h)
seal L2.PE L2.PT L2.PA L2.PS L2.PSs L2.PC L2.PG L2.PGs L2.PI L2.PO L2.PK
namespace K47
open PySem L2 Mine
local macro_rules | `(tactic| exists $t)=>`(tactic| (walk_at "a";refine $t))
local macro_rules | `(tactic| left)=>`(tactic| walk_at "a")
local macro_rules | `(tactic| right)=>`(tactic| first|decide +kernel|kernel_rfl)
local macro_rules | `(tactic| symm)=>`(tactic| decide +kernel)
local macro_rules | `(tactic| ext)=>`(tactic| (clear o8 oj;subst oi))
local macro_rules | `(‹$f $x*›)=>`((zy ⟨rfl,rfl,rfl⟩ hr (za $f $x*)))
variable {H:Hp} {bs:A1} {p:A5} {v:V} {i k j side:Nat} {vs:Ap} {n L:Int} {b C:Addr} {ns:A6} {K:A0} {fs:Ar} {x:Str} {o:HO} {fb tb:A9} {ps:A8} {wd:Wd}
noncomputable def top (i:Nat):Stmt:=PySem.Challenge.pw_beltshares_k47_whole_queues_for_ever.main.body.getD i (.Pass ⟨0,0,0,0⟩)
local macro_rules | `(tactic| walk_at "c")=>`(tactic| exact ⟨rfl,rfl,rfl,by symm,rfl,by symm,by symm⟩)
noncomputable abbrev jt:Stmt:=zR (top 2) 0
def Wf:FnScope ["self","turn","cells","sides","gone"] ["self","turn","cells","sides","gone"] (zg jt):=by walk_at "c"
noncomputable abbrev QO:Stmt:=top 3
def zbV:FnScope ["work","ware","kinds"] ["work","ware"] (zg QO):=by walk_at "c"
noncomputable abbrev vP:Stmt:=top 4
def Vy:FnScope ["knot"] ["knot"] (zg vP):=by walk_at "c"
noncomputable abbrev jx:Stmt:=top 5
def Xc:FnScope ["work","cells","sides"] ["work"] (zg jx):=by walk_at "c"
noncomputable abbrev xT:Stmt:=top 6
def Jm:FnScope ["state"] ["state"] (zg xT):=by walk_at "c"
noncomputable abbrev we:Stmt:=zR (top 17) 0
def VE:FnScope ["self","room","pace"] ["self","room","pace"] (zg we):=by walk_at "c"
noncomputable abbrev wY:Stmt:=top 22
def Wc:FnScope ["pace","least"] ["pace","least"] (zg wY):=by walk_at "c"
noncomputable abbrev wZ:Stmt:=top 23
def We:FnScope ["kind"] ["kind"] (zg wZ):=by walk_at "c"
noncomputable abbrev wW:Stmt:=top 24
def Wa:FnScope ["belts"] ["belts"] (zg wW):=by walk_at "c"
noncomputable abbrev wt:Stmt:=top 25
def Xb:FnScope ["wanted","side","step","place"] ["wanted","side"] (zg wt):=by walk_at "c"
noncomputable abbrev jX:Stmt:=top 26
def Z9:FnScope ["head","free","side"] ["head","free","side"] (zg jX):=by walk_at "c"
noncomputable abbrev jh:Stmt:=zR (top 27) 0
def VD:FnScope ["self","ins","outs"] ["self","ins","outs"] (zg jh):=by walk_at "c"
noncomputable abbrev j8:Stmt:=zR (top 28) 0
def Xe:FnScope ["self","out","pace","kinds","kind"] ["self","out","pace","kinds"] (zg j8):=by walk_at "c"
noncomputable abbrev xr:Stmt:=zR (top 28) 1
def QH:FnScope ["self","heads","free","turn","side"] ["self","heads","free","turn","side"] (zg xr):=by walk_at "c"
noncomputable abbrev xq:Stmt:=zR (top 28) 2
def QG:FnScope ["self"] ["self"] (zg xq):=by walk_at "c"
noncomputable abbrev xF:Stmt:=zR (top 29) 0
def Wh:FnScope ["self","into","pace"] ["self","into","pace"] (zg xF):=by walk_at "c"
noncomputable abbrev xY:Stmt:=zR (top 29) 1
def Js:FnScope ["self","heads","free","turn","side"] ["self","heads","free","turn","side"] (zg xY):=by walk_at "c"
noncomputable abbrev xX:Stmt:=zR (top 29) 2
def Jr:FnScope ["self"] ["self"] (zg xX):=by walk_at "c"
noncomputable abbrev j9:Stmt:=zR (top 30) 0
def Xf:FnScope ["self","into","outs"] ["self","into","outs"] (zg j9):=by walk_at "c"
noncomputable abbrev xu:Stmt:=zR (top 30) 1
def QJ:FnScope ["self","heads","free","turn","side","place"] ["self","heads","free","turn","side"] (zg xu):=by walk_at "c"
noncomputable abbrev xt:Stmt:=zR (top 30) 2
def QI:FnScope ["self"] ["self"] (zg xt):=by walk_at "c"
noncomputable abbrev qQ:Stmt:=zR (top 31) 0
def Zy:FnScope ["self","into","outs"] ["self","into","outs"] (zg qQ):=by walk_at "c"
noncomputable abbrev jk:Stmt:=zR (top 31) 1
def vH:FnScope ["self","heads","free","turn","side","place"] ["self","heads","free","turn","side"] (zg jk):=by walk_at "c"
noncomputable abbrev ji:Stmt:=zR (top 31) 2
def vG:FnScope ["self"] ["self"] (zg ji):=by walk_at "c"
noncomputable abbrev xE:Stmt:=zR (top 32) 0
def Wg:FnScope ["self","into","outs","kind"] ["self","into","outs","kind"] (zg xE):=by walk_at "c"
noncomputable abbrev xV:Stmt:=zR (top 32) 1
def Jp:FnScope ["self","heads","free","turn","side","place"] ["self","heads","free","turn","side"] (zg xV):=by walk_at "c"
noncomputable abbrev jO:Stmt:=zR (top 32) 2
def ZP:FnScope ["self","kind"] ["self","kind"] (zg jO):=by walk_at "c"
noncomputable abbrev xU:Stmt:=zR (top 32) 3
def Jo:FnScope ["self"] ["self"] (zg xU):=by walk_at "c"
noncomputable abbrev xa:Stmt:=zR (top 33) 0
def Xg:FnScope ["self","ins","out"] ["self","ins","out"] (zg xa):=by walk_at "c"
noncomputable abbrev jA:Stmt:=zR (top 33) 1
def QM:FnScope ["self","heads","free","turn","side","place"] ["self","heads","free","turn","side"] (zg jA):=by walk_at "c"
noncomputable abbrev xv:Stmt:=zR (top 33) 2
def QK:FnScope ["self"] ["self"] (zg xv):=by walk_at "c"
noncomputable abbrev xS:Stmt:=top 35
def zaB:FnScope ["work","state","knot","ends"] ["work","state","knot"] (zg xS):=by walk_at "c"
noncomputable abbrev wR:Stmt:=top 36
def X6:FnScope ["state","number","from_belt","ware"] ["state","number","from_belt"] (zg wR):=by walk_at "c"
noncomputable abbrev QP:Stmt:=top 37
def zbW:FnScope ["belts","place"] ["belts","place"] (zg QP):=by walk_at "c"
noncomputable abbrev xo:Stmt:=top 38
def QE:FnScope ["knot","chosen"] ["knot","chosen"] (zg xo):=by walk_at "c"
noncomputable abbrev zaE:Stmt:=top 39
def zhY:FnScope ["work","state","number","knot","free","chosen","from_belt","to_belt","ware"] ["work","state","number"] (zg zaE):=by walk_at "c"
noncomputable abbrev QQ:Stmt:=top 40
def zbX:FnScope ["work","state","moves","number","move"] ["work","state"] (zg QQ):=by walk_at "c"
noncomputable abbrev vQ:Stmt:=top 41
def Vz:FnScope ["cells","place"] ["cells"] (zg vQ):=by walk_at "c"
noncomputable abbrev wa:Stmt:=top 42
def Vv:FnScope ["work","state","moves","number","belt"] ["work","state"] (zg wa):=by walk_at "c"
noncomputable abbrev ZS:Stmt:=top 43
def zay:FnScope ["work","state","after"] ["work","state"] (zg ZS):=by walk_at "c"
noncomputable abbrev ZT:Stmt:=top 44
def zaz:FnScope ["work","state"] ["work","state"] (zg ZT):=by walk_at "c"
noncomputable abbrev Xh:Stmt:=top 46
def zdK:FnScope ["work","turns","state","turn"] ["work","turns"] (zg Xh):=by walk_at "c"
noncomputable abbrev wU:Stmt:=top 48
def zaA:FnScope ["work","cells"] ["work","cells"] (zg wU):=by walk_at "c"
noncomputable abbrev wV:Stmt:=top 49
def X9:FnScope ["work","state","number"] ["work","state","number"] (zg wV):=by walk_at "c"
noncomputable abbrev xR:Stmt:=top 50
def zax:FnScope ["work","state","beat_place","kinds","places"] ["work","state"] (zg xR):=by walk_at "c"
noncomputable abbrev wS:Stmt:=top 52
def X7:FnScope ["work","limit","state","state_by_shape","turn","shape"] ["work","limit"] (zg wS):=by walk_at "c"
noncomputable abbrev wb:Stmt:=top 53
def VA:FnScope ["before","after","growth","old","new"] ["before","after"] (zg wb):=by walk_at "c"
noncomputable abbrev xp:Stmt:=top 55
def QF:FnScope ["state","found","belt","cells","place","ware"] ["state"] (zg xp):=by walk_at "c"
noncomputable abbrev vO:Stmt:=top 56
def Vx:FnScope ["ware","lay","before"] ["ware","lay","before"] (zg vO):=by walk_at "c"
noncomputable abbrev xD:Stmt:=top 57
def X8:FnScope ["before","after","lay","origins","cells"] ["before","after"] (zg xD):=by walk_at "c"
noncomputable abbrev va:Stmt:=zR (top 58) 0
def zaC:FnScope ["self","before","after"] ["self","before","after"] (zg va):=by walk_at "c"
noncomputable abbrev xW:Stmt:=zR (top 58) 1
def Jq:FnScope ["self","origin","rounds","source","given"] ["self","origin","rounds"] (zg xW):=by walk_at "c"
noncomputable abbrev jY:Stmt:=zR (top 58) 2
def Qb:FnScope ["self","first","rounds","cell","left","origin"] ["self","first","rounds"] (zg jY):=by walk_at "c"
noncomputable abbrev jb:Stmt:=zR (top 58) 3
def ZR:FnScope ["self","rounds","cells","belt","old"] ["self","rounds"] (zg jb):=by walk_at "c"
noncomputable abbrev ju:Stmt:=zR (top 58) 4
def Qc:FnScope ["self","rounds","gone","old","more"] ["self","rounds"] (zg ju):=by walk_at "c"
noncomputable abbrev jP:Stmt:=zR (top 58) 5
def ZQ:FnScope ["self","rounds","turn"] ["self","rounds"] (zg jP):=by walk_at "c"
noncomputable abbrev wT:Stmt:=top 59
def ze5:FnScope ["work","turns","limit","ends","lap","begin","state","turn"] ["work","turns","limit"] (zg wT):=by walk_at "c"
noncomputable abbrev j6:Stmt:=top 63
def Xa:FnScope ["word"] ["word"] (zg j6):=by walk_at "c"
noncomputable abbrev Qe:Stmt:=top 65
def zdL:FnScope ["one","other","part","rest","left"] ["one","other"] (zg Qe):=by walk_at "c"
noncomputable abbrev QN:Stmt:=top 66
def zbU:FnScope ["paces","number","pace"] ["paces"] (zg QN):=by walk_at "c"
noncomputable abbrev wX:Stmt:=top 70
def Wb:FnScope ["belts","knots"] ["belts","knots"] (zg wX):=by walk_at "c"
noncomputable abbrev jM:Stmt:=top 71
def ZO:FnScope ["named","size"] ["named","size"] (zg jM):=by walk_at "c"
noncomputable abbrev jH:Stmt:=zR (top 72) 0
def VB:FnScope ["self","belts","knots","fed","taken","knot"] ["self","belts","knots"] (zg jH):=by walk_at "c"
noncomputable abbrev j7:Stmt:=zR (top 72) 3
def Xd:FnScope ["self"] ["self"] (zg j7):=by walk_at "c"
noncomputable abbrev jN:Stmt:=zR (top 72) 4
def Jn:FnScope ["self"] ["self"] (zg jN):=by walk_at "c"
noncomputable abbrev wc:Stmt:=zR (top 72) 5
def VC:FnScope ["self","paces","number","pace"] ["self"] (zg wc):=by walk_at "c"
noncomputable abbrev vR:Stmt:=top 74
def Qa:FnScope ["name","numbers","many"] ["name","numbers"] (zg vR):=by walk_at "c"
noncomputable abbrev xh:Stmt:=top 75
def Vw:FnScope ["row","words","numbers"] ["row"] (zg xh):=by walk_at "c"
noncomputable abbrev vN:Stmt:=top 76
def Vu:FnScope ["text","belts","knots","place","row","part"] ["text"] (zg vN):=by walk_at "c"
noncomputable abbrev Xl:Stmt:=top 78
def zdP:FnScope ["_law_cells","_law_k"] ["_law_cells","_law_k"] (zg Xl):=by walk_at "c"
noncomputable abbrev Xj:Stmt:=top 79
def zdN:FnScope ["_law_number","_law_prime","_law_many"] ["_law_number","_law_prime","_law_many"] (zg Xj):=by walk_at "c"
noncomputable abbrev JJ:Stmt:=top 80
def ze6:FnScope ["_law_word","_law_numbers"] ["_law_word","_law_numbers"] (zg JJ):=by walk_at "c"
noncomputable abbrev Xm:Stmt:=top 81
def zdQ:FnScope ["_law_number","_law_room"] ["_law_number"] (zg Xm):=by walk_at "c"
noncomputable abbrev QT:Stmt:=top 82
def zbZ:FnScope ["_law_number","_law_into","_law_outs","_law_kind","_law_pick"] ["_law_number","_law_into","_law_outs","_law_kind"] (zg QT):=by walk_at "c"
noncomputable abbrev QV:Stmt:=top 83
def zb1:FnScope ["_law_belts","_law_knots","_law_loose","_law_loop","_law_number","_law_kind","_law_at","_law_pick","_law_into","_law_outs"] ["_law_belts","_law_knots","_law_loose","_law_loop","_law_number","_law_kind"] (zg QV):=by walk_at "c"
noncomputable abbrev Xi:Stmt:=top 84
def zdM:FnScope ["_law_cells","_law_top","_law_lead","_law_kinds","_law_belts","_law_first","_law_loose","_law_loop","_law_knots","_law_number","_law_at","_law_cut"] ["_law_cells","_law_top"] (zg Xi):=by walk_at "c"
noncomputable abbrev VF:Stmt:=top 85
def ze7:FnScope ["_law_cells","_law_far_here","_law_cell_here"] ["_law_cells"] (zg VF):=by walk_at "c"
noncomputable abbrev QR:Stmt:=top 86
def zbY:FnScope ["_law_work","_law_far_here","_law_limit","_law_state_here"] ["_law_work","_law_far_here","_law_limit"] (zg QR):=by walk_at "c"
noncomputable abbrev vb:Stmt:=top 87
def zaD:FnScope ["_law_state_here"] ["_law_state_here"] (zg vb):=by walk_at "c"
noncomputable abbrev QU:Stmt:=top 88
def zb0:FnScope ["_law_work","_law_queues_here","_law_given","_law_move","_law_k","_law_ware","_law_off","_law_onto","_law_knot"] ["_law_work","_law_queues_here","_law_given","_law_move"] (zg QU):=by walk_at "c"
noncomputable abbrev Xk:Stmt:=top 89
def zdO:FnScope ["_law_one","_law_other"] ["_law_one","_law_other"] (zg Xk):=by walk_at "c"
noncomputable abbrev Qd:Stmt:=top 90
def zhX:FnScope ["_law_script","_law_cells","_law_work","_law_limit","_law_far_here","_law_state_here","_law_queues_here","_law_given","_law_turns","_law_k","_law_move"] ["_law_script"] (zg Qd):=by walk_at "c"
local macro_rules | `(tactic| walk_at "T")=>`(tactic| (have nA:=T.nA;have io:=T.io;have m5:=T.m5;have kM:=T.kM;have i5:=T.i5;have kI:=T.kI;have mL:=T.mL;have nX:=T.nX;have nY:=T.nY;have nZ:=T.nZ;have mC:=T.mC;have n6:=T.n6;have lh:=T.lh))
structure Ad where
 b:Addr
 c:Addr
 d:Addr
 e:Addr
 f:Addr
 g:Addr
 h:Addr
 i:Addr
 j:Addr
 k:Addr
 l:Addr
 m:Addr
 n:Addr
 o:Addr
 p:Addr
 q:Addr
 r:Addr
abbrev KOy (K:A0) (c d:Addr) (b:Bool):Prop:=kitOne K (.ref c) (.ref d)=some b
structure Txt (K:A0) (mg:A4) (a:Ad):Prop where
 mM:FA K mg "kind_of" QO ["work","ware"]
 mf:FA K mg "no_counts" vP ["knot"]
 ly:FA K mg "empty_state" jx ["work"]
 kK:FA K mg "copied_state" xT ["state"]
 lK:FA K mg "check_pace" wY ["pace","least"]
 lM:FA K mg "check_kind" wZ ["kind"]
 lO:FA K mg "check_ways" wW ["belts"]
 lz:FA K mg "first_place" wt ["wanted","side"]
 i0:FA K mg "place_for_ware" jX ["head","free","side"]
 mE:FA K mg "heads_of" xS ["work","state","knot"]
 lP:FA K mg "taken_ware" wR ["state","number","from_belt"]
 mO:FA K mg "belt_at" QP ["belts","place"]
 ki:FA K mg "counted_place" xo ["knot","chosen"]
 oa:FA K mg "act" zaE ["work","state","number"]
 mP:FA K mg "act_all" QQ ["work","state"]
 mh:FA K mg "move_belt" vQ ["cells"]
 mi:FA K mg "pass_turn" wa ["work","state"]
 mF:FA K mg "one_turn" ZS ["work","state"]
 mG:FA K mg "moves_of" ZT ["work","state"]
 m7:FA K mg "played" Xh ["work","turns"]
 mH:FA K mg "kinds_in" wU ["work","cells"]
 lQ:FA K mg "kind_place" wV ["work","state","number"]
 mI:FA K mg "shape_of" xR ["work","state"]
 lR:FA K mg "round_ends" wS ["work","limit"]
 mj:FA K mg "growth_of" wb ["before","after"]
 kj:FA K mg "cells_by_ware" xp ["state"]
 ml:FA K mg "origin_of" vO ["ware","lay","before"]
 lS:FA K mg "origins_of" xD ["before","after"]
 nN:FD K mg "leapt" wT ["work","turns","limit"] [.int 200]
 lA:FA K mg "number_from" j6 ["word"]
 m8:FA K mg "common" Qe ["one","other"]
 mQ:FA K mg "lasting" QN ["paces"]
 lT:FA K mg "check_size" wX ["belts","knots"]
 iV:FA K mg "check_each_once" jM ["named","size"]
 kH:FA K mg "made_part" vR ["name","numbers"]
 mr:FA K mg "part_from" xh ["row"]
 mt:FA K mg "read_work" vN ["text"]
 m9:FA K mg "_law_cell" Xl ["_law_cells","_law_k"]
 nh:FA K mg "_law_some" Xj ["_law_number","_law_prime","_law_many"]
 nP:FA K mg "_law_row" JJ ["_law_word","_law_numbers"]
 ni:FA K mg "_law_belt" Xm ["_law_number"]
 mR:FA K mg "_law_split" QT ["_law_number","_law_into","_law_outs","_law_kind"]
 mS:FA K mg "_law_grown" QV ["_law_belts","_law_knots","_law_loose","_law_loop","_law_number","_law_kind"]
 nj:FA K mg "_law_text" Xi ["_law_cells","_law_top"]
 nS:FA K mg "_law_far" VF ["_law_cells"]
 mT:FA K mg "_law_state" QR ["_law_work","_law_far_here","_law_limit"]
 mJ:FA K mg "_law_queues" vb ["_law_state_here"]
 mU:FA K mg "_law_moved" QU ["_law_work","_law_queues_here","_law_given","_law_move"]
 nu:FA K mg "_law_same" Xk ["_law_one","_law_other"]
 nA:mg "list"=none
 io:mg "len"=none
 m5:mg "max"=none
 kM:mg "range"=none
 i5:mg "isinstance"=none
 kI:mg "enumerate"=none
 mL:mg "tuple"=none
 nX:mg "zip"=none
 nY:mg "int"=none
 nZ:mg "all"=none
 mC:mg "sorted"=none
 n6:mg "str"=none
 lh:mg "reversed"=none
 nT:mg "State"=some (.ref a.b)
 lU:mg "BadBelt"=some (.ref a.d)
 ip:mg "BadKnot"=some (.ref a.e)
 lV:mg "BadWork"=some (.ref a.f)
 lW:mg "TooLong"=some (.ref a.h)
 nB:mg "Belt"=some (.ref a.i)
 nC:mg "Knot"=some (.ref a.j)
 lj:mg "Source"=some (.ref a.k)
 me:mg "Drain"=some (.ref a.l)
 nF:mg "Parter"=some (.ref a.m)
 lB:mg "FirstParter"=some (.ref a.n)
 nU:mg "Sieve"=some (.ref a.o)
 mD:mg "Joiner"=some (.ref a.p)
 oh:mg "Lap"=some (.ref a.q)
 n9:mg "Work"=some (.ref a.r)
 ad:Cls K a.b
 gS:NoAttr K a.b "turn"
 gM:NoAttr K a.b "cells"
 gW:NoAttr K a.b "sides"
 gP:NoAttr K a.b "gone"
 lX:FK K a.b "State.__init__" jt ["self","turn","cells","sides","gone"]
 iz:Cls K a.i
 iQ:NoAttr K a.i "room"
 iA:NoAttr K a.i "pace"
 nH:WI K a.i
 mw:FK K a.i "Belt.__init__" we ["self","room","pace"]
 gZ:FB K mg "Knot" "__init__" "Knot.__init__" jh ["self","ins","outs"]
 hX:Cls K a.k
 ii:NoAttr K a.k "pace"
 ic:NoAttr K a.k "kinds"
 i6:NoAttr K a.k "ins"
 iB:NoAttr K a.k "outs"
 nI:WI K a.k
 lC:FK K a.k "Source.__init__" j8 ["self","out","pace","kinds"]
 ko:FM K a.k "choice" "Source.choice" xr ["self","heads","free","turn","side"]
 kq:FM K a.k "copied" "Source.copied" xq ["self"]
 ik:Cls K a.l
 ie:NoAttr K a.l "pace"
 iR:NoAttr K a.l "ins"
 i7:NoAttr K a.l "outs"
 nV:WI K a.l
 lY:FK K a.l "Drain.__init__" xF ["self","into","pace"]
 kO:FM K a.l "choice" "Drain.choice" xY ["self","heads","free","turn","side"]
 kP:FM K a.l "copied" "Drain.copied" xX ["self"]
 ir:Cls K a.m
 iH:NoAttr K a.m "ins"
 ij:NoAttr K a.m "outs"
 nJ:WI K a.m
 lD:FK K a.m "Parter.__init__" j9 ["self","into","outs"]
 kr:FM K a.m "choice" "Parter.choice" xu ["self","heads","free","turn","side"]
 ku:FM K a.m "copied" "Parter.copied" xt ["self"]
 hW:Cls K a.n
 ib:NoAttr K a.n "ins"
 ia:NoAttr K a.n "outs"
 lE:WI K a.n
 iT:FK K a.n "FirstParter.__init__" qQ ["self","into","outs"]
 iI:FM K a.n "choice" "FirstParter.choice" jk ["self","heads","free","turn","side"]
 iJ:FM K a.n "copied" "FirstParter.copied" ji ["self"]
 ig:Cls K a.o
 iK:NoAttr K a.o "kind"
 iS:NoAttr K a.o "ins"
 iL:NoAttr K a.o "outs"
 nW:WI K a.o
 lZ:FK K a.o "Sieve.__init__" xE ["self","into","outs","kind"]
 kR:FM K a.o "choice" "Sieve.choice" xV ["self","heads","free","turn","side"]
 iW:FM K a.o "place_for" "Sieve.place_for" jO ["self","kind"]
 kS:FM K a.o "copied" "Sieve.copied" xU ["self"]
 iu:Cls K a.p
 iw:NoAttr K a.p "ins"
 iC:NoAttr K a.p "outs"
 nK:WI K a.p
 lF:FK K a.p "Joiner.__init__" xa ["self","ins","out"]
 kx:FM K a.p "choice" "Joiner.choice" jA ["self","heads","free","turn","side"]
 ky:FM K a.p "copied" "Joiner.copied" xv ["self"]
 gY:Cls K a.q
 hJ:NoAttr K a.q "before"
 ix:NoAttr K a.q "length"
 iU:NoAttr K a.q "origins"
 iM:NoAttr K a.q "growth"
 mK:FK K a.q "Lap.__init__" va ["self","before","after"]
 kT:FM K a.q "new_ware" "Lap.new_ware" xW ["self","origin","rounds"]
 i8:FM K a.q "ware_after" "Lap.ware_after" jY ["self","first","rounds"]
 iX:FM K a.q "cells_after" "Lap.cells_after" jb ["self","rounds"]
 i9:FM K a.q "gone_after" "Lap.gone_after" ju ["self","rounds"]
 iY:FM K a.q "state_after" "Lap.state_after" jP ["self","rounds"]
 gX:Cls K a.r
 iy:NoAttr K a.r "belts"
 gU:NoAttr K a.r "knots"
 mx:FK K a.r "Work.__init__" jH ["self","belts","knots"]
 lG:FM K a.r "drains" "Work.drains" j7 ["self"]
 kU:FM K a.r "sources" "Work.sources" jN ["self"]
 my:FM K a.r "beat" "Work.beat" wc ["self"]
 mz:∃ t,mg "MOST_ROOM"=some (.int 6 t)
 kJ:∃ t,mg "MOST_PACE"=some (.int 4 t)
 l5:∃ t,mg "MOST_KINDS"=some (.int 6 t)
 lH:∃ t,mg "FEWEST_WAYS"=some (.int 2 t)
 mB:∃ t,mg "MOST_WAYS"=some (.int 4 t)
 mV:∃ t,mg "FIGURES"=some (.str "0123456789" t)
 kX:∃ t,mg "MOST_FIGURES"=some (.int 30 t)
 l7:∃ t,mg "MOST_BELTS"=some (.int 24 t)
 l8:∃ t,mg "MOST_KNOTS"=some (.int 24 t)
 mW:XC K a.d
 iE:XC K a.e
 mX:XC K a.h
 l9:XC K a.f
 mY:subIn K (.ref a.d) (.type "BaseException")=some true
 mZ:subIn K (.ref a.e) (.type "BaseException")=some true
 m4:subIn K (.ref a.h) (.type "BaseException")=some true
 iZ:kitCls K (.ref a.h) (.ref a.h)=some true
 ka:KOy K a.k a.p false
 kz:KOy K a.l a.p false
 kb:KOy K a.m a.p false
 iF:KOy K a.n a.p false
 kA:KOy K a.o a.p false
 ke:KOy K a.p a.p true
 kB:KOy K a.k a.l false
 iP:KOy K a.l a.l true
 kC:KOy K a.m a.l false
 iN:KOy K a.n a.l false
 kY:KOy K a.o a.l false
 kD:KOy K a.p a.l false
 iD:KOy K a.k a.k true
 kF:KOy K a.l a.k false
 kg:KOy K a.m a.k false
 iG:KOy K a.n a.k false
 kG:KOy K a.o a.k false
 kh:KOy K a.p a.k false
 ma:KOy K a.i a.j false
 kZ:KOy K a.k a.j true
 lI:KOy K a.l a.j true
 k8:KOy K a.m a.j true
 iO:KOy K a.n a.j true
 lJ:KOy K a.o a.j true
 k9:KOy K a.p a.j true
 md:KOy K a.i a.i true
section
variable {P:Af} {w:World} {K:A0} {mg:A4} {base:Heap} {a:Ad} {f:Addr} {fd:FuncData}
def at0 {α:Type} {x:α} {xs:List α}:atI (x :: xs) 0=some x:=by
 have:=zD (xs:=x :: xs) (j:=0) rfl;simpa using this
noncomputable def iv (ns:A6):List V:=ns.map V.int
noncomputable def kf (l1 l2:Addr):List (Str × V):=zS "outs" (.ref l2) (zS "ins" (.ref l1) [])
def zit {l1 l2:Addr}:(kf l1 l2).lookup ("ins":Str)=some (.ref l1):=by
 unfold kf;rw [zE,ao (by symm),zE,ap rfl]
def zg7 {l1 l2:Addr}:(kf l1 l2).lookup ("outs":Str)=some (.ref l2):=by
 unfold kf;rw [zE,ap rfl]
def zcp {l1 l2:Addr}:(kf l1 l2).length < 1000:=by
 unfold kf;have:=wm "outs" (V.ref l2) (zS "ins" (.ref l1) []);have:=wm "ins" (V.ref l1) [];simp at *;lia
def zjp {l1 l2:Addr} {m:Str} (h1:m≠"ins") (h2:m≠"outs"):(kf l1 l2).lookup m=none:=by
 unfold kf;rw [zE,ao h2,zE,ao h1];rfl
def Own (H H':Hp) (y:Addr):Prop:=∀ b o,b≠y->H b=some o->H' b=some o
def Same.own {H H':Hp} {y:Addr} (s:Same H H'):Own H H' y:=λ b o _ h=>s b o h
def Own.trans {H1 H2 H3:Hp} {y:Addr} (s:Own H1 H2 y) (t:Own H2 H3 y):Own H1 H3 y:=λ b o hb h=>t b o hb (s b o hb h)
def jB {y:Addr}:Own H (upd H y o) y:=λ b u hb h=>by rw [oC hb];exact h
def Own.of_new {H H':Hp} {y dx:Addr} {o p:HO} (hy:H y=none) (hd:H dx=none) (s:Own (upd (upd H dx o) y p) H' y):Same H H':=λ b u h =>
 s b u (oE h hy) (by rw [oC (oE h hy),oC (oE h hd)];exact h)
def zI {p b:Addr} (h:upd H p o b=none):H b=none:=by
 by_cases e:b=p
 ·subst e;rw [oB] at h;cases h
 ·rw [oC e] at h;exact h
def J1 (K:A0):Sp:=λ vs H Q _=>∃ (y C dx i o:Addr) (xs ys:Ap),vs=[.ref y,.ref i,.ref o]/\H y=some (.ins C dx [])/\Cls K C/\NoAttr K C "ins"/\NoAttr K C "outs"/\SqL K H i xs/\SqL K H o ys/\i≠y/\o≠y /\
 ∀ H' l1 l2,Own H H' y->H' y=some (.ins C dx (kf l1 l2))->H' l1=some (.lst xs)->H' l2=some (.lst ys)->H l1=none->H l2=none->Q .non H'
def zcP {H H':Hp} {y l:Addr} {xs:Ap} (h:SqL K H l xs) (s:Own H H' y) (hl:l≠y):SqL K H' l xs:=by
 rcases h with h|h
 ·refine .inl ?_;rcases h with h|⟨ob,h⟩
  ·exact .inl (s _ _ hl h)
  ·exact .inr ⟨ob,s _ _ hl h⟩
 ·exact .inr h
def VS (T:Txt K mg a) (F:Fun K "__init__" "Knot.__init__" jh f fd):FnOk P w K mg base (CXr P w) 1 f fd ["self","ins","outs"] (J1 K):=by
 refine F.okx VD ?_ ?_
 ·walk_at "i"
 walk_at "k";obtain ⟨y,C,dx,i,o,xs,ys,rfl,hy,hC,hN1,hN2,hi,ho,hiy,hoy,k⟩:=h;walk_at "T";refine ⟨_,(zh (qZ (pq 0) (wG Zv vA (za (pq 1) zb)) rfl)  (zd (qZ (pq 0) (wG Zv vA (za (pq 2) zb)) rfl))),?_⟩;exists ⟨i,xs,rfl,.inl hi,λ l1 h1=>?_⟩;left;have y1:y≠l1:=oE hy h1;refine ⟨y,C,dx,[],rfl,oF hy h1,hC,hN1,by decide,?_⟩;left;have s1:Own H (upd (upd H l1 (.lst xs)) y (.ins C dx (zS "ins" (.ref l1) []))) y:=(Same.own (zf h1)).trans jB;refine ⟨o,ys,rfl,.inl (zcP ho s1 hoy),λ l2 h2=>?_⟩;left;have y2:y≠l2:=oE oB h2;have l12:l1≠l2:=λ z=>by
  rw [<- z,oC (a7 y1),oB] at h2;cases h2
 refine ⟨y,C,dx,_,rfl,oF oB h2,hC,hN2,by show 1 < 1000;decide,?_⟩;refine k _ l1 l2 (s1.trans ((Same.own (zf h2)).trans jB)) oB ?_ ?_ h1 ?_
 ·rw [oC (a7 y1),oC l12,oC (a7 y1),oB]
 ·rw [oC (a7 y2),oB]
 ·rw [oC (a7 y2),oC (a7 l12)] at h2;exact h2
def gZ (T:Txt K mg a):BCal P w K mg base "Knot" "__init__" 1 ["self","ins","outs"] [] (J1 K):=T.gZ.cal (VS T)
def zat (K:A0) (a:Ad):Sp:=λ vs H Q E=>∃ (l:Addr) (xs:Ap),vs=[.ref l]/\SqL K H l xs/\if 2<=xs.length/\xs.length<=4 then Q .non H else E (.ref a.e) none H
def vz (T:Txt K mg a):Cal P w K mg base "check_ways" 1 ["belts"] [] (zat K a):=T.lO.cal λ F=>by
 refine F.okx Wa ?_ ?_
 ·walk_at "i"
 walk_at "k";obtain ⟨l,xs,rfl,hl,k⟩:=h;walk_at "T";refine ⟨_,(zd (zF (jv (jR xj xj xi (qb qa z9 (za (pq 0) zb)) xi))  (zd (jm ⟨rfl,rfl,rfl⟩ rfl (za zO zb)))  zp)),?_⟩;left;obtain ⟨t1,g1⟩:=T.lH;obtain ⟨t2,g2⟩:=T.mB;have bad:¬ (2<=xs.length/\xs.length<=4)->∃ C,mg "BadKnot"=some (Value.ref C)/\XC K C/\E (Value.ref C) none H:=λ h=>by
  rw [ao h] at k;exact ⟨a.e,T.ip,T.iE,k⟩
 refine ⟨.int 2,_,g1,⟨_,rfl⟩,?_⟩;exists ⟨_,.inl ⟨_,hl,rfl⟩,?_⟩;walk_at "r";refine zT (λ h1=>?_) (λ h1=>bad (by lia));refine ⟨.int 4,_,g2,⟨_,rfl⟩,?_⟩;walk_at "r";refine zT (λ h2=>?_) (λ h2=>bad (by lia));rw [ap (by lia)] at k;exact k
def zav (a:Ad):Sp:=λ vs H Q E=>∃ p q:Int,vs=[.int p,.int q]/\if q<=p/\p<=4 then Q .non H else E (.ref a.e) none H
def Qy (T:Txt K mg a):Cal P w K mg base "check_pace" 1 ["pace","least"] [] (zav a):=T.lK.cal λ F=>by
 refine F.okx Wc ?_ ?_
 ·walk_at "i"
 walk_at "k";obtain ⟨p,q,rfl,k⟩:=h;walk_at "T";refine ⟨_,(zd (zF (jv (jR xj xj (pq 1) (pq 0) xi))  (zd (jm ⟨rfl,rfl,rfl⟩ rfl (za zO zb)))  zp)),?_⟩;left;obtain ⟨t1,g1⟩:=T.kJ;have bad:¬ (q<=p/\p<=4)->∃ C,mg "BadKnot"=some (Value.ref C)/\XC K C/\E (Value.ref C) none H:=λ h=>by
  rw [ao h] at k;exact ⟨a.e,T.ip,T.iE,k⟩
 refine zT (λ h1=>?_) (λ h1=>bad (by lia));refine ⟨.int 4,_,g1,⟨_,rfl⟩,?_⟩;exists zT (λ h2=>?_) (λ h2=>bad (by lia));rw [ap (by lia)] at k;left;exact k
noncomputable abbrev zZ:Int:=1000000000000000000000000000000
def zaw (a:Ad):Sp:=λ vs H Q E=>∃ n:Int,vs=[.int n]/\if 0<=n/\n < zZ then Q .non H else E (.ref a.e) none H
def Qz (T:Txt K mg a):Cal P w K mg base "check_kind" 1 ["kind"] [] (zaw a):=T.lM.cal λ F=>by
 refine F.okx We ?_ ?_
 ·walk_at "i"
 walk_at "k";obtain ⟨n,rfl,k⟩:=h;walk_at "T";refine ⟨_,(zd (zF (jv (jR xj zft ze (pq 0) zca))  (zd (jm ⟨rfl,rfl,rfl⟩ rfl (za zO zb)))  zp)),?_⟩;left;have bad:¬ (0<=n/\n < zZ)->∃ C,mg "BadKnot"=some (Value.ref C)/\XC K C/\E (Value.ref C) none H:=λ h=>by
  rw [ao h] at k;exact ⟨a.e,iA3 T.ip T.iE k⟩
 refine zT (λ h1=>?_) (λ h1=>bad (by lia));exists zT (λ h2=>?_) (λ h2=>bad (by unfold zZ;lia));rw [ap (by unfold zZ;lia)] at k;left;exact k
noncomputable def JA (bs:Ai) (side:Nat):Nat->Nat->Option Nat
 | 0,_=>none
 | n + 1,k=>if bs.getD ((side + k) % bs.length) false=true then some ((side + k) % bs.length) else JA bs side n (k + 1)
noncomputable def j5 (bs:Ai) (side:Nat):Option Nat:=JA bs side bs.length 0
noncomputable def Zz:Option Nat->V
 | none=>.non
 | some n=>.int n
theorem zdd {bs:Ai} {side:Nat} (h:0 < bs.length):∀ {n k p:Nat},JA bs side n k=some p->p < bs.length
 | 0,_,_,e=>by simp [JA] at e
 | n + 1,k,p,e=>by
  unfold JA at e
  split at e
  ·cases e;exact dA _ h
  ·exact zdd h e
def wK {bs:Ai} {side p:Nat} (e:j5 bs side=some p):p < bs.length:=by
 by_cases h:0 < bs.length
 ·exact zdd h e
 ·unfold j5 at e;rw [show bs.length=0 by lia] at e;simp [JA] at e
def Vo (K:A0):Sp:=λ vs H Q _=>∃ (l:Addr) (bs:Ai) (side:Nat),vs=[.ref l,.int side]/\SqL K H l (bs.map V.bl)/\bs.length<=1000/\Q (Zz (j5 bs side)) H
theorem ZK (T:Txt K mg a):Cal P w K mg base "first_place" 1 ["wanted","side"] [] (Vo K):=T.lz.cal λ F=>by
 refine F.okx Xb ?_ ?_
 ·walk_at "i"
 walk_at "k";refine oE3 h λ l bs side o8=>oA4 o8 λ oi hl hb k=>?_;clear o8 h;subst oi;walk_at "T";refine ⟨_,(zh (qB qX rfl (vh (za (qb qa z9 (za (pq 0) zb)) zb)) (qp 2 Xb.nd)  (zh (zu 3 Xb.nd (zJ jo (zJ qd (pq 1) (pq 2)) (qb qa z9 (za (pq 0) zb))))  (zd (zF (qO (zr (pq 0) (pq 3)) (λ _=>rfl))  (zd (zk (pq 3)))  zp))))  (zd (zk zA))),?_⟩;walk_at "e";exists ⟨_,iA4 (.inl ⟨_,hl,rfl⟩) (by lia) (by rw [ah];lia) ?_⟩;refine Qu (λ i σ H'=>∃ v2 v3,σ=[some (.ref l),some (.int side),v2,v3]/\H'=H/\Q (Zz (JA bs side (bs.length - i) i)) H) (iE2 _ _ (iA3 rfl rfl k)) ?_ ?_
 ·intro i σ H' hi oj;refine oE2 oj λ v2 v3 o8=>oA3 o8 λ oi ou k=>?_;clear o8 oj;subst oi ou;have hi:i < bs.length:=by simpa using hi
  exists ⟨_,.inl ⟨_,hl,rfl⟩,?_⟩;walk_at "r";rw [ah];refine And.intro (by lia) ?_;have e:((side:Int) + (0 + (i:Int))) % (bs.length:Int)=(((side + i) % bs.length:Nat):Int):=by push_cast;rw [dB]
  rw [e];have hlt:(side + i) % bs.length < bs.length:=dA _ (by lia);refine zt hl (zD (by rw [ak,ac hlt];rfl)) ?_;walk_at "r";have em:bs.length - i=(bs.length - (i + 1)) + 1:=by lia
  rw [em,JA] at k;have eg:bs.getD ((side + i) % bs.length) false=bs[(side + i) % bs.length]:=by simp [hlt]
  rw [eg] at k;cases hbb:bs[(side + i) % bs.length] with
  | true =>
   rw [hbb,ap rfl] at k;walk_at "r";exact k
  | false =>
   rw [hbb,ao (by decide)] at k;walk_at "r"
   first|exact ⟨_,_,rfl,rfl,k⟩|exact ⟨_,_,rfl,k⟩|exact k
 ·intro σ H' oj;refine oE2 oj λ v2 v3 o8=>oA3 o8 λ oi ou k=>?_;clear o8 oj;subst oi ou;walk_at "r";simpa [JA,Zz] using k
def zbO (K:A0):Sp:=λ vs H Q _=>∃ (v:V) (l:Addr) (bs:Ai) (side:Nat),vs=[v,.ref l,.int side]/\SqL K H l (bs.map V.bl)/\bs.length<=1000/\Q (if v=.non then .non else Zz (j5 bs side)) H
def wO (T:Txt K mg a):Cal P w K mg base "place_for_ware" 2 ["head","free","side"] [] (zbO K):=T.i0.cal λ F=>by
 refine F.okx Z9 ?_ ?_
 ·walk_at "i"
 walk_at "k";obtain ⟨v,l,bs,side,rfl,hl,hb,k⟩:=h;walk_at "T";refine ⟨_,(zd (zk (wF (zl ja (pq 0) zA (zq _)) zA ‹(pq 1) (za (pq 2) zb)›))),?_⟩;exists zT (λ h=>?_) (λ h=>?_)
 ·rw [ap h] at k;walk_at "r";exact k
 ·rw [ao h] at k;walk_at "r";exact ⟨_,_,_,ZK T,l,bs,side,rfl,hl,hb,k⟩
def xC (K:A0) (C CB:Addr):Sp:=λ vs H Q E=>∃ (y dx o:Addr) (into:V) (ys:Ap),vs=[.ref y,into,.ref o]/\H y=some (.ins C dx [])/\SqL K H o ys/\o≠y /\
 if 2<=ys.length/\ys.length<=4 then ∀ H' l1 l2,Own H H' y->H' y=some (.ins C dx (kf l1 l2))->H' l1=some (.lst [into])->H' l2=some (.lst ys)->H l1=none->H l2=none->Q .non H' else E (.ref CB) none H
def Xt (T:Txt K mg a) (F:Fun K "__init__" "Parter.__init__" j9 f fd):FnOk P w K mg base (CXr P w) 2 f fd ["self","into","outs"] (xC K a.m a.e):=by
 refine F.okx Xf ?_ ?_
 ·walk_at "i"
 walk_at "k";obtain ⟨y,dx,o,into,ys,rfl,hy,ho,hoy,k⟩:=h;walk_at "T";refine ⟨_,(zh (zG ‹(pq 2) zb›)  (zd (zG (Zp ⟨rfl,rfl,rfl⟩ hr (za (pq 0) (za (zL (za (pq 1) zb)) (za (pq 2) zb))))))),?_⟩;exists ⟨_,_,_,vz T,o,ys,rfl,ho,zT (λ hok=>?_) (λ hok=>?_)⟩
 ·rw [ap hok] at k;exists ⟨_,_,_,gZ T,λ p hp=>⟨y,a.m,dx,p,o,[into],ys,rfl,oF hy hp,T.ir,T.iH,T.ij,SqL.of oB,(zf hp).seq ho,(oE hy hp).symm,hoy,λ H' l1 l2 s h1 h2 h3 h4 h5=>?_⟩⟩;exact k H' l1 l2 ((Same.own (zf hp)).trans s) h1 h2 h3 (zI h4) (zI h5)
 ·rw [ao hok] at k;exact k
def zbi (T:Txt K mg a):KCal P w K mg base "Parter" a.m 2 ["self","into","outs"] [] (xC K a.m a.e):=T.lD.cal T.nF (Xt T)
def ZA (T:Txt K mg a) (F:Fun K "__init__" "FirstParter.__init__" qQ f fd):FnOk P w K mg base (CXr P w) 2 f fd ["self","into","outs"] (xC K a.n a.e):=by
 refine F.okx Zy ?_ ?_
 ·walk_at "i"
 walk_at "k";obtain ⟨y,dx,o,into,ys,rfl,hy,ho,hoy,k⟩:=h;walk_at "T";refine ⟨_,(zh (zG ‹(pq 2) zb›)  (zd (zG (Zp ⟨rfl,rfl,rfl⟩ hr (za (pq 0) (za (zL (za (pq 1) zb)) (za (pq 2) zb))))))),?_⟩;exists ⟨_,_,_,vz T,o,ys,rfl,ho,zT (λ hok=>?_) (λ hok=>?_)⟩
 ·rw [ap hok] at k;exists ⟨_,_,_,gZ T,λ p hp=>⟨y,a.n,dx,p,o,[into],ys,rfl,oF hy hp,T.hW,T.ib,T.ia,SqL.of oB,(zf hp).seq ho,(oE hy hp).symm,hoy,λ H' l1 l2 s h1 h2 h3 h4 h5=>?_⟩⟩;exact k H' l1 l2 ((Same.own (zf hp)).trans s) h1 h2 h3 (zI h4) (zI h5)
 ·rw [ao hok] at k;exact k
def ZG (T:Txt K mg a):KCal P w K mg base "FirstParter" a.n 2 ["self","into","outs"] [] (xC K a.n a.e):=T.iT.cal T.lB (ZA T)
noncomputable def vf (l1 l2:Addr) (n:Int):List (Str × V):=zS "kind" (.int n) (kf l1 l2)
def zgq {l1 l2:Addr}:(vf l1 l2 n).lookup ("kind":Str)=some (.int n):=by
 unfold vf;rw [zE,ap rfl]
def zi2 {l1 l2:Addr} {m:Str} (h1:m≠"ins") (h2:m≠"outs") (h3:m≠"kind"):(vf l1 l2 n).lookup m=none:=by
 unfold vf;rw [zE,ao h3];exact zjp h1 h2
def Jb (K:A0) (C CB:Addr):Sp:=λ vs H Q E=>∃ (y dx o:Addr) (into:V) (ys:Ap) (n:Int),vs=[.ref y,into,.ref o,.int n]/\H y=some (.ins C dx [])/\SqL K H o ys/\o≠y /\
 if ys.length=2/\0<=n/\n < zZ then ∀ H' l1 l2,Own H H' y->H' y=some (.ins C dx (vf l1 l2 n))->H' l1=some (.lst [into])->H' l2=some (.lst ys)->H l1=none->H l2=none->Q .non H' else E (.ref CB) none H
def Wj (T:Txt K mg a) (F:Fun K "__init__" "Sieve.__init__" xE f fd):FnOk P w K mg base (CXr P w) 2 f fd ["self","into","outs","kind"] (Jb K a.o a.e):=by
 refine F.okx Wg ?_ ?_
 ·walk_at "i"
 walk_at "k";refine oE6 h λ y dx o into ys n o8=>oA5 o8 λ oi hy ho hoy k=>?_;clear o8 h;subst oi;walk_at "T";refine ⟨_,(zh (zF (zl (ZD hr.units1) (qb qa z9 (za (pq 2) zb)) ze (zq _))  (zd (jm ⟨rfl,rfl,rfl⟩ rfl (za zO zb)))  zp)  (zh (zG ‹(pq 3) zb›)  (zh (zG (Zp ⟨rfl,rfl,rfl⟩ hr (za (pq 0) (za (zL (za (pq 1) zb)) (za (pq 2) zb)))))  (zd (qZ (pq 0) (pq 3) rfl))))),?_⟩;exists ⟨_,.inl ⟨_,ho,rfl⟩,?_⟩;exists zT (λ h1=>?_) (λ h1=>?_)
 ·rw [ao (by lia)] at k;exact ⟨a.e,iA3 T.ip T.iE k⟩
 ·refine iE3 _ _ _ ⟨Qz T,⟨n,rfl,zT (λ hok=>?_) (λ hok=>?_)⟩⟩
  ·rw [ap ⟨by lia,hok⟩] at k;exists iE3 _ _ _ ⟨gZ T,λ p hp=>(iE7 y a.o dx p o ([into]) ys (iA6 rfl (oF hy hp) T.ig T.iS T.iL (iA5 (SqL.of oB) ((zf hp).seq ho) ((oE hy hp).symm) hoy (λ H' l1 l2 s h1 h2 h3 h4 h5=>?_))))⟩;exists iE4 y a.o dx _ (iA6 rfl h1 T.ig T.iK zcp ?_);exact k _ l1 l2 (((Same.own (zf hp)).trans s).trans jB) oB (by rw [oC (Qh h2 h1 (by intro z;cases z))];exact h2) (by rw [oC (Qh h3 h1 (by intro z;cases z))];exact h3) (zI h4) (zI h5)
  ·rw [ao (λ z=>hok z.2)] at k;exact k
def zc4 (T:Txt K mg a):KCal P w K mg base "Sieve" a.o 2 ["self","into","outs","kind"] [] (Jb K a.o a.e):=T.lZ.cal T.nU (Wj T)
def Z8 (K:A0) (C CB:Addr):Sp:=λ vs H Q E=>∃ (y dx o:Addr) (out:V) (ys:Ap),vs=[.ref y,.ref o,out]/\H y=some (.ins C dx [])/\SqL K H o ys/\o≠y /\
 if 2<=ys.length/\ys.length<=4 then ∀ H' l1 l2,Own H H' y->H' y=some (.ins C dx (kf l1 l2))->H' l1=some (.lst ys)->H' l2=some (.lst [out])->H l1=none->H l2=none->Q .non H' else E (.ref CB) none H
def Xu (T:Txt K mg a) (F:Fun K "__init__" "Joiner.__init__" xa f fd):FnOk P w K mg base (CXr P w) 2 f fd ["self","ins","out"] (Z8 K a.p a.e):=by
 refine F.okx Xg ?_ ?_
 ·walk_at "i"
 walk_at "k";obtain ⟨y,dx,o,out,ys,rfl,hy,ho,hoy,k⟩:=h;walk_at "T";refine ⟨_,(zh (zG ‹(pq 1) zb›)  (zd (zG (Zp ⟨rfl,rfl,rfl⟩ hr (za (pq 0) (za (pq 1) (za (zL (za (pq 2) zb)) zb))))))),?_⟩;exists ⟨_,_,_,vz T,o,ys,rfl,ho,zT (λ hok=>?_) (λ hok=>?_)⟩
 ·rw [ap hok] at k;exists ⟨_,_,_,gZ T,λ p hp=>⟨y,a.p,dx,o,p,ys,[out],rfl,oF hy hp,T.iu,T.iw,T.iC,(zf hp).seq ho,SqL.of oB,hoy,(oE hy hp).symm,λ H' l1 l2 s h1 h2 h3 h4 h5=>?_⟩⟩;exact k H' l1 l2 ((Same.own (zf hp)).trans s) h1 h2 h3 (zI h4) (zI h5)
 ·rw [ao hok] at k;exact k
def zbj (T:Txt K mg a):KCal P w K mg base "Joiner" a.p 2 ["self","ins","out"] [] (Z8 K a.p a.e):=T.lF.cal T.mD (Xu T)
noncomputable def df (l1 l2:Addr) (p:Int):List (Str × V):=zS "pace" (.int p) (kf l1 l2)
def V3 {l1 l2:Addr} {p:Int}:(df l1 l2 p).lookup ("pace":Str)=some (.int p):=by
 unfold df;rw [zE,ap rfl]
theorem Qf (f:Str) (v:V):∀ fs:List (Str × V),(zS f v fs).length<=fs.length + 1
 | []=>by simp [zS]
 | (g,x) :: r=>by
  unfold zS
  split
  ·simp
  ·have:=Qf f v r;simp;lia
def zg8 {l1 l2:Addr}:(kf l1 l2).length<=2:=by
 unfold kf;have h1:=Qf "outs" (V.ref l2) (zS "ins" (.ref l1) []);have h2:=Qf "ins" (V.ref l1) [];simp only [cD] at h2
 lia
def ziI {l1 l2:Addr} {p:Int}:(df l1 l2 p).length < 1000:=by
 unfold df;have h1:=Qf "pace" (V.int p) (kf l1 l2);have h2:=zg8 (l1:=l1) (l2:=l2)
 lia
def Jc (C CB:Addr):Sp:=λ vs H Q E=>∃ (y dx:Addr) (into:V) (p:Int),vs=[.ref y,into,.int p]/\H y=some (.ins C dx []) /\
 if 0<=p/\p<=4 then ∀ H' l1 l2,Own H H' y->H' y=some (.ins C dx (df l1 l2 p))->H' l1=some (.lst [into])->H' l2=some (.lst [])->H l1=none->H l2=none->Q .non H' else E (.ref CB) none H
def Wk (T:Txt K mg a) (F:Fun K "__init__" "Drain.__init__" xF f fd):FnOk P w K mg base (CXr P w) 2 f fd ["self","into","pace"] (Jc a.l a.e):=by
 refine F.okx Wh ?_ ?_
 ·walk_at "i"
 walk_at "k";obtain ⟨y,dx,into,p,rfl,hy,k⟩:=h;walk_at "T";refine ⟨_,(zh (zG ‹(pq 2) (za ze zb)›)  (zh (zG (Zp ⟨rfl,rfl,rfl⟩ hr (za (pq 0) (za (zL (za (pq 1) zb)) (za (zL zb) zb)))))  (zd (qZ (pq 0) (pq 2) rfl)))),?_⟩;exists ⟨_,_,_,Qy T,p,0,rfl,zT (λ hok=>?_) (λ hok=>?_)⟩
 ·rw [ap hok] at k;exists ⟨_,_,_,gZ T,λ q1 hq1 q2 hq2=>?_⟩;have n12:q1≠q2:=oE oB hq2;have hy2:=oF (o:=.lst []) (oF (o:=.lst [into]) hy hq1) hq2;refine ⟨y,a.l,dx,q1,q2,[into],[],rfl,hy2,T.ik,T.iR,T.i7,SqL.of (oF oB hq2),SqL.of oB,(oE hy hq1).symm,(oE (oF hy hq1) hq2).symm,λ H' l1 l2 s h1 h2 h3 h4 h5=>?_⟩;exists ⟨y,a.l,dx,_,rfl,h1,T.ik,T.ie,zcp,?_⟩;exact k _ l1 l2 (((Same.own ((zf hq1).trans (zf hq2))).trans s).trans jB) oB (by rw [oC (Qh h2 h1 (by intro z;cases z))];exact h2) (by rw [oC (Qh h3 h1 (by intro z;cases z))];exact h3) (zI (zI h4)) (zI (zI h5))
 ·rw [ao hok] at k;exact k
def zc5 (T:Txt K mg a):KCal P w K mg base "Drain" a.l 2 ["self","into","pace"] [] (Jc a.l a.e):=T.lY.cal T.me (Wk T)
noncomputable def sf (l1 l2:Addr) (p:Int) (l3:Addr):List (Str × V):=zS "kinds" (.ref l3) (df l1 l2 p)
def zgD {l1 l2 l3:Addr} {p:Int}:(sf l1 l2 p l3).lookup ("pace":Str)=some (.int p):=by
 unfold sf;rw [zE,ao (by symm)];exact V3
def X1 (ks:A6):Prop:=∀ n∈ks,0<=n/\n < zZ
def Z7 (K:A0) (C CB:Addr):Sp:=λ vs H Q E=>∃ (y dx l:Addr) (out:V) (p:Int) (ks:A6),vs=[.ref y,out,.int p,.ref l]/\H y=some (.ins C dx [])/\SqL K H l (ks.map V.int)/\l≠y /\
 ((1<=p/\p<=4/\1<=ks.length/\ks.length<=6/\X1 ks->∀ H' l1 l2 l3,Own H H' y->H' y=some (.ins C dx (sf l1 l2 p l3))->H' l1=some (.lst [])->H' l2=some (.lst [out])->H' l3=some (.lst (ks.map V.int))->H l1=none->H l2=none->H l3=none->Q .non H') /\
   (¬ (1<=p/\p<=4/\1<=ks.length/\ks.length<=6/\X1 ks)->E (.ref CB) none H))
def Xs (T:Txt K mg a) (F:Fun K "__init__" "Source.__init__" j8 f fd):FnOk P w K mg base (CXr P w) 2 f fd ["self","out","pace","kinds"] (Z7 K a.k a.e):=by
 refine F.okx Xe ?_ ?_
 ·walk_at "i"
 walk_at "k";refine oE6 h λ y dx l out p ks o8=>oA6 o8 λ oi hy hl hly kok kbad=>?_;clear o8 h;subst oi;obtain ⟨t1,g1⟩:=T.l5;walk_at "T";refine ⟨_,(zh (zG ‹(pq 2) (za ze zb)›)  (zh (zF (jv (jR xj xj ze (qb qa z9 (za (pq 3) zb)) xi))  (zd (jm ⟨rfl,rfl,rfl⟩ rfl (za zO zb)))  zp)  (zh (qB qX rfl (qo (pq 3)) (qp 4 Xe.nd)  (zd (zG ‹(pq 4) zb›)))  (zh (zG (Zp ⟨rfl,rfl,rfl⟩ hr (za (pq 0) (za (zL zb) (za (zL (za (pq 1) zb)) zb)))))  (zh (qZ (pq 0) (pq 2) rfl)  (zd (qZ (pq 0) (wG Zv vA (za (pq 3) zb)) rfl))))))),?_⟩;exists iE3 _ _ _ ⟨Qy T,⟨p,1,rfl,zT (λ hp=>?_) (λ hp=>kbad λ z=>hp ⟨z.1,z.2.1⟩)⟩⟩;exists ⟨_,.inl ⟨_,hl,rfl⟩,?_⟩;rw [ah];left;have bad:¬ (1<=ks.length/\ks.length<=6)->∃ C,mg "BadKnot"=some (Value.ref C)/\XC K C/\E (Value.ref C) none H:=λ h=>⟨a.e,T.ip,T.iE,kbad λ z=>h ⟨z.2.2.1,z.2.2.2.1⟩⟩;refine zT (λ h1=>?_) (λ h1=>bad (by lia));refine iE2 (.int 6) _ (iA3 g1 ⟨_,rfl⟩ ?_);exists zT (λ h2=>?_) (λ h2=>bad (by lia));walk_at "e";refine ⟨l,rfl,.inl ⟨⟨_,hl⟩,?_⟩⟩;refine qK (K:=K) (a:=l) (xs:=ks.map V.int) (λ i σ H'=>∃ v4,σ=[some (.ref y),some out,some (.int p),some (.ref l),v4]/\H'=H/\X1 (ks.take i)) ⟨_,iA3 rfl rfl (λ _ h=>nomatch h)⟩ (λ i σ H' _ ⟨_,_,e,_⟩=>e ▸ hl) ?_ ?_
 ·intro i x σ H' hi oj;refine oE1 oj λ v4 o8=>oA3 o8 λ oi ou hk=>?_;clear o8 oj;subst oi ou;rw [ak,am] at hi;obtain ⟨n,hn,rfl⟩:=hi;exists iE3 _ _ _ ⟨Qz T,⟨n,rfl,zT (λ hok=>?_) (λ hok=>kbad λ z=>hok (z.2.2.2.2 n (af hn)))⟩⟩;left;have:X1 (ks.take (i + 1)):=λ m hm=>by
   rw [gF,hn] at hm;rcases aE.mp hm with z|z
   ·exact hk m z
   ·have e:m=n:=by simpa using z
    rw [e];exact hok
  first|exact ⟨_,rfl,rfl,this⟩|exact ⟨_,rfl,this⟩
 ·intro σ H' oj;refine oE1 oj λ v4 o8=>oA3 o8 λ oi ou hk=>?_;clear o8 oj;subst oi ou;rw [ah,aM] at hk;have kok:=kok ⟨hp.1,hp.2,by lia,by lia,hk⟩;exists iE3 _ _ _ ⟨gZ T,λ q1 hq1 q2 hq2=>?_⟩;have hy2:=oF (o:=.lst [out]) (oF (o:=.lst []) hy hq1) hq2;have s12:Same H' (upd (upd H' q1 (.lst [])) q2 (.lst [out])):=(zf hq1).trans (zf hq2);refine iE7 y a.k dx q1 q2 ([]) ([out]) (iA6 rfl hy2 T.hX T.i6 T.iB (iA5 (SqL.of (oF oB hq2)) (SqL.of oB) ((oE hy hq1).symm) ((oE (oF hy hq1) hq2).symm) (λ H2 l1 l2 s h1 h2 h3 h4 h5=>?_)));exists iE4 y a.k dx _ (iA6 rfl h1 T.hX T.ii zcp ?_);left;have s3:Own H' (upd H2 y (.ins a.k dx (df l1 l2 p))) y:=((Same.own s12).trans s).trans jB;have h2':upd H2 y (.ins a.k dx (df l1 l2 p)) l1=some (.lst []):=by rw [oC (Qh h2 h1 (by intro z;cases z))];exact h2
  have h3':upd H2 y (.ins a.k dx (df l1 l2 p)) l2=some (.lst [out]):=by rw [oC (Qh h3 h1 (by intro z;cases z))];exact h3
  refine iE2 l _ (iA3 rfl (.inl (zcP hl s3 hly)) (λ l3 hl3=>?_));left;have hy3:upd (upd H2 y (.ins a.k dx (df l1 l2 p))) l3 (.lst (ks.map V.int)) y=some (.ins a.k dx (df l1 l2 p)):=oF oB hl3;refine iE4 y a.k dx _ (iA6 rfl hy3 T.hX T.ic ziI ?_);have n1:l1≠y:=Qh h2 h1 (by intro z;cases z);have n2:l2≠y:=Qh h3 h1 (by intro z;cases z);have n3:l3≠y:=(oE (oB (H:=H2)) hl3).symm;refine kok _ l1 l2 l3 ((s3.trans (Same.own (zf hl3))).trans jB) oB ?_ ?_ ?_ (zI (zI h4)) (zI (zI h5)) ?_
  ·rw [oC n1];exact oF h2' hl3
  ·rw [oC n2];exact oF h3' hl3
  ·rw [oC n3];exact oB
  ·cases e:H' l3 with
   | none=>rfl
   | some o=>exact absurd (hl3.symm.trans (s3 l3 o n3 e)) (by intro z;cases z)
def zbh (T:Txt K mg a):KCal P w K mg base "Source" a.k 2 ["self","out","pace","kinds"] [] (Z7 K a.k a.e):=T.lC.cal T.lj (Xs T)
noncomputable def bf (rm pc:Int):List (Str × V):=zS "pace" (.int pc) (zS "room" (.int rm) [])
abbrev zH (rm pc:Int):Prop:=1<=rm/\rm<=6/\1<=pc/\pc<=4
def J5 (C CB:Addr):Sp:=λ vs H Q E=>∃ (y dx:Addr) (rm pc:Int),vs=[.ref y,.int rm,.int pc]/\H y=some (.ins C dx [])/\if zH rm pc then Q .non (upd H y (.ins C dx (bf rm pc))) else E (.ref CB) none H
def VT (T:Txt K mg a) (F:Fun K "__init__" "Belt.__init__" we f fd):FnOk P w K mg base (CXr P w) 1 f fd ["self","room","pace"] (J5 a.i a.d):=by
 refine F.okx VE ?_ ?_
 ·walk_at "i"
 walk_at "k";refine oE4 h λ y dx rm pc o8=>oA3 o8 λ oi hy k=>?_;clear o8 h;subst oi;obtain ⟨t1,g1⟩:=T.mz;obtain ⟨t2,g2⟩:=T.kJ;walk_at "T";refine ⟨_,(zh (zF (jv (jR xj xj ze (pq 1) xi))  (zd (jm ⟨rfl,rfl,rfl⟩ rfl (za zO zb)))  zp)  (zh (zF (jv (jR xj xj ze (pq 2) xi))  (zd (jm ⟨rfl,rfl,rfl⟩ rfl (za zO zb)))  zp)  (zh (qZ (pq 0) (pq 1) rfl)  (zd (qZ (pq 0) (pq 2) rfl))))),?_⟩;left;have bad:¬ zH rm pc->∃ C,mg "BadBelt"=some (Value.ref C)/\XC K C/\E (Value.ref C) none H:=λ h=>by
  rw [ao h] at k;exact ⟨a.d,iA3 T.lU T.mW k⟩
 refine zT (λ h1=>?_) (λ h1=>bad (by unfold zH;lia));refine iE2 (.int 6) _ (iA3 g1 ⟨_,rfl⟩ ?_);exists zT (λ h2=>?_) (λ h2=>bad (by unfold zH;lia));exists zT (λ h3=>?_) (λ h3=>bad (by unfold zH;lia));refine iE2 (.int 4) _ (iA3 g2 ⟨_,rfl⟩ ?_);exists zT (λ h4=>?_) (λ h4=>bad (by unfold zH;lia));rw [ap (by unfold zH;lia)] at k;exists iE4 y a.i dx ([]) (iA6 rfl hy T.iz T.iQ (by decide) ?_);exists iE4 y a.i dx _ (iA6 rfl oB T.iz T.iA (by show 1 < 1000;decide) ?_);rw [Zj];exact k
def zfM (T:Txt K mg a):KCal P w K mg base "Belt" a.i 1 ["self","room","pace"] [] (J5 a.i a.d):=T.mw.cal T.nB (VT T)
def qD {y dx b C:Addr} {u:HO} (hy:H y=none) (hdx:H dx=none) (h:H b=some u):upd (upd H dx (.own y)) y (.ins C dx []) b=some u:=by
 rw [oC (oE h hy),oC (oE h hdx)];exact h
def zP {y dx b:Addr} {o p:HO} (h:upd (upd H dx o) y p b=none):H b=none:=zI (zI h)
def zw {H H':Hp} (s:Same H H') (h:H' b=none):H b=none:=by
 cases e:H b with
 | none=>rfl
 | some o=>rw [s b o e] at h;cases h
inductive Wd|source|drain|parter|first|sieve|joiner
deriving DecidableEq
noncomputable def wM (a:Ad):Wd->Addr
 | .source=>a.k
 | .drain=>a.l
 | .parter=>a.m
 | .first=>a.n
 | .sieve=>a.o
 | .joiner=>a.p
structure Row where
 wd:Wd
 ins:List Int
 outs:List Int
 pace:Int
 kinds:List Int
abbrev At:=List Row
def Row.ok (r:Row):Prop:=match r.wd with
 | .source=>r.ins=[]/\(∃ o,r.outs=[o])/\1<=r.pace/\r.pace<=4/\1<=r.kinds.length/\r.kinds.length<=6/\X1 r.kinds
 | .drain=>(∃ i,r.ins=[i])/\r.outs=[]/\0<=r.pace/\r.pace<=4
 | .parter=>(∃ i,r.ins=[i])/\2<=r.outs.length/\r.outs.length<=4
 | .first=>(∃ i,r.ins=[i])/\2<=r.outs.length/\r.outs.length<=4
 | .sieve=>(∃ i,r.ins=[i])/\r.outs.length=2/\∃ k,r.kinds=[k]/\0<=k/\k < zZ
 | .joiner=>(∃ o,r.outs=[o])/\2<=r.ins.length/\r.ins.length<=4
noncomputable def za2 (r:Row):List (Str × D):=match r.wd with
 | .source=>[("pace",.int r.pace),("kinds",.ints r.kinds)]
 | .drain=>[("pace",.int r.pace)]
 | .sieve=>[("kind",.int (r.kinds.headD 0))]
 | _=>[]
noncomputable def XH (r:Row):List (Str × D):=("ins",.ints r.ins) :: ("outs",.ints r.outs) :: za2 r
noncomputable def Qx (a:Ad) (r:Row):D:=.ob (wM a r.wd) (XH r)
noncomputable def Ji (a:Ad) (b:Int × Int):D:=.ob a.i [("room",.int b.1),("pace",.int b.2)]
def jp {α:Type} {f:Str} {x:α} {r:List (Str × α)}:((f,x) :: r).lookup f=some x:=by simp [List.lookup]
def zW {α:Type} {f g:Str} {x:α} {r:List (Str × α)} (h:f≠g):((g,x) :: r).lookup f=r.lookup f:=by
 have hb:(f == g)=false:=aW.mpr h;simp [List.lookup,hb]
def zg6 (r:Row):(XH r).lookup ("ins":Str)=some (.ints r.ins):=jp
def zfI (r:Row):(XH r).lookup ("outs":Str)=some (.ints r.outs):=(zW (by symm)).trans jp
def zfH {r:Row} (h:r.wd=.source\/r.wd=.drain):(XH r).lookup ("pace":Str)=some (.int r.pace):=by
 refine (zW (by symm)).trans ((zW (by symm)).trans ?_);unfold za2;rcases h with h|h <;> (rw [h];exact jp)
def zef {r:Row} (h:r.wd=.source):(XH r).lookup ("kinds":Str)=some (.ints r.kinds):=by
 refine (zW (by symm)).trans ((zW (by symm)).trans ?_);unfold za2;rw [h];exact (zW (by symm)).trans jp
def zfK {r:Row} {k:Int} (h:r.wd=.sieve) (e:r.kinds=[k]):(XH r).lookup ("kind":Str)=some (.int k):=by
 refine (zW (by symm)).trans ((zW (by symm)).trans ?_);unfold za2;rw [h,e];exact jp
def zfJ {r:Row} {f:Str} (h1:f≠"ins") (h2:f≠"outs") (h3:f≠"pace") (h4:f≠"kinds") (h5:f≠"kind"):(XH r).lookup f=none:=by
 refine (zW h1).trans ((zW h2).trans ?_);unfold za2
 split
 ·exact (zW h3).trans (zW h4)
 ·exact zW h3
 ·exact zW h5
 ·rfl
def KnP (a:Ad) (H:Hp) (p:A5) (v:V) (r:Row):Prop:=Rep H p v (Qx a r)
def KnP.keep {H H':Hp} {p q:A5} {r:Row} (h:KnP a H p v r) (s:∀ b o,p b->H b=some o->q b/\H' b=some o):KnP a H' q v r:=Rep.keep s h
def KnP.inv {r:Row} (h:KnP a H p v r):∃ y dx l1 l2 l3 fs,v=.ref y/\p y/\p l1/\p l2/\(r.wd=.source->p l3)/\H y=some (.ins (wM a r.wd) dx fs)/\fs.lookup ("ins":Str)=some (.ref l1)/\fs.lookup ("outs":Str)=some (.ref l2) /\
  fs.lookup ("copied":Str)=none/\H l1=some (.lst (iv r.ins))/\H l2=some (.lst (iv r.outs))/\(r.wd=.source->fs.lookup ("kinds":Str)=some (.ref l3)/\H l3=some (.lst (iv r.kinds)))/\((r.wd=.source\/r.wd=.drain)->fs.lookup ("pace":Str)=some (.int r.pace)):=by
 obtain ⟨y,dx,fs,rfl,py,hy,g1,g2⟩:=Rep.ob' h;obtain ⟨u1,e1,r1⟩:=g1 _ _ (zg6 r);obtain ⟨l1,rfl,p1,h1⟩:=r1.ints';obtain ⟨u2,e2,r2⟩:=g1 _ _ (zfI r);obtain ⟨l2,rfl,p2,h2⟩:=r2.ints';have e3:=g2 ("copied":Str) (zfJ (by symm) (by symm) (by symm) (by symm) (by symm));have pc:(r.wd=.source\/r.wd=.drain)->fs.lookup ("pace":Str)=some (.int r.pace):=λ z=>by
  obtain ⟨u,e,ru⟩:=g1 _ _ (zfH z);cases ru;exact e
 by_cases hs:r.wd=.source
 ·obtain ⟨u3,e4,r3⟩:=g1 _ _ (zef hs);obtain ⟨l3,rfl,p3,h3⟩:=r3.ints';exact ⟨y,dx,l1,l2,l3,fs,rfl,py,p1,p2,λ _=>p3,hy,e1,e2,e3,h1,h2,λ _=>⟨e4,h3⟩,pc⟩
 ·exact ⟨y,dx,l1,l2,l1,fs,rfl,py,p1,p2,λ z=>absurd z hs,hy,e1,e2,e3,h1,h2,λ z=>absurd z hs,pc⟩
def XJ {l1 l2:Addr}:kf l1 l2=([(("ins":Str),V.ref l1),(("outs":Str),V.ref l2)]:Ar):=by
 unfold kf;simp only [zS];rw [ao (by symm)]
def zf5 {l1 l2:Addr}:df l1 l2 n=([(("ins":Str),V.ref l1),(("outs":Str),V.ref l2),(("pace":Str),V.int n)]:Ar):=by
 unfold df;rw [XJ];simp only [zS];rw [ao (by symm),ao (by symm)]
def zhz {l1 l2 l3:Addr}:sf l1 l2 n l3=([(("ins":Str),V.ref l1),(("outs":Str),V.ref l2),(("pace":Str),V.int n),(("kinds":Str),V.ref l3)]:Ar):=by
 unfold sf;rw [zf5];simp only [zS];rw [ao (by symm),ao (by symm),ao (by symm)]
def zhv {l1 l2:Addr}:vf l1 l2 n=([(("ins":Str),V.ref l1),(("outs":Str),V.ref l2),(("kind":Str),V.int n)]:Ar):=by
 unfold vf;rw [XJ];simp only [zS];rw [ao (by symm),ao (by symm)]
def wu {l C dx:Addr} {gs:List (Str × D)} (pl:p l) (e:H l=some (.ins C dx fs)) (n:fs.map (·.1)=gs.map (·.1)) (r:Reps H p (fs.map (·.2)) (gs.map (·.2))):Rep H p (.ref l) (.ob C gs) :=
 .ob pl e n λ i f g hf hg=>r.g i f.2 g.2 (by rw [ak,hf];rfl) (by rw [ak,hg];rfl)
section
variable {H:Hp} {p:A5} {z dz m1 m2 m3:Addr} {ins outs kinds:A6} {pace:Int}
def WM (q0:p z) (q1:p m1) (q2:p m2) (q3:p m3) (h0:H z=some (.ins a.k dz (sf m1 m2 pace m3))) (h1:H m1=some (.lst (iv ins))) (h2:H m2=some (.lst (iv outs))) (h3:H m3=some (.lst (iv kinds))):KnP a H p (.ref z) ⟨.source,ins,outs,pace,kinds⟩:=by
 rw [zhz] at h0;exact wu q0 h0 rfl (.cons (qm q1 h1) (.cons (qm q2 h2) (.cons .int (.cons (qm q3 h3) .nil))))
def zbe (q0:p z) (q1:p m1) (q2:p m2) (h0:H z=some (.ins a.l dz (df m1 m2 pace))) (h1:H m1=some (.lst (iv ins))) (h2:H m2=some (.lst (iv outs))):KnP a H p (.ref z) ⟨.drain,ins,outs,pace,kinds⟩:=by
 rw [zf5] at h0;exact wu q0 h0 rfl (.cons (qm q1 h1) (.cons (qm q2 h2) (.cons .int .nil)))
def zbc {k:Int} (q0:p z) (q1:p m1) (q2:p m2) (h0:H z=some (.ins a.o dz (vf m1 m2 k))) (h1:H m1=some (.lst (iv ins))) (h2:H m2=some (.lst (iv outs))):KnP a H p (.ref z) ⟨.sieve,ins,outs,pace,[k]⟩:=by
 rw [zhv] at h0;exact wu q0 h0 rfl (.cons (qm q1 h1) (.cons (qm q2 h2) (.cons .int .nil)))
def WN (q0:p z) (q1:p m1) (q2:p m2) (h0:H z=some (.ins a.m dz (kf m1 m2))) (h1:H m1=some (.lst (iv ins))) (h2:H m2=some (.lst (iv outs))):KnP a H p (.ref z) ⟨.parter,ins,outs,pace,kinds⟩:=by
 rw [XJ] at h0;exact wu q0 h0 rfl (.cons (qm q1 h1) (.cons (qm q2 h2) .nil))
def zbd (q0:p z) (q1:p m1) (q2:p m2) (h0:H z=some (.ins a.n dz (kf m1 m2))) (h1:H m1=some (.lst (iv ins))) (h2:H m2=some (.lst (iv outs))):KnP a H p (.ref z) ⟨.first,ins,outs,pace,kinds⟩:=by
 rw [XJ] at h0;exact wu q0 h0 rfl (.cons (qm q1 h1) (.cons (qm q2 h2) .nil))
def WO (q0:p z) (q1:p m1) (q2:p m2) (h0:H z=some (.ins a.p dz (kf m1 m2))) (h1:H m1=some (.lst (iv ins))) (h2:H m2=some (.lst (iv outs))):KnP a H p (.ref z) ⟨.joiner,ins,outs,pace,kinds⟩:=by
 rw [XJ] at h0;exact wu q0 h0 rfl (.cons (qm q1 h1) (.cons (qm q2 h2) .nil))
end
def BtP (a:Ad) (H:Hp) (p:A5) (v:V) (r:Int × Int):Prop:=Rep H p v (Ji a r)
def BtP.keep {H H':Hp} {p q:A5} {r:Int × Int} (h:BtP a H p v r) (s:∀ b o,p b->H b=some o->q b/\H' b=some o):BtP a H' q v r:=Rep.keep s h
def zjH {rm pc:Int}:bf rm pc=([(("room":Str),V.int rm),(("pace":Str),V.int pc)]:Ar):=by
 unfold bf;simp only [zS];rw [ao (by symm)]
def zhJ {y dx:Addr} {rm pc:Int} (q0:p y) (h0:H y=some (.ins a.i dx (bf rm pc))):BtP a H p (.ref y) (rm,pc):=by
 rw [zjH] at h0;exact wu q0 h0 rfl (.cons .int (.cons .int .nil))
def BtP.inv {r:Int × Int} (h:BtP a H p v r):∃ y dx fs,v=.ref y/\p y/\H y=some (.ins a.i dx fs)/\fs.lookup ("room":Str)=some (.int r.1)/\fs.lookup ("pace":Str)=some (.int r.2):=by
 obtain ⟨y,dx,fs,rfl,py,hy,g1,g2⟩:=Rep.ob' h;obtain ⟨u1,e1,r1⟩:=g1 ("room":Str) _ jp;obtain ⟨u2,e2,r2⟩:=g1 ("pace":Str) _ ((zW (by symm)).trans jp);cases r1;cases r2;exact ⟨y,dx,fs,rfl,py,hy,e1,e2⟩
structure Kns (a:Ad) (H:Hp) (p:A5) (vs:Ap) (rs:At):Prop where
 len:vs.length=rs.length
 g:∀ (i:Nat) v r,vs[i]?=some v->rs[i]?=some r->KnP a H p v r
def Kns.keep {H H':Hp} {p q:A5} {rs:At} (h:Kns a H p vs rs) (s:∀ b o,p b->H b=some o->q b/\H' b=some o):Kns a H' q vs rs:=⟨h.len,λ i v r e1 e2=>(h.g i v r e1 e2).keep s⟩
def Kns.nil:Kns a H p [] []:=⟨rfl,λ i v r h=>by simp at h⟩
def Kns.append {vs us:Ap} {rs qs:At} (h:Kns a H p vs rs) (k:Kns a H p us qs):Kns a H p (vs ++ us) (rs ++ qs):=by
 refine ⟨by rw [aF,aF,h.len,k.len],λ i v r e1 e2=>?_⟩;by_cases hi:i < vs.length
 ·rw [aQ hi] at e1;rw [aQ (by rw [<- h.len];exact hi)] at e2;exact h.g i v r e1 e2
 ·rw [aN (by lia)] at e1;rw [aN (by rw [<- h.len];lia),<- h.len] at e2;exact k.g _ v r e1 e2
def Kns.one {r:Row} (h:KnP a H p v r):Kns a H p [v] [r] :=
 ⟨rfl,λ i u q e1 e2=>by
  have hi:=(aa.mp e1).1;have:i=0:=by simp at hi;lia
  subst this;have e1:v=u:=by simpa using e1
  have e2:r=q:=by simpa using e2
  rw [<- e1,<- e2];exact h⟩
def Kns.at {rs:At} (h:Kns a H p vs rs) (e:vs[i]?=some v):∃ r,rs[i]?=some r/\KnP a H p v r:=by
 have hi:=(aa.mp e).1;have e2:rs[i]?=some (rs[i]'(by rw [<- h.len];exact hi)):=ac _;exact ⟨_,e2,h.g i v _ e e2⟩
structure Bts (a:Ad) (H:Hp) (p:A5) (vs:Ap) (rs:A1):Prop where
 len:vs.length=rs.length
 g:∀ (i:Nat) v r,vs[i]?=some v->rs[i]?=some r->BtP a H p v r
def Bts.keep {H H':Hp} {p q:A5} {rs:A1} (h:Bts a H p vs rs) (s:∀ b o,p b->H b=some o->q b/\H' b=some o):Bts a H' q vs rs:=⟨h.len,λ i v r e1 e2=>(h.g i v r e1 e2).keep s⟩
def Bts.nil:Bts a H p [] []:=⟨rfl,λ i v r h=>by simp at h⟩
def Bts.push {rs:A1} {r:Int × Int} (h:Bts a H p vs rs) (k:BtP a H p v r):Bts a H p (vs ++ [v]) (rs ++ [r]):=by
 refine ⟨by rw [aF,aF,h.len];rfl,λ i u q e1 e2=>?_⟩;by_cases hi:i < vs.length
 ·rw [aQ hi] at e1;rw [aQ (by rw [<- h.len];exact hi)] at e2;exact h.g i u q e1 e2
 ·rw [aN (by lia)] at e1;rw [aN (by rw [<- h.len];lia),<- h.len] at e2;have hj:=(aa.mp e1).1;have:i - vs.length=0:=by simp at hj;lia
  rw [this] at e1 e2;have e1:v=u:=by simpa using e1
  have e2:r=q:=by simpa using e2
  rw [<- e1,<- e2];exact k
def Bts.at {rs:A1} (h:Bts a H p vs rs) (e:vs[i]?=some v):∃ r,rs[i]?=some r/\BtP a H p v r:=by
 have hi:=(aa.mp e).1;have e2:rs[i]?=some (rs[i]'(by rw [<- h.len];exact hi)):=ac _;exact ⟨_,e2,h.g i v _ e e2⟩
abbrev New (H:Hp):Addr->Prop:=λ b=>H b=none
def xP (a:Ad) (wd:Wd):Sp:=λ vs H Q _=>∃ (y:Addr) (r:Row) (p:A5),vs=[.ref y]/\KnP a H p (.ref y) r/\r.wd=wd/\r.ok/\∀ v H',Same H H'->KnP a H' (New H) v r->Q v H'
def Kns.reps {rs:At} (h:Kns a H p vs rs):Reps H p vs (rs.map (Qx a)):=⟨by rw [h.len,ah],λ i v d e1 e2=>by
 rw [ak,am] at e2;obtain ⟨r,e2,rfl⟩:=e2;exact h.g i v r e1 e2⟩
def Bts.reps {rs:A1} (h:Bts a H p vs rs):Reps H p vs (rs.map (Ji a)):=⟨by rw [h.len,ah],λ i v d e1 e2=>by
 rw [ak,am] at e2;obtain ⟨r,e2,rfl⟩:=e2;exact h.g i v r e1 e2⟩
def Kns.of {rs:At} (h:Reps H p vs (rs.map (Qx a))):Kns a H p vs rs:=⟨by rw [h.len,ah],λ i v r e1 e2=>h.g i v _ e1 (by rw [ak,e2];rfl)⟩
def Bts.of {rs:A1} (h:Reps H p vs (rs.map (Ji a))):Bts a H p vs rs:=⟨by rw [h.len,ah],λ i v r e1 e2=>h.g i v _ e1 (by rw [ak,e2];rfl)⟩
def Jt (T:Txt K mg a):MCal P w K mg base a.k "copied" 4 ["self"] [] (xP a .source):=T.kq.cal T.hX λ F=>by
 refine F.okx QG ?_ ?_
 ·walk_at "i"
 walk_at "k";refine oE3 h λ y o8 p oi=>oA5 oi λ ou hK hw hok k=>?_;clear oi h;obtain ⟨wd,ins,outs,pace,kinds⟩:=o8;subst ou;cases hw;have hK0:=hK;refine oE6 hK.inv λ y' dx l1 l2 l3 fs o8=>oA9 o8 λ e p0 p1 p2 p3 h0 e1 e2 oi=>oA5 oi λ e3 h1 h2 h3 h4=>?_;clear o8 oi;cases e;obtain ⟨hk,hk'⟩:=h3 rfl;have hp:=h4 (.inl rfl);refine oA7 hok λ q1 o8 q3 q4 q5 q6 q7=>?_;clear hok;obtain ⟨ov,q2⟩:=o8;simp only at q1 q2;subst q1 q2;walk_at "T";refine ⟨_,(zd (zk (qW (x:="Source") ⟨rfl,rfl,rfl⟩ hr (za (zr (zm (pq 0) rfl) ze) (za (zm (pq 0) rfl) (za (zm (pq 0) rfl) zb)))))),?_⟩;exists iE4 a.k _ _ _ ⟨(zbh T).mono,iE5 y a.k dx fs _ (iA6 rfl h0 T.hX T.iB e2 (zt (SqL.of h2) at0 ?_))⟩;refine ra h0 T.hX T.ii hp ?_;refine ra h0 T.hX T.ic hk ?_;intro z dz hz hdz hne;refine iE6 z dz l3 (.int ov) pace kinds (iA6 rfl oB (SqL.of (qD hz hdz hk')) (oE hk' hz) (λ _ H' m1 m2 m3 s' g1 g2 g3 g4 n1 n2 n3=>⟨rfl,?_⟩) (λ hbad=>absurd (iA5 q3 q4 q5 q6 q7) hbad));exact k _ _ (Own.of_new hz hdz s') (WM (p:=New H) (ins:=[]) (outs:=[ov]) hz (zP n1) (zP n2) (zP n3) g1 g2 g3 g4)
def XE (T:Txt K mg a):MCal P w K mg base a.l "copied" 4 ["self"] [] (xP a .drain):=T.kP.cal T.ik λ F=>by
 refine F.okx Jr ?_ ?_
 ·walk_at "i"
 walk_at "k";refine oE3 h λ y o8 p oi=>oA5 oi λ ou hK hw hok k=>?_;clear oi h;obtain ⟨wd,ins,outs,pace,kinds⟩:=o8;subst ou;cases hw;have hK0:=hK;refine oE6 hK.inv λ y' dx l1 l2 l3 fs o8=>oA9 o8 λ e p0 p1 p2 p3 h0 e1 e2 oi=>oA5 oi λ e3 h1 h2 h3 h4=>?_;clear o8 oi;cases e;have hp:=h4 (.inr rfl);refine oA4 hok λ o8 q2 q3 q4=>?_;clear hok;obtain ⟨iv',q1⟩:=o8;simp only at q1 q2;subst q1 q2;walk_at "T";refine ⟨_,(zd (zk (qW (x:="Drain") ⟨rfl,rfl,rfl⟩ hr (za (zr (zm (pq 0) rfl) ze) (za (zm (pq 0) rfl) zb))))),?_⟩;exists iE4 a.l _ _ _ ⟨(zc5 T).mono,iE5 y a.l dx fs _ (iA6 rfl h0 T.ik T.iR e1 (zt (SqL.of h1) at0 ?_))⟩;refine ra h0 T.ik T.ie hp ?_;intro z dz hz hdz hne;refine iE4 z dz (.int iv') pace (iA3 rfl oB ?_);rw [ap ⟨q3,q4⟩];intro H' m1 m2 s' g1 g2 g3 n1 n2;exact ⟨rfl,k _ _ (Own.of_new hz hdz s') (zbe (p:=New H) (ins:=[iv']) (outs:=[]) hz (zP n1) (zP n2) g1 g2 g3)⟩
def Jv (T:Txt K mg a):MCal P w K mg base a.m "copied" 4 ["self"] [] (xP a .parter):=T.ku.cal T.ir λ F=>by
 refine F.okx QI ?_ ?_
 ·walk_at "i"
 walk_at "k";refine oE3 h λ y o8 p oi=>oA5 oi λ ou hK hw hok k=>?_;clear oi h;obtain ⟨wd,ins,outs,pace,kinds⟩:=o8;subst ou;cases hw;have hK0:=hK;refine oE6 hK.inv λ y' dx l1 l2 l3 fs o8=>oA9 o8 λ e p0 p1 p2 p3 h0 e1 e2 oi=>oA5 oi λ e3 h1 h2 h3 h4=>?_;clear o8 oi;cases e;obtain ⟨⟨iv',q1⟩,q3,q4⟩:=hok;simp only at q1 q3 q4;subst q1;walk_at "T";refine ⟨_,(zd (zk (qW (x:="Parter") ⟨rfl,rfl,rfl⟩ hr (za (zr (zm (pq 0) rfl) ze) (za (zm (pq 0) rfl) zb))))),?_⟩;exists iE4 a.m _ _ _ ⟨(zbi T).mono,iE5 y a.m dx fs _ (iA6 rfl h0 T.ir T.iH e1 (zt (SqL.of h1) at0 ?_))⟩;refine ra h0 T.ir T.ij e2 ?_;intro z dz hz hdz hne;refine iE5 z dz l2 (.int iv') (iv outs) (iA5 rfl oB (SqL.of (qD hz hdz h2)) (oE h2 hz) ?_);rw [ap (by rw [iv,ah];exact ⟨q3,q4⟩)];intro H' m1 m2 s' g1 g2 g3 n1 n2;exact ⟨rfl,k _ _ (Own.of_new hz hdz s') (WN (p:=New H) (ins:=[iv']) (outs:=outs) hz (zP n1) (zP n2) g1 g2 g3)⟩
def vZ (T:Txt K mg a):MCal P w K mg base a.n "copied" 4 ["self"] [] (xP a .first):=T.iJ.cal T.hW λ F=>by
 refine F.okx vG ?_ ?_
 ·walk_at "i"
 walk_at "k";refine oE3 h λ y o8 p oi=>oA5 oi λ ou hK hw hok k=>?_;clear oi h;obtain ⟨wd,ins,outs,pace,kinds⟩:=o8;subst ou;cases hw;have hK0:=hK;refine oE6 hK.inv λ y' dx l1 l2 l3 fs o8=>oA9 o8 λ e p0 p1 p2 p3 h0 e1 e2 oi=>oA5 oi λ e3 h1 h2 h3 h4=>?_;clear o8 oi;cases e;obtain ⟨⟨iv',q1⟩,q3,q4⟩:=hok;simp only at q1 q3 q4;subst q1;walk_at "T";refine ⟨_,(zd (zk (qW (x:="FirstParter") ⟨rfl,rfl,rfl⟩ hr (za (zr (zm (pq 0) rfl) ze) (za (zm (pq 0) rfl) zb))))),?_⟩;exists iE4 a.n _ _ _ ⟨(ZG T).mono,iE5 y a.n dx fs _ (iA6 rfl h0 T.hW T.ib e1 (zt (SqL.of h1) at0 ?_))⟩;refine ra h0 T.hW T.ia e2 ?_;intro z dz hz hdz hne;refine iE5 z dz l2 (.int iv') (iv outs) (iA5 rfl oB (SqL.of (qD hz hdz h2)) (oE h2 hz) ?_);rw [ap (by rw [iv,ah];exact ⟨q3,q4⟩)];intro H' m1 m2 s' g1 g2 g3 n1 n2;exact ⟨rfl,k _ _ (Own.of_new hz hdz s') (zbd (p:=New H) (ins:=[iv']) (outs:=outs) hz (zP n1) (zP n2) g1 g2 g3)⟩
def XA (T:Txt K mg a):MCal P w K mg base a.o "copied" 4 ["self"] [] (xP a .sieve):=T.kS.cal T.ig λ F=>by
 refine F.okx Jo ?_ ?_
 ·walk_at "i"
 walk_at "k";refine oE3 h λ y o8 p oi=>oA5 oi λ ou hK hw hok k=>?_;clear oi h;obtain ⟨wd,ins,outs,pace,kinds⟩:=o8;subst ou;cases hw;have hK0:=hK;refine oE6 hK.inv λ y' dx l1 l2 l3 fs o8=>oA9 o8 λ e p0 p1 p2 p3 h0 e1 e2 oi=>oA5 oi λ e3 h1 h2 h3 h4=>?_;clear o8 oi;cases e;refine oA3 hok λ o8 q3 oi=>oE1 oi λ kk ou=>oA3 ou λ q4 q5 q6=>?_;clear oi ou hok;obtain ⟨iv',q1⟩:=o8;simp only at q1 q3 q4;subst q1 q4;walk_at "T";refine ⟨_,(zd (zk (qW (x:="Sieve") ⟨rfl,rfl,rfl⟩ hr (za (zr (zm (pq 0) rfl) ze) (za (zm (pq 0) rfl) (za (zm (pq 0) rfl) zb)))))),?_⟩;exists iE4 a.o _ _ _ ⟨(zc4 T).mono,iE5 y a.o dx fs _ (iA6 rfl h0 T.ig T.iS e1 (zt (SqL.of h1) at0 ?_))⟩;refine ra h0 T.ig T.iL e2 ?_;refine zgI hK0 T.ig T.iK (zfK rfl rfl) λ u ru=>?_;cases ru;intro z dz hz hdz hne;refine iE6 z dz l2 (.int iv') (iv outs) kk (iA5 rfl oB (SqL.of (qD hz hdz h2)) (oE h2 hz) ?_);rw [ap (by rw [iv,ah];exact ⟨q3,q5,q6⟩)];intro H' m1 m2 s' g1 g2 g3 n1 n2;exact ⟨rfl,k _ _ (Own.of_new hz hdz s') (zbc (p:=New H) (ins:=[iv']) (outs:=outs) hz (zP n1) (zP n2) g1 g2 g3)⟩
def Jx (T:Txt K mg a):MCal P w K mg base a.p "copied" 4 ["self"] [] (xP a .joiner):=T.ky.cal T.iu λ F=>by
 refine F.okx QK ?_ ?_
 ·walk_at "i"
 walk_at "k";refine oE3 h λ y o8 p oi=>oA5 oi λ ou hK hw hok k=>?_;clear oi h;obtain ⟨wd,ins,outs,pace,kinds⟩:=o8;subst ou;cases hw;have hK0:=hK;refine oE6 hK.inv λ y' dx l1 l2 l3 fs o8=>oA9 o8 λ e p0 p1 p2 p3 h0 e1 e2 oi=>oA5 oi λ e3 h1 h2 h3 h4=>?_;clear o8 oi;cases e;obtain ⟨⟨ov,q1⟩,q3,q4⟩:=hok;simp only at q1 q3 q4;subst q1;walk_at "T";refine ⟨_,(zd (zk (qW (x:="Joiner") ⟨rfl,rfl,rfl⟩ hr (za (zm (pq 0) rfl) (za (zr (zm (pq 0) rfl) ze) zb))))),?_⟩;exists iE4 a.p _ _ _ ⟨(zbj T).mono,iE5 y a.p dx fs _ (iA6 rfl h0 T.iu T.iw e1 ?_)⟩;refine ra h0 T.iu T.iC e2 (zt (SqL.of h2) at0 ?_);intro z dz hz hdz hne;refine iE5 z dz l1 (.int ov) (iv ins) (iA5 rfl oB (SqL.of (qD hz hdz h1)) (oE h1 hz) ?_);rw [ap (by rw [iv,ah];exact ⟨q3,q4⟩)];intro H' m1 m2 s' g1 g2 g3 n1 n2;exact ⟨rfl,k _ _ (Own.of_new hz hdz s') (WO (p:=New H) (ins:=ins) (outs:=[ov]) hz (zP n1) (zP n2) g1 g2 g3)⟩
def CT (T:Txt K mg a) (wd:Wd):Cls K (wM a wd):=by
 cases wd
 ·exact T.hX
 ·exact T.ik
 ·exact T.ir
 ·exact T.hW
 ·exact T.ig
 ·exact T.iu
def NI (T:Txt K mg a) (wd:Wd):NoAttr K (wM a wd) "ins":=by
 cases wd
 ·exact T.i6
 ·exact T.iR
 ·exact T.iH
 ·exact T.ib
 ·exact T.iS
 ·exact T.iw
def NO (T:Txt K mg a) (wd:Wd):NoAttr K (wM a wd) "outs":=by
 cases wd
 ·exact T.iB
 ·exact T.i7
 ·exact T.ij
 ·exact T.ia
 ·exact T.iL
 ·exact T.iC
def WT (T:Txt K mg a) (wd:Wd):WI K (wM a wd):=by
 cases wd
 ·exact T.nI
 ·exact T.nV
 ·exact T.nJ
 ·exact T.lE
 ·exact T.nW
 ·exact T.nK
def zfC (T:Txt K mg a) (wd:Wd):MCal P w K mg base (wM a wd) "copied" 4 ["self"] [] (xP a wd):=by
 cases wd
 ·exact Jt T
 ·exact XE T
 ·exact Jv T
 ·exact vZ T
 ·exact XA T
 ·exact Jx T
theorem WA:∀ (xs ys:A6),xs.Perm ys->xs.Pairwise (·<=·)->ys.Pairwise (·<=·)->xs=ys
 | [],ys,h,_,_=>(List.nil_perm.mp h).symm
 | x :: xs,[],h,_,_=>absurd h.length_eq (by simp)
 | x :: xs,y :: ys,h,hx,hy=>by
  have e:x=y:=by
   have h1:y∈x :: xs:=h.mem_iff.mpr (by simp);have h2:x∈y :: ys:=h.mem_iff.mp (by simp);rcases ar.mp h1 with e|m1
   ·exact e.symm
   rcases ar.mp h2 with e|m2
   ·exact e
   have:=(cX.mp hx).1 y m1;have:=(cX.mp hy).1 x m2
   lia
  subst e;rw [WA xs ys h.cons_inv (cX.mp hx).2 (cX.mp hy).2]
noncomputable def rgI (n:Nat):List Int:=(List.range n).map λ (i:Nat)=>(i:Int)
def zb4 (n:Nat):(rgI n).Pairwise (·<=·):=by
 unfold rgI;rw [List.pairwise_map];exact List.pairwise_lt_range.imp λ {i j} h=>by lia
def zgG (n:Nat):rgL 0 n=iv (rgI n):=by
 simp [rgL,iv,rgI,dJ,de]
theorem ZN:∀ ms ns:List Int,xQ (iv ms) (iv ns)=decide (ms=ns)
 | [],[]=>rfl
 | [],_ :: _=>rfl
 | _ :: _,[]=>rfl
 | m :: ms,n :: ns=>by
  show (eqV (.int m) (.int n) && xQ (iv ms) (iv ns))=_
  rw [ZN ms ns];by_cases e:m=n
  ·subst e;simp [eqV]
  ·simp [eqV,e]
def Qw (ns:A6):(iv ns).all xk=true:=bS.mpr λ x hx=>by
 obtain ⟨n,_,rfl⟩:=aO.mp hx
 rfl
def zgH {Q:VK} {p q:Addr} {ms ns:A6} (h1:SqL K H p (iv ms)) (h2:SqL K H q (iv ns)) (k:Q (.bl (!decide (ms=ns))) H):VH K (.ref p) (.ref q) H Q :=
 .inr (.inl ⟨p,q,iv ms,iv ns,rfl,rfl,.inl ⟨h1,h2⟩,Qw ms,Qw ns,by rw [ZN];exact k⟩)
def zau (K:A0) (a:Ad):Sp:=λ vs H Q E=>∃ (bl kl:Addr) (xs ys:Ap),vs=[.ref bl,.ref kl]/\SqL K H bl xs/\SqL K H kl ys/\if (1<=xs.length/\xs.length<=24)/\1<=ys.length/\ys.length<=24 then Q .non H else E (.ref a.f) none H
def zab (T:Txt K mg a):Cal P w K mg base "check_size" 1 ["belts","knots"] [] (zau K a):=T.lT.cal λ F=>by
 refine F.okx Wb ?_ ?_
 ·walk_at "i"
 walk_at "k";obtain ⟨bl,kl,xs,ys,rfl,h1,h2,k⟩:=h;obtain ⟨t1,g1⟩:=T.l7;obtain ⟨t2,g2⟩:=T.l8;walk_at "T";refine ⟨_,(zh (zF (jv (jR xj xj ze (qb qa z9 (za (pq 0) zb)) xi))  (zd (jm ⟨rfl,rfl,rfl⟩ rfl (za zO zb)))  zp)  (zd (zF (jv (jR xj xj ze (qb qa z9 (za (pq 1) zb)) xi))  (zd (jm ⟨rfl,rfl,rfl⟩ rfl (za zO zb)))  zp))),?_⟩;left;have bad:¬ ((1<=xs.length/\xs.length<=24)/\1<=ys.length/\ys.length<=24)->∃ C,mg "BadWork"=some (Value.ref C)/\XC K C/\E (Value.ref C) none H:=λ h=>by
  rw [ao h] at k;exact ⟨a.f,T.lV,T.l9,k⟩
 refine ⟨_,.inl ⟨_,h1,rfl⟩,?_⟩;exists zT (λ b1=>?_) (λ b1=>bad (by lia));refine ⟨.int 24,_,g1,⟨_,rfl⟩,?_⟩;exists zT (λ b2=>?_) (λ b2=>bad (by lia));exists ⟨_,.inl ⟨_,h2,rfl⟩,?_⟩;exists zT (λ b3=>?_) (λ b3=>bad (by lia));refine ⟨.int 24,_,g2,⟨_,rfl⟩,?_⟩;exists zT (λ b4=>?_) (λ b4=>bad (by lia));rw [ap (by lia)] at k;left;exact k
def zbR (K:A0) (a:Ad):Sp:=λ vs H Q E=>∃ (l:Addr) (ns:A6) (n:Nat),vs=[.ref l,.int n]/\SqL K H l (iv ns)/\ns.length < 64/\n<=1000/\(ns.Perm (rgI n)->∀ H',Same H H'->Q .non H')/\(¬ ns.Perm (rgI n)->∀ H',Same H H'->E (.ref a.f) none H')
def wo (T:Txt K mg a):Cal P w K mg base "check_each_once" 1 ["named","size"] [] (zbR K a):=T.iV.cal λ F=>by
 refine F.okx ZO ?_ ?_
 ·walk_at "i"
 walk_at "k";obtain ⟨l,ns,n,rfl,hl,h64,hn,kok,kbad⟩:=h;walk_at "T";refine ⟨_,(zd (zF (zl (ZD hr.units1) (qb zeF zeE (za (pq 0) zb)) (wG (zgg rfl) vA (za (zic (za (pq 1) zb)) zb)) (zq _))  (zd (jm ⟨rfl,rfl,rfl⟩ rfl (za zO zb)))  zp)),?_⟩;exists ⟨l,ns,rfl,hl,h64,λ ms q1 hp hs hq1=>?_⟩;left;intro q2 hq2;refine ⟨q2,0,n,rfl,oB,⟨by lia,by lia,by lia,by lia,by lia⟩,λ q3 hq3=>?_⟩;rw [show ((n:Int) - 0).toNat=n by lia,zgG];left;have sm:Same H (upd (upd (upd H q1 (.lst (iv ms))) q2 (.rng 0 n)) q3 (.lst (iv (rgI n)))):=(zf hq1).trans ((zf hq2).trans (zf hq3));refine zgH (ms:=ms) (ns:=rgI n) (SqL.of (oF (oF oB hq2) hq3)) (SqL.of oB) ?_;exists zT (λ b1=>?_) (λ b1=>?_)
 ·refine ⟨a.f,T.lV,T.l9,kbad (λ z=>b1 (WA _ _ (hp.trans z) hs (zb4 n))) _ sm⟩
 ·exists kok ?_ _ sm;have e:ms=rgI n:=gd b1;rw [<- e];exact hp.symm
noncomputable def xB (rs:At):List Int:=rs.flatMap Row.outs
noncomputable def qM (rs:At):List Int:=rs.flatMap Row.ins
noncomputable def wf (l1 l2:Addr):List (Str × V):=zS "knots" (.ref l2) (zS "belts" (.ref l1) [])
def zY (bs:A1) (rs:At):Prop:=((1<=bs.length/\bs.length<=24)/\1<=rs.length/\rs.length<=24)/\(xB rs).Perm (rgI bs.length)/\(qM rs).Perm (rgI bs.length)
def JY (K:A0) (a:Ad):Sp:=λ vs H Q E=>∃ (y dx bl kl:Addr) (bvs om:Ap) (bs:A1) (rs:At) (p:A5),vs=[.ref y,.ref bl,.ref kl]/\H y=some (.ins a.r dx [])/\bl≠y/\kl≠y/\(∀ b,p b->b≠y) /\
 H bl=some (.lst bvs)/\H kl=some (.lst om)/\Bts a H p bvs bs/\Kns a H p om rs/\(∀ b∈bs,zH b.1 b.2)/\(∀ r∈rs,r.ok)/\(xB rs).length < 64/\(qM rs).length < 64/\bs.length<=1000 /\
 (zY bs rs->∀ H' l1 l2 bvs' kvs',Own H H' y->H' y=some (.ins a.r dx (wf l1 l2))->H' l1=some (.lst bvs')->H' l2=some (.lst kvs')->Bts a H' (New H) bvs' bs->Kns a H' (New H) kvs' rs->H l1=none->H l2=none->Q .non H') /\
 (¬ zY bs rs->∀ H',Same H H'->E (.ref a.f) none H')
def zcA {rs:At} {r:Row} (h:rs[i]?=some r):xB (rs.take (i + 1))=xB (rs.take i) ++ r.outs:=by
 unfold xB;rw [aH,h,fS];simp
def Vl {rs:At} {r:Row} (h:rs[i]?=some r):qM (rs.take (i + 1))=qM (rs.take i) ++ r.ins:=by
 unfold qM;rw [aH,h,fS];simp
def xH (f:Row->List Int) (rs:At) (i:Nat):((rs.take i).flatMap f).length<=(rs.flatMap f).length:=by
 conv=>rhs;rw [<- eV i rs,fS,aF]
 lia
def zcq (xs ys:A6):iv xs ++ iv ys=iv (xs ++ ys):=by rw [iv,iv,iv,aV]
def VR (T:Txt K mg a) (F:Fun K "__init__" "Work.__init__" jH f fd):FnOk P w K mg base (CXr P w) 5 f fd ["self","belts","knots"] (JY K a):=by
 refine F.okx VB ?_ ?_
 ·walk_at "i"
 walk_at "k";refine oE5 h λ y dx bl kl bvs o8=>oE4 o8 λ om bs rs p oi=>oA9 oi λ ou hy nby nky hpy hb hk hB oz=>oA8 oz λ hKs hbo hro h64 h64' hlb kok kbad=>?_;clear o8 oi oz h;subst ou;walk_at "T";refine ⟨_,(zi (zG ‹(pq 1) (za (pq 2) zb)›)  (zi (zu 3 VB.nd (zL zb))  (zi (zu 4 VB.nd (zL zb))  (zi (qB qX rfl (qo (pq 2)) (qp 5 VB.nd)  (zi (zG (qC aq fu ft WF (pq 3) (za (zm (pq 5) rfl) zb)))  (zd (zG (qC aq fu ft WF (pq 4) (za (zm (pq 5) rfl) zb))))))  (zi (zG ‹(pq 3) (za (qb qa z9 (za (pq 1) zb)) zb)›)  (zi (zG ‹(pq 4) (za (qb qa z9 (za (pq 1) zb)) zb)›)  (zi (qZ (pq 0) (jI (vars:=["belt"]) (caps:=[]) (N:=["belt"]) (ON:=["self","belts","knots","fed","taken","knot"]) (osc:=zg jH) rfl rfl (by right) rfl rfl (qo (pq 1)) (λ _ _ _ _=>(qp 0 (show (["belt"]:A8).Nodup from by symm))) (λ _ _ _ _=>ql) (λ _ _ _ _=>(zie (x:="Belt") hr (za (zm (pq 0) rfl) (za (zm (pq 0) rfl) zb))))) rfl)  (zd (qZ (pq 0) (jI (vars:=["knot"]) (caps:=[]) (N:=["knot"]) (ON:=["self","belts","knots","fed","taken","knot"]) (osc:=zg jH) rfl rfl (by right) rfl rfl (qo (pq 2)) (λ _ _ _ _=>(qp 0 (show (["knot"]:A8).Nodup from by symm))) (λ _ _ _ _=>ql) (λ _ _ _ _=>(zfo hr (pq 0)))) rfl))))))))),?_⟩;exists uc (zab T).mono (iE4 bl kl bvs om (iA4 rfl (SqL.of hb) (SqL.of hk) (zT (λ b1=>?_) (λ b1=>?_))))
 rotate_left
 ·refine kbad (λ z=>b1 ?_) H (Same.refl _);rw [hB.len,hKs.len];exact z.1
 rw [hB.len,hKs.len] at b1;left;intro fl hfl;left;intro tl htl;have nft:fl≠tl:=oE oB htl;have htl0:H tl=none:=zI htl;walk_at "e";left;have s2:Same H (upd (upd H fl (.lst [])) tl (.lst [])):=(zf hfl).trans (zf htl);refine ⟨kl,rfl,.inl ⟨⟨_,SqL.of (s2 _ _ hk)⟩,?_⟩⟩;let ow:Nat->St->Hp->Prop:=λ i σ H'=>∃ v5,σ=[some (.ref y),some (.ref bl),some (.ref kl),some (.ref fl),some (.ref tl),v5]/\Same H H'/\H' fl=some (.lst (iv (xB (rs.take i))))/\H' tl=some (.lst (iv (qM (rs.take i))));refine qK (K:=K) (a:=kl) (xs:=om) ow ⟨_,iA4 rfl s2 (oF oB htl) oB⟩ (λ i σ H' _ ⟨_,_,s,_⟩=>SqL.of (s _ _ hk)) ?_ ?_
 ·intro i x σ H' hi oj;refine oE1 oj λ v5 o8=>oA4 o8 λ oi s3 e1 e2=>?_;ext;obtain ⟨r,hr',hKn0⟩:=hKs.at hi;refine oE6 hKn0.inv λ y1 dx1 l1 l2 l3 fs o8=>oA9 o8 λ oi p0 p1 p2 p3 h0 f1 f2 ou=>oA5 ou λ f3 h1 h2 h3 h4=>?_;clear o8 ou;subst oi;have L1:=xH Row.outs rs i;have L2':=xH Row.ins rs i;have L3:=xH Row.outs rs (i + 1);have L4:=xH Row.ins rs (i + 1);have E1:=zcA hr';have E2:=Vl hr';have n1:∀ {b:Addr} {o:HO},H b=some o->b≠fl:=λ h=>oE h hfl;have n2:∀ {b:Addr} {o:HO},H b=some o->b≠tl:=λ h=>oE h htl0;exists ⟨.inl ⟨rfl,_,SqL.of e1⟩,iE5 y1 (wM a r.wd) dx1 fs _ (iA6 rfl (s3 _ _ h0) (CT T _) (NO T _) f2 ?_)⟩;refine iE4 fl l2 _ _ (iA6 rfl rfl e1 (s3 _ _ h2) ?_ ?_)
  ·refine bU (zn ?_);have:=bh List.length E1;rw [aF] at this;rw [iv,iv,ah,ah];unfold xB at this h64 ⊢
   lia
  left;have e2':upd H' fl (.lst (iv (xB (rs.take i)) ++ iv r.outs)) tl=some (.lst (iv (qM (rs.take i)))):=by rw [oC (a7 nft)];exact e2
  refine ⟨.inl ⟨rfl,_,SqL.of e2'⟩,iE5 y1 (wM a r.wd) dx1 fs _ (iA6 rfl ?_ (CT T _) (NI T _) f1 ?_)⟩
  ·rw [oC (n1 h0)];exact s3 _ _ h0
  refine iE4 tl l1 _ (iv r.ins) (iA6 rfl rfl e2' ?_ ?_ ?_)
  ·rw [oC (n1 h1)];exact s3 _ _ h1
  ·refine bU (zn ?_);have:=bh List.length E2;rw [aF] at this;rw [iv,iv,ah,ah];unfold qM at this h64' ⊢
   lia
  refine ⟨_,iA4 rfl (λ b o hb=>?_) ?_ ?_⟩
  ·rw [oC (n2 hb),oC (n1 hb)];exact s3 _ _ hb
  ·rw [oC nft,oB,E1,zcq]
  ·rw [oB,E2,zcq]
 ·intro σ H1 oj;refine oE1 oj λ v5 o8=>oA4 o8 λ oi s3 e1 e2=>?_;ext;rw [hKs.len,aM] at e1 e2;exists uc (wo T).mono ⟨io,⟨_,⟨.inl ⟨_,SqL.of (s3 _ _ hb),rfl⟩,?_⟩⟩⟩;rw [hB.len];refine iE3 fl (xB rs) bs.length (iA6 rfl (SqL.of e1) h64 hlb (λ g1 H2 s4=>?_) (λ g1 H2 s4=>kbad (λ z=>g1 z.2.1) _ (s3.trans s4)));exists uc (wo T).mono ⟨io,⟨_,⟨.inl ⟨_,SqL.of (s4 _ _ (s3 _ _ hb)),rfl⟩,?_⟩⟩⟩;rw [hB.len];refine iE3 tl (qM rs) bs.length (iA6 rfl (SqL.of (s4 _ _ e2)) h64' hlb (λ g2 H3 s5=>?_) (λ g2 H3 s5=>kbad (λ z=>g2 z.2.2) _ (s3.trans (s4.trans s5))));have kok:=kok ⟨b1,g1,g2⟩;have s6:=s3.trans (s4.trans s5);clear s3 s4 s5 e1 e2;clear g1 g2;left;walk_at "d";exists ⟨bl,rfl,.inl ⟨⟨_,SqL.of (s6 _ _ hb)⟩,λ _ _ _ _ oq hacc=>?_⟩⟩;have nacc:H oq=none:=zw s6 hacc;let oy:Nat->St->Hp->Prop:=λ i σ H'=>∃ v us,σ=[v]/\Same H3 H'/\H' oq=some (.lst us)/\Bts a H' (λ b=>H3 b=none/\b≠oq) us (bs.take i);refine qK (K:=K) (a:=bl) (xs:=bvs) oy (iE2 _ ([]) (iA4 rfl (zf hacc) oB (by rw [bJ];exact .nil))) (λ i σ H' _ ⟨_,_,_,s,_⟩=>SqL.of (s _ _ (s6 _ _ hb))) ?_ ?_
  ·intro i x σ H' hi oj;refine oE2 oj λ v us o8=>oA4 o8 λ oi s7 e1 hU=>?_;ext;obtain ⟨⟨rm,pc⟩,hr',hBt0⟩:=hB.at hi;refine oE3 hBt0.inv λ y1 dx1 fs o8=>oA5 o8 λ oi p0 h0 f1 f2=>?_;clear o8;subst oi;have hok:=hbo _ (af hr');have hil:i < bs.length:=(aa.mp hr').1;have h0':=s7 _ _ (s6 _ _ h0);exists iE4 a.i _ _ _ ⟨(zfM T).mono,iE5 y1 a.i dx1 fs _ (iA6 rfl h0' T.iz T.iQ f1 (iE5 y1 a.i dx1 fs _ (iA6 rfl h0' T.iz T.iA f2 ?_)))⟩;intro z dz hz hdz hne;refine iE4 z dz rm pc (iA3 rfl oB ?_);rw [ap hok,Zj];have sN:Same H' (upd (upd H' dz (.own z)) z (.ins a.i dz (bf rm pc))):=λ b o h=>by rw [oC (oE h hz),oC (oE h hdz)];exact h
   have hz':upd (upd H' dz (.own z)) z (.ins a.i dz (bf rm pc)) z=some (.ins a.i dz (bf rm pc)):=oB;generalize upd (upd H' dz (.own z)) z (.ins a.i dz (bf rm pc))=H4 at sN hz' ⊢;have hzn:z≠oq:=λ q=>by rw [q,e1] at hz;cases hz
   refine ⟨rfl,⟨_,iA3 (sN _ _ e1) (zn (by have:=hU.len;rw [aJ] at this;lia)) (iE2 _ (us ++ [.ref z]) (iA4 rfl (λ b o hb=>?_) oB ?_))⟩⟩
   ·rw [oC (oE hb hacc)];exact sN _ _ (s7 _ _ hb)
   ·rw [aH,hr'];refine Bts.push (hU.keep λ b o hp hb=>⟨hp,by rw [oC hp.2];exact sN _ _ hb⟩) (zhJ (p:=λ b=>H3 b=none/\b≠oq) ⟨zw s7 hz,hzn⟩ (by rw [oC hzn];exact hz'))
  ·intro σ H4 oj;refine oE2 oj λ v us o8=>oA4 o8 λ oi s7 e1 hU=>?_;ext;rw [hB.len,aM] at hU;have s8:=s6.trans s7;have nacy:oq≠y:=(oE hy nacc).symm;exists iE4 y a.r dx ([]) (iA6 rfl (s8 _ _ hy) T.gX T.iy (by decide) ?_);have o9:Own H (upd H4 y (.ins a.r dx (zS "belts" (.ref oq) []))) y:=(Same.own s8).trans jB;have hy9:upd H4 y (.ins a.r dx (zS "belts" (.ref oq) [])) y=some (.ins a.r dx (zS "belts" (.ref oq) [])):=oB;have e9:upd H4 y (.ins a.r dx (zS "belts" (.ref oq) [])) oq=some (.lst us):=by rw [oC nacy];exact e1
   have hU9:Bts a (upd H4 y (.ins a.r dx (zS "belts" (.ref oq) []))) (λ b=>H b=none/\b≠y) us bs:=hU.keep λ b o hp hb=>by
    have q1:H b=none:=zw s6 hp.1;have q2:b≠y:=(oE hy q1).symm;exact ⟨⟨q1,q2⟩,by rw [oC q2];exact hb⟩
   generalize upd H4 y (.ins a.r dx (zS "belts" (.ref oq) []))=H5 at o9 hy9 e9 hU9 ⊢;left;walk_at "d";exists ⟨kl,rfl,.inl ⟨⟨_,SqL.of (o9 _ _ nky hk)⟩,λ _ _ _ _ ac2 hac2=>?_⟩⟩;let oA:Nat->St->Hp->Prop:=λ i σ H'=>∃ v us2,σ=[v]/\Same H5 H'/\H' ac2=some (.lst us2)/\Kns a H' (λ b=>H5 b=none/\b≠ac2) us2 (rs.take i);refine qK (K:=K) (a:=kl) (xs:=om) oA (iE2 _ ([]) (iA4 rfl (zf hac2) oB (by rw [bJ];exact .nil))) (λ i σ H' _ ⟨_,_,_,s,_⟩=>SqL.of (s _ _ (o9 _ _ nky hk))) ?_ ?_
   ·intro i x σ H' hi oj;refine oE2 oj λ v us2 o8=>oA4 o8 λ oi s10 e2 hV=>?_;ext;obtain ⟨r,hr',hKn⟩:=hKs.at hi;have hok:=hro _ (af hr');have hil:i < rs.length:=(aa.mp hr').1;have hKn':KnP a H' p x r:=hKn.keep λ b o hp hb=>⟨hp,s10 _ _ (o9 _ _ (hpy b hp) hb)⟩;refine oE6 hKn'.inv λ y1 dx1 l1 l2 l3 fs o8=>oA9 o8 λ oi p0 p1 p2 p3 h0 f1 f2 ou=>oA5 ou λ f3 h1 h2 h3 h4=>?_;clear o8 ou;subst oi;exists iE7 y1 (wM a r.wd) dx1 fs _ _ _ (iA5 rfl h0 f3 ((zfC T r.wd).mono) ?_);refine iE3 y1 r p (iA5 rfl hKn' rfl hok (λ v' H6 s11 hN=>?_));refine ⟨_,iA3 (s11 _ _ e2) (zn (by have:=hV.len;rw [aJ] at this;lia)) (iE2 _ (us2 ++ [v']) (iA4 rfl (λ b o hb=>?_) oB ?_))⟩
    ·rw [oC (oE hb hac2)];exact s11 _ _ (s10 _ _ hb)
    ·rw [aH,hr'];refine Kns.append (hV.keep λ b o hp hb=>⟨hp,by rw [oC hp.2];exact s11 _ _ hb⟩) (Kns.one (hN.keep λ b o hp hb=>?_));have q2:b≠ac2:=λ z=>by rw [z] at hp;rw [New,e2] at hp;cases hp
     exact ⟨⟨zw s10 hp,q2⟩,by rw [oC q2];exact hb⟩
   ·intro σ H6 oj;refine oE2 oj λ v us2 o8=>oA4 o8 λ oi s10 e2 hV=>?_;ext;rw [hKs.len,aM] at hV;have hy10:=s10 _ _ hy9;exists iE4 y a.r dx _ (iA6 rfl hy10 T.gX T.gU (by show 1 < 1000;decide) ?_);have n2y:ac2≠y:=λ z=>by rw [z,hy9] at hac2;cases hac2
    have ho:∀ b,H5 b=none->b≠y->H b=none:=λ b h1 h2=>by
     cases e:H b with
     | none=>rfl
     | some o=>rw [o9 b o h2 e] at h1;cases h1
    refine kok _ oq ac2 us us2 ((o9.trans (Same.own s10)).trans jB) oB ?_ ?_ ?_ ?_ nacc (ho _ hac2 n2y)
    ·rw [oC nacy];exact s10 _ _ e9
    ·rw [oC n2y];exact e2
    ·exact hU9.keep λ b o hp hb=>⟨hp.1,by rw [oC hp.2];exact s10 _ _ hb⟩
    ·refine hV.keep λ b o hp hb=>?_;have q:b≠y:=λ z=>by rw [z,hy9] at hp;cases hp.1
     exact ⟨ho b hp.1 q,by rw [oC q];exact hb⟩
def ziy (T:Txt K mg a):KCal P w K mg base "Work" a.r 5 ["self","belts","knots"] [] (JY K a):=T.mx.cal T.n9 (VR T)
noncomputable def zjF (b:Int × Int):D:=.tup [.int b.1,.int b.2]
def JL (n:Nat):(rgI n).length=n:=by simp [rgI]
def zaG (n:Nat):rgI (n + 1)=rgI n ++ [(n:Int)]:=by simp [rgI,range_succ]
def zK (ns:A6):(iv ns).length=ns.length:=by rw [iv,ah]
def Qq {x:V} (h:(iv ns)[i]?=some x):∃ n,ns[i]?=some n/\x=.int n:=by
 rw [iv,ak,am] at h;obtain ⟨n,h1,h2⟩:=h;exact ⟨n,h1,h2.symm⟩
def jD (h:ns[i]?=some n):(iv ns)[i]?=some (.int n):=by rw [iv,ak,h];rfl
def zfP (ns:A6) (k:Nat):(iv ns).eraseIdx k=iv (ns.eraseIdx k):=by
 induction ns generalizing k with
 | nil=>simp [iv]
 | cons n ns ih =>
  cases k with
  | zero=>simp [iv]
  | succ k=>simpa [iv] using ih k
def jd (ns:A6) (n:Int):iv ns ++ [.int n]=iv (ns ++ [n]):=by simp [iv]
structure WInv (bs:A1) (rs:At) (es ks:A6):Prop where
 tk:(qM rs ++ es).Perm (rgI bs.length)
 fd:(xB rs ++ ks).Perm (rgI bs.length)
 ro:∀ r∈rs,r.ok
 bo:∀ b∈bs,zH b.1 b.2
def zcB (rs:At) (r:Row):xB (rs ++ [r])=xB rs ++ r.outs:=by simp [xB]
def Vm (rs:At) (r:Row):qM (rs ++ [r])=qM rs ++ r.ins:=by simp [qM]
def Zu {us:Ap} {n:Nat} (h:us.length=n + 1):∃ a vs,us=a :: vs/\vs.length=n:=by
 cases us with
 | nil=>cases h
 | cons a vs=>exact ⟨a,vs,rfl,Nat.succ.inj h⟩
def two_of {us:Ap} (h:us.length=2):∃ a b,us=[a,b]:=by
 obtain ⟨a,_,rfl,h1⟩:=Zu h;obtain ⟨b,_,rfl,h2⟩:=Zu h1;exact ⟨a,b,by rw [dn.mp h2]⟩
theorem zaN:∀ {es:A6} {j:Nat} {y:Int},es[j]?=some y->(y :: es.eraseIdx j).Perm es
 | [],_,_,h=>by simp at h
 | e :: es,0,y,h=>by
  have h:e=y:=by simpa using h
  subst h;simp
 | e :: es,j + 1,y,h=>by
  have ih:=zaN (es:=es) (j:=j) (y:=y) (by simpa using h);rw [List.eraseIdx_cons_succ];exact (List.Perm.swap e y _).trans (ih.cons e)
def Qj {n:Nat} {x:Int} (h:x∈rgI n):0<=x/\x < n:=by
 unfold rgI at h;obtain ⟨i,hi,rfl⟩:=aO.mp h;have:=cA.mp hi
 lia
def wdS:Wd->Str
 | .source=>"source"
 | .drain=>"drain"
 | .parter=>"parter"
 | .first=>"first"
 | .sieve=>"sieve"
 | .joiner=>"joiner"
def wI {b:Int × Int} (h:Rep H p v (zjF b)):∃ t,v=.ref t/\H t=some (.tup [.int b.1,.int b.2]):=by
 obtain ⟨t,us,rfl,_,ht,rr⟩:=Rep.tup' h;have g:=rr.g;obtain ⟨x0,x1,rfl⟩:=two_of rr.len;have a0:=g 0 x0 _ rfl rfl;have a1:=g 1 x1 _ rfl rfl;cases a0;cases a1;exact ⟨t,rfl,ht⟩
noncomputable def qy (a:Ad) (bs:A1) (rs:At):D:=.ob a.r [("belts",.lst (bs.map (Ji a))),("knots",.lst (rs.map (Qx a)))]
def zi1 {l1 l2:Addr}:wf l1 l2=([(("belts":Str),V.ref l1),(("knots":Str),V.ref l2)]:Ar):=by
 unfold wf;simp only [zS];rw [ao (by symm)]
def zag {a:Ad} {rs:At}:([("belts",.lst (bs.map (Ji a))),("knots",.lst (rs.map (Qx a)))]:List (Str × D)).lookup ("belts":Str)=some (.lst (bs.map (Ji a))):=jp
def zeK {a:Ad} {rs:At}:([("belts",.lst (bs.map (Ji a))),("knots",.lst (rs.map (Qx a)))]:List (Str × D)).lookup ("knots":Str)=some (.lst (rs.map (Qx a))):=(zW (by symm)).trans jp
def zi0 {a:Ad} {rs:At} {f:Str} (h1:f≠"belts") (h2:f≠"knots"):([("belts",.lst (bs.map (Ji a))),("knots",.lst (rs.map (Qx a)))]:List (Str × D)).lookup f=none:=(zW h1).trans (zW h2)
def zfx {x b:Addr} (h:H x=some o) (hb:H b=none):b ∉ [x]:=λ z=>by rw [aw.mp z,h] at hb;cases hb
def vC (r:Row):List Int:=match r.wd with
 | .source=>r.pace :: r.kinds
 | .drain=>[r.pace]
 | .sieve=>r.kinds
 | _=>[]
def zgZ {xs:A6}:(∃ x,xs=[x]) ↔ xs.length=1:=⟨λ ⟨_,h⟩=>by rw [h];rfl,λ h=>List.length_eq_one_iff.mp h⟩
def zij {r:Row} (h:r.ok):r.ins.length<=4/\r.outs.length<=4:=by
 obtain ⟨wd,ins,outs,pc,ks⟩:=r;cases wd <;> simp only [Row.ok,zgZ,<- dn] at h ⊢ <;> lia
def KT (T:Txt K mg a) (wd:Wd):kitOne K (.ref (wM a wd)) (.ref a.j)=some true:=by
 cases wd
 ·exact T.kZ
 ·exact T.lI
 ·exact T.k8
 ·exact T.iO
 ·exact T.lJ
 ·exact T.k9
abbrev jq (i:Int):Str:=toString i
def WB (h0:0<=n) (h1:n < zZ):n.natAbs.log2 < 1920:=by
 rcases Nat.eq_zero_or_pos n.natAbs with z|z
 ·rw [z];decide
 ·refine (Nat.log2_lt (by lia)).mpr (aK (show n.natAbs < 1000000000000000000000000000000 by unfold zZ at h1;lia) (by symm))
def XN (h0:0<=n) (h1:n < zZ):(jq n).length<=1921:=PyProof.Rows.int_text_len_1921 (WB h0 h1)
def JI {xs:A8} {m:Nat} (h:∀ x∈xs,x.length<=m):(xs.map (·.length)).sum<=xs.length * m:=by
 induction xs with
 | nil=>simp
 | cons x xs ih =>
  have h1:=h x (aY ..);have h2:=ih λ y hy=>h y (aD _ hy);simp only [bE,List.sum_cons,aX,dY]
  lia
def Vk:tyV K "str" (.str x) H:=by trivial
def jW (nm:Str) (ns:A6):Str:=Str.join " " (nm :: ns.map jq)
def zgw (K:A0):Sp:=λ vs H Q _=>∃ (nm:Str) (l:Addr) (ns:A6),vs=[.str nm,.ref l]/\SqL K H l (iv ns)/\nm.length<=100/\ns.length<=20/\(∀ n∈ns,0<=n/\n < zZ)/\∀ H',Same H H'->Q (.str (jW nm ns)) H'
def xJ (T:Txt K mg a):Cal P w K mg base "_law_row" 1 ["_law_word","_law_numbers"] [] (zgw K):=T.nP.cal λ F=>by
 refine F.okx ze6 ?_ ?_
 ·walk_at "i"
 walk_at "j";refine oE3 h λ nm l ns o8=>oA6 o8 λ oi hl n100 n20 hk k=>?_;clear o8 h;subst oi;walk_at "T";refine ⟨_,(zd (zk (qC cy fX fW zc2 zO (za (zJ qd (zL (za (pq 0) zb)) (jI (vars:=["_law_number"]) (caps:=[]) (N:=["_law_number"]) (ON:=["_law_word","_law_numbers"]) (osc:=zg JJ) rfl rfl (by right) rfl rfl (qo (pq 1)) (λ _ _ _ _=>(qp 0 (show (["_law_number"]:A8).Nodup from by symm))) (λ _ _ _ _=>ql) (λ _ _ _ _=>(wG ziL ziN (za (pq 0) zb))))) zb)))),?_⟩;exists ⟨Vk,λ q1 hq1=>?_⟩;have s1:=zf (o:=.lst [.str nm]) hq1;have g1:upd H q1 (.lst [.str nm]) q1=some (.lst [.str nm]):=oB;generalize upd H q1 (.lst [.str nm])=H1 at s1 g1 ⊢;walk_at "d";exists ⟨l,rfl,.inl ⟨⟨_,vL s1 hl⟩,λ _ _ _ _ oq hacc=>?_⟩⟩;refine qK (K:=K) (a:=l) (xs:=iv ns) (λ i σ H'=>∃ v,σ=[v]/\Same H1 H'/\H' oq=some (.lst (((ns.take i).map jq).map V.str))) ⟨_,iA3 rfl (zf hacc) oB⟩ (λ i σ H' _ h=>by obtain ⟨_,_,s,_⟩:=h;exact vL (s1.trans s) hl) ?_ ?_
 ·intro i x σ H2 hi oj;refine oE1 oj λ v o8=>oA3 o8 λ oi s2 e2=>?_;ext;obtain ⟨y,hy,rfl⟩:=Qq hi;have hyl:=(aa.mp hy).1;have yb:=hk y (af hy);exists ⟨WB yb.1 yb.2,⟨_,iA3 e2 (zn (by rw [ah,ah,aJ];lia)) ⟨_,iA3 rfl (λ b o hb=>?_) ?_⟩⟩⟩
  ·rw [oC (oE hb hacc)];exact s2 b o hb
  ·rw [oB,aH,hy,aV,aV];rfl
 intro σ H2 oj;refine oE1 oj λ v o8=>oA3 o8 λ oi s2 e2=>?_;ext;rw [zK,aM] at e2;exists xb (SqL.of (s2 _ _ g1)) (SqL.of e2) (js (by rw [ah,ah];simp;lia)) λ q2 hq2=>?_;have hb:∀ x∈nm :: ns.map jq,x.length<=1921:=λ x hx=>by
  rcases ar.mp hx with rfl|hx
  ·lia
  ·obtain ⟨n,hn,rfl⟩:=aO.mp hx;exact XN (hk n hn).1 (hk n hn).2
 have sl:=JI hb;rw [aX,ah] at sl;refine iE3 _ q2 (nm :: ns.map jq) (iA5 rfl rfl (by rw [oB];rfl) ?_ (k _ ((s1.trans s2).trans (zf hq2))));rw [aX,ah];have:(Str.ofString " ").length=1:=by symm
 rw [this]
 lia
def qi (r:Row):List Int:=if r.wd=.joiner then r.outs ++ r.ins else r.ins ++ r.outs ++ vC r
def ze9 (r:Row):Str:=jW (wdS r.wd) (qi r)
def zaW {r:Row} (h:r.ok):(qi r).length<=20:=by
 have h4:=zij h;obtain ⟨wd,ins,outs,pc,ks⟩:=r;simp only at h4;cases wd
 ·obtain ⟨_,_,_,_,_,h6,_⟩:=h;simp only at h6;simp only [qi,vC,reduceCtorEq,cx,aF,aX]
  lia
 ·simp only [qi,vC,reduceCtorEq,cx,aF,aX,cD]
  lia
 ·simp only [qi,vC,reduceCtorEq,cx,aF,aX,cD]
  lia
 ·simp only [qi,vC,reduceCtorEq,cx,aF,aX,cD]
  lia
 ·obtain ⟨_,_,kk,ek,_⟩:=h;simp only at ek;subst ek;simp only [qi,vC,reduceCtorEq,cx,aF,aX,cD]
  lia
 ·simp only [qi,dL,aF]
  lia
def jz (b:Int × Int):Str:=jW "belt" [b.1,b.2]
def jF (bs:A1) (rs:At):List Str:=bs.map jz ++ rs.map ze9
def Ja (bs:A1) (rs:At):Str:=Str.join "\n" (jF bs rs)
def XG {nm:Str} (h1:nm.length<=100) (h2:ns.length<=20) (hb:∀ n∈ns,0<=n/\n < zZ):(jW nm ns).length<=50000:=by
 have h:=StrLaws.join_length_le " " (nm :: ns.map jq);have hb:∀ x∈nm :: ns.map jq,x.length<=1921:=λ x hx=>by
  rcases ar.mp hx with rfl|hx
  ·lia
  ·obtain ⟨n,hn,rfl⟩:=aO.mp hx;exact XN (hb n hn).1 (hb n hn).2
 have sl:=JI hb;have:(Str.ofString " ").length=1:=by symm
 rw [this] at h;rw [aX,ah] at sl h;unfold jW
 lia
structure Told2 (bs:A1) (rs:At):Prop where
 b24:bs.length<=24
 r24:rs.length<=24
 bo:∀ b∈bs,zH b.1 b.2
 ro:∀ r∈rs,r.ok
 nb:∀ r∈rs,∀ n∈qi r,0<=n/\n < zZ
def zcL {rs:At} (h:zY bs rs) (bo:∀ b∈bs,zH b.1 b.2) (ro:∀ r∈rs,r.ok):Told2 bs rs:=by
 have b24:=h.1.1.2;have kl:(1000:Int) < zZ:=by symm
 refine ⟨h.1.1.2,h.1.2.2,bo,ro,λ r hr n hn=>?_⟩;have h1:∀ n∈r.outs,0<=n/\n < zZ:=λ n hn=>by
  have:=Qj (h.2.1.mem_iff.mp (dm.mpr ⟨r,hr,hn⟩));exact ⟨this.1,fP (cY this.2 (by lia:(bs.length:Int)<=1000)) kl⟩
 have h2:∀ n∈r.ins,0<=n/\n < zZ:=λ n hn=>by
  have:=Qj (h.2.2.mem_iff.mp (dm.mpr ⟨r,hr,hn⟩));exact ⟨this.1,fP (cY this.2 (by lia:(bs.length:Int)<=1000)) kl⟩
 have ok:=ro r hr;have h3:∀ n∈vC r,0<=n/\n < zZ:=λ n hn=>by
  obtain ⟨wd,ins,outs,pc,ks⟩:=r;cases wd
  ·obtain ⟨_,_,p1,p4,_,_,kk⟩:=ok;simp only at p1 p4;rcases ar.mp hn with e|hn
   ·rw [show n=pc from e];exact ⟨by lia,cZ (show pc<=1000 by lia) kl⟩
   ·exact kk n hn
  ·obtain ⟨_,_,p1,p4⟩:=ok;simp only at p1 p4;rcases ar.mp hn with e|hn
   ·rw [show n=pc from e];exact ⟨p1,cZ (show pc<=1000 by lia) kl⟩
   ·cases hn
  ·cases hn
  ·cases hn
  ·obtain ⟨_,_,kk,ek,q1,q2⟩:=ok;simp only at ek;subst ek;rcases ar.mp hn with rfl|hn
   ·exact ⟨q1,q2⟩
   ·cases hn
  ·cases hn
 unfold qi at hn
 split at hn
 ·rcases aE.mp hn with hn|hn
  ·exact h1 n hn
  ·exact h2 n hn
 ·rcases aE.mp hn with hn|hn
  ·rcases aE.mp hn with hn|hn
   ·exact h2 n hn
   ·exact h1 n hn
  ·exact h3 n hn
def Zw {b:Int × Int} (h:zH b.1 b.2):∀ n∈[b.1,b.2],0<=n/\n < zZ:=λ n hn=>by
 have kl:(1000:Int) < zZ:=by symm
 obtain ⟨h1,h2,h3,h4⟩:=h;simp only [ar,a9,bz] at hn;rcases hn with rfl|rfl
 ·exact ⟨by lia,cZ (show b.1<=1000 by lia) kl⟩
 ·exact ⟨by lia,cZ (show b.2<=1000 by lia) kl⟩
def Vj (wd:Wd):(wdS wd).length<=100:=by cases wd <;> decide +kernel
def Wx {rs:At} (h:Told2 bs rs):(jF bs rs).length<=48/\∀ x∈jF bs rs,x.length<=50000:=by
 have b24:=h.b24;have r24:=h.r24;refine ⟨by unfold jF;rw [aF,ah,ah];lia,λ x hx=>?_⟩;rcases aE.mp hx with hx|hx
 ·obtain ⟨b,hb,rfl⟩:=aO.mp hx;exact XG (by symm) (by show 2<=20;decide) (Zw (h.bo b hb))
 ·obtain ⟨r,hr,rfl⟩:=aO.mp hx;exact XG (Vj _) (zaW (h.ro r hr)) (h.nb r hr)
def zdC {rs:At} (h:Told2 bs rs):((jF bs rs).map (·.length)).sum + (jF bs rs).length * (Str.ofString "\n").length<=16777216:=by
 obtain ⟨h1,h2⟩:=Wx h;have sl:=JI h2;have:(Str.ofString "\n").length=1:=by symm
 rw [this]
 lia
section
variable {H:Hp} {z dz:Addr} {Q:VK} {EX:XK}
end
def WInv.knot {rs:At} {es ks es' ks':A6} {r:Row} (h:WInv bs rs es ks) (pe:(r.ins ++ es').Perm es) (pk:(r.outs ++ ks').Perm ks) (ok:r.ok):WInv bs (rs ++ [r]) es' ks':=by
 refine ⟨?_,?_,λ x hx=>?_,h.bo⟩
 ·rw [Vm,cj];exact (bZ _ pe).trans h.tk
 ·rw [zcB,cj];exact (bZ _ pk).trans h.fd
 ·rcases aE.mp hx with hx|hx
  ·exact h.ro x hx
  ·rw [aw.mp hx];exact ok
def WInv.perm {rs:At} {es ks es' ks':A6} (h:WInv bs rs es ks) (pe:es'.Perm es) (pk:ks'.Perm ks):WInv bs rs es' ks':=⟨(bZ _ pe).trans h.tk,(bZ _ pk).trans h.fd,h.ro,h.bo⟩
def WInv.belt {rs:At} {es ks:A6} {b:Int × Int} (h:WInv bs rs es ks) (hb:zH b.1 b.2):WInv (bs ++ [b]) rs (es ++ [(bs.length:Int)]) (ks ++ [(bs.length:Int)]):=by
 refine ⟨?_,?_,h.ro,λ x hx=>?_⟩
 ·rw [aF,eZ,zaG,<- cj];exact fO _ h.tk
 ·rw [aF,eZ,zaG,<- cj];exact fO _ h.fd
 ·rcases aE.mp hx with hx|hx
  ·exact h.bo x hx
  ·rw [aw.mp hx];exact hb
noncomputable abbrev ms3 (L R E:Addr):List Addr:=[L,R,E]
def bTx (bs:A1):List V:=bs.map λ b=>V.str (jz b)
def rTx (rs:At):List V:=rs.map λ r=>V.str (ze9 r)
structure GS (H0 H:Hp) (L R E:Addr) (bs:A1) (rs:At) (es:A6):Prop where
 f:Fr (ms3 L R E) H0 H
 nLR:L≠R
 nLE:L≠E
 nRE:R≠E
 hL:H L=some (.lst (bTx bs))
 hR:H R=some (.lst (rTx rs))
 hE:H E=some (.lst (iv es))
section
variable {H0 H H':Hp} {L R E:Addr} {bs bs':A1} {rs rs':At} {es es':A6}
def GS.same (w:GS H0 H L R E bs rs es) (s:Same H H'):GS H0 H' L R E bs rs es:={ w with f:=w.f.trans s.fr,hL:=s _ _ w.hL,hR:=s _ _ w.hR,hE:=s _ _ w.hE }
def GS.off (w:GS H0 H L R E bs rs es) {x:Addr} (h:H x=none):x ∉ ms3 L R E:=λ z=>by
 have h1:=w.hL;have h2:=w.hR;have h3:=w.hE;simp only [ar,a9,bz] at z;rcases z with rfl|rfl|rfl
 ·rw [h1] at h;cases h
 ·rw [h2] at h;cases h
 ·rw [h3] at h;cases h
def GS.here (w:GS H0 H L R E bs rs es):GS H H L R E bs rs es:={ w with f:=Fr.refl }
def GS.trans (w:GS H0 H L R E bs rs es) (v:GS H H' L R E bs' rs' es'):GS H0 H' L R E bs' rs' es':={ v with f:=w.f.trans v.f }
def GS.setE (w:GS H0 H L R E bs rs es) (es':A6):GS H0 (upd H E (.lst (iv es'))) L R E bs rs es' :=
 { w with f:=w.f.trans (qw (by simp)),hL:=by rw [oC w.nLE];exact w.hL,hR:=by rw [oC w.nRE];exact w.hR,hE:=oB }
def GS.addL (w:GS H0 H L R E bs rs es) (b:Int × Int):GS H0 (upd H L (.lst (bTx bs ++ [.str (jz b)]))) L R E (bs ++ [b]) rs es :=
 { w with f:=w.f.trans (qw (by simp)),hL:=by rw [oB,bTx,bTx,aV];rfl,hR:=by rw [oC w.nLR.symm];exact w.hR,hE:=by rw [oC w.nLE.symm];exact w.hE }
def GS.addR (w:GS H0 H L R E bs rs es) (r:Row) (e:x=ze9 r):GS H0 (upd H R (.lst (rTx rs ++ [.str x]))) L R E bs (rs ++ [r]) es :=
 { w with f:=w.f.trans (qw (by simp)),hL:=by rw [oC w.nLR];exact w.hL,hR:=by rw [oB,rTx,rTx,aV,e];rfl,hE:=by rw [oC w.nRE.symm];exact w.hE }
end
def zfa {α:Type} (xs:List α) (k:Nat):(xs.drop k ++ xs.take k).Perm xs:=by
 refine List.perm_append_comm.trans ?_;rw [eV]
def x8 (xs:Ap) (k:Nat) (h:k<=xs.length):wL xs (some (k:Int)) none=xs.drop k:=by
 unfold wL;rw [HT.sIx_nat,HT.sIx_none,Nat.min_eq_left h];exact bK (by rw [dq];lia)
def zbq (xs:Ap) (n:Nat):wL xs none (some (n:Int))=xs.take n:=by
 have h:=HT.sIx_nat xs.length xs.length n;unfold wL;rw [HT.sIx_none,h,Nat.sub_zero,List.drop_zero];by_cases e:n<=xs.length
 ·rw [Nat.min_eq_left e]
 ·rw [Nat.min_eq_right (by lia),aM,bK (by lia)]
def WInv.work {rs rs':At} (h:WInv bs rs [] []) (pm:rs'.Perm rs) (b24:bs.length<=24) (r1:1<=rs.length) (r24:rs.length<=24):zY bs rs'/\(∀ r∈rs',r.ok):=by
 have tk:=h.tk;have fd:=h.fd;rw [bT] at tk fd;have pl:=pm.length_eq;have b1:1<=bs.length:=by
  obtain ⟨r,rs0,rfl⟩:=cQ (ff (by lia:0 < rs.length));have ok:=h.ro r (by simp);have lt:=tk.length_eq;have lf:=fd.length_eq;rw [JL] at lt lf;have e1:(qM (r :: rs0)).length=r.ins.length + (qM rs0).length:=by simp [qM]
  have e2:(xB (r :: rs0)).length=r.outs.length + (xB rs0).length:=by simp [xB]
  have:1<=r.ins.length + r.outs.length:=by
   obtain ⟨wd,ins,outs,pc,kd⟩:=r;cases wd
   ·obtain ⟨_,⟨o,q⟩,_⟩:=ok;simp only at q;subst q;simp
   ·obtain ⟨⟨o,q⟩,_⟩:=ok;simp only at q;subst q;simp
   ·obtain ⟨⟨o,q⟩,_⟩:=ok;simp only at q;subst q;simp
   ·obtain ⟨⟨o,q⟩,_⟩:=ok;simp only at q;subst q;simp
   ·obtain ⟨⟨o,q⟩,_⟩:=ok;simp only at q;subst q;simp
   ·obtain ⟨⟨o,q⟩,_⟩:=ok;simp only at q;subst q;simp
  lia
 refine ⟨⟨⟨⟨b1,b24⟩,by lia,by lia⟩,?_,?_⟩,λ r hr=>h.ro r (pm.mem_iff.mp hr)⟩
 ·exact (pm.flatMap_right _).trans fd
 ·exact (pm.flatMap_right _).trans tk
abbrev Nb (ns:A6):Prop:=∀ n∈ns,0<=n/\n < zZ
def nb0:Nb []:=λ _ h=>nomatch h
def nb1 {x:Int} {xs:A6} (h0:0<=x) (h1:x < zZ) (h:Nb xs):Nb (x :: xs):=λ n hn=>by
 rcases ar.mp hn with rfl|hn
 ·exact ⟨h0,h1⟩
 ·exact h n hn
def nbs {x:Int} {xs:A6} (h0:0<=x) (h1:x < 1000) (h:Nb xs):Nb (x :: xs):=nb1 h0 (fP h1 (by symm)) h
noncomputable def vE (ns:A6) (k:Nat):Int:=ns.getD k 0
def zhT (K:A0):Sp:=λ vs H Q _=>∃ (l:Addr) (ns:A6) (k:Nat),vs=[.ref l,.int k]/\SqL K H l (iv ns)/\Q (.int (vE ns k)) H
def wP (T:Txt K mg a):Cal P w K mg base "_law_cell" 1 ["_law_cells","_law_k"] [] (zhT K):=T.m9.cal λ F=>by
 refine F.okx zdP ?_ ?_
 ·walk_at "i"
 walk_at "k";refine oE3 h λ l ns n o8=>oA3 o8 λ oi hl k=>?_;clear o8 h;subst oi;walk_at "T";refine ⟨_,(zh (zF (zl zft (pq 1) (qb qa z9 (za (pq 0) zb)) (zq _))  (zd (zk (zr (pq 0) (pq 1))))  zp)  (zd (zk ze))),?_⟩;exists ⟨_,.inl ⟨_,hl,rfl⟩,?_⟩;walk_at "r";rw [zK];refine zT (λ h=>?_) (λ h=>?_)
 ·have h:n < ns.length:=by lia
  refine zt hl (zD (jD (ac h))) ?_;have e:ns[n]=vE ns n:=by simp [vE,h]
  rw [e];exact k
 ·have e:vE ns n=0:=by
   have h:ns.length<=n:=by lia
   simp [vE,h]
  rw [e] at k;walk_at "r";exact k
def zhQ:Sp:=λ vs H Q _=>∃ n p m:Int,vs=[.int n,.int p,.int m]/\0 < p/\0 < m/\∀ r,0<=r->r < m->Q (.int r) H
def qF (T:Txt K mg a):Cal P w K mg base "_law_some" 1 ["_law_number","_law_prime","_law_many"] [] zhQ:=T.nh.cal λ F=>by
 refine F.okx zdN ?_ ?_
 ·walk_at "i"
 walk_at "k";refine oE3 h λ n p m o8=>oA4 o8 λ oi p0 m0 k=>?_;clear o8 h;subst oi;walk_at "T";refine ⟨_,(zd (zk (zJ jo (zJ jo (zJ vV (zcc (zJ qd (pq 0) ze)) ze) (pq 1)) (pq 2)))),?_⟩;walk_at "r";exact iA4 (mul_okR (by decide) (by decide)) p0 m0 (k _ (bX _ (by lia)) (bV _ m0))
def VL {r:Int} (h0:0<=r) (h1:r < ns.length):∃ x∈ns,atI (iv ns) r=some (.int x):=by
 obtain ⟨j,rfl⟩:∃ j:Nat,r=j:=⟨r.toNat,by lia⟩;have hj:j < ns.length:=by lia
 exact ⟨_,cF hj,zD (jD (ac hj))⟩
def zhU:Sp:=λ vs H Q _=>∃ n:Int,vs=[.int n]/\∀ H' b,Same H H'->zH b.1 b.2->Q (.str (jz b)) H'
def wQ (T:Txt K mg a):Cal P w K mg base "_law_belt" 2 ["_law_number"] [] zhU:=T.ni.cal λ F=>by
 refine F.okx zdQ ?_ ?_
 ·walk_at "i"
 walk_at "j";obtain ⟨n,rfl,k⟩:=h;walk_at "T";refine ⟨_,(zh (zu 1 zdQ.nd (zr (zL (za ze (za ze (za ze (za ze zb))))) ‹(pq 0) (za ze (za ze zb))›))  (zd (zk (zy ⟨rfl,rfl,rfl⟩ hr (za zO (za (zL (za (pq 1) (za (zr (zL (za ze (za ze (za ze (za ze (za ze zb)))))) ‹(pq 0) (za ze (za ze zb))›) zb))) zb)))))),?_⟩;exists λ p hp=>(uc (qF T).mono (iE3 n 10007 4 (iA4 rfl (by decide) (by decide) (λ r r0 r1=>?_))));obtain ⟨x,hx,ex⟩:=VL (ns:=[1,1,2,3]) r0 r1;have s1:=zf (o:=.lst (iv [1,1,2,3])) hp;refine zt (SqL.of oB) ex ?_;exists uc (xJ T).mono (λ q hq=>(uc (qF T).mono (iE3 n 10009 5 (iA4 rfl (by decide) (by decide) (λ r' r0' r1'=>?_)))));obtain ⟨y,hy,ey⟩:=VL (ns:=[1,1,1,2,3]) r0' r1';have s2:=s1.trans (zf (o:=.lst (iv [1,1,1,2,3])) hq);refine zt (SqL.of oB) ey λ t ht=>?_;have bo:zH x y:=by
  simp only [ar,a9,bz] at hx hy;exact iA4 (by lia) (by lia) (by lia) (by lia)
 exact iE3 _ t ([x,y]) (iA6 rfl (SqL.of oB) (by symm) (by simp) (Zw (b:=(x,y)) bo) (λ H' s3=>k H' (x,y) ((s2.trans (zf ht)).trans s3) bo))
def zgu:Sp:=λ vs H Q _=>∃ (n y kk o1 o2:Int) (O:Addr),vs=[.int n,.int y,.ref O,.int kk]/\H O=some (.lst (iv [o1,o2]))/\Nb [y,o1,o2]/\0<=kk/\kk < zZ/\∀ H' r,Same H H'->r.ins=[y]->r.outs=[o1,o2]->r.ok->Q (.str (ze9 r)) H'
def zeB (T:Txt K mg a):Cal P w K mg base "_law_split" 2 ["_law_number","_law_into","_law_outs","_law_kind"] [] zgu:=T.mR.cal λ F=>by
 refine F.okx zbZ ?_ ?_
 ·walk_at "i"
 walk_at "j";refine oE6 h λ n y kk o1 o2 O o8=>oA6 o8 λ oi hO nb k0 k1 k=>?_;clear o8 h;subst oi;walk_at "T";refine ⟨_,(zh (zu 4 zbZ.nd ‹(pq 0) (za ze (za ze zb))›)  (zh (zF (zl (qx hr.units1) (pq 4) ze (zq _))  (zd (zk (zy ⟨rfl,rfl,rfl⟩ hr (za zO (za (zJ qd (zJ qd (zL (za (pq 1) zb)) (pq 2)) (zL (za (pq 3) zb))) zb)))))  zp)  (zd (zk ‹(zr (zL (za zO (za zO zb))) (pq 4)) (za (zJ qd (zL (za (pq 1) zb)) (pq 2)) zb)›)))),?_⟩;exists uc (qF T).mono (iE3 n 10039 3 (iA4 rfl (by decide) (by decide) (λ pk p0 p3=>?_)));exists zT (λ _=>?_) (λ p2=>?_)
 ·exists uc (xJ T).mono (λ q1 h1=>?_);have s1:=zf (o:=.lst [.int y]) h1;refine xb (SqL.of oB) (SqL.of (s1 _ _ hO)) (js (by simp [iv])) λ q2 h2=>?_;have s2:=s1.trans (zf (o:=.lst ([.int y] ++ iv [o1,o2])) h2);intro q3 h3;have s3:=s2.trans (zf (o:=.lst [.int kk]) h3);refine xb (SqL.of (oF oB h3)) (SqL.of oB) (js (by simp [iv])) λ q4 h4=>?_;exact ⟨_,q4,[y,o1,o2,kk],rfl,SqL.of oB,by symm,by simp,λ n hn=>by
   rcases aE.mp (show n∈[y,o1,o2] ++ [kk] from hn) with z|z
   ·exact nb n z
   ·rw [aw.mp z];exact ⟨k0,k1⟩,λ H' s5=>k H' ⟨.sieve,[y],[o1,o2],0,[kk]⟩ ((s3.trans (zf h4)).trans s5) rfl rfl ⟨⟨_,rfl⟩,rfl,kk,rfl,k0,k1⟩⟩
 exists uc (xJ T).mono (λ q0 h0=>?_);have s0:=zf (o:=.lst [V.str "parter",.str "first"]) h0;obtain ⟨wd,hw,ew⟩:∃ wd:Wd,(wd=.parter\/wd=.first)/\atI [V.str "parter",.str "first"] pk=some (V.str (wdS wd)):=by
  rcases (by lia:pk=0\/pk=1) with rfl|rfl
  ·exact ⟨.parter,.inl rfl,rfl⟩
  ·exact ⟨.first,.inr rfl,rfl⟩
 refine zt (SqL.of oB) ew λ q1 h1=>?_;have s1:=s0.trans (zf (o:=.lst [.int y]) h1);refine xb (SqL.of oB) (SqL.of (s1 _ _ hO)) (js (by simp [iv])) λ q2 h2=>?_;have er:qi ⟨wd,[y],[o1,o2],0,[]⟩=[y,o1,o2]:=by rcases hw with rfl|rfl <;> rfl
 exact iE3 _ q2 (qi ⟨wd,[y],[o1,o2],0,[]⟩) (iA6 rfl (by rw [er];exact SqL.of oB) (Vj wd) (by rw [er];simp) (by rw [er];exact nb) (λ H' s5=>k H' ⟨wd,[y],[o1,o2],0,[]⟩ ((s1.trans (zf h2)).trans s5) rfl rfl (by rcases hw with rfl|rfl <;> exact ⟨⟨_,rfl⟩,by simp,by simp⟩)))
def zfQ {A C X Y:Prop} [Decidable A] [Decidable C] (x:A->C->X) (y:Y):if A then (if C then X else Y) else Y:=by
 split
 ·split
  ·rename_i a c;exact x a c
  ·exact y
 ·exact y
def zg9 {A W Z:Prop} [Decidable A] (z:Z) (w:A->Z->W):if A then W else Z:=by
 by_cases h:A
 ·rw [ap h];exact w h z
 ·rw [ao h];exact z
noncomputable abbrev stG (L R E:Addr) (v3:V) (c kk:Int) (v6 v7 v8 v9:Aq):St:=[some (.ref L),some (.ref R),some (.ref E),some v3,some (.int c),some (.int kk),v6,v7,v8,v9]
def zgA:Sp:=λ vs H Q _=>∃ (L R E:Addr) (bs:A1) (rs:At) (es:A6) (lp:A9) (c kk:Int),vs=[.ref L,.ref R,.ref E,oiV lp,.int c,.int kk]/\GS H H L R E bs rs es/\WInv bs rs es lp.toList/\0<=kk/\kk < zZ/\bs.length<=20/\rs.length<=20/\es.length<=20/\1<=es.length /\
 ∀ H' bs' rs' es' lp',GS H H' L R E bs' rs' es'->WInv bs' rs' es' lp'.toList->1<=es'.length->bs.length + 1<=bs'.length->bs'.length<=bs.length + 2->rs'.length=rs.length + 1->Q (oiV lp') H'
def WInv.em {rs:At} {es ks:A6} (h:WInv bs rs es ks) {x:Int} (hx:x∈es):0<=x/\x < bs.length:=Qj (h.tk.mem_iff.mp (aU _ hx))
def WInv.km {rs:At} {es ks:A6} (h:WInv bs rs es ks) {x:Int} (hx:x∈ks):0<=x/\x < bs.length:=Qj (h.fd.mem_iff.mp (aU _ hx))
def xK (bs:A1):(bTx bs).length=bs.length:=ah ..
def jQ (rs:At):(rTx rs).length=rs.length:=ah ..
def zeD (T:Txt K mg a):Cal P w K mg base "_law_grown" 3 ["_law_belts","_law_knots","_law_loose","_law_loop","_law_number","_law_kind"] [] zgA:=T.mS.cal λ F=>by
 refine F.okx zb1 ?_ ?_
 ·walk_at "i"
 walk_at "j";refine oE5 h λ L R E bs rs o8=>oE4 o8 λ es lp c kk oi=>oA6 oi λ ou W I k0 k1 oz=>oA5 oz λ lb lr le le1 k=>?_;clear o8 oi oz h;subst ou;walk_at "T";refine ⟨_,(zi (zu 6 zb1.nd (qb qa z9 (za (pq 0) zb)))  (zi (zG (qC aq az ay zQ (pq 0) (za ‹(pq 4) zb› zb)))  (zi (zu 7 zb1.nd ‹(pq 4) (za ze (za ze zb))›)  (zi (zF (zl (qx hr.units1) (pq 7) ze (zq _))  (zi (zG (qC aq az ay zQ (pq 1) (za (zy ⟨rfl,rfl,rfl⟩ hr (za zO (za (zL (za (pq 6) (za (zJ qd ze ‹(pq 4) (za ze (za ze zb))›) (za (pq 5) (za (VM (pq 4)) zb))))) zb))) zb)))  (zi (zG (qC aq az ay zQ (pq 2) (za (pq 6) zb)))  (zd (zk (pq 3)))))  zp)  (zi (zu 8 zb1.nd (qC aq dG dF Xy (pq 2) (za ‹(pq 4) (za ze (za (qb qa z9 (za (pq 2) zb)) zb))› zb)))  (zi (zF (PW.pt (pw_and (zl (qx hr.units1) (pq 7) ze (zq _)) (pw_and1 (zl Jd (qb qa z9 (za (pq 2) zb)) ze (zq _)))))  (zi (zG (qC aq az ay zQ (pq 1) (za (zy ⟨rfl,rfl,rfl⟩ hr (za zO (za (zL (za (pq 6) (za (pq 8) (za (qC aq dG dF Xy (pq 2) (za ze zb)) zb)))) zb))) zb)))  (zi (zG (qC aq az ay zQ (pq 2) (za (pq 6) zb)))  (zd (zk (pq 3)))))  zp)  (zi (zu 9 zb1.nd (zL (za (pq 6) (za (zJ qd (pq 6) ze) zb))))  (qG (zF (PW.pt (pw_and (zl vj (pq 3) zA (zq _)) (pw_and1 (zl Jd (pq 7) ze (zq _)))))  (zi (zu 9 zb1.nd (zL (za (pq 3) (za (pq 6) zb))))  (zd (zu 3 zb1.nd zA)))  (zi (zG (qC aq az ay zQ (pq 0) (za ‹(VN (pq 4)) zb› zb)))  (zd (zG (qC aq az ay zQ (pq 2) (za (zJ qd (pq 6) ze) zb))))))  (zi (zG (qC aq az ay zQ (pq 2) (za (pq 6) zb)))  (qG (zF (zl (qx hr.units1) ‹(pq 4) (za ze (za ze zb))› ze (zq _))  (zd (zu 9 zb1.nd (zL (za (zr (pq 9) ze) (za (zr (pq 9) ze) zb)))))  zp)  (zi (zG (qC aq az ay zQ (pq 1) (za ‹(pq 4) (za (pq 8) (za (pq 9) (za (pq 5) zb)))› zb)))  (zd (zk (pq 3)))))))))))))),?_⟩;exists ⟨_,.inl ⟨_,SqL.of W.hL,rfl⟩,?_⟩;rw [xK];exists ⟨.inl ⟨rfl,_,SqL.of W.hL⟩,iE3 _ _ _ ⟨(wQ T).mono,⟨c,rfl,λ H1 b s1 ob=>?_⟩⟩⟩;have W0:=W.same s1;have W1:=W0.addL b;have I1:=I.belt ob;refine iE3 L _ _ (iA5 rfl rfl W0.hL (zn (by rw [xK];lia)) ?_);generalize upd H1 L _=H2 at W1 ⊢;have lb1:(bs ++ [b]).length=bs.length + 1:=by simp
 clear W W0 I s1;exists uc (qF T).mono (iE3 c 10061 7 (iA4 rfl (by decide) (by decide) (λ pk p0 p7=>?_)));exists zT (λ _=>?_) (λ _=>?_)
 ·exists ⟨.inl ⟨rfl,_,SqL.of W1.hR⟩,iE3 _ _ _ ⟨(xJ T).mono,iE3 _ _ _ ⟨(qF T).mono,⟨c,10069,4,rfl,by decide,by decide,λ r r0 r4=>?_⟩⟩⟩⟩;left;intro p hp;have x0:=bX c (show (1000000000000000000000000000000:Int)≠0 by decide);have x1:=bV c (show (0:Int) < 1000000000000000000000000000000 by decide);generalize c % 1000000000000000000000000000000=x at x0 x1 ⊢;have kd:X1 [kk,x]:=nb1 k0 k1 (nb1 x0 x1 nb0);refine iE3 _ p ([(bs.length:Int),1 + r,kk,x]) (iA6 rfl (SqL.of oB) (by symm) (by simp) (nbs (by lia) (by lia) (nbs (by lia) (by lia) kd)) (λ H3 s3=>?_));have W3:=W1.same ((zf hp).trans s3);have W4:=W3.addR ⟨.source,[],[(bs.length:Int)],1 + r,[kk,x]⟩ (x:=jW "source" [(bs.length:Int),1 + r,kk,x]) rfl;refine iE3 R _ _ (iA5 rfl rfl W3.hR (zn (by rw [jQ];lia)) ?_);generalize upd H3 R _=H5 at W4 ⊢;exists ⟨.inl ⟨rfl,_,SqL.of W4.hE⟩,iE3 E _ _ (iA5 rfl rfl W4.hE (zn (by rw [zK];lia)) ?_)⟩;rw [jd];have W5:=W4.setE (es ++ [(bs.length:Int)]);generalize upd H5 E _=H6 at W5 ⊢;exists k _ _ _ _ lp W5 (I1.knot (r:=⟨.source,[],[(bs.length:Int)],1 + r,[kk,x]⟩) (bc _) eY (iA7 rfl ⟨_,rfl⟩ (show (1:Int)<=1 + r by lia) (show 1 + r<=4 by lia) (by simp) (by simp) kd)) (by simp) (by lia) (by lia) (by simp)
 exists ⟨.inl ⟨rfl,_,SqL.of W1.hE⟩,iE3 _ _ _ (iA3 ((qF T).mono) io ⟨_,⟨.inl ⟨_,SqL.of W1.hE,rfl⟩,⟨c,10067,_,rfl,by decide,by rw [zK];lia,λ jj v0 v1=>?_⟩⟩⟩)⟩;rw [zK] at v1;obtain ⟨y,hy⟩:∃ y,es[jj.toNat]?=some y:=⟨es[jj.toNat]'(by lia),ac _⟩;refine iE5 E (iv es) jj jj.toNat (.int y) (iA8 rfl rfl W1.hE (by lia) (by lia) (Xp v0 (by rw [zK];exact v1)) (jD hy) ?_);rw [zfP];have W2:=W1.setE (es.eraseIdx jj.toNat);have pp:=zaN hy;have pl:=pp.length_eq;rw [aX] at pl;have I2:=I1.perm (pp.append_right [(bs.length:Int)]) (bc _);generalize upd H2 E (.lst (iv (es.eraseIdx jj.toNat)))=H3 at W2 ⊢;generalize es.eraseIdx jj.toNat=es1 at pp pl W2 I2 ⊢;clear W1 I1 pp hy v0 v1;have ym:=I2.em (x:=y) (by simp);exists zg9 ?_ (λ _ z=>⟨io,⟨_,⟨.inl ⟨_,SqL.of W2.hE,rfl⟩,zT (λ w1=>?_) (λ _=>z)⟩⟩⟩)
 rotate_left
 ·rw [zK] at w1;obtain ⟨x,es2,rfl⟩:∃ x es2,es1=x :: es2:=by cases es1 with|nil=>simp at w1|cons x es2=>exact ⟨x,es2,rfl⟩
  have xm:=I2.em (x:=x) (by simp);exists ⟨.inl ⟨rfl,_,SqL.of W2.hR⟩,iE3 _ _ _ (iA3 ((xJ T).mono) (.inl ⟨rfl,_,SqL.of W2.hE⟩) (iE5 E (iv (x :: es2)) 0 0 (.int x) (iA8 rfl rfl W2.hE (by decide) (by decide) (Xp (by decide) (by simp [iv])) rfl (λ p hp=>?_))))⟩;have W3:=W2.setE es2;refine iE3 _ p ([(bs.length:Int),y,x]) (iA6 rfl (SqL.of oB) (by symm) (by simp) (nbs (by lia) (by lia) (nbs ym.1 (by lia) (nbs xm.1 (by lia) nb0))) (λ H6 s6=>?_));have W4:=W3.same ((zf hp).trans s6);have W6:=W4.addR ⟨.joiner,[y,x],[(bs.length:Int)],0,[]⟩ (x:=jW "joiner" [(bs.length:Int),y,x]) rfl;refine iE3 R _ _ (iA5 rfl rfl W4.hR (zn (by rw [jQ];lia)) ?_);generalize upd H6 R _=H7 at W6 ⊢;left;simp only [aX] at pl;refine ⟨.inl ⟨rfl,_,SqL.of W6.hE⟩,iE3 E _ _ (iA5 rfl rfl W6.hE (zn (by rw [zK];lia)) ?_)⟩;rw [jd];have W7:=W6.setE (es2 ++ [(bs.length:Int)]);generalize upd H7 E _=H8 at W7 ⊢;left;exact k _ _ _ _ lp W7 (I2.knot (r:=⟨.joiner,[y,x],[(bs.length:Int)],0,[]⟩) (bc _) eY ⟨⟨_,rfl⟩,by simp,by simp⟩) (by simp) (by lia) (by lia) (by simp)
 left;intro O hO;have W3:=W2.same (zf (o:=.lst [V.int bs.length,.int (bs.length + 1)]) hO);have nO:=W2.off hO;have gO:upd H3 O (.lst [V.int bs.length,.int (bs.length + 1)]) O=some (.lst (iv [(bs.length:Int),bs.length + 1])):=oB;generalize upd H3 O (.lst [V.int bs.length,.int (bs.length + 1)])=H4 at W3 gO ⊢;clear W2;exists cut (λ σ' H'=>∃ (lp':A9) (bs':A1) (es':A6) (o1 o2:Int) (O':Addr),σ'=stG L R E (oiV lp') c kk (some (.int bs.length)) (some (.int pk)) (some (.int y)) (some (.ref O'))/\GS H H' L R E bs' rs es'/\O' ∉ ms3 L R E/\H' O'=some (.lst (iv [o1,o2]))/\WInv bs' rs ([y] ++ (es' ++ [(bs.length:Int)])) ([o1,o2] ++ lp'.toList)/\bs.length + 1<=bs'.length/\bs'.length<=bs.length + 2/\es'.length<=30) ?_ ?_
 ·exists zfQ (λ x1 _=>?_) ?_
  ·obtain ⟨x,rfl⟩:∃ x,lp=some x:=by cases lp with|none=>exact absurd rfl x1|some x=>exact ⟨x,rfl⟩
   left;intro O2 hO2;left;exact iE6 none _ es1 x _ O2 (iA8 rfl (W3.same (zf hO2)) (W3.off hO2) oB I2 (by lia) (by lia) (by lia))
  exists ⟨.inl ⟨rfl,_,SqL.of W3.hL⟩,iE3 _ _ _ ⟨(wQ T).mono,⟨_,rfl,λ H5 b2 s5 ob2=>?_⟩⟩⟩;have W4:=W3.same s5;have W5:=W4.addL b2;have I5:=I2.belt ob2;refine iE3 L _ _ (iA5 rfl rfl W4.hL (zn (by rw [xK];lia)) ?_);have nOL:O≠L:=λ z=>nO (by simp [z]);have nOE:O≠E:=λ z=>nO (by simp [z]);have g5:upd H5 L (.lst (bTx (bs ++ [b]) ++ [.str (jz b2)])) O=some (.lst (iv [(bs.length:Int),bs.length + 1])):=by rw [oC nOL];exact s5 _ _ gO
  generalize upd H5 L _=H6 at W5 g5 ⊢;exists ⟨.inl ⟨rfl,_,SqL.of W5.hE⟩,iE3 E _ _ (iA5 rfl rfl W5.hE (zn (by rw [zK];lia)) ?_)⟩;rw [jd];have W6:=W5.setE (es1 ++ [(bs.length:Int) + 1]);refine iE6 lp _ _ _ _ O (iA8 rfl W6 nO (by rw [oC nOE];exact g5) ?_ (by simp) (by simp) (by simp;lia));refine I5.perm ?_ ?_
  ·rw [lb1];show (y :: (es1 ++ [((bs.length:Int) + 1)] ++ [(bs.length:Int)])).Perm (y :: es1 ++ [(bs.length:Int)] ++ [((bs.length + 1:Nat):Int)])
   rw [show ((bs.length + 1:Nat):Int)=(bs.length:Int) + 1 from rfl,fo,fo,cj,cj];exact List.Perm.cons _ (bZ _ (List.Perm.swap ..))
  ·rw [lb1,cj];exact eY (l₁:=[(bs.length:Int),(bs.length:Int) + 1]) (l₂:=lp.toList)
 clear W3 I2 gO nO;intro σ' H5 oj;refine oE6 oj λ lp' bs' es' o1 o2 O' o8=>oA8 o8 λ oi W5 nO gO I5 b1 b2 le'=>?_;ext;exists ⟨.inl ⟨rfl,_,SqL.of W5.hE⟩,iE3 E _ _ (iA5 rfl rfl W5.hE (zn (by rw [zK];lia)) ?_)⟩;rw [jd];have W6:=W5.setE (es' ++ [(bs.length:Int)]);have nOE:O'≠E:=λ z=>nO (by simp [z]);have gO:upd H5 E (.lst (iv (es' ++ [(bs.length:Int)]))) O'=some (.lst (iv [o1,o2])):=by rw [oC nOE];exact gO
 generalize upd H5 E _=H6 at W6 gO ⊢;exists cut (λ σ' H'=>∃ (p1 p2:Int) (O2:Addr),σ'=stG L R E (oiV lp') c kk (some (.int bs.length)) (some (.int pk)) (some (.int y)) (some (.ref O2))/\Same H6 H'/\H' O2=some (.lst (iv [p1,p2]))/\[p1,p2].Perm [o1,o2]) ?_ ?_
 ·exists uc (qF T).mono (iE3 c 10069 2 (iA4 rfl (by decide) (by decide) (λ r _ _=>?_)));exists zT (λ _=>?_) (λ _=>(iE3 o1 o2 O' (iA4 rfl (Same.refl _) gO (bc _))));exists zt (SqL.of gO) (show atI _ 1=some (.int o2) from rfl) (zt (SqL.of gO) at0 λ O2 hO2=>?_);exact iE3 o2 o1 O2 (iA4 rfl (zf hO2) oB (List.Perm.swap ..))
 intro σ' H7 oj;refine oE3 oj λ p1 p2 O2 o8=>oA4 o8 λ oi s7 g7 pm=>?_;ext;have W7:=W6.same s7;have m1:=I5.km (x:=p1) (bp _ (pm.mem_iff.mp (by simp)));have m2:=I5.km (x:=p2) (bp _ (pm.mem_iff.mp (by simp)));exists ⟨.inl ⟨rfl,_,SqL.of W7.hR⟩,iE3 _ _ _ ⟨(zeB T).mono,⟨c,y,kk,p1,p2,O2,rfl,g7,nbs ym.1 (by lia) (nbs m1.1 (by lia) (nbs m2.1 (by lia) nb0)),k0,k1,λ H8 r s8 r1 r2 r3=>?_⟩⟩⟩;have W8:=(W7.same s8).addR r rfl;refine iE3 R _ _ (iA5 rfl rfl (s8 _ _ W7.hR) (zn (by rw [jQ];lia)) ?_);generalize upd H8 R _=H9 at W8 ⊢;left;exact k _ _ _ _ lp' W8 (I5.knot (r:=r) (by rw [r1]) (by rw [r2];exact pm.append_right _) r3) (by simp) (by lia) (by lia) (by simp)
noncomputable abbrev stK (l:Addr) (tp c:Int) (kl:Addr) (v4 v5 v6 v7 v8 v9 v10 v11:Aq):St:=[some (.ref l),some (.int tp),some (.int c),some (.ref kl),v4,v5,v6,v7,v8,v9,v10,v11]
inductive spText (K:A0) (vs:Ap) (H:Hp) (Q:VK) (E:XK):Prop
 | i (l:Addr) (ns:A6):vs=[.ref l,.int 8]->SqL K H l (iv ns)->(∀ H' bs rs,Same H H'->zY bs rs->(∀ b∈bs,zH b.1 b.2)->(∀ r∈rs,r.ok)->Q (.str (Ja bs rs)) H')->spText K vs H Q E
def WInv.el {rs:At} {es ks:A6} (h:WInv bs rs es ks):es.length<=bs.length:=by
 have:=h.tk.length_eq;rw [aF,JL] at this
 lia
def zhg (ns:A6):∃ cs:List Int,wL (iv ns) (some 1) none=iv cs:=by
 unfold wL;rw [show (some (1:Int))=some ((1:Nat):Int) from rfl,HT.sIx_nat,HT.sIx_none,zK];exact ⟨(ns.drop (min 1 ns.length)).take (ns.length - min 1 ns.length),by simp [iv]⟩
def winv0:WInv [] [] [] []:=⟨bc _,bc _,(λ _ z=>nomatch z),(λ _ z=>nomatch z)⟩
theorem zge (T:Txt K mg a):Cal P w K mg base "_law_text" 4 ["_law_cells","_law_top"] [] (spText K):=T.nj.cal λ F=>by
 refine F.okx zdM ?_ ?_
 ·walk_at "i"
 walk_at "j";rcases h with ⟨l,ns,rfl,hl,k⟩;walk_at "T";refine ⟨_,(zi (zu 2 zdM.nd ‹(pq 0) (za ze zb)›)  (zi (zu 3 zdM.nd (qu jg (zL (za (VM ‹(pq 0) (za ze zb)›) (za (VM ‹(pq 0) (za ze zb)›) zb))) qR (qv (zJ qd ze ‹(pq 2) (za ze (za ze zb))›))))  (zi (zu 4 zdM.nd (zL (za ‹(pq 2) zb› zb)))  (zi (zu 5 zdM.nd ze)  (zi (zu 6 zdM.nd (zL (za ze zb)))  (zi (zu 7 zdM.nd zA)  (qG (zF (zl Jd ‹(pq 2) (za ze (za ze zb))› ze (zq _))  (zi (zu 5 zdM.nd ‹(pq 2) (za ze (za ze zb))›)  (zi (zu 4 zdM.nd (zJ qd (pq 4) (zL (za ‹(VN (pq 2)) zb› (za ‹(VN (pq 2)) zb› zb)))))  (zi (zu 6 zdM.nd (zL (za ze zb)))  (zd (zu 7 zdM.nd (zJ vn ze (pq 5)))))))  zp)  (zi (zu 8 zdM.nd (zL (za (zy ⟨rfl,rfl,rfl⟩ hr (za zO (za (zJ qd (zL (za (pq 5) (za (zJ qd ze ‹(pq 2) (za ze (za ze zb))›) zb))) (pq 3)) zb))) zb)))  (qG (zF (zl vj (pq 7) zA (zq _))  (zd (zG (qC aq az ay zQ (pq 8) (za (zy ⟨rfl,rfl,rfl⟩ hr (za zO (za (zL (za ze (za (pq 5) (za (pq 7) zb)))) zb))) zb))))  zp)  (qG (qB qX rfl (qo (qu jg (pq 0) (qv ze) qR)) (qp 9 zdM.nd)  (zi (zF (zl Jd (zJ qd (qb qa z9 (za (pq 4) zb)) ze) (pq 1) (zq _))  (zd zfl)  zp)  (zd (zu 7 zdM.nd ‹(pq 4) (za (pq 8) (za (pq 6) (za (pq 7) (za (pq 9) (za (zr (pq 3) ze) zb)))))›))))  (qG (zF (zl vj (pq 7) zA (zq _))  (zi (zG (qC aq az ay zQ (pq 8) (za (zy ⟨rfl,rfl,rfl⟩ hr (za zO (za (zL (za (qC aq dG dF Xy (pq 6) (za ze zb)) (za (pq 7) (za (qb qa z9 (za (pq 4) zb)) zb)))) zb))) zb)))  (zi (zG (qC aq az ay zQ (pq 6) (za (qb qa z9 (za (pq 4) zb)) zb)))  (zd (zG (qC aq az ay zQ (pq 4) (za ‹(VN (pq 2)) zb› zb))))))  zp)  (qG (qB qX rfl (qo (pq 6)) (qp 10 zdM.nd)  (zd (zG (qC aq az ay zQ (pq 8) (za (zy ⟨rfl,rfl,rfl⟩ hr (za zO (za (zL (za (pq 10) (za (zr (zL (za ze (za ze (za ze (za ze (za ze (za ze zb))))))) ‹(zJ qd (pq 2) (zJ vV (zJ vV (pq 10) (pq 10)) ze)) (za ze (za ze zb))›) zb))) zb))) zb)))))  (zi (zu 11 zdM.nd ‹(pq 2) (za ze (za (qb qa z9 (za (pq 8) zb)) zb))›)  (zd (zk (qC cy fX fW zc2 zO (za (zJ qd (zJ qd (pq 4) (qu jg (pq 8) (qv (pq 11)) qR)) (qu jg (pq 8) qR (qv (pq 11)))) zb))))))))))))))))),?_⟩;exists uc (wP T).mono (iE3 l ns 0 (iA3 rfl hl ?_));generalize vE ns 0=c;exists uc (wP T).mono (iE3 l ns 2 (iA3 rfl hl ?_));exists uc (wP T).mono (iE3 l ns 3 (iA3 rfl hl ?_));left;have x0:=bX (vE ns 2) (show (1000000000000000000000000000000:Int)≠0 by decide);have x1:=bV (vE ns 2) (show (0:Int) < 1000000000000000000000000000000 by decide);have y0:=bX (vE ns 3) (show (1000000000000000000000000000000:Int)≠0 by decide);have y1:=bV (vE ns 3) (show (0:Int) < 1000000000000000000000000000000 by decide);generalize vE ns 2 % 1000000000000000000000000000000=x at x0 x1 ⊢;generalize vE ns 3 % 1000000000000000000000000000000=y at y0 y1 ⊢;intro p1 h1;have s1:=zf (o:=.lst [.int x,.int y]) h1;refine uc (qF T).mono (iE3 c 10037 2 (iA4 rfl (by decide) (by decide) (λ r r0 r2=>?_)));left;obtain ⟨ks,eks,k1,k2,kk⟩:∃ ks,wL [.int x,.int y] none (some (1 + r))=iv ks/\1<=ks.length/\ks.length<=2/\X1 ks:=by
  rcases (by lia:r=0\/r=1) with rfl|rfl
  ·exact ⟨[x],iA4 rfl (by simp) (by simp) (nb1 x0 x1 nb0)⟩
  ·exact ⟨[x,y],iA4 rfl (by simp) (by simp) (nb1 x0 x1 (nb1 y0 y1 nb0))⟩
 refine xw (SqL.of oB) λ kl hkl=>?_;rw [eks];replace s1:=s1.trans (zf (o:=.lst (iv ks)) hkl);have g1:upd (upd H p1 (.lst [.int x,.int y])) kl (.lst (iv ks)) kl=some (.lst (iv ks)):=oB;generalize upd (upd H p1 (.lst [.int x,.int y])) kl (.lst (iv ks))=H1 at s1 g1 ⊢;have hl1:=vL s1 hl;clear hl r0 r2 eks x0 x1 y0 y1 h1 hkl;exists uc (wQ T).mono ⟨c,rfl,λ H2 b0 s2 o0 L hL=>?_⟩;have gL:upd H2 L (.lst [.str (jz b0)]) L=some (.lst (bTx [b0])):=oB;have s3:=s2.trans (zf (o:=.lst [.str (jz b0)]) hL);have nL:=zw s2 hL;have w0:WInv [b0] [] [0] [0]:=winv0.belt o0;generalize upd H2 L (.lst [.str (jz b0)])=H3 at s3 gL ⊢;clear hL s2 o0;left;left;intro E hE;have gE:upd H3 E (.lst [.int 0]) E=some (.lst (iv [0])):=oB;have s4:=zf (o:=.lst [.int 0]) hE;have nE:=zw s3 hE;have nLE:L≠E:=λ z=>by rw [<- z,gL] at hE;cases hE
 have gL4:=s4 _ _ gL;have s14:=s3.trans s4;generalize upd H3 E (.lst [.int 0])=H4 at gE gL4 s14 ⊢;clear s4 s3 gL hE;left;exists cut (λ σ' H'=>∃ (L E:Addr) (bs:A1) (es:A6) (fi:Int) (lp:A9),σ'=stK l 8 c kl (some (.ref L)) (some (.int fi)) (some (.ref E)) (some (oiV lp)) none none none none/\Same H1 H'/\H1 L=none/\H1 E=none/\L≠E/\H' L=some (.lst (bTx bs))/\H' E=some (.lst (iv es)) /\
  ((bs.length=1/\WInv bs [] [0] [0]/\fi=0/\lp=none/\es=[0])\/(bs.length=3/\WInv bs [] [0,1,2] [0,1,2]/\(fi=0\/fi=1)/\lp=some (1 - fi)/\es=[2]))) ?_ ?_
 ·exists uc (qF T).mono (iE3 c 10091 3 (iA4 rfl (by decide) (by decide) (λ r _ _=>?_)));exists zT (λ _=>?_) (λ _=>(iE6 L E ([b0]) ([0]) 0 none (iA8 rfl s14 nL nE nLE gL4 gE (.inl (iA5 rfl w0 rfl rfl rfl)))));exists uc (qF T).mono (iE3 c 10133 2 (iA4 rfl (by decide) (by decide) (λ fi f0 f1=>?_)));exists uc (wQ T).mono ⟨_,rfl,λ H5 b1 s5 o1=>(uc (wQ T).mono ⟨_,rfl,λ H6 b2 s6 o2=>λ p hp=>?_⟩)⟩;have s7:=(s5.trans s6).trans (zf (o:=.lst [.str (jz b1),.str (jz b2)]) hp);refine xb (SqL.of (s7 _ _ gL4)) (SqL.of oB) (js (by simp [bTx])) λ Lw hL2=>?_;have s8:=s7.trans (zf (o:=.lst (bTx [b0] ++ [.str (jz b1),.str (jz b2)])) hL2);have n8:=zw (s14.trans s7) hL2;have g8:upd (upd H6 p (.lst [.str (jz b1),.str (jz b2)])) Lw (.lst (bTx [b0] ++ [.str (jz b1),.str (jz b2)])) Lw=some (.lst (bTx [b0,b1,b2])):=oB;generalize upd (upd H6 p (.lst [.str (jz b1),.str (jz b2)])) Lw (.lst (bTx [b0] ++ [.str (jz b1),.str (jz b2)]))=H8 at s8 g8 ⊢;left;intro E2 hE2;have s9:=zf (o:=.lst [.int 2]) hE2;left;exact iE6 Lw E2 ([b0,b1,b2]) ([2]) fi (some (1 - fi)) (iA8 rfl ((s14.trans s8).trans s9) n8 (zw (s14.trans s8) hE2) (λ z=>by rw [<- z,g8] at hE2;cases hE2) (s9 _ _ g8) oB (.inr (iA5 rfl ((w0.belt o1).belt o2) (by lia) rfl rfl)))
 clear gL4 gE s14 nL nE nLE w0;intro σ' H5 oj;refine oE6 oj λ L E bs es fi lp o8=>oA8 o8 λ oi s5 nL nE nLE gL gE st=>?_;ext;exists uc (xJ T).mono (uc (qF T).mono (iE3 c 10079 2 (iA4 rfl (by decide) (by decide) (λ r r0 r2=>?_))));left;intro p hp;have s6:=zf (o:=.lst [.int fi,.int (1 + r)]) hp;refine xb (SqL.of oB) (SqL.of (s6 _ _ (s5 _ _ g1))) (js (by rw [zK];simp;lia)) λ p2 hp2=>?_;have fb:0<=fi/\fi < 1000:=by rcases st with ⟨_,_,rfl,_⟩|⟨_,_,rfl|rfl,_⟩ <;> decide
 refine iE3 _ p2 (fi :: (1 + r) :: ks) (iA6 rfl (SqL.of oB) (by symm) (by simp;lia) (nbs fb.1 fb.2 (nbs (by lia) (by lia) kk)) (λ H6 s7 R hR=>?_));have s57:=((s6.trans (zf (o:=.lst ([.int fi,.int (1 + r)] ++ iv ks)) hp2)).trans s7).trans (zf (o:=.lst [.str (jW "source" (fi :: (1 + r) :: ks))]) hR);have nR:H1 R=none:=zw (s5.trans ((s6.trans (zf hp2)).trans s7)) hR;have r6:H6 L=some (.lst (bTx bs))/\H6 E=some (.lst (iv es)):=⟨s7 _ _ (oF (s6 _ _ gL) hp2),s7 _ _ (oF (s6 _ _ gE) hp2)⟩;have W:GS (upd H6 R (.lst [.str (jW "source" (fi :: (1 + r) :: ks))])) (upd H6 R (.lst [.str (jW "source" (fi :: (1 + r) :: ks))])) L R E bs [⟨.source,[],[fi],1 + r,ks⟩] es :=
  ⟨Fr.refl,(λ e=>by rw [<- e,r6.1] at hR;cases hR),nLE,(λ e=>by rw [e,r6.2] at hR;cases hR),s57 _ _ gL,oB,s57 _ _ gE⟩
 have n1:∀ b∈ms3 L R E,H1 b=none:=λ b hb=>by
  simp only [ar,a9,bz] at hb;rcases hb with rfl|rfl|rfl
  ·exact nL
  ·exact nR
  ·exact nE
 have s17:=s5.trans s57;generalize upd H6 R _=H7 at W s17 ⊢;clear s5 s6 s7 s57 nL nE nLE gL gE nR hR hp hp2 r6;left;let ow:St->Hp->Prop:=λ σ' H'=>∃ rs,σ'=stK l 8 c kl (some (.ref L)) (some (.int fi)) (some (.ref E)) (some (oiV lp)) (some (.ref R)) none none none/\GS H7 H' L R E bs rs es/\WInv bs rs es lp.toList/\rs.length<=bs.length/\bs.length<=3/\es.length=1;refine cut ow ?_ ?_
 ·have ok:Row.ok ⟨.source,[],[fi],1 + r,ks⟩:=⟨rfl,⟨_,rfl⟩,show (1:Int)<=1 + r by lia,show 1 + r<=4 by lia,k1,show ks.length<=6 by lia,kk⟩;rcases st with ⟨l1,I,rfl,rfl,rfl⟩|⟨l3,I,hf,rfl,rfl⟩
  ·left;exact ⟨_,iA6 rfl W (I.knot (r:=⟨.source,[],[0],1 + r,ks⟩) (bc _) (bc _) ok) (by simp [l1]) (by lia) rfl⟩
  ·exists zT (λ _=>?_) (λ z=>absurd (λ q=>nomatch q) z);refine ⟨.inl ⟨rfl,_,SqL.of W.hR⟩,iE3 _ _ _ ⟨(xJ T).mono,λ p hp=>?_⟩⟩;refine iE3 _ p ([2,fi,1 - fi]) (iA6 rfl (SqL.of oB) (by symm) (by simp) (nbs (by decide) (by decide) (nbs fb.1 fb.2 (nbs (by lia) (by lia) nb0))) (λ H9 s9=>?_));have W8:=W.same ((zf hp).trans s9);have W9:=W8.addR ⟨.joiner,[fi,1 - fi],[2],0,[]⟩ (x:=jW "joiner" [2,fi,1 - fi]) rfl;have pf:[fi,1 - fi,2].Perm [0,1,2]:=by rcases hf with rfl|rfl <;> decide
   have I2:WInv bs [⟨.source,[],[fi],1 + r,ks⟩] [0,1,2] [1 - fi,2]:=I.knot (r:=⟨.source,[],[fi],1 + r,ks⟩) (bc _) pf ok;exact iE3 R _ _ (iA5 rfl rfl W8.hR (zn (by rw [jQ];simp)) ⟨_,iA6 rfl W9 (I2.knot (r:=⟨.joiner,[fi,1 - fi],[2],0,[]⟩) pf (List.Perm.swap ..) ⟨⟨_,rfl⟩,by simp,by simp⟩) (by simp [l3]) (by lia) rfl⟩)
 clear W st;intro σ' H8 oj;refine oE1 oj λ rs o8=>oA6 o8 λ oi W I lr lb le=>?_;ext;have s8:Same H1 H8:=(s17.fr.trans W.f).same n1;left;let oy:St->Hp->Prop:=λ σ' H'=>∃ (v9:Aq) (lp:A9) (bs:A1) (rs:At) (es:A6),σ'=stK l 8 c kl (some (.ref L)) (some (.int fi)) (some (.ref E)) (some (oiV lp)) (some (.ref R)) v9 none none/\GS H7 H' L R E bs rs es/\WInv bs rs es lp.toList/\rs.length<=bs.length/\bs.length<=7/\1<=es.length;refine cut oy ?_ ?_
 ·walk_at "e";exists xw (vL s8 hl1) λ p hp=>?_;obtain ⟨cs,ecs⟩:=zhg ns;rw [ecs];have W1:=W.same (zf (o:=.lst (iv cs)) hp);have np:=W.off hp;have gp:upd H8 p (.lst (iv cs)) p=some (.lst (iv cs)):=oB;generalize upd H8 p (.lst (iv cs))=H9 at W1 gp ⊢;refine ⟨p,rfl,.inl ⟨⟨_,SqL.of gp⟩,?_⟩⟩;let oA:Nat->St->Hp->Prop:=λ i σ' H'=>∃ (v9:Aq) (lp:A9) (bs:A1) (rs:At) (es:A6),σ'=stK l 8 c kl (some (.ref L)) (some (.int fi)) (some (.ref E)) (some (oiV lp)) (some (.ref R)) v9 none none/\GS H7 H' L R E bs rs es/\WInv bs rs es lp.toList/\rs.length<=bs.length/\bs.length<=7/\1<=es.length/\H' p=some (.lst (iv cs));refine qK (K:=K) (a:=p) (xs:=iv cs) oA (iE5 _ lp bs rs es (iA7 rfl W1 I lr (by lia) (by lia) gp)) (λ i σ H' _ h=>by obtain ⟨_,_,_,_,_,_,_,_,_,_,_,g⟩:=h;exact SqL.of g) ?_ ?_
  ·clear W1 gp W I lr lb le s8;intro i x σ' H10 hi oj;refine oE5 oj λ v9 lp bs rs es o8=>oA7 o8 λ oi W I lr lb le gp=>?_;ext;obtain ⟨y,hy,rfl⟩:=Qq hi;have el:=I.el;have s10:Same H1 H10:=(s17.fr.trans W.f).same n1;obtain ⟨k0,hk0⟩:∃ k0,ks[0]?=some k0:=⟨ks[0]'(by lia),ac _⟩;have hk:=kk k0 (af hk0);exists ⟨_,.inl ⟨_,SqL.of W.hL,rfl⟩,?_⟩;rw [xK];exists zT (λ _=>(iE5 _ lp bs rs es (iA6 rfl W I lr lb le))) (λ lt=>?_);exists uc (zeD T).mono (zt (SqL.of (s10 _ _ g1)) (show atI (iv ks) ((0:Nat):Int)=some (.int k0) from zD (jD hk0)) ?_);refine iE5 L R E bs rs (iE4 es lp y k0 (iA6 rfl W.here I hk.1 hk.2 (iA5 (by lia) (by lia) (by lia) le (λ H11 bs2 rs2 es2 lp2 W2 I2 a1 a2 a3 a4=>?_))));exact iE5 _ lp2 bs2 rs2 es2 (iA7 rfl (W.trans W2) I2 (by lia) (by lia) a1 (W2.f _ _ np gp))
  ·intro σ' H10 oj;refine oE5 oj λ v9 lp bs rs es o8=>oA7 o8 λ oi W I lr lb le gp=>?_;ext;exact iE5 _ lp bs rs es (iA6 rfl W I lr lb le)
 clear W I lr lb le s8;intro σ' H8 oj;refine oE5 oj λ v9 lp bs rs es o8=>oA6 o8 λ oi W I lr lb le=>?_;ext;left;let M4_:St->Hp->Prop:=λ σ' H'=>∃ (bs:A1) (rs:At) (es:A6),σ'=stK l 8 c kl (some (.ref L)) (some (.int fi)) (some (.ref E)) (some (oiV lp)) (some (.ref R)) v9 none none/\GS H7 H' L R E bs rs es/\WInv bs rs es []/\rs.length<=8/\bs.length<=8/\1<=es.length;refine cut M4_ ?_ ?_
 ·left;cases lp with
  | none=>exact zT (λ z=>absurd rfl z) (λ _=>⟨bs,rs,es,rfl,W,I,by lia,by lia,le⟩)
  | some x =>
   refine zT (λ _=>?_) (λ z=>absurd (λ q=>nomatch q) z);obtain ⟨y,es2,rfl⟩:∃ y es2,es=y :: es2:=by cases es with|nil=>simp at le|cons x es2=>exact ⟨x,es2,rfl⟩
   have el:=I.el;rw [aX] at el;have ym:=I.em (x:=y) (by simp);have xm:=I.km (x:=x) (by simp);exists ⟨.inl ⟨rfl,_,SqL.of W.hR⟩,iE3 _ _ _ (iA3 ((xJ T).mono) (.inl ⟨rfl,_,SqL.of W.hE⟩) (iE5 E (iv (y :: es2)) 0 0 (.int y) (iA8 rfl rfl W.hE (by decide) (by decide) (Xp (by decide) (by simp [iv])) rfl ?_)))⟩;have W2:=W.setE es2;refine ⟨io,⟨_,⟨.inl ⟨_,SqL.of W2.hL,rfl⟩,?_⟩⟩⟩;rw [xK];refine λ p hp=>(iE3 _ p ([y,x,(bs.length:Int)]) (iA6 rfl (SqL.of oB) (by symm) (by simp) (nbs ym.1 (by lia) (nbs xm.1 (by lia) (nbs (by lia) (by lia) nb0))) (λ H11 s4=>?_)));have W3:=W2.same ((zf hp).trans s4);have W4:=W3.addR ⟨.parter,[y],[x,bs.length],0,[]⟩ (x:=jW "parter" [y,x,(bs.length:Int)]) rfl;refine iE3 R _ _ (iA5 rfl rfl W3.hR (zn (by rw [jQ];lia)) ?_);generalize upd H11 R _=H12 at W4 ⊢;exists iA3 (.inl ⟨rfl,_,SqL.of W4.hE⟩) io ⟨_,⟨.inl ⟨_,SqL.of W4.hL,rfl⟩,iE3 E _ _ (iA5 rfl rfl W4.hE (zn (by rw [zK];lia)) ?_)⟩⟩;rw [xK,jd];have W5:=W4.setE (es2 ++ [(bs.length:Int)]);generalize upd H12 E _=H13 at W5 ⊢;exists ⟨.inl ⟨rfl,_,SqL.of W5.hL⟩,iE3 _ _ _ ⟨(wQ T).mono,⟨_,rfl,λ H14 b s6 ob=>?_⟩⟩⟩;have W6:=W5.same s6;exact iE3 L _ _ (iA5 rfl rfl W6.hL (zn (by rw [xK];lia)) (iE3 _ _ _ (iA6 rfl (W6.addL b) ((I.belt ob).knot (r:=⟨.parter,[y],[x,bs.length],0,[]⟩) (bc _) (bc _) ⟨⟨_,rfl⟩,by simp,by simp⟩) (by simp;lia) (by simp;lia) (by simp))))
 clear W I lr lb le;intro σ' H8 oj;refine oE3 oj λ bs rs es o8=>oA6 o8 λ oi W I lr lb le=>?_;ext;have el:=I.el;have em:∀ x∈es,0<=x/\x < 8:=λ x hx=>by have:=I.em hx;lia
 left;let M5_:St->Hp->Prop:=λ σ' H'=>∃ (v10:Aq) (rs:At),σ'=stK l 8 c kl (some (.ref L)) (some (.int fi)) (some (.ref E)) (some (oiV lp)) (some (.ref R)) v9 v10 none/\GS H7 H' L R E bs rs es/\WInv bs rs [] []/\rs.length<=16/\1<=rs.length;refine cut M5_ ?_ ?_
 ·walk_at "e";exists ⟨E,rfl,.inl ⟨⟨_,SqL.of W.hE⟩,?_⟩⟩;let M6_:Nat->St->Hp->Prop:=λ i σ' H'=>∃ (v10:Aq) (rs':At),σ'=stK l 8 c kl (some (.ref L)) (some (.int fi)) (some (.ref E)) (some (oiV lp)) (some (.ref R)) v9 v10 none/\GS H7 H' L R E bs rs' es/\WInv bs rs' (es.drop i) []/\rs'.length=rs.length + i;refine qK (K:=K) (a:=E) (xs:=iv es) M6_ (iE2 _ rs (iA4 rfl W I rfl)) (λ i σ H' _ h=>by obtain ⟨_,_,_,W,_⟩:=h;exact SqL.of W.hE) ?_ ?_
  ·clear W I;intro i x σ' H9 hi oj;refine oE2 oj λ v10 rs' o8=>oA4 o8 λ oi W I lr'=>?_;ext;obtain ⟨y,hy,rfl⟩:=Qq hi;have hil:=(aa.mp hy).1;obtain ⟨y0,y8⟩:=em y (af hy);exists ⟨.inl ⟨rfl,_,SqL.of W.hR⟩,iE3 _ _ _ ⟨(xJ T).mono,λ p hp=>(uc (qF T).mono (iA3 (mul_okR (by lia) (by lia)) (mul_okR (by decide) (by decide)) (iE3 _ 10093 6 (iA4 rfl (by decide) (by decide) (λ r r0 r6=>?_)))))⟩⟩;obtain ⟨pc,hpc,ep⟩:=VL (ns:=[1,0,2,1,3,0]) r0 r6;refine zt (SqL.of oB) ep λ p2 hp2=>?_;have pb:0<=pc/\pc<=4:=by
    simp only [ar,a9,bz] at hpc
    lia
   clear ep hpc;refine iE3 _ p2 ([y,pc]) (iA6 rfl (SqL.of oB) (by symm) (by simp) (nbs y0 (by lia) (nbs pb.1 (by lia) nb0)) (λ H11 s3=>?_));have W2:=W.same (((zf hp).trans (zf hp2)).trans s3);have W3:=W2.addR ⟨.drain,[y],[],pc,[]⟩ (x:=jW "drain" [y,pc]) rfl;refine iE3 R _ _ (iA5 rfl rfl W2.hR (zn (by rw [jQ];lia)) (iE2 _ _ (iA4 rfl W3 (I.knot (r:=⟨.drain,[y],[],pc,[]⟩) ?_ (bc _) ⟨⟨_,rfl⟩,rfl,pb⟩) (by simp;lia))));rw [dW hil,(aa.mp hy).2];exact bc _
  ·intro σ' H9 oj;refine oE2 oj λ v10 rs' o8=>oA4 o8 λ oi W I lr'=>?_;ext;rw [zK] at lr' I;rw [List.drop_length] at I;exact iE2 _ rs' (iA5 rfl W I (by lia) (by lia))
 clear W I lr le el em;intro σ' H8 oj;refine oE2 oj λ v10 rs o8=>oA5 o8 λ oi W I lr lr1=>?_;ext;have s8:Same H1 H8:=(s17.fr.trans W.f).same n1;exists uc (qF T).mono ⟨io,⟨_,⟨.inl ⟨_,SqL.of W.hR,rfl⟩,iE3 c 10099 _ (iA4 rfl (by decide) (by rw [jQ];lia) (λ ctI ct0 ct1=>?_))⟩⟩⟩;rw [jQ] at ct1;obtain ⟨ct,rfl⟩:∃ m:Nat,ctI=m:=⟨ctI.toNat,by lia⟩;exists ⟨Vk,xw (SqL.of W.hR) λ q1 hq1=>?_⟩;rw [x8 (rTx rs) ct (by rw [jQ];lia)];have a1:=zf (o:=.lst ((rTx rs).drop ct)) hq1;refine xb (SqL.of (a1 _ _ W.hL)) (SqL.of oB) (js (by rw [xK,dq,jQ];lia)) λ q2 hq2=>?_;have a2:=a1.trans (zf (o:=.lst (bTx bs ++ (rTx rs).drop ct)) hq2);refine xw (SqL.of (a2 _ _ W.hR)) λ q3 hq3=>?_;rw [zbq (rTx rs) ct];refine xb (SqL.of (oF oB hq3)) (SqL.of oB) (js (by rw [aF,xK,dq,aJ,jQ];lia)) λ q4 hq4=>?_;have sA:=(a2.trans (zf (o:=.lst ((rTx rs).take ct)) hq3)).trans (zf (o:=.lst (bTx bs ++ (rTx rs).drop ct ++ (rTx rs).take ct)) hq4);obtain ⟨ot,ro⟩:=I.work (zfa rs ct) (by lia) (by lia) (by lia);have tl:=zcL ot I.bo ro;have e:bTx bs ++ (rTx rs).drop ct ++ (rTx rs).take ct=(jF bs (rs.drop ct ++ rs.take ct)).map V.str:=by simp [bTx,rTx,jF,de]
 exact iE3 _ q4 (jF bs (rs.drop ct ++ rs.take ct)) (iA5 rfl rfl (by rw [oB,e]) (zdC tl) (k _ _ _ ((s1.trans s8).trans sA) ot I.bo ro))
def XY (cs:Aj):Bool:=cs.all ZH
def V1 (x:Str):Option Nat:=if x.length < 1\/30 < x.length\/(x.cps.toList[0]?=some 48/\1 < x.length) then none else if XY x.cps.toList=true then some (NumText.digitsVal x.cps.toList) else none
def zjm:Option Nat->V
 | none=>.non
 | some n=>.int n
def Xw (c:Nat):((⟨#[c]⟩:Str)=("0":Str)) ↔ c=48:=by
 constructor
 ·intro h;have h:(#[c]:Array Nat)=#[48]:=bh Str.cps h;simpa using h
 ·rintro rfl;decide +kernel
def Ws {cs:Aj} (h:XY cs=true):NumText.AllDigits cs:=λ c hc=>by
 have:=bS.mp h c hc;simpa [ZH] using this
def zjM:Sp:=λ vs H Q _=>∃ x:Str,vs=[.str x]/\x.length<=sizeLine/\∀ H',Same H H'->Q (zjm (V1 x)) H'
theorem Wp (T:Txt K mg a):Cal P w K mg base "number_from" 1 ["word"] [] zjM:=T.lA.cal λ F=>by
 refine F.okx Xa ?_ ?_
 ·walk_at "i"
 walk_at "k";refine oE1 h λ x o8=>oA3 o8 λ oi hx k=>?_;clear o8 h;subst oi;obtain ⟨t1,g1⟩:=T.kX;obtain ⟨t2,g2⟩:=T.mV;walk_at "T";refine ⟨_,(zh (zF (jv (jR xj xj ze (qb qa z9 (za (pq 0) zb)) xi))  (zd (zk zA))  zp)  (zh (zF (jv (qO (qb (ziS rfl) ziQ (za (jI (vars:=["sign"]) (caps:=[]) (N:=["sign"]) (ON:=["word"]) (osc:=zg j6) rfl rfl (by right) rfl rfl (zh9 (pq 0)) (λ _ _ _ _=>(qp 0 (show (["sign"]:A8).Nodup from by symm))) (λ _ _ _ _=>ql) (λ _ _ _ _=>(Zo zin (pq 0) xi (by with_unfolding_all rfl)))) zb)) (λ _=>rfl)))  (zd (zk zA))  zp)  (zh (zF (PW.pt (pw_and (zl (qx hr.units1) (zr (pq 0) ze) zO (zq _)) (pw_and1 (zl Jd (qb qa z9 (za (pq 0) zb)) ze (zq _)))))  (zd (zk zA))  zp)  (zd (zk (wG zhk ziP (za (pq 0) zb))))))),?_⟩;exists ⟨x.length,⟨hx,rfl⟩,?_⟩;left;have hlen:x.cps.toList.length=x.length:=bQ;refine zT (λ h1=>?_) (λ h1=>?_)
 ·refine iE2 (.int 30) _ (iA3 g1 ⟨_,rfl⟩ ?_);exists zT (λ h2=>?_) (λ h2=>?_)
  rotate_left
  ·left;have:=k H (Same.refl _);unfold V1 at this;rw [ap (.inr (.inl (by lia)))] at this;exact this
  ·walk_at "d";exists λ _ _ _ _ oq hacc=>?_;refine zju (x:=x) (λ i σ H'=>∃ v,σ=[v]/\Same H H'/\H' oq=some (.lst (((x.cps.toList.take i).map ZH).map V.bl))) ⟨_,rfl,zf hacc,oB⟩ ?_ ?_
   ·rintro i c σ H' hi ⟨v,rfl,sH,ha⟩;have hil:i < x.length:=(bw.mp hi).1;have hi':x.cps.toList[i]?=some c:=by rw [cJ];exact hi
    exists ⟨.str "0123456789",_,g2,⟨_,rfl⟩,_,_,rfl,rfl,?_⟩;refine ⟨_,ha,by rw [ah,ah,aJ];exact zn (by lia),_,rfl,(λ b o hb=>by rw [oC (oE hb hacc)];exact sH b o hb),?_⟩;rw [oB,aH,hi',XS,zg2];simp only [cV,aV,bE,map_nil];cases ZH c <;> rfl
   ·rintro σ H' ⟨v,rfl,sH,ha⟩;rw [bK (by rw [hlen];exact au _)] at ha;exists ⟨oq,_,rfl,ha,?_⟩;have hall:(x.cps.toList.map ZH).all id=XY x.cps.toList:=by rw [List.all_map];rfl
    rw [hall];left;cases hA:XY x.cps.toList with
    | false =>
     left;have:=k H' sH;unfold V1 at this;rw [hA] at this;by_cases hz:x.length < 1\/30 < x.length\/(x.cps.toList[0]?=some 48/\1 < x.length)
     ·rw [ap hz] at this;exact this
     ·rw [ao hz,ao (by decide)] at this;exact this
    | true =>
     left;obtain ⟨c,hc⟩:∃ c,x.cps.toList[0]?=some c:=⟨_,ac (by lia)⟩;refine .inr (.inr ⟨x,0,c,rfl,rfl,hx,by have:=zD hc;simpa using this,?_⟩);left;have fin:¬ (c=48/\1 < x.length)->Q (V.int (NumText.digitsVal x.cps.toList:Nat)) H':=λ hz=>by
      have:=k H' sH;unfold V1 at this;rw [ao (by rw [hc];intro z;rcases z with z|z|⟨z,z'⟩ <;> first|lia|exact hz ⟨by simpa using z,z'⟩),ap hA] at this;exact this
     have fin2:¬ (c=48/\1 < x.length)->∃ x_1 n,[V.str x]=[V.str x_1]/\PySem.intText? x_1=some n/\x_1.length<=640/\Q (V.int n) H':=λ hz =>
      ⟨x,_,rfl,PySem.intText_digits (Ws hA) (λ z=>by rw [z] at hlen;simp at hlen;lia) (by lia),by lia,fin hz⟩
     by_cases h48:c=48
     ·subst h48;rw [ap ((Xw 48).mpr rfl)];exists ⟨x.length,⟨hx,rfl⟩,?_⟩;exists zT (λ h3=>?_) (λ h3=>?_)
      ·left;have:=k H' sH;unfold V1 at this;rw [ap (.inr (.inr ⟨hc,by lia⟩))] at this;exact this
      ·left;exact fin2 (by lia)
     ·rw [ao (λ z=>h48 ((Xw c).mp z))];left;exact fin2 (by lia)
 ·left;have:=k H (Same.refl _);unfold V1 at this;rw [ap (.inl (by lia))] at this;exact this
def zhd (h0:0<=n) (h1:n < zZ):V1 (jq n)=some n.toNat:=by
 obtain ⟨m,rfl⟩:=fG h0;have hs:=fV m;have hl:(jq (m:Int)).length<=30:=PyProof.Rows.toString_length_le h0 (by decide) (by unfold zZ at h1;lia);have hlen:(jq (m:Int)).cps.toList.length=(jq (m:Int)).length:=bQ;have hs:(jq (m:Int)).cps.toList=(Nat.toDigits 10 m).map Char.toNat:=hs;have hd:NumText.AllDigits (jq (m:Int)).cps.toList:=by
  intro c hc;rw [hs] at hc;obtain ⟨ch,hch,e⟩:=aO.mp hc;have r:=fv (eK (by decide) (by decide) hch);rw [<- e];exact r
 have hv:NumText.digitsVal (jq (m:Int)).cps.toList=m:=by rw [hs];exact PySem.W.KIN.val_back m
 have h1l:1<=(Nat.toDigits 10 m).length:=PySem.toDigits_len_ge 10 m;have hl2:(Nat.toDigits 10 m).length=(jq (m:Int)).length:=by rw [<- hlen,hs,ah]
 have nz:¬ ((jq (m:Int)).cps.toList[0]?=some 48/\1 < (jq (m:Int)).length):=by
  rintro ⟨z,z1⟩;have ta:=NumText.toDigits_all _ hd;rw [hv] at ta;generalize (jq (m:Int)).cps.toList=cs at z hlen ta;cases cs with
  | nil=>cases z
  | cons c r =>
   have z:c=48:=aI z;subst z;rw [List.dropWhile_cons_of_pos (by rfl)] at ta;have tl:=bh List.length ta;have dl:=(List.dropWhile_sublist (λ x=>x == 48) (l:=r)).length_le;rw [aX] at hlen
   split at tl
   ·simp at tl;lia
   ·rename_i c' r' e;rw [e] at dl;rw [ah] at tl
    lia
 have hA:XY (jq (m:Int)).cps.toList=true:=bS.mpr λ c hc=>by
  have:=hd c hc;simp [ZH,this.1,this.2]
 unfold V1;rw [ao (λ w=>w.elim (λ w=>by lia) λ w=>w.elim (λ w=>by lia) nz),ap hA,hv]
 rfl
def zcv (h0:0<=n):NumText.AllDigits (jq n).cps.toList:=by
 obtain ⟨m,rfl⟩:=fG h0;have hs:(jq (m:Int)).cps.toList=(Nat.toDigits 10 m).map Char.toNat:=fV m;intro c hc;rw [hs] at hc;obtain ⟨ch,hch,e⟩:=aO.mp hc;have r:=fv (eK (by decide) (by decide) hch);rw [<- e];exact r
def zbl {c:Nat} (h0:0<=n) (hc:c < 48):c ∉ (jq n).cps.toList:=λ z=>by
 have:=zcv h0 c z
 lia
def zi7:(Str.ofString " ")=(⟨#[32]⟩:Str):=by symm
def zjU:(Str.ofString "\n")=(⟨#[10]⟩:Str):=by symm
theorem za5 {c d:Nat}:∀ {xs:A8},c∈(Str.join ⟨#[d]⟩ xs).cps.toList->c=d\/∃ x∈xs,c∈x.cps.toList
 | [],h=>nomatch h
 | [x],h=>.inr ⟨x,aY ..,h⟩
 | x :: y :: r,h=>by
  rw [Zr] at h;rcases aE.mp h with h|h
  ·exact .inr ⟨x,aY ..,h⟩
  ·rcases ar.mp h with h|h
   ·exact .inl h
   ·rcases za5 h with h|⟨z,hz,h⟩
    ·exact .inl h
    ·exact .inr ⟨z,aD _ hz,h⟩
def zcn {nm:Str} (h:32 ∉ nm.cps.toList) (hb:∀ n∈ns,0<=n/\n < zZ):Txt.split (jW nm ns) (Str.ofString " ")=nm :: ns.map jq:=by
 unfold jW;rw [zi7];refine JX (by simp) λ x hx=>?_;rcases ar.mp hx with rfl|hx
 ·exact h
 ·obtain ⟨n,hn,rfl⟩:=aO.mp hx;exact zbl (hb n hn).1 (by decide)
def WG {nm:Str} (h:10 ∉ nm.cps.toList) (hb:∀ n∈ns,0<=n/\n < zZ):10 ∉ (jW nm ns).cps.toList:=λ z=>by
 unfold jW at z;rw [zi7] at z;rcases za5 z with zc|⟨x,hx,zx⟩
 ·cases zc
 ·rcases ar.mp hx with rfl|hx
  ·exact h zx
  ·obtain ⟨n,hn,rfl⟩:=aO.mp hx;exact zbl (hb n hn).1 (by decide) zx
def zah (wd:Wd):32 ∉ (wdS wd).cps.toList/\10 ∉ (wdS wd).cps.toList:=by cases wd <;> exact ⟨by symm,by symm⟩
def belt_free:32 ∉ (Str.ofString "belt").cps.toList/\10 ∉ (Str.ofString "belt").cps.toList:=⟨by symm,by symm⟩
def zbM {rs:At} (h:Told2 bs rs) (b1:1<=bs.length):Txt.split (Ja bs rs) (Str.ofString "\n")=jF bs rs:=by
 unfold Ja;rw [zjU];refine JX (λ z=>?_) λ x hx=>?_
 ·have:=bh List.length z;unfold jF at this;rw [aF,ah,ah,cD] at this
  lia
 ·rcases aE.mp hx with hx|hx
  ·obtain ⟨b,hb,rfl⟩:=aO.mp hx;exact WG belt_free.2 (Zw (h.bo b hb))
  ·obtain ⟨r,hr,rfl⟩:=aO.mp hx;exact WG (zah _).2 (h.nb r hr)
def zeQ {rs:At} (h:Told2 bs rs):(Ja bs rs).length + 2<=sizeLine:=by
 have h1:=StrLaws.join_length_le "\n" (jF bs rs);obtain ⟨h2,h3⟩:=Wx h;have sl:=JI h3;have c:(Str.ofString "\n").length=1:=by symm
 rw [c] at h1;have:3000000<=sizeLine:=by decide
 unfold Ja
 lia
theorem at1 {x y:V}:atI [x,y] 1=some y:=rfl
def zgy (K:A0) (a:Ad):Sp:=λ vs H Q _=>∃ (l:Addr) (r:Row),vs=[.str (wdS r.wd),.ref l]/\H l=some (.lst (iv (qi r)))/\r.ok/\∀ v' H',Same H H'->KnP a H' (New H) v' r->Q v' H'
theorem Wq (T:Txt K mg a):Cal P w K mg base "made_part" 4 ["name","numbers"] [] (zgy K a):=T.kH.cal λ F=>by
 refine F.okx Qa ?_ ?_
 ·walk_at "i"
 walk_at "j";refine oE2 h λ l o8 oi=>oA4 oi λ ou hl ok k=>?_;clear oi h;obtain ⟨wd,ins,outs,pc,ks⟩:=o8;subst ou;walk_at "T";refine ⟨_,(zi (zu 2 Qa.nd (qb qa z9 (za (pq 1) zb)))  (zi (zF (PW.pt (pw_and (zl (qx hr.units1) (pq 0) zO (zq _)) (pw_and1 (zl (qx hr.units1) (pq 2) ze (zq _)))))  (zd (zk (qW (x:="Belt") ⟨rfl,rfl,rfl⟩ hr (za (zr (pq 1) ze) (za (zr (pq 1) ze) zb)))))  zp)  (zi (zF (PW.pt (pw_and (zl (qx hr.units1) (pq 0) zO (zq _)) (pw_and1 (zl Je (pq 2) ze (zq _)))))  (zd (zk (qW (x:="Source") ⟨rfl,rfl,rfl⟩ hr (za (zr (pq 1) ze) (za (zr (pq 1) ze) (za (qu jg (pq 1) (qv ze) qR) zb))))))  zp)  (zi (zF (PW.pt (pw_and (zl (qx hr.units1) (pq 0) zO (zq _)) (pw_and1 (zl (qx hr.units1) (pq 2) ze (zq _)))))  (zd (zk (qW (x:="Drain") ⟨rfl,rfl,rfl⟩ hr (za (zr (pq 1) ze) (za (zr (pq 1) ze) zb)))))  zp)  (zi (zF (PW.pt (pw_and (zl (qx hr.units1) (pq 0) zO (zq _)) (pw_and1 (zl Je (pq 2) ze (zq _)))))  (zd (zk (qW (x:="Parter") ⟨rfl,rfl,rfl⟩ hr (za (zr (pq 1) ze) (za (qu jg (pq 1) (qv ze) qR) zb)))))  zp)  (zi (zF (PW.pt (pw_and (zl (qx hr.units1) (pq 0) zO (zq _)) (pw_and1 (zl Je (pq 2) ze (zq _)))))  (zd (zk (qW (x:="FirstParter") ⟨rfl,rfl,rfl⟩ hr (za (zr (pq 1) ze) (za (qu jg (pq 1) (qv ze) qR) zb)))))  zp)  (zi (zF (PW.pt (pw_and (zl (qx hr.units1) (pq 0) zO (zq _)) (pw_and1 (zl (qx hr.units1) (pq 2) ze (zq _)))))  (zd (zk (qW (x:="Sieve") ⟨rfl,rfl,rfl⟩ hr (za (zr (pq 1) ze) (za (qu jg (pq 1) (qv ze) (qv ze)) (za (zr (pq 1) ze) zb))))))  zp)  (zi (zF (PW.pt (pw_and (zl (qx hr.units1) (pq 0) zO (zq _)) (pw_and1 (zl Je (pq 2) ze (zq _)))))  (zd (zk (qW (x:="Joiner") ⟨rfl,rfl,rfl⟩ hr (za (qu jg (pq 1) (qv ze) qR) (za (zr (pq 1) ze) zb)))))  zp)  (zd (zk zA)))))))))),?_⟩;exists ⟨_,.inl ⟨_,SqL.of hl,rfl⟩,?_⟩;left;cases wd
 ·refine oA7 ok λ q1 o8 q3 q4 q5 q6 q7=>?_;clear ok;obtain ⟨ov,q2⟩:=o8;simp only at q1 q2 q3 q4 q5 q6 q7;subst q1 q2;have e:qi ⟨.source,[],[ov],pc,ks⟩=ov :: pc :: ks:=by simp [qi,vC]
  rw [e] at hl;have hl:H l=some (.lst (.int ov :: .int pc :: iv ks)):=hl;exists zT (λ _=>zT (λ _=>?_) (λ z=>absurd (by rw [e,zK];simp;lia) z)) (λ z=>absurd rfl z);refine iE4 a.k _ _ _ ⟨(zbh T).mono,zt (SqL.of hl) at0 (zt (SqL.of hl) (show atI _ 1=some (.int pc) from zD (j:=1) rfl) (xw (SqL.of hl) λ m3' hm3=>?_))⟩;rw [show wL (.int ov :: .int pc :: iv ks) (some 2) none=iv ks from (x8 _ 2 (by simp)).trans rfl] at *;intro z dz hz hdz hne;have hm3':=oB (H:=H) (a:=m3') (o:=.lst (iv ks));refine iE6 z dz m3' (.int ov) pc ks (iA6 rfl oB (SqL.of (qD hz hdz hm3')) (oE hm3' hz) (λ _ H' m1 m2 m3 s' g1 g2 g3 g4 n1 n2 n3=>⟨rfl,?_⟩) (λ hbad=>absurd (iA5 q3 q4 q5 q6 q7) hbad));exact k _ _ ((zf hm3).trans (Own.of_new hz hdz s')) (WM (p:=New H) (ins:=[]) (outs:=[ov]) (zI hz) (zI (zP n1)) (zI (zP n2)) (zI (zP n3)) g1 g2 g3 g4)
 ·refine oA4 ok λ o8 q2 q3 q4=>?_;clear ok;obtain ⟨iv',q1⟩:=o8;simp only at q1 q2 q3 q4;subst q1 q2;have e:qi ⟨.drain,[iv'],[],pc,ks⟩=[iv',pc]:=by simp [qi,vC]
  rw [e] at hl;have hl:H l=some (.lst [.int iv',.int pc]):=hl;exists zT (λ _=>zT (λ _=>?_) (λ z=>absurd (by rw [e];rfl) z)) (λ z=>absurd rfl z);refine iE4 a.l _ _ _ ⟨(zc5 T).mono,zt (SqL.of hl) at0 (zt (SqL.of hl) at1 ?_)⟩;intro z dz hz hdz hne;refine iE4 z dz (.int iv') pc (iA3 rfl oB ?_);rw [ap ⟨q3,q4⟩];intro H' m1 m2 s' g1 g2 g3 n1 n2;exact ⟨rfl,k _ _ (Own.of_new hz hdz s') (zbe (p:=New H) (ins:=[iv']) (outs:=[]) hz (zP n1) (zP n2) g1 g2 g3)⟩
 ·obtain ⟨⟨iv',q1⟩,q3,q4⟩:=ok;simp only at q1 q3 q4;subst q1;have e:qi ⟨.parter,[iv'],outs,pc,ks⟩=iv' :: outs:=by simp [qi,vC]
  rw [e] at hl;have hl:H l=some (.lst (.int iv' :: iv outs)):=hl;exists zT (λ _=>zT (λ _=>?_) (λ z=>absurd (by rw [e,zK];simp;lia) z)) (λ z=>absurd rfl z);refine iE4 a.m _ _ _ ⟨(zbi T).mono,zt (SqL.of hl) at0 (xw (SqL.of hl) λ m3 hm3=>?_)⟩;rw [show wL (.int iv' :: iv outs) (some 1) none=iv outs from (x8 _ 1 (by simp)).trans rfl] at *;intro z dz hz hdz hne;have hm3':=oB (H:=H) (a:=m3) (o:=.lst (iv outs));refine iE5 z dz m3 (.int iv') (iv outs) (iA5 rfl oB (SqL.of (qD hz hdz hm3')) (oE hm3' hz) ?_);rw [ap (by rw [zK];exact ⟨q3,q4⟩)];intro H' m1 m2 s' g1 g2 g3 n1 n2;exact ⟨rfl,k _ _ ((zf hm3).trans (Own.of_new hz hdz s')) (WN (p:=New H) (ins:=[iv']) (outs:=outs) (zI hz) (zI (zP n1)) (zI (zP n2)) g1 g2 g3)⟩
 ·obtain ⟨⟨iv',q1⟩,q3,q4⟩:=ok;simp only at q1 q3 q4;subst q1;have e:qi ⟨.first,[iv'],outs,pc,ks⟩=iv' :: outs:=by simp [qi,vC]
  rw [e] at hl;have hl:H l=some (.lst (.int iv' :: iv outs)):=hl;exists zT (λ _=>zT (λ _=>?_) (λ z=>absurd (by rw [e,zK];simp;lia) z)) (λ z=>absurd rfl z);refine iE4 a.n _ _ _ ⟨(ZG T).mono,zt (SqL.of hl) at0 (xw (SqL.of hl) λ m3 hm3=>?_)⟩;rw [show wL (.int iv' :: iv outs) (some 1) none=iv outs from (x8 _ 1 (by simp)).trans rfl] at *;intro z dz hz hdz hne;have hm3':=oB (H:=H) (a:=m3) (o:=.lst (iv outs));refine iE5 z dz m3 (.int iv') (iv outs) (iA5 rfl oB (SqL.of (qD hz hdz hm3')) (oE hm3' hz) ?_);rw [ap (by rw [zK];exact ⟨q3,q4⟩)];intro H' m1 m2 s' g1 g2 g3 n1 n2;exact ⟨rfl,k _ _ ((zf hm3).trans (Own.of_new hz hdz s')) (zbd (p:=New H) (ins:=[iv']) (outs:=outs) (zI hz) (zI (zP n1)) (zI (zP n2)) g1 g2 g3)⟩
 ·refine oA3 ok λ o8 q3 oi=>oE1 oi λ kk ou=>oA3 ou λ q4 q5 q6=>?_;clear oi ou ok;obtain ⟨iv',q1⟩:=o8;simp only at q1 q3 q4;subst q1 q4;obtain ⟨o1,o2,rfl⟩:∃ o1 o2,outs=[o1,o2]:=by
   match outs,q3 with
   | [o1,o2],_=>exact ⟨o1,o2,rfl⟩
  have e:qi ⟨.sieve,[iv'],[o1,o2],pc,[kk]⟩=[iv',o1,o2,kk]:=by simp [qi,vC]
  rw [e] at hl;have hl:H l=some (.lst [.int iv',.int o1,.int o2,.int kk]):=hl;exists zT (λ _=>zT (λ _=>?_) (λ z=>absurd (by rw [e];rfl) z)) (λ z=>absurd rfl z);refine iE4 a.o _ _ _ ⟨(zc4 T).mono,zt (SqL.of hl) at0 (xw (SqL.of hl) λ m3 hm3=>?_)⟩;rw [show wL [V.int iv',.int o1,.int o2,.int kk] (some 1) (some 3)=iv [o1,o2] from rfl] at *;refine zt (SqL.of (oF hl hm3)) (show atI _ 3=some (.int kk) from zD (j:=3) rfl) ?_;intro z dz hz hdz hne;have hm3':=oB (H:=H) (a:=m3) (o:=.lst (iv [o1,o2]));refine iE6 z dz m3 (.int iv') (iv [o1,o2]) kk (iA5 rfl oB (SqL.of (qD hz hdz hm3')) (oE hm3' hz) ?_);rw [ap (by rw [zK];exact ⟨q3,q5,q6⟩)];intro H' m1 m2 s' g1 g2 g3 n1 n2;exact ⟨rfl,k _ _ ((zf hm3).trans (Own.of_new hz hdz s')) (zbc (p:=New H) (ins:=[iv']) (outs:=[o1,o2]) (zI hz) (zI (zP n1)) (zI (zP n2)) g1 g2 g3)⟩
 ·obtain ⟨⟨ov,q1⟩,q3,q4⟩:=ok;simp only at q1 q3 q4;subst q1;have e:qi ⟨.joiner,ins,[ov],pc,ks⟩=ov :: ins:=by simp [qi]
  rw [e] at hl;have hl:H l=some (.lst (.int ov :: iv ins)):=hl;exists zT (λ _=>zT (λ _=>?_) (λ z=>absurd (by rw [e,zK];simp;lia) z)) (λ z=>absurd rfl z);refine iE4 a.p _ _ _ ⟨(zbj T).mono,xw (SqL.of hl) λ m3 hm3=>?_⟩;rw [show wL (.int ov :: iv ins) (some 1) none=iv ins from (x8 _ 1 (by simp)).trans rfl] at *;refine zt (SqL.of (oF hl hm3)) at0 ?_;intro z dz hz hdz hne;have hm3':=oB (H:=H) (a:=m3) (o:=.lst (iv ins));refine iE5 z dz m3 (.int ov) (iv ins) (iA5 rfl oB (SqL.of (qD hz hdz hm3')) (oE hm3' hz) ?_);rw [ap (by rw [zK];exact ⟨q3,q4⟩)];intro H' m1 m2 s' g1 g2 g3 n1 n2;exact ⟨rfl,k _ _ ((zf hm3).trans (Own.of_new hz hdz s')) (WO (p:=New H) (ins:=ins) (outs:=[ov]) (zI hz) (zI (zP n1)) (zI (zP n2)) g1 g2 g3)⟩
def zgz (a:Ad):Sp:=λ vs H Q _=>∃ (l:Addr) (b:Int × Int),vs=[.str "belt",.ref l]/\H l=some (.lst (iv [b.1,b.2]))/\zH b.1 b.2/\∀ v' H',Same H H'->BtP a H' (New H) v' b->Q v' H'
def Wr (T:Txt K mg a):Cal P w K mg base "made_part" 4 ["name","numbers"] [] (zgz a):=T.kH.cal λ F=>by
 refine F.okx Qa ?_ ?_
 ·walk_at "i"
 walk_at "j";refine oE2 h λ l o8 oi=>oA4 oi λ ou hl ok k=>?_;clear oi h;obtain ⟨rm,pc⟩:=o8;subst ou;have hl:H l=some (.lst [.int rm,.int pc]):=hl;walk_at "T";refine ⟨_,(zi (zu 2 Qa.nd (qb qa z9 (za (pq 1) zb)))  (zi (zF (PW.pt (pw_and (zl (qx hr.units1) (pq 0) zO (zq _)) (pw_and1 (zl (qx hr.units1) (pq 2) ze (zq _)))))  (zd (zk (qW (x:="Belt") ⟨rfl,rfl,rfl⟩ hr (za (zr (pq 1) ze) (za (zr (pq 1) ze) zb)))))  zp)  (zi (zF (PW.pt (pw_and (zl (qx hr.units1) (pq 0) zO (zq _)) (pw_and1 (zl Je (pq 2) ze (zq _)))))  (zd (zk (qW (x:="Source") ⟨rfl,rfl,rfl⟩ hr (za (zr (pq 1) ze) (za (zr (pq 1) ze) (za (qu jg (pq 1) (qv ze) qR) zb))))))  zp)  (zi (zF (PW.pt (pw_and (zl (qx hr.units1) (pq 0) zO (zq _)) (pw_and1 (zl (qx hr.units1) (pq 2) ze (zq _)))))  (zd (zk (qW (x:="Drain") ⟨rfl,rfl,rfl⟩ hr (za (zr (pq 1) ze) (za (zr (pq 1) ze) zb)))))  zp)  (zi (zF (PW.pt (pw_and (zl (qx hr.units1) (pq 0) zO (zq _)) (pw_and1 (zl Je (pq 2) ze (zq _)))))  (zd (zk (qW (x:="Parter") ⟨rfl,rfl,rfl⟩ hr (za (zr (pq 1) ze) (za (qu jg (pq 1) (qv ze) qR) zb)))))  zp)  (zi (zF (PW.pt (pw_and (zl (qx hr.units1) (pq 0) zO (zq _)) (pw_and1 (zl Je (pq 2) ze (zq _)))))  (zd (zk (qW (x:="FirstParter") ⟨rfl,rfl,rfl⟩ hr (za (zr (pq 1) ze) (za (qu jg (pq 1) (qv ze) qR) zb)))))  zp)  (zi (zF (PW.pt (pw_and (zl (qx hr.units1) (pq 0) zO (zq _)) (pw_and1 (zl (qx hr.units1) (pq 2) ze (zq _)))))  (zd (zk (qW (x:="Sieve") ⟨rfl,rfl,rfl⟩ hr (za (zr (pq 1) ze) (za (qu jg (pq 1) (qv ze) (qv ze)) (za (zr (pq 1) ze) zb))))))  zp)  (zi (zF (PW.pt (pw_and (zl (qx hr.units1) (pq 0) zO (zq _)) (pw_and1 (zl Je (pq 2) ze (zq _)))))  (zd (zk (qW (x:="Joiner") ⟨rfl,rfl,rfl⟩ hr (za (qu jg (pq 1) (qv ze) qR) (za (zr (pq 1) ze) zb)))))  zp)  (zd (zk zA)))))))))),?_⟩;exists ⟨_,.inl ⟨_,SqL.of hl,rfl⟩,?_⟩;exists iE4 a.i _ _ _ ⟨(zfM T).mono,zt (SqL.of hl) at0 (zt (SqL.of hl) at1 ?_)⟩;intro z dz hz hdz hne;refine iE4 z dz rm pc (iA3 rfl oB ?_);rw [ap ok,Zj];have sN:Same H (upd (upd H dz (.own z)) z (.ins a.i dz (bf rm pc))):=λ b o h=>by rw [oC (oE h hz),oC (oE h hdz)];exact h
 exact ⟨rfl,k _ _ sN (zhJ (p:=New H) hz oB)⟩
def zio (ns:A6):inV .non (iv ns)=false:=by
 unfold inV iv;rw [List.any_map];exact List.any_eq_false.mpr λ n _=>by simp [eqV]
def zgV (h0:0<=n) (h1:n < zZ):zjm (V1 (jq n))=.int n:=by
 rw [zhd h0 h1];show V.int (n.toNat:Int)=.int n
 rw [bI h0]
def zeW (S:Sp):Sp:=λ vs H Q _=>∃ (nm:Str) (ns:A6),vs=[.str (jW nm ns)]/\nm.length<=100/\32 ∉ nm.cps.toList/\ns.length<=20/\(∀ n∈ns,0<=n/\n < zZ)/\∀ (l:Addr) (H1:Hp) (E':XK),Same H H1->H1 l=some (.lst (iv ns))->S [.str nm,.ref l] H1 Q E'
def VQ (T:Txt K mg a) {S:Sp} (M:Cal P w K mg base "made_part" 4 ["name","numbers"] [] S) (F:Fun K "part_from" "part_from" xh f fd):FnOk P w K mg base (CXr P w) 5 f fd ["row"] (zeW S):=by
 refine F.okx Vw ?_ ?_
 ·walk_at "i"
 walk_at "j";refine oE2 h λ nm ns o8=>oA6 o8 λ oi l100 fr len20 nb k=>?_;clear o8 h;subst oi;have ll:=XG l100 len20 nb;have z3:3000000<=sizeLine:=by decide
 walk_at "T";refine ⟨_,(zi (zu 1 Vw.nd (qC cy fA fI za0 (pq 0) (za zO zb)))  (zi (Xo (i:=2) Vw.nd rfl (Or.inl rfl) (vars:=["word"]) (caps:=[]) (N:=["word"]) (ON:=["row","words","numbers"]) (osc:=zg xh) rfl rfl (by right) rfl rfl (qo (qu jg (pq 1) (qv ze) qR)) (λ _ _ _ _=>(qp 0 (show (["word"]:A8).Nodup from by symm))) (λ _ _ _ _=>ql) (λ _ _ _ _=>(ZU hr (za (pq 0) zb))))  (zi (zF (zl zhF zA (pq 2) (by with_unfolding_all rfl))  (zd (zk zA))  zp)  (zd (zgN ⟨rfl,rfl,rfl⟩ rfl (λ pn G=>(zd (zk ‹(zr (pq 1) ze) (za (pq 2) zb)›))) (λ pn a=>(zd (zk zA))) (λ pn a=>(zd (zk zA)))))))),?_⟩;exists ⟨Vk,iE2 _ _ (iA5 rfl rfl (by symm) (by lia) (λ wl hwl=>?_))⟩;rw [zcn fr nb];have s1:=zf (o:=.lst ((nm :: ns.map jq).map V.str)) hwl;have g1:upd H wl (.lst ((nm :: ns.map jq).map V.str)) wl=some (.lst (.str nm :: (ns.map jq).map V.str)):=oB;generalize upd H wl _=H1 at s1 g1 ⊢;left;walk_at "d";exists xw (SqL.of g1) λ q1 hq1=>?_;rw [show wL (.str nm :: (ns.map jq).map V.str) (some 1) none=(ns.map jq).map V.str from (x8 _ 1 (by simp)).trans rfl] at *;have s2:=s1.trans (zf (o:=.lst ((ns.map jq).map V.str)) hq1);have g2:upd H1 q1 (.lst ((ns.map jq).map V.str)) q1=some (.lst ((ns.map jq).map V.str)):=oB;have gw:=zf (o:=.lst ((ns.map jq).map V.str)) hq1 _ _ g1;generalize upd H1 q1 _=H2 at s2 g2 gw ⊢;refine ⟨q1,rfl,.inl ⟨⟨_,SqL.of g2⟩,λ _ _ _ _ oq hacc=>?_⟩⟩;refine qK (K:=K) (a:=q1) (xs:=(ns.map jq).map V.str) (λ i σ H'=>∃ v0,σ=[v0]/\Same H2 H'/\H' oq=some (.lst (iv (ns.take i)))) ⟨_,iA3 rfl (zf hacc) oB⟩ (λ i σ H' _ h=>by obtain ⟨_,_,s,_⟩:=h;exact SqL.of (s _ _ g2)) ?_ ?_
 ·intro i x σ H3 hi oj;refine oE1 oj λ v0 o8=>oA3 o8 λ oi s3 g3=>?_;ext;rw [dJ,ak,am] at hi;obtain ⟨n,hn,rfl⟩:=hi;have hil:=(aa.mp hn).1;have nn:=nb n (af hn);have il:=XN nn.1 nn.2;exists uc (Wp T).mono ⟨jq n,iA3 rfl (by lia) (λ H4 s4=>?_)⟩;rw [zgV nn.1 nn.2];refine ⟨_,iA3 (s4 _ _ g3) (zn (by rw [zK,aJ];lia)) ⟨_,iA3 rfl (λ b o hb=>?_) ?_⟩⟩
  ·rw [oC (oE hb hacc)];exact s4 _ _ (s3 b o hb)
  ·rw [oB,jd,aH,hn];rfl
 intro σ H3 oj;refine oE1 oj λ v0 o8=>oA3 o8 λ oi s3 g3=>?_;ext;rw [ah,ah,aM] at g3;exists iE2 oq _ (iA5 rfl (.inl (SqL.of g3)) rfl (Qw _) ?_);rw [zio];exists iE2 a.d a.e (iA5 T.lU T.mY T.ip T.mZ (λ pn=>?_));left;exact iE3 _ _ _ ⟨M.mono,zt (SqL.of (s3 _ _ gw)) at0 (k oq H3 _ (s2.trans s3) g3)⟩
def Jk (T:Txt K mg a) {S:Sp} (M:Cal P w K mg base "made_part" 4 ["name","numbers"] [] S):Cal P w K mg base "part_from" 5 ["row"] [] (zeW S):=T.mr.cal (VQ T M)
def zhS (K:A0) (a:Ad):Sp:=λ vs H Q _=>∃ (bs:A1) (rs:At),vs=[.str (Ja bs rs)]/\zY bs rs/\Told2 bs rs/\∀ v' H',Same H H'->Rep H' (Off []) v' (qy a bs rs)->Q v' H'
def zbw (T:Txt K mg a):Cal P w K mg base "read_work" 7 ["text"] [] (zhS K a):=T.mt.cal λ F=>by
 refine F.okx Vu ?_ ?_
 ·walk_at "i"
 walk_at "j";refine oE2 h λ bs rs o8=>oA4 o8 λ oi ot tl k=>?_;clear o8 h;subst oi;have b24:=tl.b24;have r24:=tl.r24;have tln:(jF bs rs).length=bs.length + rs.length:=by unfold jF;rw [aF,ah,ah]
 walk_at "T";refine ⟨_,(zi (zu 1 Vu.nd (zL zb))  (zi (zu 2 Vu.nd (zL zb))  (qG (qB qX rfl (qS (za (qC cy fA fI za0 (pq 0) (za zO zb)) zb)) (wv (n:=2) rfl (qc (qp 3 Vu.nd) (qc (qp 4 Vu.nd) xf)))  (zi (zu 5 Vu.nd ‹(pq 4) zb›)  (zd (zF (qO (qb Zh qz (za (pq 5) (za xi zb))) (λ _=>rfl))  (zd (zG (qC aq az ay zQ (pq 2) (za (pq 5) zb))))  (zd (zF (PW.pt (pw_and (qO (qb Zh qz (za (pq 5) (za xi zb))) (λ _=>rfl)) (pw_and1 (zl (qx hr.units1) (qb qa z9 (za (pq 2) zb)) ze (zq _)))))  (zd (zG (qC aq az ay zQ (pq 1) (za (pq 5) zb))))  (zd zfk)))))))  (zd (zk (qW (x:="Work") ⟨rfl,rfl,rfl⟩ hr (za (pq 1) (za (pq 2) zb)))))))),?_⟩;left;intro B hB;left;intro R hR;have s1:=(zf (o:=.lst []) hB).trans (zf (o:=.lst []) hR);have nBR:B≠R:=oE oB hR;have gB:=oF (o:=.lst []) (oB (H:=H) (a:=B) (o:=.lst [])) hR;have gR:upd (upd H B (.lst [])) R (.lst []) R=some (.lst []):=oB;have nR:=zI hR;generalize upd (upd H B (.lst [])) R (.lst [])=H1 at s1 gB gR ⊢;have nw:∀ m∈[B,R],H m=none:=λ m hm=>by
  simp only [ar,a9,bz] at hm;rcases hm with rfl|rfl
  ·exact hB
  ·exact nR
 exists cut (λ σ' H'=>∃ v3 v4 v5 bv kv,σ'=[some (.str (Ja bs rs)),some (.ref B),some (.ref R),v3,v4,v5]/\Same H H'/\H' B=some (.lst bv)/\H' R=some (.lst kv)/\Bts a H' (Off [B,R]) bv bs/\Kns a H' (Off [B,R]) kv rs) ?_ ?_
 ·walk_at "e";exists ⟨Vk,iE2 _ _ (iA5 rfl rfl (by symm) (zeQ tl) (λ q hq=>?_))⟩;rw [zbM tl ot.1.1.1];have s2:=zf (o:=.lst ((jF bs rs).map V.str)) hq;have gq:upd H1 q (.lst ((jF bs rs).map V.str)) q=some (.lst ((jF bs rs).map V.str)):=oB;have nq:q ∉ [B,R]:=λ z=>by
   simp only [ar,a9,bz] at z;rcases z with rfl|rfl
   ·rw [gB] at hq;cases hq
   ·rw [gR] at hq;cases hq
  have gB2:=s2 _ _ gB;have gR2:=s2 _ _ gR;generalize upd H1 q _=H2 at s2 gq gB2 gR2 ⊢;refine iE2 q _ (iA3 rfl gq ?_);refine XR (K:=K) (a:=q) (xs:=(jF bs rs).map V.str) (λ i σ' H'=>∃ v3 v4 v5 bv kv,σ'=[some (.str (Ja bs rs)),some (.ref B),some (.ref R),v3,v4,v5]/\Fr [B,R] H2 H'/\H' B=some (.lst bv)/\H' R=some (.lst kv)/\Bts a H' (Off [B,R]) bv (bs.take i)/\Kns a H' (Off [B,R]) kv (rs.take (i - bs.length)))
   ⟨_,_,_,[],[],rfl,Fr.refl,gB2,gR2,by rw [bJ];exact .nil,by rw [Nat.zero_sub,bJ];exact .nil⟩ (λ i σ H' _ h=>by obtain ⟨_,_,_,_,_,_,fr,_⟩:=h;exact SqL.of (fr _ _ nq gq)) ?_ ?_
  ·intro i x t σ' H3 hi ht oj;refine oE5 oj λ v3 v4 v5 bv kv o8=>oA6 o8 λ oi f3 gB3 gR3 hb3 hk3=>?_;ext;rw [ak,am] at hi;obtain ⟨ln,hln,rfl⟩:=hi;have off3:∀ {b:Addr},H3 b=none->b ∉ [B,R]:=λ {b} hb z=>by
    simp only [ar,a9,bz] at z;rcases z with rfl|rfl
    ·rw [gB3] at hb;cases hb
    ·rw [gR3] at hb;cases hb
   have s4:=zf (o:=.tup [.int i,.str ln]) ht;refine un2 oB ?_;generalize upd H3 t (.tup [.int i,.str ln])=H4 at s4 ⊢;left;by_cases hib:i < bs.length
   ·have e:ln=jz bs[i]:=by
     unfold jF at hln;rw [aQ (by rw [ah];exact hib),ak,ac hib] at hln;exact (aI hln).symm
    subst e;have hbi:bs[i]?=some bs[i]:=ac hib;refine iE3 _ _ _ ⟨(Jk T (Wr T)).mono,⟨_,_,rfl,by symm,belt_free.1,by show 2<=20;decide,Zw (tl.bo _ (cF hib)),λ l H5 _ s5 g5=>(iE2 l (bs[i]) (iA4 rfl g5 (tl.bo _ (cF hib)) (λ v' H5' s5' hBt=>?_)))⟩⟩;have hBt:=hBt.keep (q:=New H4) λ b o hp hb=>⟨zw s5 hp,hb⟩;replace s5:=s5.trans s5';clear s5' g5;generalize H5'=H5 at s5 hBt ⊢;have s35:=s4.trans s5;refine oE3 hBt.inv λ yb dxb fb o8=>oA5 o8 λ oi pyb hyb f1 f2=>?_;clear o8;subst oi;exists iE2 (.ref a.j) _ (iA3 T.nC rfl (iE4 _ _ _ _ (iA4 rfl (T.nH.ty T.iz hyb) (.inl ⟨_,rfl,T.ma⟩) ?_)));exists iE2 (.ref a.i) _ (iA3 T.nB rfl (iE4 _ _ _ _ (iA4 rfl (T.nH.ty T.iz hyb) (.inl ⟨_,rfl,T.md⟩) ?_)));exists ⟨_,.inl ⟨_,SqL.of (s35 _ _ gR3),rfl⟩,?_⟩;rw [hk3.len,show i - bs.length=0 by lia,bJ];exists ⟨.inl ⟨rfl,_,SqL.of (s35 _ _ gB3)⟩,iE3 B bv _ (iA5 rfl rfl (s35 _ _ gB3) (zn (by rw [hb3.len,aJ];lia)) ?_)⟩;have f6:Fr [B,R] H5 (upd H5 B (.lst (bv ++ [.ref yb]))):=qw (by simp);have f36:=s35.fr.trans f6;refine iE5 _ _ _ (bv ++ [.ref yb]) kv (iA6 rfl (f3.trans f36) oB (by rw [oC nBR.symm];exact s35 _ _ gR3) ?_ ?_)
    ·rw [aH,hbi];exact Bts.push (hb3.keep λ b o hp hb=>⟨hp,f36 _ _ hp hb⟩) (hBt.keep λ b o hp hb=>⟨off3 (zw s4 hp),f6 _ _ (off3 (zw s4 hp)) hb⟩)
    ·rw [show i + 1 - bs.length=i - bs.length by lia];exact hk3.keep λ b o hp hb=>⟨hp,f36 _ _ hp hb⟩
   ·have hjr:i - bs.length < rs.length:=by
     have:=(aa.mp hln).1;rw [tln] at this
     lia
    have hri:rs[i - bs.length]?=some rs[i - bs.length]:=ac hjr;have e:ln=ze9 rs[i - bs.length]:=by
     unfold jF at hln;rw [aN (by rw [ah];lia),ah,ak,hri] at hln;exact (aI hln).symm
    have rm:=af hri;generalize hrr:rs[i - bs.length]=r at e hri rm;subst e;refine iE3 _ _ _ ⟨(Jk T (Wq T)).mono,⟨_,_,rfl,Vj _,(zah _).1,zaW (tl.ro r rm),tl.nb r rm,λ l H5 _ s5 g5=>(iE2 l r (iA4 rfl g5 (tl.ro r rm) (λ v' H5' s5' hKn=>?_)))⟩⟩;have hKn:=hKn.keep (q:=New H4) λ b o hp hb=>⟨zw s5 hp,hb⟩;replace s5:=s5.trans s5';clear s5' g5;generalize H5'=H5 at s5 hKn ⊢;have s35:=s4.trans s5;refine oE6 hKn.inv λ yk dxk m1 m2 m3 fk o8=>oA7 o8 λ oi _ _ _ _ hyk _=>?_;clear o8;subst oi;exists iE2 (.ref a.j) _ (iA3 T.nC rfl (iE4 _ _ _ _ (iA4 rfl ((WT T _).ty (CT T _) hyk) (.inl ⟨_,rfl,KT T _⟩) ?_)));exists ⟨.inl ⟨rfl,_,SqL.of (s35 _ _ gR3)⟩,iE3 R kv _ (iA5 rfl rfl (s35 _ _ gR3) (zn (by rw [hk3.len,aJ];lia)) ?_)⟩;have f6:Fr [B,R] H5 (upd H5 R (.lst (kv ++ [.ref yk]))):=qw (by simp);have f36:=s35.fr.trans f6;refine iE5 _ _ _ bv (kv ++ [.ref yk]) (iA6 rfl (f3.trans f36) (by rw [oC nBR];exact s35 _ _ gB3) oB ?_ ?_)
    ·rw [bK (by lia)] at hb3 ⊢;exact hb3.keep λ b o hp hb=>⟨hp,f36 _ _ hp hb⟩
    ·rw [show i + 1 - bs.length=(i - bs.length) + 1 by lia,aH,hri];exact Kns.append (hk3.keep λ b o hp hb=>⟨hp,f36 _ _ hp hb⟩) (Kns.one (hKn.keep λ b o hp hb=>⟨off3 (zw s4 hp),f6 _ _ (off3 (zw s4 hp)) hb⟩))
  ·intro σ' H3 oj;refine oE5 oj λ v3 v4 v5 bv kv o8=>oA6 o8 λ oi f3 gB3 gR3 hb3 hk3=>?_;ext;rw [ah,tln] at hb3 hk3;rw [bK (by lia)] at hb3;rw [show bs.length + rs.length - bs.length=rs.length by lia,aM] at hk3;exact iE5 _ _ _ bv kv (iA6 rfl (((s1.trans s2).fr.trans f3).same nw) gB3 gR3 hb3 hk3)
 intro σ' H3 oj;refine oE5 oj λ v3 v4 v5 bv kv o8=>oA6 o8 λ oi s3 gB3 gR3 hb3 hk3=>?_;ext;exists iE4 a.r _ _ _ ⟨(ziy T).mono,?_⟩;intro y dy hy hdy hne;refine ⟨y,dy,B,R,bv,kv,bs,rs,λ b=>b≠y,rfl,oB,oE gB3 hy,oE gR3 hy,λ _ h=>h,qD hy hdy gB3,qD hy hdy gR3,
  hb3.keep λ b o _ hb=>⟨oE hb hy,qD hy hdy hb⟩,hk3.keep λ b o _ hb=>⟨oE hb hy,qD hy hdy hb⟩,tl.bo,tl.ro,by rw [ot.2.1.length_eq,JL];lia,by rw [ot.2.2.length_eq,JL];lia,by lia,λ _ H4 m1 m2 bv kv o4 g0 g1 g2 gB gK n1 n2=>⟨rfl,?_⟩,λ z=>absurd ot z⟩
 refine k _ _ (s3.trans (Own.of_new hy hdy o4)) ?_;rw [zi1] at g0;exact wu (λ z=>nomatch z) g0 rfl (.cons (gB.reps.all.mk' (λ z=>nomatch z) g1) (.cons (gK.reps.all.mk' (λ z=>nomatch z) g2) .nil))
def Told (H:Hp) (v:V) (r:Option Ap):Prop:=match r with
 | none=>v=.non
 | some xs=>∃ p,v=.ref p/\H p=some (.tup xs)
def Told.same {H H':Hp} {r:Option Ap} (h:Told H v r) (s:Same H H'):Told H' v r:=by
 cases r with
 | none=>exact h
 | some xs=>exact let ⟨p,e,hp⟩:=h;⟨p,e,s _ _ hp⟩
noncomputable def Vq (side:V) (p:Int) (t:Int) (b:Bool):Option Ap:=if b=true/\t % p=0 then some [.non,.int 0,side] else none
def JZ (K:A0) (C:Addr):Sp:=λ vs H Q _=>∃ (y dx l1 l2 l3 fl:Addr) (p t:Int) (hs side:V) (b:Bool) (bs:Ap),vs=[.ref y,hs,.ref fl,.int t,side]/\H y=some (.ins C dx (sf l1 l2 p l3))/\1<=p /\
 SqL K H fl (.bl b :: bs)/\∀ v H',Same H H'->Told H' v (Vq side p t b)->Q v H'
theorem Ju (T:Txt K mg a):MCal P w K mg base a.k "choice" 1 ["self","heads","free","turn","side"] [] (JZ K a.k):=T.ko.cal T.hX λ F=>by
 refine F.okx QH ?_ ?_
 ·walk_at "i"
 walk_at "k";refine oE8 h λ y dx l1 l2 l3 fl p t o8=>oE4 o8 λ hs side b bs oi=>oA5 oi λ ou hy p1 hf k=>?_;clear o8 oi h;subst ou;unfold Vq at k;walk_at "T";refine ⟨_,(zh (zF (PW.pt (pw_or (jv (qO (zr (pq 2) ze) (λ _=>rfl))) (pw_or1 (zl (ZD hr.units1) (zJ jo (pq 3) (zm (pq 0) rfl)) ze (zq _)))))  (zd (zk zA))  zp)  (zd (zk (jn (za zA (za ze (za (pq 4) zb))))))),?_⟩;exists zt hf at0 ?_;left;cases b with
 | false =>
  rw [ao (by simp)] at k;left;exact k _ _ (Same.refl _) rfl
 | true =>
  exists ra hy T.hX T.ii zgD ?_;exists zT (λ h=>?_) (λ h=>?_)
  ·rw [ao (λ z=>h z.2)] at k;left;exact k _ _ (Same.refl _) rfl
  ·rw [ap ⟨rfl,gd h⟩] at k;left;intro q hq;exact k _ _ (zf hq) ⟨q,rfl,oB⟩
noncomputable def zcC (side:V) (p:Int) (t:Int) (hd:V):Option Ap:=if p=0\/hd=.non\/t % p≠0 then none else some [.int 0,.non,side]
def X4 (K:A0) (C:Addr):Sp:=λ vs H Q _=>∃ (y dx l1 l2 hl:Addr) (p t:Int) (fr side:V) (hd:V) (hs:Ap),vs=[.ref y,.ref hl,fr,.int t,side]/\H y=some (.ins C dx (df l1 l2 p))/\0<=p/\p<=4 /\
 SqL K H hl (hd :: hs)/\∀ v H',Same H H'->Told H' v (zcC side p t hd)->Q v H'
def XF (T:Txt K mg a):MCal P w K mg base a.l "choice" 1 ["self","heads","free","turn","side"] [] (X4 K a.l):=T.kO.cal T.ik λ F=>by
 refine F.okx Js ?_ ?_
 ·walk_at "i"
 walk_at "k";refine oE8 h λ y dx l1 l2 hl p t fr o8=>oE3 o8 λ side hd hs oi=>oA6 oi λ ou hy p0 p4 hh k=>?_;clear o8 oi h;subst ou;unfold zcC at k;walk_at "T";refine ⟨_,(zh (zF (zl (qx hr.units1) (zm (pq 0) rfl) ze (zq _))  (zd (zk zA))  zp)  (zh (zF (PW.pt (pw_or (zl ja (zr (pq 1) ze) zA (zq _)) (pw_or1 (zl (ZD hr.units1) (zJ jo (pq 3) (zm (pq 0) rfl)) ze (zq _)))))  (zd (zk zA))  zp)  (zd (zk (jn (za ze (za zA (za (pq 4) zb)))))))),?_⟩;exists ra hy T.ik T.ie V3 ?_;exists zT (λ h1=>?_) (λ h1=>?_)
 ·rw [ap (.inl h1)] at k;left;exact k _ _ (Same.refl _) rfl
 ·exists zt hh at0 ?_;exists zT (λ h2=>?_) (λ h2=>?_)
  ·rw [ap (.inr (.inl h2))] at k;left;exact k _ _ (Same.refl _) rfl
  ·exists ra hy T.ik T.ie V3 ?_;exists And.intro (by lia) ?_;refine zT (λ h3=>?_) (λ h3=>?_)
   ·rw [ap (.inr (.inr h3))] at k;left;exact k _ _ (Same.refl _) rfl
   ·rw [ao (λ z=>z.elim h1 λ z=>z.elim h2 h3)] at k;left;intro q hq;exact k _ _ (zf hq) ⟨q,rfl,oB⟩
noncomputable def zhD (n:Nat) (p:Option Nat):Option Ap:=p.map λ (p:Nat)=>[.int 0,.int p,.int ((p + 1) % n:Nat)]
def J0 (K:A0) (C:Addr):Sp:=λ vs H Q _=>∃ (y dx l1 l2 hl fl:Addr) (turn:V) (side:Nat) (hd:V) (hs outs:Ap) (bs:Ai),vs=[.ref y,.ref hl,.ref fl,turn,.int side]/\H y=some (.ins C dx (kf l1 l2))/\H l2=some (.lst outs) /\
 SqL K H hl (hd :: hs)/\SqL K H fl (bs.map V.bl)/\bs.length=outs.length/\bs.length<=1000 /\
 ∀ v H',Same H H'->Told H' v (if hd=.non then none else zhD bs.length (j5 bs side))->Q v H'
theorem Jw (T:Txt K mg a):MCal P w K mg base a.m "choice" 3 ["self","heads","free","turn","side"] [] (J0 K a.m):=T.kr.cal T.ir λ F=>by
 refine F.okx QJ ?_ ?_
 ·walk_at "i"
 walk_at "k";refine oE8 h λ y dx l1 l2 hl fl turn side o8=>oE4 o8 λ hd hs outs bs oi=>oA8 oi λ ou hy h2 hh hf hbl hb k=>?_;clear o8 oi h;subst ou;walk_at "T";refine ⟨_,(zh (zu 5 QJ.nd ‹(zr (pq 1) ze) (za (pq 2) (za (pq 4) zb))›)  (zh (zF (zl ja (pq 5) zA (zq _))  (zd (zk zA))  zp)  (zd (zk (jn (za ze (za (pq 5) (za (zJ jo (zJ qd (pq 5) ze) (qb qa z9 (za (zm (pq 0) rfl) zb))) zb)))))))),?_⟩;exists iE3 _ _ _ ⟨wO T,zt hh at0 (iE4 hd fl bs side (iA4 rfl hf hb ?_))⟩;by_cases hn:hd=.non
 ·rw [ap hn] at k ⊢;left;exact k _ _ (Same.refl _) rfl
 ·rw [ao hn] at k ⊢;cases hp:j5 bs side with
  | none =>
   rw [hp] at k;simp only [Zz];left;exact k _ _ (Same.refl _) rfl
  | some p =>
   rw [hp] at k;simp only [Zz];have hlt:=wK hp;exists ra hy T.ir T.ij zg7 ⟨_,.inl ⟨_,SqL.of h2,rfl⟩,?_⟩;left;rw [<- hbl];refine And.intro (by lia) ?_;left;intro q hq;have e:((p:Int) + 1) % (bs.length:Int)=(((p + 1) % bs.length:Nat):Int):=by push_cast;rfl
   rw [e];exact k _ _ (zf hq) ⟨q,rfl,oB⟩
noncomputable def zf0 (side:V) (p:Option Nat):Option Ap:=p.map λ (p:Nat)=>[.int 0,.int p,side]
def X3 (K:A0):Sp:=λ vs H Q _=>∃ (y hl fl:Addr) (turn side:V) (hd:V) (hs:Ap) (bs:Ai),vs=[.ref y,.ref hl,.ref fl,turn,side] /\
 SqL K H hl (hd :: hs)/\SqL K H fl (bs.map V.bl)/\bs.length<=1000/\∀ v H',Same H H'->Told H' v (if hd=.non then none else zf0 side (j5 bs 0))->Q v H'
theorem Za (T:Txt K mg a):MCal P w K mg base a.n "choice" 3 ["self","heads","free","turn","side"] [] (X3 K):=T.iI.cal T.hW λ F=>by
 refine F.okx vH ?_ ?_
 ·walk_at "i"
 walk_at "k";refine oE8 h λ y hl fl turn side hd hs bs o8=>oA5 o8 λ oi hh hf hb k=>?_;clear o8 h;subst oi;walk_at "T";refine ⟨_,(zh (zu 5 vH.nd ‹(zr (pq 1) ze) (za (pq 2) (za ze zb))›)  (zh (zF (zl ja (pq 5) zA (zq _))  (zd (zk zA))  zp)  (zd (zk (jn (za ze (za (pq 5) (za (pq 4) zb)))))))),?_⟩;exists iE3 _ _ _ ⟨wO T,zt hh at0 (iE4 hd fl bs 0 (iA4 rfl hf hb ?_))⟩;by_cases hn:hd=.non
 ·rw [ap hn] at k ⊢;left;exact k _ _ (Same.refl _) rfl
 ·rw [ao hn] at k ⊢;cases hp:j5 bs 0 with
  | none =>
   rw [hp] at k;simp only [Zz];left;exact k _ _ (Same.refl _) rfl
  | some p =>
   rw [hp] at k;simp only [Zz];left;intro q hq;exact k _ _ (zf hq) ⟨q,rfl,oB⟩
def zgx (C:Addr):Sp:=λ vs H Q _=>∃ (y dx l1 l2:Addr) (n j:Int),vs=[.ref y,.int j]/\H y=some (.ins C dx (vf l1 l2 n))/\Q (.int (if j=n then 0 else 1)) H
def Wm (T:Txt K mg a):MCal P w K mg base a.o "place_for" 1 ["self","kind"] [] (zgx a.o):=T.iW.cal T.ig λ F=>by
 refine F.okx ZP ?_ ?_
 ·walk_at "i"
 walk_at "k";refine oE6 h λ y dx l1 l2 n j o8=>oA3 o8 λ oi hy k=>?_;clear o8 h;subst oi;walk_at "T";refine ⟨_,(zd (zk (wF (zl (qx hr.units1) (pq 1) (zm (pq 0) rfl) (zq _)) ze ze))),?_⟩;exists ra hy T.ig T.iK zgq ?_;exists zT (λ h=>?_) (λ h=>?_)
 ·rw [ap h] at k;left;exact k
 ·rw [ao h] at k;left;exact k
noncomputable def zbT (side:V) (n:Int) (bs:Ai) (hd:V):Option Ap:=if hd=.non then none else if bs.getD (if hd=.int n then 0 else 1) false=true then some [.int 0,.int (if hd=.int n then 0 else 1),side] else none
def X2 (K:A0) (C:Addr):Sp:=λ vs H Q _=>∃ (y dx l1 l2 hl fl:Addr) (n:Int) (turn side:V) (hd:V) (hs:Ap) (bs:Ai),vs=[.ref y,.ref hl,.ref fl,turn,side]/\H y=some (.ins C dx (vf l1 l2 n)) /\
 SqL K H hl (hd :: hs)/\(hd=.non\/∃ j,hd=.int j)/\SqL K H fl (bs.map V.bl)/\bs.length=2/\∀ v H',Same H H'->Told H' v (zbT side n bs hd)->Q v H'
theorem XB (T:Txt K mg a):MCal P w K mg base a.o "choice" 2 ["self","heads","free","turn","side"] [] (X2 K a.o):=T.kR.cal T.ig λ F=>by
 refine F.okx Jp ?_ ?_
 ·walk_at "i"
 walk_at "k";refine oE8 h λ y dx l1 l2 hl fl n turn o8=>oE4 o8 λ side hd hs bs oi=>oA7 oi λ ou hy hh hhd hf hb k=>?_;clear o8 oi h;subst ou;walk_at "T";refine ⟨_,(zh (zF (zl ja (zr (pq 1) ze) zA (zq _))  (zd (zk zA))  zp)  (zh (zu 5 Jp.nd (QX ⟨rfl,rfl,rfl⟩ hr (pq 0) (za (zr (pq 1) ze) zb)))  (zh (zF (jv (qO (zr (pq 2) (pq 5)) (λ _=>rfl)))  (zd (zk zA))  zp)  (zd (zk (jn (za ze (za (pq 5) (za (pq 4) zb))))))))),?_⟩;exists zt hh at0 ?_;rcases hhd with rfl|⟨j,rfl⟩
 ·left;exact k _ _ (Same.refl _) rfl
 ·exists iE7 y a.o dx _ _ _ _ (iA5 rfl hy (zi2 (by symm) (by symm) (by symm)) (Wm T) (zt hh at0 (iE6 y dx l1 l2 n j (iA3 rfl hy ?_))));left;obtain ⟨pp,hpp,hp2⟩:∃ pp:Nat,(if j=n then (0:Int) else 1)=pp/\pp < 2:=by split;exact ⟨0,rfl,by decide⟩;exact ⟨1,rfl,by decide⟩
  have e1:(if V.int j=V.int n then (0:Nat) else 1)=pp:=by
   by_cases h:j=n
   ·rw [ap h] at hpp;rw [ap (by rw [h])];lia
   ·rw [ao h] at hpp;rw [ao (λ z=>h (by cases z;rfl))];lia
  have e2:(if V.int j=V.int n then (0:Int) else 1)=pp:=by
   by_cases h:j=n
   ·rw [ap h] at hpp;rw [ap (by rw [h])];lia
   ·rw [ao h] at hpp;rw [ao (λ z=>h (by cases z;rfl))];lia
  rw [hpp];have hlt:pp < bs.length:=by lia
  refine zt hf (zD (by rw [ak,ac hlt];rfl)) ?_;have eg:bs.getD pp false=bs[pp]:=by simp [hlt]
  unfold zbT at k;rw [ao (by intro z;cases z),e1,e2,eg] at k;left;cases hbb:bs[pp] with
  | true =>
   rw [hbb,ap rfl] at k;left;intro q hq;exact k _ _ (zf hq) ⟨q,rfl,oB⟩
  | false =>
   rw [hbb,ao (by decide)] at k;left;exact k _ _ (Same.refl _) rfl
noncomputable def zhG (n:Nat) (p:Option Nat):Option Ap:=p.map λ (p:Nat)=>[.int p,.int 0,.int ((p + 1) % n:Nat)]
noncomputable def there (hs:Ap):List Bool:=hs.map λ h=>!decide (h=.non)
def J3 (K:A0) (C:Addr):Sp:=λ vs H Q _=>∃ (y dx l1 l2 hl fl:Addr) (turn:V) (side:Nat) (hs ins:Ap) (b:Bool) (bs:Ap),vs=[.ref y,.ref hl,.ref fl,turn,.int side]/\H y=some (.ins C dx (kf l1 l2))/\H l1=some (.lst ins) /\
 SqL K H hl hs/\SqL K H fl (.bl b :: bs)/\hs.length=ins.length/\hs.length<=900/\∀ v H',Same H H'->Told H' v (if b=true then zhG hs.length (j5 (there hs) side) else none)->Q v H'
theorem Jy (T:Txt K mg a):MCal P w K mg base a.p "choice" 2 ["self","heads","free","turn","side"] [] (J3 K a.p):=T.kx.cal T.iu λ F=>by
 refine F.okx QM ?_ ?_
 ·walk_at "i"
 walk_at "k";refine oE8 h λ y dx l1 l2 hl fl turn side o8=>oE4 o8 λ hs ins b bs oi=>oA8 oi λ ou hy h1 hh hf hlen hb k=>?_;clear o8 oi h;subst ou;walk_at "T";refine ⟨_,(zh (zF (jv (qO (zr (pq 2) ze) (λ _=>rfl)))  (zd (zk zA))  zp)  (zh (zu 5 QM.nd ‹(jI (vars:=["head"]) (caps:=[]) (N:=["head"]) (ON:=["self","heads","free","turn","side","place"]) (osc:=zg jA) rfl rfl (by right) rfl rfl (qo (pq 1)) (λ _ _ _ _=>(qp 0 (show (["head"]:A8).Nodup from by symm))) (λ _ _ _ _=>ql) (λ _ _ _ _=>(Zo op_notN (pq 0) zA (zq _)))) (za (pq 4) zb)›)  (zh (zF (zl ja (pq 5) zA (zq _))  (zd (zk zA))  zp)  (zd (zk (jn (za (pq 5) (za ze (za (zJ jo (zJ qd (pq 5) ze) (qb qa z9 (za (zm (pq 0) rfl) zb))) zb))))))))),?_⟩;exists zt hf at0 ?_;left;cases b with
 | false =>
  rw [ao (by decide)] at k;left;exact k _ _ (Same.refl _) rfl
 | true =>
  rw [ap rfl] at k;exists iE3 _ _ _ ⟨ZK T,?_⟩;walk_at "d";exists ⟨hl,rfl,.inl ⟨⟨_,hh⟩,λ _ _ _ _ oq hacc=>?_⟩⟩;refine qK (K:=K) (a:=hl) (xs:=hs) (λ i σ H'=>∃ (v:Aq),σ=[v]/\Same H H'/\H' oq=some (.lst ((there (hs.take i)).map V.bl))) ⟨_,iA3 rfl (zf hacc) oB⟩ (λ i σ H' _ ⟨_,_,s,_⟩=>s.seq hh) ?_ ?_
  ·intro i x σ H' hi oj;refine oE1 oj λ v o8=>oA3 o8 λ oi s ha=>?_;ext;exists ⟨_,iA3 ha ?_ ⟨_,iA3 rfl ?_ ?_⟩⟩
   ·simp only [there,ah,aJ];exact zn (by lia)
   ·intro b o hb;rw [oC (oE hb hacc)];exact s b o hb
   ·rw [oB,gF,hi];simp [there]
  ·intro σ H' oj;refine oE1 oj λ v o8=>oA3 o8 λ oi s ha=>?_;ext;rw [aM] at ha;refine iE3 oq (there hs) side (iA4 rfl (SqL.of ha) (by simp [there];lia) ?_);have hlt:(there hs).length=hs.length:=by simp [there]
   cases hp:j5 (there hs) side with
   | none =>
    rw [hp] at k;simp only [Zz];left;exact k _ _ s rfl
   | some p =>
    rw [hp] at k;simp only [Zz];have hlt':=wK hp;exists ra (s _ _ hy) T.iu T.iw zit ⟨_,.inl ⟨_,SqL.of (s _ _ h1),rfl⟩,?_⟩;left;rw [<- hlen];refine And.intro (by lia) ?_;left;intro q hq;have e:((p:Int) + 1) % (hs.length:Int)=(((p + 1) % hs.length:Nat):Int):=by push_cast;rfl
    rw [e];exact k _ _ (s.trans (zf hq)) ⟨q,rfl,oB⟩
def MCal.imp {m:Str} {dvs:Ap} {sp sp':Sp} (c:MCal P w K mg base C m k ps dvs sp) (h:∀ vs H Q E,sp' vs H Q E->sp vs H Q E):MCal P w K mg base C m k ps dvs sp' :=
 let ⟨f,fd,ds,x,y⟩:=c.ex;⟨c.cl,f,fd,ds,x.imp h,y⟩
def V0 {k:Str} {ks:A8} (n:fs.map (·.1)=k :: ks):∃ v gs,fs=(k,v) :: gs/\gs.map (·.1)=ks:=by
 cases fs with
 | nil=>cases n
 | cons x gs =>
  obtain ⟨k',v⟩:=x;injection n with n1 n2
  exact ⟨v,gs,by rw [<- n1],n2⟩
def ziG (n:fs.map (·.1)=[]):fs=[]:=List.map_eq_nil_iff.mp n
def fs2 {k1 k2:Str} {d1 d2:D} (n:fs.map (·.1)=[k1,k2]) (g:∀ (i:Nat) f g,fs[i]?=some f->[(k1,d1),(k2,d2)][i]?=some g->Rep H p f.2 g.2):∃ v1 v2,fs=[(k1,v1),(k2,v2)]/\Rep H p v1 d1/\Rep H p v2 d2:=by
 obtain ⟨v1,f1,rfl,n1⟩:=V0 n;obtain ⟨v2,f2,rfl,n2⟩:=V0 n1;obtain rfl:=ziG n2;exact ⟨v1,v2,rfl,g 0 _ _ rfl rfl,g 1 _ _ rfl rfl⟩
section
variable {H:Hp} {p:A5} {y:Addr} {ins outs kinds:A6} {pace:Int}
def KnP.parter (h:KnP a H p (.ref y) ⟨.parter,ins,outs,pace,kinds⟩):∃ dx l1 l2,H y=some (.ins a.m dx (kf l1 l2))/\H l2=some (.lst (iv outs)):=by
 cases h with|ob _ hy n g =>
  obtain ⟨v1,v2,rfl,r1,r2⟩:=fs2 n g;obtain ⟨l1,rfl,_,_⟩:=r1.ints';obtain ⟨l2,rfl,_,h2⟩:=r2.ints';exact ⟨_,l1,l2,by rw [XJ];exact hy,h2⟩
end
def fs3 {k1 k2 k3:Str} {d1 d2 d3:D} (n:fs.map (·.1)=[k1,k2,k3]) (g:∀ (i:Nat) f g,fs[i]?=some f->[(k1,d1),(k2,d2),(k3,d3)][i]?=some g->Rep H p f.2 g.2):∃ v1 v2 v3,fs=[(k1,v1),(k2,v2),(k3,v3)]/\Rep H p v1 d1/\Rep H p v2 d2/\Rep H p v3 d3:=by
 obtain ⟨v1,f1,rfl,n1⟩:=V0 n;obtain ⟨v2,f2,rfl,n2⟩:=V0 n1;obtain ⟨v3,f3,rfl,n3⟩:=V0 n2;obtain rfl:=ziG n3;exact ⟨v1,v2,v3,rfl,g 0 _ _ rfl rfl,g 1 _ _ rfl rfl,g 2 _ _ rfl rfl⟩
def fs4 {k1 k2 k3 k4:Str} {d1 d2 d3 d4:D} (n:fs.map (·.1)=[k1,k2,k3,k4]) (g:∀ (i:Nat) f g,fs[i]?=some f->[(k1,d1),(k2,d2),(k3,d3),(k4,d4)][i]?=some g->Rep H p f.2 g.2):∃ v1 v2 v3 v4,fs=[(k1,v1),(k2,v2),(k3,v3),(k4,v4)]/\Rep H p v1 d1/\Rep H p v2 d2/\Rep H p v3 d3/\Rep H p v4 d4:=by
 obtain ⟨v1,f1,rfl,n1⟩:=V0 n;obtain ⟨v2,f2,rfl,n2⟩:=V0 n1;obtain ⟨v3,f3,rfl,n3⟩:=V0 n2;obtain ⟨v4,f4,rfl,n4⟩:=V0 n3;obtain rfl:=ziG n4;exact ⟨v1,v2,v3,v4,rfl,g 0 _ _ rfl rfl,g 1 _ _ rfl rfl,g 2 _ _ rfl rfl,g 3 _ _ rfl rfl⟩
section
variable {H:Hp} {p:A5} {y:Addr} {ins outs kinds:A6} {pace:Int}
def KnP.source (h:KnP a H p (.ref y) ⟨.source,ins,outs,pace,kinds⟩):∃ dx l1 l2 l3,H y=some (.ins a.k dx (sf l1 l2 pace l3)):=by
 cases h with|ob _ hy n g =>
  obtain ⟨v1,v2,v3,v4,rfl,r1,r2,r3,r4⟩:=fs4 n g;obtain ⟨l1,rfl,_,_⟩:=r1.ints';obtain ⟨l2,rfl,_,_⟩:=r2.ints';cases r3;obtain ⟨l4,rfl,_,_⟩:=r4.ints';exact ⟨_,l1,l2,l4,by rw [zhz];exact hy⟩
def KnP.drain (h:KnP a H p (.ref y) ⟨.drain,ins,outs,pace,kinds⟩):∃ dx l1 l2,H y=some (.ins a.l dx (df l1 l2 pace)):=by
 cases h with|ob _ hy n g =>
  obtain ⟨v1,v2,v3,rfl,r1,r2,r3⟩:=fs3 n g;obtain ⟨l1,rfl,_,_⟩:=r1.ints';obtain ⟨l2,rfl,_,_⟩:=r2.ints';cases r3;exact ⟨_,l1,l2,by rw [zf5];exact hy⟩
def KnP.sieve {k:Int} (h:KnP a H p (.ref y) ⟨.sieve,ins,outs,pace,[k]⟩):∃ dx l1 l2,H y=some (.ins a.o dx (vf l1 l2 k)):=by
 cases h with|ob _ hy n g =>
  obtain ⟨v1,v2,v3,rfl,r1,r2,r3⟩:=fs3 n g;obtain ⟨l1,rfl,_,_⟩:=r1.ints';obtain ⟨l2,rfl,_,_⟩:=r2.ints';cases r3;exact ⟨_,l1,l2,by rw [zhv];exact hy⟩
def KnP.joiner (h:KnP a H p (.ref y) ⟨.joiner,ins,outs,pace,kinds⟩):∃ dx l1 l2,H y=some (.ins a.p dx (kf l1 l2))/\H l1=some (.lst (iv ins)):=by
 cases h with|ob _ hy n g =>
  obtain ⟨v1,v2,rfl,r1,r2⟩:=fs2 n g;obtain ⟨l1,rfl,_,h1⟩:=r1.ints';obtain ⟨l2,rfl,_,_⟩:=r2.ints';exact ⟨_,l1,l2,by rw [XJ];exact hy,h1⟩
end
noncomputable def hdV:Option Int->V
 | none=>.non
 | some k=>.int k
noncomputable def z7 (r:Row) (hs:List A9) (bs:Ai) (t:Int) (side:Nat):Option Ak:=match r.wd with
 | .source=>if bs.getD 0 false=true/\t % r.pace=0 then some (none,some 0,side) else none
 | .drain=>if r.pace=0\/hs.getD 0 none=none\/t % r.pace≠0 then none else some (some 0,none,side)
 | .parter=>if hs.getD 0 none=none then none else (j5 bs side).map λ p=>(some 0,some p,(p + 1) % bs.length)
 | .first=>if hs.getD 0 none=none then none else (j5 bs 0).map λ p=>(some 0,some p,side)
 | .sieve=>if hs.getD 0 none=none then none else if bs.getD (if hs.getD 0 none=some (r.kinds.headD 0) then 0 else 1) false=true then some (some 0,some (if hs.getD 0 none=some (r.kinds.headD 0) then 0 else 1),side) else none
 | .joiner=>if bs.getD 0 false=true then (j5 (hs.map Option.isSome) side).map λ p=>(some p,some 0,(p + 1) % hs.length) else none
noncomputable def chV (x:Ak):List V:=[Zz x.1,Zz x.2.1,.int (x.2.2:Nat)]
def ze2 (K:A0) (a:Ad) (wd:Wd):Sp:=λ vs H Q _=>∃ (y hl fl:Addr) (r:Row) (p:A5) (hs:List A9) (bs:Ai) (t:Int) (side:Nat),vs=[.ref y,.ref hl,.ref fl,.int t,.int side]/\KnP a H p (.ref y) r/\r.wd=wd/\r.ok /\
 H hl=some (.lst (hs.map hdV))/\H fl=some (.lst (bs.map V.bl))/\hs.length=r.ins.length/\bs.length=r.outs.length/\∀ v H',Same H H'->Told H' v ((z7 r hs bs t side).map chV)->Q v H'
def JQ {x:A9}:(hdV x=.non)=(x=none):=by
 cases x <;> simp [hdV]
def zeP (hs:List A9):there (hs.map hdV)=hs.map Option.isSome:=by
 simp only [there,dJ]
 congr 1
 funext x
 cases x <;> simp [hdV]
def zfD (T:Txt K mg a) (wd:Wd):MCal P w K mg base (wM a wd) "choice" 3 ["self","heads","free","turn","side"] [] (ze2 K a wd):=by
 cases wd with
 | source =>
  refine MCal.imp (Ju T).mono λ vs H Q E h=>?_;obtain ⟨y,hl,fl,⟨wd,ins,outs,pace,kinds⟩,p,hs,bs,t,side,rfl,hK,hw,ok,hh,hf,l1,l2,k⟩:=h;simp only at hw;subst hw;obtain ⟨dx,m1,m2,m3,hy⟩:=hK.source;obtain ⟨_,⟨o,eo⟩,p1,_⟩:=ok;simp only at eo p1 l2;subst eo
  match bs,l2 with
  | [b],_ =>
   refine ⟨y,dx,m1,m2,m3,fl,pace,t,_,_,b,[],rfl,hy,p1,SqL.of hf,λ v H' s ht=>k v H' s ?_⟩;unfold Vq at ht;simp only [z7];by_cases hc:b=true/\t % pace=0
   ·rw [ap hc] at ht;rw [ap (by simpa using hc)];exact ht
   ·rw [ao hc] at ht;rw [ao (by simpa using hc)];exact ht
 | drain =>
  refine MCal.imp (XF T).mono λ vs H Q E h=>?_;obtain ⟨y,hl,fl,⟨wd,ins,outs,pace,kinds⟩,p,hs,bs,t,side,rfl,hK,hw,ok,hh,hf,l1,l2,k⟩:=h;simp only at hw;subst hw;obtain ⟨dx,m1,m2,hy⟩:=hK.drain;obtain ⟨⟨o,eo⟩,_,p1,p4⟩:=ok;simp only at eo p1 p4 l1;subst eo
  match hs,l1 with
  | [hd],_ =>
   refine ⟨y,dx,m1,m2,hl,pace,t,_,_,hdV hd,[],rfl,hy,p1,p4,SqL.of hh,λ v H' s ht=>k v H' s ?_⟩;unfold zcC at ht;simp only [JQ] at ht;simp only [z7];by_cases hc:pace=0\/hd=none\/t % pace≠0
   ·rw [ap hc] at ht;rw [ap (by simpa using hc)];exact ht
   ·rw [ao hc] at ht;rw [ao (by simpa using hc)];exact ht
 | parter =>
  refine MCal.imp (Jw T).mono λ vs H Q E h=>?_;obtain ⟨y,hl,fl,⟨wd,ins,outs,pace,kinds⟩,p,hs,bs,t,side,rfl,hK,hw,ok,hh,hf,l1,l2,k⟩:=h;simp only at hw;subst hw;obtain ⟨dx,m1,m2,hy,h2⟩:=hK.parter;obtain ⟨⟨o,eo⟩,q1,q2⟩:=ok;simp only at eo l1 l2 q1 q2;subst eo
  match hs,l1 with
  | [hd],_ =>
   refine ⟨y,dx,m1,m2,hl,fl,_,side,hdV hd,[],iv outs,bs,rfl,hy,h2,SqL.of hh,SqL.of hf,by rw [zK];exact l2,by lia,λ v H' s ht=>k v H' s ?_⟩;simp only [JQ] at ht;simp only [z7];by_cases hc:hd=none
   ·rw [ap hc] at ht;rw [ap (by simpa using hc)];exact ht
   ·rw [ao hc] at ht;rw [ao (by simpa using hc)];unfold zhD at ht;rw [eR];exact ht
 | first =>
  refine MCal.imp (Za T).mono λ vs H Q E h=>?_;obtain ⟨y,hl,fl,⟨wd,ins,outs,pace,kinds⟩,p,hs,bs,t,side,rfl,hK,hw,ok,hh,hf,l1,l2,k⟩:=h;simp only at hw;subst hw;obtain ⟨⟨o,eo⟩,q1,q2⟩:=ok;simp only at eo l1 l2 q1 q2;subst eo
  match hs,l1 with
  | [hd],_ =>
   refine ⟨y,hl,fl,_,_,hdV hd,[],bs,rfl,SqL.of hh,SqL.of hf,by lia,λ v H' s ht=>k v H' s ?_⟩;simp only [JQ] at ht;simp only [z7];by_cases hc:hd=none
   ·rw [ap hc] at ht;rw [ap (by simpa using hc)];exact ht
   ·rw [ao hc] at ht;rw [ao (by simpa using hc)];unfold zf0 at ht;rw [eR];exact ht
 | sieve =>
  refine MCal.imp (XB T).mono λ vs H Q E h=>?_;obtain ⟨y,hl,fl,⟨wd,ins,outs,pace,kinds⟩,p,hs,bs,t,side,rfl,hK,hw,ok,hh,hf,l1,l2,k⟩:=h;simp only at hw;subst hw;obtain ⟨⟨o,eo⟩,q1,kk,q2,_⟩:=ok;simp only at eo l1 l2 q1 q2;subst eo q2;obtain ⟨dx,m1,m2,hy⟩:=hK.sieve
  match hs,l1 with
  | [hd],_ =>
   refine ⟨y,dx,m1,m2,hl,fl,kk,_,_,hdV hd,[],bs,rfl,hy,SqL.of hh,by cases hd;exact .inl rfl;exact .inr ⟨_,rfl⟩,SqL.of hf,by lia,λ v H' s ht=>k v H' s ?_⟩;unfold zbT at ht;simp only [JQ] at ht;simp only [z7];by_cases hc:hd=none
   ·rw [ap hc] at ht;rw [ap (by simpa using hc)];exact ht
   ·rw [ao hc] at ht;rw [ao (by simpa using hc)];have e:(hdV hd=.int kk)=([hd].getD 0 none=some (List.headD [kk] 0)):=by
     cases hd with
     | none=>exact absurd rfl hc
     | some x=>simp [hdV]
    have e1:(if hdV hd=V.int kk then (0:Nat) else 1)=(if [hd].getD 0 none=some (List.headD [kk] 0) then 0 else 1):=by simp only [e]
    have e2:(if hdV hd=V.int kk then (0:Int) else 1)=((if [hd].getD 0 none=some (List.headD [kk] 0) then 0 else 1:Nat):Int):=by simp only [e];split <;> rfl
    rw [e1,e2] at ht;generalize (if [hd].getD 0 none=some (List.headD [kk] 0) then 0 else 1)=q at ht ⊢;by_cases hb:bs.getD q false=true
    ·rw [ap hb] at ht ⊢;exact ht
    ·rw [ao hb] at ht ⊢;exact ht
 | joiner =>
  refine MCal.imp (Jy T).mono λ vs H Q E h=>?_;obtain ⟨y,hl,fl,⟨wd,ins,outs,pace,kinds⟩,p,hs,bs,t,side,rfl,hK,hw,ok,hh,hf,l1,l2,k⟩:=h;simp only at hw;subst hw;obtain ⟨⟨o,eo⟩,q1,q2⟩:=ok;simp only at eo l1 l2 q1 q2;subst eo;obtain ⟨dx,m1,m2,hy,h1⟩:=hK.joiner
  match bs,l2 with
  | [b],_ =>
   refine ⟨y,dx,m1,m2,hl,fl,_,side,hs.map hdV,iv ins,b,[],rfl,hy,h1,SqL.of hh,SqL.of hf,by rw [ah,zK];exact l1,by rw [ah];lia,λ v H' s ht=>k v H' s ?_⟩;rw [zeP,ah] at ht;simp only [z7];by_cases hc:b=true
   ·rw [ap hc] at ht;rw [ap (by simpa using hc)];unfold zhG at ht;rw [eR];exact ht
   ·rw [ao hc] at ht;rw [ao (by simpa using hc)];exact ht
abbrev zC:=Option (Int × Int)
abbrev Av:=List zC
abbrev Au:=List Av
noncomputable def zX:zC->D
 | none=>.non
 | some (s,n)=>.tup [.int s,.int n]
def zem (x:zC):Hard (zX x):=by
 cases x with
 | none=>exact .non
 | some x =>
  refine .tup λ i d h=>?_;have:d∈[D.int x.1,D.int x.2]:=af h;simp at this;rcases this with rfl|rfl <;> exact .int
structure PSt where
 turn:Int
 cells:List Av
 sides:List Int
 gone:List A6
noncomputable abbrev zV (cs:Au):List (List D):=cs.map λ c=>c.map zX
noncomputable abbrev qt (gs:List A6):List (List D):=gs.map λ g=>g.map D.int
noncomputable def stF (st:PSt):List (Str × D):=[("turn",.int st.turn),("cells",.lst ((zV st.cells).map D.lst)),("sides",.ints st.sides),("gone",.lst ((qt st.gone).map D.lst))]
noncomputable def jE (a:Ad) (st:PSt):D:=.ob a.b (stF st)
def Z5 (st:PSt):(stF st).lookup ("turn":Str)=some (.int st.turn):=jp
def wz (st:PSt):(stF st).lookup ("cells":Str)=some (.lst ((zV st.cells).map D.lst)):=(zW (by symm)).trans jp
def Zl (st:PSt):(stF st).lookup ("sides":Str)=some (.ints st.sides):=(zW (by symm)).trans ((zW (by symm)).trans jp)
def Z6 (st:PSt):(stF st).lookup ("gone":Str)=some (.lst ((qt st.gone).map D.lst)):=(zW (by symm)).trans ((zW (by symm)).trans ((zW (by symm)).trans jp))
noncomputable def sff (t:Int) (lc ls lg:Addr):List (Str × V):=[(("turn":Str),V.int t),(("cells":Str),V.ref lc),(("sides":Str),V.ref ls),(("gone":Str),V.ref lg)]
theorem zjQ {t:Int}:zS "turn" (.int t) []=([(("turn":Str),V.int t)]:Ar):=rfl
def zjP {t:Int} {lc:Addr}:zS "cells" (.ref lc) [(("turn":Str),V.int t)]=([(("turn":Str),V.int t),(("cells":Str),V.ref lc)]:Ar):=by
 simp only [zS];rw [ao (by symm)]
def zjO {t:Int} {lc ls:Addr}:zS "sides" (.ref ls) [(("turn":Str),V.int t),(("cells":Str),V.ref lc)]=([(("turn":Str),V.int t),(("cells":Str),V.ref lc),(("sides":Str),V.ref ls)]:Ar):=by
 simp only [zS];rw [ao (by symm),ao (by symm)]
def zjN {t:Int} {lc ls lg:Addr}:zS "gone" (.ref lg) [(("turn":Str),V.int t),(("cells":Str),V.ref lc),(("sides":Str),V.ref ls)]=sff t lc ls lg:=by
 unfold sff;simp only [zS];rw [ao (by symm),ao (by symm),ao (by symm)]
structure SN where
 dx:Addr
 lc:Addr
 ls:Addr
 lg:Addr
 acs:List Addr
 ags:List Addr
noncomputable def SN.all (n:SN):List Addr:=n.ls :: n.lc :: n.lg :: (n.acs ++ n.ags)
structure StO (a:Ad) (H:Hp) (y:Addr) (n:SN) (st:PSt):Prop where
 hy:H y=some (.ins a.b n.dx (sff st.turn n.lc n.ls n.lg))
 hc:NL H (z8 H) n.lc n.acs (zV st.cells)
 hs:H n.ls=some (.lst (iv st.sides))
 hg:NL H (z8 H) n.lg n.ags (qt st.gone)
 nd:n.all.Nodup
def StO.rep {y:Addr} {n:SN} {st:PSt} (h:StO a H y n st):Rep H (Off []) (.ref y) (jE a st) :=
 wu (λ z=>nomatch z) h.hy rfl (.cons .int (.cons h.hc.rep (.cons (qm (λ z=>nomatch z) h.hs) (.cons h.hg.rep .nil))))
def StO.same {H H':Hp} {y:Addr} {n:SN} {st:PSt} (h:StO a H y n st) (s:Same H H'):StO a H' y n st :=
 ⟨s _ _ h.hy,h.hc.keep (λ b o _ hb=>s b o hb) (λ b ⟨xs,hx⟩ _=>⟨xs,s _ _ hx⟩),s _ _ h.hs,h.hg.keep (λ b o _ hb=>s b o hb) (λ b ⟨xs,hx⟩ _=>⟨xs,s _ _ hx⟩),h.nd⟩
def vM (a:Ad):Sp:=λ vs H Q _=>∃ (y dx:Addr) (vc vs' vg:V) (st:PSt) (p:A5),vs=[.ref y,.int st.turn,vc,vs',vg]/\H y=some (.ins a.b dx [])/\(∀ b,p b->b≠y) /\
 Rep H p vc (.lst ((zV st.cells).map D.lst))/\Rep H p vs' (.ints st.sides)/\Rep H p vg (.lst ((qt st.gone).map D.lst))/\st.cells.length<=100/\st.gone.length<=100 /\
 ∀ H' n,n.dx=dx->Own H H' y->StO a H' y n st->(∀ b∈n.all,H b=none)->Q .non H'
def zaH {ds:List D} (h:Reps H p vs ds) (hd:∀ d∈ds,Hard d):Reps H (z8 H) vs ds :=
 ⟨h.len,λ i v d e1 e2=>(h.g i v d e1 e2).hard (hd d (af e2)) λ b xs _ hb=>⟨xs,hb⟩⟩
def zcx (c:Av):∀ d∈c.map zX,Hard d:=λ d hd=>by
 obtain ⟨x,_,rfl⟩:=aO.mp hd;exact zem x
def zen (c:A6):∀ d∈c.map D.int,Hard d:=λ d hd=>by
 obtain ⟨x,_,rfl⟩:=aO.mp hd;exact .int
def Wi (T:Txt K mg a) (F:Fun K "__init__" "State.__init__" jt f fd):FnOk P w K mg base (CXr P w) 1 f fd ["self","turn","cells","sides","gone"] (vM a):=by
 refine F.okx Wf ?_ ?_
 ·walk_at "i"
 walk_at "j";refine oE7 h λ y dx vc vs' vg st p o8=>oA9 o8 λ oi hy hp rc rs rg lc lg k=>?_;clear o8 h;subst oi;refine oE2 rc.lst' λ c0 ucs o8=>oA4 o8 λ oi pc0 hc0 rcs=>?_;clear o8;subst oi;refine oE1 rs.ints' λ s0 o8=>oA3 o8 λ oi ps0 hs0=>?_;clear o8;subst oi;have hs0:H s0=some (.lst (iv st.sides)):=hs0;refine oE2 rg.lst' λ g0 ugs o8=>oA4 o8 λ oi pg0 hg0 rgs=>?_;clear o8;subst oi;have lcs:ucs.length=st.cells.length:=by rw [rcs.len,ah,ah]
 have lgs:ugs.length=st.gone.length:=by rw [rgs.len,ah,ah]
 walk_at "T";refine ⟨_,(zi (qZ (pq 0) (pq 1) rfl)  (zi (qZ (pq 0) (jI (vars:=["belt_cells"]) (caps:=[]) (N:=["belt_cells"]) (ON:=["self","turn","cells","sides","gone"]) (osc:=zg jt) rfl rfl (by right) rfl rfl (qo (pq 2)) (λ _ _ _ _=>(qp 0 (show (["belt_cells"]:A8).Nodup from by symm))) (λ _ _ _ _=>ql) (λ _ _ _ _=>(wG Zv vA (za (pq 0) zb)))) rfl)  (zi (qZ (pq 0) (wG Zv vA (za (pq 3) zb)) rfl)  (zd (qZ (pq 0) (jI (vars:=["counts"]) (caps:=[]) (N:=["counts"]) (ON:=["self","turn","cells","sides","gone"]) (osc:=zg jt) rfl rfl (by right) rfl rfl (qo (pq 4)) (λ _ _ _ _=>(qp 0 (show (["counts"]:A8).Nodup from by symm))) (λ _ _ _ _=>ql) (λ _ _ _ _=>(wG Zv vA (za (pq 0) zb)))) rfl))))),?_⟩;exists iE4 y a.b dx ([]) (iA6 rfl hy T.ad T.gS (by decide) ?_);rw [zjQ];have o1:Own H (upd H y (.ins a.b dx [(("turn":Str),V.int st.turn)])) y:=jB;have y1:upd H y (.ins a.b dx [(("turn":Str),V.int st.turn)]) y=some (.ins a.b dx [(("turn":Str),V.int st.turn)]):=oB;generalize upd H y (.ins a.b dx [(("turn":Str),V.int st.turn)])=H1 at o1 y1 ⊢;have kp:∀ b,z8 H b->H b≠none->b≠y:=λ b ⟨xs,hx⟩ _ z=>by rw [z,hy] at hx;cases hx
 walk_at "d";exists ⟨c0,rfl,.inl ⟨⟨_,SqL.of (o1 _ _ (hp _ pc0) hc0)⟩,λ _ _ _ _ oq hacc=>?_⟩⟩;let ow:Nat->St->Hp->Prop:=λ i σ H'=>∃ (v0:Aq) (as:Ab),σ=[v0]/\Same H1 H'/\NL H' (z8 H) oq as (zV (st.cells.take i))/\∀ b∈as,H1 b=none;refine qK (K:=K) (a:=c0) (xs:=ucs) ow (iE2 _ ([]) (iA4 rfl (zf hacc) (by rw [bJ];exact zch oB) (by simp))) (λ i σ H' _ h=>by obtain ⟨_,_,_,s,_⟩:=h;exact SqL.of (s _ _ (o1 _ _ (hp _ pc0) hc0))) ?_ ?_
 ·intro i x σ H2 hi oj;refine oE2 oj λ v0 as o8=>oA4 o8 λ oi s2 nl fr=>?_;ext;obtain ⟨d,hd,rx⟩:=rcs.at hi;rw [ak,ak] at hd;obtain ⟨c,hc⟩:∃ c,st.cells[i]?=some c:=by
   cases e:st.cells[i]? with
   | none=>rw [e] at hd;cases hd
   | some c=>exact ⟨c,rfl⟩
  rw [hc] at hd;cases hd;refine oE2 (Rep.lst' rx) λ li vi o8=>oA4 o8 λ oi pli hli ri=>?_;clear o8;subst oi;have hil:=(aa.mp hc).1;have hli2:=s2 _ _ (o1 _ _ (hp _ pli) hli);exists iE2 li _ (iA3 rfl (.inl (SqL.of hli2)) (λ b hb=>?_));have nb:b ∉ as:=λ z=>by
   obtain ⟨j,hj⟩:=bx z;obtain ⟨vs,h1,_⟩:=nl.g j b _ hj (ac (by rw [<- nl.len];exact (aa.mp hj).1));rw [h1] at hb;cases hb
  have nG:b≠oq:=λ z=>by rw [z,nl.out] at hb;cases hb
  have s3:Same H2 (upd H2 b (.lst vi)):=zf hb;have ac3:=oF (o:=.lst vi) nl.out hb;refine ⟨_,iA3 ac3 (zn (by rw [ah,nl.len,ah,aJ];lia)) ?_⟩;have ri3:Reps (upd H2 b (.lst vi)) (z8 H) vi (c.map zX):=(zaH ri (zcx c)).keep λ z o pz hz=>⟨pz,s3 _ _ (s2 _ _ (o1 _ _ (kp z pz (by rw [hz];intro q;cases q)) hz))⟩;have nl3:=(nl.same s3).push (b:=b) (vs:=vi) (ys:=c.map zX) oB nb nG (λ ⟨xs,hx⟩=>by
   have:=o1 _ _ (kp oq ⟨xs,hx⟩ (by rw [hx];intro q;cases q)) hx;rw [hacc] at this;cases this) ri3
  refine iE2 _ (as ++ [b]) (iA4 rfl ?_ ?_ ?_)
  ·exact λ z o hz=>by rw [oC (oE hz hacc)];exact s3 _ _ (s2 _ _ hz)
  ·rw [aH,hc];rw [show zV (st.cells.take i ++ (some c).toList)=zV (st.cells.take i) ++ [c.map zX] by simp [zV]];exact nl3
  ·intro z hz;rcases aE.mp hz with hz|hz
   ·exact fr z hz
   ·rw [aw.mp hz];exact zw s2 hb
 intro σ H2 oj;refine oE2 oj λ v0 acs o8=>oA4 o8 λ oi s2 nlc frc=>?_;ext;rw [lcs,aM] at nlc;have y2:=s2 _ _ y1;exists iE4 y a.b dx _ (iA6 rfl y2 T.ad T.gM (by simp) ?_);rw [zjP];have nay:oq≠y:=λ z=>by rw [z,y1] at hacc;cases hacc
 have hx0:∀ {z:Addr},H1 z=none->z≠y/\H z=none:=λ {z} hz=>by
  have n1:z≠y:=λ q=>by rw [q,y1] at hz;cases hz
  refine ⟨n1,?_⟩;cases e:H z with
  | none=>rfl
  | some o=>rw [o1 z o n1 e] at hz;cases hz
 have o3:Own H (upd H2 y (.ins a.b dx [(("turn":Str),V.int st.turn),(("cells":Str),V.ref oq)])) y:=(o1.trans (Same.own s2)).trans jB;have y3:upd H2 y (.ins a.b dx [(("turn":Str),V.int st.turn),(("cells":Str),V.ref oq)]) y=some (.ins a.b dx [(("turn":Str),V.int st.turn),(("cells":Str),V.ref oq)]):=oB;have nl3:NL (upd H2 y (.ins a.b dx [(("turn":Str),V.int st.turn),(("cells":Str),V.ref oq)])) (z8 H) oq acs (zV st.cells):=nlc.keep (λ z o hz ho=>by
  refine (oC (λ q=>?_)).trans ho;rcases hz with h|h|h
  ·exact nay (h.symm.trans q)
  ·exact (hx0 (frc z h)).1 q
  ·obtain ⟨xs,hx⟩:=h;rw [q,hy] at hx;cases hx) λ _ hp _=>hp
 generalize upd H2 y (.ins a.b dx [(("turn":Str),V.int st.turn),(("cells":Str),V.ref oq)])=H3 at o3 y3 nl3 ⊢;exists iE2 s0 _ (iA3 rfl (.inl (SqL.of (o3 _ _ (hp _ ps0) hs0))) (λ ls hls=>?_));left;have y4:=oF (o:=.lst (iv st.sides)) y3 hls;refine iE4 y a.b dx _ (iA6 rfl y4 T.ad T.gW (by simp) ?_);rw [zjO];have nlsy:ls≠y:=λ z=>by rw [z,y3] at hls;cases hls
 have hls0:H ls=none:=by
  cases e:H ls with
  | none=>rfl
  | some o=>rw [o3 ls o nlsy e] at hls;cases hls
 have o5:Own H (upd (upd H3 ls (.lst (iv st.sides))) y (.ins a.b dx [(("turn":Str),V.int st.turn),(("cells":Str),V.ref oq),(("sides":Str),V.ref ls)])) y:=(o3.trans (Same.own (zf hls))).trans jB;have y5:upd (upd H3 ls (.lst (iv st.sides))) y (.ins a.b dx [(("turn":Str),V.int st.turn),(("cells":Str),V.ref oq),(("sides":Str),V.ref ls)]) y=some (.ins a.b dx [(("turn":Str),V.int st.turn),(("cells":Str),V.ref oq),(("sides":Str),V.ref ls)]):=oB;have nl5:NL (upd (upd H3 ls (.lst (iv st.sides))) y (.ins a.b dx [(("turn":Str),V.int st.turn),(("cells":Str),V.ref oq),(("sides":Str),V.ref ls)])) (z8 H) oq acs (zV st.cells):=nl3.keep (λ z o hz ho=>by
  refine (oC (λ q=>?_)).trans (oF ho hls);rcases hz with h|h|h
  ·exact nay (h.symm.trans q)
  ·exact (hx0 (frc z h)).1 q
  ·obtain ⟨xs,hx⟩:=h;rw [q,hy] at hx;cases hx) λ _ hp _=>hp
 have ls5:upd (upd H3 ls (.lst (iv st.sides))) y (.ins a.b dx [(("turn":Str),V.int st.turn),(("cells":Str),V.ref oq),(("sides":Str),V.ref ls)]) ls=some (.lst (iv st.sides)):=by rw [oC nlsy];exact oB
 have nlsa:ls ∉ oq :: acs:=λ z=>by
  rcases ar.mp z with h|h
  ·rw [h,nl3.out] at hls;cases hls
  ·obtain ⟨j,hj⟩:=bx h;obtain ⟨vs,h1,_⟩:=nl3.g j ls _ hj (ac (by rw [<- nl3.len];exact (aa.mp hj).1));rw [h1] at hls;cases hls
 generalize upd (upd H3 ls (.lst (iv st.sides))) y (.ins a.b dx [(("turn":Str),V.int st.turn),(("cells":Str),V.ref oq),(("sides":Str),V.ref ls)])=H5 at o5 y5 nl5 ls5 ⊢;clear nl3 o3 y3 hls y4;walk_at "d";exists ⟨g0,rfl,.inl ⟨⟨_,SqL.of (o5 _ _ (hp _ pg0) hg0)⟩,λ _ _ _ _ ag hag=>?_⟩⟩;let oy:Nat->St->Hp->Prop:=λ i σ H'=>∃ (v0:Aq) (as:Ab),σ=[v0]/\Same H5 H'/\NL H' (z8 H) ag as (qt (st.gone.take i))/\∀ b∈as,H5 b=none;refine qK (K:=K) (a:=g0) (xs:=ugs) oy (iE2 _ ([]) (iA4 rfl (zf hag) (by rw [bJ];exact zch oB) (by simp))) (λ i σ H' _ h=>by obtain ⟨_,_,_,s,_⟩:=h;exact SqL.of (s _ _ (o5 _ _ (hp _ pg0) hg0))) ?_ ?_
 ·intro i x σ H2 hi oj;refine oE2 oj λ v0 as o8=>oA4 o8 λ oi s2 nl fr=>?_;ext;obtain ⟨d,hd,rx⟩:=rgs.at hi;rw [ak,ak] at hd;obtain ⟨c,hc⟩:∃ c,st.gone[i]?=some c:=by
   cases e:st.gone[i]? with
   | none=>rw [e] at hd;cases hd
   | some c=>exact ⟨c,rfl⟩
  rw [hc] at hd;cases hd;refine oE2 (Rep.lst' rx) λ li vi o8=>oA4 o8 λ oi pli hli ri=>?_;clear o8;subst oi;have hil:=(aa.mp hc).1;have hli2:=s2 _ _ (o5 _ _ (hp _ pli) hli);exists iE2 li _ (iA3 rfl (.inl (SqL.of hli2)) (λ b hb=>?_));have nb:b ∉ as:=λ z=>by
   obtain ⟨j,hj⟩:=bx z;obtain ⟨vs,h1,_⟩:=nl.g j b _ hj (ac (by rw [<- nl.len];exact (aa.mp hj).1));rw [h1] at hb;cases hb
  have nG:b≠ag:=λ z=>by rw [z,nl.out] at hb;cases hb
  have s3:Same H2 (upd H2 b (.lst vi)):=zf hb;have ac3:=oF (o:=.lst vi) nl.out hb;refine ⟨_,iA3 ac3 (zn (by rw [ah,nl.len,ah,aJ];lia)) ?_⟩;have ri3:Reps (upd H2 b (.lst vi)) (z8 H) vi (c.map D.int):=(zaH ri (zen c)).keep λ z o pz hz=>⟨pz,s3 _ _ (s2 _ _ (o5 _ _ (kp z pz (by rw [hz];intro q;cases q)) hz))⟩;have nl3:=(nl.same s3).push (b:=b) (vs:=vi) (ys:=c.map D.int) oB nb nG (λ ⟨xs,hx⟩=>by
   have:=o5 _ _ (kp ag ⟨xs,hx⟩ (by rw [hx];intro q;cases q)) hx;rw [hag] at this;cases this) ri3
  refine iE2 _ (as ++ [b]) (iA4 rfl ?_ ?_ ?_)
  ·exact λ z o hz=>by rw [oC (oE hz hag)];exact s3 _ _ (s2 _ _ hz)
  ·rw [aH,hc];rw [show qt (st.gone.take i ++ (some c).toList)=qt (st.gone.take i) ++ [c.map D.int] by simp [qt]];exact nl3
  ·intro z hz;rcases aE.mp hz with hz|hz
   ·exact fr z hz
   ·rw [aw.mp hz];exact zw s2 hb
 intro σ H6 oj;refine oE2 oj λ v0' ags o8=>oA4 o8 λ oi s6 nlg frg=>?_;ext;rw [lgs,aM] at nlg;have y6:=s6 _ _ y5;exists iE4 y a.b dx _ (iA6 rfl y6 T.ad T.gP (by simp) ?_);rw [zjN];have hx5:∀ {z:Addr},H5 z=none->z≠y/\H z=none:=λ {z} hz=>by
  have n1:z≠y:=λ q=>by rw [q,y5] at hz;cases hz
  refine ⟨n1,?_⟩;cases e:H z with
  | none=>rfl
  | some o=>rw [o5 z o n1 e] at hz;cases hz
 have ngy:=(hx5 hag).1;have o7:Own H (upd H6 y (.ins a.b dx (sff st.turn oq ls ag))) y:=(o5.trans (Same.own s6)).trans jB;have tp:∀ b,z8 H b->H b≠none->z8 (upd H6 y (.ins a.b dx (sff st.turn oq ls ag))) b:=λ b ⟨xs,hx⟩ hn=>⟨xs,o7 _ _ (kp b ⟨xs,hx⟩ hn) hx⟩;have inA:∀ z,z∈oq :: acs->∃ o,H5 z=some o:=λ z hz=>by
  rcases ar.mp hz with h|h
  ·exact ⟨_,h ▸ nl5.out⟩
  ·obtain ⟨j,hj⟩:=bx h;obtain ⟨vs,h1,_⟩:=nl5.g j z _ hj (ac (by rw [<- nl5.len];exact (aa.mp hj).1));exact ⟨_,h1⟩
 refine k _ ⟨dx,oq,ls,ag,acs,ags⟩ rfl o7 ⟨oB,?_,?_,?_,?_⟩ ?_
 ·exact (nl5.same s6).keep (λ z o hz ho=>by
   refine (oC (λ q=>?_)).trans ho;rcases hz with h|h|h
   ·exact nay (h.symm.trans q)
   ·exact (hx0 (frc z h)).1 q
   ·obtain ⟨xs,hx⟩:=h;rw [q,hy] at hx;cases hx) λ b hb hn=>by
    obtain ⟨xs,hx⟩:=hb;exact tp b ⟨xs,hx⟩ (by rw [hx];intro q;cases q)
 ·show upd H6 y _ ls=_
  rw [oC nlsy];exact s6 _ _ ls5
 ·exact nlg.keep (λ z o hz ho=>by
   refine (oC (λ q=>?_)).trans ho;rcases hz with h|h|h
   ·exact ngy (h.symm.trans q)
   ·exact (hx5 (frg z h)).1 q
   ·obtain ⟨xs,hx⟩:=h;rw [q,hy] at hx;cases hx) λ b hb hn=>by
    obtain ⟨xs,hx⟩:=hb;exact tp b ⟨xs,hx⟩ (by rw [hx];intro q;cases q)
 ·show (ls :: oq :: ag :: (acs ++ ags)).Nodup
  have ls5':∀ z,H5 z=none->z≠ls:=λ z hz q=>by rw [q,ls5] at hz;cases hz
  rw [dD,dD,dD];refine iA4 (λ z=>?_) (λ z=>?_) (λ z=>?_) ?_
  ·rcases ar.mp z with h|z
   ·exact nlsa (h ▸ aY ..)
   rcases ar.mp z with h|z
   ·exact ls5' ag hag h.symm
   rcases aE.mp z with z|z
   ·exact nlsa (aD _ z)
   ·exact ls5' ls (frg ls z) rfl
  ·rcases ar.mp z with h|z
   ·rw [<- h,nl5.out] at hag;cases hag
   rcases aE.mp z with z|z
   ·exact nl5.nG z
   ·have:=frg oq z;rw [nl5.out] at this;cases this
  ·rcases aE.mp z with z|z
   ·obtain ⟨o,ho⟩:=inA ag (aD _ z);rw [hag] at ho;cases ho
   ·exact nlg.nG z
  ·rw [nodup_append];refine ⟨nl5.nd,nlg.nd,λ u hu v hv q=>?_⟩;subst q;obtain ⟨o,ho⟩:=inA u (aD _ hu);rw [frg u hv] at ho;cases ho
 ·intro b hb;rcases ar.mp hb with rfl|hb
  ·exact hls0
  rcases ar.mp hb with rfl|hb
  ·exact (hx0 hacc).2
  rcases ar.mp hb with rfl|hb
  ·exact (hx5 hag).2
  rcases aE.mp hb with hb|hb
  ·exact (hx0 (frc b hb)).2
  ·exact (hx5 (frg b hb)).2
def VW (T:Txt K mg a):KCal P w K mg base "State" a.b 1 ["self","turn","cells","sides","gone"] [] (vM a):=T.lX.cal T.nT (Wi T)
def jw {rs:At} (h:Rep H p v (qy a bs rs)):∃ y dx fs l1 l2 bvs om,v=.ref y/\H y=some (.ins a.r dx fs)/\fs.lookup ("belts":Str)=some (.ref l1)/\fs.lookup ("knots":Str)=some (.ref l2) /\
  H l1=some (.lst bvs)/\H l2=some (.lst om)/\Bts a H p bvs bs/\Kns a H p om rs/\∀ f:Str,f≠"belts"->f≠"knots"->fs.lookup f=none:=by
 obtain ⟨y,dx,fs,rfl,py,hy,g1,g2⟩:=Rep.ob' h;obtain ⟨u1,e1,r1⟩:=g1 _ _ zag;obtain ⟨u2,e2,r2⟩:=g1 _ _ zeK;obtain ⟨l1,bvs,rfl,_,h1,b1⟩:=r1.lst';obtain ⟨l2,om,rfl,_,h2,b2⟩:=r2.lst';exact ⟨y,dx,fs,l1,l2,bvs,om,rfl,hy,e1,e2,h1,h2,.of b1,.of b2,λ f n1 n2=>g2 f (zi0 n1 n2)⟩
noncomputable def wx (ks:A6) (n:Int):Int:=ks.getD (n % (ks.length:Int)).toNat 0
def zeh {ks:A6} (n:Int) (h:0 < ks.length):atI (iv ks) (n % (ks.length:Int))=some (.int (wx ks n)):=by
 have h0:=bX n (show (ks.length:Int)≠0 by lia);have h1:=bV n (show (0:Int) < ks.length by lia);unfold wx;generalize n % (ks.length:Int)=m at h0 h1 ⊢;have hlt:m.toNat < ks.length:=by lia
 have e:m=(m.toNat:Int):=by lia
 have:=zD (jD (ac hlt));rw [<- e] at this;rw [this];simp [hlt]
def JT {s n:Int} (h:Rep H p v (.tup [.int s,.int n])):∃ t,v=.ref t/\H t=some (.tup [.int s,.int n]):=wI (b:=(s,n)) h
def VU {om:Ap} {rs:At} {r:Row} (hK:Kns a H p om rs) (h:rs[j]?=some r):∃ kv,om[j]?=some kv/\KnP a H p kv r:=by
 have hj:=(aa.mp h).1;have e:om[j]?=some (om[j]'(by rw [hK.len];exact hj)):=ac _;exact ⟨_,e,hK.g j _ r e h⟩
def zeZ (a:Ad):Sp:=λ vs H Q _=>∃ (v vwr:V) (bs:A1) (rs:At) (p q:A5) (s:Nat) (n:Int) (r:Row),vs=[v,vwr]/\Rep H p v (qy a bs rs)/\Rep H q vwr (.tup [.int s,.int n])/\rs[s]?=some r/\r.wd=.source/\0 < r.kinds.length/\Q (.int (wx r.kinds n)) H
def WY (T:Txt K mg a):Cal P w K mg base "kind_of" 1 ["work","ware"] [] (zeZ a):=T.mM.cal λ F=>by
 refine F.okx zbV ?_ ?_
 ·walk_at "i"
 walk_at "j";refine oE5 h λ v vwr bs rs p o8=>oE4 o8 λ q sc n r oi=>oA7 oi λ ou hv hw hr' hs hk k=>?_;clear o8 oi h;subst ou;refine oE7 (jw hv) λ y dx fs l1 l2 bvs om o8=>oA9 o8 λ oi hy e1 e2 h1 h2 hB hK no=>?_;clear o8;subst oi;obtain ⟨t,rfl,ht⟩:=JT hw;obtain ⟨kv,hkv,hKn⟩:=VU hK hr';refine oE6 hKn.inv λ y1 dx1 m1 m2 m3 fs1 o8=>oA9 o8 λ oi _ _ _ _ g0 _ _ ou=>oA5 ou λ _ _ _ g3 _=>?_;clear o8 ou;subst oi;obtain ⟨g3a,g3b⟩:=g3 hs;walk_at "T";refine ⟨_,(zh (zu 2 zbV.nd (zm (zr (zm (pq 0) rfl) (zr (pq 1) ze)) rfl))  (zd (zk (zr (pq 2) (zJ jo (zr (pq 1) ze) (qb qa z9 (za (pq 2) zb))))))),?_⟩;exists ra hy T.gX T.gU e2 (oG ht at0 (zt (SqL.of h2) (zD hkv) ?_));refine iE5 y1 (wM a r.wd) dx1 fs1 _ (iA6 rfl g0 (CT T _) (by rw [hs];exact T.ic) g3a ?_);exists oG ht rfl ?_;exists ⟨_,.inl ⟨_,SqL.of g3b,rfl⟩,?_⟩;rw [zK];left;exact ⟨by lia,zt (SqL.of g3b) (zeh n hk) k⟩
noncomputable def qU (r:Row):List Int:=List.replicate (max r.ins.length r.outs.length) 0
def zhZ {α:Type} (n:Nat) (x:α):(List.replicate n [x]).flatten=List.replicate n x:=by
 induction n with
 | zero=>rfl
 | succ n ih=>rw [cK,dM,ih];rfl
def zfO (n:Nat) (x:Int):List.replicate n (V.int x)=iv (List.replicate n x):=by simp [iv]
def ziq (m n:Nat):(if (n:Int) > (m:Int) then (n:Int) else (m:Int))=((max m n:Nat):Int):=by
 by_cases h:(n:Int) > (m:Int)
 ·rw [ap h];lia
 ·rw [ao h];lia
def wE {r:Row} (h:r.ok):r.ins.length<=4/\r.outs.length<=4:=by
 obtain ⟨wd,ins,outs,pc,ks⟩:=r;cases wd
 ·obtain ⟨h1,⟨o,h2⟩,_⟩:=h;simp only at h1 h2;subst h1 h2;simp
 ·obtain ⟨⟨o,h1⟩,h2,_⟩:=h;simp only at h1 h2;subst h1 h2;simp
 ·obtain ⟨⟨o,h1⟩,_,h2⟩:=h;simp only at h1 h2;subst h1;exact ⟨by simp,h2⟩
 ·obtain ⟨⟨o,h1⟩,_,h2⟩:=h;simp only at h1 h2;subst h1;exact ⟨by simp,h2⟩
 ·obtain ⟨⟨o,h1⟩,h2,_⟩:=h;simp only at h1 h2;subst h1;exact ⟨by simp,by show outs.length<=4;lia⟩
 ·obtain ⟨⟨o,h1⟩,_,h2⟩:=h;simp only at h1 h2;subst h1;exact ⟨h2,by simp⟩
def StNew (a:Ad) (H H':Hp) (v:V) (st:PSt):Prop:=∃ y n,v=.ref y/\StO a H' y n st/\H y=none/\H n.dx=none/\∀ b∈n.all,H b=none
def Xz (T:Txt K mg a) {st:PSt} {vc vs' vg:V} {Q:Addr->Hp->Prop} {E:XK} (rc:Rep H p vc (.lst ((zV st.cells).map D.lst))) (rs:Rep H p vs' (.ints st.sides)) (rg:Rep H p vg (.lst ((qt st.gone).map D.lst))) (lc:st.cells.length<=100) (lg:st.gone.length<=100)
  (k:∀ y H',Same H H'->StNew a H H' (.ref y) st->Q y H'):∀ (x dx:Addr),H x=none->H dx=none->dx≠x->vM a [.ref x,.int st.turn,vc,vs',vg] (upd (upd H dx (.own x)) x (.ins a.b dx [])) (λ v H2=>v=.non/\Q x H2) E:=by
 intro y dy hy hdy hne;have kp:∀ b o,p b->H b=some o->b≠y/\upd (upd H dy (.own y)) y (.ins a.b dy []) b=some o:=λ b o _ hb=>⟨oE hb hy,qD hy hdy hb⟩;refine ⟨y,dy,vc,vs',vg,st,λ b=>b≠y,rfl,oB,λ _ h=>h,rc.keep kp,rs.keep kp,rg.keep kp,lc,lg,λ H' n en o so fr=>⟨rfl,?_⟩⟩;exact k _ _ (Own.of_new hy hdy o) ⟨y,n,rfl,so,hy,by rw [en];exact hdy,λ b hb=>zP (fr b hb)⟩
def zbP (a:Ad):Sp:=λ vs H Q _=>∃ (v:V) (r:Row) (p:A5),vs=[v]/\KnP a H p v r/\r.ins.length<=100/\r.outs.length<=100/\∀ q H',Same H H'->H q=none->H' q=some (.lst (iv (qU r)))->Q (.ref q) H'
def zby (T:Txt K mg a):Cal P w K mg base "no_counts" 1 ["knot"] [] (zbP a):=T.mf.cal λ F=>by
 refine F.okx Vy ?_ ?_
 ·walk_at "i"
 walk_at "j";obtain ⟨v,r,p,rfl,hKn,l1,l2,k⟩:=h;obtain ⟨y1,dx1,m1,m2,m3,fs1,rfl,_,_,_,_,g0,f1,f2,_,g1,g2,g3,_⟩:=hKn.inv;walk_at "T";refine ⟨_,(zd (zk (zJ zce (zL (za ze zb)) (qb (zey rfl) ziO (za (qb qa z9 (za (zm (pq 0) rfl) zb)) (za (qb qa z9 (za (zm (pq 0) rfl) zb)) zb)))))),?_⟩;left;intro q hq;have sq:=zf (o:=.lst [V.int 0]) hq;refine ⟨m5,io,?_⟩;refine ra (sq _ _ g0) (CT T _) (NI T _) f1 ⟨_,.inl ⟨_,SqL.of (sq _ _ g1),rfl⟩,?_⟩;refine ⟨io,?_⟩;refine ra (sq _ _ g0) (CT T _) (NO T _) f2 ⟨_,.inl ⟨_,SqL.of (sq _ _ g2),rfl⟩,?_⟩;rw [zK,zK];refine ⟨_,_,rfl,?_⟩;rw [ziq];refine ⟨q,_,_,rfl,rfl,oB,by lia,by lia,?_,λ q2 hq2=>?_⟩
 ·refine js ?_;simp
  lia
 ·rw [zhZ,ax,zfO];exact k q2 _ (sq.trans (zf hq2)) (zw sq hq2) oB
noncomputable def qT (bs:A1) (rs:At):PSt:=⟨0,bs.map λ b=>List.replicate b.1.toNat none,List.replicate rs.length 0,rs.map qU⟩
def zgB (a:Ad):Sp:=λ vs H Q _=>∃ (v:V) (bs:A1) (rs:At) (p:A5),vs=[v]/\Rep H p v (qy a bs rs)/\bs.length<=24/\rs.length<=24/\(∀ b∈bs,zH b.1 b.2)/\(∀ r∈rs,r.ok)/\∀ v' H',Same H H'->StNew a H H' v' (qT bs rs)->Q v' H'
def ZL (T:Txt K mg a):Cal P w K mg base "empty_state" 3 ["work"] [] (zgB a):=T.ly.cal λ F=>by
 refine F.okx Xc ?_ ?_
 ·walk_at "i"
 walk_at "j";refine oE4 h λ v bs rs p o8=>oA7 o8 λ oi hv lb lr bo ro k=>?_;clear o8 h;subst oi;refine oE7 (jw hv) λ y dx fs l1 l2 bvs om o8=>oA9 o8 λ oi hy e1 e2 h1 h2 hB hK no=>?_;clear o8;subst oi;walk_at "T";refine ⟨_,(zi (Xo (i:=1) Xc.nd rfl (Or.inl rfl) (vars:=["belt"]) (caps:=[]) (N:=["belt"]) (ON:=["work","cells","sides"]) (osc:=zg jx) rfl rfl (by right) rfl rfl (qo (zm (pq 0) rfl)) (λ _ _ _ _=>(qp 0 (show (["belt"]:A8).Nodup from by symm))) (λ _ _ _ _=>ql) (λ _ _ _ _=>(zJ zce (zL (za zA zb)) (zm (pq 0) rfl))))  (zi (zu 2 Xc.nd (zJ zce (zL (za ze zb)) (qb qa z9 (za (zm (pq 0) rfl) zb))))  (zd (zk (qW (x:="State") ⟨rfl,rfl,rfl⟩ hr (za ze (za (pq 1) (za (pq 2) (za (jI (vars:=["knot"]) (caps:=[]) (N:=["knot"]) (ON:=["work","cells","sides"]) (osc:=zg jx) rfl rfl (by right) rfl rfl (qo (zm (pq 0) rfl)) (λ _ _ _ _=>(qp 0 (show (["knot"]:A8).Nodup from by symm))) (λ _ _ _ _=>ql) (λ _ _ _ _=>(ZU hr (za (pq 0) zb)))) zb))))))))),?_⟩;left;walk_at "d";exists ra hy T.gX T.iy e1 ⟨l1,rfl,.inl ⟨⟨_,SqL.of h1⟩,λ _ _ _ _ oq hacc=>?_⟩⟩;let ow:Nat->St->Hp->Prop:=λ i σ H'=>∃ (v0:Aq) (us:Ap),σ=[v0]/\Same H H'/\H' oq=some (.lst us)/\Reps H' (Off [oq]) us ((bs.take i).map λ b=>D.lst (List.replicate b.1.toNat .non));refine qK (K:=K) (a:=l1) (xs:=bvs) ow (iE2 _ ([]) (iA4 rfl (zf hacc) oB (by rw [bJ];exact .nil))) (λ i σ H' _ h=>by obtain ⟨_,_,_,s,_⟩:=h;exact SqL.of (s _ _ h1)) ?_ ?_
 ·intro i x σ H2 hi oj;refine oE2 oj λ v0 us o8=>oA4 o8 λ oi s2 ha ru=>?_;ext;obtain ⟨b,hb',hBt⟩:=hB.at hi;refine oE3 hBt.inv λ y1 dx1 fs1 o8=>oA5 o8 λ oi _ g0 f1 f2=>?_;clear o8;subst oi;have hil:=(aa.mp hb').1;have bk:=bo b (af hb');left;intro q hq;have sq:=zf (o:=.lst [V.non]) hq;refine ra (sq _ _ (s2 _ _ g0)) T.iz T.iQ f1 ?_;have b1:=bk.1;have b2:=bk.2.1;refine iE3 q _ _ (iA7 rfl rfl oB (by lia) (by lia) (js (by simp;lia)) (λ q2 hq2=>?_));rw [zhZ];have s3:=sq.trans (zf (o:=.lst (List.replicate b.1.toNat V.non)) hq2);have h3:upd (upd H2 q (.lst [V.non])) q2 (.lst (List.replicate b.1.toNat V.non)) q2=some (.lst (List.replicate b.1.toNat V.non)):=oB;have n2:H2 q2=none:=zw sq hq2;generalize upd (upd H2 q (.lst [V.non])) q2 (.lst (List.replicate b.1.toNat V.non))=H3 at s3 h3 ⊢;have f5:Fr [oq] H3 (upd H3 oq (.lst (us ++ [.ref q2]))):=qw (by simp);have nq:=zfx ha n2;refine ⟨_,iA3 (s3 _ _ ha) (zn (by rw [ru.len,ah,aJ];lia)) (iE2 _ (us ++ [.ref q2]) (iA4 rfl (((s2.trans s3).fr.trans f5).same (by intro m hm;rw [aw.mp hm];exact hacc)) oB ?_))⟩;rw [aH,hb',aV];refine ((ru.same s3).fr f5).append (.one ?_);refine Reps.mk' ⟨by simp,λ j u d a1 a2=>?_⟩ nq (f5 _ _ nq h3);have a1:=af a1;have a2:=af a2;rw [(cn.mp a1).2,(cn.mp a2).2];exact .non
 intro σ H2 oj;refine oE2 oj λ v0 us o8=>oA4 o8 λ oi s2 ha ru=>?_;ext;rw [hB.len,aM] at ru;left;intro q hq;have sq:=zf (o:=.lst [V.int 0]) hq;exists ra (sq _ _ (s2 _ _ hy)) T.gX T.gU e2 ⟨_,.inl ⟨_,SqL.of (sq _ _ (s2 _ _ h2)),rfl⟩,?_⟩;rw [hK.len];refine iE3 q _ _ (iA7 rfl rfl oB (by lia) (by lia) (js (by simp;lia)) (λ ls hls=>?_));rw [zhZ,ax,zfO];have s3:Same H (upd (upd H2 q (.lst [V.int 0])) ls (.lst (iv (List.replicate rs.length 0)))):=(s2.trans sq).trans (zf hls);have ha3:=oF (o:=.lst (iv (List.replicate rs.length 0))) (sq _ _ ha) hls;have ru3:=(ru.same sq).same (zf (o:=.lst (iv (List.replicate rs.length 0))) hls);have h3:upd (upd H2 q (.lst [V.int 0])) ls (.lst (iv (List.replicate rs.length 0))) ls=some (.lst (iv (List.replicate rs.length 0))):=oB;generalize upd (upd H2 q (.lst [V.int 0])) ls (.lst (iv (List.replicate rs.length 0)))=H3 at s3 ha3 ru3 h3 ⊢;exists iE4 a.b _ _ _ ⟨(VW T).mono,?_⟩;walk_at "d";exists ra (s3 _ _ hy) T.gX T.gU e2 ⟨l2,rfl,.inl ⟨⟨_,SqL.of (s3 _ _ h2)⟩,λ _ _ _ _ ac2 hac2=>?_⟩⟩;let oy:Nat->St->Hp->Prop:=λ i σ H'=>∃ (v0:Aq) (us:Ap),σ=[v0]/\Same H3 H'/\H' ac2=some (.lst us)/\Reps H' (Off [ac2]) us ((rs.take i).map λ r=>D.ints (qU r));refine qK (K:=K) (a:=l2) (xs:=om) oy (iE2 _ ([]) (iA4 rfl (zf hac2) oB (by rw [bJ];exact .nil))) (λ i σ H' _ h=>by obtain ⟨_,_,_,s,_⟩:=h;exact SqL.of (s _ _ (s3 _ _ h2))) ?_ ?_
 ·intro i x σ H4 hi oj;refine oE2 oj λ v0 us o8=>oA4 o8 λ oi s4 ha4 ru4=>?_;ext;obtain ⟨r,hr',hKn⟩:=hK.at hi;have hil:=(aa.mp hr').1;have rl:=wE (ro r (af hr'));exists uc (zby T).mono (iE3 x r p (iA5 rfl (hKn.keep (λ b o pb hb=>⟨pb,s4 _ _ (s3 _ _ hb)⟩)) (by lia) (by lia) (λ q2 H5 s5 n2 h5=>?_)));have f5:Fr [ac2] H5 (upd H5 ac2 (.lst (us ++ [.ref q2]))):=qw (by simp);have nq:=zfx ha4 n2;refine ⟨_,iA3 (s5 _ _ ha4) (zn (by rw [ru4.len,ah,aJ];lia)) (iE2 _ (us ++ [.ref q2]) (iA4 rfl (((s4.trans s5).fr.trans f5).same (by intro m hm;rw [aw.mp hm];exact hac2)) oB ?_))⟩;rw [aH,hr',aV];exact ((ru4.same s5).fr f5).append (.one (qm nq (f5 _ _ nq h5)))
 intro σ H4 oj;refine oE2 oj λ v0' us4 o8=>oA4 o8 λ oi s4 ha4 ru4=>?_;ext;rw [hK.len,aM] at ru4;have s34:=s3.trans s4;refine Xz T (st:=qT bs rs) (p:=Off []) ?_ ?_ ?_ (by simp [qT];lia) (by simp [qT];lia) (λ v' H5 s5 so=>k _ _ (s34.trans s5) ?_)
 ·have:=(ru3.same s4).all;rw [show (bs.map λ b=>D.lst (List.replicate b.1.toNat .non))=(zV (qT bs rs).cells).map D.lst by simp [qT,zV,zX,de]] at this;exact this.mk' (λ z=>nomatch z) (s4 _ _ ha3)
 ·exact qm (λ z=>nomatch z) (s4 _ _ h3)
 ·have:=ru4.all;rw [show (rs.map λ r=>D.ints (qU r))=(qt (qT bs rs).gone).map D.lst by simp [qT,qt,de]] at this;exact this.mk' (λ z=>nomatch z) ha4
 ·refine oE2 so λ y5 n5 o8=>oA5 o8 λ e5 o5 f1 f2 f3=>?_;clear o8 so;exact iE2 y5 n5 (iA5 e5 o5 (zw s34 f1) (zw s34 f2) (λ b hb=>zw s34 (f3 b hb)))
def zbt {r:Row} (h:r.ok) (hw:r.wd=.joiner):qU r=List.replicate r.ins.length 0:=by
 obtain ⟨wd,ins,outs,pc,ks⟩:=r;simp only at hw;subst hw;obtain ⟨⟨o,h1⟩,h2,_⟩:=h;simp only at h1 h2;subst h1;unfold qU;rw [Nat.max_eq_left (by simp;lia)]
def zcD {r:Row} (h:r.ok) (hw:r.wd≠.joiner):qU r=List.replicate (max 1 r.outs.length) 0:=by
 obtain ⟨wd,ins,outs,pc,ks⟩:=r;unfold qU;cases wd
 ·obtain ⟨h1,⟨o,h2⟩,_⟩:=h;simp only at h1 h2;subst h1 h2;rfl
 ·obtain ⟨⟨o,h1⟩,h2,_⟩:=h;simp only at h1 h2;subst h1 h2;rfl
 ·obtain ⟨⟨o,h1⟩,h2,_⟩:=h;simp only at h1 h2;subst h1;rfl
 ·obtain ⟨⟨o,h1⟩,h2,_⟩:=h;simp only at h1 h2;subst h1;rfl
 ·obtain ⟨⟨o,h1⟩,h2,_⟩:=h;simp only at h1 h2;subst h1;rfl
 ·exact absurd rfl hw
def x9 {r:Row} (h:r.ok):1<=(qU r).length/\(qU r).length<=4:=by
 have:=wE h;by_cases hw:r.wd=.joiner
 ·rw [zbt h hw,bd];obtain ⟨wd,ins,outs,pc,ks⟩:=r;simp only at hw;subst hw;have:=h.2.1;simp only at this;constructor
  ·show 1<=ins.length;lia
  ·exact h.2.2
 ·rw [zcD h hw,bd]
  lia
def vJ (rs:At) (x:zC):Prop:=∀ s n,x=some (s,n)->∃ (j:Nat) (r:Row),s=j/\rs[j]?=some r/\r.wd=.source/\0<=n
def zcy (rs:At) (gss:List A6):Prop:=gss.length=rs.length/\∀ (i:Nat) r g,rs[i]?=some r->gss[i]?=some g->g.length=(qU r).length/\∀ n∈g,0<=n
def xI (bs:A1) (rs:At) (css:Au):Prop:=css.length=bs.length/\∀ (i:Nat) b c,bs[i]?=some b->css[i]?=some c->c.length=b.1.toNat/\∀ x∈c,vJ rs x
def zfV {rs:At} {gss:List A6} (h:zcy rs gss) {g g':A6} (e:gss[j]?=some g) (l:g'.length=g.length) (n:∀ x∈g',0<=x):zcy rs (gss.set j g'):=by
 refine ⟨by rw [br];exact h.1,λ i r x h1 h2=>?_⟩;by_cases hj:i=j
 ·subst hj;rw [aP (aa.mp e).1] at h2;cases h2;exact ⟨by rw [l];exact (h.2 i r g h1 e).1,n⟩
 ·rw [ba (a7 hj)] at h2;exact h.2 i r x h1 h2
def wq (r:Row) (s:Int):Prop:=0<=s/\(r.wd=.parter->s < r.outs.length)/\(r.wd=.joiner->s < r.ins.length)/\(r.wd≠.parter->r.wd≠.joiner->s=0)
def Vt (rs:At) (sds:A6):Prop:=sds.length=rs.length/\∀ (i:Nat) r s,rs[i]?=some r->sds[i]?=some s->wq r s
noncomputable def zz (cs:Au) (b:Int):List zC:=cs.getD b.toNat []
noncomputable def xz (c:Av):zC:=c.getLastD none
noncomputable def JE (c:Av):zC:=c.headD none
noncomputable def jT (rs:At):zC->Option Int:=Option.map λ x=>wx ((rs[x.1.toNat]?.map Row.kinds).getD []) x.2
noncomputable def qh (rs:At) (cs:Au) (r:Row):List A9:=r.ins.map λ b=>jT rs (xz (zz cs b))
noncomputable def qH (cs:Au) (r:Row):List Bool:=r.outs.map λ b=>decide (JE (zz cs b)=none)
def zc3 {α:Type} {xs:List α} {d:α} (h:xs≠[]):atI xs (-1)=some (xs.getLastD d):=by
 have hl:0 < xs.length:=dP.mpr h;unfold atI ixN;rw [ao (by decide),ap (by lia)];have e:((-1:Int) + xs.length).toNat=xs.length - 1:=by lia
 simp only [Option.bind_some,e];rw [ac (by lia),bF,fg,ac (by lia)]
 rfl
def za6 {c:Av}:(c.map zX).getLastD .non=zX (xz c):=by
 unfold xz;rw [bF,bF,List.getLast?_map];cases c.getLast? <;> rfl
structure stWf (bs:A1) (rs:At) (st:PSt):Prop where
 co:xI bs rs st.cells
 so:Vt rs st.sides
 go:zcy rs st.gone
def xg {rs:At} {cs:Au} (h:xI bs rs cs) (bo:∀ b∈bs,zH b.1 b.2) {b:Int} (hb:b∈rgI bs.length):∃ (i:Nat),b=i/\i < cs.length/\cs[i]?=some (zz cs b)/\zz cs b≠[]/\∀ x∈zz cs b,vJ rs x:=by
 obtain ⟨h0,h1⟩:=Qj hb;obtain ⟨i,rfl⟩:∃ i:Nat,b=i:=⟨b.toNat,by lia⟩;have hi:i < cs.length:=by rw [h.1];lia
 have e:cs[i]?=some (zz cs i):=by
  unfold zz;rw [ax,ac hi];simp [hi]
 have hib:i < bs.length:=by lia
 obtain ⟨q1,q2⟩:=h.2 i bs[i] _ (ac hib) e;refine ⟨i,rfl,hi,e,?_,q2⟩;intro z;rw [z] at q1;have:=(bo _ (cF hib)).1;simp at q1
 lia
def Qs {rs:At} {r:Row} {b:Int} (w:zY bs rs) (h:rs[k]?=some r) (hb:b∈r.ins):b∈rgI bs.length :=
 w.2.2.mem_iff.mp (dm.mpr ⟨r,af h,hb⟩)
def vU {rs:At} {r:Row} {b:Int} (w:zY bs rs) (h:rs[k]?=some r) (hb:b∈r.outs):b∈rgI bs.length :=
 w.2.1.mem_iff.mp (dm.mpr ⟨r,af h,hb⟩)
def zdf {c:Av} (h:c≠[]):xz c∈c:=by
 unfold xz;rw [bF,List.getLast?_eq_some_getLast h];exact List.getLast_mem h
def zdD {st:PSt} (h:Rep H p v (jE a st)):∃ y dx fs lc ls lg ucs ugs,v=.ref y/\H y=some (.ins a.b dx fs)/\fs.lookup ("turn":Str)=some (.int st.turn)/\fs.lookup ("cells":Str)=some (.ref lc)/\fs.lookup ("sides":Str)=some (.ref ls)/\fs.lookup ("gone":Str)=some (.ref lg) /\
  H lc=some (.lst ucs)/\Reps H p ucs ((zV st.cells).map D.lst)/\H ls=some (.lst (iv st.sides))/\H lg=some (.lst ugs)/\Reps H p ugs ((qt st.gone).map D.lst):=by
 obtain ⟨y,dx,fs,rfl,py,hy,g1,g2⟩:=Rep.ob' h;obtain ⟨u1,e1,r1⟩:=g1 _ _ (Z5 st);obtain ⟨u2,e2,r2⟩:=g1 _ _ (wz st);obtain ⟨u3,e3,r3⟩:=g1 _ _ (Zl st);obtain ⟨u4,e4,r4⟩:=g1 _ _ (Z6 st);cases r1;obtain ⟨lc,ucs,rfl,_,hc,rc⟩:=r2.lst';obtain ⟨ls,rfl,_,hs⟩:=r3.ints';obtain ⟨lg,ugs,rfl,_,hg,rg⟩:=r4.lst';exact ⟨y,dx,fs,lc,ls,lg,ucs,ugs,rfl,hy,e1,e2,e3,e4,hc,rc,hs,hg,rg⟩
def zfS {us:Ap} {dss:List (List D)} (h:Reps H p us (dss.map D.lst)) {ds:List D} (e:dss[i]?=some ds):∃ l vs,us[i]?=some (.ref l)/\H l=some (.lst vs)/\Reps H p vs ds:=by
 obtain ⟨v,h1,h2⟩:=h.of (i:=i) (d:=.lst ds) (by rw [ak,e];rfl);obtain ⟨l,vs,rfl,_,h3,h4⟩:=h2.lst';exact ⟨l,vs,h1,h3,h4⟩
inductive spHeads (a:Ad) (vs:Ap) (H:Hp) (Q:VK) (E:XK):Prop
 | i (vw vs' vk:V) (bs:A1) (rs:At) (st:PSt) (k:Nat) (r:Row) (p q:A5):vs=[vw,vs',vk]->Rep H p vw (qy a bs rs)->Rep H q vs' (jE a st)->KnP a H p vk r->rs[k]?=some r->zY bs rs->(∀ b∈bs,zH b.1 b.2)->(∀ r∈rs,r.ok)->xI bs rs st.cells->(∀ l H',Same H H'->H l=none->H' l=some (.lst ((qh rs st.cells r).map hdV))->Q (.ref l) H')->spHeads a vs H Q E
theorem zcI (T:Txt K mg a):Cal P w K mg base "heads_of" 2 ["work","state","knot"] [] (spHeads a):=T.mE.cal λ F=>by
 refine F.okx zaB ?_ ?_
 ·walk_at "i"
 walk_at "j";rcases h with ⟨vw,vs',vk,bs,rs,st,kn,r,p,q,rfl,hw,hs,hk,hr',ot,bo,ro,co,k⟩;refine oE8 (zdD hs) λ y dx fs lc ls lg ucs ugs o8=>oA9 o8 λ oi hy e1 e2 e3 e4 hc rc ou=>oA3 ou λ hsd hg rg=>?_;clear o8 ou;subst oi;refine oE6 hk.inv λ y1 dx1 m1 m2 m3 fs1 o8=>oA9 o8 λ oi _ _ _ _ g0 f1 f2 ou=>oA5 ou λ _ g1 g2 _ _=>?_;clear o8 ou;subst oi;have rl:=wE (ro r (af hr'));walk_at "T";refine ⟨_,(zi (Xo (i:=3) zaB.nd rfl (Or.inl rfl) (vars:=["belt"]) (caps:=[1]) (N:=["belt","state"]) (ON:=["work","state","knot","ends"]) (osc:=zg xS) rfl rfl (by right) rfl rfl (qo (zm (pq 2) rfl)) (λ _ _ _ _=>(qp 0 (show (["belt","state"]:A8).Nodup from by symm))) (λ _ _ _ _=>ql) (λ _ _ _ _=>(zr (zr (zm (pq 1) rfl) (pq 0)) (zaS JU ze))))  (zd (zk (jI (vars:=["ware"]) (caps:=[0]) (N:=["ware","work"]) (ON:=["work","state","knot","ends"]) (osc:=zg xS) rfl rfl (by right) rfl rfl (qo (pq 3)) (λ _ _ _ _=>(qp 0 (show (["ware","work"]:A8).Nodup from by symm))) (λ _ _ _ _=>ql) (λ _ _ _ _=>(wF (zl ja (pq 0) zA (zq _)) zA (ZU hr (za (pq 1) (za (pq 0) zb))))))))),?_⟩;left;walk_at "d";exists ra g0 (CT T _) (NI T _) f1 ⟨m1,rfl,.inl ⟨⟨_,SqL.of g1⟩,λ _ _ _ _ oq hacc=>?_⟩⟩;let ow:Nat->St->Hp->Prop:=λ i σ H'=>∃ (v0:Aq) (us:Ap),σ=[v0,some (.ref y)]/\Same H H'/\H' oq=some (.lst us)/\Reps H q us ((r.ins.take i).map λ b=>zX (xz (zz st.cells b)));refine qK (K:=K) (a:=m1) (xs:=iv r.ins) ow (iE2 _ ([]) (iA4 rfl (zf hacc) oB (by rw [bJ];exact .nil))) (λ i σ H' _ h=>by obtain ⟨_,_,_,s,_⟩:=h;exact SqL.of (s _ _ g1)) ?_ ?_
 ·intro i x σ H2 hi oj;refine oE2 oj λ v0 us o8=>oA4 o8 λ oi s2 ha ru=>?_;ext;obtain ⟨b,hb,rfl⟩:=Qq hi;have hil:=(aa.mp hb).1;refine oE1 (xg co bo (Qs ot hr' (af hb))) λ j o8=>oA5 o8 λ oi hj ej nej _=>?_;clear o8;subst oi;obtain ⟨li,vi,hu,hli,ri⟩:=zfS rc (i:=j) (ds:=(zz st.cells j).map zX) (by rw [zV,ak,ej];rfl);obtain ⟨ve,he,re⟩:=zhK ri (zc3 (d:=.non) (by simpa using nej));rw [za6] at re;exists ra (s2 _ _ hy) T.ad T.gM e2 (zt (SqL.of (s2 _ _ hc)) (zD hu) ?_);exists zt (SqL.of (s2 _ _ hli)) he ?_;refine ⟨_,iA3 ha (zn (by rw [ru.len,ah,aJ];lia)) (iE2 _ (us ++ [ve]) (iA4 rfl (λ b o hb=>by rw [oC (oE hb hacc)];exact s2 b o hb) oB ?_))⟩;rw [aH,hb,aV];exact ru.append (.one re)
 intro σ H2 oj;refine oE2 oj λ v0 us o8=>oA4 o8 λ oi s2 ha ru=>?_;ext;rw [zK,aM] at ru;have lu:us.length=r.ins.length:=by rw [ru.len,ah]
 left;walk_at "d";exists ⟨oq,rfl,.inl ⟨⟨_,SqL.of ha⟩,λ _ _ _ _ ac2 hac2=>?_⟩⟩;let oy:Nat->St->Hp->Prop:=λ i σ H'=>∃ (v0:Aq),σ=[v0,some vw]/\Same H2 H'/\H' ac2=some (.lst ((((qh rs st.cells r).take i).map hdV)));refine qK (K:=K) (a:=oq) (xs:=us) oy ⟨_,iA3 rfl (zf hac2) (by rw [bJ];exact oB)⟩ (λ i σ H' _ h=>by obtain ⟨_,_,s,_⟩:=h;exact SqL.of (s _ _ ha)) ?_ ?_
 ·intro i x σ H3 hi oj;refine oE1 oj λ v0 o8=>oA3 o8 λ oi s3 ha3=>?_;ext;obtain ⟨d,hd,rx⟩:=ru.at hi;rw [ak,am] at hd;obtain ⟨b,hb,rfl⟩:=hd;have hil:=(aa.mp hb).1;refine oE1 (xg co bo (Qs ot hr' (af hb))) λ j o8=>oA5 o8 λ oi hj ej nej wk=>?_;clear o8;subst oi;have hwk:=wk _ (zdf nej);have hh:(qh rs st.cells r)[i]?=some (jT rs (xz (zz st.cells j))):=by rw [qh,ak,hb];rfl
  have s23:=s2.trans s3;have fin:∀ u:V,u=hdV (jT rs (xz (zz st.cells j)))->∃ ys,H3 ac2=some (.lst ys)/\ys.length < sizeLine/\∃ (v0:Aq),([some x,some vw]:St)=[v0,some vw]/\Same H2 (upd H3 ac2 (.lst (ys ++ [u])))/\upd H3 ac2 (.lst (ys ++ [u])) ac2=some (.lst ((((qh rs st.cells r).take (i + 1)).map hdV))):=by
   rintro u rfl;refine ⟨_,iA3 ha3 (zn (by rw [ah,aJ];lia)) ⟨_,iA3 rfl (λ b o hb=>by rw [oC (oE hb hac2)];exact s3 b o hb) ?_⟩⟩;rw [oB,aH,hh,aV]
   rfl
  left;cases hE:xz (zz st.cells j) with
  | none =>
   rw [hE] at rx fin;cases rx;rw [ap rfl];exact fin _ rfl
  | some wr =>
   obtain ⟨sr,nr⟩:=wr;rw [hE] at rx fin hwk;refine oE2 (hwk _ _ rfl) λ j0 r0 o8=>oA4 o8 λ oi hr0 hw0 _=>?_;clear o8;subst oi;have ok0:=ro r0 (af hr0);have kp:0 < r0.kinds.length:=by
    obtain ⟨wd,ins,outs,pc,ks⟩:=r0;simp only at hw0;subst hw0;exact ok0.2.2.2.2.1
   obtain ⟨tw,rfl,htw⟩:=JT rx;rw [ao (by intro z;cases z)];refine uc (WY T).mono (iE5 vw _ bs rs p (iE4 q j0 nr r0 (iA7 rfl (qV hw s23) (qV rx s23) hr0 hw0 kp ?_)));exact fin _ (by simp [jT,hr0,hdV])
 ·intro σ H3 oj;refine oE1 oj λ v0 o8=>oA3 o8 λ oi s3 ha3=>?_;ext;rw [lu,bK (by simp [qh])] at ha3;left;exact k _ _ (s2.trans s3) (zw s2 hac2) ha3
def ze3 (K:A0):Sp:=λ vs H Q _=>∃ (l:Addr) (ns:A6) (o:Option Nat),vs=[.ref l,Zz o]/\H l=some (.lst (iv ns))/\(∀ j,o=some j->j < ns.length)/\Q (hdV (o.bind λ j=>ns[j]?)) H
theorem WZ (T:Txt K mg a):Cal P w K mg base "belt_at" 1 ["belts","place"] [] (ze3 K):=T.mO.cal λ F=>by
 refine F.okx zbW ?_ ?_
 ·walk_at "i"
 walk_at "j";refine oE3 h λ l ns o o8=>oA4 o8 λ oi hl ho k=>?_;clear o8 h;subst oi;walk_at "T";refine ⟨_,(zd (zk (wF (zl ja (pq 1) zA (zq _)) zA (zr (pq 0) (pq 1))))),?_⟩;left;cases o with
 | none=>exact zT (λ _=>k) (λ b=>absurd rfl b)
 | some j =>
  have hj:=ho j rfl;refine zT (λ b=>by cases b) (λ _=>?_);refine zt (SqL.of hl) (zD (jD (ac hj))) ?_;have e:hdV ((some j).bind λ j=>ns[j]?)=.int ns[j]:=by simp [hj,hdV]
  rw [e] at k;exact k
def zjX (T:Txt K mg a) (wd:Wd):kitOne K (.ref (wM a wd)) (.ref a.p)=some (decide (wd=.joiner)):=by
 cases wd
 ·exact T.ka
 ·exact T.kz
 ·exact T.kb
 ·exact T.iF
 ·exact T.kA
 ·exact T.ke
noncomputable def jK (r:Row) (ch:Ak):Nat:=if r.wd=.joiner then ch.1.getD 0 else ch.2.1.getD 0
inductive spCounted (a:Ad) (vs:Ap) (H:Hp) (Q:VK) (E:XK):Prop
 | i (vk:V) (t:Addr) (r:Row) (ch:Ak) (p:A5):vs=[vk,.ref t]->KnP a H p vk r->H t=some (.tup (chV ch))->(r.wd=.joiner->∃ j,ch.1=some j)->Q (.int (jK r ch)) H->spCounted a vs H Q E
theorem JC (T:Txt K mg a):Cal P w K mg base "counted_place" 1 ["knot","chosen"] [] (spCounted a):=T.ki.cal λ F=>by
 refine F.okx QE ?_ ?_
 ·walk_at "i"
 walk_at "j";rcases h with ⟨vk,t,r,ch,p,rfl,hk,ht,hj,k⟩;obtain ⟨y1,dx1,m1,m2,m3,fs1,rfl,_,_,_,_,g0,f1,f2,_,g1,g2,_,_⟩:=hk.inv;walk_at "T";refine ⟨_,(zh (zF (qO (qb Zh qz (za (pq 0) (za xi zb))) (λ _=>rfl))  (zd (zk (zr (pq 1) ze)))  zp)  (zd (zk (wF (zl ja (zr (pq 1) ze) zA (zq _)) ze (zr (pq 1) ze))))),?_⟩;exists ⟨.ref a.p,_,T.mD,rfl,_,_,_,_,rfl,(WT T r.wd).ty (CT T r.wd) g0,.inl ⟨_,rfl,zjX T r.wd⟩,?_⟩;left;unfold jK at k;refine zT (λ b=>?_) (λ b=>?_)
 ·rw [ap b] at k;obtain ⟨j,ej⟩:=hj b;exists oG ht at0 ?_;rw [ej] at k ⊢;exact k
 ·rw [ao b] at k;exists oG ht (show atI (chV ch) 1=some (Zz ch.2.1) from rfl) ?_;left;cases e:ch.2.1 with
  | none =>
   rw [e] at k;exact zT (λ _=>k) (λ b=>absurd rfl b)
  | some j =>
   rw [e] at k;refine zT (λ b=>by cases b) (λ _=>?_);refine oG ht (show atI (chV ch) 1=some (Zz ch.2.1) from rfl) ?_;rw [e];exact k
section
variable {H:Hp} {y:Addr} {n:SN} {st:PSt}
def StO.nds (h:StO a H y n st):n.ls ∉ n.lc :: n.lg :: (n.acs ++ n.ags)/\n.lc ∉ n.lg :: (n.acs ++ n.ags)/\n.lg ∉ n.acs ++ n.ags/\∀ x∈n.acs,x ∉ n.ags:=by
 have nd:=h.nd;unfold SN.all at nd;rw [dD,dD,dD,nodup_append] at nd;exact ⟨nd.1,nd.2.1,nd.2.2.1,λ x hx hy=>nd.2.2.2.2.2 x hx x hy rfl⟩
def JF {x:Addr} {us vs:Ap} (hx:H x=some (.lst us)) (h:z8 H b):z8 (upd H x (.lst vs)) b:=by
 obtain ⟨xs,hb⟩:=h;exact ⟨xs,by rw [oC (λ z=>by rw [z,hx] at hb;cases hb)];exact hb⟩
def StO.putC {c':Av} (h:StO a H y n st) (e:n.acs[i]?=some b) (r:Reps H (z8 H) vs (c'.map zX)):StO a (upd H b (.lst vs)) y n { st with cells:=st.cells.set i c' }:=by
 have hb:=af e;obtain ⟨us,hu⟩:=h.hc.isl (aD _ hb);obtain ⟨n1,n2,n3,n4⟩:=h.nds;have k:∀ c o,c≠b->H c=some o->upd H b (.lst vs) c=some o:=λ c o nc hc=>by rw [oC nc];exact hc
 have ntb:¬ z8 H b:=λ ⟨xs,hx⟩=>by rw [hu] at hx;cases hx
 refine ⟨k _ _ (λ z=>by rw [<- z,h.hy] at hu;cases hu) h.hy,?_,k _ _ (λ z=>n1 (by rw [z];simp [hb])) h.hs,h.hg.tup λ c o hz hc=>k c o (λ z=>?_) hc,h.nd⟩
 ·have:=h.hc.put (vs:=vs) (ys:=c'.map zX) e ntb r;rw [show zV (st.cells.set i c')=(zV st.cells).set i (c'.map zX) by simp [zV,cv]];exact this.keep (λ _ _ _ hc=>hc) λ c hc _=>JF hu hc
 ·subst z;rcases hz with rfl|hz|hz
  ·exact n3 (bp _ hb)
  ·exact n4 c hb hz
  ·exact ntb hz
def StO.putG {g':A6} (h:StO a H y n st) (e:n.ags[i]?=some b):StO a (upd H b (.lst (iv g'))) y n { st with gone:=st.gone.set i g' }:=by
 have hb:=af e;obtain ⟨us,hu⟩:=h.hg.isl (aD _ hb);obtain ⟨n1,n2,n3,n4⟩:=h.nds;have k:∀ c o,c≠b->H c=some o->upd H b (.lst (iv g')) c=some o:=λ c o nc hc=>by rw [oC nc];exact hc
 have ntb:¬ z8 H b:=λ ⟨xs,hx⟩=>by rw [hu] at hx;cases hx
 refine ⟨k _ _ (λ z=>by rw [<- z,h.hy] at hu;cases hu) h.hy,h.hc.tup λ c o hz hc=>k c o (λ z=>?_) hc,k _ _ (λ z=>n1 (by rw [z];simp [hb])) h.hs,?_,h.nd⟩
 ·subst z;rcases hz with rfl|hz|hz
  ·exact n2 (aD _ (aU _ hb))
  ·exact n4 c hz hb
  ·exact ntb hz
 ·have:=h.hg.put (vs:=iv g') (ys:=g'.map D.int) e ntb reps_ints;rw [show qt (st.gone.set i g')=(qt st.gone).set i (g'.map D.int) by simp [qt,cv]];exact this.keep (λ _ _ _ hc=>hc) λ c hc _=>JF hu hc
def StO.putS {s':A6} (h:StO a H y n st):StO a (upd H n.ls (.lst (iv s'))) y n { st with sides:=s' }:=by
 obtain ⟨n1,n2,n3,n4⟩:=h.nds;have k:∀ c o,c≠n.ls->H c=some o->upd H n.ls (.lst (iv s')) c=some o:=λ c o nc hc=>by rw [oC nc];exact hc
 have kt:∀ c,z8 H c->c≠n.ls:=λ c ⟨xs,hx⟩ z=>by rw [z,h.hs] at hx;cases hx
 refine ⟨k _ _ (λ z=>by have:=h.hy;rw [z,h.hs] at this;cases this) h.hy,h.hc.tup λ c o hz hc=>k c o (λ z=>?_) hc,oB,h.hg.tup λ c o hz hc=>k c o (λ z=>?_) hc,h.nd⟩
 ·rcases hz with rfl|hz|hz
  ·exact n1 (by rw [<- z];simp)
  ·exact n1 (by rw [<- z];simp [hz])
  ·exact kt c hz z
 ·rcases hz with rfl|hz|hz
  ·exact n1 (by rw [<- z];simp)
  ·exact n1 (by rw [<- z];simp [hz])
  ·exact kt c hz z
def StO.cell {c:Av} (h:StO a H y n st) (e:st.cells[i]?=some c):∃ b vs,n.acs[i]?=some b/\H b=some (.lst vs)/\Reps H (z8 H) vs (c.map zX):=h.hc.at (by rw [zV,ak,e];rfl)
def StO.goneL {g:A6} (h:StO a H y n st) (e:st.gone[i]?=some g):∃ b,n.ags[i]?=some b/\H b=some (.lst (iv g)):=by
 obtain ⟨b,vs,h1,h2,h3⟩:=h.hg.at (i:=i) (xs:=g.map D.int) (by rw [qt,ak,e];rfl);rw [JO h3] at h2;exact ⟨b,h1,h2⟩
def sff_l {t:Int} {lc ls lg:Addr}:(sff t lc ls lg).lookup ("cells":Str)=some (.ref lc)/\(sff t lc ls lg).lookup ("sides":Str)=some (.ref ls)/\(sff t lc ls lg).lookup ("gone":Str)=some (.ref lg)/\(sff t lc ls lg).lookup ("turn":Str)=some (.int t):=by
 unfold sff;refine ⟨(zW (by symm)).trans jp,(zW (by symm)).trans ((zW (by symm)).trans jp),(zW (by symm)).trans ((zW (by symm)).trans ((zW (by symm)).trans jp)),jp⟩
def QC (e:n.acs[i]?=some b):(n.acs.map V.ref)[i]?=some (.ref b):=by rw [ak,e];rfl
def zds (e:n.ags[i]?=some b):(n.ags.map V.ref)[i]?=some (.ref b):=by rw [ak,e];rfl
def zae (e:n.acs[i]?=some b):b∈y :: n.all:=by simp [SN.all,af e]
def zhq (e:n.ags[i]?=some b):b∈y :: n.all:=by simp [SN.all,af e]
end
noncomputable def qI (c:Av):List zC:=c.set (c.length - 1) none
noncomputable def zM (st:PSt) (k:Nat):Option Int->zC × PSt
 | none=>(some ((k:Int),(st.gone.getD k []).headD 0),st)
 | some b=>(xz (zz st.cells b),{ st with cells:=st.cells.set b.toNat (qI (zz st.cells b)) })
def Reps.set {ds:List D} {d:D} (h:Reps H p vs ds) (i:Nat) (r:Rep H p v d):Reps H p (vs.set i v) (ds.set i d):=by
 refine ⟨by rw [br,br,h.len],λ j u e h1 h2=>?_⟩;by_cases hj:j=i
 ·subst hj;have hl:j < vs.length:=by have:=(aa.mp h1).1;rw [br] at this;exact this
  rw [aP hl] at h1;rw [aP (by rw [<- h.len];exact hl)] at h2;cases h1;cases h2;exact r
 ·rw [ba (a7 hj)] at h1 h2;exact h.g j u e h1 h2
inductive spTaken (a:Ad) (vs:Ap) (H:Hp) (Q:VK) (E:XK):Prop
 | i (y:Addr) (n:SN) (st:PSt) (k:Nat) (fb:A9) (g0:Int) (gs:A6):vs=[.ref y,.int k,hdV fb]->StO a H y n st->st.gone[k]?=some (g0 :: gs)->(∀ b,fb=some b->∃ i:Nat,b=i/\st.cells[i]?=some (zz st.cells b)/\zz st.cells b≠[])->(∀ v H',Fr (y :: n.all) H H'->StO a H' y n (zM st k fb).2->Rep H' (z8 H') v (zX (zM st k fb).1)->Q v H')->spTaken a vs H Q E
theorem V7 (T:Txt K mg a):Cal P w K mg base "taken_ware" 1 ["state","number","from_belt"] [] (spTaken a):=T.lP.cal λ F=>by
 refine F.okx X6 ?_ ?_
 ·walk_at "i"
 walk_at "j";rcases h with ⟨y,n,st,kn,fb,g0,gs,rfl,so,hg,hf,k⟩;refine oA4 (sff_l (t:=st.turn) (lc:=n.lc) (ls:=n.ls) (lg:=n.lg)) λ lk1 lk2 lk3 lk4=>?_;walk_at "T";refine ⟨_,(zh (zF (zl ja (pq 2) zA (zq _))  (zd (zk (jn (za (pq 1) (za (zr (zr (zm (pq 0) rfl) (pq 1)) ze) zb)))))  zp)  (zh (zu 3 X6.nd (zr (zr (zm (pq 0) rfl) (pq 2)) (zaS JU ze)))  (zh (vd zA (vT (zr (zm (pq 0) rfl) (pq 2)) (zaS JU ze) jL))  (zd (zk (pq 3)))))),?_⟩;left;cases fb with
 | none =>
  refine zT (λ _=>?_) (λ b=>absurd rfl b);obtain ⟨bG,hbG,hgG⟩:=so.goneL hg;exists ra so.hy T.ad T.gP lk3 (zt (SqL.of so.hg.out) (zD (zds hbG)) (zt (SqL.of hgG) at0 ?_));left;intro t ht;refine k _ _ (zcz ht) (so.same (zf ht)) ?_;have e:(st.gone.getD kn []).headD 0=g0:=by simp [List.getD,hg]
  show Rep _ _ _ (D.tup [.int kn,.int ((st.gone.getD kn []).headD 0)])
  rw [e];exact Reps.mkT (vs:=[.int kn,.int g0]) (.cons .int (.cons .int .nil)) ⟨_,oB⟩ oB
 | some b =>
  refine oE1 (hf b rfl) λ i o8=>oA3 o8 λ oi hc nc=>?_;clear o8;subst oi;refine oE2 (so.cell hc) λ bC vs o8=>oA3 o8 λ hbC hvC rvC=>?_;clear o8;have lv:vs.length=(zz st.cells i).length:=by rw [rvC.len,ah]
  have lp:0 < vs.length:=by rw [lv];exact dP.mpr nc
  obtain ⟨ve,he,re⟩:=zhK rvC (zc3 (d:=.non) (by simpa using nc));rw [za6] at re;refine zT (λ b=>by cases b) (λ _=>?_);exists ra so.hy T.ad T.gM lk1 (zt (SqL.of so.hc.out) (zD (QC hbC)) ?_);exists zt (SqL.of hvC) he ?_;exists ra so.hy T.ad T.gM lk1 (zt (SqL.of so.hc.out) (zD (QC hbC)) ?_);exists xG (j:=vs.length - 1) hvC ?_ ?_
  ·unfold ixN;rw [ao (by decide),ap (by lia)]
   congr 1
   lia
  have e2:(qI (zz st.cells i)).map zX=((zz st.cells i).map zX).set (vs.length - 1) .non:=by
   unfold qI;rw [cv,lv]
   rfl
  have r2:Reps H (z8 H) (vs.set (vs.length - 1) .non) ((qI (zz st.cells i)).map zX):=by rw [e2];exact Reps.set rvC _ .non
  refine k _ _ (qw (zae hbC)) ?_ ?_
  ·have:=so.putC hbC r2;simpa [zM] using this
  ·refine Rep.keep (λ c o pc hc=>⟨JF hvC pc,?_⟩) re;obtain ⟨xs,hx⟩:=pc;rw [oC (λ z=>by rw [z,hvC] at hx;cases hx)];exact hc
structure Move where
 k:Nat
 ware:zC
 fr:Option Int
 to:Option Int
noncomputable def zhf:Option Int->D
 | none=>.non
 | some b=>.int b
def zcR (o:A9):Rep H p (hdV o) (zhf o):=by
 cases o
 ·exact .non
 ·exact .int
noncomputable def ZI (m:Move):D:=.tup [.int m.k,zX m.ware,zhf m.fr,zhf m.to]
noncomputable def ziJ:Option Move->D
 | none=>.non
 | some m=>ZI m
noncomputable def xZ (st:PSt) (x:zC):Option Int->PSt
 | none=>st
 | some b=>{ st with cells:=st.cells.set b.toNat ((zz st.cells b).set 0 x) }
noncomputable def ZB (g:A6) (j:Nat):List Int:=g.set j (g.getD j 0 + 1)
noncomputable def qj (r:Row) (ch:Ak):Option Int:=ch.1.bind λ j=>r.ins[j]?
noncomputable def xO (r:Row) (ch:Ak):Option Int:=ch.2.1.bind λ j=>r.outs[j]?
noncomputable def movedF (r:Row) (st:PSt) (k:Nat) (ch:Ak):PSt:=xZ (zM st k (qj r ch)).2 (zM st k (qj r ch)).1 (xO r ch)
noncomputable def jy (r:Row) (st:PSt) (k:Nat) (ch:Ak):PSt × Move :=
 ({ movedF r st k ch with sides:=(movedF r st k ch).sides.set k ch.2.2,gone:=(movedF r st k ch).gone.set k (ZB ((movedF r st k ch).gone.getD k []) (jK r ch)) },⟨k,(zM st k (qj r ch)).1,qj r ch,xO r ch⟩)
noncomputable def qq (rs:At) (st:PSt) (k:Nat):PSt × Option Move:=match rs[k]? with
 | none=>(st,none)
 | some r=>match z7 r (qh rs st.cells r) (qH st.cells r) st.turn (st.sides.getD k 0).toNat with
  | none=>(st,none)
  | some ch=>((jy r st k ch).1,some (jy r st k ch).2)
def Q6 {rs:At} {cs:Au} (h:xI bs rs cs) {c c':Av} (e:cs[i]?=some c) (l:c'.length=c.length) (k:∀ x∈c',vJ rs x):xI bs rs (cs.set i c'):=by
 refine ⟨by rw [br];exact h.1,λ j b d h1 h2=>?_⟩;by_cases hj:j=i
 ·subst hj;rw [aP (aa.mp e).1] at h2;cases h2;exact ⟨by rw [l];exact (h.2 j b c h1 e).1,k⟩
 ·rw [ba (a7 hj)] at h2;exact h.2 j b d h1 h2
def QD {rs:At}:vJ rs none:=λ _ _ z=>nomatch z
def wJ {α:Type} {xs:List α} {x y:α} (h:y∈xs.set i x):y∈xs\/y=x:=List.mem_or_eq_of_mem_set h
theorem xM {r:Row} {hs:List A9} {bs:Ai} {t:Int} {ch:Ak} (ok:r.ok) (hl:hs.length=r.ins.length) (bl:bs.length=r.outs.length) (sd:wq r side) (h:z7 r hs bs t side=some ch) :
  (∀ j,ch.1=some j->j < r.ins.length)/\(∀ j,ch.2.1=some j->j < r.outs.length)/\(r.wd=.joiner->∃ j,ch.1=some j)/\(ch.1=none->r.wd=.source)/\wq r ch.2.2/\jK r ch < (qU r).length:=by
 obtain ⟨wd,ins,outs,pace,kinds⟩:=r;have cp:=x9 ok;unfold z7 at h;cases wd with
 | source =>
  simp only at h;obtain ⟨h1,⟨o,h2⟩,_⟩:=ok;simp only at h1 h2;subst h1 h2
  split at h
  ·cases h;exact ⟨(λ j z=>nomatch z),λ j z=>by cases z;simp,(λ z=>nomatch z),λ _=>rfl,sd,by simp [jK];lia⟩
  ·cases h
 | drain =>
  simp only at h;obtain ⟨⟨o,h1⟩,h2,_⟩:=ok;simp only at h1 h2;subst h1 h2
  split at h
  ·cases h
  ·cases h;exact ⟨λ j z=>by cases z;simp,(λ j z=>nomatch z),(λ z=>nomatch z),(λ z=>nomatch z),sd,by simp [jK];lia⟩
 | parter =>
  simp only at h;obtain ⟨⟨o,h1⟩,h2,h3⟩:=ok;simp only at h1 h2 h3 bl;subst h1
  split at h
  ·cases h
  ·rw [am] at h;obtain ⟨q,hq,rfl⟩:=h;have hlt:=wK hq;refine ⟨λ j z=>by cases z;simp,λ j z=>by cases z;show q < outs.length;lia,(λ z=>nomatch z),(λ z=>nomatch z),⟨cr _,λ _=>?_,(λ z=>nomatch z),λ z=>absurd rfl z⟩,?_⟩
   ·have:=dA (q + 1) (show 0 < bs.length by lia);show (((q + 1) % bs.length:Nat):Int) < outs.length
    lia
   ·simp only [jK,aT];rw [ao (by decide)];show q < (List.replicate (max 1 outs.length) 0).length
    rw [bd]
    lia
 | first =>
  simp only at h;obtain ⟨⟨o,h1⟩,h2,h3⟩:=ok;simp only at h1 h2 h3 bl;subst h1
  split at h
  ·cases h
  ·rw [am] at h;obtain ⟨q,hq,rfl⟩:=h;have hlt:=wK hq;refine ⟨λ j z=>by cases z;simp,λ j z=>by cases z;show q < outs.length;lia,(λ z=>nomatch z),(λ z=>nomatch z),sd,?_⟩;simp only [jK,aT];rw [ao (by decide)];show q < (List.replicate (max 1 outs.length) 0).length
   rw [bd]
   lia
 | sieve =>
  simp only at h;obtain ⟨⟨o,h1⟩,h2,_⟩:=ok;simp only at h1 h2 bl;subst h1
  split at h
  ·cases h
  ·generalize (if hs.getD 0 none=some (kinds.headD 0) then 0 else 1)=q at h;have q2:q=q:=rfl
   split at h
   ·rename_i hb;cases h;have hlt:q < outs.length:=by
     rcases fN q bs.length with z|z
     ·lia
     ·rw [ae,bW z] at hb;cases hb
    refine ⟨λ j z=>by cases z;simp,λ j z=>by cases z;exact hlt,(λ z=>nomatch z),(λ z=>nomatch z),sd,?_⟩;simp only [jK,aT];rw [ao (by decide)];show q < (List.replicate (max 1 outs.length) 0).length
    rw [bd]
    lia
   ·cases h
 | joiner =>
  simp only at h;obtain ⟨⟨o,h1⟩,h2,h3⟩:=ok;simp only at h1 h2 h3 hl;subst h1
  split at h
  ·rw [am] at h;obtain ⟨q,hq,rfl⟩:=h;have hlt:=wK hq;rw [ah] at hlt;refine ⟨λ j z=>by cases z;show q < ins.length;lia,λ j z=>by cases z;simp,λ _=>⟨q,rfl⟩,(λ z=>nomatch z),⟨cr _,(λ z=>nomatch z),λ _=>?_,λ _ z=>absurd rfl z⟩,?_⟩
   ·have:=dA (q + 1) (show 0 < hs.length by lia);show (((q + 1) % hs.length:Nat):Int) < ins.length
    lia
   ·simp only [jK,aT];rw [ap trivial];show q < (List.replicate (max ins.length 1) 0).length
    rw [bd]
    lia
  ·cases h
theorem zal {rs:At} {st:PSt} {r:Row} (wf:stWf bs rs st) (ot:zY bs rs) (bo:∀ b∈bs,zH b.1 b.2) (ro:∀ r∈rs,r.ok) (hr:rs[k]?=some r) (hf:∀ b,fb=some b->b∈rgI bs.length) (hn:fb=none->r.wd=.source) :
  stWf bs rs (zM st k fb).2/\vJ rs (zM st k fb).1:=by
 cases fb with
 | none =>
  refine ⟨wf,λ s n z=>?_⟩;have z:((k:Int),(st.gone.getD k []).headD 0)=(s,n):=aI z;cases z;refine ⟨k,r,rfl,hr,hn rfl,?_⟩;have hk:=(aa.mp hr).1;have hg:st.gone[k]?=some (st.gone.getD k []):=by
   rw [ae,ac (by rw [wf.go.1];exact hk)]
   rfl
  obtain ⟨q1,q2⟩:=wf.go.2 k r _ hr hg;have cp:=x9 (ro r (af hr));cases e:st.gone.getD k [] with
  | nil=>rw [e] at q1;simp at q1;lia
  | cons x xs=>exact q2 x (by rw [e];simp)
 | some b =>
  obtain ⟨i,rfl,hi,ei,ne,wk⟩:=xg wf.co bo (hf b rfl);refine ⟨⟨?_,wf.so,wf.go⟩,wk _ (zdf ne)⟩;show xI bs rs (st.cells.set _ _)
  rw [ax];refine Q6 wf.co ei (by simp [qI]) λ x hx=>?_;rcases wJ hx with h|h
  ·exact wk x h
  ·rw [h];exact QD
def zaP {rs:At} {st:PSt} {x:zC} (wf:stWf bs rs st) (bo:∀ b∈bs,zH b.1 b.2) (hf:∀ b,tb=some b->b∈rgI bs.length) (hx:vJ rs x):stWf bs rs (xZ st x tb):=by
 cases tb with
 | none=>exact wf
 | some b =>
  obtain ⟨i,rfl,hi,ei,ne,wk⟩:=xg wf.co bo (hf b rfl);refine ⟨?_,wf.so,wf.go⟩;show xI bs rs (st.cells.set _ _)
  rw [ax];refine Q6 wf.co ei (by simp) λ z hz=>?_;rcases wJ hz with h|h
  ·exact wk z h
  ·rw [h];exact hx
def ze4 {rs:At} {sds:A6} {r:Row} {s:Int} (h:Vt rs sds) (hr:rs[k]?=some r) (hs:wq r s):Vt rs (sds.set k s):=by
 refine ⟨by rw [br];exact h.1,λ j r2 s2 h1 h2=>?_⟩;by_cases hj:j=k
 ·subst hj;rw [aP (by rw [h.1];exact (aa.mp h1).1)] at h2;cases h2;rw [hr] at h1;cases h1;exact hs
 ·rw [ba (a7 hj)] at h2;exact h.2 j r2 s2 h1 h2
def qr {α:Type} {xs:List α} {d:α} (h:k < xs.length):xs[k]?=some (xs.getD k d):=by
 rw [ae,ac h];rfl
def zdr {g:A6} (h:∀ x∈g,0<=x):(ZB g j).length=g.length/\∀ x∈ZB g j,0<=x:=by
 refine ⟨by simp [ZB],λ x hx=>?_⟩;rcases wJ hx with z|z
 ·exact h x z
 ·rw [z];have:0<=g.getD j 0:=by
   rw [ae];cases e:g[j]? with
   | none=>simp
   | some v=>exact h v (af e)
  lia
def zhs {rs:At} {st:PSt} (wf:stWf bs rs st) (ot:zY bs rs) (bo:∀ b∈bs,zH b.1 b.2) (ro:∀ r∈rs,r.ok):stWf bs rs (qq rs st k).1:=by
 unfold qq;cases hr:rs[k]? with
 | none=>exact wf
 | some r =>
  simp only;have hk:=(aa.mp hr).1;have ok:=ro r (af hr);have hsd:=wf.so.2 k r _ hr (qr (d:=0) (by rw [wf.so.1];exact hk));have hsd':wq r ((st.sides.getD k 0).toNat:Int):=by rw [bI hsd.1];exact hsd
  cases hc:z7 r (qh rs st.cells r) (qH st.cells r) st.turn (st.sides.getD k 0).toNat with
  | none=>exact wf
  | some ch =>
   obtain ⟨c1,c2,c3,c4,c5,c6⟩:=xM ok (by simp [qh]) (by simp [qH]) hsd' hc;have hfb:∀ b,qj r ch=some b->b∈rgI bs.length:=λ b hb=>by
    unfold qj at hb;obtain ⟨j,hj1,hj2⟩:=bn.mp hb;exact Qs ot hr (af hj2)
   have htb:∀ b,xO r ch=some b->b∈rgI bs.length:=λ b hb=>by
    unfold xO at hb;obtain ⟨j,hj1,hj2⟩:=bn.mp hb;exact vU ot hr (af hj2)
   have hfn:qj r ch=none->r.wd=.source:=λ hb=>by
    cases e:ch.1 with
    | none=>exact c4 e
    | some j =>
     unfold qj at hb;rw [e] at hb;simp at hb;have:=c1 j e
     lia
   obtain ⟨w1,w2⟩:=zal wf ot bo ro hr hfb hfn;have w3:=zaP w1 bo htb w2;refine ⟨w3.co,ze4 w3.so hr c5,?_⟩;have hg:=qr (xs:=(movedF r st k ch).gone) (k:=k) (d:=[]) (by rw [show (movedF r st k ch).gone.length=rs.length from w3.go.1];exact hk);obtain ⟨q1,q2⟩:=w3.go.2 k r _ hr hg;exact zfV w3.go hg (zdr q2).1 (zdr q2).2
def KnP.no {y C dx:Addr} {r:Row} {f:Str} (h:KnP a H p (.ref y) r) (hy:H y=some (.ins C dx fs)) (h1:f≠"ins") (h2:f≠"outs") (h3:f≠"pace") (h4:f≠"kinds") (h5:f≠"kind"):fs.lookup f=none:=by
 obtain ⟨y',dx',fs',e,_,hy',_,g⟩:=Rep.ob' h;cases e;rw [hy] at hy';cases hy';exact g f (zfJ h1 h2 h3 h4 h5)
def StO.offT {y:Addr} {n:SN} {st:PSt} (h:StO a H y n st) (t:z8 H b):b ∉ y :: n.all:=by
 obtain ⟨xs,hx⟩:=t;intro hb;have no:∀ us,H b≠some (.lst us):=λ us e=>by rw [hx] at e;cases e
 unfold SN.all at hb;rcases ar.mp hb with rfl|hb
 ·rw [h.hy] at hx;cases hx
 rcases ar.mp hb with rfl|hb
 ·exact no _ h.hs
 rcases ar.mp hb with rfl|hb
 ·exact no _ h.hc.out
 rcases ar.mp hb with rfl|hb
 ·exact no _ h.hg.out
 rcases aE.mp hb with hb|hb
 ·obtain ⟨us,e⟩:=h.hc.isl (aD _ hb);exact no _ e
 ·obtain ⟨us,e⟩:=h.hg.isl (aD _ hb);exact no _ e
def StO.repT {H H':Hp} {y:Addr} {n:SN} {st:PSt} (h:StO a H y n st) (s:Fr (y :: n.all) H H') {d:D} (r:Rep H (z8 H) v d):Rep H' (z8 H') v d :=
 Rep.keep (λ b o hp hb=>⟨by obtain ⟨xs,hx⟩:=hp;exact ⟨xs,s _ _ (h.offT ⟨xs,hx⟩) hx⟩,s _ _ (h.offT hp) hb⟩) r
def zfN (ns:A6) (k:Nat) (x:Int):(iv ns).set k (.int x)=iv (ns.set k x):=by simp [iv]
def zdT {H H':Hp} {d:D} (r:Rep H (z8 H) v d) (s:Same H H'):Rep H' (z8 H') v d:=Rep.keep (λ b o ⟨xs,hx⟩ hb=>⟨⟨xs,s _ _ hx⟩,s _ _ hb⟩) r
inductive spAct (a:Ad) (vs:Ap) (H:Hp) (Q:VK) (E:XK):Prop
 | i (vw:V) (y:Addr) (n:SN) (st:PSt) (k:Nat) (bs:A1) (rs:At):vs=[vw,.ref y,.int k]->Rep H (Off (y :: n.all)) vw (qy a bs rs)->StO a H y n st->stWf bs rs st->zY bs rs->(∀ b∈bs,zH b.1 b.2)->(∀ r∈rs,r.ok)->k < rs.length->(∀ v H',Fr (y :: n.all) H H'->StO a H' y n (qq rs st k).1->Rep H' (z8 H') v (ziJ (qq rs st k).2)->Q v H')->spAct a vs H Q E
def zil (T:Txt K mg a) (F:Fun K "act" "act" zaE f fd):FnOk P w K mg base (CXr P w) 4 f fd ["work","state","number"] (spAct a):=by
 refine F.okx zhY ?_ ?_
 ·walk_at "i"
 walk_at "j";rcases h with ⟨vw,y,n,st,kn,bs,rs,rfl,hw,so,wf,ot,bo,ro,hk,k⟩;refine oE7 (jw hw) λ yw dw fw l1 l2 bvs om o8=>oA9 o8 λ oi hyw ew1 ew2 hl1 hl2 hB hK no=>?_;clear o8;subst oi;obtain ⟨r,hr'⟩:∃ r,rs[kn]?=some r:=⟨rs[kn],ac hk⟩;have ok:=ro r (af hr');have rl:=wE ok;obtain ⟨kv,hkv,hKn⟩:=VU hK hr';refine oE6 hKn.inv λ y1 dx1 m1 m2 m3 fs1 o8=>oA9 o8 λ oi _ _ _ _ g0 f1 f2 ou=>oA5 ou λ _ g1 g2 _ _=>?_;clear o8 ou;subst oi;have fno:=hKn.no (f:="choice") g0 (by symm) (by symm) (by symm) (by symm) (by symm);have hsd:=wf.so.2 kn r _ hr' (qr (d:=0) (by rw [wf.so.1];exact hk));obtain ⟨side,esd⟩:∃ sd:Nat,st.sides.getD kn 0=sd:=⟨(st.sides.getD kn 0).toNat,(bI hsd.1).symm⟩;have hside:st.sides[kn]?=some (side:Int):=by rw [<- esd];exact qr (by rw [wf.so.1];exact hk)
 have hsd':wq r (side:Int):=by rw [<- esd];exact hsd
 have esd':(st.sides.getD kn 0).toNat=side:=by rw [esd];rfl
 refine oA4 (sff_l (t:=st.turn) (lc:=n.lc) (ls:=n.ls) (lg:=n.lg)) λ lk1 lk2 lk3 lk4=>?_;have hAct:∀ x,z7 r (qh rs st.cells r) (qH st.cells r) st.turn side=x->qq rs st kn=match x with|none=>(st,none)|some ch=>((jy r st kn ch).1,some (jy r st kn ch).2):=λ x e=>by
  unfold qq;rw [hr'];simp only;rw [esd',e]
  all_goals (cases x <;> rfl)
 walk_at "T";refine ⟨_,(zi (zu 3 zhY.nd (zr (zm (pq 0) rfl) (pq 2)))  (zi (Xo (i:=4) zhY.nd rfl (Or.inl rfl) (vars:=["belt"]) (caps:=[1]) (N:=["belt","state"]) (ON:=["work","state","number","knot","free","chosen","from_belt","to_belt","ware"]) (osc:=zg zaE) rfl rfl (by right) rfl rfl (qo (zm (pq 3) rfl)) (λ _ _ _ _=>(qp 0 (show (["belt","state"]:A8).Nodup from by symm))) (λ _ _ _ _=>ql) (λ _ _ _ _=>(Zo op_isN (zr (zr (zm (pq 1) rfl) (pq 0)) ze) zA (zq _))))  (zi (zu 5 zhY.nd (QX ⟨rfl,rfl,rfl⟩ hr (pq 3) (za ‹(pq 0) (za (pq 1) (za (pq 3) zb))› (za (pq 4) (za (zm (pq 1) rfl) (za (zr (zm (pq 1) rfl) (pq 2)) zb))))))  (zi (zF (zl ja (pq 5) zA (zq _))  (zd (zk zA))  zp)  (zi (zu 6 zhY.nd ‹(zm (pq 3) rfl) (za (zr (pq 5) ze) zb)›)  (zi (zu 7 zhY.nd ‹(zm (pq 3) rfl) (za (zr (pq 5) ze) zb)›)  (zi (zu 8 zhY.nd ‹(pq 1) (za (pq 2) (za (pq 6) zb))›)  (qG (zF (zl vj (pq 7) zA (zq _))  (zd (vd (pq 8) (vT (zr (zm (pq 1) rfl) (pq 7)) ze jL)))  zp)  (zi (vd (zr (pq 5) ze) (vT (zm (pq 1) rfl) (pq 2) jL))  (zi (zgQ (zr (zm (pq 1) rfl) (pq 2)) ‹(pq 3) (za (pq 5) zb)› zfX ze ziE jL)  (zd (zk (jn (za (pq 2) (za (pq 8) (za (pq 6) (za (pq 7) zb))))))))))))))))),?_⟩;exists ra hyw T.gX T.gU ew2 (zt (SqL.of hl2) (zD hkv) ?_);left;walk_at "d";exists ra g0 (CT T _) (NO T _) f2 ⟨m2,rfl,.inl ⟨⟨_,SqL.of g2⟩,λ _ _ _ _ oq hacc=>?_⟩⟩;refine qK (K:=K) (a:=m2) (xs:=iv r.outs) (λ i σ H'=>∃ (v0:Aq),σ=[v0,some (.ref y)]/\Same H H'/\H' oq=some (.lst (((qH st.cells r).take i).map V.bl))) ⟨_,iA3 rfl (zf hacc) (by rw [bJ];exact oB)⟩ (λ i σ H' _ h=>by obtain ⟨_,_,s,_⟩:=h;exact SqL.of (s _ _ g2)) ?_ ?_
 ·intro i x σ H2 hi oj;refine oE1 oj λ v0 o8=>oA3 o8 λ oi s2 ha=>?_;ext;obtain ⟨b,hb,rfl⟩:=Qq hi;have hil:=(aa.mp hb).1;refine oE1 (xg wf.co bo (vU ot hr' (af hb))) λ j o8=>oA5 o8 λ oi hj ej nej _=>?_;clear o8;subst oi;refine oE2 (so.cell ej) λ bC vs o8=>oA3 o8 λ hbC hvC rvC=>?_;clear o8;obtain ⟨c0,cs,ec⟩:∃ c0 cs,zz st.cells j=c0 :: cs:=cQ nej;have hfr:(qH st.cells r)[i]?=some (decide (c0=none)):=by rw [qH,ak,hb];simp [ec,JE]
  rw [ec] at rvC;obtain ⟨v1,hv1,rv1⟩:=rvC.of (i:=0) (d:=zX c0) rfl;exists ra (s2 _ _ so.hy) T.ad T.gM lk1 (zt (SqL.of (s2 _ _ so.hc.out)) (zD (QC hbC)) (zt (SqL.of (s2 _ _ hvC)) (zD (j:=0) hv1) ?_));left;have ev:decide (v1=V.non)=decide (c0=none):=by
   cases c0 with
   | none=>cases rv1;rfl
   | some x=>obtain ⟨t,us,rfl,_⟩:=Rep.tup' rv1;rfl
  rw [ev];refine ⟨_,iA3 ha (zn (by rw [ah,aJ];lia)) ⟨_,iA3 rfl (λ b o hb=>by rw [oC (oE hb hacc)];exact s2 b o hb) ?_⟩⟩;rw [oB,aH,hfr,aV]
  rfl
 intro σ H2 oj;refine oE1 oj λ v0 o8=>oA3 o8 λ oi s2 ha=>?_;ext;rw [zK,bK (by simp [qH])] at ha;exists iE7 y1 (wM a r.wd) dx1 fs1 _ _ _ (iA5 rfl (s2 _ _ g0) fno ((zfD T r.wd).mono) ?_);refine uc (zcI T).mono (spHeads.i _ _ _ bs rs st kn r _ _ rfl (qV hw s2) ((so.same s2).rep) (qV hKn s2) hr' ot bo ro wf.co (λ hl H3 s3 nhl hhl=>?_));have s23:=s2.trans s3;refine ra (s23 _ _ so.hy) T.ad T.gS lk4 ?_;refine ra (s23 _ _ so.hy) T.ad T.gW lk2 (zt (SqL.of (s23 _ _ so.hs)) (zD (jD hside)) ?_);refine iE5 y1 hl oq r _ (iE4 (qh rs st.cells r) (qH st.cells r) st.turn side (iA9 rfl (qV hKn s23) rfl ok hhl (s3 _ _ ha) (by simp [qh]) (by simp [qH]) (λ vc H4 s4 tc=>?_)));have s24:=s23.trans s4;have so4:=so.same s24;have hKn4:=qV hKn s24;left;cases hc:z7 r (qh rs st.cells r) (qH st.cells r) st.turn side with
 | none =>
  rw [hc] at tc;have tc:vc=.non:=tc;subst tc;have e:=hAct _ hc;refine zT (λ _=>?_) (λ b=>absurd rfl b);exists k _ _ s24.fr ?_ ?_
  ·rw [e];exact so4
  ·rw [e];exact .non
 | some ch =>
  rw [hc] at tc;obtain ⟨ct,rfl,hct⟩:=tc;have e:=hAct _ hc;refine oA6 (xM ok (by simp [qh]) (by simp [qH]) hsd' hc) λ c1 c2 c3 c4 c5 c6=>?_;have hfb:∀ b,qj r ch=some b->b∈rgI bs.length:=λ b hb=>by
   unfold qj at hb;obtain ⟨j,hj1,hj2⟩:=bn.mp hb;exact Qs ot hr' (af hj2)
  have htb:∀ b,xO r ch=some b->b∈rgI bs.length:=λ b hb=>by
   unfold xO at hb;obtain ⟨j,hj1,hj2⟩:=bn.mp hb;exact vU ot hr' (af hj2)
  have hfn:qj r ch=none->r.wd=.source:=λ hb=>by
   cases e:ch.1 with
   | none=>exact c4 e
   | some j =>
    unfold qj at hb;rw [e] at hb;simp at hb;have:=c1 j e
    lia
  obtain ⟨w1,w2⟩:=zal wf ot bo ro hr' hfb hfn;have w3:=zaP w1 bo htb w2;have hg0:=qr (xs:=st.gone) (k:=kn) (d:=[]) (by rw [wf.go.1];exact hk);obtain ⟨q1,q2⟩:=wf.go.2 kn r _ hr' hg0;have cp:=x9 ok;obtain ⟨g0',gs,eg⟩:∃ g0 gs,st.gone.getD kn []=g0 :: gs:=cQ λ z=>by rw [z] at q1;simp at q1;lia
  rw [eg] at hg0;refine zT (λ b=>by cases b) (λ _=>?_);exists uc (WZ T).mono (ra (s24 _ _ g0) (CT T _) (NI T _) f1 (oG hct at0 ?_));refine iE3 m1 r.ins ch.1 (iA4 rfl (s24 _ _ g1) c1 ?_);exists uc (WZ T).mono (ra (s24 _ _ g0) (CT T _) (NO T _) f2 (oG hct (show atI (chV ch) 1=some (Zz ch.2.1) from rfl) ?_));refine iE3 m2 r.outs ch.2.1 (iA4 rfl (s24 _ _ g2) c2 ?_);exists uc (V7 T).mono (spTaken.i y n st kn (qj r ch) g0' gs rfl so4 hg0 (λ b hb=>?_) (λ v5 H5 f5 so5 rv5=>?_))
  ·refine oE1 (xg wf.co bo (hfb b hb)) λ i o8=>oA5 o8 λ e1 _ e2 e3 _=>?_;clear o8;exact ⟨i,iA3 e1 e2 e3⟩
  have hct5:=f5 _ _ (so4.offT ⟨_,hct⟩) hct;have hKn5:=hKn4.fr f5;have fr5:=(s24.fr (ms:=y :: n.all)).trans f5;rw [show (ch.1.bind λ j=>r.ins[j]?)=qj r ch from rfl,show (ch.2.1.bind λ j=>r.outs[j]?)=xO r ch from rfl];exists cut (λ σ' H'=>σ'=[some (.ref yw),some (.ref y),some (.int kn),some (.ref y1),some (.ref oq),some (.ref ct),some (hdV (qj r ch)),some (hdV (xO r ch)),some v5]/\Fr (y :: n.all) H5 H'/\StO a H' y n (movedF r st kn ch)) ?_ ?_
  ·have w4:=λ b (hb:xO r ch=some b)=>xg w1.co bo (htb b hb);unfold movedF;generalize xO r ch=tb at w4 ⊢;left;cases tb with
   | none =>
    refine zT (λ b=>absurd rfl b) (λ _=>?_);left;exact ⟨.refl,so5⟩
   | some b =>
    refine oE1 (w4 b rfl) λ i o8=>oA5 o8 λ oi _ e2 e3 _=>?_;clear o8;subst oi;refine oE2 (so5.cell e2) λ bC vs o8=>oA3 o8 λ hbC hvC rvC=>?_;clear o8;have lv:vs.length=(zz (zM st kn (qj r ch)).2.cells i).length:=by rw [rvC.len,ah]
    have lp:0 < vs.length:=by rw [lv];exact dP.mpr e3
    refine zT (λ _=>?_) (λ b=>absurd (λ z=>by cases z) b);exists ra so5.hy T.ad T.gM sff_l.1 (zt (SqL.of so5.hc.out) (zD (QC hbC)) ?_);exists xG (j:=0) hvC (Zc (by decide) (by simpa using lp)) ?_;refine ⟨qw (zae hbC),?_⟩;have:=so5.putC hbC (c':=(zz (zM st kn (qj r ch)).2.cells i).set 0 (zM st kn (qj r ch)).1) (by rw [cv];exact Reps.set rvC 0 rv5);simpa [xZ] using this
  rintro σ H6 ⟨rfl,f6,so6⟩;have hct6:=f6 _ _ (so5.offT ⟨_,hct5⟩) hct5;have hKn6:=hKn5.fr f6;have rv6:=so5.repT f6 rv5;have fr6:=fr5.trans f6;exists oG hct6 (show atI (chV ch) 2=some (.int ch.2.2) from rfl) ?_;exists ra so6.hy T.ad T.gW sff_l.2.1 (xG so6.hs (Zc (cr _) (by rw [zK,show (movedF r st kn ch).sides.length=rs.length from w3.so.1];exact Int.ofNat_lt.mpr hk)) ?_);rw [ax,zfN];have so7:=so6.putS (s':=(movedF r st kn ch).sides.set kn ch.2.2);have f7:Fr (y :: n.all) H6 (upd H6 n.ls (.lst (iv ((movedF r st kn ch).sides.set kn ch.2.2)))):=qw (by simp [SN.all]);have hct7:=f7 _ _ (so6.offT ⟨_,hct6⟩) hct6;have hKn7:=hKn6.fr f7;have rv7:=so6.repT f7 rv6;have fr7:=fr6.trans f7;generalize upd H6 n.ls (.lst (iv ((movedF r st kn ch).sides.set kn ch.2.2)))=H7 at so7 hct7 hKn7 rv7 fr7 ⊢;have hg7:=qr (xs:=(movedF r st kn ch).gone) (k:=kn) (d:=[]) (by rw [show (movedF r st kn ch).gone.length=rs.length from w3.go.1];exact hk);obtain ⟨p1,p2⟩:=w3.go.2 kn r _ hr' hg7;obtain ⟨bG,hbG,hgG⟩:=so7.goneL hg7;have e0:jy r st kn ch=({ movedF r st kn ch with sides:=(movedF r st kn ch).sides.set kn ch.2.2,gone:=(movedF r st kn ch).gone.set kn (ZB ((movedF r st kn ch).gone.getD kn []) (jK r ch)) },⟨kn,(zM st kn (qj r ch)).1,qj r ch,xO r ch⟩):=rfl;have so8:=so7.putG (g':=ZB ((movedF r st kn ch).gone.getD kn []) (jK r ch)) hbG;generalize (movedF r st kn ch).gone.getD kn []=g at *;have hcp:jK r ch < g.length:=by rw [p1];exact c6
  left;unfold zhy;exists ra so7.hy T.ad T.gP sff_l.2.2.1 (zt (SqL.of so7.hg.out) (zD (zds hbG)) ?_);exists uc (JC T).mono (spCounted.i _ ct r ch _ rfl hKn7 hct7 c3 ?_);refine iE4 bG _ (jK r ch) _ (iA6 rfl rfl (SqL.of hgG) (cr _) (zD (jD (qr (d:=0) hcp))) ?_);exists xG hgG (Zc (cr _) (by rw [zK];exact Int.ofNat_lt.mpr hcp)) ?_;rw [ax,zfN];have f8:Fr (y :: n.all) H7 (upd H7 bG (.lst (iv (g.set (jK r ch) (g.getD (jK r ch) 0 + 1))))):=qw (zhq hbG);have rv8:=so7.repT f8 rv7;change StO a (upd H7 bG (.lst (iv (g.set (jK r ch) (g.getD (jK r ch) 0 + 1))))) y n _ at so8;have fr8:=fr7.trans f8;generalize e8:upd H7 bG (.lst (iv (g.set (jK r ch) (g.getD (jK r ch) 0 + 1))))=H8 at so8 f8 rv8 fr8 ⊢;left;intro t ht;refine k _ _ (fr8.trans (zcz ht)) ?_ ?_
  ·rw [e];simp only;rw [e0];exact so8.same (zf ht)
  ·rw [e];simp only;rw [e0];exact Reps.mkT (vs:=[.int kn,v5,hdV (qj r ch),hdV (xO r ch)]) (.cons .int (.cons (zdT rv8 (zf ht)) (.cons (zcR _) (.cons (zcR _) .nil)))) ⟨_,oB⟩ oB
def zjG (T:Txt K mg a):Cal P w K mg base "act" 4 ["work","state","number"] [] (spAct a):=T.oa.cal (zil T)
noncomputable def zo (rs:At) (st:PSt):Nat->PSt × List Move
 | 0=>(st,[])
 | i + 1=>((qq rs (zo rs st i).1 i).1,(zo rs st i).2 ++ (qq rs (zo rs st i).1 i).2.toList)
theorem qY {bs:A1} {rs:At} {st:PSt} (wf:stWf bs rs st) (ot:zY bs rs) (bo:∀ b∈bs,zH b.1 b.2) (ro:∀ r∈rs,r.ok):∀ i,stWf bs rs (zo rs st i).1
 | 0=>wf
 | i + 1=>zhs (qY wf ot bo ro i) ot bo ro
theorem X0 (rs:At) (st:PSt):∀ i,(zo rs st i).2.length<=i
 | 0=>au _
 | i + 1=>by
  have:=X0 rs st i;show ((zo rs st i).2 ++ (qq rs (zo rs st i).1 i).2.toList).length<=i + 1
  rw [aF];cases (qq rs (zo rs st i).1 i).2 with
  | none=>exact Nat.le_succ_of_le this
  | some _=>exact Nat.succ_le_succ this
section
variable {H H':Hp} {y:Addr} {n:SN} {st:PSt}
def StO.offN (h:StO a H y n st) (e:H b=none):b ∉ y :: n.all:=by
 have no:∀ o,H b≠some o:=λ o z=>by rw [e] at z;cases z
 intro hb;unfold SN.all at hb;rcases ar.mp hb with rfl|hb
 ·exact no _ h.hy
 rcases ar.mp hb with rfl|hb
 ·exact no _ h.hs
 rcases ar.mp hb with rfl|hb
 ·exact no _ h.hc.out
 rcases ar.mp hb with rfl|hb
 ·exact no _ h.hg.out
 rcases aE.mp hb with hb|hb
 ·obtain ⟨us,z⟩:=h.hc.isl (aD _ hb);exact no _ z
 ·obtain ⟨us,z⟩:=h.hg.isl (aD _ hb);exact no _ z
def StO.out {M:Addr} {us vs:Ap} (h:StO a H y n st) (e:H M=some (.lst us)) (nM:M ∉ y :: n.all):StO a (upd H M (.lst vs)) y n st:=by
 have k:∀ c o,c≠M->H c=some o->upd H M (.lst vs) c=some o:=λ c o nc hc=>by rw [oC nc];exact hc
 have kt:∀ c,z8 H c->c≠M:=λ c ⟨xs,hx⟩ z=>by rw [z,e] at hx;cases hx
 refine ⟨k _ _ (λ z=>nM (by rw [<- z];simp)) h.hy,h.hc.tup λ c o hz hc=>k c o (λ z=>?_) hc,k _ _ (λ z=>nM (by rw [<- z];simp [SN.all])) h.hs,h.hg.tup λ c o hz hc=>k c o (λ z=>?_) hc,h.nd⟩
 ·rcases hz with rfl|hz|hz
  ·exact nM (by rw [<- z];simp [SN.all])
  ·exact nM (by rw [<- z];simp [SN.all,hz])
  ·exact kt c hz z
 ·rcases hz with rfl|hz|hz
  ·exact nM (by rw [<- z];simp [SN.all])
  ·exact nM (by rw [<- z];simp [SN.all,hz])
  ·exact kt c hz z
def StO.repsT (h:StO a H y n st) (s:Fr (y :: n.all) H H') {ds:List D} (r:Reps H (z8 H) vs ds):Reps H' (z8 H') vs ds :=
 ⟨r.len,λ i v d h1 h2=>h.repT s (r.g i v d h1 h2)⟩
def zaI {M:Addr} {us vs:Ap} (e:H M=some (.lst us)) {d:D} (r:Rep H (z8 H) v d):Rep (upd H M (.lst vs)) (z8 (upd H M (.lst vs))) v d :=
 Rep.keep (λ b o hp hb=>⟨JF e hp,by obtain ⟨xs,hx⟩:=hp;rw [oC (λ z=>by rw [z,e] at hx;cases hx)];exact hb⟩) r
def zdS {M:Addr} {us vs:Ap} (e:H M=some (.lst us)) {ws:Ap} {ds:List D} (r:Reps H (z8 H) ws ds):Reps (upd H M (.lst vs)) (z8 (upd H M (.lst vs))) ws ds :=
 ⟨r.len,λ i v d h1 h2=>zaI e (r.g i v d h1 h2)⟩
end
inductive spActAll (a:Ad) (vs:Ap) (H:Hp) (Q:VK) (E:XK):Prop
 | i (vw:V) (y:Addr) (n:SN) (st:PSt) (bs:A1) (rs:At):vs=[vw,.ref y]->Rep H (Off (y :: n.all)) vw (qy a bs rs)->StO a H y n st->stWf bs rs st->zY bs rs->(∀ b∈bs,zH b.1 b.2)->(∀ r∈rs,r.ok)->(∀ l us H',Fr (y :: n.all) H H'->StO a H' y n (zo rs st rs.length).1->H l=none->l ∉ y :: n.all->H' l=some (.lst us)->Reps H' (z8 H') us ((zo rs st rs.length).2.map ZI)->Q (.ref l) H')->spActAll a vs H Q E
theorem Va (T:Txt K mg a):Cal P w K mg base "act_all" 5 ["work","state"] [] (spActAll a):=T.mP.cal λ F=>by
 refine F.okx zbX ?_ ?_
 ·walk_at "i"
 walk_at "j";rcases h with ⟨vw,y,n,st,bs,rs,rfl,hw,so,wf,ot,bo,ro,k⟩;refine oE7 (jw hw) λ yw dw fw l1 l2 bvs om o8=>oA9 o8 λ oi hyw ew1 ew2 hl1 hl2 hB hK no=>?_;clear o8;subst oi;have lk:om.length=rs.length:=hK.len;have r24:=ot.1.2.2;walk_at "T";refine ⟨_,(zh (zu 2 zbX.nd (zL zb))  (qG (qB qX rfl (vh (za (qb qa z9 (za (zm (pq 0) rfl) zb)) zb)) (qp 3 zbX.nd)  (zh (zu 4 zbX.nd ‹(pq 0) (za (pq 1) (za (pq 3) zb))›)  (zd (zF (zl vj (pq 4) zA (zq _))  (zd (zG (qC aq az ay zQ (pq 2) (za (pq 4) zb))))  zp))))  (zd (zk (pq 2))))),?_⟩;left;intro M hM;have nM:=so.offN hM;have s1:=zf (o:=.lst []) hM;have hM1:upd H M (.lst []) M=some (.lst []):=oB;generalize upd H M (.lst [])=H1 at s1 hM1 ⊢;exists cut (λ σ' H'=>∃ (v3 v4:Aq) (us:Ap),σ'=[some (.ref yw),some (.ref y),some (.ref M),v3,v4]/\Fr (y :: n.all) H H'/\StO a H' y n (zo rs st rs.length).1/\H' M=some (.lst us)/\Reps H' (z8 H') us ((zo rs st rs.length).2.map ZI)) ?_ ?_
 ·walk_at "e";exists ra (s1 _ _ hyw) T.gX T.gU ew2 ?_;refine ⟨_,.inl ⟨_,SqL.of (s1 _ _ hl2),rfl⟩,?_⟩;rw [lk];exists ⟨by lia,by lia,?_⟩;refine Qu (n:=(rs.length:Int).toNat) (λ i σ H'=>∃ (v3 v4:Aq) (us:Ap),σ=[some (.ref yw),some (.ref y),some (.ref M),v3,v4]/\Fr (y :: n.all) H H'/\StO a H' y n (zo rs st i).1/\H' M=some (.lst us)/\Reps H' (z8 H') us ((zo rs st i).2.map ZI)) (iE3 _ _ _ (iA5 rfl s1.fr (so.same s1) hM1 (.nil))) ?_ (λ σ H' h=>?_)
  ·intro i σ H2 hi oj;refine oE3 oj λ v3 v4 us o8=>oA5 o8 λ oi f2 so2 hM2 r2=>?_;ext;have hi:i < rs.length:=by simpa using hi
   have al:=X0 rs st i;have lu:us.length=(zo rs st i).2.length:=by rw [r2.len,ah]
   left;simp only [dB];refine uc (zjG T).mono (spAct.i (.ref yw) y n _ i bs rs rfl (hw.fr f2) so2 (qY wf ot bo ro i) ot bo ro hi (λ v H3 f3 so3 rv=>?_));have f23:=f2.trans f3;have hM3:=f3 _ _ nM hM2;have r3:=so2.repsT f3 r2;have eA:zo rs st (i + 1)=((qq rs (zo rs st i).1 i).1,(zo rs st i).2 ++ (qq rs (zo rs st i).1 i).2.toList):=rfl;left;cases e:(qq rs (zo rs st i).1 i).2 with
   | none =>
    rw [e] at rv eA;cases rv;refine zT (λ b=>absurd rfl b) (λ _=>?_);rw [eA];exact iE3 _ _ _ (iA5 rfl f23 so3 hM3 (by rw [show (none:Option Move).toList=[] from rfl,bT];exact r3))
   | some m =>
    rw [e] at rv eA;refine zT (λ _=>?_) (λ b=>?_)
    ·exists ⟨.inl ⟨rfl,_,SqL.of hM3⟩,iE3 M _ _ (iA5 rfl rfl hM3 (zn (by lia)) (iE3 _ _ _ (iA5 rfl (λ b o nb hb=>by rw [oC (oE hb hM)];exact f23 b o nb hb) ?_ oB ?_)))⟩
     ·rw [eA];exact so3.out hM3 nM
     ·rw [eA];show Reps _ _ _ (List.map ZI ((zo rs st i).2 ++ [m]))
      rw [aV];exact (zdS hM3 r3).append (Reps.one (zaI hM3 rv))
    ·exfalso;refine b λ z=>?_;subst z;cases rv
  ·have e:((rs.length:Int)).toNat=rs.length:=by simp
   rw [e] at h;exact h
 intro σ' H2 oj;refine oE3 oj λ v3 v4 us o8=>oA5 o8 λ oi f2 so2 hM2 r2=>?_;ext;left;exact k _ _ _ f2 so2 hM nM hM2 r2
noncomputable def qP (c:Av) (p:Nat):List zC:=if c.getD (p + 1) none=none then (c.set (p + 1) (c.getD p none)).set p none else c
noncomputable def ww (c:Av):Nat->List zC
 | 0=>c
 | k + 1=>qP (ww c k) (c.length - 2 - k)
noncomputable def za1 (c:Av):List zC:=ww c (c.length - 1)
def zcj {c:Av} {p:Nat}:(qP c p).length=c.length:=by
 unfold qP
 split <;> simp
theorem Qi {c:Av}:∀ k,(ww c k).length=c.length
 | 0=>rfl
 | k + 1=>by rw [ww,zcj,Qi k]
def zci {c:Av} {p:Nat} {x:zC} (h:x∈qP c p):x∈c\/x=none:=by
 unfold qP at h
 split at h
 ·rcases wJ h with h|h
  ·rcases wJ h with h|h
   ·exact .inl h
   ·rw [ae] at h;cases e:c[p]? with
    | none=>rw [e] at h;exact .inr h
    | some y=>rw [e] at h;exact .inl (by rw [h];exact af e)
  ·exact .inr h
 ·exact .inl h
theorem zaZ {c:Av} {x:zC}:∀ k,x∈ww c k->x∈c\/x=none
 | 0=>λ h=>.inl h
 | k + 1=>λ h=>by
  rcases zci h with h|h
  ·exact zaZ k h
  ·exact .inr h
def zeL (h:H b=some o):upd H b o=H:=by
 funext x
 by_cases e:x=b
 ·rw [e,oB,h]
 ·rw [oC e]
def zai {x:zC} (r:Rep H p v (zX x)):v=.non ↔ x=none:=by
 cases x with
 | none=>cases r;simp
 | some x=>obtain ⟨t,us,rfl,_⟩:=Rep.tup' r;simp
def atD {xs:Av} {p:Nat} (h:p < xs.length):xs[p]?=some (xs.getD p none):=qr h
def zbQ:Sp:=λ vs H Q _=>∃ (b:Addr) (us:Ap) (c:Av),vs=[.ref b]/\H b=some (.lst us)/\Reps H (z8 H) us (c.map zX)/\c.length<=100/\∀ us',Reps H (z8 H) us' ((za1 c).map zX)->Q .non (upd H b (.lst us'))
def zbz (T:Txt K mg a):Cal P w K mg base "move_belt" 1 ["cells"] [] zbQ:=T.mh.cal λ F=>by
 refine F.okx Vz ?_ ?_
 ·walk_at "i"
 walk_at "j";obtain ⟨b,us,c,rfl,hb,rb,lc,k⟩:=h;have lu:us.length=c.length:=by rw [rb.len,ah]
 walk_at "T";refine ⟨_,(zd (qB qX rfl (zia (za (zJ vn (qb qa z9 (za (pq 0) zb)) ze) (za (zaS JU ze) (za (zaS JU ze) zb)))) (qp 1 Vz.nd)  (zd (zF (zl ja (zr (pq 0) (zJ qd (pq 1) ze)) zA (zq _))  (zh (vd (zr (pq 0) (pq 1)) (vT (pq 0) (zJ qd (pq 1) ze) jL))  (zd (vd zA (vT (pq 0) (pq 1) jL))))  zp)))),?_⟩;left;walk_at "e";exists ⟨_,.inl ⟨_,SqL.of hb,rfl⟩,?_⟩;rw [lu];exists ⟨_,_,rfl,⟨by lia,by lia,by lia,by lia⟩,?_⟩;rw [show ((c.length:Int) - 2 - -1).toNat=c.length - 1 by lia];refine zjv (K:=K) (λ i σ H'=>∃ (v1:Aq) (us':Ap),σ=[some (.ref b),v1]/\H'=upd H b (.lst us')/\Reps H (z8 H) us' ((ww c i).map zX)) ⟨_,us,rfl,(zeL hb).symm,rb⟩ ?_ ?_
 ·rintro i σ H' hi ⟨v1,us',rfl,rfl,r1⟩;have lm:=Qi (c:=c) i;have l1:us'.length=c.length:=by rw [r1.len,ah,lm]
  obtain ⟨p,hp⟩:∃ p,c.length - 2 - i=p:=⟨_,rfl⟩;have ep:(c.length:Int) - 2 - i=p:=by lia
  have hp1:p + 1 < c.length:=by lia
  rw [ep];have eS:ww c (i + 1)=qP (ww c i) p:=by rw [ww,hp]
  rw [eS];generalize ww c i=m at r1 lm ⊢;have m0:m[p]?=some (m.getD p none):=atD (by lia);have m1:m[p + 1]?=some (m.getD (p + 1) none):=atD (by lia);obtain ⟨u0,hu0,ru0⟩:=r1.of (i:=p) (d:=zX (m.getD p none)) (by rw [ak,m0];rfl);obtain ⟨u1,hu1,ru1⟩:=r1.of (i:=p + 1) (d:=zX (m.getD (p + 1) none)) (by rw [ak,m1];rfl);have e1:((p:Int) + 1)=((p + 1:Nat):Int):=by lia
  left;rw [e1];refine zt (SqL.of oB) (zD hu1) ?_;exists zT (λ z=>?_) (λ z=>?_)
  ·have z:=(zai ru1).mp z;exists zt (SqL.of oB) (zD hu0) ?_;exists xG oB (Zc (by lia) (by lia)) ?_;exists xG oB (Zc (by lia) (by simp;lia)) ?_;rw [Zj,Zj];refine ⟨_,_,rfl,rfl,?_⟩;unfold qP;rw [ap z,cv,cv,ax,ax];exact Reps.set (Reps.set r1 _ ru0) _ .non
  ·have z:m.getD (p + 1) none≠none:=λ y=>z ((zai ru1).mpr y);exists ⟨_,us',rfl,rfl,?_⟩;unfold qP;rw [ao z];exact r1
 ·rintro σ H' ⟨v1,us',rfl,rfl,r1⟩;exact k _ r1
noncomputable def qk (bs:A1) (t:Int) (cs:Au):Nat->List Av
 | 0=>cs
 | i + 1=>if t % (bs.getD i (0,1)).2=0 then (qk bs t cs i).set i (za1 ((qk bs t cs i).getD i [])) else qk bs t cs i
theorem Z2 {bs:A1} {rs:At} {t:Int} {cs:Au} (h:xI bs rs cs):∀ i,xI bs rs (qk bs t cs i)
 | 0=>h
 | i + 1=>by
  have ih:=Z2 h i (t:=t);rw [qk]
  split
  ·generalize qk bs t cs i=ds at ih ⊢;cases e:ds[i]? with
   | none=>rw [cu (cc.mp e)];exact ih
   | some c =>
    have ec:ds.getD i []=c:=by rw [ae,e];rfl
    rw [ec];have hi:i < bs.length:=by rw [<- ih.1];exact (aa.mp e).1
    refine Q6 ih e (Qi _) λ x hx=>?_;rcases zaZ _ hx with hx|hx
    ·exact (ih.2 i _ c (ac hi) e).2 x hx
    ·rw [hx];exact QD
  ·exact ih
noncomputable def passF (bs:A1) (rs:At) (st:PSt):PSt × List Move:=({ (zo rs st rs.length).1 with turn:=(zo rs st rs.length).1.turn + 1,cells:=qk bs (zo rs st rs.length).1.turn (zo rs st rs.length).1.cells bs.length },(zo rs st rs.length).2)
def zfs {rs:At} {st:PSt} (wf:stWf bs rs st) (ot:zY bs rs) (bo:∀ b∈bs,zH b.1 b.2) (ro:∀ r∈rs,r.ok):stWf bs rs (passF bs rs st).1:=by
 have w:=qY wf ot bo ro rs.length;exact ⟨Z2 w.co _,w.so,w.go⟩
def StO.ney {y:Addr} {n:SN} {st:PSt} (h:StO a H y n st):y ∉ n.all:=λ z=>by
 have hy:=h.hy;have c:∀ vs,H y≠some (.lst vs):=λ vs z=>by rw [hy] at z;cases z
 simp only [SN.all,ar,aE] at z;rcases z with z|z|z|z|z
 ·exact c _ (by rw [z];exact h.hs)
 ·exact c _ (by rw [z];exact h.hc.out)
 ·exact c _ (by rw [z];exact h.hg.out)
 ·obtain ⟨vs,hv⟩:=h.hc.isl (aD _ z);exact c _ hv
 ·obtain ⟨vs,hv⟩:=h.hg.isl (aD _ z);exact c _ hv
def StO.putT {y:Addr} {n:SN} {st:PSt} {t:Int} (h:StO a H y n st):StO a (upd H y (.ins a.b n.dx (sff t n.lc n.ls n.lg))) y n { st with turn:=t }:=by
 have ny:=h.ney;have tn:∀ b,z8 H b->b≠y:=λ b ⟨xs,hx⟩ z=>by rw [z,h.hy] at hx;cases hx
 simp only [SN.all,ar,aE,not_or] at ny;obtain ⟨n1,n2,n3,n4,n5⟩:=ny;refine ⟨oB,h.hc.tup λ b o c hb=>?_,?_,h.hg.tup λ b o c hb=>?_,h.nd⟩
 ·rw [oC ?_]
  ·exact hb
  ·rcases c with rfl|c|c
   ·exact a7 n2
   ·exact λ z=>n4 (by rw [<- z];exact c)
   ·exact tn b c
 ·rw [oC (a7 n1)];exact h.hs
 ·rw [oC ?_]
  ·exact hb
  ·rcases c with rfl|c|c
   ·exact a7 n3
   ·exact λ z=>n5 (by rw [<- z];exact c)
   ·exact tn b c
def zbI {rs:At} (h:Rep H p v (qy a bs rs)):∃ y dx fs l1 bvs,v=.ref y/\p y/\H y=some (.ins a.r dx fs)/\fs.lookup ("belts":Str)=some (.ref l1)/\p l1/\H l1=some (.lst bvs)/\Bts a H p bvs bs:=by
 obtain ⟨y,dx,fs,rfl,py,hy,g1,g2⟩:=Rep.ob' h;obtain ⟨u1,e1,r1⟩:=g1 _ _ zag;obtain ⟨l1,bvs,rfl,pl,h1,b1⟩:=r1.lst';exact ⟨y,dx,fs,l1,bvs,rfl,py,hy,e1,pl,h1,.of b1⟩
theorem zi8 {t u:Int} {lc ls lg:Addr}:zS "turn" (.int u) (sff t lc ls lg)=sff u lc ls lg:=rfl
def zeV (a:Ad):Sp:=λ vs H Q _=>∃ (vw:V) (y:Addr) (n:SN) (st:PSt) (bs:A1) (rs:At),vs=[vw,.ref y]/\Rep H (Off (y :: n.all)) vw (qy a bs rs)/\StO a H y n st/\stWf bs rs st/\zY bs rs/\(∀ b∈bs,zH b.1 b.2)/\(∀ r∈rs,r.ok) /\
 ∀ l us H',Fr (y :: n.all) H H'->StO a H' y n (passF bs rs st).1->H l=none->l ∉ y :: n.all->H' l=some (.lst us)->Reps H' (z8 H') us ((passF bs rs st).2.map ZI)->Q (.ref l) H'
def VP (T:Txt K mg a) (F:Fun K "pass_turn" "pass_turn" wa f fd):FnOk P w K mg base (CXr P w) 6 f fd ["work","state"] (zeV a):=by
 refine F.okx Vv ?_ ?_
 ·walk_at "i"
 walk_at "j";refine oE6 h λ vw y n st bs rs o8=>oA8 o8 λ oi hw so wf ot bo ro k=>?_;clear o8 h;subst oi;have b24:=ot.1.1.2;walk_at "T";refine ⟨_,(zi (zu 2 Vv.nd ‹(pq 0) (za (pq 1) zb)›)  (qG (qB qX rfl (qS (za (zm (pq 0) rfl) zb)) (wv (n:=2) rfl (qc (qp 3 Vv.nd) (qc (qp 4 Vv.nd) xf)))  (zd (zF (zl (qx hr.units1) (zJ jo (zm (pq 1) rfl) (zm (pq 4) rfl)) ze (zq _))  (zd (zG ‹(zr (zm (pq 1) rfl) (pq 3)) zb›))  zp)))  (zi (zd2 (pq 1) ze ziF)  (zd (zk (pq 2)))))),?_⟩;exists uc (Va T).mono (spActAll.i vw y n st bs rs rfl hw so wf ot bo ro (λ l us H1 f1 so1 nl nl' hl rl=>?_));have wA:=qY wf ot bo ro rs.length;have hw1:=hw.fr f1;refine oE5 (zbI hw1) λ yw dw fw l1 bvs o8=>oA7 o8 λ oi _ hyw ew1 pl1 hl1 hB=>?_;clear o8;subst oi;have lb:bvs.length=bs.length:=hB.len;generalize hA:zo rs st rs.length=A at so1 rl wA;refine oA4 (sff_l (t:=A.1.turn) (lc:=n.lc) (ls:=n.ls) (lg:=n.lg)) λ lk1 lk2 lk3 lk4=>?_;left;let ow:St->Hp->Prop:=λ σ' H'=>∃ (v3 v4:Aq),σ'=[some (.ref yw),some (.ref y),some (.ref l),v3,v4]/\Fr (y :: n.all) H1 H'/\StO a H' y n { A.1 with cells:=qk bs A.1.turn A.1.cells bs.length };refine cut ow ?_ ?_
 ·walk_at "e";exists ra hyw T.gX T.iy ew1 (iE2 l1 _ (iA3 rfl hl1 ?_));let oy:Nat->St->Hp->Prop:=λ i σ H'=>∃ (v3 v4:Aq),σ=[some (.ref yw),some (.ref y),some (.ref l),v3,v4]/\Fr (y :: n.all) H1 H'/\StO a H' y n { A.1 with cells:=qk bs A.1.turn A.1.cells i };refine XR (K:=K) (a:=l1) (xs:=bvs) oy (iE2 _ _ (iA3 rfl Fr.refl so1)) (λ i σ H' _ h=>by obtain ⟨_,_,_,f,_⟩:=h;exact SqL.of (f _ _ pl1 hl1)) ?_ ?_
  ·intro i x t σ H2 hi ht oj;refine oE2 oj λ v3 v4 o8=>oA3 o8 λ oi f2 so2=>?_;ext;obtain ⟨b,hb',hBt⟩:=hB.at hi;refine oE3 hBt.inv λ y1 dx1 fs1 o8=>oA5 o8 λ oi py1 g0 _ e2=>?_;clear o8;subst oi;have g02:=f2 _ _ py1 g0;have hil:=(aa.mp hb').1;have bk:=bo b (af hb');have f3:=f2.trans (zcz (ms:=y :: n.all) (o:=.tup [.int i,.ref y1]) ht);have so3:=so2.same (zf (o:=.tup [.int i,.ref y1]) ht);have g03:=oF (o:=.tup [.int i,.ref y1]) g02 ht;refine un2 oB ?_;generalize upd H2 t (.tup [.int i,.ref y1])=H3 at f3 so3 g03 ⊢;have eb:bs.getD i (0,1)=b:=by rw [ae,hb'];rfl
   have co:=Z2 (t:=A.1.turn) wA.co i;have hc:=qr (xs:=qk bs A.1.turn A.1.cells i) (d:=[]) (show i < _ by rw [co.1];exact hil);refine oE2 (so3.cell hc) λ bC vs o8=>oA3 o8 λ hbC hvC rvC=>?_;clear o8;have lc:=(co.2 i b _ hb' hc).1;have b1:=bk.1;have b2:=bk.2.1;have b3:=bk.2.2.1;exists ra so3.hy T.ad T.gS lk4 ?_;refine ra g03 T.iz T.iA e2 ?_;exists zT (λ z=>?_) (λ z=>?_)
   ·exists uc (zbz T).mono ?_;refine ra so3.hy T.ad T.gM lk1 (zt (SqL.of so3.hc.out) (zD (QC hbC)) ?_);refine iE3 bC vs _ (iA5 rfl hvC rvC (by lia) (λ us' r'=>?_));refine iE2 _ _ (iA3 rfl (f3.trans (qw (zae hbC))) ?_);have:=so3.putC hbC r';rw [qk,eb,ap z];exact this
   ·refine iE2 _ _ (iA3 rfl f3 ?_);rw [qk,eb,ao z];exact so3
  ·intro σ H2 oj;refine oE2 oj λ v3 v4 o8=>oA3 o8 λ oi f2 so2=>?_;ext;rw [lb] at so2;exact iE2 _ _ (iA3 rfl f2 so2)
 intro σ' H2 oj;refine oE2 oj λ v3 v4 o8=>oA3 o8 λ oi f2 so2=>?_;ext;exists ⟨y,?_⟩;refine iE4 a.b n.dx _ _ (iA6 rfl so2.hy T.ad T.gS lk4 ?_);refine iE2 _ 1 (iA3 rfl rfl (iE2 n.dx _ (iA3 so2.hy (show 4 < 1000 by decide) ?_)));rw [zi8];have f3:=f2.trans (qw (x:=y) (o:=.ins a.b n.dx (sff (A.1.turn + 1) n.lc n.ls n.lg)) (by simp));exists k l us _ (f1.trans f3) (by rw [passF,hA];exact so2.putT) nl nl' (f3 _ _ nl' hl) (by rw [passF,hA];exact so1.repsT f3 rl)
def Ze (T:Txt K mg a):Cal P w K mg base "pass_turn" 6 ["work","state"] [] (zeV a):=T.mi.cal (VP T)
def ze1 (a:Ad):Sp:=λ vs H Q _=>∃ (v:V) (st:PSt) (p:A5),vs=[v]/\Rep H p v (jE a st)/\st.cells.length<=100/\st.gone.length<=100/\∀ v' H',Same H H'->StNew a H H' v' st->Q v' H'
def Zf (T:Txt K mg a):Cal P w K mg base "copied_state" 3 ["state"] [] (ze1 a):=T.kK.cal λ F=>by
 refine F.okx Jm ?_ ?_
 ·walk_at "i"
 walk_at "j";obtain ⟨v,st,p,rfl,hs,lc,lg,k⟩:=h;obtain ⟨y,dx,fs,rfl,py,hy,g1,g2⟩:=Rep.ob' hs;obtain ⟨u1,e1,r1⟩:=g1 _ _ (Z5 st);obtain ⟨u2,e2,r2⟩:=g1 _ _ (wz st);obtain ⟨u3,e3,r3⟩:=g1 _ _ (Zl st);obtain ⟨u4,e4,r4⟩:=g1 _ _ (Z6 st);cases r1;walk_at "T";refine ⟨_,(zd (zk (qW (x:="State") ⟨rfl,rfl,rfl⟩ hr (za (zm (pq 0) rfl) (za (zm (pq 0) rfl) (za (zm (pq 0) rfl) (za (zm (pq 0) rfl) zb))))))),?_⟩;exists ⟨a.b,_,_,_,(VW T).mono,y,a.b,dx,fs,_,rfl,hy,T.ad,T.gS,e1,?_⟩;refine ra hy T.ad T.gM e2 ?_;refine ra hy T.ad T.gW e3 ?_;refine ra hy T.ad T.gP e4 ?_;exact Xz T (st:=st) r2 r3 r4 lc lg λ y' H' s' sn=>k _ _ s' sn
inductive spOneTurn (a:Ad) (vs:Ap) (H:Hp) (Q:VK) (E:XK):Prop
 | i (vw v:V) (st:PSt) (bs:A1) (rs:At) (p:A5):vs=[vw,v]->Rep H (Off []) vw (qy a bs rs)->Rep H p v (jE a st)->stWf bs rs st->zY bs rs->(∀ b∈bs,zH b.1 b.2)->(∀ r∈rs,r.ok)->(∀ v' H',Same H H'->StNew a H H' v' (passF bs rs st).1->Q v' H')->spOneTurn a vs H Q E
def XW (T:Txt K mg a):Cal P w K mg base "one_turn" 7 ["work","state"] [] (spOneTurn a):=T.mF.cal λ F=>by
 refine F.okx zay ?_ ?_
 ·walk_at "i"
 walk_at "j";rcases h with ⟨vw,v,st,bs,rs,p,rfl,hw,hv,wf,ot,bo,ro,k⟩;have b24:=ot.1.1.2;have r24:=ot.1.2.2;walk_at "T";refine ⟨_,(zh (zu 2 zay.nd ‹(pq 1) zb›)  (zh (zG ‹(pq 0) (za (pq 2) zb)›)  (zd (zk (pq 2))))),?_⟩;exists uc (Zf T).mono ⟨v,st,p,rfl,hv,by rw [wf.co.1];lia,by rw [wf.go.1];lia,λ v' H1 s1 sn=>?_⟩;obtain ⟨y,n,rfl,so1,ny,nd,nn⟩:=sn;have na:∀ b∈y :: n.all,H b=none:=λ b hb=>by
  rcases ar.mp hb with rfl|hb
  ·exact ny
  ·exact nn b hb
 have hw1:Rep H1 (Off (y :: n.all)) vw (qy a bs rs):=qV (hw.more (ns:=y :: n.all) λ b hb=>.inr (na b hb)) s1;exists uc (Ze T).mono ⟨vw,y,n,st,bs,rs,rfl,hw1,so1,wf,ot,bo,ro,λ l us H2 f2 so2 _ _ _ _=>?_⟩;left;exact k _ _ (λ b o hb=>f2 b o (λ z=>by rw [na b z] at hb;cases hb) (s1 b o hb)) ⟨y,n,rfl,so2,ny,nd,nn⟩
inductive spMovesOf (a:Ad) (vs:Ap) (H:Hp) (Q:VK) (E:XK):Prop
 | i (vw v:V) (st:PSt) (bs:A1) (rs:At) (p:A5):vs=[vw,v]->Rep H (Off []) vw (qy a bs rs)->Rep H p v (jE a st)->stWf bs rs st->zY bs rs->(∀ b∈bs,zH b.1 b.2)->(∀ r∈rs,r.ok)->(∀ l us H',Same H H'->H l=none->H' l=some (.lst us)->Reps H' (z8 H') us ((zo rs st rs.length).2.map ZI)->Q (.ref l) H')->spMovesOf a vs H Q E
theorem zcG (T:Txt K mg a):Cal P w K mg base "moves_of" 6 ["work","state"] [] (spMovesOf a):=T.mG.cal λ F=>by
 refine F.okx zaz ?_ ?_
 ·walk_at "i"
 walk_at "j";rcases h with ⟨vw,v,st,bs,rs,p,rfl,hw,hv,wf,ot,bo,ro,k⟩;have b24:=ot.1.1.2;have r24:=ot.1.2.2;walk_at "T";refine ⟨_,(zd (zk ‹(pq 0) (za ‹(pq 1) zb› zb)›)),?_⟩;exists uc (Va T).mono (uc (Zf T).mono (iE3 v st p (iA5 rfl hv (by rw [wf.co.1];lia) (by rw [wf.go.1];lia) (λ v' H1 s1 sn=>?_))));refine oE2 sn λ y n o8=>oA5 o8 λ oi so1 ny _ nn=>?_;clear o8 sn;subst oi;have na:∀ b∈y :: n.all,H b=none:=λ b hb=>by
  rcases ar.mp hb with rfl|hb
  ·exact ny
  ·exact nn b hb
 have hw1:Rep H1 (Off (y :: n.all)) vw (qy a bs rs):=qV (hw.more (ns:=y :: n.all) λ b hb=>.inr (na b hb)) s1;refine ⟨vw,y,n,st,bs,rs,rfl,hw1,so1,wf,ot,bo,ro,λ l us H2 f2 _ nl _ hl r2=>?_⟩;refine k l us H2 (λ b o hb=>f2 b o (λ z=>by rw [na b z] at hb;cases hb) (s1 b o hb)) ?_ hl r2;cases e:H l with
 | none=>rfl
 | some o=>rw [s1 _ _ e] at nl;cases nl
noncomputable def zj (bs:A1) (rs:At):Nat->PSt
 | 0=>qT bs rs
 | n + 1=>(passF bs rs (zj bs rs n)).1
def zf2 {rs:At} (ro:∀ r∈rs,r.ok):stWf bs rs (qT bs rs):=by
 refine ⟨⟨by simp [qT],λ i b c h1 h2=>?_⟩,⟨by simp [qT],λ i r s h1 h2=>?_⟩,⟨by simp [qT],λ i r g h1 h2=>?_⟩⟩
 ·simp only [qT,ak,h1,ck,db] at h2;subst h2;refine ⟨by simp,λ x hx=>?_⟩;rw [(cn.mp hx).2];exact QD
 ·have hs:=af h2;have e:s=0:=(cn.mp hs).2;subst e;have ok:=ro r (af h1);obtain ⟨wd,ins,outs,pc,ks⟩:=r;refine ⟨by decide,λ hw=>?_,λ hw=>?_,λ _ _=>rfl⟩
  ·simp only at hw;subst hw;have:=ok.2.1;simp only at this ⊢
   lia
  ·simp only at hw;subst hw;have:=ok.2.1;simp only at this ⊢
   lia
 ·simp only [qT,ak,h1,ck,db] at h2;subst h2;refine ⟨rfl,λ n hn=>?_⟩;rw [(cn.mp hn).2];decide
theorem qg {bs:A1} {rs:At} (ot:zY bs rs) (bo:∀ b∈bs,zH b.1 b.2) (ro:∀ r∈rs,r.ok):∀ n,stWf bs rs (zj bs rs n)
 | 0=>zf2 ro
 | n + 1=>zfs (qg ot bo ro n) ot bo ro
def zeU (a:Ad):Sp:=λ vs H Q _=>∃ (vw:V) (n:Nat) (bs:A1) (rs:At),vs=[vw,.int n]/\Rep H (Off []) vw (qy a bs rs)/\zY bs rs/\(∀ b∈bs,zH b.1 b.2)/\(∀ r∈rs,r.ok)/\n<=1000/\∀ v' H',Same H H'->StNew a H H' v' (zj bs rs n)->Q v' H'
def zgc (T:Txt K mg a):Cal P w K mg base "played" 7 ["work","turns"] [] (zeU a):=T.m7.cal λ F=>by
 refine F.okx zdK ?_ ?_
 ·walk_at "i"
 walk_at "j";obtain ⟨vw,m,bs,rs,rfl,hw,ot,bo,ro,hm,k⟩:=h;have b24:=ot.1.1.2;have r24:=ot.1.2.2;walk_at "T";refine ⟨_,(zh (zu 2 zdK.nd ‹(pq 0) zb›)  (qG (qB qX rfl (vh (za (pq 1) zb)) (qp 3 zdK.nd)  (zd (zG ‹(pq 0) (za (pq 2) zb)›)))  (zd (zk (pq 2))))),?_⟩;exists uc (ZL T).mono ⟨vw,bs,rs,_,rfl,hw,b24,r24,bo,ro,λ v' H1 s1 sn=>?_⟩;obtain ⟨y,n,rfl,so1,ny,nd,nn⟩:=sn;have na:∀ b∈y :: n.all,H b=none:=λ b hb=>by
  rcases ar.mp hb with rfl|hb
  ·exact ny
  ·exact nn b hb
 have hw1:Rep H1 (Off (y :: n.all)) vw (qy a bs rs):=qV (hw.more (ns:=y :: n.all) λ b hb=>.inr (na b hb)) s1;exists cut (λ σ' H'=>∃ (v3:Aq),σ'=[some vw,some (.int m),some (.ref y),v3]/\Fr (y :: n.all) H1 H'/\StO a H' y n (zj bs rs m)) ?_ ?_
 ·walk_at "e";exists ⟨by lia,by lia,?_⟩;refine Qu (n:=(m:Int).toNat) (λ i σ H'=>∃ (v3:Aq),σ=[some vw,some (.int m),some (.ref y),v3]/\Fr (y :: n.all) H1 H'/\StO a H' y n (zj bs rs i)) ⟨_,rfl,Fr.refl,so1⟩ ?_ (λ σ H' h=>?_)
  ·rintro i σ H2 hi ⟨v3,rfl,f2,so2⟩;exists uc (Ze T).mono ⟨vw,y,n,_,bs,rs,rfl,hw1.fr f2,so2,qg ot bo ro i,ot,bo,ro,λ l us H3 f3 so3 _ _ _ _=>?_⟩;exact ⟨_,rfl,f2.trans f3,so3⟩
  ·rw [show ((m:Int)).toNat=m by simp] at h;exact h
 rintro σ' H2 ⟨v3,rfl,f2,so2⟩;left;exact k _ _ (λ b o hb=>f2 b o (λ z=>by rw [na b z] at hb;cases hb) (s1 b o hb)) ⟨y,n,rfl,so2,ny,nd,nn⟩
def zas:Sp:=λ vs H Q _=>∃ a b:Int,vs=[.int a,.int b]/\0<=a/\0<=b/\Q (.int (Int.gcd a b:Int)) H
def zea (F:Fun K "common" "common" Qe f fd):FnOk P w K mg base (CXr P w) 1 f fd ["one","other"] zas:=by
 refine F.okx zdL ?_ ?_
 ·walk_at "i"
 walk_at "k";obtain ⟨a,b,rfl,ha,hb,k⟩:=h;refine ⟨_,(zh (zu 2 zdL.nd (pq 0))  (zh (zu 3 zdL.nd (pq 1))  (zh (zaM qX (zl Jd (pq 3) ze (zq _))  (zh (zu 4 zdL.nd (zJ jo (pq 2) (pq 3)))  (zh (zu 2 zdL.nd (pq 3))  (zd (zu 3 zdL.nd (pq 4))))))  (zd (zk (pq 2)))))),?_⟩;walk_at "r";refine ⟨λ m σ H'=>∃ p r v,σ=[some (.int a),some (.int b),some (.int p),some (.int r),v]/\H'=H/\0<=p/\0<=r/\Int.gcd p r=Int.gcd a b/\m=r.toNat,⟨_,a,b,none,rfl,rfl,ha,hb,rfl,rfl⟩,?_⟩;rintro m σ H' ⟨p,r,v,rfl,rfl,hp,hr',hg,rfl⟩;walk_at "r";refine zT (λ h=>?_) (λ h=>?_)
 ·refine zjd ?_;have h1:=bX p (show r≠0 by lia);have h2:=bV p h;exact ⟨h,_,by lia,r,p % r,_,rfl,rfl,hr',h1,(zfY hp h).trans hg,rfl⟩
 ·have e:r=0:=by lia
  subst e;have e2:=zhc hp;rw [hg] at e2;rw [<- e2];exact k
def Pac (ns:A6):Prop:=∀ n∈ns,0 < n/\n<=1000000000000
def Pac.nil:Pac []:=λ _ h=>nomatch h
def Pac.snoc (h:Pac ns) (h1:0 < n) (h2:n<=1000000000000):Pac (ns ++ [n]):=λ k hk=>by
 rcases aE.mp hk with z|z
 ·exact h k z
 ·rw [aw.mp z];exact ⟨h1,h2⟩
def Pac.at (h:Pac ns) {x:V} (e:(ns.map V.int)[i]?=some x):∃ n,x=.int n/\0 < n/\n<=1000000000000/\n∈ns/\ns.take (i + 1)=ns.take i ++ [n]:=by
 rw [ak,am] at e;obtain ⟨n,hn,rfl⟩:=e;have hm:=af hn;refine ⟨n,rfl,(h n hm).1,(h n hm).2,hm,?_⟩;rw [gF,hn]
 rfl
def zdG (K:A0):Sp:=λ vs H Q _=>∃ (l:Addr) (ns:A6),vs=[.ref l]/\SqL K H l (ns.map V.int)/\Pac ns/\∀ L,IsLcm ns L->Q (.int L) H
def zgd (T:Txt K mg a):Cal P w K mg base "common" 1 ["one","other"] [] zas:=T.m8.cal zea
def zez (T:Txt K mg a):Cal P w K mg base "lasting" 2 ["paces"] [] (zdG K):=T.mQ.cal λ F=>by
 refine F.okx zbU ?_ ?_
 ·walk_at "i"
 walk_at "k";obtain ⟨l,ns,rfl,hl,hn,k⟩:=h;refine ⟨_,(zh (zu 1 zbU.nd ze)  (zh (qB qX rfl (qo (pq 0)) (qp 2 zbU.nd)  (zd (zu 1 zbU.nd (zJ vV (zJ zcY (pq 1) ‹(pq 1) (za (pq 2) zb)›) (pq 2)))))  (zd (zk (pq 1))))),?_⟩;left;walk_at "e";refine ⟨l,rfl,.inl ⟨⟨_,hl⟩,?_⟩⟩;refine qK (K:=K) (a:=l) (xs:=ns.map V.int) (λ i σ H'=>∃ (m:Int) (v:Aq),σ=[some (V.ref l),some (V.int m),v]/\H'=H/\IsLcm (ns.take i) m) ⟨1,none,rfl,rfl,IsLcm.nil⟩ (λ i σ H' _ ⟨_,_,_,e,_⟩=>e ▸ hl) ?_ ?_
 ·rintro i x σ H1 hi ⟨m,v,rfl,rfl,hm⟩;obtain ⟨p,rfl,p0,p1,_,ht⟩:=hn.at hi;walk_at "r";have g0:(0:Int) < (Int.gcd m p:Int):=by have:=zdb (a:=m) (b:=p) (by lia);lia
  have g1:(Int.gcd m p:Int)<=p:=VZ p0;refine ⟨_,_,_,zgd T,m,p,rfl,cU hm.pos,cU p0,?_⟩;walk_at "r";refine ⟨fd_ok g0 ?_,mul_okR (by lia) (by lia),?_⟩
  ·have:(1000000000000:Nat) < 2 ^ 8999:=by symm
   lia
  ·rw [fdiv_pos g0,ht];exact ⟨_,_,rfl,hm.step p0⟩
 ·rintro σ H1 ⟨m,v,rfl,rfl,hm⟩;rw [ah,aM] at hm;walk_at "r";exact k m hm
theorem IsLcm.ex:∀ {ns:A6},Pac ns->∃ L,IsLcm ns L:=λ {ns} h=>by
 have:∀ k,k<=ns.length->∃ L,IsLcm (ns.take k) L:=λ k=>by
  induction k with
  | zero=>exact λ _=>⟨1,IsLcm.nil⟩
  | succ k ih =>
   intro hk;obtain ⟨L,hL⟩:=ih (by lia);have e:ns.take (k + 1)=ns.take k ++ [ns[k]]:=by rw [gF,ac (by lia)];rfl
   rw [e];exact ⟨_,hL.step (h _ (cF _)).1⟩
 have:=this ns.length (au _)
 rwa [aM] at this
def zjY (T:Txt K mg a) (wd:Wd):kitOne K (.ref (wM a wd)) (.ref a.l)=some (decide (wd=.drain)):=by
 cases wd
 ·exact T.kB
 ·exact T.iP
 ·exact T.kC
 ·exact T.iN
 ·exact T.kY
 ·exact T.kD
def zjW (T:Txt K mg a) (wd:Wd):kitOne K (.ref (wM a wd)) (.ref a.k)=some (decide (wd=.source)):=by
 cases wd
 ·exact T.iD
 ·exact T.kF
 ·exact T.kg
 ·exact T.iG
 ·exact T.kG
 ·exact T.kh
noncomputable def jC (wd:Wd) (rs:At) (n:Nat):List Int:=((List.range n).filter λ i=>decide (rs[i]?.map Row.wd=some wd)).map λ (i:Nat)=>(i:Int)
def wg {rs:At} {n:Nat} {r:Row} (h:rs[n]?=some r):jC wd rs (n + 1)=jC wd rs n ++ if r.wd=wd then [(n:Int)] else []:=by
 unfold jC;rw [range_succ,List.filter_append,aV]
 congr 1
 by_cases e:r.wd=wd <;> simp [h,e]
noncomputable def zU (wd:Wd) (rs:At):List Int:=jC wd rs rs.length
def x6 (wd:Wd) (rs:At) (n:Nat):(jC wd rs n).length<=n:=by
 unfold jC;rw [ah];exact aZ (List.length_filter_le _ _) (by simp)
def Qk {rs:At} {m:Int} (h:m∈zU wd rs):∃ (i:Nat) (r:Row),m=i/\rs[i]?=some r/\r.wd=wd:=by
 unfold zU jC at h;obtain ⟨i,hi,rfl⟩:=aO.mp h;rw [cm] at hi;have h2:=bB hi.2;rw [am] at h2;obtain ⟨r,h3,h4⟩:=h2;exact ⟨i,r,rfl,h3,h4⟩
def Xv {rs:At} {r:Row} (h:rs[i]?=some r) (hw:r.wd=wd):(i:Int)∈zU wd rs:=by
 unfold zU jC;refine aO.mpr ⟨i,cm.mpr ⟨cA.mpr (aa.mp h).1,?_⟩,rfl⟩;rw [h];exact bg (by rw [<- hw];rfl)
def zeY (a:Ad) (wd:Wd):Sp:=λ vs H Q _=>∃ (v:V) (bs:A1) (rs:At) (p:A5),vs=[v]/\Rep H p v (qy a bs rs)/\rs.length<=100/\∀ q H',Same H H'->H q=none->H' q=some (.lst (iv (zU wd rs)))->Q (.ref q) H'
def Wl (T:Txt K mg a):MCal P w K mg base a.r "drains" 1 ["self"] [] (zeY a .drain):=T.lG.cal T.gX λ F=>by
 refine F.okx Xd ?_ ?_
 ·walk_at "i"
 walk_at "j";refine oE4 h λ v bs rs p o8=>oA4 o8 λ oi hv l100 k=>?_;clear o8 h;subst oi;refine oE7 (jw hv) λ y dx fs l1 l2 bvs om o8=>oA9 o8 λ oi hy e1 e2 h1 h2 hB hK no=>?_;clear o8;subst oi;walk_at "T";refine ⟨_,(zd (zk (jI (vars:=["number","knot"]) (caps:=[]) (N:=["number","knot"]) (ON:=["self"]) (osc:=zg j7) rfl rfl (by right) rfl rfl (qS (za (zm (pq 0) rfl) zb)) (λ _ _ _ _=>(wv (n:=2) rfl (qc (qp 0 (show (["number","knot"]:A8).Nodup from by symm)) (qc (qp 1 (show (["number","knot"]:A8).Nodup from by symm)) xf)))) (λ _ _ _ _=>(VJ (qO (qb Zh qz (za (pq 1) (za xi zb))) (λ _=>rfl)))) (λ _ _ _ _=>(pq 0))))),?_⟩;left;walk_at "d";exists ra hy T.gX T.gU e2 (iE2 l2 _ (iA3 rfl h2 (λ _ _ _ _ oq hacc=>?_)));refine XR (K:=K) (a:=l2) (xs:=om) (λ i σ H'=>∃ (v0 v1:Aq),σ=[v0,v1]/\Same H H'/\H' oq=some (.lst (iv (jC .drain rs i)))) (iE2 _ _ (iA3 rfl (zf hacc) oB)) (λ i σ H' _ h=>by obtain ⟨_,_,_,s,_⟩:=h;exact SqL.of (s _ _ h2)) ?_ ?_
 ·intro i x t σ H' hi ht oj;refine oE2 oj λ v0 v1 o8=>oA3 o8 λ oi s7 e1'=>?_;ext;obtain ⟨r,hr',hKn⟩:=hK.at hi;refine oE6 hKn.inv λ y1 dx1 m1 m2 m3 fs1 o8=>oA9 o8 λ oi _ _ _ _ g0 f1 f2 ou=>oA5 ou λ _ g1 g2 _ _=>?_;clear o8 ou;subst oi;have hil:=(aa.mp hr').1;have s8:=s7.trans (zf (o:=.tup [.int i,.ref y1]) ht);have e8:=oF (o:=.tup [.int i,.ref y1]) e1' ht;refine un2 oB ?_;generalize upd H' t (.tup [.int i,.ref y1])=H8 at s8 e8 ⊢;exists iE2 (.ref a.l) _ (iA3 T.me rfl (iE4 _ _ _ _ (iA4 rfl ((WT T r.wd).ty (CT T r.wd) (s8 _ _ g0)) (.inl ⟨_,rfl,zjY T r.wd⟩) ?_)));exists zT (λ b=>?_) (λ b=>?_)
  ·refine ⟨_,iA3 e8 (zn (by have:=x6 .drain rs i;rw [zK];lia)) (iE2 _ _ (iA3 rfl (λ b o hb=>by rw [oC (oE hb hacc)];exact s8 b o hb) ?_))⟩;rw [oB,wg hr',ap b,jd]
  ·exact iE2 _ _ (iA3 rfl s8 (by rw [wg hr',ao b,bT];exact e8))
 intro σ H2 oj;refine oE2 oj λ v0 v1 o8=>oA3 o8 λ oi s2 ha=>?_;ext;rw [hK.len] at ha;exact k _ _ s2 hacc ha
def vY (T:Txt K mg a):MCal P w K mg base a.r "sources" 1 ["self"] [] (zeY a .source):=T.kU.cal T.gX λ F=>by
 refine F.okx Jn ?_ ?_
 ·walk_at "i"
 walk_at "j";obtain ⟨v,bs,rs,p,rfl,hv,l100,k⟩:=h;obtain ⟨y,dx,fs,l1,l2,bvs,om,rfl,hy,e1,e2,h1,h2,hB,hK,no⟩:=jw hv;walk_at "T";refine ⟨_,(zd (zk (jI (vars:=["number","knot"]) (caps:=[]) (N:=["number","knot"]) (ON:=["self"]) (osc:=zg jN) rfl rfl (by right) rfl rfl (qS (za (zm (pq 0) rfl) zb)) (λ _ _ _ _=>(wv (n:=2) rfl (qc (qp 0 (show (["number","knot"]:A8).Nodup from by symm)) (qc (qp 1 (show (["number","knot"]:A8).Nodup from by symm)) xf)))) (λ _ _ _ _=>(VJ (qO (qb Zh qz (za (pq 1) (za xi zb))) (λ _=>rfl)))) (λ _ _ _ _=>(pq 0))))),?_⟩;left;walk_at "d";exists ra hy T.gX T.gU e2 ⟨l2,_,rfl,h2,λ _ _ _ _ oq hacc=>?_⟩;refine XR (K:=K) (a:=l2) (xs:=om) (λ i σ H'=>∃ (v0 v1:Aq),σ=[v0,v1]/\Same H H'/\H' oq=some (.lst (iv (jC .source rs i)))) ⟨_,_,rfl,zf hacc,oB⟩ (λ i σ H' _ h=>by obtain ⟨_,_,_,s,_⟩:=h;exact SqL.of (s _ _ h2)) ?_ ?_
 ·rintro i x t σ H' hi ht ⟨v0,v1,rfl,s7,e1'⟩;obtain ⟨r,hr',hKn⟩:=hK.at hi;obtain ⟨y1,dx1,m1,m2,m3,fs1,rfl,_,_,_,_,g0,f1,f2,_,g1,g2,_,_⟩:=hKn.inv;have hil:=(aa.mp hr').1;have s8:=s7.trans (zf (o:=.tup [.int i,.ref y1]) ht);have e8:=oF (o:=.tup [.int i,.ref y1]) e1' ht;refine un2 oB ?_;generalize upd H' t (.tup [.int i,.ref y1])=H8 at s8 e8 ⊢;exists ⟨.ref a.k,_,T.lj,rfl,_,_,_,_,rfl,(WT T r.wd).ty (CT T r.wd) (s8 _ _ g0),.inl ⟨_,rfl,zjW T r.wd⟩,?_⟩;exists zT (λ b=>?_) (λ b=>?_)
  ·refine ⟨_,e8,zn (by have:=x6 .source rs i;rw [zK];lia),_,_,rfl,(λ b o hb=>by rw [oC (oE hb hacc)];exact s8 b o hb),?_⟩;rw [oB,wg hr',ap b,jd]
  ·exact ⟨_,_,rfl,s8,by rw [wg hr',ao b,bT];exact e8⟩
 rintro σ H2 ⟨v0,v1,rfl,s2,ha⟩;rw [hK.len] at ha;exact k _ _ s2 hacc ha
def wp (bs:A1) (rs:At) (n:Int):Prop:=(∃ b∈bs,b.2=n)\/∃ r∈rs,(r.wd=.source\/r.wd=.drain)/\r.pace=n/\0 < n
def zaF {r:Row} (h:r.ok) (hw:r.wd=.source\/r.wd=.drain):0<=r.pace/\r.pace<=4:=by
 obtain ⟨wd,ins,outs,pc,ks⟩:=r;rcases hw with hw|hw
 ·simp only at hw;subst hw;have h1:=h.2.2.1;have h2:=h.2.2.2.1;simp only at h1 h2;exact ⟨by show 0<=pc;lia,h2⟩
 ·simp only at hw;subst hw;exact ⟨h.2.2.1,h.2.2.2⟩
def zhV (a:Ad):Sp:=λ vs H Q _=>∃ (v:V) (bs:A1) (rs:At) (p:A5),vs=[v]/\Rep H p v (qy a bs rs)/\bs.length<=100/\rs.length<=100/\(∀ b∈bs,zH b.1 b.2)/\(∀ r∈rs,r.ok) /\
 ∀ L ns H',IsLcm ns L->(∀ n,n∈ns ↔ wp bs rs n)->Same H H'->Q (.int L) H'
def za8 (T:Txt K mg a):MCal P w K mg base a.r "beat" 3 ["self"] [] (zhV a):=T.my.cal T.gX λ F=>by
 refine F.okx VC ?_ ?_
 ·walk_at "i"
 walk_at "j";refine oE4 h λ v bs rs p o8=>oA7 o8 λ oi hv lb lr bo ro k=>?_;clear o8 h;subst oi;have hv0:=hv;refine oE7 (jw hv) λ y dx fs l1 l2 bvs om o8=>oA9 o8 λ oi hy e1 e2 h1 h2 hB hK no=>?_;clear o8;subst oi;walk_at "T";refine ⟨_,(zh (Xo (i:=1) VC.nd rfl (Or.inl rfl) (vars:=["belt"]) (caps:=[]) (N:=["belt"]) (ON:=["self","paces","number","pace"]) (osc:=zg wc) rfl rfl (by right) rfl rfl (qo (zm (pq 0) rfl)) (λ _ _ _ _=>(qp 0 (show (["belt"]:A8).Nodup from by symm))) (λ _ _ _ _=>ql) (λ _ _ _ _=>(zm (pq 0) rfl)))  (zh (qB qX rfl (qo (zJ qd (JM ⟨rfl,rfl,rfl⟩ hr (pq 0)) (JM ⟨rfl,rfl,rfl⟩ hr (pq 0)))) (qp 2 VC.nd)  (zh (zu 3 VC.nd (zm (zr (zm (pq 0) rfl) (pq 2)) rfl))  (zd (zF (zl Jd (pq 3) ze (zq _))  (zd (zG (qC aq az ay zQ (pq 1) (za (pq 3) zb))))  zp))))  (zd (zk ‹(pq 1) zb›)))),?_⟩;left;walk_at "d";exists ra hy T.gX T.iy e1 ⟨l1,rfl,.inl ⟨⟨_,SqL.of h1⟩,λ _ _ _ _ oq hacc=>?_⟩⟩;let ow:Nat->St->Hp->Prop:=λ i σ H'=>∃ (v0:Aq),σ=[v0]/\Same H H'/\H' oq=some (.lst (iv ((bs.take i).map (·.2))));refine qK (K:=K) (a:=l1) (xs:=bvs) ow ⟨_,iA3 rfl (zf hacc) (by rw [bJ];exact oB)⟩ (λ i σ H' _ h=>by obtain ⟨_,_,s,_⟩:=h;exact SqL.of (s _ _ h1)) ?_ ?_
 ·intro i x σ H' hi oj;refine oE1 oj λ v0 o8=>oA3 o8 λ oi s7 e7=>?_;ext;obtain ⟨b,hr',hBt⟩:=hB.at hi;refine oE3 hBt.inv λ y1 dx1 fs1 o8=>oA5 o8 λ oi _ g0 f1 f2=>?_;clear o8;subst oi;have hil:=(aa.mp hr').1;exists ra (s7 _ _ g0) T.iz T.iA f2 ?_;refine ⟨_,iA3 e7 (zn (by rw [zK,ah,aJ];lia)) ⟨_,iA3 rfl (λ b o hb=>by rw [oC (oE hb hacc)];exact s7 b o hb) ?_⟩⟩;rw [oB,aH,hr',aV,jd]
  rfl
 intro σ H2 oj;refine oE1 oj λ v0 o8=>oA3 o8 λ oi s2 ha=>?_;ext;rw [hB.len,aM] at ha;left;walk_at "e";exists iE7 y a.r dx fs _ _ _ (iA5 rfl (s2 _ _ hy) (no _ (by symm) (by symm)) ((vY T).mono) ?_);refine iE4 _ bs rs p (iA4 rfl (hv0.keep λ b o pb hb=>⟨pb,s2 _ _ hb⟩) lr (λ q1 H3 s3 n1 hq1=>?_));refine iE7 y a.r dx fs _ _ _ (iA5 rfl (s3 _ _ (s2 _ _ hy)) (no _ (by symm) (by symm)) ((Wl T).mono) ?_);refine iE4 _ bs rs p (iA4 rfl (hv0.keep λ b o pb hb=>⟨pb,s3 _ _ (s2 _ _ hb)⟩) lr (λ q2 H4 s4 n2 hq2=>?_));have l3:=x6 .source rs rs.length;have l4:=x6 .drain rs rs.length;refine xb (SqL.of (s4 _ _ hq1)) (SqL.of hq2) (js (by rw [zK,zK];show (jC _ _ _).length + (jC _ _ _).length<=_;lia)) λ q3 hq3=>?_;rw [zcq];have s5:Same H (upd H4 q3 (.lst (iv (zU .source rs ++ zU .drain rs)))):=((s2.trans s3).trans s4).trans (zf hq3);have ha5:upd H4 q3 (.lst (iv (zU .source rs ++ zU .drain rs))) oq=some (.lst (iv (bs.map (·.2)))):=oF (s4 _ _ (s3 _ _ ha)) hq3;have hq5:upd H4 q3 (.lst (iv (zU .source rs ++ zU .drain rs))) q3=some (.lst (iv (zU .source rs ++ zU .drain rs))):=oB;have nq:q3≠oq:=(oE (s4 _ _ (s3 _ _ ha)) hq3).symm;have hq0:H q3=none:=zw ((s2.trans s3).trans s4) hq3;generalize upd H4 q3 (.lst (iv (zU .source rs ++ zU .drain rs)))=H5 at s5 ha5 hq5 ⊢;refine ⟨q3,rfl,.inl ⟨⟨_,SqL.of hq5⟩,?_⟩⟩;let oy:Nat->St->Hp->Prop:=λ i σ H'=>∃ (v2 v3:Aq) (ns:A6),σ=[some (.ref y),some (.ref oq),v2,v3]/\Same H H'/\H' q3=some (.lst (iv (zU .source rs ++ zU .drain rs)))/\H' oq=some (.lst (iv ns))/\Pac ns/\ns.length<=bs.length + i/\∀ n,n∈ns ↔ n∈bs.map (·.2)\/∃ (m:Nat) (r:Row),(m:Int)∈(zU .source rs ++ zU .drain rs).take i/\rs[m]?=some r/\r.pace=n/\0 < n;refine qK (K:=K) (a:=q3) (xs:=iv (zU .source rs ++ zU .drain rs)) oy
  ⟨_,_,bs.map (·.2),rfl,s5,hq5,ha5,?_,by simp,?_⟩ (λ i σ H' _ h=>by obtain ⟨_,_,_,_,_,h,_⟩:=h;exact SqL.of h) ?_ ?_
 ·intro n hn;obtain ⟨b,hb,rfl⟩:=aO.mp hn;have:=bo b hb;exact ⟨by have:=this.2.2.1;lia,by have:=this.2.2.2;lia⟩
 ·intro n;simp
 ·intro i x σ H6 hi oj;refine oE3 oj λ v2 v3 ns o8=>oA7 o8 λ oi s6 hq6 ha6 pn ln mem=>?_;ext;obtain ⟨m,hm,rfl⟩:=Qq hi;have hmm:=af hm;have hil:=(aa.mp hm).1;have hlen:(zU .source rs ++ zU .drain rs).length<=200:=by
   rw [aF];show (jC _ _ _).length + (jC _ _ _).length<=_
   lia
  obtain ⟨j,r,rfl,hr',hw⟩:∃ (j:Nat) (r:Row),m=j/\rs[j]?=some r/\(r.wd=.source\/r.wd=.drain):=by
   rcases aE.mp hmm with z|z
   ·obtain ⟨j,r,q1,q2,q3⟩:=Qk z;exact ⟨j,r,q1,q2,.inl q3⟩
   ·obtain ⟨j,r,q1,q2,q3⟩:=Qk z;exact ⟨j,r,q1,q2,.inr q3⟩
  have hp:=zaF (ro r (af hr')) hw;obtain ⟨kv,hkv,hKn⟩:∃ kv,om[j]?=some kv/\KnP a H p kv r:=by
   have hj:=(aa.mp hr').1;have e:om[j]?=some (om[j]'(by rw [hK.len];exact hj)):=ac _;exact ⟨_,e,hK.g j _ r e hr'⟩
  refine oE6 hKn.inv λ y1 dx1 m1 m2 m3 fs1 o8=>oA9 o8 λ oi _ _ _ _ g0 _ _ ou=>oA5 ou λ _ _ _ _ fp=>?_;clear o8 ou;subst oi;exists ra (s6 _ _ hy) T.gX T.gU e2 (zt (SqL.of (s6 _ _ h2)) (zD hkv) ?_);have NP:NoAttr K (wM a r.wd) "pace":=by
   rcases hw with z|z
   ·rw [z];exact T.ii
   ·rw [z];exact T.ie
  refine iE5 y1 (wM a r.wd) dx1 fs1 _ (iA6 rfl (s6 _ _ g0) (CT T _) NP (fp hw) ?_);left;have tk:(zU .source rs ++ zU .drain rs).take (i + 1)=(zU .source rs ++ zU .drain rs).take i ++ [(j:Int)]:=by rw [aH,hm];rfl
  refine zT (λ b=>?_) (λ b=>?_)
  ·exists ⟨.inl ⟨rfl,_,SqL.of ha6⟩,iE3 oq _ _ (iA5 rfl rfl ha6 (zn (by rw [zK];lia)) ?_)⟩;rw [jd];refine iE3 _ _ (ns ++ [r.pace]) (iA7 rfl (λ b o hb=>by rw [oC (oE hb hacc)];exact s6 b o hb) (by rw [oC nq];exact hq6) oB (pn.snoc b (by lia)) (by simp;lia) (λ n=>?_));rw [aE,mem n,aw,tk];constructor
   ·rintro ((h|⟨m',r',h1,h2,h3,h4⟩)|h)
    ·exact .inl h
    ·exact .inr (iE2 m' r' (iA4 (bp _ h1) h2 h3 h4))
    ·subst h;exact .inr (iE2 j r (iA4 (aU _ (aw.mpr rfl)) hr' rfl b))
   ·rintro (h|⟨m',r',h1,h2,h3,h4⟩)
    ·exact .inl (.inl h)
    ·rcases aE.mp h1 with h1|h1
     ·exact .inl (.inr (iE2 m' r' (iA4 h1 h2 h3 h4)))
     ·have e:m'=j:=by have:=aw.mp h1;lia
      subst e;rw [hr'] at h2;cases h2;exact .inr h3.symm
  ·refine iE3 _ _ ns (iA7 rfl s6 hq6 ha6 pn (by lia) (λ n=>?_));rw [mem n,tk];constructor
   ·rintro (h|⟨m',r',h1,h2,h3,h4⟩)
    ·exact .inl h
    ·exact .inr (iE2 m' r' (iA4 (bp _ h1) h2 h3 h4))
   ·rintro (h|⟨m',r',h1,h2,h3,h4⟩)
    ·exact .inl h
    ·rcases aE.mp h1 with h1|h1
     ·exact .inr (iE2 m' r' (iA4 h1 h2 h3 h4))
     ·have e:m'=j:=by have:=aw.mp h1;lia
      subst e;rw [hr'] at h2;cases h2
      lia
 ·intro σ H6 oj;refine oE3 oj λ v2 v3 ns o8=>oA7 o8 λ oi s6 hq6 ha6 pn ln mem=>?_;ext;rw [zK,aM] at mem;exists uc (zez T).mono (iE2 oq ns (iA4 rfl (SqL.of ha6) pn (λ L hL=>k L ns _ hL (λ n=>?_) s6)));rw [mem n];unfold wp;constructor
  ·rintro (h|⟨m',r',h1,h2,h3,h4⟩)
   ·obtain ⟨b,hb,e⟩:=aO.mp h;exact .inl ⟨b,hb,e⟩
   ·refine .inr ⟨r',iA4 (af h2) ?_ h3 h4⟩;rcases aE.mp h1 with z|z
    ·refine oE2 (Qk z) λ j r o8=>oA3 o8 λ q1 q2 q3=>?_;clear o8;have e:m'=j:=by lia
     subst e;rw [h2] at q2;cases q2;exact .inl q3
    ·refine oE2 (Qk z) λ j r o8=>oA3 o8 λ q1 q2 q3=>?_;clear o8;have e:m'=j:=by lia
     subst e;rw [h2] at q2;cases q2;exact .inr q3
  ·rintro (⟨b,hb,e⟩|⟨r,hr',hw,h3,h4⟩)
   ·exact .inl (aO.mpr ⟨b,hb,e⟩)
   ·obtain ⟨m',hm'⟩:=bx hr';refine .inr (iE2 m' r (iA4 ?_ hm' h3 h4));rcases hw with hw|hw
    ·exact bp _ (Xv hm' hw)
    ·exact aU _ (Xv hm' hw)
def vv {G:Addr} {ags:Ab} {gss:List A6} {g:A6} (h:NL H p G ags (qt gss)) (e:gss[i]?=some g):∃ b,ags[i]?=some b/\H b=some (.lst (iv g)):=by
 obtain ⟨b,vs,h1,h2,h3⟩:=h.at (i:=i) (xs:=g.map D.int) (by rw [qt,ak,e];rfl);rw [JO h3] at h2;exact ⟨b,h1,h2⟩
noncomputable def kdW (rs:At) (x:Int × Int):Int:=wx ((rs[x.1.toNat]?.map Row.kinds).getD []) x.2
noncomputable def zB (rs:At) (c:Av):List A9:=c.map λ wr=>wr.map (kdW rs)
def zdH (a:Ad):Sp:=λ vs H Q _=>∃ (vw:V) (cb:Addr) (us:Ap) (bs:A1) (rs:At) (c:Av) (p q:A5),vs=[vw,.ref cb]/\Rep H p vw (qy a bs rs)/\H cb=some (.lst us)/\Reps H q us (c.map zX)/\(∀ wr∈c,vJ rs wr)/\(∀ r∈rs,r.ok)/\c.length<=6/\∀ t H',Same H H'->H t=none->H' t=some (.tup ((zB rs c).map oiV))->Q (.ref t) H'
theorem zcH (T:Txt K mg a):Cal P w K mg base "kinds_in" 2 ["work","cells"] [] (zdH a):=T.mH.cal λ F=>by
 refine F.okx zaA ?_ ?_
 ·walk_at "i"
 walk_at "j";refine oE8 h λ vw cb us bs rs c p q o8=>oA8 o8 λ oi hw hcb rus wk ro c6 k=>?_;clear o8 h;subst oi;have lu:us.length=c.length:=by rw [rus.len,ah]
 walk_at "T";refine ⟨_,(zd (zk (wG QA Zg (za (jI (vars:=["ware"]) (caps:=[0]) (N:=["ware","work"]) (ON:=["work","cells"]) (osc:=zg wU) rfl rfl (by right) rfl rfl (qo (pq 1)) (λ _ _ _ _=>(qp 0 (show (["ware","work"]:A8).Nodup from by symm))) (λ _ _ _ _=>ql) (λ _ _ _ _=>(wF (zl ja (pq 0) zA (zq _)) zA (ZU hr (za (pq 1) (za (pq 0) zb)))))) zb)))),?_⟩;walk_at "d";exists ⟨cb,rfl,.inl ⟨⟨_,SqL.of hcb⟩,λ _ _ _ _ oq hacc=>?_⟩⟩;let ow:Nat->St->Hp->Prop:=λ j σ H'=>∃ (v0:Aq),σ=[v0,some vw]/\Same H H'/\H' oq=some (.lst ((zB rs (c.take j)).map oiV));refine qK (K:=K) (a:=cb) (xs:=us) ow ⟨_,iA3 rfl (zf hacc) oB⟩ (λ i σ H' _ h=>by obtain ⟨_,_,s,_⟩:=h;exact SqL.of (s _ _ hcb)) ?_ ?_
 ·intro j v σ H1 hj oj;refine oE1 oj λ v0 o8=>oA3 o8 λ oi s1 ha=>?_;ext;obtain ⟨d,hd,rv⟩:=rus.at hj;rw [ak,am] at hd;obtain ⟨wr,hwr,rfl⟩:=hd;have hjl:=(aa.mp hwr).1;have e:(zB rs (c.take (j + 1))).map oiV=(zB rs (c.take j)).map oiV ++ [oiV (wr.map (kdW rs))]:=by
   rw [aH,hwr];simp [zB]
  have lk:((zB rs (c.take j)).map oiV).length<=6:=by simp [zB];lia
  have sn:∀ (x:V),Same H (upd H1 oq (.lst ((zB rs (c.take j)).map oiV ++ [x]))):=λ x b o hb=>by rw [oC (oE hb hacc)];exact s1 b o hb
  cases wr with
  | none =>
   have rv:Rep H q v .non:=rv;cases rv;left;exact ⟨_,iA3 ha (zn (by lia)) ⟨_,iA3 rfl (sn _) (by rw [oB,e];rfl)⟩⟩
  | some x =>
   obtain ⟨tx,rfl,htx⟩:=wI (b:=x) rv;refine oE2 (wk _ (af hwr) x.1 x.2 rfl) λ jj r o8=>oA4 o8 λ e1 hr' hs _=>?_;clear o8;have kp:0 < r.kinds.length:=by
    have ok:=ro r (af hr');unfold Row.ok at ok;rw [hs] at ok;have:=ok.2.2.2.2.1
    lia
   have hw1:Rep H1 p vw (qy a bs rs):=hw.keep λ b o hb ho=>⟨hb,s1 _ _ ho⟩;have rx:Rep H1 q (.ref tx) (.tup [.int jj,.int x.2]):=by
    have:=rv.keep (H':=H1) (q:=q) λ b o hb ho=>⟨hb,s1 _ _ ho⟩;have e2:zX (some x)=.tup [.int x.1,.int x.2]:=rfl;rw [e2,e1] at this;exact this
   exists uc (WY T).mono (iE5 vw (.ref tx) bs rs p (iE4 q jj x.2 r (iA7 rfl hw1 rx hr' hs kp ?_)));refine ⟨_,iA3 ha (zn (by lia)) ⟨_,iA3 rfl (sn _) ?_⟩⟩;rw [oB,e];show _=some (HO.lst (_ ++ [V.int (kdW rs x)]))
   unfold kdW;rw [e1,ax,hr']
   rfl
 intro σ H1 oj;refine oE1 oj λ v0 o8=>oA3 o8 λ oi s1 ha=>?_;ext;rw [lu,aM] at ha;refine iE2 oq _ ⟨rfl,.inl ⟨SqL.of ha,λ t ht=>?_⟩⟩;exact k t _ (s1.trans (zf ht)) (zw s1 ht) oB
def Q7 (bs:A1) (rs:At) (L:Int):Prop:=∃ ns,IsLcm ns L/\∀ n,n∈ns ↔ wp bs rs n
def zgi {rs:At} {L L':Int} (h:Q7 bs rs L) (h':Q7 bs rs L'):L=L':=by
 obtain ⟨ns,i,m⟩:=h;obtain ⟨ns',i',m'⟩:=h';have d:L ∣ L':=i.least _ λ n hn=>i'.dv n ((m' n).mpr ((m n).mp hn));have d':L' ∣ L:=i'.least _ λ n hn=>i.dv n ((m n).mpr ((m' n).mp hn));exact Int.dvd_antisymm (cU i.pos) (cU i'.pos) d d'
open Classical in
noncomputable def Zi (bs:A1) (rs:At):Int:=if h:∃ L,Q7 bs rs L then Classical.choose h else 1
def zbE {rs:At} (h:Q7 bs rs L):L=Zi bs rs:=by
 unfold Zi;rw [dif_pos ⟨L,h⟩];exact zgi h (Classical.choose_spec (⟨L,h⟩:∃ L,Q7 bs rs L))
noncomputable def xy (rs:At) (st:PSt) (j:Int):Int:=match rs[j.toNat]? with
 | some r=>(st.gone.getD j.toNat []).headD 0 % (r.kinds.length:Int)
 | none=>0
noncomputable def J6 (bs:A1) (rs:At) (st:PSt):ShK:=(some (st.turn % Zi bs rs),st.cells.map (zB rs),st.sides.map some,(zU .source rs).map λ j=>some (xy rs st j))
def zaq (a:Ad):Sp:=λ vs H Q _=>∃ (vw:V) (y:Addr) (n:SN) (j:Nat) (bs:A1) (rs:At) (st:PSt) (r:Row) (p:A5),vs=[vw,.ref y,.int j]/\Rep H p vw (qy a bs rs)/\StO a H y n st/\rs[j]?=some r/\r.wd=.source/\r.ok/\stWf bs rs st/\Q (.int (xy rs st j)) H
def zaa (T:Txt K mg a):Cal P w K mg base "kind_place" 1 ["work","state","number"] [] (zaq a):=T.lQ.cal λ F=>by
 refine F.okx X9 ?_ ?_
 ·walk_at "i"
 walk_at "j";refine oE5 h λ vw y n j bs o8=>oE4 o8 λ rs st r p oi=>oA8 oi λ ou hv so hr' hs ok wf k=>?_;clear o8 oi h;subst ou;refine oE7 (jw hv) λ yw dx fs l1 l2 bvs om o8=>oA9 o8 λ oi hy e1 e2 h1 h2 hB hK no=>?_;clear o8;subst oi;obtain ⟨kv,hkv,hKn⟩:=VU hK hr';refine oE6 hKn.inv λ y1 dx1 m1 m2 m3 fs1 o8=>oA9 o8 λ oi _ _ _ _ g0 _ _ ou=>oA5 ou λ _ _ _ g3 _=>?_;clear o8 ou;subst oi;obtain ⟨g3a,g3b⟩:=g3 hs;have kp:0 < r.kinds.length:=by
  unfold Row.ok at ok;rw [hs] at ok;have:=ok.2.2.2.2.1
  lia
 have hj:=(aa.mp hr').1;obtain ⟨g,hg⟩:∃ g,st.gone[j]?=some g:=⟨_,ac (by rw [wf.go.1];exact hj)⟩;have q1:=(wf.go.2 j r g hr' hg).1;have cp:=x9 ok;obtain ⟨gh,gs,rfl⟩:=cQ (ff (by lia:0 < g.length));obtain ⟨bG,hbG,hgG⟩:=vv so.hg hg;have hmap:(n.ags.map V.ref)[j]?=some (.ref bG):=by rw [ak,hbG];rfl
 have ek:xy rs st j=gh % (r.kinds.length:Int):=by
  unfold xy;rw [ax,hr',ae,hg]
  rfl
 rw [ek] at k;walk_at "T";refine ⟨_,(zd (zk (zJ jo (zr (zr (zm (pq 1) rfl) (pq 2)) ze) (qb qa z9 (za (zm (zr (zm (pq 0) rfl) (pq 2)) rfl) zb))))),?_⟩;exists ra so.hy T.ad T.gP rfl (zt (SqL.of so.hg.out) (zD hmap) (zt (SqL.of hgG) at0 ?_));exists ra hy T.gX T.gU e2 (zt (SqL.of h2) (zD hkv) ?_);refine iE5 y1 (wM a r.wd) dx1 fs1 _ (iA6 rfl g0 (CT T _) (by rw [hs];exact T.ic) g3a ?_);refine ⟨_,.inl ⟨_,SqL.of g3b,rfl⟩,?_⟩;rw [zK];left;exact ⟨by lia,k⟩
theorem VG {H:Hp} {p:A5}:∀ c:List A9,Reps H p (c.map oiV) (c.map oiD)
 | []=>.nil
 | none :: c=>.cons .non (VG c)
 | some n :: c=>.cons .int (VG c)
def zb5 {t:Addr} {c:List A9} (h:H t=some (.tup (c.map oiV))):Rep H (z8 H) (.ref t) (.tup (c.map oiD)):=(VG c).mkT ⟨_,h⟩ h
def JV {H H':Hp} {d:D} (r:Rep H (z8 H) v d) (s:Same H H'):Rep H' (z8 H') v d:=r.keep λ b o ⟨xs,hx⟩ hb=>⟨⟨xs,s _ _ hx⟩,s _ _ hb⟩
def Ww {H H':Hp} {ds:List D} (r:Reps H (z8 H) vs ds) (s:Same H H'):Reps H' (z8 H') vs ds:=r.keep λ b o ⟨xs,hx⟩ hb=>⟨⟨xs,s _ _ hx⟩,s _ _ hb⟩
def zfy {rs:At} {m:Int} (h:m∈zU wd rs):∃ (j:Nat) (r:Row),m=j/\rs[j]?=some r/\r.wd=wd:=by
 unfold zU jC at h;obtain ⟨j,hj,rfl⟩:=aO.mp h;obtain ⟨h1,h2⟩:=cm.mp hj;have h2:=bB h2;obtain ⟨r,hr,e⟩:=am.mp h2;exact ⟨j,r,rfl,hr,e⟩
def zgv (a:Ad):Sp:=λ vs H Q _=>∃ (vw:V) (y:Addr) (n:SN) (bs:A1) (rs:At) (st:PSt) (p:A5),vs=[vw,.ref y]/\Rep H p vw (qy a bs rs)/\StO a H y n st/\stWf bs rs st/\bs.length<=24/\rs.length<=24/\(∀ b∈bs,zH b.1 b.2)/\(∀ r∈rs,r.ok)/\∀ t H',Same H H'->Rep H' (z8 H') (.ref t) (shD (J6 bs rs st))->Q (.ref t) H'
def zcF (T:Txt K mg a):Cal P w K mg base "shape_of" 4 ["work","state"] [] (zgv a):=T.mI.cal λ F=>by
 refine F.okx zax ?_ ?_
 ·walk_at "i"
 walk_at "j";refine oE7 h λ vw y n bs rs st p o8=>oA9 o8 λ oi hv so wf b24 r24 bo ro k=>?_;clear o8 h;subst oi;refine oE7 (jw hv) λ yw dx fs l1 l2 bvs om o8=>oA9 o8 λ oi hy e1 e2 h1 h2 hB hK no=>?_;clear o8;subst oi;walk_at "T";refine ⟨_,(zh (zu 2 zax.nd (zJ jo (zm (pq 1) rfl) (JM ⟨rfl,rfl,rfl⟩ hr (pq 0))))  (zh (zu 3 zax.nd (wG QA Zg (za (jI (vars:=["cells"]) (caps:=[0]) (N:=["cells","work"]) (ON:=["work","state","beat_place","kinds","places"]) (osc:=zg xR) rfl rfl (by right) rfl rfl (qo (zm (pq 1) rfl)) (λ _ _ _ _=>(qp 0 (show (["cells","work"]:A8).Nodup from by symm))) (λ _ _ _ _=>ql) (λ _ _ _ _=>(ZU hr (za (pq 1) (za (pq 0) zb))))) zb)))  (zh (zu 4 zax.nd (wG QA Zg (za (jI (vars:=["number"]) (caps:=[0,1]) (N:=["number","work","state"]) (ON:=["work","state","beat_place","kinds","places"]) (osc:=zg xR) rfl rfl (by right) rfl rfl (qo (JM ⟨rfl,rfl,rfl⟩ hr (pq 0))) (λ _ _ _ _=>(qp 0 (show (["number","work","state"]:A8).Nodup from by symm))) (λ _ _ _ _=>ql) (λ _ _ _ _=>(ZU hr (za (pq 1) (za (pq 2) (za (pq 0) zb)))))) zb)))  (zd (zk (jn (za (pq 2) (za (pq 3) (za (wG QA Zg (za (zm (pq 1) rfl) zb)) (za (pq 4) zb)))))))))),?_⟩;exists ra so.hy T.ad T.gS rfl ?_;refine iE7 yw a.r dx fs _ _ _ (iA5 rfl hy (no _ (by symm) (by symm)) ((za8 T).mono) ?_);refine iE4 (.ref yw) bs rs p (iA7 rfl hv (by lia) (by lia) bo ro (λ L ns H1 il im s1=>?_));have lp:=il.pos;have eL:=zbE ⟨ns,il,im⟩;left;rw [eL];clear il im lp eL;have so1:=so.same s1;have hv1:Rep H1 p (.ref yw) (qy a bs rs):=hv.keep λ b o hb ho=>⟨hb,s1 _ _ ho⟩;have lc:n.acs.length=st.cells.length:=by rw [so.hc.len,zV,ah]
 have lcb:st.cells.length=bs.length:=wf.co.1;walk_at "d";exists ra so1.hy T.ad T.gM rfl ⟨n.lc,rfl,.inl ⟨⟨_,SqL.of so1.hc.out⟩,λ _ _ _ _ oq hacc=>?_⟩⟩;let ow:Nat->St->Hp->Prop:=λ i σ H'=>∃ (v0:Aq) (us:Ap),σ=[v0,some (.ref yw)]/\Same H1 H'/\H' oq=some (.lst us)/\us.length=i/\Reps H' (z8 H') us ((st.cells.take i).map λ c=>.tup ((zB rs c).map oiD));refine qK (K:=K) (a:=n.lc) (xs:=n.acs.map V.ref) ow (iE2 _ ([]) (iA5 rfl (zf hacc) oB rfl (.nil))) (λ i σ H' _ h=>by obtain ⟨_,_,_,s,_⟩:=h;exact SqL.of (s _ _ so1.hc.out)) ?_ ?_
 ·intro i x σ H2 hi oj;refine oE2 oj λ v0 us o8=>oA5 o8 λ oi s2 ha lu ru=>?_;ext;rw [ak,am] at hi;obtain ⟨cb,hcb,rfl⟩:=hi;have hil:i < st.cells.length:=by rw [<- lc];exact (aa.mp hcb).1
  obtain ⟨c,ec⟩:∃ c,st.cells[i]?=some c:=⟨_,ac hil⟩;obtain ⟨vs,hvs,rvs⟩:=so1.hc.g i cb _ hcb (show (zV st.cells)[i]?=some (c.map zX) by rw [zV,ak,ec];rfl);obtain ⟨b,hb⟩:∃ b,bs[i]?=some b:=⟨_,ac (by rw [<- wf.co.1];exact hil)⟩;obtain ⟨lc6,wk⟩:=wf.co.2 i b c hb ec;have bk:=(bo b (af hb)).2.1;exists uc (zcH T).mono (iE8 (.ref yw) cb vs bs rs c p _ (iA8 rfl (hv1.keep (λ b o hb ho=>⟨hb,s2 _ _ ho⟩)) (s2 _ _ hvs) (rvs.keep (λ b o hb ho=>⟨hb,s2 _ _ ho⟩)) wk ro (by lia) (λ t H3 s3 nt ht=>?_)));have nta:∀ b,z8 H3 b->b≠oq:=λ b ⟨xs,hx⟩ z=>by rw [z,s3 _ _ ha] at hx;cases hx
  refine ⟨_,iA3 (s3 _ _ ha) (zn (by lia)) (iE2 _ (us ++ [.ref t]) (iA5 rfl (λ b o hb=>by rw [oC (oE hb hacc)];exact s3 _ _ (s2 b o hb)) oB (by simp [lu]) ?_))⟩;rw [aH,ec,aV];refine ((Ww ru s3).append (.one (zb5 ht))).keep λ b o tb hb=>?_;have ne:=nta b tb;obtain ⟨xs,hx⟩:=tb;exact ⟨⟨xs,by rw [oC ne];exact hx⟩,by rw [oC ne];exact hb⟩
 intro σ H2 oj;refine oE2 oj λ v0 us o8=>oA5 o8 λ oi s2 ha lu ru=>?_;ext;rw [ah,lc,aM] at ru;refine iE2 oq _ ⟨rfl,.inl ⟨SqL.of ha,λ t1 ht1=>?_⟩⟩;have s3:=zf (o:=.tup us) ht1;have ru3:=Ww ru s3;have hT1:upd H2 t1 (.tup us) t1=some (.tup us):=oB;have s13:=s2.trans s3;generalize upd H2 t1 (.tup us)=H3 at s3 ru3 hT1 s13 ⊢;have r1:Rep H3 (z8 H3) (.ref t1) (.tup ((st.cells.map (zB rs)).map λ r=>.tup (r.map oiD))):=by
  rw [dJ];exact ru3.mkT ⟨_,hT1⟩ hT1
 clear ru ru3 ha hT1 s2 s3;have so3:=so1.same s13;have hv3:Rep H3 p (.ref yw) (qy a bs rs):=hv1.keep λ b o hb ho=>⟨hb,s13 _ _ ho⟩;exists iE7 yw a.r dx fs _ _ _ (iA5 rfl (s13 _ _ (s1 _ _ hy)) (no _ (by symm) (by symm)) ((vY T).mono) ?_);refine iE4 (.ref yw) bs rs p (iA4 rfl hv3 (by lia) (λ q H4 s4 nq hq=>?_));have ln:=x6 .source rs rs.length;have so4:=so3.same s4;have hv4:Rep H4 p (.ref yw) (qy a bs rs):=hv3.keep λ b o hb ho=>⟨hb,s4 _ _ ho⟩;refine ⟨q,rfl,.inl ⟨⟨_,SqL.of hq⟩,λ _ _ _ _ ac2 hac2=>?_⟩⟩;let oy:Nat->St->Hp->Prop:=λ i σ H'=>∃ (v0:Aq),σ=[v0,some (.ref yw),some (.ref y)]/\Same H4 H'/\H' ac2=some (.lst ((((zU .source rs).take i).map λ j=>some (xy rs st j)).map oiV));refine qK (K:=K) (a:=q) (xs:=iv (zU .source rs)) oy ⟨_,iA3 rfl (zf hac2) oB⟩ (λ i σ H' _ h=>by obtain ⟨_,_,s,_⟩:=h;exact SqL.of (s _ _ hq)) ?_ ?_
 ·intro i x σ H5 hi oj;refine oE1 oj λ v0 o8=>oA3 o8 λ oi s5 ha=>?_;ext;obtain ⟨m,hm,rfl⟩:=Qq hi;have hil:=(aa.mp hm).1;refine oE2 (zfy (af hm)) λ jj r o8=>oA3 o8 λ oi hr' hs=>?_;clear o8;subst oi;have ln:(zU .source rs).length<=rs.length:=ln;exists uc (zaa T).mono (iE5 (.ref yw) y n jj bs (iE4 rs st r p (iA8 rfl (hv4.keep (λ b o hb ho=>⟨hb,s5 _ _ ho⟩)) (so4.same s5) hr' hs (ro r (af hr')) wf ?_)));refine ⟨_,iA3 ha (zn (by rw [ah,ah,aJ];lia)) ⟨_,iA3 rfl (λ b o hb=>by rw [oC (oE hb hac2)];exact s5 b o hb) ?_⟩⟩;rw [oB,aH,hm];simp [oiV]
 intro σ H5 oj;refine oE1 oj λ v0 o8=>oA3 o8 λ oi s5 ha=>?_;ext;rw [zK,aM] at ha;refine iE2 ac2 _ ⟨rfl,.inl ⟨SqL.of ha,λ t2 ht2=>?_⟩⟩;have s6:=zf (o:=.tup (((zU .source rs).map λ j=>some (xy rs st j)).map oiV)) ht2;have hT2:upd H5 t2 (.tup (((zU .source rs).map λ j=>some (xy rs st j)).map oiV)) t2=some (.tup (((zU .source rs).map λ j=>some (xy rs st j)).map oiV)):=oB;have s36:=(s4.trans s5).trans s6;generalize upd H5 t2 (.tup (((zU .source rs).map λ j=>some (xy rs st j)).map oiV))=H6 at s36 hT2 ⊢;have so6:=so3.same s36;exists ra so6.hy T.ad T.gW rfl (iE2 n.ls _ ⟨rfl,.inl ⟨SqL.of so6.hs,λ t3 ht3=>?_⟩⟩);intro t4 ht4;have s7:=zf (o:=.tup (iv st.sides)) ht3;have hT3:upd H6 t3 (.tup (iv st.sides)) t3=some (.tup ((st.sides.map some).map oiV)):=by rw [oB,dJ];rfl
 generalize upd H6 t3 (.tup (iv st.sides))=H7 at s7 hT3 ht4 ⊢;have s8:=zf (o:=.tup [.int (st.turn % Zi bs rs),.ref t1,.ref t3,.ref t2]) ht4;have hT4:upd H7 t4 (.tup [.int (st.turn % Zi bs rs),.ref t1,.ref t3,.ref t2]) t4=some (.tup [.int (st.turn % Zi bs rs),.ref t1,.ref t3,.ref t2]):=oB;generalize upd H7 t4 (.tup [.int (st.turn % Zi bs rs),.ref t1,.ref t3,.ref t2])=H8 at s8 hT4 ⊢;refine k t4 H8 ((s1.trans s13).trans (s36.trans (s7.trans s8))) ?_;exact Reps.mkT (vs:=[.int (st.turn % Zi bs rs),.ref t1,.ref t3,.ref t2]) (.cons .int (.cons (JV r1 (s36.trans (s7.trans s8))) (.cons (JV (zb5 hT3) s8) (.cons (JV (zb5 hT2) (s7.trans s8)) .nil)))) ⟨_,hT4⟩ hT4
noncomputable abbrev qN (bs:A1) (rs:At) (i:Nat):ShK:=J6 bs rs (zj bs rs i)
structure RoundAt (bs:A1) (rs:At) (lim i j:Nat):Prop where
 lt:i < j
 le:j<=lim
 eq:qN bs rs i=qN bs rs j
 fst:∀ x y,x < y->y < j->qN bs rs x≠qN bs rs y
def JS (bs:A1) (rs:At) (lim:Nat):Prop:=∀ x y,x < y->y<=lim->qN bs rs x≠qN bs rs y
def RoundAt.one {rs:At} {lim lim' i j i' j':Nat} (h:RoundAt bs rs lim i j) (h':RoundAt bs rs lim' i' j'):i=i'/\j=j':=by
 have ej:j=j':=by
  rcases dZ j j' with z|z|z
  ·exact absurd h.eq (h'.fst i j h.lt z)
  ·exact z
  ·exact absurd h'.eq (h.fst i' j' h'.lt z)
 subst ej;refine ⟨?_,rfl⟩;rcases dZ i i' with z|z|z
 ·exact absurd (h.eq.trans h'.eq.symm) (h.fst i i' z h'.lt)
 ·exact z
 ·exact absurd (h'.eq.trans h.eq.symm) (h.fst i' i z h.lt)
def RoundAt.no {rs:At} {lim i j:Nat} (h:RoundAt bs rs lim i j):¬ JS bs rs lim:=λ z=>z i j h.lt h.le h.eq
def Nxt (H H':Hp):Prop:=∀ b u,H b=some u->(∀ φ,u≠.ext φ)->H' b=some u
def Same.nxt {H H':Hp} (s:Same H H'):Nxt H H':=λ b u hb _=>s b u hb
def Nxt.trans {H H' H2:Hp} (a:Nxt H H') (b:Nxt H' H2):Nxt H H2:=λ c u hc n=>b c u (a c u hc n) n
def zg3 {D:Addr} {φ:Heap->Prop} (h:H D=some (.ext φ)):Nxt H (upd H D o):=λ b u hb n=>by
 rw [oC (λ z=>by rw [z,h] at hb;cases hb;exact n φ rfl)];exact hb
def zfA {H H':Hp} {G:Addr} {as:Ab} {xss:List (List D)} (h:NL H (z8 H) G as xss) (s:Nxt H H'):NL H' (z8 H') G as xss:=by
 refine h.tup λ b o c hb=>s b o hb λ φ z=>?_;subst z;rcases c with c|c|⟨xs,c⟩
 ·rw [c,h.out] at hb;cases hb
 ·obtain ⟨vs,hv⟩:=h.isl (aD _ c);rw [hv] at hb;cases hb
 ·rw [c] at hb;cases hb
def StO.nxt {H H':Hp} {y:Addr} {n:SN} {st:PSt} (h:StO a H y n st) (s:Nxt H H'):StO a H' y n st:=⟨s _ _ h.hy (λ φ z=>by cases z),zfA h.hc s,s _ _ h.hs (λ φ z=>by cases z),zfA h.hg s,h.nd⟩
def zgr {H H':Hp} {d:D} (r:Rep H (z8 H) v d) (s:Nxt H H'):Rep H' (z8 H') v d:=r.keep λ b o ⟨xs,hx⟩ hb=>by
 have e:=s b _ hx (λ φ z=>by cases z);rw [hx] at hb;cases hb;exact ⟨⟨xs,e⟩,e⟩
structure SD (a:Ad) (H:Hp) (bs:A1) (rs:At) (xs:List (ShK × Addr × Addr)) (t:Nat):Prop where
 len:xs.length=t
 at':∀ (i:Nat) x,xs[i]?=some x->x.1=qN bs rs i/\Rep H (z8 H) (.ref x.2.1) (shD x.1)/\∃ n,StO a H x.2.2 n (zj bs rs i)
 fst:∀ x y,x < y->y < t->qN bs rs x≠qN bs rs y
def SD.nxt {H H':Hp} {rs:At} {xs:List (ShK × Addr × Addr)} {t:Nat} (h:SD a H bs rs xs t) (s:Nxt H H'):SD a H' bs rs xs t:=⟨h.len,λ i x e=>by
 obtain ⟨e1,r,n,so⟩:=h.at' i x e;exact ⟨e1,zgr r s,n,so.nxt s⟩,h.fst⟩
def SD.keys {rs:At} {xs:List (ShK × Addr × Addr)} {t:Nat} (h:SD a H bs rs xs t):keysOk H xs:=λ x hx=>by
 obtain ⟨i,hi⟩:=bx hx;exact ⟨_,(h.at' i x hi).2.1⟩
def SD.look {rs:At} {xs:List (ShK × Addr × Addr)} {t:Nat} {k:ShK} {y:Addr} (h:SD a H bs rs xs t) (e:wj xs k=some y):∃ i n,i < t/\qN bs rs i=k/\StO a H y n (zj bs rs i):=by
 unfold wj at e;obtain ⟨x,hx,rfl⟩:=am.mp e;have hk:x.1=k:=by
  have:=List.find?_some hx;simpa using this
 obtain ⟨i,hi⟩:=bx (List.mem_of_find?_eq_some hx);obtain ⟨e1,_,n,so⟩:=h.at' i x hi;exact ⟨i,n,by rw [<- h.len];exact (aa.mp hi).1,e1.symm.trans hk,so⟩
def SD.new {rs:At} {xs:List (ShK × Addr × Addr)} {t:Nat} {k:ShK} (h:SD a H bs rs xs t) (e:wj xs k=none):∀ i,i < t->qN bs rs i≠k:=λ i hi z=>by
 obtain ⟨x,hx⟩:∃ x,xs[i]?=some x:=⟨_,ac (by rw [h.len];exact hi)⟩;unfold wj at e;rw [Option.map_eq_none_iff,List.find?_eq_none] at e;exact e x (af hx) (bg ((h.at' i x hx).1.trans z))
def SD.add {rs:At} {xs:List (ShK × Addr × Addr)} {t:Nat} {b y:Addr} {n:SN} (h:SD a H bs rs xs t) (e:wj xs (qN bs rs t)=none) (r:Rep H (z8 H) (.ref b) (shD (qN bs rs t))) (so:StO a H y n (zj bs rs t)):SD a H bs rs (xs ++ [(qN bs rs t,b,y)]) (t + 1):=by
 refine ⟨by simp [h.len],λ i x hx=>?_,λ u v huv hv=>?_⟩
 ·by_cases hi:i < xs.length
  ·rw [aQ hi] at hx;exact h.at' i x hx
  ·rw [aN (by lia)] at hx;have hz:=(aa.mp hx).1;have:i=t:=by simp at hz;have:=h.len;lia
   subst this;rw [h.len,fK] at hx;cases hx;exact ⟨rfl,r,n,so⟩
 ·rcases fN v t with z|z
  ·exact h.fst u v huv z
  ·have:v=t:=by lia
   subst this;exact h.new e u huv
def zao (a:Ad):Sp:=λ vs H Q E=>∃ (vw:V) (lim:Nat) (bs:A1) (rs:At),vs=[vw,.int lim]/\Rep H (Off []) vw (qy a bs rs)/\zY bs rs/\(∀ b∈bs,zH b.1 b.2)/\(∀ r∈rs,r.ok)/\lim<=1000 /\
 (∀ i j t y0 y1 n0 n1 H',RoundAt bs rs lim i j->Same H H'->H' t=some (.tup [.ref y0,.ref y1])->StO a H' y0 n0 (zj bs rs i)->StO a H' y1 n1 (zj bs rs j)->Q (.ref t) H') /\
 (JS bs rs lim->∀ H',Same H H'->E (.ref a.h) none H')
theorem V8 (T:Txt K mg a):Cal P w K mg base "round_ends" 8 ["work","limit"] [] (zao a):=T.lR.cal λ F=>by
 refine F.okx X7 ?_ ?_
 ·walk_at "i"
 walk_at "j";refine oE4 h λ vw lim bs rs o8=>oA8 o8 λ oi hv ot bo ro l1000 kQ kE=>?_;clear o8 h;subst oi;have b24:=ot.1.1.2;have r24:=ot.1.2.2;walk_at "T";refine ⟨_,(zi (zu 2 X7.nd ‹(pq 0) zb›)  (zi (zu 3 X7.nd zgS)  (qG (qB qX rfl (vh (za (zJ qd (pq 1) ze) zb)) (qp 4 X7.nd)  (zi (zu 5 X7.nd ‹(pq 0) (za (pq 2) zb)›)  (zi (zF (zfi (zig hr.units1 (pq 5) (pq 3)) (by with_unfolding_all rfl))  (zd (zk (jn (za (zgT hr.units1 (pq 3) (pq 5) (λ _ _=>rfl)) (za (pq 2) zb)))))  zp)  (zi (zgO hr.units1 (pq 3) (pq 5) (pq 2) rfl)  (zd (zu 2 X7.nd ‹(pq 0) (za (pq 2) zb)›))))))  (zd (jm ⟨rfl,rfl,rfl⟩ rfl (za zO zb)))))),?_⟩;exists uc (ZL T).mono (iE4 vw bs rs _ (iA7 rfl hv b24 r24 bo ro (λ v' H1 s1 sn=>?_)));refine oE2 sn λ y nn o8=>oA5 o8 λ oi so _ _ _=>?_;clear o8 sn;subst oi;left;intro D hD;have sD:=zf (o:=sdO P w D []) hD;have nD:H D=none:=zw s1 hD;have s2:=s1.trans sD;have so2:=so.same sD;have hD2:upd H1 D (sdO P w D []) D=some (sdO P w D []):=oB;generalize upd H1 D (sdO P w D [])=H2 at s2 so2 hD2 ⊢;clear so s1 sD hD;left;let ow:St->Hp->Prop:=λ σ' H'=>∃ (v2 v4 v5:Aq),σ'=[some vw,some (.int lim),v2,some (.ref D),v4,v5]/\Same H H'/\JS bs rs lim;refine cut ow ?_ ?_
 ·walk_at "e";exists ⟨by lia,by lia,?_⟩;refine Qu (n:=((lim:Int) + 1).toNat) (λ t σ H'=>∃ (v4 v5:Aq) (y:Addr) (n:SN) (xs:List (ShK × Addr × Addr)),σ=[some vw,some (.int lim),some (.ref y),some (.ref D),v4,v5]/\Same H H'/\H' D=some (sdO P w D xs)/\StO a H' y n (zj bs rs t)/\SD a H' bs rs xs t) (iE5 _ _ y nn ([]) (iA5 rfl s2 hD2 so2 ⟨rfl,λ i x e=>by simp at e,λ x y _ z=>absurd z (eE _)⟩)) ?_ ?_
  ·clear so2 hD2 s2;intro t σ H3 ht oj;refine oE5 oj λ v4 v5 y n xs o8=>oA5 o8 λ oi s3 hD3 so3 sd3=>?_;ext;have ht':t<=lim:=by lia
   have lx:=sd3.len;exists uc (zcF T).mono (iE7 vw y n bs rs (zj bs rs t) _ (iA9 rfl (hv.same s3) so3 (qg ot bo ro t) b24 r24 bo ro (λ b H4 s4 r4=>?_)));have hD4:=s4 _ _ hD3;have so4:=so3.same s4;have sd4:=sd3.nxt (Same.nxt s4);have s04:=s3.trans s4;clear hD3 so3 sd3 s3 s4;exists iE5 D b xs _ _ (iA6 rfl rfl hD4 sd4.keys r4 ?_);cases el:wj xs (qN bs rs t) with
   | some y0 =>
    refine oE2 (sd4.look el) λ i n0 o8=>oA3 o8 λ hi ei so0=>?_;clear o8;exists iE6 D b xs _ _ y0 (iA7 rfl rfl hD4 sd4.keys r4 el (λ q hq=>?_));have sq:=zf (o:=.tup [.ref y0,.ref y]) hq;exact kQ i t q y0 y n0 n _ ⟨hi,ht',ei,sd4.fst⟩ (s04.trans sq) oB (so0.same sq) (so4.same sq)
   | none =>
    exists iE6 D b xs _ _ y (iA9 rfl rfl rfl hD4 sd4.keys r4 el (zn (by lia)) ?_);have nx:Nxt H4 (upd H4 D (sdO P w D (xs ++ [(qN bs rs t,b,y)]))):=zg3 hD4;have so5:=so4.nxt nx;have sd5:=(sd4.add el r4 so4).nxt nx;have hD5:upd H4 D (sdO P w D (xs ++ [(qN bs rs t,b,y)])) D=some (sdO P w D (xs ++ [(qN bs rs t,b,y)])):=oB;have s5:Same H (upd H4 D (sdO P w D (xs ++ [(qN bs rs t,b,y)]))):=λ c u hc=>by rw [oC (oE hc nD)];exact s04 c u hc
    generalize upd H4 D (sdO P w D (xs ++ [(qN bs rs t,b,y)]))=H5 at so5 sd5 hD5 s5 ⊢;exists uc (XW T).mono (spOneTurn.i vw (.ref y) (zj bs rs t) bs rs _ rfl (hv.same s5) so5.rep (qg ot bo ro t) ot bo ro (λ v' H6 s6 sn=>?_));refine oE2 sn λ y2 n2 o8=>oA3 o8 λ oi so6 _=>?_;clear o8 sn;subst oi;exact iE5 _ _ y2 n2 _ (iA5 rfl (s5.trans s6) (s6 _ _ hD5) so6 (sd5.nxt (Same.nxt s6)))
  ·intro σ H3 oj;refine oE5 oj λ v4 v5 y n xs o8=>oA5 o8 λ oi s3 hD3 so3 sd3=>?_;ext;exact iE3 _ _ _ (iA3 rfl s3 (λ x y hxy hy=>sd3.fst x y hxy (by lia)))
 intro σ' H3 oj;refine oE3 oj λ v2 v4 v5 o8=>oA3 o8 λ oi s3 nr=>?_;ext;left;exact ⟨a.h,iA3 T.lW T.mX (kE nr H3 s3)⟩
noncomputable def vD (old new:A6):List Int:=(List.range old.length).map λ p=>new.getD p 0 - old.getD p 0
noncomputable def xA (gs0 gs1:List A6):List A6:=List.zipWith vD gs0 gs1
def zep {gs0 gs1:List A6} {g0 g1:A6} (h0:gs0[i]?=some g0) (h1:gs1[i]?=some g1):xA (gs0.take (i + 1)) (gs1.take (i + 1))=xA (gs0.take i) (gs1.take i) ++ [vD g0 g1]:=by
 unfold xA;rw [aH,aH,h0,h1];have l0:=(aa.mp h0).1;have l1:=(aa.mp h1).1;rw [List.zipWith_append (by rw [aJ,aJ];lia)]
 rfl
def ze0 (a:Ad):Sp:=λ vs H Q _=>∃ (y0 y1:Addr) (n0 n1:SN) (s0 s1:PSt),vs=[.ref y0,.ref y1]/\StO a H y0 n0 s0/\StO a H y1 n1 s1/\s0.gone.length=s1.gone.length/\s0.gone.length<=24/\(∀ (i:Nat) g0 g1,s0.gone[i]?=some g0->s1.gone[i]?=some g1->g0.length=g1.length/\g0.length<=4) /\
 ∀ l as H',Same H H'->NL H' (z8 H') l as (qt (xA s0.gone s1.gone))->(∀ b∈l :: as,H b=none)->Q (.ref l) H'
def zbA (T:Txt K mg a):Cal P w K mg base "growth_of" 1 ["before","after"] [] (ze0 a):=T.mj.cal λ F=>by
 refine F.okx VA ?_ ?_
 ·walk_at "i"
 walk_at "j";refine oE6 h λ y0 y1 n0 n1 s0 s1 o8=>oA7 o8 λ oi so0 so1 le l24 lg k=>?_;clear o8 h;subst oi;have la0:n0.ags.length=s0.gone.length:=by rw [so0.hg.len,qt,ah]
 have la1:n1.ags.length=s0.gone.length:=by rw [so1.hg.len,qt,ah,le]
 walk_at "T";refine ⟨_,(zh (zu 2 VA.nd (zL zb))  (zh (qB qX rfl (zfn (za (zm (pq 0) rfl) (za (zm (pq 1) rfl) zb))) (wv (n:=2) rfl (qc (Zn (i:=3) VA.nd rfl (Or.inr rfl)) (qc (Zn (i:=4) VA.nd rfl (Or.inr rfl)) xf)))  (zd (zG (qC aq az ay zQ (pq 2) (za (jI (vars:=["place"]) (caps:=[4,3]) (N:=["place","new","old"]) (ON:=["before","after","growth","old","new"]) (osc:=zg wb) rfl rfl (by right) rfl rfl (vh (za (qb qa z9 (za (pq 3) zb)) zb)) (λ _ _ _ _=>(qp 0 (show (["place","new","old"]:A8).Nodup from by symm))) (λ _ _ _ _=>ql) (λ _ _ _ _=>(zJ vn (zr (pq 1) (pq 0)) (zr (pq 2) (pq 0))))) zb)))))  (zd (zk (pq 2))))),?_⟩;left;intro l hl;have sl:=zf (o:=.lst []) hl;have nl0:NL (upd H l (.lst [])) (z8 (upd H l (.lst []))) l [] (qt (xA (s0.gone.take 0) (s1.gone.take 0))):=zch oB;generalize upd H l (.lst [])=H1 at sl nl0 ⊢;have so10:=so0.same sl;have so11:=so1.same sl;walk_at "e";exists ra so10.hy T.ad T.gP rfl (ra so11.hy T.ad T.gP rfl (iE6 true true n0.lg n1.lg _ _ (iA4 rfl (SqL.of so10.hg.out) (SqL.of so11.hg.out) ?_)));let ow:Nat->St->Hp->Prop:=λ i σ H'=>∃ (v3 v4:Aq) (as:Ab),σ=[some (.ref y0),some (.ref y1),some (.ref l),v3,v4]/\Same H H'/\NL H' (z8 H') l as (qt (xA (s0.gone.take i) (s1.gone.take i)))/\∀ b∈as,H b=none;refine zhH (K:=K) (xs:=n0.ags.map V.ref) (ys:=n1.ags.map V.ref) ow (iE3 _ _ ([]) (iA4 rfl sl nl0 (by simp))) (λ i σ H' _ h=>by obtain ⟨_,_,_,_,s,_⟩:=h;exact ⟨SqL.of (s _ _ so0.hg.out),SqL.of (s _ _ so1.hg.out)⟩) ?_ ?_
 ·intro i x z t σ H2 hi hj ht oj;refine oE3 oj λ v3 v4 as o8=>oA4 o8 λ oi s2 nl2 fa=>?_;ext;rw [ak,am] at hi hj;obtain ⟨b0,hb0,rfl⟩:=hi;obtain ⟨b1,hb1,rfl⟩:=hj;have hil:i < s0.gone.length:=by rw [<- la0];exact (aa.mp hb0).1
  obtain ⟨g0,e0⟩:∃ g,s0.gone[i]?=some g:=⟨_,ac hil⟩;obtain ⟨g1,e1⟩:∃ g,s1.gone[i]?=some g:=⟨_,ac (by rw [<- le];exact hil)⟩;obtain ⟨lg1,lg4⟩:=lg i g0 g1 e0 e1;obtain ⟨c0,q0,h0⟩:=vv so0.hg e0;obtain ⟨c1,q1,h1⟩:=vv so1.hg e1;rw [hb0] at q0;cases q0;rw [hb1] at q1;cases q1;have st:=zf (o:=.tup [.ref b0,.ref b1]) ht;have s3:=s2.trans st;have nl3:=nl2.tup (H':=upd H2 t (.tup [.ref b0,.ref b1])) λ b o _ hb=>st b o hb;refine un2 oB ?_;generalize upd H2 t (.tup [.ref b0,.ref b1])=H3 at s3 nl3 ⊢;have las:as.length<=24:=by rw [nl3.len,qt,ah,xA,gy,aJ,aJ];lia
  exists ⟨.inl ⟨rfl,_,SqL.of nl3.out⟩,?_⟩;walk_at "d";exists ⟨_,.inl ⟨_,SqL.of (s3 _ _ h0),rfl⟩,?_⟩;rw [zK];exists ⟨by lia,by lia,λ _ _ _ _ oq hacc=>?_⟩;let oy:Nat->St->Hp->Prop:=λ j σ H'=>∃ (v0:Aq),σ=[v0,some (.ref b1),some (.ref b0)]/\Same H3 H'/\H' oq=some (.lst (iv ((List.range j).map λ p=>g1.getD p 0 - g0.getD p 0)));refine Qu (n:=((g0.length:Int)).toNat) oy ⟨_,iA3 rfl (zf hacc) oB⟩ ?_ ?_
  ·intro j σ H4 hj oj;refine oE1 oj λ v0 o8=>oA3 o8 λ oi s4 ha=>?_;ext;have hjl:j < g0.length:=by lia
   left;simp only [dB];refine zt (SqL.of (s4 _ _ (s3 _ _ h1))) (zD (jD (qr (d:=0) (by lia:j < g1.length)))) (zt (SqL.of (s4 _ _ (s3 _ _ h0))) (zD (jD (qr (d:=0) hjl))) ?_);exists ⟨_,iA3 ha (zn (by rw [zK,ah,List.length_range];lia)) ⟨_,iA3 rfl (λ b o hb=>by rw [oC (oE hb hacc)];exact s4 b o hb) ?_⟩⟩;rw [oB,jd,range_succ,aV]
   rfl
  intro σ H4 oj;refine oE1 oj λ v0 o8=>oA3 o8 λ oi s4 ha=>?_;ext;rw [show ((g0.length:Int)).toNat=g0.length by lia] at ha;have nl4:=nl3.tup (H':=H4) λ b o _ hb=>s4 b o hb;have nb:oq ∉ as:=λ z=>by
   obtain ⟨vs,h⟩:=nl3.isl (aD _ z);rw [hacc] at h;cases h
  have nG:oq≠l:=λ z=>by rw [z,nl3.out] at hacc;cases hacc
  have ntG:¬ z8 H4 l:=λ ⟨xs,hx⟩=>by rw [nl4.out] at hx;cases hx
  refine iE3 l _ _ (iA5 rfl rfl nl4.out (zn (by rw [ah];lia)) ?_);have np:=nl4.push (b:=oq) (vs:=iv (vD g0 g1)) (ys:=(vD g0 g1).map D.int) ha nb nG ntG reps_ints;refine iE3 _ _ (as ++ [oq]) (iA4 rfl (λ b o hb=>by rw [oC (oE hb hl)];exact s4 _ _ (s3 _ _ hb)) ?_ (λ b hb=>?_))
  ·rw [zep e0 e1,show qt (xA (s0.gone.take i) (s1.gone.take i) ++ [vD g0 g1])=qt (xA (s0.gone.take i) (s1.gone.take i)) ++ [(vD g0 g1).map D.int] by simp [qt]];refine np.keep (λ _ _ _ hc=>hc) λ c hc _=>?_;obtain ⟨xs,hx⟩:=hc;exact ⟨xs,by rw [oC (λ z=>by rw [z,nl4.out] at hx;cases hx)];exact hx⟩
  ·rcases aE.mp hb with hb|hb
   ·exact fa b hb
   ·rw [aw.mp hb];exact zw s3 hacc
 ·intro σ H2 oj;refine oE3 oj λ v3 v4 as o8=>oA4 o8 λ oi s2 nl2 fa=>?_;ext;rw [ah,ah,la0,la1,fM,aM,show List.take s0.gone.length s1.gone=s1.gone by rw [le];exact aM] at nl2;exists k l as _ s2 nl2 λ b hb=>?_;rcases ar.mp hb with rfl|hb
  ·exact hl
  ·exact fa b hb
def zam {st:PSt}:(zM st k fb).2.turn=st.turn/\(zM st k fb).2.sides=st.sides/\(zM st k fb).2.gone=st.gone:=by
 cases fb <;> exact ⟨rfl,rfl,rfl⟩
def zaQ {st:PSt} {x:zC}:(xZ st x tb).turn=st.turn/\(xZ st x tb).sides=st.sides/\(xZ st x tb).gone=st.gone:=by
 cases tb <;> exact ⟨rfl,rfl,rfl⟩
def movedF_keep {r:Row} {st:PSt} {ch:Ak}:(movedF r st k ch).turn=st.turn/\(movedF r st k ch).sides=st.sides/\(movedF r st k ch).gone=st.gone:=by
 obtain ⟨a1,a2,a3⟩:=zam (st:=st) (k:=k) (fb:=qj r ch);obtain ⟨b1,b2,b3⟩:=zaQ (st:=(zM st k (qj r ch)).2) (x:=(zM st k (qj r ch)).1) (tb:=xO r ch);exact ⟨b1.trans a1,b2.trans a2,b3.trans a3⟩
def jJ {α:Type} {xs:List α} {k j:Nat} {x d:α} (h:k≠j):(xs.set k x).getD j d=xs.getD j d:=by
 rw [ae,ae,ba h]
def zeH (rs:At) (st:PSt) (k:Nat):(qq rs st k).1.turn=st.turn/\∀ j,k < j->(qq rs st k).1.sides.getD j 0=st.sides.getD j 0/\(qq rs st k).1.gone.getD j []=st.gone.getD j []:=by
 unfold qq;cases rs[k]? with
 | none=>exact ⟨rfl,λ _ _=>⟨rfl,rfl⟩⟩
 | some r =>
  simp only;cases z7 r (qh rs st.cells r) (qH st.cells r) st.turn (st.sides.getD k 0).toNat with
  | none=>exact ⟨rfl,λ _ _=>⟨rfl,rfl⟩⟩
  | some ch =>
   obtain ⟨c1,c2,c3⟩:=movedF_keep (r:=r) (st:=st) (k:=k) (ch:=ch);refine ⟨c1,λ j hj=>⟨?_,?_⟩⟩
   ·show ((movedF r st k ch).sides.set k _).getD j 0=_
    rw [jJ (by lia),c2]
   ·show ((movedF r st k ch).gone.set k _).getD j []=_
    rw [jJ (by lia),c3]
theorem Jl (rs:At) (st:PSt):∀ i,(zo rs st i).1.turn=st.turn/\∀ j,i<=j->(zo rs st i).1.sides.getD j 0=st.sides.getD j 0/\(zo rs st i).1.gone.getD j []=st.gone.getD j []
 | 0=>⟨rfl,λ _ _=>⟨rfl,rfl⟩⟩
 | i + 1=>by
  obtain ⟨h1,h2⟩:=Jl rs st i;obtain ⟨g1,g2⟩:=zeH rs (zo rs st i).1 i;refine ⟨g1.trans h1,λ j hj=>?_⟩;obtain ⟨a1,a2⟩:=h2 j (by lia);obtain ⟨b1,b2⟩:=g2 j (by lia);exact ⟨b1.trans a1,b2.trans a2⟩
theorem jZ (bs:A1) (rs:At):∀ n,(zj bs rs n).turn=n
 | 0=>rfl
 | n + 1=>by
  show (zo rs (zj bs rs n) rs.length).1.turn + 1=_
  rw [(Jl rs (zj bs rs n) rs.length).1,jZ bs rs n]
  rfl
def zhj (g:A6) (j p:Nat):g.getD p 0<=(ZB g j).getD p 0:=by
 unfold ZB;by_cases e:j=p
 ·subst e;by_cases h:j < g.length
  ·rw [ae (l:=g.set _ _),aP h];show _<=g.getD j 0 + 1
   lia
  ·rw [cu (by lia)];exact bN _
 ·rw [jJ e];exact bN _
def XZ (rs:At) (st:PSt) (k i p:Nat):(st.gone.getD i []).getD p 0<=((qq rs st k).1.gone.getD i []).getD p 0:=by
 unfold qq;cases rs[k]? with
 | none=>exact bN _
 | some r =>
  simp only;cases z7 r (qh rs st.cells r) (qH st.cells r) st.turn (st.sides.getD k 0).toNat with
  | none=>exact bN _
  | some ch =>
   obtain ⟨c1,c2,c3⟩:=movedF_keep (r:=r) (st:=st) (k:=k) (ch:=ch);show _<=(((movedF r st k ch).gone.set k _).getD i []).getD p 0
   rw [c3];by_cases e:k=i
   ·subst e;by_cases h:k < st.gone.length
    ·rw [ae (l:=st.gone.set _ _),aP h];exact zhj _ _ _
    ·rw [cu (by lia)];exact bN _
   ·rw [jJ e];exact bN _
theorem Vg (rs:At) (st:PSt) (i p:Nat):∀ m,(st.gone.getD i []).getD p 0<=((zo rs st m).1.gone.getD i []).getD p 0
 | 0=>bN _
 | m + 1=>Int.le_trans (Vg rs st i p m) (XZ rs _ m i p)
theorem QW (bs:A1) (rs:At) (n i p:Nat):∀ m,((zj bs rs n).gone.getD i []).getD p 0<=((zj bs rs (n + m)).gone.getD i []).getD p 0
 | 0=>bN _
 | m + 1=>Int.le_trans (QW bs rs n i p m) (Vg rs (zj bs rs (n + m)) i p rs.length)
def zeq {rs:At} {s0 s1:PSt} (ro:∀ r∈rs,r.ok) (w0:stWf bs rs s0) (w1:stWf bs rs s1):s0.gone.length=s1.gone.length/\∀ (i:Nat) g0 g1,s0.gone[i]?=some g0->s1.gone[i]?=some g1->g0.length=g1.length/\g0.length<=4:=by
 refine ⟨by rw [w0.go.1,w1.go.1],λ i g0 g1 e0 e1=>?_⟩;have hi:=(aa.mp e0).1;obtain ⟨r,hr⟩:∃ r,rs[i]?=some r:=⟨_,ac (by rw [<- w0.go.1];exact hi)⟩;have q0:=(w0.go.2 i r g0 hr e0).1;have q1:=(w1.go.2 i r g1 hr e1).1;have rl:=wE (ro r (af hr));refine ⟨by lia,?_⟩;rw [q0];have:=bd (n:=max r.ins.length r.outs.length) (a:=(0:Int));show (qU r).length<=4
 unfold qU;rw [bd]
 lia
section
variable {bs:A1} {rs:At}
def zbD (bo:∀ b∈bs,zH b.1 b.2) (ro:∀ r∈rs,r.ok) (h:wp bs rs n):0 < n/\n<=4:=by
 rcases h with ⟨b,hb,rfl⟩|⟨r,hr,hw,rfl,hp⟩
 ·have h:=bo b hb;exact ⟨by have:=h.2.2.1;lia,h.2.2.2⟩
 ·exact ⟨hp,(zaF (ro r hr) hw).2⟩
def zhm (bo:∀ b∈bs,zH b.1 b.2) (ro:∀ r∈rs,r.ok):∃ L,Q7 bs rs L:=by
 have hm:∀ n,n∈(bs.map (·.2) ++ (rs.filter λ r=>decide ((r.wd=.source\/r.wd=.drain)/\0 < r.pace)).map Row.pace) ↔ wp bs rs n:=λ n=>by
  simp only [aE,aO,cm,da,wp];constructor
  ·rintro (⟨b,hb,e⟩|⟨r,⟨hr,hw,hp⟩,e⟩)
   ·exact .inl ⟨b,hb,e⟩
   ·exact .inr ⟨r,hr,hw,e,by rw [<- e];exact hp⟩
  ·rintro (⟨b,hb,e⟩|⟨r,hr,hw,e,hp⟩)
   ·exact .inl ⟨b,hb,e⟩
   ·exact .inr ⟨r,⟨hr,hw,by rw [e];exact hp⟩,e⟩
 obtain ⟨L,hL⟩:=IsLcm.ex (ns:=bs.map (·.2) ++ (rs.filter λ r=>decide ((r.wd=.source\/r.wd=.drain)/\0 < r.pace)).map Row.pace) λ n hn=>by
  have b4:=zbD bo ro ((hm n).mp hn)
  lia
 exact ⟨L,_,hL,hm⟩
def zhn (bo:∀ b∈bs,zH b.1 b.2) (ro:∀ r∈rs,r.ok) (h:wp bs rs n):n ∣ Zi bs rs:=by
 obtain ⟨L,hL⟩:=zhm bo ro;rw [<- zbE hL];obtain ⟨ns,il,im⟩:=hL;exact il.dv n ((im n).mpr h)
end
structure Alk (bs:A1) (rs:At) (s s':PSt):Prop where
 ce:s.cells.map (zB rs)=s'.cells.map (zB rs)
 si:s.sides=s'.sides
 so:∀ (j:Nat) r,rs[j]?=some r->r.wd=.source->(s.gone.getD j []).headD 0 % (r.kinds.length:Int)=(s'.gone.getD j []).headD 0 % (r.kinds.length:Int)
 tu:∀ n,wp bs rs n->s.turn % n=s'.turn % n
noncomputable def gAt (gs:List A6) (i j:Nat):Int:=(gs.getD i []).getD j 0
section
variable {bs:A1} {rs:At}
theorem Ql:∀ {xs ys:A6},xs.map some=ys.map some->xs=ys
 | [],[],_=>rfl
 | [],_ :: _,h=>by cases h
 | _ :: _,[],h=>by cases h
 | x :: xs,y :: ys,h=>by
  simp only [bE,List.cons.injEq,db] at h;rw [h.1,Ql h.2]
def ziU {s s':PSt} (bo:∀ b∈bs,zH b.1 b.2) (ro:∀ r∈rs,r.ok) (h:J6 bs rs s=J6 bs rs s'):Alk bs rs s s':=by
 unfold J6 at h;obtain ⟨h1,h2,h3,h4⟩:some (s.turn % Zi bs rs)=some (s'.turn % Zi bs rs)/\s.cells.map (zB rs)=s'.cells.map (zB rs)/\s.sides.map some=s'.sides.map some/\(zU .source rs).map (λ j=>some (xy rs s j))=(zU .source rs).map (λ j=>some (xy rs s' j)):=by
  simpa only [Prod.mk.injEq] using h
 refine ⟨h2,Ql h3,λ j r hr hs=>?_,λ n hn=>?_⟩
 ·have hm:=Xv hr hs;have:=List.map_inj_left.mp h4 _ hm;simp only [db] at this;unfold xy at this;rw [ax,hr] at this;exact this
 ·have d:=zhn bo ro hn;have h1:=aI h1;rw [<- gc s.turn d,h1,gc s'.turn d]
def Jj {cs cs':Au} (h:cs.map (zB rs)=cs'.map (zB rs)) (b:Nat):zB rs (cs.getD b [])=zB rs (cs'.getD b []):=by
 have:=bh (λ l=>l.getD b (zB rs [])) h;simpa only [ae,ak,Option.getD_map] using this
def JN (c:Av):jT rs (xz c)=(zB rs c).getLastD none:=by
 unfold xz zB;rw [bF,bF,List.getLast?_map];cases c.getLast? <;> rfl
def zc7 (c:Av):jT rs (JE c)=(zB rs c).headD none:=by cases c <;> rfl
def WQ (c:Av) (p:Nat):jT rs (c.getD p none)=(zB rs c).getD p none:=by
 unfold zB;rw [ae,ae,ak];cases c[p]? <;> rfl
def Zq (x:zC):jT rs x=none ↔ x=none:=by cases x <;> simp [jT]
def Zb (c:Av) (i:Nat) (x:zC):zB rs (c.set i x)=(zB rs c).set i (jT rs x):=by
 unfold zB;rw [cv]
 rfl
def VX {c c':Av} (h:zB rs c=zB rs c'):c.length=c'.length:=by
 have:=bh List.length h;simpa [zB] using this
def zcJ {cs cs':Au} (h:cs.map (zB rs)=cs'.map (zB rs)) (i:Nat) {c c':Av} (hc:zB rs c=zB rs c'):(cs.set i c).map (zB rs)=(cs'.set i c').map (zB rs):=by
 rw [cv,cv,h,hc]
def zbm {cs cs':Au} (h:cs.map (zB rs)=cs'.map (zB rs)) (r:Row):qh rs cs r=qh rs cs' r:=by
 unfold qh zz;refine gx λ b _=>?_;rw [JN,JN,Jj h]
def zdc {cs cs':Au} (h:cs.map (zB rs)=cs'.map (zB rs)) (r:Row):qH cs r=qH cs' r:=by
 unfold qH zz;refine gx λ b _=>?_;rw [decide_eq_decide,<- Zq (rs:=rs),<- Zq (rs:=rs) (JE (cs'.getD _ _)),zc7,zc7,Jj h]
def WX {r:Row} {hs:List A9} {fs:Ai} {t t':Int} (ok:r.ok) (h:(r.wd=.source\/r.wd=.drain)->0 < r.pace->t % r.pace=t' % r.pace):z7 r hs fs t side=z7 r hs fs t' side:=by
 obtain ⟨wd,ins,outs,pc,ks⟩:=r;cases wd
 ·have p1:1<=pc:=ok.2.2.1;have e:t % pc=t' % pc:=h (.inl rfl) (show 0 < pc by lia);unfold z7;simp only [e]
 ·have p0:0<=pc:=ok.2.2.1;unfold z7;by_cases z:pc=0
  ·simp [z]
  ·have e:t % pc=t' % pc:=h (.inr rfl) (show 0 < pc by lia);simp only [e]
 all_goals rfl
def zeR {s s':PSt} {r:Row} (h:Alk bs rs s s') (hr:rs[k]?=some r) (hs:fb=none->r.wd=.source):jT rs (zM s k fb).1=jT rs (zM s' k fb).1/\(zM s k fb).2.cells.map (zB rs)=(zM s' k fb).2.cells.map (zB rs):=by
 cases fb with
 | none =>
  refine ⟨?_,h.ce⟩;show some (wx _ _)=some (wx _ _)
  rw [ax,hr];show some (wx r.kinds _)=some (wx r.kinds _)
  unfold wx;rw [h.so k r hr (hs rfl)]
 | some b =>
  have e:=Jj h.ce b.toNat;refine ⟨?_,zcJ h.ce _ ?_⟩
  ·show jT rs (xz (s.cells.getD b.toNat []))=jT rs (xz (s'.cells.getD b.toNat []))
   rw [JN,JN,e]
  ·unfold qI zz;rw [Zb,Zb,e,VX e]
def zfm {s s':PSt} {x x':zC} (h:s.cells.map (zB rs)=s'.cells.map (zB rs)) (hx:jT rs x=jT rs x'):(xZ s x tb).cells.map (zB rs)=(xZ s' x' tb).cells.map (zB rs):=by
 cases tb with
 | none=>exact h
 | some b =>
  refine zcJ h _ ?_;rw [Zb,Zb,hx];unfold zz;rw [Jj h]
def Qt {gs:List A6} {k p i j:Nat} (hk:k < gs.length) (hp:p < (gs.getD k []).length):gAt (gs.set k (ZB (gs.getD k []) p)) i j=gAt gs i j + if i=k/\j=p then 1 else 0:=by
 unfold gAt;by_cases e:k=i
 ·subst e;rw [ae (l:=gs.set _ _),aP hk,aT];unfold ZB;by_cases z:p=j
  ·subst z;rw [ae (l:=List.set _ _ _),aP hp,ap ⟨rfl,rfl⟩]
   rfl
  ·rw [jJ z,ao (λ q=>z q.2.symm)]
   lia
 ·rw [jJ e,ao (λ q=>e q.1.symm)]
  lia
def jU {gs:List A6}:(gs.getD j []).headD 0=gAt gs j 0:=by
 unfold gAt;cases gs.getD j [] <;> rfl
def zgm {s s':PSt} (h:Alk bs rs s s') (w:stWf bs rs s) (w':stWf bs rs s') (ro:∀ r∈rs,r.ok) (k:Nat):Alk bs rs (qq rs s k).1 (qq rs s' k).1/\∀ i j,gAt (qq rs s k).1.gone i j - gAt s.gone i j=gAt (qq rs s' k).1.gone i j - gAt s'.gone i j:=by
 unfold qq;cases hr:rs[k]? with
 | none=>exact ⟨h,λ i j=>by show gAt s.gone i j - _=gAt s'.gone i j - _;rw [d5,d5]⟩
 | some r =>
  have ok:=ro r (af hr);have hk:=(aa.mp hr).1;simp only;rw [<- zbm h.ce,<- zdc h.ce,<- h.si,<- WX (t:=s.turn) (t':=s'.turn) ok λ hw hp=>h.tu _ (.inr ⟨r,af hr,hw,rfl,hp⟩)];cases hc:z7 r (qh rs s.cells r) (qH s.cells r) s.turn (s.sides.getD k 0).toNat with
  | none=>exact ⟨h,λ i j=>by show gAt s.gone i j - _=gAt s'.gone i j - _;rw [d5,d5]⟩
  | some ch =>
   have hsd:=qr (xs:=s.sides) (k:=k) (d:=0) (by rw [w.so.1];exact hk);have sd:=w.so.2 k r _ hr hsd;have sd:wq r (((s.sides.getD k 0).toNat:Nat):Int):=by rw [bI sd.1];exact sd
   obtain ⟨c1,c2,c3,c4,c5,c6⟩:=xM ok (by simp [qh]) (by simp [qH]) sd hc;have fs:qj r ch=none->r.wd=.source:=λ z=>by
    cases e:ch.1 with
    | none=>exact c4 e
    | some j =>
     unfold qj at z;rw [e] at z;have:r.ins[j]?=none:=z;rw [ac (c1 j e)] at this;cases this
   obtain ⟨t1,t2⟩:=zeR h hr fs;obtain ⟨k1,k2,k3⟩:=movedF_keep (r:=r) (st:=s) (k:=k) (ch:=ch);obtain ⟨k1',k2',k3'⟩:=movedF_keep (r:=r) (st:=s') (k:=k) (ch:=ch);have hg0:=qr (xs:=s.gone) (k:=k) (d:=[]) (by rw [w.go.1];exact hk);have hg0':=qr (xs:=s'.gone) (k:=k) (d:=[]) (by rw [w'.go.1];exact hk);have q:=(w.go.2 k r _ hr hg0).1;have q':=(w'.go.2 k r _ hr hg0').1;have G:∀ i j,gAt (jy r s k ch).1.gone i j=gAt s.gone i j + if i=k/\j=jK r ch then 1 else 0:=λ i j=>by
    show gAt ((movedF r s k ch).gone.set k (ZB ((movedF r s k ch).gone.getD k []) (jK r ch))) i j=_
    rw [k3];exact Qt (by rw [w.go.1];exact hk) (by rw [q];exact c6)
   have G':∀ i j,gAt (jy r s' k ch).1.gone i j=gAt s'.gone i j + if i=k/\j=jK r ch then 1 else 0:=λ i j=>by
    show gAt ((movedF r s' k ch).gone.set k (ZB ((movedF r s' k ch).gone.getD k []) (jK r ch))) i j=_
    rw [k3'];exact Qt (by rw [w'.go.1];exact hk) (by rw [q'];exact c6)
   refine ⟨⟨zfm t2 t1,?_,λ j r2 h2 hs=>?_,λ n hn=>?_⟩,λ i j=>by rw [G,G'];lia⟩
   ·show (movedF r s k ch).sides.set k _=(movedF r s' k ch).sides.set k _
    rw [k2,k2',h.si]
   ·have e:=h.so j r2 h2 hs;rw [jU,jU] at e ⊢;rw [G,G',d7,e,<- d7]
   ·show (movedF r s k ch).turn % n=(movedF r s' k ch).turn % n
    rw [k1,k1'];exact h.tu n hn
theorem zdw {s s':PSt} (h:Alk bs rs s s') (w:stWf bs rs s) (w':stWf bs rs s') (ot:zY bs rs) (bo:∀ b∈bs,zH b.1 b.2) (ro:∀ r∈rs,r.ok):∀ m,Alk bs rs (zo rs s m).1 (zo rs s' m).1/\∀ i j,gAt (zo rs s m).1.gone i j - gAt s.gone i j=gAt (zo rs s' m).1.gone i j - gAt s'.gone i j
 | 0=>⟨h,λ i j=>by show gAt s.gone i j - _=gAt s'.gone i j - _;lia⟩
 | m + 1=>by
  obtain ⟨a1,a2⟩:=zdw h w w' ot bo ro m;obtain ⟨b1,b2⟩:=zgm a1 (qY w ot bo ro m) (qY w' ot bo ro m) ro m;refine ⟨b1,λ i j=>?_⟩;have x:=a2 i j;have y:=b2 i j;show gAt (qq rs (zo rs s m).1 m).1.gone i j - _=gAt (qq rs (zo rs s' m).1 m).1.gone i j - _
  lia
def zec {c c':Av} (h:zB rs c=zB rs c') (p:Nat):zB rs (qP c p)=zB rs (qP c' p):=by
 unfold qP;have e:c.getD (p + 1) none=none ↔ c'.getD (p + 1) none=none:=by rw [<- Zq (rs:=rs),<- Zq (rs:=rs) (c'.getD _ _),WQ,WQ,h]
 by_cases z:c.getD (p + 1) none=none
 ·rw [ap z,ap (e.mp z),Zb,Zb,Zb,Zb,WQ,WQ,h]
 ·rw [ao z,ao (λ q=>z (e.mpr q)),h]
theorem zc1 {c c':Av} (h:zB rs c=zB rs c'):∀ m,zB rs (ww c m)=zB rs (ww c' m)
 | 0=>h
 | m + 1=>by
  show zB rs (qP (ww c m) (c.length - 2 - m))=zB rs (qP (ww c' m) (c'.length - 2 - m))
  rw [VX h];exact zec (zc1 h m) _
theorem zbC {cs cs':Au} {t t':Int} (h:cs.map (zB rs)=cs'.map (zB rs)) (ht:∀ b∈bs,t % b.2=t' % b.2):∀ i,i<=bs.length->(qk bs t cs i).map (zB rs)=(qk bs t' cs' i).map (zB rs)
 | 0,_=>h
 | i + 1,hi=>by
  have ih:=zbC h ht i (by lia);have e:t % (bs.getD i (0,1)).2=t' % (bs.getD i (0,1)).2:=ht _ (by rw [ae,ac (by lia)];exact cF _);unfold qk;rw [<- e];by_cases z:t % (bs.getD i (0,1)).2=0
  ·rw [ap z,ap z];refine zcJ ih i ?_;unfold za1;rw [VX (Jj ih i)];exact zc1 (Jj ih i) _
  ·rw [ao z,ao z];exact ih
def zcV {s s':PSt} (h:Alk bs rs s s') (w:stWf bs rs s) (w':stWf bs rs s') (ot:zY bs rs) (bo:∀ b∈bs,zH b.1 b.2) (ro:∀ r∈rs,r.ok):Alk bs rs (passF bs rs s).1 (passF bs rs s').1/\∀ i j,gAt (passF bs rs s).1.gone i j - gAt s.gone i j=gAt (passF bs rs s').1.gone i j - gAt s'.gone i j:=by
 obtain ⟨a1,a2⟩:=zdw h w w' ot bo ro rs.length;refine ⟨⟨zbC a1.ce (λ b hb=>a1.tu _ (.inl ⟨b,hb,rfl⟩)) bs.length (au _),a1.si,a1.so,λ n hn=>?_⟩,a2⟩;show ((zo rs s rs.length).1.turn + 1) % n=((zo rs s' rs.length).1.turn + 1) % n
 rw [d7,a1.tu n hn,<- d7]
theorem zcT {p q:Nat} (h:Alk bs rs (zj bs rs p) (zj bs rs q)) (ot:zY bs rs) (bo:∀ b∈bs,zH b.1 b.2) (ro:∀ r∈rs,r.ok):∀ m,Alk bs rs (zj bs rs (p + m)) (zj bs rs (q + m))/\∀ i j,gAt (zj bs rs (p + m)).gone i j - gAt (zj bs rs p).gone i j=gAt (zj bs rs (q + m)).gone i j - gAt (zj bs rs q).gone i j
 | 0=>⟨h,λ i j=>by show gAt (zj bs rs p).gone i j - _=gAt (zj bs rs q).gone i j - _;lia⟩
 | m + 1=>by
  obtain ⟨a1,a2⟩:=zcT h ot bo ro m;obtain ⟨b1,b2⟩:=zcV a1 (qg ot bo ro _) (qg ot bo ro _) ot bo ro;refine ⟨b1,λ i j=>?_⟩;have x:=a2 i j;have y:=b2 i j;show gAt (passF bs rs (zj bs rs (p + m))).1.gone i j - _=gAt (passF bs rs (zj bs rs (q + m))).1.gone i j - _
  lia
end
def zN (c:Av):List (Int × Int):=c.reverse.filterMap id
def zdX {c:Av} {p:Nat} {x:zC} (h1:c[p]?=some x) (h2:c[p + 1]?=some none):zN ((c.set (p + 1) x).set p none)=zN c:=by
 obtain ⟨hp,e1⟩:=aa.mp h1;obtain ⟨hp2,e2⟩:=aa.mp h2;have ec:c=c.take p ++ x :: none :: c.drop (p + 2):=by
  conv=>lhs;rw [<- eV p c]
  rw [dW hp,e1,dW hp2,e2]
 have lt:(c.take p).length=p:=by rw [aJ];lia
 generalize c.take p=l at ec lt;generalize c.drop (p + 2)=r at ec;subst ec;have s1:((l ++ x :: none :: r).set (p + 1) x).set p none=l ++ none :: x :: r:=by
  rw [eX _ _ (by lia),show p + 1 - l.length=1 by lia];rw [eX _ _ (by lia),show p - l.length=0 by lia]
  rfl
 rw [s1];unfold zN;cases x <;> simp
def zb8 {c:Av} {p:Nat} (h:p + 1 < c.length):zN (qP c p)=zN c:=by
 unfold qP
 split
 ·rename_i e;exact zdX (atD (by lia)) (by rw [atD h,e])
 ·rfl
theorem zaL {c:Av}:∀ k,k<=c.length - 1->zN (ww c k)=zN c
 | 0,_=>rfl
 | k + 1,h=>by
  rw [ww,zb8 (by rw [Qi];lia)];exact zaL k (by lia)
def zb9 (c:Av):zN (za1 c)=zN c:=zaL _ (au _)
def zd0 {c:Av} {x:Int × Int} (h:xz c=some x):zN c=x :: zN (qI c):=by
 have hne:c≠[]:=λ z=>by rw [z] at h;cases h
 obtain ⟨l,y,rfl⟩:∃ l y,c=l ++ [y]:=⟨c.dropLast,c.getLast hne,(List.dropLast_concat_getLast hne).symm⟩;have ey:y=some x:=by simpa [xz] using h
 subst ey;unfold zN qI;rw [show (l ++ [some x]).set ((l ++ [some x]).length - 1) none=l ++ [none] by
  rw [eX _ _ (by simp),show (l ++ [some x]).length - 1 - l.length=0 by simp]
  rfl]
 simp
def zdY {c:Av} {x:Int × Int} (hne:c≠[]) (h:JE c=none):zN (c.set 0 (some x))=zN c ++ [x]:=by
 cases c with
 | nil=>exact absurd rfl hne
 | cons y ys =>
  have ey:y=none:=h;subst ey;unfold zN;simp
def zdZ (c:Av):(zN c).length<=c.length:=by
 unfold zN;exact aZ (List.length_filterMap_le _ _) (by simp)
def vK (q:List A1):Option Int->List A1
 | none=>q
 | some b=>q.set b.toNat (q.getD b.toNat []).tail
def zh6 (q:List A1) (x:Int × Int):Option Int->List A1
 | none=>q
 | some b=>q.set b.toNat (q.getD b.toNat [] ++ [x])
def zh5 (cs:Au) (b:Int):(cs.map zN).getD b.toNat []=zN (zz cs b):=by
 unfold zz;rw [ae,ae,ak];cases cs[b.toNat]? <;> rfl
def zgs {st:PSt} {x:Int × Int} (h:(zM st k fb).1=some x):(zM st k fb).2.cells.map zN=vK (st.cells.map zN) fb/\∀ b,fb=some b->(st.cells.map zN).getD b.toNat []=x :: ((st.cells.map zN).getD b.toNat []).tail:=by
 cases fb with
 | none=>exact ⟨rfl,λ b z=>nomatch z⟩
 | some b =>
  have h:xz (zz st.cells b)=some x:=h;have e:=zd0 h;refine ⟨?_,λ b' z=>?_⟩
  ·show (st.cells.set b.toNat (qI (zz st.cells b))).map zN=(st.cells.map zN).set b.toNat _
   rw [cv,zh5,e]
   rfl
  ·cases z;rw [zh5,e]
   rfl
def zgR {st:PSt} {x:Int × Int} (h:∀ b,tb=some b->zz st.cells b≠[]/\JE (zz st.cells b)=none):(xZ st (some x) tb).cells.map zN=zh6 (st.cells.map zN) x tb:=by
 cases tb with
 | none=>rfl
 | some b =>
  obtain ⟨h1,h2⟩:=h b rfl;show (st.cells.set b.toNat ((zz st.cells b).set 0 (some x))).map zN=(st.cells.map zN).set b.toNat _
  rw [cv,zh5,zdY h1 h2]
theorem zad (bs:A1) (t:Int) (cs:Au):∀ i,(qk bs t cs i).map zN=cs.map zN
 | 0=>rfl
 | i + 1=>by
  rw [qk]
  split
  ·rw [cv,zb9];have ih:=zad bs t cs i;generalize qk bs t cs i=ds at ih ⊢;rw [<- ih];cases e:ds[i]? with
   | none=>rw [cu (by rw [ah];exact cc.mp e)]
   | some c =>
    obtain ⟨hi,ec⟩:=aa.mp e;rw [ae,e];refine List.ext_getElem? λ j=>?_;by_cases hj:i=j
    ·subst hj;rw [aP (by rw [ah];exact hi),ak,e]
     rfl
    ·rw [ba hj]
  ·exact zad bs t cs i
def atC (cs:Au) (b p:Nat):zC:=(cs.getD b []).getD p none
def qE {α:Type} {l:List α} {i j:Nat} {x d:α}:(l.set i x).getD j d=if i=j/\i < l.length then x else l.getD j d:=by
 rw [ae,ae];by_cases e:i=j
 ·subst e;by_cases h:i < l.length
  ·rw [aP h,ap ⟨rfl,h⟩];rfl
  ·rw [ao (λ z=>h z.2),cu (by lia)]
 ·rw [ba e,ao (λ z=>e z.1)]
def XT (c:Av):xz c=c.getD (c.length - 1) none:=by
 unfold xz;rw [bF,fg,ae]
def Uq (cs:Au):Prop:=∀ b p b' p' x,atC cs b p=some x->atC cs b' p'=some x->b=b'/\p=p'
def GvL (cs:Au) (gs:List A6):Prop:=∀ b p x,atC cs b p=some x->x.2 < gAt gs x.1.toNat 0
def RowM (c c':Av):Prop:=∃ φ:Nat->Nat,(∀ q y,c'.getD q none=some y->c.getD (φ q) none=some y)/\∀ q q' y y',c'.getD q none=some y->c'.getD q' none=some y'->φ q=φ q'->q=q'
section
variable {cs:Au} {gs:List A6} {c c' d:Av}
def RowM.refl:RowM c c:=⟨id,λ _ _ h=>h,λ _ _ _ _ _ _ h=>h⟩
def RowM.trans (h:RowM c c') (h':RowM c' d):RowM c d:=by
 obtain ⟨f,f1,f2⟩:=h;obtain ⟨g,g1,g2⟩:=h';exact ⟨λ q=>f (g q),λ q y e=>f1 _ _ (g1 q y e),λ q q' y y' e e' z=>g2 q q' y y' e e' (f2 _ _ y y' (g1 q y e) (g1 q' y' e') z)⟩
def RowM.take (p:Nat):RowM c (c.set p none):=⟨id,λ q y e=>by
 rw [qE] at e
 split at e
 ·cases e
 ·exact e,λ _ _ _ _ _ _ h=>h⟩
def RowM.mvS (p:Nat):RowM c (qP c p):=by
 unfold qP
 split
 ·have key:∀ q y,((c.set (p + 1) (c.getD p none)).set p none).getD q none=some y->q≠p/\c.getD (if q=p + 1 then p else q) none=some y:=λ q y e=>by
   rw [qE] at e
   split at e
   ·cases e
   ·rename_i h1;rw [qE] at e
    split at e
    ·rename_i h2;rw [ap h2.1.symm];exact ⟨by lia,e⟩
    ·rename_i h2;by_cases e1:q=p + 1
     ·refine absurd e ?_;rw [ae,bW (by have:¬ p + 1 < c.length:=λ z=>h2 ⟨e1.symm,z⟩;lia)];exact λ z=>nomatch z
     ·rw [ao e1];refine ⟨λ e2=>h1 ⟨e2.symm,?_⟩,e⟩;rw [br];refine c8 λ z=>?_;rw [ae,bW (by lia)] at e;cases e
  exact ⟨λ q=>if q=p + 1 then p else q,λ q y e=>(key q y e).2,λ q q' y y' e e' z=>by
   have n1:=(key q y e).1;have n2:=(key q' y' e').1;have z:(if q=p + 1 then p else q)=if q'=p + 1 then p else q':=z
   split at z <;> split at z <;> lia⟩
 ·exact .refl
theorem RowM.mvG:∀ k,RowM c (ww c k)
 | 0=>.refl
 | k + 1=>(RowM.mvG k).trans (.mvS _)
def vB {b b' p:Nat}:atC (cs.set b c) b' p=if b=b'/\b < cs.length then c.getD p none else atC cs b' p:=by
 unfold atC;rw [qE]
 split <;> rfl
def Uq.row (h:Uq cs) {b:Nat} (m:RowM (cs.getD b []) c'):Uq (cs.set b c'):=by
 obtain ⟨f,f1,f2⟩:=m;intro b1 p1 b2 p2 x e1 e2;rw [vB] at e1 e2
 split at e1 <;> split at e2
 ·rename_i h1 h2;obtain ⟨rfl,_⟩:=h1;obtain ⟨rfl,_⟩:=h2;exact ⟨rfl,f2 _ _ x x e1 e2 (h b _ b _ x (f1 _ _ e1) (f1 _ _ e2)).2⟩
 ·rename_i h1 h2;obtain ⟨rfl,l⟩:=h1;obtain ⟨e3,_⟩:=h b _ b2 p2 x (f1 _ _ e1) e2;exact absurd ⟨e3,l⟩ h2
 ·rename_i h1 h2;obtain ⟨rfl,l⟩:=h2;obtain ⟨e3,_⟩:=h b1 p1 b _ x e1 (f1 _ _ e2);exact absurd ⟨e3.symm,l⟩ h1
 ·exact h _ _ _ _ x e1 e2
def GvL.row (h:GvL cs gs) {b:Nat} (m:RowM (cs.getD b []) c'):GvL (cs.set b c') gs:=by
 obtain ⟨f,f1,_⟩:=m;intro b1 p1 x e1;rw [vB] at e1
 split at e1
 ·exact h b _ x (f1 _ _ e1)
 ·exact h _ _ x e1
def Uq.put (h:Uq cs) {x:Int × Int} (no:∀ b p,atC cs b p≠some x) (b:Nat):Uq (cs.set b ((cs.getD b []).set 0 (some x))):=by
 have key:∀ b1 p1 y,atC (cs.set b ((cs.getD b []).set 0 (some x))) b1 p1=some y->(y=x/\b1=b/\p1=0)\/atC cs b1 p1=some y:=λ b1 p1 y e=>by
  rw [vB] at e
  split at e
  ·rename_i h1;obtain ⟨rfl,_⟩:=h1;rw [qE] at e
   split at e
   ·rename_i h2;exact .inl ⟨(aI e).symm,rfl,h2.1.symm⟩
   ·exact .inr e
  ·exact .inr e
 intro b1 p1 b2 p2 y e1 e2;rcases key _ _ _ e1 with ⟨z1,z2,z3⟩|e1 <;> rcases key _ _ _ e2 with ⟨y1,y2,y3⟩|e2
 ·exact ⟨by lia,by lia⟩
 ·exact absurd (z1 ▸ e2) (no _ _)
 ·exact absurd (y1 ▸ e1) (no _ _)
 ·exact h _ _ _ _ y e1 e2
theorem zhE {bs:A1} {t:Int} (h:Uq cs) (g:GvL cs gs):∀ i,Uq (qk bs t cs i)/\GvL (qk bs t cs i) gs
 | 0=>⟨h,g⟩
 | i + 1=>by
  obtain ⟨h1,h2⟩:=zhE (bs:=bs) (t:=t) h g i;rw [qk]
  split
  ·exact ⟨h1.row (RowM.mvG _),h2.row (RowM.mvG _)⟩
  ·exact ⟨h1,h2⟩
end
section
variable {bs:A1} {rs:At} {s:PSt}
def ziV (w:stWf bs rs s) (ro:∀ r∈rs,r.ok) (h:Uq s.cells) (g:GvL s.cells s.gone) (k:Nat):Uq (qq rs s k).1.cells/\GvL (qq rs s k).1.cells (qq rs s k).1.gone:=by
 have mono:=XZ rs s k;unfold qq at mono ⊢;cases hr:rs[k]? with
 | none=>exact ⟨h,g⟩
 | some r =>
  rw [hr] at mono;have ok:=ro r (af hr);have hk:=(aa.mp hr).1;simp only at mono ⊢;cases hc:z7 r (qh rs s.cells r) (qH s.cells r) s.turn (s.sides.getD k 0).toNat with
  | none=>exact ⟨h,g⟩
  | some ch =>
   rw [hc] at mono;simp only at mono ⊢;have sd:=w.so.2 k r _ hr (qr (d:=0) (by rw [w.so.1];exact hk));have sd':wq r ((s.sides.getD k 0).toNat:Int):=by rw [bI sd.1];exact sd
   obtain ⟨c1,_,_,c4,_,c6⟩:=xM ok (by simp [qh]) (by simp [qH]) sd' hc;have hgk:k < s.gone.length:=by rw [w.go.1];exact hk
   have gl:=(w.go.2 k r _ hr (qr (xs:=s.gone) (d:=[]) hgk)).1;have gN:(jy r s k ch).1.gone=s.gone.set k (ZB (s.gone.getD k []) (jK r ch)):=by
    show (movedF r s k ch).gone.set k (ZB ((movedF r s k ch).gone.getD k []) (jK r ch))=_
    rw [movedF_keep.2.2]
   have tk:Uq (zM s k (qj r ch)).2.cells/\(∀ b p x,atC (zM s k (qj r ch)).2.cells b p=some x->atC s.cells b p=some x)/\∀ x,(zM s k (qj r ch)).1=some x->(∀ b p,atC (zM s k (qj r ch)).2.cells b p≠some x)/\x.2 < gAt (jy r s k ch).1.gone x.1.toNat 0:=by
    cases e:qj r ch with
    | none =>
     have hs:r.wd=.source:=by
      cases e1:ch.1 with
      | none=>exact c4 e1
      | some j =>
       unfold qj at e;rw [e1] at e;simp at e;have:=c1 j e1
       lia
     refine ⟨h,λ _ _ _ z=>z,λ x ex=>?_⟩;have ex:((k:Int),(s.gone.getD k []).headD 0)=x:=aI ex;subst ex;refine ⟨λ b p z=>?_,?_⟩
     ·have:=g b p _ z;rw [jU] at this;simp only [ax] at this
      lia
     ·rw [gN,jU];simp only [ax];have cp:jK r ch=0:=by
       have:(qU r).length=1:=by
        have l:=wE ok;unfold Row.ok at ok;rw [hs] at ok;unfold qU;rw [bd,ok.1];obtain ⟨o,ho⟩:=ok.2.1;rw [ho]
        rfl
       lia
      rw [cp,Qt hgk (by rw [gl];lia),ap ⟨rfl,rfl⟩]
      lia
    | some b =>
     have inn:∀ b1 p1 x,atC (s.cells.set b.toNat (qI (zz s.cells b))) b1 p1=some x->atC s.cells b1 p1=some x:=λ b1 p1 x z=>by
      rw [vB] at z
      split at z
      ·rename_i h1;obtain ⟨rfl,_⟩:=h1;unfold qI at z;rw [qE] at z
       split at z
       ·cases z
       ·exact z
      ·exact z
     refine ⟨h.row (RowM.take _),inn,λ x ex=>?_⟩;have ex:xz (zz s.cells b)=some x:=ex;rw [XT] at ex;have at0:atC s.cells b.toNat ((zz s.cells b).length - 1)=some x:=ex;refine ⟨λ b1 p1 z=>?_,cY (g _ _ x at0) (mono _ _)⟩;obtain ⟨e1,e2⟩:=h _ _ _ _ x (inn _ _ _ z) at0;subst e1 e2;have hb:b.toNat < s.cells.length:=c8 λ y=>by
      unfold atC at at0;rw [ae (l:=s.cells),bW (by lia)] at at0;simp at at0
     have hl:(zz s.cells b).length - 1 < (zz s.cells b).length:=c8 λ y=>by
      have:(zz s.cells b).length=0:=by lia
      rw [ae,bW (by lia)] at ex;cases ex
     have z:atC (s.cells.set b.toNat (qI (zz s.cells b))) b.toNat ((zz s.cells b).length - 1)=some x:=z;rw [vB,ap ⟨rfl,hb⟩] at z;unfold qI at z;rw [qE,ap ⟨rfl,hl⟩] at z;cases z
   obtain ⟨u1,u2,u3⟩:=tk;have up:∀ b p x,atC s.cells b p=some x->x.2 < gAt (jy r s k ch).1.gone x.1.toNat 0:=λ b p x z=>cY (g b p x z) (mono _ _);show Uq (movedF r s k ch).cells/\GvL (movedF r s k ch).cells (jy r s k ch).1.gone
   unfold movedF;cases xO r ch with
   | none=>exact ⟨u1,λ b p x z=>up b p x (u2 b p x z)⟩
   | some b =>
    cases ex:(zM s k (qj r ch)).1 with
    | none=>exact ⟨u1.row (RowM.take 0),λ b1 p1 x z=>by
      change atC ((zM s k (qj r ch)).2.cells.set b.toNat ((zz (zM s k (qj r ch)).2.cells b).set 0 none)) b1 p1=some x at z;rw [vB] at z
      split at z
      ·rw [qE] at z
       split at z
       ·cases z
       ·exact up _ _ x (u2 _ _ x z)
      ·exact up _ _ x (u2 _ _ x z)⟩
    | some x =>
     obtain ⟨no,lx⟩:=u3 x ex;refine ⟨u1.put no b.toNat,λ b1 p1 y z=>?_⟩;change atC ((zM s k (qj r ch)).2.cells.set b.toNat ((zz (zM s k (qj r ch)).2.cells b).set 0 (some x))) b1 p1=some y at z;rw [vB] at z
     split at z
     ·rw [qE] at z
      split at z
      ·cases z;exact lx
      ·exact up _ _ y (u2 _ _ y z)
     ·exact up _ _ y (u2 _ _ y z)
theorem zdt (w:stWf bs rs s) (ot:zY bs rs) (bo:∀ b∈bs,zH b.1 b.2) (ro:∀ r∈rs,r.ok) (h:Uq s.cells) (g:GvL s.cells s.gone):∀ m,Uq (zo rs s m).1.cells/\GvL (zo rs s m).1.cells (zo rs s m).1.gone
 | 0=>⟨h,g⟩
 | m + 1=>by
  obtain ⟨h1,g1⟩:=zdt w ot bo ro h g m;exact ziV (qY w ot bo ro m) ro h1 g1 m
theorem zcS (ot:zY bs rs) (bo:∀ b∈bs,zH b.1 b.2) (ro:∀ r∈rs,r.ok):∀ n,Uq (zj bs rs n).cells/\GvL (zj bs rs n).cells (zj bs rs n).gone
 | 0=>by
  have no:∀ b p,atC (zj bs rs 0).cells b p=none:=λ b p=>by
   show ((bs.map λ b=>List.replicate b.1.toNat (none:zC)).getD b []).getD p none=none
   rw [ae,ae,ak];cases bs[b]? with
   | none=>rfl
   | some y =>
    show ((List.replicate y.1.toNat (none:zC))[p]?).getD none=none
    rw [dh]
    split <;> rfl
  exact ⟨λ b p _ _ x e=>absurd ((no b p).symm.trans e) (λ z=>nomatch z),λ b p x e=>absurd ((no b p).symm.trans e) (λ z=>nomatch z)⟩
 | n + 1=>by
  obtain ⟨h,g⟩:=zcS ot bo ro n;obtain ⟨h1,g1⟩:=zdt (qg ot bo ro n) ot bo ro h g rs.length;exact zhE h1 g1 _
end
def zgh {n:Nat} (h:n<=30000):n < sizeLine:=cW h (by decide)
def kW (x:Int × Int):List Key:=[.inl x.1,.inl x.2]
def ziz {x y:Int × Int} (h:kW x=kW y):x=y:=by
 obtain ⟨a,b⟩:=x;obtain ⟨c,d⟩:=y;simp only [kW,List.cons.injEq,Sum.inl.injEq,and_true] at h;rw [h.1,h.2]
def queue_mem {c:Av} {x:Int × Int}:x∈zN c ↔ some x∈c:=by
 unfold zN;rw [dU];constructor
 ·rintro ⟨y,h1,h2⟩;have h2:y=some x:=h2;rw [<- h2];exact List.mem_reverse.mp h1
 ·exact λ h=>⟨some x,List.mem_reverse.mpr h,rfl⟩
def flat_mem {cs:Au} {x:Int × Int}:x∈(cs.map zN).flatten ↔ ∃ c∈cs,some x∈c:=by
 rw [List.mem_flatten];constructor
 ·rintro ⟨l,h1,h2⟩;obtain ⟨c,h3,rfl⟩:=aO.mp h1;exact ⟨c,h3,queue_mem.mp h2⟩
 ·rintro ⟨c,h1,h2⟩;exact ⟨zN c,aO.mpr ⟨c,h1,rfl⟩,queue_mem.mpr h2⟩
def zd1 (om:As) (k:List Key) (v:V):(vI om k v).length<=om.length + 1:=by
 unfold vI
 split <;> simp
structure LayD (H:Hp) (om:As) (seen:Int × Int->Prop) (full:Au):Prop where
 n:∀ x,xn om (kW x)=none->¬ seen x
 s:∀ x v,xn om (kW x)=some v->∃ (t:Addr) (b p:Nat) (c:Av),v=.ref t/\H t=some (.tup [.int b,.int p])/\full[b]?=some c/\c[p]?=some (some x)
section
variable {H H':Hp} {om:As} {seen seen':Int × Int->Prop} {full:Au}
def LayD.same (h:LayD H om seen full) (s:Same H H'):LayD H' om seen full:=⟨h.n,λ x v e=>by
 obtain ⟨t,b,p,c,e1,e2,e3⟩:=h.s x v e;exact ⟨t,b,p,c,e1,s _ _ e2,e3⟩⟩
def LayD.less (h:LayD H om seen full) (s:∀ x,seen' x->seen x):LayD H om seen' full:=⟨λ x e z=>h.n x e (s x z),h.s⟩
def LayD.put (h:LayD H om seen full) {D t:Addr} {b p:Nat} {c:Av} {x:Int × Int} (hD:H D=some (.dT om)) (ht:H t=some (.tup [.int b,.int p])) (hc:full[b]?=some c) (hx:c[p]?=some (some x)):LayD (upd H D (.dT (vI om (kW x) (.ref t)))) (vI om (kW x) (.ref t)) (λ y=>seen y\/y=x) full:=by
 have ne:∀ u xs,H u=some (.tup xs)->u≠D:=λ u xs hu z=>by rw [z,hD] at hu;cases hu
 refine ⟨λ y e z=>?_,λ y v e=>?_⟩
 ·rw [zaj] at e
  split at e
  ·cases e
  ·rename_i hn;rcases z with z|z
   ·exact h.n y e z
   ·exact hn (by rw [z])
 ·rw [zaj] at e
  split at e
  ·rename_i hn;cases e;rw [ziz hn];exact ⟨t,b,p,c,rfl,by rw [oC (ne t _ ht)];exact ht,hc,hx⟩
  ·obtain ⟨t',b',p',c',e1,e2,e3⟩:=h.s y v e;exact ⟨t',b',p',c',e1,by rw [oC (ne t' _ e2)];exact e2,e3⟩
end
def J9 (cs:Au) (i j:Nat) (x:Int × Int):Prop:=x∈((cs.take i).map zN).flatten\/∃ c,cs[i]?=some c/\some x∈c.take j
def zdI {cs:Au} {c:Av} {x:Int × Int} (h:cs[i]?=some c) (z:x∈((cs.take (i + 1)).map zN).flatten):J9 cs i c.length x:=by
 rw [aH,h,aV,List.flatten_append] at z;rcases aE.mp z with z|z
 ·exact .inl z
 ·refine .inr ⟨c,h,?_⟩;rw [aM];have z:x∈(zN c ++ []):=z;rw [bT] at z;exact queue_mem.mp z
def zi6 (a:Ad):Sp:=λ vs H Q _=>∃ (y:Addr) (n:SN) (st:PSt),vs=[.ref y]/\StO a H y n st/\st.cells.length<=24/\(∀ c∈st.cells,c.length<=6)/\∀ D om H',Same H H'->H D=none->H' D=some (.dT om)->LayD H' om (λ x=>x∈(st.cells.map zN).flatten) st.cells->Q (.ref D) H'
theorem JD (T:Txt K mg a):Cal P w K mg base "cells_by_ware" 1 ["state"] [] (zi6 a):=T.kj.cal λ F=>by
 refine F.okx QF ?_ ?_
 ·walk_at "i"
 walk_at "j";refine oE3 h λ y n st o8=>oA5 o8 λ oi so l24 l6 k=>?_;clear o8 h;subst oi;have hc:=so.hc;have lc:n.acs.length=st.cells.length:=by rw [hc.len,zV,ah]
 walk_at "T";refine ⟨_,(zh (zu 1 QF.nd zfp)  (qG (qB qX rfl (qS (za (zm (pq 0) rfl) zb)) (wv (n:=2) rfl (qc (qp 2 QF.nd) (qc (qp 3 QF.nd) xf)))  (zd (qB qX rfl (qS (za (pq 3) zb)) (wv (n:=2) rfl (qc (qp 4 QF.nd) (qc (qp 5 QF.nd) xf)))  (zd (zF (zl vj (pq 5) zA (zq _))  (zd (zgP (zda hr) (pq 1) (pq 5) (jn (za (pq 2) (za (pq 4) zb))) rfl))  zp)))))  (zd (zk (pq 1))))),?_⟩;left;intro D hD;have s1:=zf (o:=.dT []) hD;have hD1:upd H D (.dT []) D=some (.dT []):=oB;generalize upd H D (.dT [])=H1 at s1 hD1 ⊢;have ld0:LayD H1 [] (J9 st.cells 0 0) st.cells:=⟨λ x _ z=>by
  rcases z with z|⟨c,_,z⟩
  ·simp at z
  ·simp at z,λ x v e=>by simp [xn] at e⟩
 have keep:∀ {H':Hp} {om:As} {o:HO},Same H H'->Same H (upd H' D o):=λ s b u hb=>by
  rw [oC (oE hb hD)];exact s b u hb
 refine cut (λ σ' H'=>∃ (v2 v3 v4 v5:Aq) (om:As),σ'=[some (.ref y),some (.ref D),v2,v3,v4,v5]/\Same H H'/\H' D=some (.dT om)/\LayD H' om (λ x=>x∈(st.cells.map zN).flatten) st.cells) ?_ ?_
 ·walk_at "e";exists ra (s1 _ _ so.hy) T.ad T.gM rfl ?_;refine iE2 n.lc _ (iA3 rfl (s1 _ _ hc.out) ?_);refine XR (K:=K) (a:=n.lc) (xs:=n.acs.map V.ref) (λ i σ H'=>∃ (v2 v3 v4 v5:Aq) (om:As),σ=[some (.ref y),some (.ref D),v2,v3,v4,v5]/\Same H H'/\H' D=some (.dT om)/\LayD H' om (λ x=>x∈((st.cells.take i).map zN).flatten) st.cells/\om.length<=6 * i) (iE5 _ _ _ _ ([]) (iA5 rfl s1 hD1 (ld0.less λ x z=>by simp at z) (au _))) (λ i σ H' _ h=>by obtain ⟨_,_,_,_,_,_,s,_⟩:=h;exact SqL.of (s _ _ hc.out)) ?_ ?_
  ·intro i x t σ H2 hi ht oj;refine oE5 oj λ v2 v3 v4 v5 om o8=>oA5 o8 λ oi s2 hD2 ld2 lk2=>?_;ext;rw [ak,am] at hi;obtain ⟨cb,hcb,rfl⟩:=hi;have hil:i < st.cells.length:=by rw [<- lc];exact (aa.mp hcb).1
   obtain ⟨c,ec⟩:∃ c,st.cells[i]?=some c:=⟨_,ac hil⟩;obtain ⟨vs,hvs,rvs⟩:=hc.g i cb _ hcb (show (zV st.cells)[i]?=some (c.map zX) by rw [zV,ak,ec];rfl);have lv:vs.length=c.length:=by rw [rvs.len,ah]
   have c6:=l6 c (af ec);have st2:=zf (o:=.tup [.int i,.ref cb]) ht;refine un2 oB ?_;have s3:=s2.trans st2;have hD3:=st2 _ _ hD2;have ld3:=ld2.same st2;generalize upd H2 t (.tup [.int i,.ref cb])=H3 at s3 hD3 ld3 ⊢;clear ld2 hD2 s2 st2 ht;walk_at "e";exists iE2 cb _ (iA3 rfl (s3 _ _ hvs) ?_);refine XR (K:=K) (a:=cb) (xs:=vs) (λ j σ H'=>∃ (v4 v5:Aq) (om:As),σ=[some (.ref y),some (.ref D),some (.int i),some (.ref cb),v4,v5]/\Same H H'/\H' D=some (.dT om)/\LayD H' om (J9 st.cells i j) st.cells/\om.length<=6 * i + j) ⟨_,_,om,rfl,s3,hD3,ld3.less λ x z=>by
    rcases z with z|⟨_,_,z⟩
    ·exact z
    ·simp at z,lk2⟩ (λ i σ H' _ h=>by obtain ⟨_,_,_,_,s,_⟩:=h;exact SqL.of (s _ _ hvs)) ?_ ?_
   ·clear ld3 hD3 s3 lk2;intro j v t σ H4 hj ht oj;refine oE3 oj λ v4 v5 om o8=>oA5 o8 λ oi s4 hD4 ld4 lk4=>?_;ext;obtain ⟨d,hd,rv⟩:=rvs.at hj;rw [ak,am] at hd;obtain ⟨wr,hwr,rfl⟩:=hd;have hjl:j < c.length:=(aa.mp hwr).1;have sn:∀ x,J9 st.cells i (j + 1) x->J9 st.cells i j x\/wr=some x:=λ x z=>by
     rcases z with z|⟨c',e,z⟩
     ·exact .inl (.inl z)
     ·rw [ec] at e;cases e;rw [aH,hwr] at z;rcases aE.mp z with z|z
      ·exact .inl (.inr ⟨c,ec,z⟩)
      ·exact .inr (aw.mp z).symm
    have st4:=zf (o:=.tup [.int j,v]) ht;refine un2 oB ?_;have s5:=s4.trans st4;have hD5:=st4 _ _ hD4;have ld5:=ld4.same st4;generalize upd H4 t (.tup [.int j,v])=H5 at s5 hD5 ld5 ⊢;clear ld4 hD4 s4 st4 ht;cases wr with
    | none =>
     have rv:Rep H (z8 H) v .non:=rv;cases rv;left;exact iE3 _ _ om (iA5 rfl s5 hD5 (ld5.less λ x z=>(sn x z).elim id (λ z=>nomatch z)) (by lia))
    | some x =>
     obtain ⟨tx,rfl,htx⟩:=wI (b:=x) rv;left;intro t6 ht6;have st6:=zf (o:=.tup [.int i,.int j]) ht6;have s6:=s5.trans st6;have hD6:=st6 _ _ hD5;have ld6:=ld5.same st6;have ht6':upd H5 t6 (.tup [.int i,.int j]) t6=some (.tup [.int i,.int j]):=oB;generalize upd H5 t6 (.tup [.int i,.int j])=H6 at s6 hD6 ld6 ht6' ⊢;refine iE2 D _ (iA3 rfl (DPut.t (k:=kW x) hD6 (s6 _ _ htx) (zgh (by lia))) ?_);have pl:=zd1 om (kW x) (.ref t6);refine iE3 _ _ _ (iA5 rfl (keep (om:=om) s6) oB ((ld6.put hD6 ht6' ec hwr).less λ z hz=>(sn z hz).imp id (λ e=>by cases e;rfl)) (by lia))
   ·intro σ H4 oj;refine oE3 oj λ v4 v5 om o8=>oA5 o8 λ oi s4 hD4 ld4 lk4=>?_;ext;rw [lv] at ld4 lk4;exact iE5 _ _ _ _ om (iA5 rfl s4 hD4 (ld4.less λ x z=>zdI ec z) (by lia))
  ·intro σ H2 oj;refine oE5 oj λ v2 v3 v4 v5 om o8=>oA5 o8 λ oi s2 hD2 ld2 lk2=>?_;ext;rw [ah,lc,aM] at ld2;exact iE5 _ _ _ _ om (iA4 rfl s2 hD2 ld2)
 intro σ' H2 oj;refine oE5 oj λ v2 v3 v4 v5 om o8=>oA4 o8 λ oi s2 hD2 ld2=>?_;ext;left;exact k D om _ s2 hD hD2 ld2
inductive Org|no|kept (b p:Nat)|new (k:Nat) (m:Int)
def zcd:Org->D
 | .no=>.non
 | .kept b p=>.tup [.str "kept",.int b,.int p]
 | .new k m=>.tup [.str "new",.int k,.int m]
def Vi (s0:PSt):zC->Org->Prop
 | none,.no=>True
 | some x,.kept b p=>∃ c,s0.cells[b]?=some c/\c[p]?=some (some x)
 | some x,.new k m=>x.1=k/\x ∉ (s0.cells.map zN).flatten/\m=x.2 - (s0.gone.getD k []).headD 0/\∃ g0 gs,s0.gone[k]?=some (g0 :: gs)
 | _,_=>False
def zf8 (s0:PSt) (wr:zC):Prop:=∀ x,wr=some x->∃ (k:Nat) (g0:Int) (gs:A6),x.1=k/\s0.gone[k]?=some (g0 :: gs)
def zeX (a:Ad):Sp:=λ vs H Q _=>∃ (vw:V) (D y:Addr) (n:SN) (s0:PSt) (wr:zC) (om:As) (p:A5),vs=[vw,.ref D,.ref y]/\Rep H p vw (zX wr)/\H D=some (.dT om)/\LayD H om (λ x=>x∈(s0.cells.map zN).flatten) s0.cells/\StO a H y n s0/\zf8 s0 wr/\∀ v H' o,Same H H'->Rep H' (New H) v (zcd o)->Vi s0 wr o->Q v H'
theorem zbx (T:Txt K mg a):Cal P w K mg base "origin_of" 1 ["ware","lay","before"] [] (zeX a):=T.ml.cal λ F=>by
 refine F.okx Vx ?_ ?_
 ·walk_at "i"
 walk_at "j";refine oE8 h λ vw D y n s0 wr om p o8=>oA7 o8 λ oi rv hD ld so ca k=>?_;clear o8 h;subst oi;walk_at "T";refine ⟨_,(zh (zF (zl ja (pq 0) zA (zq _))  (zd (zk zA))  zp)  (zh (zF (zfi (zih (zda hr) (pq 0) (pq 1)) (by with_unfolding_all rfl))  (zd (zk (jn (za zO (za (zr (zcU (zda hr) (pq 1) (pq 0) (λ _ _=>rfl)) ze) (za (zr (zcU (zda hr) (pq 1) (pq 0) (λ _ _=>rfl)) ze) zb))))))  zp)  (zd (zk (jn (za zO (za (zr (pq 0) ze) (za (zJ vn (zr (pq 0) ze) (zr (zr (zm (pq 2) rfl) (zr (pq 0) ze)) ze)) zb)))))))),?_⟩;left;cases wr with
 | none =>
  have rv:Rep H p vw .non:=rv;cases rv;left;exact k _ _ .no (Same.refl _) .non trivial
 | some x =>
  obtain ⟨tx,rfl,htx⟩:=wI (b:=x) rv;exists iE2 D _ (iA3 rfl (DGet.t (k:=kW x) hD htx) ?_);cases ev:xn om (kW x) with
  | some v =>
   refine oE4 (ld.s x v ev) λ t b q c o8=>oA4 o8 λ oi ht e1 e2=>?_;clear o8;subst oi;exists iE2 D (.ref t) (iA3 rfl (by rw [<- ev];exact DGet.t (k:=kW x) hD htx) (oG ht at0 ?_));refine iE2 D (.ref t) (iA3 rfl (by rw [<- ev];exact DGet.t (k:=kW x) hD htx) (oG ht (show atI _ 1=some (.int q) from rfl) ?_));intro t2 ht2;exact k _ _ (.kept b q) (zf ht2) (Reps.mkT (vs:=[.str "kept",.int b,.int q]) (.cons .str (.cons .int (.cons .int .nil))) ht2 oB) ⟨c,e1,e2⟩
  | none =>
   refine oE3 (ca x rfl) λ kk g0 gs o8=>oA2 o8 λ ek eg=>?_;clear o8;obtain ⟨bG,hbG,hgG⟩:=vv so.hg eg;have hmap:(n.ags.map V.ref)[kk]?=some (.ref bG):=by rw [ak,hbG];rfl
   exists oG htx at0 (oG htx (show atI _ 1=some (.int x.2) from rfl) ?_);refine ra so.hy T.ad T.gP rfl ?_;refine oG htx at0 ?_;rw [ek];refine zt (SqL.of so.hg.out) (zD hmap) (zt (SqL.of hgG) at0 ?_);left;intro t2 ht2;refine k _ _ (.new kk (x.2 - g0)) (zf ht2) (Reps.mkT (vs:=[.str "new",.int kk,.int (x.2 - g0)]) (.cons .str (.cons .int (.cons .int .nil))) ht2 oB) (iA4 ek (ld.n x ev) ?_ (iE2 g0 gs eg));rw [ae,eg]
   rfl
def zaf (s0 s1:PSt) (oss:List (List Org)):Prop:=oss.length=s1.cells.length/\∀ (i:Nat) os c,oss[i]?=some os->s1.cells[i]?=some c->os.length=c.length/\∀ (j:Nat) o wr,os[j]?=some o->c[j]?=some wr->Vi s0 wr o
def zcX (oss:List (List Org)):D:=.lst (oss.map λ os=>.lst (os.map zcd))
def zdE (a:Ad):Sp:=λ vs H Q _=>∃ (y0 y1:Addr) (n0 n1:SN) (s0 s1:PSt),vs=[.ref y0,.ref y1]/\StO a H y0 n0 s0/\StO a H y1 n1 s1/\s0.cells.length<=24/\(∀ c∈s0.cells,c.length<=6)/\s1.cells.length<=24/\(∀ c∈s1.cells,c.length<=6/\∀ wr∈c,zf8 s0 wr)/\∀ l H' oss,Same H H'->Rep H' (New H) (.ref l) (zcX oss)->zaf s0 s1 oss->Q (.ref l) H'
def V9 (T:Txt K mg a):Cal P w K mg base "origins_of" 2 ["before","after"] [] (zdE a):=T.lS.cal λ F=>by
 refine F.okx X8 ?_ ?_
 ·walk_at "i"
 walk_at "j";refine oE6 h λ y0 y1 n0 n1 s0 s1 o8=>oA8 o8 λ oi so0 so1 l24 l6 m24 m6 k=>?_;clear o8 h;subst oi;walk_at "T";refine ⟨_,(zh (zfj (i:=2) X8.nd rfl (Or.inr rfl) ‹(pq 0) zb›)  (zh (zu 3 X8.nd (zL zb))  (qG (qB qX rfl (qo (zm (pq 1) rfl)) (qp 4 X8.nd)  (zd (zG (qC aq az ay zQ (pq 3) (za (jI (vars:=["ware"]) (caps:=[2,0]) (N:=["ware","lay","before"]) (ON:=["before","after","lay","origins","cells"]) (osc:=zg xD) rfl rfl (by right) rfl rfl (qo (pq 4)) (λ _ _ _ _=>(qp 0 (show (["ware","lay","before"]:A8).Nodup from by symm))) (λ _ _ _ _=>ql) (λ _ _ _ _=>(ZU hr (za (pq 0) (za (pq 1) (za (pq 2) zb)))))) zb)))))  (zd (zk (pq 3)))))),?_⟩;exists uc (JD T).mono (iE3 y0 n0 s0 (iA5 rfl so0 l24 l6 (λ D om H1 s1' nD hD ld=>?_)));left;intro l hl;have sl:=zf (o:=.lst []) hl;have s2:=s1'.trans sl;have nl0:=zw s1' hl;have hD2:=sl _ _ hD;have ld2:=ld.same sl;have hl2:upd H1 l (.lst []) l=some (.lst []):=oB;generalize upd H1 l (.lst [])=H2 at s2 hD2 ld2 hl2 ⊢;have hc:=so1.hc;have lc:n1.acs.length=s1.cells.length:=by rw [hc.len,zV,ah]
 clear ld hD s1' sl;exists cut (λ σ' H'=>∃ (v4:Aq) (us:Ap) (oss:List (List Org)),σ'=[some (.ref y0),some (.ref y1),some (.ref D),some (.ref l),v4]/\Same H H'/\H' l=some (.lst us)/\Reps H' (λ b=>H b=none/\b≠l) us (oss.map λ os=>.lst (os.map zcd))/\zaf s0 s1 oss) ?_ ?_
 ·walk_at "e";exists ra (s2 _ _ so1.hy) T.ad T.gM rfl ?_;refine ⟨n1.lc,rfl,.inl ⟨⟨_,SqL.of (s2 _ _ hc.out)⟩,?_⟩⟩;refine qK (K:=K) (a:=n1.lc) (xs:=n1.acs.map V.ref) (λ i σ H'=>∃ (v4:Aq) (us:Ap) (oss:List (List Org)),σ=[some (.ref y0),some (.ref y1),some (.ref D),some (.ref l),v4]/\Same H H'/\H' D=some (.dT om)/\LayD H' om (λ x=>x∈(s0.cells.map zN).flatten) s0.cells/\H' l=some (.lst us)/\Reps H' (λ b=>H b=none/\b≠l) us (oss.map λ os=>.lst (os.map zcd))/\oss.length=i/\∀ (i':Nat) os c,oss[i']?=some os->s1.cells[i']?=some c->os.length=c.length/\∀ (j:Nat) o wr,os[j]?=some o->c[j]?=some wr->Vi s0 wr o)
   ⟨_,[],[],rfl,s2,hD2,ld2,hl2,.nil,rfl,λ i' os c e=>by simp at e⟩ (λ i σ H' _ h=>by obtain ⟨_,_,_,_,s,_⟩:=h;exact SqL.of (s _ _ hc.out)) ?_ ?_
  ·intro i x σ H3 hi oj;refine oE3 oj λ v4 us oss o8=>oA8 o8 λ oi s3 hD3 ld3 hl3 r3 lo ok3=>?_;ext;rw [ak,am] at hi;obtain ⟨cb,hcb,rfl⟩:=hi;have hil:i < s1.cells.length:=by rw [<- lc];exact (aa.mp hcb).1
   obtain ⟨c,ec⟩:∃ c,s1.cells[i]?=some c:=⟨_,ac hil⟩;obtain ⟨vs,hvs,rvs⟩:=hc.g i cb _ hcb (show (zV s1.cells)[i]?=some (c.map zX) by rw [zV,ak,ec];rfl);have lv:vs.length=c.length:=by rw [rvs.len,ah]
   obtain ⟨c6,cw⟩:=m6 c (af ec);have lu:us.length=i:=by rw [r3.len,ah,lo]
   exists ⟨.inl ⟨rfl,_,SqL.of hl3⟩,?_⟩;walk_at "d";exists ⟨cb,rfl,.inl ⟨⟨_,SqL.of (s3 _ _ hvs)⟩,λ _ _ _ _ oq hacc=>?_⟩⟩;refine qK (K:=K) (a:=cb) (xs:=vs) (λ j σ H'=>∃ (v0:Aq) (ws:Ap) (os:List Org),σ=[v0,some (.ref D),some (.ref y0)]/\Same H3 H'/\H' oq=some (.lst ws)/\Reps H' (λ b=>H3 b=none/\b≠oq) ws (os.map zcd)/\os.length=j/\∀ (j':Nat) o wr,os[j']?=some o->c[j']?=some wr->Vi s0 wr o) (iE3 _ ([]) ([]) (iA6 rfl (zf hacc) oB (.nil) rfl (λ j' o wr e=>by simp at e))) (λ i σ H' _ h=>by obtain ⟨_,_,_,_,s,_⟩:=h;exact SqL.of (s _ _ (s3 _ _ hvs))) ?_ ?_
   ·intro j v σ H4 hj oj;refine oE3 oj λ v0 ws os o8=>oA6 o8 λ oi s4 ha4 r4 lo4 ok4=>?_;ext;obtain ⟨d,hd,rv⟩:=rvs.at hj;rw [ak,am] at hd;obtain ⟨wr,hwr,rfl⟩:=hd;have hjl:j < c.length:=(aa.mp hwr).1;have s04:=s3.trans s4;have lw:ws.length=j:=by rw [r4.len,ah,lo4]
    exists uc (zbx T).mono (iE8 v D y0 n0 s0 wr om _ (iA7 rfl (rv.keep (λ b o hb ho=>⟨hb,s04 _ _ ho⟩)) (s4 _ _ hD3) (ld3.same s4) (so0.same s04) (cw wr (af hwr)) (λ v' H5 o s5 r5 ok5=>?_)));have f6:Fr [oq] H5 (upd H5 oq (.lst (ws ++ [v']))):=qw (by simp);refine ⟨_,iA3 (s5 _ _ ha4) (zn (by lia)) (iE3 _ (ws ++ [v']) (os ++ [o]) (iA6 rfl (((s4.trans s5).fr.trans f6).same (by intro m hm;rw [aw.mp hm];exact hacc)) oB ?_ (by simp [lo4]) (λ j' o' wr' e1 e2=>?_)))⟩
    ·rw [aV];refine (r4.keep λ b u hb ho=>⟨hb,f6 _ _ (λ z=>hb.2 (aw.mp z)) (s5 _ _ ho)⟩).append (.one (r5.keep λ b u hb ho=>?_));have hb:H4 b=none:=hb;have nb:b≠oq:=λ z=>by rw [z,ha4] at hb;cases hb
     exact ⟨⟨zw s4 hb,nb⟩,f6 _ _ (λ z=>nb (aw.mp z)) ho⟩
    ·by_cases hj':j' < os.length
     ·rw [aQ hj'] at e1;exact ok4 j' o' wr' e1 e2
     ·rw [aN (by lia)] at e1;have hz:=(aa.mp e1).1;have:j'=j:=by simp at hz;lia
      subst this;rw [lo4,fK] at e1;cases e1;rw [hwr] at e2;cases e2;exact ok5
   ·intro σ H4 oj;refine oE3 oj λ v0 ws os o8=>oA6 o8 λ oi s4 ha4 r4 lo4 ok4=>?_;ext;rw [lv] at lo4;have s04:=s3.trans s4;have f6:Fr [l] H4 (upd H4 l (.lst (us ++ [.ref oq]))):=qw (by simp);have nacl:oq≠l:=λ z=>by rw [z,hl3] at hacc;cases hacc
    have nac0:H oq=none:=zw s3 hacc;refine iE3 l _ _ (iA5 rfl rfl (s4 _ _ hl3) (zn (by lia)) ?_);have nDl:D≠l:=λ z=>by rw [z,hl3] at hD3;cases hD3
    have ld6:LayD (upd H4 l (.lst (us ++ [.ref oq]))) om (λ x=>x∈(s0.cells.map zN).flatten) s0.cells:=⟨ld3.n,λ x v e=>by
     refine oE4 (ld3.s x v e) λ t b p c o8=>oA3 o8 λ e1 e2 e3=>?_;clear o8;have nt:t≠l:=λ z=>by rw [z,hl3] at e2;cases e2
     exact (iE4 t b p c (iA3 e1 (by rw [oC nt];exact s4 _ _ e2) e3))⟩
    refine iE3 _ (us ++ [.ref oq]) (oss ++ [os]) (iA8 rfl ((s04.fr.trans f6).same (by intro m hm;rw [aw.mp hm];exact nl0)) (by rw [oC nDl];exact s4 _ _ hD3) ld6 oB ?_ (by simp [lo]) (λ i' os' c' e1 e2=>?_))
    ·rw [aV];refine (r3.keep λ b u hb ho=>⟨hb,f6 _ _ (λ z=>hb.2 (aw.mp z)) (s4 _ _ ho)⟩).append (.one ?_);have r6:Reps (upd H4 l (.lst (us ++ [.ref oq]))) (λ b=>H b=none/\b≠l) ws (os.map zcd):=r4.keep λ b u hb ho=>by
      have nb:b≠l:=λ z=>by rw [z,hl3] at hb;cases hb.1
      exact ⟨⟨zw s3 hb.1,nb⟩,f6 _ _ (λ z=>nb (aw.mp z)) ho⟩
     exact r6.mk' ⟨nac0,nacl⟩ (by rw [oC nacl];exact ha4)
    ·by_cases hi':i' < oss.length
     ·rw [aQ hi'] at e1;exact ok3 i' os' c' e1 e2
     ·rw [aN (by lia)] at e1;have hz:=(aa.mp e1).1;have:i'=i:=by simp at hz;lia
      subst this;rw [lo,fK] at e1;cases e1;rw [ec] at e2;cases e2;exact ⟨lo4,ok4⟩
  ·intro σ H3 oj;refine oE3 oj λ v4 us oss o8=>oA8 o8 λ oi s3 hD3 ld3 hl3 r3 lo ok3=>?_;ext;rw [ah,lc] at lo;exact iE3 _ us oss (iA6 rfl s3 hl3 r3 lo ok3)
 intro σ' H3 oj;refine oE3 oj λ v4 us oss o8=>oA5 o8 λ oi s3 hl3 r3 ok3=>?_;ext;left;exact k l _ oss s3 (Reps.mk' (r3.keep λ b u hb ho=>⟨hb.1,ho⟩) nl0 hl3) ok3
def OR (ρ:Ah):zC->zC->Prop
 | none,none=>True
 | some x,some y=>ρ x y
 | _,_=>False
def OR.none_iff {ρ:Ah} {x y:zC} (h:OR ρ x y):x=none ↔ y=none:=by
 cases x <;> cases y <;> simp [OR] at h ⊢
def RowR (ρ:Ah) (c c':Av):Prop:=c.length=c'.length/\∀ p,OR ρ (c.getD p none) (c'.getD p none)
def RelC (ρ:Ah) (cs cs':Au):Prop:=cs.length=cs'.length/\∀ b,RowR ρ (cs.getD b []) (cs'.getD b [])
section
variable {ρ:Ah} {c c':Av} {cs cs':Au}
def RowR.set (h:RowR ρ c c') (p:Nat) {x x':zC} (hx:OR ρ x x'):RowR ρ (c.set p x) (c'.set p x'):=by
 refine ⟨by rw [br,br];exact h.1,λ q=>?_⟩;rw [qE,qE,h.1]
 split
 ·exact hx
 ·exact h.2 q
def RowR.fin (h:RowR ρ c c'):OR ρ (xz c) (xz c'):=by
 rw [XT,XT,h.1];exact h.2 _
def RelC.set (h:RelC ρ cs cs') (b:Nat) (hc:RowR ρ c c'):RelC ρ (cs.set b c) (cs'.set b c'):=by
 refine ⟨by rw [br,br];exact h.1,λ q=>?_⟩;rw [qE,qE,h.1]
 split
 ·exact hc
 ·exact h.2 q
def RelC.cell (h:RelC ρ cs cs') (b:Int):RowR ρ (zz cs b) (zz cs' b):=h.2 _
def RowR.mvS (h:RowR ρ c c') (p:Nat):RowR ρ (qP c p) (qP c' p):=by
 unfold qP;by_cases e:c.getD (p + 1) none=none
 ·rw [ap e,ap ((h.2 (p + 1)).none_iff.mp e)];exact (h.set (p + 1) (h.2 p)).set p trivial
 ·rw [ao e,ao (λ z=>e ((h.2 (p + 1)).none_iff.mpr z))];exact h
theorem RowR.mvG (h:RowR ρ c c'):∀ k,RowR ρ (ww c k) (ww c' k)
 | 0=>h
 | k + 1=>by rw [ww,ww,h.1];exact (RowR.mvG h k).mvS _
theorem RelC.on {bs:A1} {t t':Int} (h:RelC ρ cs cs') (ht:∀ b∈bs,t % b.2=t' % b.2):∀ i,RelC ρ (qk bs t cs i) (qk bs t' cs' i)
 | 0=>h
 | i + 1=>by
  have e:t % (bs.getD i (0,1)).2=t' % (bs.getD i (0,1)).2:=by
   rw [ae];cases z:bs[i]? with
   | none=>show t % 1=t' % 1;lia
   | some b=>exact ht b (af z)
  have ih:=RelC.on h ht i;rw [qk,qk,e]
  split
  ·refine ih.set i ?_;unfold za1;rw [(ih.2 i).1];exact (ih.2 i).mvG _
  ·exact ih
end
structure Sim (bs:A1) (rs:At) (ρ:Ah) (s s':PSt):Prop where
 al:Alk bs rs s s'
 ce:RelC ρ s.cells s'.cells
 nw:∀ (k:Nat) r (d:Nat),rs[k]?=some r->r.wd=.source->ρ ((k:Int),gAt s.gone k 0 + d) ((k:Int),gAt s'.gone k 0 + d)
section
variable {bs:A1} {rs:At} {ρ:Ah} {s s':PSt}
def zhr (h:Sim bs rs ρ s s') (w:stWf bs rs s) (w':stWf bs rs s') (ro:∀ r∈rs,r.ok) (k:Nat):Sim bs rs ρ (qq rs s k).1 (qq rs s' k).1:=by
 obtain ⟨a1,a2⟩:=zgm h.al w w' ro k;refine ⟨a1,?_,λ j r d hr hs=>?_⟩
 ·unfold qq;cases hr:rs[k]? with
  | none=>exact h.ce
  | some r =>
   have ok:=ro r (af hr);have hk:=(aa.mp hr).1;simp only;rw [<- zbm h.al.ce,<- zdc h.al.ce,<- h.al.si,<- WX (t:=s.turn) ok (λ z p=>h.al.tu _ (.inr ⟨r,af hr,z,rfl,p⟩))];cases hc:z7 r (qh rs s.cells r) (qH s.cells r) s.turn (s.sides.getD k 0).toNat with
   | none=>exact h.ce
   | some ch =>
    have sd:=w.so.2 k r _ hr (qr (d:=0) (by rw [w.so.1];exact hk));have sd':wq r ((s.sides.getD k 0).toNat:Int):=by rw [bI sd.1];exact sd
    obtain ⟨c1,_,_,c4,_⟩:=xM ok (by simp [qh]) (by simp [qH]) sd' hc;have tk:OR ρ (zM s k (qj r ch)).1 (zM s' k (qj r ch)).1/\RelC ρ (zM s k (qj r ch)).2.cells (zM s' k (qj r ch)).2.cells:=by
     cases e:qj r ch with
     | none =>
      refine ⟨?_,h.ce⟩;have hs:r.wd=.source:=by
       cases e1:ch.1 with
       | none=>exact c4 e1
       | some j =>
        unfold qj at e;rw [e1] at e;simp at e;have:=c1 j e1
        lia
      show ρ ((k:Int),(s.gone.getD k []).headD 0) ((k:Int),(s'.gone.getD k []).headD 0)
      have:=h.nw k r 0 hr hs;rw [jU,jU];simpa using this
     | some b =>
      refine ⟨(h.ce.cell b).fin,?_⟩;refine h.ce.set b.toNat ?_;unfold qI;rw [(h.ce.cell b).1];exact (h.ce.cell b).set _ trivial
    show RelC ρ (movedF r s k ch).cells (movedF r s' k ch).cells
    unfold movedF;cases xO r ch with
    | none=>exact tk.2
    | some b=>exact tk.2.set b.toNat ((tk.2.cell b).set 0 tk.1)
 ·have m:=XZ rs s k j 0;have e:=a2 j 0;have m:gAt s.gone j 0<=gAt (qq rs s k).1.gone j 0:=m;have:=h.nw j r ((gAt (qq rs s k).1.gone j 0 - gAt s.gone j 0).toNat + d) hr hs;rw [show gAt s.gone j 0 + (((gAt (qq rs s k).1.gone j 0 - gAt s.gone j 0).toNat + d:Nat):Int)=gAt (qq rs s k).1.gone j 0 + d by lia,show gAt s'.gone j 0 + (((gAt (qq rs s k).1.gone j 0 - gAt s.gone j 0).toNat + d:Nat):Int)=gAt (qq rs s' k).1.gone j 0 + d by lia] at this;exact this
theorem zbF (h:Sim bs rs ρ s s') (w:stWf bs rs s) (w':stWf bs rs s') (ot:zY bs rs) (bo:∀ b∈bs,zH b.1 b.2) (ro:∀ r∈rs,r.ok):∀ m,Sim bs rs ρ (zo rs s m).1 (zo rs s' m).1
 | 0=>h
 | m + 1=>zhr (zbF h w w' ot bo ro m) (qY w ot bo ro m) (qY w' ot bo ro m) ro m
def zfr (h:Sim bs rs ρ s s') (w:stWf bs rs s) (w':stWf bs rs s') (ot:zY bs rs) (bo:∀ b∈bs,zH b.1 b.2) (ro:∀ r∈rs,r.ok):Sim bs rs ρ (passF bs rs s).1 (passF bs rs s').1:=by
 have i:=zbF h w w' ot bo ro rs.length;exact ⟨(zcV h.al w w' ot bo ro).1,i.ce.on (λ b hb=>i.al.tu _ (.inl ⟨b,hb,rfl⟩)) _,i.nw⟩
theorem zaO (ot:zY bs rs) (bo:∀ b∈bs,zH b.1 b.2) (ro:∀ r∈rs,r.ok) {p q:Nat} (h:Sim bs rs ρ (zj bs rs p) (zj bs rs q)):∀ m,Sim bs rs ρ (zj bs rs (p + m)) (zj bs rs (q + m))
 | 0=>h
 | m + 1=>zfr (zaO ot bo ro h m) (qg ot bo ro _) (qg ot bo ro _) ot bo ro
end
def zjc (rs:At) (s t:PSt) (x y:Int × Int):Prop:=(∃ b p,atC s.cells b p=some x/\atC t.cells b p=some y)\/∃ (k:Nat) (r:Row) (d:Nat),rs[k]?=some r/\r.wd=.source/\x=((k:Int),gAt s.gone k 0 + d)/\y=((k:Int),gAt t.gone k 0 + d)
noncomputable def zjl (s0 s1 t:PSt) (n:Nat):Org->zC
 | .no=>none
 | .kept b p=>atC t.cells b p
 | .new k m=>some ((k:Int),gAt s0.gone k 0 + n * (gAt s1.gone k 0 - gAt s0.gone k 0) + m)
section
variable {bs:A1} {rs:At}
def zhW {s t:PSt} (h:Alk bs rs s t):Sim bs rs (zjc rs s t) s t:=by
 refine ⟨h,⟨by have:=bh List.length h.ce;rw [ah,ah] at this;exact this,λ b=>⟨VX (Jj h.ce b),λ p=>?_⟩⟩,λ k r d hr hs=>.inr ⟨k,r,d,hr,hs,rfl,rfl⟩⟩;have e:jT rs ((s.cells.getD b []).getD p none)=jT rs ((t.cells.getD b []).getD p none):=by rw [WQ,WQ,Jj h.ce b]
 cases e1:(s.cells.getD b []).getD p none with
 | none =>
  rw [e1] at e;rw [(Zq _).mp e.symm]
  trivial
 | some x =>
  cases e2:(t.cells.getD b []).getD p none with
  | none=>rw [e1,e2] at e;exact absurd ((Zq _).mp e) (λ z=>nomatch z)
  | some y=>exact .inl ⟨b,p,e1,e2⟩
def Alk.refl (s:PSt):Alk bs rs s s:=⟨rfl,rfl,λ _ _ _ _=>rfl,λ _ _=>rfl⟩
def Alk.trans {s t u:PSt} (h:Alk bs rs s t) (h':Alk bs rs t u):Alk bs rs s u:=⟨h.ce.trans h'.ce,h.si.trans h'.si,λ j r a b=>(h.so j r a b).trans (h'.so j r a b),λ n a=>(h.tu n a).trans (h'.tu n a)⟩
variable (ot:zY bs rs) (bo:∀ b∈bs,zH b.1 b.2) (ro:∀ r∈rs,r.ok) {lim i j:Nat} (rd:RoundAt bs rs lim i j)
include ot bo ro rd
theorem zg5:∀ n,Alk bs rs (zj bs rs i) (zj bs rs (i + n * (j - i)))/\∀ k p,gAt (zj bs rs (i + n * (j - i))).gone k p=gAt (zj bs rs i).gone k p + n * (gAt (zj bs rs j).gone k p - gAt (zj bs rs i).gone k p)
 | 0=>by
  rw [Nat.zero_mul,Nat.add_zero];exact ⟨.refl _,λ k p=>by rw [show ((0:Nat):Int)=0 from rfl,Int.zero_mul,d6]⟩
 | n + 1=>by
  obtain ⟨h1,h2⟩:=zg5 n;obtain ⟨g1,g2⟩:=zcT h1 ot bo ro (j - i);have lt:=rd.lt;rw [show i + (j - i)=j by lia] at g1 g2;rw [show i + (n + 1) * (j - i)=i + n * (j - i) + (j - i) by rw [dY];lia];refine ⟨(ziU bo ro rd.eq).trans g1,λ k p=>?_⟩;have:=g2 k p;have e:=h2 k p;rw [show ((n + 1:Nat):Int)=(n:Int) + 1 by lia,Int.add_mul,Int.one_mul];generalize (n:Int) * (gAt (zj bs rs j).gone k p - gAt (zj bs rs i).gone k p)=z at e ⊢
  lia
theorem zbb (n b p:Nat) {o:Org} (h:Vi (zj bs rs i) (atC (zj bs rs j).cells b p) o):atC (zj bs rs (i + (n + 1) * (j - i))).cells b p=zjl (zj bs rs i) (zj bs rs j) (zj bs rs (i + n * (j - i))) n o:=by
 obtain ⟨h1,h2⟩:=zg5 ot bo ro rd n;have lt:=rd.lt;have sm:=zaO ot bo ro (zhW h1) (j - i);rw [show i + (j - i)=j by lia] at sm;rw [show i + (n + 1) * (j - i)=i + n * (j - i) + (j - i) by rw [dY];lia];have orr:OR (zjc rs (zj bs rs i) (zj bs rs (i + n * (j - i)))) (atC (zj bs rs j).cells b p) (atC (zj bs rs (i + n * (j - i) + (j - i))).cells b p):=(sm.ce.2 b).2 p;generalize atC (zj bs rs (i + n * (j - i) + (j - i))).cells b p=w at orr ⊢;obtain ⟨uq,gv⟩:=zcS ot bo ro i;have inq:∀ {b p:Nat} {x:Int × Int},atC (zj bs rs i).cells b p=some x->∃ c,(zj bs rs i).cells[b]?=some c/\c[p]?=some (some x):=λ {b p x} e=>by
  unfold atC at e;rw [ae,ae] at e;cases e1:(zj bs rs i).cells[b]? with
  | none=>rw [e1] at e;simp at e
  | some c =>
   rw [e1] at e;cases e2:c[p]? with
   | none=>rw [aT,e2] at e;cases e
   | some y=>rw [aT,e2] at e;cases e;exact ⟨c,rfl,e2⟩
 have old:∀ {b p:Nat} {x:Int × Int} {d:Nat} {k:Nat},atC (zj bs rs i).cells b p=some x->x≠((k:Int),gAt (zj bs rs i).gone k 0 + d):=λ {b p x d k} e z=>by
  have:=gv b p x e;rw [z,ax] at this;simp only at this
  lia
 cases o with
 | no =>
  cases e:atC (zj bs rs j).cells b p with
  | none=>rw [e] at orr;exact orr.none_iff.mp rfl
  | some x=>rw [e] at h;exact h.elim
 | kept b' p' =>
  cases e:atC (zj bs rs j).cells b p with
  | none=>rw [e] at h;exact h.elim
  | some x =>
   rw [e] at h orr;obtain ⟨c,g1,g2⟩:=h;have at1:atC (zj bs rs i).cells b' p'=some x:=by
    unfold atC;rw [ae,ae,g1,aT,g2]
    rfl
   cases w with
   | none=>exact orr.elim
   | some y =>
    rcases orr with ⟨b2,p2,q1,q2⟩|⟨k,r,d,_,_,q,_⟩
    ·obtain ⟨rfl,rfl⟩:=uq _ _ _ _ x at1 q1;exact q2.symm
    ·exact absurd q (old at1)
 | new k m =>
  cases e:atC (zj bs rs j).cells b p with
  | none=>rw [e] at h;exact h.elim
  | some x =>
   rw [e] at h orr;obtain ⟨g1,g2,g3,_⟩:=h;cases w with
   | none=>exact orr.elim
   | some y =>
    rcases orr with ⟨b2,p2,q1,_⟩|⟨k',r,d,hr,hs,rfl,rfl⟩
    ·obtain ⟨c,q3,q4⟩:=inq q1;exact absurd (flat_mem.mpr ⟨c,af q3,af q4⟩) g2
    ·have ek:k'=k:=by simp only at g1;lia
     subst ek;rw [jU] at g3;simp only at g3;show some ((k':Int),gAt (zj bs rs (i + n * (j - i))).gone k' 0 + (d:Int))=some ((k':Int),_)
     rw [h2 k' 0,show m=(d:Int) by lia]
end
noncomputable def lf (y0 lo lg:Addr) (L:Int):List (Str × V):=zS "growth" (.ref lg) (zS "origins" (.ref lo) (zS "length" (.int L) (zS "before" (.ref y0) [])))
def WH {y0 lo lg:Addr}:(lf y0 lo lg L).lookup ("growth":Str)=some (.ref lg):=by unfold lf;rw [zE,ap rfl]
def zco {y0 lo lg:Addr}:(lf y0 lo lg L).lookup ("origins":Str)=some (.ref lo):=by unfold lf;rw [zE,ao (by symm),zE,ap rfl]
def Q1 {y0 lo lg:Addr}:(lf y0 lo lg L).lookup ("length":Str)=some (.int L):=by unfold lf;rw [zE,ao (by symm),zE,ao (by symm),zE,ap rfl]
def xL {y0 lo lg:Addr}:(lf y0 lo lg L).lookup ("before":Str)=some (.ref y0):=by unfold lf;rw [zE,ao (by symm),zE,ao (by symm),zE,ao (by symm),zE,ap rfl]
def Wz (a:Ad):Sp:=λ vs H Q _=>∃ (z dx y0 y1:Addr) (n0 n1:SN) (s0 s1:PSt) (H0:Hp),vs=[.ref z,.ref y0,.ref y1]/\H z=some (.ins a.q dx [])/\Same H0 H/\H0 z=none/\StO a H0 y0 n0 s0/\StO a H0 y1 n1 s1/\s0.cells.length<=24/\(∀ c∈s0.cells,c.length<=6)/\s1.cells.length<=24/\(∀ c∈s1.cells,c.length<=6/\∀ wr∈c,zf8 s0 wr)/\s0.gone.length=s1.gone.length/\s0.gone.length<=24/\(∀ (i:Nat) g0 g1,s0.gone[i]?=some g0->s1.gone[i]?=some g1->g0.length=g1.length/\g0.length<=4) /\
 ∀ lo lg gs oss H',Same H0 H'->H' z=some (.ins a.q dx (lf y0 lo lg (s1.turn - s0.turn)))->Rep H' (Off [z]) (.ref lo) (zcX oss)->zaf s0 s1 oss->NL H' (z8 H') lg gs (qt (xA s0.gone s1.gone))->Q .non H'
def zaT (T:Txt K mg a) (F:Fun K "__init__" "Lap.__init__" va f fd):FnOk P w K mg base (CXr P w) 3 f fd ["self","before","after"] (Wz a):=by
 refine F.okx zaC ?_ ?_
 ·walk_at "i"
 walk_at "j";refine oE5 h λ z dx y0 y1 n0 o8=>oE4 o8 λ n1 s0 s1 H0 oi=>oA9 oi λ ou hz sH z0 so0 so1 l0 c0 oz=>oA6 oz λ l1 c1 gl g24 gr k=>?_;clear o8 oi oz h;subst ou;walk_at "T";refine ⟨_,(zh (qZ (pq 0) (pq 1) rfl)  (zh (qZ (pq 0) (zJ vn (zm (pq 2) rfl) (zm (pq 1) rfl)) rfl)  (zh (qZ (pq 0) ‹(pq 1) (za (pq 2) zb)› rfl)  (zd (qZ (pq 0) ‹(pq 1) (za (pq 2) zb)› rfl))))),?_⟩;left;have sz:∀ {H':Hp} {o:HO},Same H0 H'->Same H0 (upd H' z o):=λ s b o hb=>by rw [oC (oE hb z0)];exact s b o hb
 refine iE4 z a.q dx ([]) (iA6 rfl hz T.gY T.hJ (by decide) ?_);have s1':=sz (o:=.ins a.q dx (zS "before" (.ref y0) [])) sH;exists ra ((so1.same s1').hy) T.ad T.gS rfl (ra ((so0.same s1').hy) T.ad T.gS rfl ?_);exists iE4 z a.q dx _ (iA6 rfl oB T.gY T.ix (by show 1 < 1000;decide) ?_);rw [Zj];have s2:=sz (o:=.ins a.q dx (zS "length" (.int (s1.turn - s0.turn)) (zS "before" (.ref y0) []))) sH;have hz2:upd H z (.ins a.q dx (zS "length" (.int (s1.turn - s0.turn)) (zS "before" (.ref y0) []))) z=some (.ins a.q dx (zS "length" (.int (s1.turn - s0.turn)) (zS "before" (.ref y0) []))):=oB;generalize upd H z (.ins a.q dx (zS "length" (.int (s1.turn - s0.turn)) (zS "before" (.ref y0) [])))=H2 at s2 hz2 ⊢;exists uc (V9 T).mono (iE6 y0 y1 n0 n1 s0 s1 (iA8 rfl (so0.same s2) (so1.same s2) l0 c0 l1 c1 (λ lo H3 oss s3 ro3 ok3=>?_)));have s03:=s2.trans s3;have hz3:=s3 _ _ hz2;refine iE4 z a.q dx _ (iA6 rfl hz3 T.gY T.iU (by show 2 < 1000;decide) ?_);have s4:=sz (o:=.ins a.q dx (zS "origins" (.ref lo) (zS "length" (.int (s1.turn - s0.turn)) (zS "before" (.ref y0) [])))) s03;have r4:Rep (upd H3 z (.ins a.q dx (zS "origins" (.ref lo) (zS "length" (.int (s1.turn - s0.turn)) (zS "before" (.ref y0) []))))) (Off [z]) (.ref lo) (zcX oss):=ro3.keep λ b o hb ho=>by
  have nb:b≠z:=λ e=>by have hb:H2 b=none:=hb;rw [e,hz2] at hb;cases hb
  exact ⟨by simp [Off,nb],by rw [oC nb];exact ho⟩
 have hz4:upd H3 z (.ins a.q dx (zS "origins" (.ref lo) (zS "length" (.int (s1.turn - s0.turn)) (zS "before" (.ref y0) [])))) z=some (.ins a.q dx (zS "origins" (.ref lo) (zS "length" (.int (s1.turn - s0.turn)) (zS "before" (.ref y0) [])))):=oB;generalize upd H3 z (.ins a.q dx (zS "origins" (.ref lo) (zS "length" (.int (s1.turn - s0.turn)) (zS "before" (.ref y0) []))))=H4 at s4 r4 hz4 ⊢;refine uc (zbA T).mono (iE6 y0 y1 n0 n1 s0 s1 (iA7 rfl (so0.same s4) (so1.same s4) gl g24 gr (λ lg gs H5 s5 ng fr=>?_)));have hz5:=s5 _ _ hz4;refine iE4 z a.q dx _ (iA6 rfl hz5 T.gY T.iM (by show 3 < 1000;decide) ?_);refine k lo lg gs oss _ (sz (s4.trans s5)) oB (r4.keep λ b o hb ho=>?_) ok3 (ng.tup λ b o hb ho=>?_)
 ·have nb:b≠z:=λ e=>hb (by rw [e];simp);exact ⟨hb,by rw [oC nb];exact s5 _ _ ho⟩
 ·have nb:b≠z:=λ e=>by
   subst e;rcases hb with hb|hb|⟨xs,hb⟩
   ·have:=fr lg (aY ..);rw [<- hb,hz4] at this;cases this
   ·have:=fr b (aD _ hb);rw [hz4] at this;cases this
   ·rw [hz5] at hb;cases hb
  rw [oC nb];exact ho
def zjq (T:Txt K mg a):KCal P w K mg base "Lap" a.q 3 ["self","before","after"] [] (Wz a):=T.mK.cal T.oh (zaT T)
structure LapO (a:Ad) (H:Hp) (z y0:Addr) (n0:SN) (s0 s1:PSt) (oss:List (List Org)):Prop where
 ex:∃ dx lo lg gs,H z=some (.ins a.q dx (lf y0 lo lg (s1.turn - s0.turn)))/\Rep H (λ _=>True) (.ref lo) (zcX oss)/\NL H (z8 H) lg gs (qt (xA s0.gone s1.gone))
 so:StO a H y0 n0 s0
 ok:zaf s0 s1 oss
def LapO.same {H H':Hp} {z y0:Addr} {n0:SN} {s0 s1:PSt} {oss:List (List Org)} (h:LapO a H z y0 n0 s0 s1 oss) (s:Same H H'):LapO a H' z y0 n0 s0 s1 oss:=by
 obtain ⟨dx,lo,lg,gs,h1,h2,h3⟩:=h.ex;exact ⟨⟨dx,lo,lg,gs,s _ _ h1,qV h2 s,h3.tup λ b o _ hb=>s b o hb⟩,h.so.same s,h.ok⟩
def zdF (a:Ad):Sp:=λ vs H Q _=>∃ (z y0 t:Addr) (n0:SN) (s0 s1:PSt) (oss:List (List Org)) (k:Nat) (m:Int) (n:Nat) (x:Int) (xs:A6),vs=[.ref z,.ref t,.int n]/\LapO a H z y0 n0 s0 s1 oss/\H t=some (.tup [.str "new",.int k,.int m])/\s0.gone[k]?=some (x :: xs)/\s0.gone.length=s1.gone.length/\0<=gAt s1.gone k 0 - x/\gAt s1.gone k 0 - x<=1000/\∀ t' H',Same H H'->H' t'=some (.tup [.int k,.int (x + n * (gAt s1.gone k 0 - x) + m)])->Q (.ref t') H'
def XD (T:Txt K mg a):MCal P w K mg base a.q "new_ware" 1 ["self","origin","rounds"] [] (zdF a):=T.kT.cal T.gY λ F=>by
 refine F.okx Jq ?_ ?_
 ·walk_at "i"
 walk_at "j";refine oE8 h λ z y0 t n0 s0 s1 oss kk o8=>oE4 o8 λ m n x xs oi=>oA8 oi λ ou lo ht hg le d0 d1 k=>?_;clear o8 oi h;subst ou;refine oE4 lo.ex λ dx l1 lg gs o8=>oA3 o8 λ hz _ ng=>?_;clear o8;have hk:=(aa.mp hg).1;obtain ⟨g1,e1⟩:∃ g,s1.gone[kk]?=some g:=⟨_,ac (by rw [<- le];exact hk)⟩;have eg:(xA s0.gone s1.gone)[kk]?=some (vD (x :: xs) g1):=by unfold xA;rw [fY,hg,e1]
 have eG:gAt s1.gone kk 0=g1.getD 0 0:=by unfold gAt;rw [ae (l:=s1.gone),e1];rfl
 obtain ⟨b0,hb0,h0⟩:=vv lo.so.hg hg;obtain ⟨b1,hb1,h1⟩:=vv ng eg;have eF:(vD (x :: xs) g1)[0]?=some (g1.getD 0 0 - x):=by unfold vD;rw [ak,gz (by simp)];rfl
 rw [eG] at d0 d1 k;walk_at "T";refine ⟨_,(zh (zu 3 Jq.nd (zr (pq 1) ze))  (zh (zu 4 Jq.nd (zJ qd (zr (zr (zm (zm (pq 0) rfl) rfl) (pq 3)) ze) (zJ vV (pq 2) (zr (zr (zm (pq 0) rfl) (pq 3)) ze))))  (zd (zk (jn (za (pq 3) (za (zJ qd (pq 4) (zr (pq 1) ze)) zb))))))),?_⟩;exists oG ht (show atI _ 1=some (.int kk) from rfl) ?_;exists ra hz T.gY T.hJ xL (ra lo.so.hy T.ad T.gP rfl (zt (SqL.of lo.so.hg.out) (zD (by rw [ak,hb0];rfl)) (zt (SqL.of h0) at0 ?_)));refine ra hz T.gY T.iM WH (zt (SqL.of ng.out) (zD (by rw [ak,hb1];rfl)) (zt (SqL.of h1) (show atI _ ((0:Nat):Int)=some (.int (g1.getD 0 0 - x)) from zD (jD eF)) ?_));refine ⟨mul_okR (by lia) (by lia),?_⟩;exists oG ht (show atI _ 2=some (.int m) from rfl) ?_;left;exact λ p hp=>k p _ (zf hp) oB
noncomputable def zbg (O:Nat × Nat->Org) (q:Nat × Nat):Option (Nat × Nat):=match O q with
 | .kept b p=>some (b,p)
 | _=>none
noncomputable def chn (O:Nat × Nat->Org) (q0:Nat × Nat):Nat->Option (Nat × Nat)
 | 0=>some q0
 | t + 1=>(chn O q0 t).bind (zbg O)
def zht (C:Nat->Nat × Nat->zC) (O:Nat × Nat->Org) (q0:Nat × Nat) (N left:Nat) (q:Nat × Nat):Prop:=∃ t,chn O q0 t=some q/\C N q0=C left q/\((t + left=N/\∀ u,0 < u->u<=t->chn O q0 u≠some q0)\/∃ d,t + left < d/\∀ u,0 < u->u < d->chn O q0 u≠some q0)
section
variable {C:Nat->Nat × Nat->zC} {O:Nat × Nat->Org} {ok:Nat × Nat->Prop} (hC:∀ n q b p,ok q->O q=.kept b p->C (n + 1) q=C n (b,p)) (hk:∀ q b p,ok q->O q=.kept b p->ok (b,p)) {q0:Nat × Nat} (h0:ok q0)
include hC hk h0
theorem zf9:∀ t q,chn O q0 t=some q->ok q/\∀ m,C (m + t) q0=C m q
 | 0,q,h=>by cases h;exact ⟨h0,λ _=>rfl⟩
 | t + 1,q,h=>by
  obtain ⟨q1,h1,h2⟩:=bn.mp h;obtain ⟨o1,c1⟩:=zf9 t q1 h1;unfold zbg at h2
  split at h2
  ·rename_i b p e;cases h2;exact ⟨hk q1 b p o1 e,λ m=>by rw [show m + (t + 1)=m + 1 + t by lia,c1 (m + 1),hC m q1 b p o1 e]⟩
  ·cases h2
theorem zhh {d:Nat} (hd:chn O q0 d=some q0) (d0:0 < d) (m:Nat):C m q0=C (m % d) q0:=by
 have:=(zf9 hC hk h0 d q0 hd).2
 induction m using Nat.strongRecOn with
 | _ m ih =>
  by_cases h:m < d
  ·rw [Nat.mod_eq_of_lt h]
  ·rw [Nat.mod_eq_sub_mod (by lia),<- ih (m - d) (by lia),<- this (m - d),show m - d + d=m by lia]
theorem zeG {N l:Nat} {q:Nat × Nat} (h:zht C O q0 N (l + 1) q) {b p:Nat} (e:O q=.kept b p):((b,p)≠q0->zht C O q0 N l (b,p))/\((b,p)=q0->0 < N - l/\zht C O q0 N (l % (N - l)) q0):=by
 obtain ⟨t,h1,h2,h3⟩:=h;have nx:chn O q0 (t + 1)=some (b,p):=by
  show (chn O q0 t).bind (zbg O)=_
  rw [h1];show zbg O q=_
  unfold zbg;rw [e]
 have cq:C N q0=C l (b,p):=by rw [h2,hC l q b p (zf9 hC hk h0 t q h1).1 e]
 refine ⟨λ ne=>⟨t + 1,nx,cq,?_⟩,λ eq=>?_⟩
 ·rcases h3 with ⟨a1,a2⟩|⟨d,a1,a2⟩
  ·refine .inl ⟨by lia,λ u u0 ul=>?_⟩;by_cases z:u=t + 1
   ·rw [z,nx];exact λ y=>ne (aI y)
   ·exact a2 u u0 (by lia)
  ·exact .inr ⟨d,by lia,a2⟩
 ·rcases h3 with ⟨a1,a2⟩|⟨d,a1,a2⟩
  ·refine ⟨by lia,0,rfl,?_,.inr ⟨t + 1,?_,λ u u0 ul=>a2 u u0 (by lia)⟩⟩
   ·rw [cq,eq,show N - l=t + 1 by lia];exact zhh hC hk h0 (by rw [nx,eq]) (by lia) l
   ·rw [show N - l=t + 1 by lia,Nat.zero_add];exact dA _ (by lia)
  ·exact absurd (nx.trans (by rw [eq])) (a2 (t + 1) (by lia) (by lia))
end
def za9 {y0 lo lg:Addr} (h1:x≠"before") (h2:x≠"length") (h3:x≠"origins") (h4:x≠"growth"):(lf y0 lo lg L).lookup x=none:=by
 unfold lf;rw [zE,ao h4,zE,ao h3,zE,ao h2,zE,ao h1]
 rfl
def LapO.org {z y0:Addr} {n0:SN} {s0 s1:PSt} {oss:List (List Org)} (h:LapO a H z y0 n0 s0 s1 oss) {b p:Nat} {os:List Org} {o:Org} (e1:oss[b]?=some os) (e2:os[p]?=some o):∃ dx lo lg us bl vs v,H z=some (.ins a.q dx (lf y0 lo lg (s1.turn - s0.turn)))/\H lo=some (.lst us)/\us[b]?=some (.ref bl)/\H bl=some (.lst vs)/\vs[p]?=some v/\Rep H (λ _=>True) v (zcd o):=by
 obtain ⟨dx,lo,lg,gs,hz,r,_⟩:=h.ex;obtain ⟨l0,us,e,_,hl,ru⟩:=Rep.lst' r;cases e;have hb:b < us.length:=by rw [ru.len,ah];exact (aa.mp e1).1
 obtain ⟨d,hd,rb⟩:=ru.at (ac hb);rw [ak,e1] at hd;cases hd;obtain ⟨bl,vs,e,_,hbl,rv⟩:=Rep.lst' rb;have hp:p < vs.length:=by rw [rv.len,ah];exact (aa.mp e2).1
 obtain ⟨d,hd,rp⟩:=rv.at (ac hp);rw [ak,e2] at hd;cases hd;exact ⟨dx,lo,lg,us,bl,vs,vs[p],hz,hl,by rw [<- e];exact ac hb,hbl,ac hp,rp⟩
def zi3 {m:Int} (h:Rep H p v (.tup [.str x,.int k,.int m])):∃ t,v=.ref t/\H t=some (.tup [.str x,.int k,.int m]):=by
 obtain ⟨t,us,rfl,_,ht,rr⟩:=Rep.tup' h;have g:=rr.g;obtain ⟨x0,_,rfl,h1⟩:=Zu rr.len;obtain ⟨x1,x2,rfl⟩:=two_of h1;have a0:=g 0 x0 _ rfl rfl;have a1:=g 1 x1 _ rfl rfl;have a2:=g 2 x2 _ rfl rfl;cases a0;cases a1;cases a2;exact ⟨t,rfl,ht⟩
def ziW (rs:At) (st:PSt) (k i p:Nat):gAt (qq rs st k).1.gone i p<=gAt st.gone i p + if i=k then 1 else 0:=by
 unfold qq;have z:gAt st.gone i p<=gAt st.gone i p + if i=k then 1 else 0:=by split <;> lia
 cases rs[k]? with
 | none=>exact z
 | some r =>
  simp only;cases z7 r (qh rs st.cells r) (qH st.cells r) st.turn (st.sides.getD k 0).toNat with
  | none=>exact z
  | some ch =>
   obtain ⟨_,_,c3⟩:=movedF_keep (r:=r) (st:=st) (k:=k) (ch:=ch);show gAt ((movedF r st k ch).gone.set k _) i p<=_
   rw [c3];unfold gAt;rw [qE]
   split
   ·rename_i h;obtain ⟨rfl,_⟩:=h;rw [ap rfl];unfold ZB;rw [qE]
    split
    ·rename_i h;rw [h.1];exact bN _
    ·lia
   ·exact z
theorem zdu (rs:At) (st:PSt) (i p:Nat):∀ m,gAt (zo rs st m).1.gone i p<=gAt st.gone i p + if i < m then 1 else 0
 | 0=>by rw [ao (eE _)];exact Int.le_of_eq (d6 _).symm
 | m + 1=>by
  have h1:=zdu rs st i p m;have h2:=ziW rs (zo rs st m).1 m i p;show gAt (qq rs (zo rs st m).1 m).1.gone i p<=_
  by_cases e:i=m
  ·rw [ap e] at h2;rw [ao (by lia)] at h1;rw [ap (by lia)]
   lia
  ·rw [ao e] at h2;by_cases h:i < m
   ·rw [ap h] at h1;rw [ap (by lia)]
    lia
   ·rw [ao h] at h1;rw [ao (by lia)]
    lia
theorem VI (bs:A1) (rs:At) (k p:Nat):∀ n:Nat,gAt (zj bs rs n).gone k p<=n
 | 0=>by
  show gAt (rs.map qU) k p<=0
  unfold gAt;rw [ae,ae,ak];cases rs[k]? with
  | none=>exact bN _
  | some r =>
   show ((qU r)[p]?).getD 0<=0
   unfold qU;rw [dh]
   split <;> exact bN _
 | n + 1=>by
  have h1:=VI bs rs k p n;have h2:=zdu rs (zj bs rs n) k p rs.length;show gAt (zo rs (zj bs rs n) rs.length).1.gone k p<=_
  split at h2 <;> lia
def zan (a:Ad):Sp:=λ vs H Q _=>∃ (z y0 t:Addr) (n0:SN) (oss:List (List Org)) (bs:A1) (rs:At) (lim i j N b p:Nat) (c:Av),vs=[.ref z,.ref t,.int N]/\LapO a H z y0 n0 (zj bs rs i) (zj bs rs j) oss/\zY bs rs/\(∀ b∈bs,zH b.1 b.2)/\(∀ r∈rs,r.ok)/\RoundAt bs rs lim i j/\lim<=1000/\H t=some (.tup [.int b,.int p])/\(zj bs rs i).cells[b]?=some c/\p < c.length/\∀ v H',Same H H'->Rep H' (z8 H') v (zX (atC (zj bs rs (i + N * (j - i))).cells b p))->Q v H'
theorem QZ (T:Txt K mg a):MCal P w K mg base a.q "ware_after" 2 ["self","first","rounds"] [] (zan a):=T.i8.cal T.gY λ F=>by
 refine F.okx Qb ?_ ?_
 ·walk_at "i"
 walk_at "j";refine oE8 h λ z y0 t n0 oss bs rs lim o8=>oE6 o8 λ i j N b p c oi=>oA9 oi λ ou lo ot bo ro rd l1000 ht oz=>oA3 oz λ hc hp k=>?_;clear o8 oi oz h;subst ou;have w0:=qg ot bo ro i;have w1:=qg ot bo ro j;let C:Nat->Nat × Nat->zC:=λ n q=>atC (zj bs rs (i + n * (j - i))).cells q.1 q.2;let O:Nat × Nat->Org:=λ q=>(oss.getD q.1 []).getD q.2 .no;let ok:Nat × Nat->Prop:=λ q=>∃ c,(zj bs rs i).cells[q.1]?=some c/\q.2 < c.length;have hO:∀ q,ok q->∃ os,oss[q.1]?=some os/\os[q.2]?=some (O q)/\Vi (zj bs rs i) (atC (zj bs rs j).cells q.1 q.2) (O q):=λ q ⟨c,h1,h2⟩=>by
  have hq:=(aa.mp h1).1;have eb:=ac (l:=bs) (i:=q.1) (by rw [<- w0.co.1];exact hq);obtain ⟨c1,e1⟩:∃ c1,(zj bs rs j).cells[q.1]?=some c1:=⟨_,ac (by rw [w1.co.1,<- w0.co.1];exact hq)⟩;have l1:c1.length=c.length:=by rw [(w1.co.2 q.1 _ c1 eb e1).1,(w0.co.2 q.1 _ c eb h1).1]
  obtain ⟨os,e2⟩:∃ os,oss[q.1]?=some os:=⟨_,ac (by rw [lo.ok.1];exact (aa.mp e1).1)⟩;obtain ⟨l2,g⟩:=lo.ok.2 q.1 os c1 e2 e1;obtain ⟨o,e3⟩:∃ o,os[q.2]?=some o:=⟨_,ac (by lia)⟩;obtain ⟨wr,e4⟩:∃ wr,c1[q.2]?=some wr:=⟨_,ac (by lia)⟩;have eO:O q=o:=by
   show (oss.getD q.1 []).getD q.2 .no=o
   rw [ae,ae,e2,aT,e3]
   rfl
  have eW:atC (zj bs rs j).cells q.1 q.2=wr:=by
   unfold atC;rw [ae,ae,e1,aT,e4]
   rfl
  rw [eO,eW];exact ⟨os,iA3 e2 e3 (g q.2 o wr e3 e4)⟩
 have hC:∀ n q b p,ok q->O q=.kept b p->C (n + 1) q=C n (b,p):=λ n q b p hq e=>by
  refine oE1 (hO q hq) λ _ o8=>oA3 o8 λ _ _ g=>?_;clear o8;rw [e] at g;exact zbb ot bo ro rd n q.1 q.2 g
 have hk:∀ q b p,ok q->O q=.kept b p->ok (b,p):=λ q b p hq e=>by
  refine oE1 (hO q hq) λ _ o8=>oA3 o8 λ _ _ g=>?_;clear o8;rw [e] at g;cases e1:atC (zj bs rs j).cells q.1 q.2 with
  | none=>rw [e1] at g;exact g.elim
  | some x =>
   rw [e1] at g;obtain ⟨c,g1,g2⟩:=g;exact ⟨c,g1,(aa.mp g2).1⟩
 walk_at "T";refine ⟨_,(zh (zu 3 Qb.nd (pq 1))  (zh (zu 4 Qb.nd (pq 2))  (zh (zaM qX (zl Jd (pq 4) ze (zq _))  (zh (zu 5 Qb.nd (zr (zr (zm (pq 0) rfl) (zr (pq 3) ze)) (zr (pq 3) ze)))  (zh (zF (zl ja (pq 5) zA (zq _))  (zd (zk zA))  zp)  (zh (zh8 (i:=4) Qb.nd rfl (Or.inl rfl) ze ziD)  (zh (zF (zl (qx hr.units1) (zr (pq 5) ze) zO (zq _))  (zd (zk (QX ⟨rfl,rfl,rfl⟩ hr (pq 0) (za (pq 5) (za (pq 4) zb)))))  zp)  (zh (zu 3 Qb.nd (jn (za (zr (pq 5) ze) (za (zr (pq 5) ze) zb))))  (zd (zF (zl (qx hr.units1) (pq 3) (pq 1) (zq _))  (zd (zu 4 Qb.nd (zJ jo (pq 4) (zJ vn (pq 2) (pq 4)))))  zp))))))))  (zd (zk (zr (zr (zm (zm (pq 0) rfl) rfl) (zr (pq 3) ze)) (zr (pq 3) ze))))))),?_⟩;left;have ok0:ok (b,p):=⟨c,hc,hp⟩;have k:∀ v H',Same H H'->Rep H' (z8 H') v (zX (C N (b,p)))->Q v H':=k;refine ⟨λ l σ H'=>∃ (tc:Addr) (q:Nat × Nat) (v5:Aq),σ=[some (.ref z),some (.ref t),some (.int N),some (.ref tc),some (.int l),v5]/\Same H H'/\H' tc=some (.tup [.int q.1,.int q.2])/\zht C O (b,p) N l q/\ok q,(iE4 N t (b,p) none (iA5 rfl (Same.refl _) ht ⟨0,iA3 rfl rfl (.inl ⟨by lia,λ u u0 ul=>absurd u0 (by lia)⟩)⟩ ok0)),?_⟩;intro l σ H1 oj;refine oE3 oj λ tc q v5 o8=>oA5 o8 λ oi s1 htc bk okq=>?_;ext;have lo1:=lo.same s1;have ceq:C N (b,p)=C l q:=bk.choose_spec.2.1;exists zT (λ hl=>?_) (λ hl=>?_)
 ·obtain ⟨l,rfl⟩:∃ l',l=l' + 1:=⟨l - 1,by lia⟩;refine zjd ?_;refine oE1 (hO q okq) λ os o8=>oA3 o8 λ e1 e2 og=>?_;clear o8;refine oE7 (lo1.org e1 e2) λ dx lo' lg us bl vs v o8=>oA6 o8 λ hz hlo hus hbl hvs rv=>?_;clear o8;have lc:=zbb ot bo ro rd l q.1 q.2 og;exists ra hz T.gY T.iU zco (oG htc at0 (zt (SqL.of hlo) (zD hus) (oG htc (show atI _ 1=some (.int q.2) from rfl) (zt (SqL.of hbl) (zD hvs) ?_))));cases eo:O q with
  | no =>
   rw [eo] at rv lc;have rv:Rep H1 (λ _=>True) v .non:=rv;cases rv;left;exact k _ H1 s1 (by rw [ceq];show Rep H1 _ _ (zX (atC _ _ _));rw [lc];exact .non)
  | new kk m =>
   rw [eo] at rv lc;obtain ⟨to,rfl,hto⟩:=zi3 rv;rw [eo] at og;obtain ⟨x,xs,hg⟩:∃ x xs,(zj bs rs i).gone[kk]?=some (x :: xs):=by
    cases e3:atC (zj bs rs j).cells q.1 q.2 with
    | none=>rw [e3] at og;exact og.elim
    | some w2=>rw [e3] at og;obtain ⟨_,_,_,g0,gs,h⟩:=og;exact ⟨g0,gs,h⟩
   have ex:gAt (zj bs rs i).gone kk 0=x:=by unfold gAt;rw [ae (l:=(zj bs rs i).gone),hg];rfl
   have mo:gAt (zj bs rs i).gone kk 0<=gAt (zj bs rs j).gone kk 0:=by
    have:=QW bs rs i kk 0 (j - i);have lt:=rd.lt;rw [show i + (j - i)=j by lia] at this;exact this
   have up:=VI bs rs kk 0 j;have x0:0<=gAt (zj bs rs i).gone kk 0:=by
    have hkk:=(aa.mp hg).1;have er:=ac (l:=rs) (i:=kk) (by rw [<- w0.go.1];exact hkk);rw [ex];exact (w0.go.2 kk _ _ er hg).2 x (aY ..)
   have jl:=rd.le;change _=some ((kk:Int),gAt (zj bs rs i).gone kk 0 + (l:Int) * (gAt (zj bs rs j).gone kk 0 - gAt (zj bs rs i).gone kk 0) + m) at lc;rw [ex] at mo x0 lc;exists oG hto at0 ?_;left;rw [show ((l + 1:Nat):Int) - 1=(l:Int) by lia];refine iE7 z a.q dx _ _ _ _ (iA5 rfl hz (za9 (by symm) (by symm) (by symm) (by symm)) ((XD T).mono) ⟨z,y0,to,n0,_,_,oss,kk,m,l,x,xs,rfl,lo1,hto,hg,by rw [w0.go.1,w1.go.1],by lia,by lia,λ t' H' s' ht'=>k _ _ (s1.trans s') ?_⟩);rw [ceq];show Rep H' _ _ (zX (atC _ _ _))
   rw [lc];exact Reps.mkT (vs:=[.int kk,.int (x + l * (gAt (zj bs rs j).gone kk 0 - x) + m)]) (.cons .int (.cons .int .nil)) ⟨_,ht'⟩ ht'
  | kept b' p' =>
   rw [eo] at rv lc;obtain ⟨to,rfl,hto⟩:=zi3 (m:=(p':Int)) rv;obtain ⟨n1,n2⟩:=zeG hC hk ok0 bk eo;have okn:=hk q b' p' okq eo;exists oG hto at0 ?_;exists zT (λ z=>absurd z (by symm)) λ _=>oG hto (show atI _ 1=some (.int b') from rfl) (oG hto (show atI _ 2=some (.int p') from rfl) λ p1 hp1=>?_);have s2:=zf (o:=.tup [.int b',.int p']) hp1;have h2:upd H1 p1 (.tup [.int b',.int p']) p1=some (.tup (iv [(b':Int),(p':Int)])):=oB;have ht2:upd H1 p1 (.tup [.int b',.int p']) t=some (.tup (iv [(b:Int),(p:Int)])):=s2 _ _ (s1 _ _ ht);refine .inr (.inl (iE4 p1 t _ _ (iA6 rfl rfl (.inr ⟨SqT.of h2,SqT.of ht2⟩) rfl rfl ?_)));rw [show ((l + 1:Nat):Int) - 1=(l:Int) by lia,ZN];by_cases e3:(b',p')=(b,p)
   ·obtain ⟨d0,bk2⟩:=n2 e3;rw [bg (by cases e3;rfl)];refine ⟨by lia,⟨l % (N - l),⟨?_,iE3 p1 (b,p) (some (.ref to)) (iA5 ?_ (s1.trans s2) ?_ bk2 ok0)⟩⟩⟩
    ·exact Nat.lt_succ_of_le (Nat.mod_le _ _)
    ·rw [show (l:Int) % ((N:Int) - l)=((l % (N - l):Nat):Int) by rw [ee,Int.natCast_sub (by lia)]]
    ·cases e3;exact oB
   ·rw [a8 (λ z=>e3 (by simp at z;exact Prod.ext (by show b'=b;lia) (by show p'=p;lia)))];exact ⟨l,⟨by lia,iE3 p1 (b',p') _ (iA5 rfl (s1.trans s2) oB (n1 e3) okn)⟩⟩
 ·have l0:l=0:=by lia
  subst l0;obtain ⟨c1,g1,g2⟩:=okq;refine oE4 lo1.ex λ dx lo' lg gs o8=>oA3 o8 λ hz _ _=>?_;clear o8;obtain ⟨bq,us,hb,hu,ru⟩:=lo1.so.hc.at (i:=q.1) (xs:=c1.map zX) (by rw [zV,ak,g1];rfl);have lu:us.length=c1.length:=by rw [ru.len,ah]
  obtain ⟨v,hv⟩:∃ v,us[q.2]?=some v:=⟨_,ac (by lia)⟩;obtain ⟨d,hd,rv⟩:=ru.at hv;rw [ak,am] at hd;obtain ⟨wr,hwr,rfl⟩:=hd;exists ra hz T.gY T.hJ xL (ra lo1.so.hy T.ad T.gM rfl (oG htc at0 (zt (SqL.of lo1.so.hc.out) (zD (by rw [ak,hb];rfl)) (oG htc (show atI _ 1=some (.int q.2) from rfl) (zt (SqL.of hu) (zD hv) (k _ H1 s1 ?_))))));have e0:C 0 q=wr:=by
   show atC (zj bs rs (i + 0 * (j - i))).cells q.1 q.2=wr
   rw [Nat.zero_mul,Nat.add_zero];unfold atC;rw [ae,ae,g1,aT,hwr]
   rfl
  rw [ceq,e0];exact rv
def Vp (a:Ad):Sp:=λ vs H Q _=>∃ (z y0:Addr) (n0:SN) (oss:List (List Org)) (bs:A1) (rs:At) (lim i j N:Nat),vs=[.ref z,.int N]/\LapO a H z y0 n0 (zj bs rs i) (zj bs rs j) oss/\zY bs rs/\(∀ b∈bs,zH b.1 b.2)/\(∀ r∈rs,r.ok)/\RoundAt bs rs lim i j/\lim<=1000/\∀ l H',Same H H'->Rep H' (Off []) (.ref l) (.lst ((zV (zj bs rs (i + N * (j - i))).cells).map D.lst))->Q (.ref l) H'
def Qn (T:Txt K mg a):MCal P w K mg base a.q "cells_after" 3 ["self","rounds"] [] (Vp a):=T.iX.cal T.gY λ F=>by
 refine F.okx ZR ?_ ?_
 ·walk_at "i"
 walk_at "j";refine oE8 h λ z y0 n0 oss bs rs lim i o8=>oE2 o8 λ j N oi=>oA8 oi λ ou lo ot bo ro rd l1000 k=>?_;clear o8 oi h;subst ou;have w0:=qg ot bo ro i;have wN:=qg ot bo ro (i + N * (j - i));have lc:n0.acs.length=bs.length:=by rw [lo.so.hc.len,zV,ah,w0.co.1]
 have b24:=ot.1.1.2;walk_at "T";refine ⟨_,(zh (zu 2 ZR.nd (zL zb))  (zh (qB qX rfl (qS (za (zm (zm (pq 0) rfl) rfl) zb)) (wv (n:=2) rfl (qc (Zn (i:=3) ZR.nd rfl (Or.inr rfl)) (qc (qp 4 ZR.nd) xf)))  (zd (zG (qC aq az ay zQ (pq 2) (za (jI (vars:=["place"]) (caps:=[1,0,3]) (N:=["place","rounds","self","belt"]) (ON:=["self","rounds","cells","belt","old"]) (osc:=zg jb) rfl rfl (by right) rfl rfl (vh (za (qb qa z9 (za (pq 4) zb)) zb)) (λ _ _ _ _=>(qp 0 (show (["place","rounds","self","belt"]:A8).Nodup from by symm))) (λ _ _ _ _=>ql) (λ _ _ _ _=>(zgU hr (pq 2) (za (jn (za (pq 3) (za (pq 0) zb))) (za (pq 1) zb))))) zb)))))  (zd (zk (pq 2))))),?_⟩;left;intro C hC;have sC:=zf (o:=.lst []) hC;have hC1:upd H C (.lst []) C=some (.lst []):=oB;generalize upd H C (.lst [])=H1 at sC hC1 ⊢;refine oE4 lo.ex λ dx lo' lg gs o8=>oA3 o8 λ hz _ _=>?_;clear o8;walk_at "e";exists ra (sC _ _ hz) T.gY T.hJ xL (ra ((lo.so.same sC).hy) T.ad T.gM rfl (iE2 n0.lc _ (iA3 rfl (sC _ _ lo.so.hc.out) ?_)));refine XR (K:=K) (a:=n0.lc) (xs:=n0.acs.map V.ref) (λ b σ H'=>∃ (v3 v4:Aq) (us:Ap),σ=[some (.ref z),some (.int N),some (.ref C),v3,v4]/\Same H H'/\H' C=some (.lst us)/\Reps H' (Off [C]) us ((zV ((zj bs rs (i + N * (j - i))).cells.take b)).map D.lst)) (iE3 _ _ ([]) (iA4 rfl sC hC1 (by rw [bJ];exact .nil))) (λ b σ H' _ h=>by obtain ⟨_,_,_,_,s,_⟩:=h;exact SqL.of (s _ _ lo.so.hc.out)) ?_ ?_
 ·intro b x t σ H2 hb ht oj;refine oE3 oj λ v3 v4 us o8=>oA4 o8 λ oi s2 hC2 ru=>?_;ext;rw [ak,am] at hb;obtain ⟨cb,hcb,rfl⟩:=hb;have hbl:b < bs.length:=by rw [<- lc];exact (aa.mp hcb).1
  have eb:=ac hbl;obtain ⟨c,ec⟩:∃ c,(zj bs rs i).cells[b]?=some c:=⟨_,ac (by rw [w0.co.1];exact hbl)⟩;obtain ⟨cN,eN⟩:∃ c,(zj bs rs (i + N * (j - i))).cells[b]?=some c:=⟨_,ac (by rw [wN.co.1];exact hbl)⟩;have l1:=(w0.co.2 b _ c eb ec).1;have l2:=(wN.co.2 b _ cN eb eN).1;have bk:=(bo _ (af eb)).2.1;obtain ⟨vs,hvs,rvs⟩:=lo.so.hc.g b cb _ hcb (show (zV (zj bs rs i).cells)[b]?=some (c.map zX) by rw [zV,ak,ec];rfl);have lv:vs.length=c.length:=by rw [rvs.len,ah]
  have lus:us.length<=b:=by rw [ru.len,ah,ah,aJ];exact eI _ _
  have st:=zf (o:=.tup [.int b,.ref cb]) ht;have s3:=s2.trans st;have hC3:=st _ _ hC2;have ru3:=ru.same st;refine un2 oB ?_;generalize upd H2 t (.tup [.int b,.ref cb])=H3 at s3 hC3 ru3 ⊢;left;walk_at "d";exists iA4 (.inl ⟨rfl,_,SqL.of hC3⟩) kM io ⟨_,⟨.inl ⟨_,SqL.of (s3 _ _ hvs),rfl⟩,?_⟩⟩;rw [lv];refine ⟨by lia,by lia,λ _ _ _ _ Z hZ=>?_⟩;have nZC:Z≠C:=(oE hC3 hZ).symm;refine Qu (n:=((c.length:Nat):Int).toNat) (λ q σ H'=>∃ (v0:Aq) (ws:Ap),σ=[v0,some (.int N),some (.ref z),some (.int b)]/\Same H3 H'/\H' Z=some (.lst ws)/\Reps H' (Off [C,Z]) ws ((cN.take q).map zX)) (iE2 _ ([]) (iA4 rfl (zf hZ) oB (by rw [bJ];exact .nil))) ?_ ?_
  ·intro q σ H4 hq oj;refine oE2 oj λ v0 ws o8=>oA4 o8 λ oi s4 hZ4 rw4=>?_;ext;rw [ax] at hq;have s34:=s3.trans s4;have lo4:=lo.same s34;obtain ⟨wr,hwr⟩:∃ wr,cN[q]?=some wr:=⟨_,ac (by rw [l2,<- l1];exact hq)⟩;have lw:ws.length<=q:=by rw [rw4.len,ah,aJ];exact eI _ _
   left;simp only [dB];refine iE7 z a.q dx _ _ _ _ (iA5 rfl (s34 _ _ hz) (za9 (by symm) (by symm) (by symm) (by symm)) ((QZ T).mono) (λ t2 ht2=>?_));have s5:=zf (o:=.tup [.int b,.int q]) ht2;refine iE8 z y0 t2 n0 oss bs rs lim (iE6 i j N b q c (iA9 rfl (lo4.same s5) ot bo ro rd l1000 oB (iA3 ec hq (λ v H6 s6 rv=>?_))));have atN:atC (zj bs rs (i + N * (j - i))).cells b q=wr:=by
    unfold atC;rw [ae,ae,eN,aT,hwr]
    rfl
   rw [atN] at rv;have s46:=s5.trans s6;have hZ6:=s46 _ _ hZ4;have hC6:=s46 _ _ (s4 _ _ hC3);have fm:Fr [C,Z] H6 (upd H6 Z (.lst (ws ++ [v]))):=qw (by simp);refine ⟨_,iA3 hZ6 (zn (by lia)) (iE2 _ (ws ++ [v]) (iA4 rfl (λ b o hb=>by rw [oC (oE hb hZ)];exact s46 _ _ (s4 b o hb)) oB ?_))⟩;rw [aH,hwr,aV];refine ((rw4.same s46).fr fm).append (.one (Rep.fr (rv.keep λ b o hb ho=>⟨λ e=>?_,ho⟩) fm));obtain ⟨xs,hx⟩:=hb;simp only [ar,a9,bz] at e;rcases e with rfl|rfl
   ·rw [hC6] at hx;cases hx
   ·rw [hZ6] at hx;cases hx
  intro σ H4 oj;refine oE2 oj λ v0 ws o8=>oA4 o8 λ oi s4 hZ4 rw4=>?_;ext;rw [ax,show c.length=cN.length from l1.trans l2.symm,aM] at rw4;have fm:Fr [C] H4 (upd H4 C (.lst (us ++ [.ref Z]))):=qw (by simp);have lo':∀ b∈[C],b∈[C,Z]\/H4 b=none:=λ b hb=>.inl (by simp [aw.mp hb]);refine iE3 C _ _ (iA5 rfl rfl (s4 _ _ hC3) (zn (by lia)) ?_);refine iE3 _ _ (us ++ [.ref Z]) (iA4 rfl (λ b o hb=>by rw [oC (oE hb hC)];exact s4 _ _ (s3 b o hb)) oB ?_);rw [aH,eN,cV,show (zV ((zj bs rs (i + N * (j - i))).cells.take b ++ [cN])).map D.lst=(zV ((zj bs rs (i + N * (j - i))).cells.take b)).map D.lst ++ [.lst (cN.map zX)] by simp [zV]];exact ((ru3.same s4).append (.one ((rw4.more lo').mk' (by simp [Off,nZC]) hZ4))).fr fm
 ·intro σ H2 oj;refine oE3 oj λ v3 v4 us o8=>oA4 o8 λ oi s2 hC2 ru=>?_;ext;rw [ah,lc,<- wN.co.1,aM] at ru;left;exact k C H2 s2 (ru.all.mk' (λ z=>nomatch z) hC2)
def zar (a:Ad):Sp:=λ vs H Q _=>∃ (z y0:Addr) (n0:SN) (oss:List (List Org)) (bs:A1) (rs:At) (lim i j N:Nat),vs=[.ref z,.int N]/\LapO a H z y0 n0 (zj bs rs i) (zj bs rs j) oss/\zY bs rs/\(∀ b∈bs,zH b.1 b.2)/\(∀ r∈rs,r.ok)/\RoundAt bs rs lim i j/\lim<=1000/\∀ l H',Same H H'->Rep H' (Off []) (.ref l) (.lst ((qt (zj bs rs (i + N * (j - i))).gone).map D.lst))->Q (.ref l) H'
def Q0 (T:Txt K mg a):MCal P w K mg base a.q "gone_after" 1 ["self","rounds"] [] (zar a):=T.i9.cal T.gY λ F=>by
 refine F.okx Qc ?_ ?_
 ·walk_at "i"
 walk_at "j";refine oE8 h λ z y0 n0 oss bs rs lim i o8=>oE2 o8 λ j N oi=>oA8 oi λ ou lo ot bo ro rd l1000 k=>?_;clear o8 oi h;subst ou;have w0:=qg ot bo ro i;have w1:=qg ot bo ro j;have wN:=qg ot bo ro (i + N * (j - i));refine oE4 lo.ex λ dx lo' lg gs o8=>oA3 o8 λ hz _ ng=>?_;clear o8;have la:n0.ags.length=rs.length:=by rw [lo.so.hg.len,qt,ah,w0.go.1]
 have lb:gs.length=rs.length:=by rw [ng.len,qt,ah,xA,gy,w0.go.1,w1.go.1,fM]
 have r24:=ot.1.2.2;walk_at "T";refine ⟨_,(zh (zu 2 Qc.nd (zL zb))  (zh (qB qX rfl (zfn (za (zm (zm (pq 0) rfl) rfl) (za (zm (pq 0) rfl) zb))) (wv (n:=2) rfl (qc (Zn (i:=3) Qc.nd rfl (Or.inr rfl)) (qc (Zn (i:=4) Qc.nd rfl (Or.inr rfl)) xf)))  (zd (zG (qC aq az ay zQ (pq 2) (za (jI (vars:=["place"]) (caps:=[3,1,4]) (N:=["place","old","rounds","more"]) (ON:=["self","rounds","gone","old","more"]) (osc:=zg ju) rfl rfl (by right) rfl rfl (vh (za (qb qa z9 (za (pq 3) zb)) zb)) (λ _ _ _ _=>(qp 0 (show (["place","old","rounds","more"]:A8).Nodup from by symm))) (λ _ _ _ _=>ql) (λ _ _ _ _=>(zJ qd (zr (pq 1) (pq 0)) (zJ vV (pq 2) (zr (pq 3) (pq 0)))))) zb)))))  (zd (zk (pq 2))))),?_⟩;left;intro C hC;have sC:=zf (o:=.lst []) hC;have hC1:upd H C (.lst []) C=some (.lst []):=oB;generalize upd H C (.lst [])=H1 at sC hC1 ⊢;walk_at "e";exists ra (sC _ _ hz) T.gY T.hJ xL (ra ((lo.so.same sC).hy) T.ad T.gP rfl (ra (sC _ _ hz) T.gY T.iM WH (iE6 true true n0.lg lg _ _ (iA4 rfl (SqL.of (sC _ _ lo.so.hg.out)) (SqL.of (sC _ _ ng.out)) ?_))));refine zhH (K:=K) (xs:=n0.ags.map V.ref) (ys:=gs.map V.ref) (λ q σ H'=>∃ (v3 v4:Aq) (us:Ap),σ=[some (.ref z),some (.int N),some (.ref C),v3,v4]/\Same H H'/\H' C=some (.lst us)/\Reps H' (Off [C]) us ((qt ((zj bs rs (i + N * (j - i))).gone.take q)).map D.lst)) (iE3 _ _ ([]) (iA4 rfl sC hC1 (by rw [bJ];exact .nil))) (λ q σ H' _ h=>by obtain ⟨_,_,_,_,s,_⟩:=h;exact ⟨SqL.of (s _ _ lo.so.hg.out),SqL.of (s _ _ ng.out)⟩) ?_ ?_
 ·intro q x x' t σ H2 hq hq' ht oj;refine oE3 oj λ v3 v4 us o8=>oA4 o8 λ oi s2 hC2 ru=>?_;ext;rw [ak,am] at hq hq';obtain ⟨b0,hb0,rfl⟩:=hq;obtain ⟨b1,hb1,rfl⟩:=hq';have hql:q < rs.length:=by rw [<- la];exact (aa.mp hb0).1
  have er:=ac hql;obtain ⟨g0,e0⟩:∃ g,(zj bs rs i).gone[q]?=some g:=⟨_,ac (by rw [w0.go.1];exact hql)⟩;obtain ⟨g1,e1⟩:∃ g,(zj bs rs j).gone[q]?=some g:=⟨_,ac (by rw [w1.go.1];exact hql)⟩;obtain ⟨gN,eN⟩:∃ g,(zj bs rs (i + N * (j - i))).gone[q]?=some g:=⟨_,ac (by rw [wN.go.1];exact hql)⟩;have l0:=(w0.go.2 q _ g0 er e0).1;have l1:=(w1.go.2 q _ g1 er e1).1;have lN:=(wN.go.2 q _ gN er eN).1;have cp:=x9 (ro _ (af er));have eg:(xA (zj bs rs i).gone (zj bs rs j).gone)[q]?=some (vD g0 g1):=by unfold xA;rw [fY,e0,e1]
  obtain ⟨c0,q0,h0⟩:=vv lo.so.hg e0;obtain ⟨c1,q1,h1⟩:=vv ng eg;rw [hb0] at q0;cases q0;rw [hb1] at q1;cases q1;have lus:us.length<=q:=by rw [ru.len,ah,ah,aJ];exact eI _ _
  have st:=zf (o:=.tup [.ref b0,.ref b1]) ht;have s3:=s2.trans st;have hC3:=st _ _ hC2;have ru3:=ru.same st;refine un2 oB ?_;generalize upd H2 t (.tup [.ref b0,.ref b1])=H3 at s3 hC3 ru3 ⊢;left;walk_at "d";exists iA4 (.inl ⟨rfl,_,SqL.of hC3⟩) kM io ⟨_,⟨.inl ⟨_,SqL.of (s3 _ _ h0),rfl⟩,?_⟩⟩;rw [zK];refine ⟨by lia,by lia,λ _ _ _ _ Z hZ=>?_⟩;have nZC:Z≠C:=(oE hC3 hZ).symm;refine Qu (n:=((g0.length:Nat):Int).toNat) (λ p σ H'=>∃ (v0:Aq),σ=[v0,some (.ref b0),some (.int N),some (.ref b1)]/\Same H3 H'/\H' Z=some (.lst (iv (gN.take p)))) ⟨_,iA3 rfl (zf hZ) oB⟩ ?_ ?_
  ·intro p σ H4 hp oj;refine oE1 oj λ v0 o8=>oA3 o8 λ oi s4 hZ4=>?_;ext;rw [ax] at hp;have s34:=s3.trans s4;have lp:=(zg5 ot bo ro rd N).2 q p;have m0:=QW bs rs i q p (j - i);have up:=VI bs rs q p j;have lt:=rd.lt;have le:=rd.le;rw [Nat.add_sub_of_le (bU lt)] at m0;have m0:gAt (zj bs rs i).gone q p<=gAt (zj bs rs j).gone q p:=m0;have x0:g0[p]?=some (gAt (zj bs rs i).gone q p):=by
    unfold gAt;rw [ae (l:=(zj bs rs i).gone),e0,aT];exact qr hp
   have x1:(vD g0 g1)[p]?=some (gAt (zj bs rs j).gone q p - gAt (zj bs rs i).gone q p):=by
    unfold vD gAt;rw [ak,gz hp,ae (l:=(zj bs rs i).gone),ae (l:=(zj bs rs j).gone),e0,e1]
    rfl
   have xN:gN[p]?=some (gAt (zj bs rs (i + N * (j - i))).gone q p):=by
    unfold gAt;rw [ae (l:=(zj bs rs (i + N * (j - i))).gone),eN,aT];exact qr (by lia)
   have p0:0<=gAt (zj bs rs i).gone q p:=(w0.go.2 q _ g0 er e0).2 _ (af x0);left;simp only [dB];refine zt (SqL.of (s34 _ _ h0)) (zD (jD x0)) (zt (SqL.of (s34 _ _ h1)) (zD (jD x1)) ?_);exists ⟨mul_okR (by lia) (by lia),?_⟩;exists ⟨_,iA3 hZ4 (zn (by rw [zK,aJ];lia)) ⟨_,iA3 rfl (λ b o hb=>by rw [oC (oE hb hZ)];exact s4 b o hb) ?_⟩⟩;rw [oB,jd,aH,xN,lp]
   rfl
  intro σ H4 oj;refine oE1 oj λ v0 o8=>oA3 o8 λ oi s4 hZ4=>?_;ext;rw [show ((g0.length:Nat):Int).toNat=gN.length by lia,aM] at hZ4;have fm:Fr [C] H4 (upd H4 C (.lst (us ++ [.ref Z]))):=qw (by simp);refine iE3 C _ _ (iA5 rfl rfl (s4 _ _ hC3) (zn (by lia)) ?_);refine iE3 _ _ (us ++ [.ref Z]) (iA4 rfl (λ b o hb=>by rw [oC (oE hb hC)];exact s4 _ _ (s3 b o hb)) oB ?_);rw [aH,eN,cV,show (qt ((zj bs rs (i + N * (j - i))).gone.take q ++ [gN])).map D.lst=(qt ((zj bs rs (i + N * (j - i))).gone.take q)).map D.lst ++ [.ints gN] by simp [qt]];exact ((ru3.same s4).append (.one (qm (by simp [Off,nZC]) hZ4))).fr fm
 ·intro σ H2 oj;refine oE3 oj λ v3 v4 us o8=>oA4 o8 λ oi s2 hC2 ru=>?_;ext;rw [ah,ah,la,lb,fM,<- wN.go.1,aM] at ru;left;exact k C H2 s2 (ru.all.mk' (λ z=>nomatch z) hC2)
def Vn (a:Ad):Sp:=λ vs H Q _=>∃ (z y0:Addr) (n0:SN) (oss:List (List Org)) (bs:A1) (rs:At) (lim i j N:Nat),vs=[.ref z,.int N]/\LapO a H z y0 n0 (zj bs rs i) (zj bs rs j) oss/\zY bs rs/\(∀ b∈bs,zH b.1 b.2)/\(∀ r∈rs,r.ok)/\RoundAt bs rs lim i j/\lim<=1000/\∀ v H',Same H H'->StNew a H H' v (zj bs rs (i + N * (j - i)))->Q v H'
def Qm (T:Txt K mg a):MCal P w K mg base a.q "state_after" 4 ["self","rounds"] [] (Vn a):=T.iY.cal T.gY λ F=>by
 refine F.okx ZQ ?_ ?_
 ·walk_at "i"
 walk_at "j";refine oE8 h λ z y0 n0 oss bs rs lim i o8=>oE2 o8 λ j N oi=>oA8 oi λ ou lo ot bo ro rd l1000 k=>?_;clear o8 oi h;subst ou;refine oE4 lo.ex λ dx lo' lg gs o8=>oA3 o8 λ hz _ _=>?_;clear o8;have lt:=rd.lt;have le:=rd.le;have wN:=qg ot bo ro (i + N * (j - i));have b24:=ot.1.1.2;have r24:=ot.1.2.2;walk_at "T";refine ⟨_,(zh (zu 2 ZQ.nd (zJ qd (zm (zm (pq 0) rfl) rfl) (zJ vV (pq 1) (zm (pq 0) rfl))))  (zd (zk (qW (x:="State") ⟨rfl,rfl,rfl⟩ hr (za (pq 2) (za (QX ⟨rfl,rfl,rfl⟩ hr (pq 0) (za (pq 1) zb)) (za (zm (zm (pq 0) rfl) rfl) (za (QX ⟨rfl,rfl,rfl⟩ hr (pq 0) (za (pq 1) zb)) zb)))))))),?_⟩;exists ra hz T.gY T.hJ xL (ra lo.so.hy T.ad T.gS rfl (ra hz T.gY T.ix Q1 ?_));left;rw [jZ,jZ];refine ⟨mul_okR (by lia) (by lia),?_⟩;left;have et:(i:Int) + (N:Int) * ((j:Int) - i)=(zj bs rs (i + N * (j - i))).turn:=by
  rw [jZ,Int.natCast_add,Int.natCast_mul,Int.natCast_sub (by lia)]
 rw [et];refine iE4 a.b _ _ _ ⟨(VW T).mono,iE7 z a.q dx _ _ _ _ (iA5 rfl hz (za9 (by symm) (by symm) (by symm) (by symm)) ((Qn T).mono) ⟨z,y0,n0,oss,bs,rs,lim,i,j,N,rfl,lo,ot,bo,ro,rd,l1000,λ lc H1 s1 rc=>?_⟩)⟩;have lo1:=lo.same s1;refine ra (s1 _ _ hz) T.gY T.hJ xL (ra lo1.so.hy T.ad T.gW rfl (iE7 z a.q dx _ _ _ _ (iA5 rfl (s1 _ _ hz) (za9 (by symm) (by symm) (by symm) (by symm)) ((Q0 T).mono) ⟨z,y0,n0,oss,bs,rs,lim,i,j,N,rfl,lo1,ot,bo,ro,rd,l1000,λ lg2 H2 s2 rg=>?_⟩)));have lo2:=lo1.same s2;have hs:=lo2.so.hs;rw [(zg5 ot bo ro rd N).1.si] at hs;refine Xz T (st:=zj bs rs (i + N * (j - i))) (rc.same s2) (qm (p:=Off []) (λ z=>nomatch z) hs) rg (by rw [wN.co.1];lia) (by rw [wN.go.1];lia) λ y H3 s3 sn=>?_;refine oE2 sn λ y' n o8=>oA5 o8 λ e so ny nd nn=>?_;clear o8 sn;have s12:=s1.trans s2;exact k _ H3 (s12.trans s3) (iE2 y' n (iA5 e so (zw s12 ny) (zw s12 nd) (λ b hb=>zw s12 (nn b hb))))
inductive spLeapt (a:Ad) (vs:Ap) (H:Hp) (Q:VK) (E:XK):Prop
 | i (vw:V) (n lim:Nat) (bs:A1) (rs:At):vs=[vw,.int n,.int lim]->Rep H (Off []) vw (qy a bs rs)->zY bs rs->(∀ b∈bs,zH b.1 b.2)->(∀ r∈rs,r.ok)->lim<=1000->(∀ i j v H',RoundAt bs rs lim i j->Same H H'->StNew a H H' v (zj bs rs n)->Q v H')->(JS bs rs lim->∀ H',Same H H'->E (.ref a.h) none H')->spLeapt a vs H Q E
def zfu (T:Txt K mg a) (F:FunD K "leapt" "leapt" wT f fd):FnOk P w K mg base (CXr P w) 9 f fd ["work","turns","limit"] (spLeapt a):=by
 refine F.okx ze5 ?_ ?_
 ·walk_at "i"
 walk_at "j";rcases h with ⟨vw,n,lim,bs,rs,rfl,hv,ot,bo,ro,l1000,kQ,kE⟩;walk_at "T";refine ⟨_,(zh (zu 3 ze5.nd ‹(pq 0) (za (pq 2) zb)›)  (zh (zu 4 ze5.nd (qW (x:="Lap") ⟨rfl,rfl,rfl⟩ hr (za (zr (pq 3) ze) (za (zr (pq 3) ze) zb))))  (zh (zu 5 ze5.nd (zm (zr (pq 3) ze) rfl))  (zh (zF (zl zft (pq 1) (pq 5) (zq _))  (zd (zk ‹(pq 0) (za (pq 1) zb)›))  zp)  (zh (zu 6 ze5.nd (QX ⟨rfl,rfl,rfl⟩ hr (pq 4) (za (zJ zcY (zJ vn (pq 1) (pq 5)) (zm (pq 4) rfl)) zb)))  (zh (qB qX rfl (vh (za (zJ jo (zJ vn (pq 1) (pq 5)) (zm (pq 4) rfl)) zb)) (qp 7 ze5.nd)  (zd (zG ‹(pq 0) (za (pq 6) zb)›)))  (zd (zk (pq 6))))))))),?_⟩;exists uc (V8 T).mono (iE4 vw lim bs rs (iA8 rfl hv ot bo ro l1000 (λ i j t y0 y1 n0 n1 H1 rd s1 ht so0 so1=>?_) kE));have w0:=qg ot bo ro i;have w1:=qg ot bo ro j;have b24:=ot.1.1.2;have r24:=ot.1.2.2;exists iE4 a.q _ _ _ ⟨(zjq T).mono,oG ht at0 (oG ht (show atI _ 1=some (.ref y1) from rfl) ?_)⟩;intro z dz hz hdz hne;have sN:Same H1 (upd (upd H1 dz (.own z)) z (.ins a.q dz [])):=(zf hdz).trans (zf (by rw [oC (a7 hne)];exact hz));obtain ⟨gl,gr⟩:=zeq ro w0 w1;have c6:∀ {s:PSt},stWf bs rs s->∀ c∈s.cells,c.length<=6/\∀ wr∈c,vJ rs wr:=λ w c hc=>by
  obtain ⟨q,hq⟩:=bx hc;have eb:=ac (l:=bs) (i:=q) (by rw [<- w.co.1];exact (aa.mp hq).1);obtain ⟨l,wk⟩:=w.co.2 q _ c eb hq;have:=(bo _ (af eb)).2.1;exact ⟨by lia,wk⟩
 refine iE5 z dz y0 y1 n0 (iE4 n1 _ _ H1 (iA9 rfl oB sN hz so0 so1 (by rw [w0.co.1];exact b24) (λ c hc=>(c6 w0 c hc).1) (iA6 (by rw [w1.co.1];exact b24) (λ c hc=>⟨(c6 w1 c hc).1,λ wr hw x ex=>?_⟩) gl (by rw [w0.go.1];exact r24) gr (λ lo lg gs oss H2 s2 hz2 ro2 ok2 ng2=>⟨rfl,?_⟩))))
 ·refine oE2 ((c6 w1 c hc).2 wr hw x.1 x.2 (by rw [ex])) λ q r o8=>oA3 o8 λ e1 hr' _=>?_;clear o8;obtain ⟨g,eg⟩:∃ g,(zj bs rs i).gone[q]?=some g:=⟨_,ac (by rw [w0.go.1];exact (aa.mp hr').1)⟩;have:=(w0.go.2 q r g hr' eg).1;have:=x9 (ro r (af hr'));cases g with
  | nil=>simp at *;lia
  | cons g0 gs=>exact ⟨q,g0,gs,e1,eg⟩
 have lo2:LapO a H2 z y0 n0 (zj bs rs i) (zj bs rs j) oss:=⟨⟨dz,lo,lg,gs,hz2,ro2.keep λ b o _ ho=>⟨trivial,ho⟩,ng2⟩,so0.same s2,ok2⟩;have s02:=s1.trans s2;have lt:=rd.lt;have le:=rd.le;have kQ:∀ v H3 H',Same H H3->Same H3 H'->StNew a H3 H' v (zj bs rs n)->Q v H':=λ v H3 H' sA sB sn=>by
  refine oE2 sn λ y' n' o8=>oA5 o8 λ e so ny nd nn=>?_;clear o8 sn;exact kQ i j v H' rd (sA.trans sB) (iE2 y' n' (iA5 e so (zw sA ny) (zw sA nd) (λ b hb=>zw sA (nn b hb))))
 refine oG (s2 _ _ ht) at0 (ra lo2.so.hy T.ad T.gS rfl ?_);rw [jZ];exists zT (λ hn=>?_) (λ hn=>?_)
 ·exact uc (zgc T).mono (iE4 vw n bs rs (iA7 rfl (hv.same s02) ot bo ro (by lia) (λ v' H' s' sn=>kQ v' H2 H' s02 s' sn)))
 left;have tl:(zj bs rs j).turn - (zj bs rs i).turn=((j - i:Nat):Int):=by rw [jZ,jZ];lia
 have d0:(0:Int) < ((j - i:Nat):Int):=by lia
 refine iE7 z a.q dz _ _ _ _ (iA5 rfl hz2 (za9 (by symm) (by symm) (by symm) (by symm)) ((Qm T).mono) (iE5 z a.q dz _ _ (iA6 rfl hz2 T.gY T.ix Q1 ?_)));rw [tl];exists ⟨fd_small d0 (by lia),?_⟩;have ed:(n:Int) - i=((n - i:Nat):Int):=by lia
 rw [fdiv_pos d0,ed,<- Int.natCast_ediv];refine iE8 z y0 n0 oss bs rs lim i (iE2 j ((n - i) / (j - i)) (iA8 rfl lo2 ot bo ro rd l1000 (λ v H3 s3 sn=>?_)));refine oE2 sn λ y ny o8=>oA5 o8 λ oi so3 fy fd' fn=>?_;clear o8 sn;subst oi;have s03:=s02.trans s3;have na:∀ b∈y :: ny.all,H2 b=none:=λ b hb=>by
  rcases ar.mp hb with rfl|hb
  ·exact fy
  ·exact fn b hb
 have na0:∀ b∈y :: ny.all,H b=none:=λ b hb=>zw s02 (na b hb);have hw3:Rep H3 (Off (y :: ny.all)) vw (qy a bs rs):=qV (hv.more (ns:=y :: ny.all) λ b hb=>.inr (na0 b hb)) s03;have hz3:=s3 _ _ hz2;walk_at "e";exists ra hz3 T.gY T.ix Q1 ?_;rw [tl];left;rw [ed,<- ee];have rl:(n - i) % (j - i) < j - i:=dA _ (by lia);refine ⟨by lia,by lia,?_⟩;refine Qu (n:=(((n - i) % (j - i):Nat):Int).toNat) (λ q σ H'=>∃ (v7:Aq),σ=[some vw,some (.int n),some (.int lim),some (.ref t),some (.ref z),some (.int i),some (.ref y),v7]/\Fr (y :: ny.all) H3 H'/\StO a H' y ny (zj bs rs (i + (n - i) / (j - i) * (j - i) + q))) ⟨_,iA3 rfl Fr.refl so3⟩ ?_ ?_
 ·intro q σ H4 hq oj;refine oE1 oj λ v7 o8=>oA3 o8 λ oi f4 so4=>?_;ext;exists uc (Ze T).mono (iE6 vw y ny _ bs rs (iA8 rfl (hw3.fr f4) so4 (qg ot bo ro _) ot bo ro (λ l us H5 f5 so5 _ _ _ _=>?_)));exact ⟨_,iA3 rfl (f4.trans f5) so5⟩
 ·intro σ H4 oj;refine oE1 oj λ v7 o8=>oA3 o8 λ oi f4 so4=>?_;ext;have en:i + (n - i) / (j - i) * (j - i) + (n - i) % (j - i)=n:=by
   have:=Nat.div_add_mod (n - i) (j - i);rw [Nat.mul_comm] at this
   lia
  rw [ax,en] at so4;left;exact kQ _ H2 H4 s02 (λ b o hb=>f4 b o (λ z=>by rw [na b z] at hb;cases hb) (s3 b o hb)) (iE2 y ny (iA5 rfl so4 fy fd' fn))
def zdq (T:Txt K mg a):Cal P w K mg base "leapt" 9 ["work","turns","limit"] [] (spLeapt a):=T.nN.cal (zfu T)
def zfB {m:Move} {x:Int × Int} (h:Rep H p v (ZI m)) (e:m.ware=some x):∃ t t1,v=.ref t/\H t=some (.tup [.int m.k,.ref t1,hdV m.fr,hdV m.to])/\H t1=some (.tup [.int x.1,.int x.2]):=by
 obtain ⟨t,us,rfl,_,ht,rr⟩:=Rep.tup' h;have g:=rr.g;obtain ⟨x0,_,rfl,h1⟩:=Zu rr.len;obtain ⟨x1,_,rfl,h2⟩:=Zu h1;obtain ⟨x2,x3,rfl⟩:=two_of h2;have a0:=g 0 x0 _ rfl rfl;have a1:=g 1 x1 _ rfl rfl;have a2:=g 2 x2 _ rfl rfl;have a3:=g 3 x3 _ rfl rfl;rw [e] at a1;obtain ⟨t1,rfl,ht1⟩:=JT a1;have opt:∀ (u:V) (o:A9),Rep H p u (zhf o)->u=hdV o:=λ u o r=>by
  cases o
  ·cases r;rfl
  ·cases r;rfl
 cases a0;rw [opt _ _ a2,opt _ _ a3] at ht;exact ⟨t,t1,rfl,ht,ht1⟩
inductive Dp:Nat->D->Prop where
 | non {n:Nat}:Dp n .non
 | int {n:Nat} {i:Int}:Dp n (.int i)
 | lst {n:Nat} {ds:List D}:(∀ d∈ds,Dp n d)->Dp (n + 1) (.lst ds)
 | tup {n:Nat} {ds:List D}:(∀ d∈ds,Dp n d)->Dp (n + 1) (.tup ds)
section
variable {H:Hp} {p q:A5} {Q:VK}
def zf7 {n:Nat} {d:D} (h:Dp n d):∀ {v v':V},Rep H p v d->Rep H q v' d->DE K H n v v' true:=by
 have all:∀ m,(List.range m).all (λ _=>true)=true:=λ m=>bS.mpr λ _ _=>rfl
 induction h with
 | non=>intro v v' r1 r2;cases r1;cases r2;exact .flat rfl rfl
 | @int n i =>
  intro v v' r1 r2;cases r1;cases r2;exact (show eqV (.int i) (.int i)=true by simp [eqV]) ▸ DE.flat rfl rfl
 | lst _ ih =>
  intro v v' r1 r2;obtain ⟨l,us,rfl,_,h1,s1⟩:=r1.lst';obtain ⟨l',us',rfl,_,h2,s2⟩:=r2.lst';by_cases e:l=l'
  ·rw [e];exact .same
  ·have:=DE.lists (e:=λ _=>true) e (SqL.of h1) (SqL.of h2) (by rw [s1.len,s2.len]) λ j x y hx hy=>by
    obtain ⟨d,hd,r⟩:=s1.at hx;exact ih d (af hd) r (s2.g j y d hy hd)
   rw [all] at this;exact this
 | tup _ ih =>
  intro v v' r1 r2;obtain ⟨l,us,rfl,_,h1,s1⟩:=r1.tup';obtain ⟨l',us',rfl,_,h2,s2⟩:=r2.tup';by_cases e:l=l'
  ·rw [e];exact .same
  ·have:=DE.tuples (e:=λ _=>true) e (SqT.of h1) (SqT.of h2) λ j x y hx hy=>by
    obtain ⟨d,hd,r⟩:=s1.at hx;exact ih d (af hd) r (s2.g j y d hy hd)
   rw [all,s1.len,s2.len,Bool.true_and,beq_self_eq_true] at this;exact this
def XU {α:Type} {f:α->D} {n:Nat} (h:∀ x,Dp n (f x)) (xs:List α):∀ d∈xs.map f,Dp n d:=λ d hd=>by
 obtain ⟨x,_,rfl⟩:=aO.mp hd;exact h x
end
section
variable {H:Hp} {p q:A5} {Q:VK}
def V2 (x:zC):Dp 1 (zX x):=by
 cases x with
 | none=>exact .non
 | some x =>
  refine .tup λ d hd=>?_;simp only [ar,a9,bz] at hd;rcases hd with rfl|rfl <;> exact .int
def zf4 {α:Type} {f:α->D} {n:Nat} (h:∀ x,Dp n (f x)) (xss:List (List α)):∀ d∈(xss.map λ xs=>xs.map f).map D.lst,Dp (n + 1) d:=λ d hd=>by
 rw [dJ] at hd;exact XU (λ xs=>.lst (XU h xs)) xss d hd
def zb7 {l l':Addr} {ds:List D} {n:Nat} (hn:n<=8) (hd:∀ d∈ds,Dp n d) (r1:Rep H p (.ref l) (.lst ds)) (r2:Rep H q (.ref l') (.lst ds)) (k:Q (.bl false) H):VH K (.ref l) (.ref l') H Q:=by
 obtain ⟨_,us,e,_,h1,s1⟩:=r1.lst';cases e;obtain ⟨_,us',e,_,h2,s2⟩:=r2.lst';cases e;exact zh1 hn (SqL.of h1) (SqL.of h2) (by rw [s1.len,s2.len]) (λ j x y hx hy=>by
  obtain ⟨d,h,r⟩:=s1.at hx;exact zf7 (hd d (af h)) r (s2.g j y d hy h)) k
def zfd {l l':Addr} {ds:List D} {n:Nat} (hn:n<=8) (hd:∀ d∈ds,Dp n d) (r1:Rep H p (.ref l) (.lst ds)) (r2:Rep H q (.ref l') (.lst ds)) (k:Q (.bl true) H):zaJ K (.ref l) (.ref l') H Q:=by
 obtain ⟨_,us,e,_,h1,s1⟩:=r1.lst';cases e;obtain ⟨_,us',e,_,h2,s2⟩:=r2.lst';cases e;exact .inr (.inr ⟨l,l',us,us',n,λ _=>true,rfl,rfl,hn,λ j x y hx hy=>by
  obtain ⟨d,h,r⟩:=s1.at hx;exact zf7 (hd d (af h)) r (s2.g j y d hy h),.inl ⟨SqL.of h1,SqL.of h2,by rw [s1.len,s2.len],by rw [bS.mpr (λ _ _=>rfl)];exact k⟩⟩)
end
theorem Zt {bs:Ai} {side:Nat}:∀ (n i:Nat) {p:Nat},JA bs side n i=some p->bs.getD p false=true
 | 0,_,_,h=>by simp [JA] at h
 | n + 1,i,p,h=>by
  unfold JA at h
  split at h
  ·rename_i hb;cases h;exact hb
  ·exact Zt n (i + 1) h
def zex {r:Row} {hs:List A9} {fs:Ai} {t:Int} {ch:Ak} (h:z7 r hs fs t side=some ch):(∀ j,ch.1=some j->hs.getD j none≠none)/\(∀ p,ch.2.1=some p->fs.getD p false=true)/\(ch.2.1=none->r.wd=.drain):=by
 unfold z7 at h
 split at h
 ·split at h
  ·rename_i hb;cases h;exact ⟨λ j z=>(nomatch z),λ p z=>by cases z;exact hb.1,λ z=>(nomatch z)⟩
  ·cases h
 ·split at h
  ·cases h
  ·rename_i e hb;cases h;exact ⟨λ j z=>by cases z;exact λ z=>hb (.inr (.inl z)),λ p z=>(nomatch z),λ _=>e⟩
 ·split at h
  ·cases h
  ·rename_i hb;rw [am] at h;obtain ⟨q,hq,rfl⟩:=h;exact ⟨λ j z=>by cases z;exact hb,λ p z=>by cases z;exact Zt _ _ hq,λ z=>(nomatch z)⟩
 ·split at h
  ·cases h
  ·rename_i hb;rw [am] at h;obtain ⟨q,hq,rfl⟩:=h;exact ⟨λ j z=>by cases z;exact hb,λ p z=>by cases z;exact Zt _ _ hq,λ z=>(nomatch z)⟩
 ·split at h
  ·cases h
  ·rename_i hb;generalize (if hs.getD 0 none=some (r.kinds.headD 0) then 0 else 1)=q at h;have q2:q=q:=rfl
   split at h
   ·rename_i hc;cases h;exact ⟨λ j z=>by cases z;exact hb,λ p z=>by cases z;exact hc,λ z=>(nomatch z)⟩
   ·cases h
 ·split at h
  ·rename_i hb;rw [am] at h;obtain ⟨q,hq,rfl⟩:=h;have:=Zt _ _ hq;rw [ae,ak] at this;refine ⟨λ j z=>?_,λ p z=>by cases z;exact hb,λ z=>(nomatch z)⟩;cases z;rw [ae];cases e:hs[q]? with
   | none=>rw [e] at this;cases this
   | some o =>
    rw [e] at this;cases o with
    | none=>cases this
    | some o=>exact λ z=>nomatch z
  ·cases h
def zhl {c:Av} (h:JE c=none):JE (qI c)=none:=by
 cases c with
 | nil=>rfl
 | cons x xs =>
  cases xs with
  | nil=>rfl
  | cons y ys=>exact h
structure MvQ (r:Row) (k:Nat) (x:Int × Int) (fb tb:A9) (qs:List A1) (gs:List A6):Prop where
 off:(fb=none/\r.wd=.source/\x=((k:Int),gAt gs k 0))\/∃ (i:Nat) (tl:A1),fb=some (i:Int)/\(i:Int)∈r.ins/\qs[i]?=some (x :: tl)
 onto:(tb=none/\r.wd=.drain)\/∃ i:Nat,tb=some (i:Int)/\(i:Int)∈r.outs/\i < qs.length
section
variable {bs:A1} {rs:At} {st:PSt} {k:Nat} {r:Row} {ch:Ak}
theorem zjV (wf:stWf bs rs st) (ot:zY bs rs) (bo:∀ b∈bs,zH b.1 b.2) (ro:∀ r∈rs,r.ok) (hr:rs[k]?=some r) (hc:z7 r (qh rs st.cells r) (qH st.cells r) st.turn (st.sides.getD k 0).toNat=some ch) :
  ∃ x,(zM st k (qj r ch)).1=some x/\MvQ r k x (qj r ch) (xO r ch) (st.cells.map zN) st.gone/\(jy r st k ch).1.cells.map zN=zh6 (vK (st.cells.map zN) (qj r ch)) x (xO r ch)/\∀ j r',rs[j]?=some r'->r'.wd=.source->gAt (jy r st k ch).1.gone j 0=gAt st.gone j 0 + if j=k/\qj r ch=none then 1 else 0:=by
 have hk:=(aa.mp hr).1;have ok:=ro r (af hr);have hsd:=wf.so.2 k r _ hr (qr (d:=0) (by rw [wf.so.1];exact hk));have hsd':wq r ((st.sides.getD k 0).toNat:Int):=by rw [bI hsd.1];exact hsd
 obtain ⟨c1,c2,c3,c4,c5,c6⟩:=xM ok (by simp [qh]) (by simp [qH]) hsd' hc;obtain ⟨d1,d2,d3⟩:=zex hc;have hg:∀ j r',rs[j]?=some r'->r'.wd=.source->gAt (jy r st k ch).1.gone j 0=gAt st.gone j 0 + if j=k/\qj r ch=none then 1 else 0:=λ j r' hj hw=>by
  have e:(movedF r st k ch).gone=st.gone:=by
   unfold movedF xZ zM;cases xO r ch <;> cases qj r ch <;> rfl
  have hkl:k < st.gone.length:=by rw [wf.go.1];exact hk
  have hgk:=wf.go.2 k r _ hr (qr (d:=[]) hkl);show gAt ((movedF r st k ch).gone.set k (ZB ((movedF r st k ch).gone.getD k []) (jK r ch))) j 0=_
  rw [e,Qt hkl (by rw [hgk.1];exact c6)];by_cases ej:j=k
  ·subst ej;rw [hr] at hj;cases hj;obtain ⟨wd,ins,outs,pc,ks⟩:=r;simp only at hw;subst hw;obtain ⟨q1,⟨o,q2⟩,_⟩:=ok;simp only at q1 q2;subst q1 q2;have h1:qj ⟨.source,[],[o],pc,ks⟩ ch=none:=by unfold qj;cases ch.1 <;> simp
   have h2:jK ⟨.source,[],[o],pc,ks⟩ ch=0:=by
    have:∀ p,ch.2.1=some p->p=0:=λ p hp=>by have:=c2 p hp;simp at this;exact this
    unfold jK;rw [ao (λ z=>nomatch z)];cases e:ch.2.1 with
    | none=>rfl
    | some p=>exact this p e
   rw [h1,h2];simp
  ·rw [ao (λ z=>ej z.1),ao (λ z=>ej z.1)]
 have hf:∀ b,qj r ch=some b->b∈r.ins/\∃ x,xz (zz st.cells b)=some x:=λ b hb=>by
  obtain ⟨j,hj1,hj2⟩:=bn.mp (show ch.1.bind (λ j=>r.ins[j]?)=some b from hb);have:=d1 j hj1;rw [ae,qh,ak,hj2] at this;refine ⟨af hj2,?_⟩;cases e:xz (zz st.cells b) with
  | none=>exact absurd (show jT rs (xz (zz st.cells b))=none by rw [e];rfl) this
  | some x=>exact ⟨x,rfl⟩
 have hx:∃ x,(zM st k (qj r ch)).1=some x:=by
  cases e:qj r ch with
  | none=>exact ⟨_,rfl⟩
  | some b=>exact (hf b e).2
 obtain ⟨x,ex⟩:=hx;obtain ⟨tq1,tq2⟩:=zgs ex;have ht:∀ b,xO r ch=some b->b∈r.outs/\zz (zM st k (qj r ch)).2.cells b≠[]/\JE (zz (zM st k (qj r ch)).2.cells b)=none:=λ b hb=>by
  obtain ⟨j,hj1,hj2⟩:=bn.mp (show ch.2.1.bind (λ j=>r.outs[j]?)=some b from hb);have fb0:=d2 j hj1;rw [ae,qH,ak,hj2] at fb0;have fb0:JE (zz st.cells b)=none:=bB fb0;have hbm:=af hj2;obtain ⟨i,rfl,hi,ei,ne,_⟩:=xg wf.co bo (vU ot hr hbm);refine ⟨hbm,?_⟩;cases e:qj r ch with
  | none=>exact ⟨ne,fb0⟩
  | some b2 =>
   show zz (st.cells.set b2.toNat (qI (zz st.cells b2))) i≠[]/\_
   by_cases z:b2.toNat=i
   ·have e2:zz (st.cells.set b2.toNat (qI (zz st.cells b2))) i=qI (zz st.cells i):=by
     unfold zz;rw [z,ax,ae,aP hi]
     rfl
    refine ⟨by rw [e2];unfold qI;simpa using ne,?_⟩;show JE (zz (st.cells.set b2.toNat (qI (zz st.cells b2))) i)=none
    rw [e2];exact zhl fb0
   ·have e2:zz (st.cells.set b2.toNat (qI (zz st.cells b2))) i=zz st.cells i:=by
     unfold zz;rw [ae,ba (by rw [ax];exact z),<- ae]
    refine ⟨by rw [e2];exact ne,?_⟩;show JE (zz (st.cells.set b2.toNat (qI (zz st.cells b2))) i)=none
    rw [e2];exact fb0
 refine ⟨x,ex,⟨?_,?_⟩,?_,hg⟩
 ·cases e:qj r ch with
  | none =>
   rw [e] at ex;have ex:(some ((k:Int),(st.gone.getD k []).headD 0):zC)=some x:=ex;refine .inl ⟨rfl,?_,by rw [<- aI ex,jU]⟩;cases e1:ch.1 with
   | none=>exact c4 e1
   | some j =>
    unfold qj at e;rw [e1] at e;simp at e;have:=c1 j e1
    lia
  | some b =>
   have hb:=(hf b e).1;obtain ⟨i,rfl,hi,ei,ne,_⟩:=xg wf.co bo (Qs ot hr hb);have:=tq2 _ e;rw [ax] at this;exact .inr ⟨i,_,rfl,hb,by rw [<- this];exact qr (by rw [ah];exact hi)⟩
 ·cases e:xO r ch with
  | none =>
   refine .inl ⟨rfl,?_⟩;cases e1:ch.2.1 with
   | none=>exact d3 e1
   | some j =>
    unfold xO at e;rw [e1] at e;simp at e;have:=c2 j e1
    lia
  | some b =>
   have hb:=(ht b e).1;obtain ⟨i,rfl,hi,_⟩:=xg wf.co bo (vU ot hr hb);exact .inr ⟨i,rfl,hb,by rw [ah];exact hi⟩
 ·show (xZ (zM st k (qj r ch)).2 (zM st k (qj r ch)).1 (xO r ch)).cells.map zN=_
  rw [ex,zgR λ b hb=>(ht b hb).2,tq1]
end
theorem zcw (b:Int):∀ ns:List Int,inV (.int b) (iv ns)=decide (b∈ns)
 | []=>by simp [inV,iv]
 | n :: ns=>by
  show (eqV (.int n) (.int b) || inV (.int b) (iv ns))=_
  rw [zcw b ns];by_cases e:n=b
  ·simp [eqV,e]
  ·simp [eqV,e,a7 e]
noncomputable def dQ (q:A1):D:=.lst (q.map λ x=>zX (some x))
structure QS (H:Hp) (QL GV:Addr) (qs:List A1) (gv:A6):Prop where
 ne:QL≠GV
 hQ:∃ vs,H QL=some (.lst vs)/\Reps H (Off [QL,GV]) vs (qs.map dQ)
 hG:H GV=some (.lst (iv gv))
section
variable {H H':Hp} {QL GV:Addr} {qs:List A1} {gv:A6}
def zfb {ds:List D} {d:D} (h:Reps H p vs ds) (r:Rep H p v d) (i:Nat):Reps H p (vs.set i v) (ds.set i d):=by
 refine ⟨by rw [br,br];exact h.len,λ j u e h1 h2=>?_⟩;by_cases z:i=j
 ·subst z;have l1:=(aa.mp h1).1;have l2:=(aa.mp h2).1;rw [br] at l1 l2;rw [aP l1] at h1;rw [aP l2] at h2;cases h1;cases h2;exact r
 ·rw [ba z] at h1 h2;exact h.g j u e h1 h2
def QS.same (w:QS H QL GV qs gv) (s:Same H H'):QS H' QL GV qs gv:=by
 obtain ⟨vs,h1,r1⟩:=w.hQ;exact ⟨w.ne,⟨vs,s _ _ h1,r1.same s⟩,s _ _ w.hG⟩
def QS.setG (w:QS H QL GV qs gv) (gv':A6):QS (upd H GV (.lst (iv gv'))) QL GV qs gv':=by
 obtain ⟨vs,h1,r1⟩:=w.hQ;exact ⟨w.ne,⟨vs,by rw [oC w.ne];exact h1,r1.fr (qw (by simp))⟩,oB⟩
def QS.setQ (w:QS H QL GV qs gv) (e:H QL=some (.lst vs)) {q:A1} (r:Rep H (Off [QL,GV]) v (dQ q)) (i:Nat):QS (upd H QL (.lst (vs.set i v))) QL GV (qs.set i q) gv:=by
 obtain ⟨vs',h1,r1⟩:=w.hQ;rw [e] at h1;cases h1;refine ⟨w.ne,⟨_,oB,?_⟩,by rw [oC w.ne.symm];exact w.hG⟩;rw [cv];exact (zfb r1 r i).fr (qw (by simp))
def QS.off (w:QS H QL GV qs gv) {x:Addr} (h:H x=none):x ∉ [QL,GV]:=λ z=>by
 obtain ⟨vs,hv,_⟩:=w.hQ;simp only [ar,a9,bz] at z;rcases z with rfl|rfl
 ·rw [hv] at h;cases h
 ·rw [w.hG] at h;cases h
def zeS (h:∀ q∈qs,q.length<=6):∀ q∈vK qs fb,q.length<=6:=by
 cases fb with
 | none=>exact h
 | some b =>
  intro q hq;rcases wJ hq with z|z
  ·exact h q z
  ·rw [z,List.length_tail,ae];cases e:qs[b.toNat]? with
   | none=>simp
   | some q=>have:=h q (af e);simp;lia
def QS.at (w:QS H QL GV qs gv) {q:A1} (e:qs[i]?=some q):∃ vs L us,H QL=some (.lst vs)/\vs[i]?=some (.ref L)/\L ∉ [QL,GV]/\H L=some (.lst us)/\Reps H (Off [QL,GV]) us (q.map λ x=>zX (some x))/\i < vs.length:=by
 obtain ⟨vs,h1,r1⟩:=w.hQ;obtain ⟨v,hv,rv⟩:=r1.of (i:=i) (d:=dQ q) (by rw [ak,e];rfl);obtain ⟨L,us,rfl,nL,hL,ru⟩:=rv.lst';exact ⟨vs,L,us,h1,hv,nL,hL,ru,(aa.mp hv).1⟩
end
def zfU (gv:A6) (k:Nat):Option Int->List Int
 | none=>gv.set k (gv.getD k 0 + 1)
 | some _=>gv
inductive spMoved (a:Ad) (vs:Ap) (H:Hp) (Q:VK) (E:XK):Prop
 | i (vw vm:V) (QL GV:Addr) (bs:A1) (rs:At) (r:Row) (k:Nat) (x:Int × Int) (fb tb:A9) (qs:List A1) (gv:A6) (gs:List A6) (p:A5):vs=[vw,.ref QL,.ref GV,vm]->Rep H (Off [QL,GV]) vw (qy a bs rs)->Rep H p vm (ZI ⟨k,some x,fb,tb⟩)->QS H QL GV qs gv->rs[k]?=some r->r.ok->MvQ r k x fb tb qs gs->(r.wd=.source->gv[k]?=some (gAt gs k 0))->qs.length<=24->rs.length<=24->(∀ q∈qs,q.length<=6)->(∀ H',Fr [QL,GV] H H'->QS H' QL GV (zh6 (vK qs fb) x tb) (zfU gv k fb)->Q (.bl true) H')->spMoved a vs H Q E
def zeC (T:Txt K mg a):Cal P w K mg base "_law_moved" 1 ["_law_work","_law_queues_here","_law_given","_law_move"] [] (spMoved a):=T.mU.cal λ F=>by
 refine F.okx zb0 ?_ ?_
 ·walk_at "i"
 walk_at "j";rcases h with ⟨vw,vm,QL,GV,bs,rs,r,k,x,fb,tb,qs,gv,gs,p,rfl,hw,hm,w,hr',ok,mq,hs,lq,lr,q6,kQ⟩;refine oE2 (zfB hm rfl) λ tm tw o8=>oA3 o8 λ oi htm htw=>?_;clear o8;subst oi;walk_at "T";refine ⟨_,(zi (zF (PW.pt (pw_or (jv (qO (qb Zh qz (za (pq 3) (za (zjj Zg) zb))) (λ _=>rfl))) (pw_or1 (zl (ZD hr.units1) (qb qa z9 (za (pq 3) zb)) ze (zq _)))))  (zd (zk Xr))  zp)  (zi (vd (pq 3) (wv (n:=4) rfl (qc (qp 4 zb0.nd) (qc (qp 5 zb0.nd) (qc (qp 6 zb0.nd) (qc (qp 7 zb0.nd) xf))))))  (zi (zu 8 zb0.nd (zr (zm (pq 0) rfl) (pq 4)))  (qG (zF (zl ja (pq 6) zA (zq _))  (zi (zF (PW.pt (pw_or (jv (qO (qb Zh qz (za (pq 8) (za xi zb))) (λ _=>rfl))) (pw_or1 (zl (ZD hr.units1) (pq 5) (jn (za (pq 4) (za (zr (pq 2) (pq 4)) zb))) (zq _)))))  (zd (zk Xr))  zp)  (zd (vd (zJ qd (zr (pq 2) (pq 4)) ze) (vT (pq 2) (pq 4) jL))))  (zi (zF (PW.pt (pw_or (zl zfv (pq 6) (zm (pq 8) rfl) (by with_unfolding_all rfl)) (pw_or1 (zl (ZD hr.units1) (qu jg (zr (pq 1) (pq 6)) qR (qv ze)) (zL (za (pq 5) zb)) (zq _)))))  (zd (zk Xr))  zp)  (zd (vd (qu jg (zr (pq 1) (pq 6)) (qv ze) qR) (vT (pq 1) (pq 6) jL)))))  (zi (zF (zl ja (pq 7) zA (zq _))  (zd (zk (qb Zh qz (za (pq 8) (za xi zb)))))  zp)  (zi (vd (zJ qd (zr (pq 1) (pq 7)) (zL (za (pq 5) zb))) (vT (pq 1) (pq 7) jL))  (zd (zk (Zo zhF (pq 7) (zm (pq 8) rfl) (by with_unfolding_all rfl)))))))))),?_⟩;exists zha htm ?_;exists ⟨4,.inr ⟨_,SqT.of htm,rfl⟩,?_⟩;exists iE2 tm _ (iA4 rfl (SqT.of htm) rfl (iE2 _ _ ⟨rfl,iE2 _ _ ⟨rfl,iE2 _ _ ⟨rfl,iE2 _ _ (iA3 rfl rfl ?_)⟩⟩⟩));exists oE7 (jw hw) λ yw dw fw l1 l2 bvs om o8=>oA9 o8 λ oi hyw ew1 ew2 h1 h2 hB hK _=>?_;clear o8;subst oi;refine ra hyw T.gX T.gU ew2 ?_;obtain ⟨vk,hvk,rk⟩:=hK.reps.of (i:=k) (d:=Qx a r) (by rw [ak,hr'];rfl);refine oE6 ((show KnP a H _ vk r from rk).inv) λ yk dk m1 m2 m3 fs o8=>oA9 o8 λ oi nyk _ nm2 _ hyk e1 e2 ou=>oA5 ou λ _ g1 g2 _ _=>?_;clear o8 ou;subst oi;have ntw:tw ∉ [QL,GV]:=λ z=>by
  obtain ⟨vs,hv,_⟩:=w.hQ;simp only [ar,a9,bz] at z;rcases z with rfl|rfl
  ·rw [hv] at htw;cases htw
  ·rw [w.hG] at htw;cases htw
 refine zt (SqL.of h2) (zD hvk) ?_;left;let ow:St->Hp->Prop:=λ σ' H'=>σ'=[some (.ref yw),some (.ref QL),some (.ref GV),some (.ref tm),some (.int k),some (.ref tw),some (hdV fb),some (hdV tb),some (.ref yk)]/\Fr [QL,GV] H H'/\QS H' QL GV (vK qs fb) (zfU gv k fb);refine cut ow ?_ ?_
 ·rcases mq.off with ⟨rfl,hw,rfl⟩|⟨i,tl,rfl,hi,hq⟩
  ·have hg:=hs hw;have hkl:=(aa.mp hg).1;exists iE2 (.ref a.k) _ (iA3 T.lj rfl (iE4 _ _ _ _ (iA4 rfl ((WT T _).ty (CT T _) hyk) (.inl ⟨_,rfl,by rw [hw];exact T.iD⟩) ?_)));exists zt (SqL.of w.hG) (zD (jD hg)) λ t ht=>?_;have s1:=zf (o:=.tup [.int k,.int (gAt gs k 0)]) ht;refine zh0 (SqT.of (s1 _ _ htw)) (SqT.of oB) rfl (by simp [xQ,eqV]) ?_;have w1:=w.same s1;have f1:=s1.fr (ms:=[QL,GV]);refine zt (SqL.of w1.hG) (zD (jD hg)) ?_;refine xG w1.hG (Zc (by lia) (by rw [zK];lia)) ?_;rw [show (iv gv).set (k:Int).toNat (V.int (gAt gs k 0 + 1))=iv (gv.set k (gv.getD k 0 + 1)) by rw [ax,ae,hg];simp [iv,cv]];exact ⟨rfl,f1.trans (qw (by simp)),w1.setG _⟩
  ·refine oE3 (w.at hq) λ vs L us o8=>oA6 o8 λ hQ hL nL gL ru li=>?_;clear o8;obtain ⟨v0,vt,rfl,_⟩:=Zu (show us.length=tl.length + 1 by rw [ru.len];simp);rw [show hdV (some (i:Int))=V.int i from rfl];exists ra hyk (CT T _) (NI T _) e1 (iE2 m1 (iv r.ins) (iA5 rfl (.inl (SqL.of g1)) rfl (Qw _) ?_));rw [ap rfl,zcw,bg hi];left;have hla:atI vs (i:Int)=some (.ref L):=zD hL;refine zt (SqL.of hQ) hla (xw (SqL.of gL) λ sl hsl=>?_);rw [show wL (v0 :: vt) none (some 1)=[v0] from zbq (v0 :: vt) 1];intro pl hpl;obtain ⟨t0,rfl,ht0⟩:=wI (b:=x) (ru.g 0 v0 _ rfl rfl);have s1:=zf (o:=.lst [V.ref t0]) hsl;have s2:=s1.trans (zf (o:=.lst [V.ref tw]) hpl);have r1:∀ {b:Addr},H b=some (.tup [.int x.1,.int x.2])->Rep (upd (upd H sl (.lst [V.ref t0])) pl (.lst [V.ref tw])) (λ _=>True) (.ref b) (zX (some x)):=λ h=>Reps.mkT (vs:=[.int x.1,.int x.2]) (.cons .int (.cons .int .nil)) trivial (s2 _ _ h);refine zb7 (n:=1) (by decide) (λ d hd=>by rw [aw.mp hd];exact V2 _) ((Reps.one (r1 ht0)).mk' trivial (oF oB hpl)) ((Reps.one (r1 htw)).mk' trivial oB) ?_;generalize upd (upd H sl _) pl _=H2 at s2 ⊢;exists zt (SqL.of (s2 _ _ hQ)) hla (xw (SqL.of (s2 _ _ gL)) λ sm hsm=>?_);rw [show wL (V.ref t0 :: vt) (some 1) none=vt from (x8 _ 1 (by simp)).trans rfl];have s3:=s2.trans (zf (o:=.lst vt) hsm);have rt:Reps H (Off [QL,GV]) vt (tl.map λ x=>zX (some x)):=⟨by have:=ru.len;simpa using this,λ n v d a b=>ru.g (n + 1) v d a b⟩;refine xG (s3 _ _ hQ) (Zc (by lia) (by lia)) ?_;rw [ax];refine ⟨rfl,s3.fr.trans (qw (by simp)),?_⟩;show QS _ QL GV (qs.set (i:Int).toNat (qs.getD (i:Int).toNat []).tail) gv
   rw [ax,show (qs.getD i []).tail=tl by rw [ae,hq];rfl];exact (w.same s3).setQ (s3 _ _ hQ) ((rt.same s3).mk' ((w.same s2).off hsm) oB) i
 rintro σ' H1 ⟨rfl,f1,w1⟩;have hy1:=f1 _ _ nyk hyk;rcases mq.onto with ⟨rfl,hw⟩|⟨i,rfl,hi,li⟩
 ·left;exact iE2 (.ref a.l) _ (iA3 T.me rfl (iE4 _ _ _ _ (iA4 rfl ((WT T _).ty (CT T _) hy1) (.inl ⟨_,rfl,by rw [hw];exact T.iP⟩) (kQ _ f1 w1))))
 ·obtain ⟨q,hq⟩:∃ q,(vK qs fb)[i]?=some q:=⟨_,ac (show i < (vK qs fb).length by cases fb with|none=>exact li|some b=>exact (by rw [vK,br];exact li))⟩;refine oE3 (w1.at hq) λ vs L us o8=>oA6 o8 λ hQ hL nL gL ru lv=>?_;clear o8;have lu:us.length=q.length:=by rw [ru.len,ah]
  have l6:=zeS q6 q (af hq);have hm1:=f1 _ _ nm2 g2;have ht1:=f1 _ _ ntw htw;rw [show hdV (some (i:Int))=V.int i from rfl];exists zt (SqL.of hQ) (show atI vs (i:Int)=_ from zD hL) λ pl hpl=>?_;have s2:=zf (o:=.lst [V.ref tw]) hpl;refine xb (SqL.of (s2 _ _ gL)) (SqL.of oB) (js (by simp;lia)) λ sm hsm=>?_;have s3:=s2.trans (zf (o:=.lst (us ++ [.ref tw])) hsm);refine xG (s3 _ _ hQ) (Zc (by lia) (by lia)) ?_;rw [ax];have w3:=(w1.same s3).setQ (s3 _ _ hQ) (q:=q ++ [x]) (v:=.ref sm) (by
   have rx:Rep H1 (Off [QL,GV]) (.ref tw) (zX (some x)):=Reps.mkT (vs:=[.int x.1,.int x.2]) (.cons .int (.cons .int .nil)) ntw ht1;have:=(ru.append (.one rx)).same s3;rw [dQ,aV];exact this.mk' ((w1.same s2).off hsm) oB) i
  have f3:=f1.trans (s3.fr.trans (qw (x:=QL) (o:=.lst (vs.set i (.ref sm))) (by simp)));generalize upd (upd (upd H1 pl _) sm _) QL _=H4 at w3 f3 ⊢;exists ra (f3 _ _ nyk hyk) (CT T _) (NO T _) e2 (iE2 m2 (iv r.outs) (iA5 rfl (.inl (SqL.of (f3 _ _ nm2 g2))) rfl (Qw _) ?_));rw [ao (by decide),zcw,bg hi];refine kQ _ f3 ?_;show QS _ QL GV ((vK qs fb).set (i:Int).toNat ((vK qs fb).getD (i:Int).toNat [] ++ [x])) _
  rw [ax,show (vK qs fb).getD i []=q by rw [ae,hq];rfl];exact w3
def zfg {c:Av} {w:zC} (h:c.reverse[j]?=some w):(c.reverse.take (j + 1)).filterMap id=(c.reverse.take j).filterMap id ++ w.toList:=by
 rw [aH,h,List.filterMap_append];cases w <;> rfl
def Ex (H:Hp) (b:Addr):Prop:=∃ o,H b=some o
inductive spQueues (a:Ad) (vs:Ap) (H:Hp) (Q:VK) (E:XK):Prop
 | i (v:V) (p:A5) (st:PSt):vs=[v]->Rep H p v (jE a st)->st.cells.length<=24->(∀ c∈st.cells,c.length<=6)->(∀ QL us H',Same H H'->H QL=none->H' QL=some (.lst us)->Reps H' (Off [QL]) us ((st.cells.map zN).map dQ)->Q (.ref QL) H')->spQueues a vs H Q E
theorem XX (T:Txt K mg a):Cal P w K mg base "_law_queues" 1 ["_law_state_here"] [] (spQueues a):=T.mJ.cal λ F=>by
 refine F.okx zaD ?_ ?_
 ·walk_at "i"
 walk_at "j";rcases h with ⟨v,p,st,rfl,r,l24,l6,k⟩;refine oE3 ((r.keep (q:=Ex H) λ b o _ hb=>⟨⟨o,hb⟩,hb⟩).ob') λ y dx fs o8=>oA5 o8 λ oi _ hy g _=>?_;clear o8;subst oi;obtain ⟨_,e2,r2⟩:=g _ _ (wz st);refine oE2 r2.lst' λ lc cvs o8=>oA4 o8 λ oi _ hlc rc=>?_;clear o8;subst oi;have lac:cvs.length=st.cells.length:=by rw [rc.len,ah,zV,ah]
 walk_at "T";refine ⟨_,(zd (zk (jI (vars:=["_law_row_here"]) (caps:=[]) (N:=["_law_row_here"]) (ON:=["_law_state_here"]) (osc:=zg vb) rfl rfl (by right) rfl rfl (qo (zm (pq 0) rfl)) (λ _ _ _ _=>(qp 0 (show (["_law_row_here"]:A8).Nodup from by symm))) (λ _ _ _ _=>ql) (λ s H fp o6=>(jI (vars:=["_law_ware"]) (caps:=[]) (N:=["_law_ware"]) (ON:=["_law_row_here"]) (osc:=_) rfl rfl (by right) rfl rfl (zaR (za (pq 0) zb)) (λ _ _ _ _=>(qp 0 (show (["_law_ware"]:A8).Nodup from by symm))) (λ _ _ _ _=>(VJ (zl vj (pq 0) zA (zq _)))) (λ _ _ _ _=>(pq 0))))))),?_⟩;left;walk_at "d";exists ra hy T.ad T.gM e2 ⟨lc,rfl,.inl ⟨⟨_,SqL.of hlc⟩,λ _ _ _ _ oq hacc=>?_⟩⟩;have oT:∀ {b:Addr},Ex H b->b ∉ [oq]:=λ ⟨o,hx⟩ z=>by rw [aw.mp z,hacc] at hx;cases hx
 refine qK (K:=K) (a:=lc) (xs:=cvs) (λ i σ H'=>∃ (v0:Aq) (us:Ap),σ=[v0]/\Same H H'/\H' oq=some (.lst us)/\us.length=i/\Reps H' (Off [oq]) us (((st.cells.take i).map zN).map dQ)) (iE2 _ ([]) (iA5 rfl (zf hacc) oB rfl (.nil))) (λ i σ H' _ h=>by obtain ⟨_,_,_,s,_⟩:=h;exact SqL.of (s _ _ hlc)) ?_ ?_
 ·intro i x σ H1 hi oj;refine oE2 oj λ v0 us o8=>oA5 o8 λ oi s1 ha lu ru=>?_;ext;have hil:i < st.cells.length:=by rw [<- lac];exact (aa.mp hi).1
  obtain ⟨c,ec⟩:∃ c,st.cells[i]?=some c:=⟨_,ac hil⟩;obtain ⟨cb,vs,rfl,_,hvs,rvs⟩:=(rc.g i x (.lst (c.map zX)) hi (by rw [ak,zV,ak,ec];rfl)).lst';have lc:=l6 c (af ec);have lv:vs.length=c.length:=by rw [rvs.len,ah]
  left;walk_at "d";exists iE2 cb vs (iA3 rfl (SqL.of (s1 _ _ hvs)) (λ _ _ _ _ ac2 hac2=>?_));refine zjt (K:=K) (a:=cb) (xs:=vs) (λ j σ H'=>∃ (v1:Aq) (us:Ap),σ=[v1]/\Same H1 H'/\H' ac2=some (.lst us)/\us.length<=j/\Reps H' (Ex H) us (((c.reverse.take j).filterMap id).map λ x=>zX (some x))) (iE2 _ ([]) (iA5 rfl (zf hac2) oB (bA _) (.nil))) (λ i σ H' _ h=>by obtain ⟨_,_,_,s,_⟩:=h;exact SqL.of (s _ _ (s1 _ _ hvs))) ?_ ?_
  ·intro j v σ H2 hj oj;refine oE2 oj λ v1 us2 o8=>oA5 o8 λ oi s2 ha2 lu2 ru2=>?_;ext;have s12:=s1.trans s2;obtain ⟨d,hd,rv⟩:=rvs.reverse.at hj;rw [<- List.map_reverse,ak,am] at hd;obtain ⟨wr,hwr,rfl⟩:=hd;have eq:=zfg hwr;have hjl:=(aa.mp hj).1;rw [cf] at hjl;cases wr with
   | none =>
    have rv:Rep H (Ex H) v .non:=rv;cases rv;exists iE2 _ us2 (iA5 rfl s2 ha2 (by lia) ?_);rw [eq];simpa using ru2
   | some x =>
    obtain ⟨tx,rfl,htx⟩:=wI (b:=x) rv;left;have kp:∀ b o,Ex H b->H2 b=some o->Ex H b/\upd H2 ac2 (.lst (us2 ++ [.ref tx])) b=some o:=λ b o hb ho=>⟨hb,by
     obtain ⟨xs,hx⟩:=hb;rw [oC (oE (s1 _ _ hx) hac2)];exact ho⟩
    refine ⟨_,iA3 ha2 (zn (by lia)) (iE2 _ (us2 ++ [.ref tx]) (iA5 rfl (λ b o hb=>by rw [oC (oE hb hac2)];exact s2 _ _ hb) oB (by simp;lia) ?_))⟩;rw [eq,aV];exact (ru2.keep kp).append (.one ((qV rv s12).keep kp))
  ·intro σ H2 oj;refine oE2 oj λ v1 us2 o8=>oA5 o8 λ oi s2 ha2 lu2 ru2=>?_;ext;rw [lv,<- cf,aM] at ru2;have ru2:Reps H2 (Ex H) us2 ((zN c).map λ x=>zX (some x)):=ru2;have s12:=s1.trans s2;left;have f3:Fr [oq] H2 (upd H2 oq (.lst (us ++ [.ref ac2]))):=qw (by simp);have n2:ac2 ∉ [oq]:=λ z=>by rw [aw.mp z,ha] at hac2;cases hac2
   refine ⟨_,iA3 (s2 _ _ ha) (zn (by lia)) (iE2 _ (us ++ [.ref ac2]) (iA5 rfl ((s12.fr.trans f3).same (by intro m hm;rw [aw.mp hm];exact hacc)) oB (by simp [lu]) ?_))⟩;rw [aH,ec,cV,aV,aV];exact ((ru.same s2).fr f3).append (.one ((ru2.keep λ b o hb ho=>⟨oT hb,f3 _ _ (oT hb) ho⟩).mk' n2 (f3 _ _ n2 ha2)))
 ·intro σ H1 oj;refine oE2 oj λ v0 us o8=>oA5 o8 λ oi s1 ha lu ru=>?_;ext;rw [lac,aM] at ru;left;exact k oq us H1 s1 hacc ha ru
inductive spFar (K:A0) (vs:Ap) (H:Hp) (Q:VK) (E:XK):Prop
 | i (l:Addr) (ns:A6):vs=[.ref l]->SqL K H l (iv ns)->(∀ n:Nat,Q (.int n) H)->spFar K vs H Q E
def zhi (T:Txt K mg a):Cal P w K mg base "_law_far" 2 ["_law_cells"] [] (spFar K):=T.nS.cal λ F=>by
 refine F.okx ze7 ?_ ?_
 ·walk_at "i"
 walk_at "j";rcases h with ⟨l,ns,rfl,hl,k⟩;walk_at "T";refine ⟨_,(zh (zu 1 ze7.nd ze)  (zh (qB qX rfl (qo (pq 0)) (qp 2 ze7.nd)  (zd (zu 1 ze7.nd (zJ jo (zJ qd (zJ vV (pq 1) ze) (pq 2)) (zJ vn zca ze)))))  (zh (zF (zl (qx hr.units1) (zcc ‹(pq 0) (za ze zb)›) ze (zq _))  (zd (zk (zcc (pq 1))))  zp)  (zd (zk (pq 1)))))),?_⟩;left;walk_at "e";refine ⟨l,rfl,.inl ⟨⟨_,hl⟩,?_⟩⟩;refine qK (K:=K) (a:=l) (xs:=iv ns) (λ i σ H'=>∃ (n:Nat) (v2:Aq),σ=[some (.ref l),some (.int n),v2]/\H'=H) (iE2 0 _ ⟨rfl,rfl⟩) (λ i σ H' _ h=>by obtain ⟨_,_,_,rfl⟩:=h;exact hl) ?_ ?_
 ·intro i x σ H1 hi oj;refine oE2 oj λ n v2 o8=>oA2 o8 λ oi ou=>?_;clear o8 oj;subst oi ou;obtain ⟨c,hc,rfl⟩:=Qq hi;exists ⟨mul_okR (by decide) (by decide),?_⟩;have m0:=bX ((n:Int) * 1000003 + c) (show (999999999999999999999999999999999999999999999999999999999970:Int)≠0 by decide);generalize ((n:Int) * 1000003 + c) % 999999999999999999999999999999999999999999999999999999999970=z at m0 ⊢;obtain ⟨z',rfl⟩:∃ z':Nat,z=z':=⟨z.toNat,by lia⟩;exact ⟨z',_,rfl⟩
 ·intro σ H1 oj;refine oE2 oj λ n v2 o8=>oA2 o8 λ oi ou=>?_;clear o8 oj;subst oi ou;exists uc (wP T).mono (iE3 l ns 2 (iA3 rfl hl ?_));exists zT (λ _=>?_) (λ _=>k n);exact k (n % 100)
inductive spState (a:Ad) (vs:Ap) (H:Hp) (Q:VK) (E:XK):Prop
 | i (vw:V) (n lim:Nat) (bs:A1) (rs:At):vs=[vw,.int n,.int lim]->Rep H (Off []) vw (qy a bs rs)->zY bs rs->(∀ b∈bs,zH b.1 b.2)->(∀ r∈rs,r.ok)->lim<=1000->(∀ i j v H',RoundAt bs rs lim i j->Same H H'->StNew a H H' v (zj bs rs n)->Q v H')->(∀ H',Same H H'->Q .non H')->spState a vs H Q E
def zeA (T:Txt K mg a):Cal P w K mg base "_law_state" 10 ["_law_work","_law_far_here","_law_limit"] [] (spState a):=T.mT.cal λ F=>by
 refine F.okx zbY ?_ ?_
 ·walk_at "i"
 walk_at "j";rcases h with ⟨vw,n,lim,bs,rs,rfl,hv,ot,bo,ro,l1000,kQ,kN⟩;walk_at "T";refine ⟨_,(zh (zu 3 zbY.nd zA)  (zh (zh7 ⟨rfl,rfl,rfl⟩ rfl (λ pn G=>(zd (zu 3 zbY.nd ‹(pq 0) (za (pq 1) (za (pq 2) zb))›))) (λ pn a=>(zd (zu 3 zbY.nd zA))))  (zd (zk (pq 3))))),?_⟩;exists ⟨a.h,iA3 T.lW T.m4 (λ pn=>?_)⟩;exact uc (zdq T).mono (spLeapt.i vw n lim bs rs rfl hv ot bo ro l1000 kQ (λ nr H1 s1=>⟨a.h,iA3 rfl T.iZ (λ _ _=>kN _ s1)⟩))
def zhR (a:Ad):Sp:=λ vs H Q _=>∃ (v v':V) (p q:A5) (s:PSt),vs=[v,v']/\Rep H p v (jE a s)/\Rep H q v' (jE a s)/\Q (.bl true) H
def zgf (T:Txt K mg a):Cal P w K mg base "_law_same" 1 ["_law_one","_law_other"] [] (zhR a):=T.nu.cal λ F=>by
 refine F.okx zdO ?_ ?_
 ·walk_at "i"
 walk_at "j";refine oE5 h λ v v' p q st o8=>oA4 o8 λ oi r r' k=>?_;clear o8 h;subst oi;refine oE3 r.ob' λ y dx fs o8=>oA5 o8 λ oi _ hy g _=>?_;clear o8;subst oi;refine oE3 r'.ob' λ y' dx' fs' o8=>oA5 o8 λ oi _ hy' g' _=>?_;clear o8;subst oi;obtain ⟨_,e1,r1⟩:=g _ _ (Z5 st);obtain ⟨_,e1',r1'⟩:=g' _ _ (Z5 st);cases r1;cases r1';obtain ⟨_,e2,r2⟩:=g _ _ (wz st);obtain ⟨_,e2',r2'⟩:=g' _ _ (wz st);obtain ⟨_,e3,r3⟩:=g _ _ (Zl st);obtain ⟨_,e3',r3'⟩:=g' _ _ (Zl st);obtain ⟨_,e4,r4⟩:=g _ _ (Z6 st);obtain ⟨_,e4',r4'⟩:=g' _ _ (Z6 st);refine oE2 r2.lst' λ _ _ o8=>oA2 o8 λ oi _=>?_;clear o8;subst oi;refine oE2 r2'.lst' λ _ _ o8=>oA2 o8 λ oi _=>?_;clear o8;subst oi;refine oE2 r3.lst' λ _ _ o8=>oA2 o8 λ oi _=>?_;clear o8;subst oi;refine oE2 r3'.lst' λ _ _ o8=>oA2 o8 λ oi _=>?_;clear o8;subst oi;refine oE2 r4.lst' λ _ _ o8=>oA2 o8 λ oi _=>?_;clear o8;subst oi;refine oE2 r4'.lst' λ _ _ o8=>oA2 o8 λ oi _=>?_;clear o8;subst oi;walk_at "T";refine ⟨_,(zh (zF (PW.pt (pw_or (zl (ZD hr.units1) (zm (pq 0) rfl) (zm (pq 1) rfl) (zq _)) (pw_or1 (zl (ZD hr.units1) (zm (pq 0) rfl) (zm (pq 1) rfl) (zq _)))))  (zd (zk Xr))  zp)  (zd (zk (zif (Zo (zfw hr.units1) (zm (pq 0) rfl) (zm (pq 1) rfl) (zq _)) (zid (Zo (zfw hr.units1) (zm (pq 0) rfl) (zm (pq 1) rfl) (zq _))))))),?_⟩;exists ra hy T.ad T.gS e1 (ra hy' T.ad T.gS e1' ?_);exists ra hy T.ad T.gM e2 (ra hy' T.ad T.gM e2' ?_);refine zb7 (n:=2) (by decide) (zf4 V2 _) r2 r2' ?_;exists ra hy T.ad T.gW e3 (ra hy' T.ad T.gW e3' ?_);refine zfd (n:=0) (by decide) (XU (λ _=>.int) _) r3 r3' ?_;exists ra hy T.ad T.gP e4 (ra hy' T.ad T.gP e4' ?_);exact zfd (n:=1) (by decide) (zf4 (λ _=>.int) _) r4 r4' k
def zc0 {p q:A5} {G:Addr} {as:Ab} {xss:List (List D)} (h:NL H p G as xss) (hq:∀ b,b=G\/b∈as\/p b->q b):Rep H q (.ref G) (.lst (xss.map D.lst)):=by
 refine .lst (hq _ (.inl rfl)) h.out (by rw [ah,ah,h.len]) λ i v d e1 e2=>?_;rw [ak,am] at e1 e2;obtain ⟨b,e1,rfl⟩:=e1;obtain ⟨xs,e2,rfl⟩:=e2;obtain ⟨vs,h1,h2⟩:=h.g i b xs e1 e2;exact Reps.mk' (h2.keep λ c o pc hc=>⟨hq c (.inr (.inr pc)),hc⟩) (hq _ (.inr (.inl (af e1)))) h1
def StO.repQ {y:Addr} {n:SN} {st:PSt} {q:A5} (h:StO a H y n st) (hq:∀ b,b∈y :: n.all\/z8 H b->q b):Rep H q (.ref y) (jE a st):=by
 have m:∀ b,b∈n.all->q b:=λ b hb=>hq b (.inl (aD _ hb));refine wu (hq _ (.inl (by simp))) h.hy rfl (.cons .int (.cons (zc0 h.hc λ b hb=>?_) (.cons (qm (m _ (by simp [SN.all])) h.hs) (.cons (zc0 h.hg λ b hb=>?_) .nil))))
 ·rcases hb with rfl|hb|hb
  ·exact m _ (by simp [SN.all])
  ·exact m _ (by simp [SN.all,hb])
  ·exact hq _ (.inr hb)
 ·rcases hb with rfl|hb|hb
  ·exact m _ (by simp [SN.all])
  ·exact m _ (by simp [SN.all,hb])
  ·exact hq _ (.inr hb)
def StNew.repN {H H':Hp} {st:PSt} (h:StNew a H H' v st) (s:Same H H') {ms:Ab} (hm:∀ b∈ms,∃ vs,H b=some (.lst vs)):Rep H' (Off ms) v (jE a st):=by
 obtain ⟨y,n,rfl,so,ny,_,nn⟩:=h;refine so.repQ λ b hb z=>?_;obtain ⟨vs,hv⟩:=hm b z;rcases hb with hb|⟨xs,hx⟩
 ·rcases ar.mp hb with rfl|hb
  ·rw [ny] at hv;cases hv
  ·rw [nn b hb] at hv;cases hv
 ·rw [s _ _ hv] at hx;cases hx
def zbG (rs:At) (st:PSt):∀ {n m:Nat},n<=m->(zo rs st n).2.length<=(zo rs st m).2.length:=by
 intro n m h
 induction h with
 | refl=>exact au _
 | step _ ih =>
  refine aZ ih ?_;rw [zo,aF]
  lia
def zgl {rs:At} {st:PSt} (h:(qq rs st k).2=none):(qq rs st k).1=st:=by
 unfold qq at h ⊢;cases e:rs[k]? with
 | none=>rfl
 | some r =>
  rw [e] at h;simp only at h ⊢;cases e2:z7 r (qh rs st.cells r) (qH st.cells r) st.turn (st.sides.getD k 0).toNat with
  | none=>rfl
  | some ch=>rw [e2] at h;cases h
def Vh (rs:At) (st:PSt):∀ {n m:Nat},n<=m->(zo rs st n).2.length=(zo rs st m).2.length->(zo rs st n).1=(zo rs st m).1:=by
 intro n m h
 induction h with
 | refl=>exact λ _=>rfl
 | @step m hm ih =>
  intro hl;have h1:=zbG rs st hm;have e:(zo rs st (m + 1)).2=(zo rs st m).2 ++ (qq rs (zo rs st m).1 m).2.toList:=rfl;rw [e,aF] at hl;have hn:(qq rs (zo rs st m).1 m).2=none:=by
   cases e2:(qq rs (zo rs st m).1 m).2 with
   | none=>rfl
   | some x=>rw [e2] at hl;simp at hl;lia
  rw [hn] at hl;have:=ih (by simpa using hl);rw [this];show _=(qq rs (zo rs st m).1 m).1
  rw [zgl hn]
theorem zdv (rs:At) (st:PSt):∀ (n i:Nat) (m:Move),(zo rs st n).2[i]?=some m->∃ k,k < n/\(qq rs (zo rs st k).1 k).2=some m/\(zo rs st k).2=(zo rs st n).2.take i
 | 0,i,m,h=>by simp [zo] at h
 | n + 1,i,m,h=>by
  have e:(zo rs st (n + 1)).2=(zo rs st n).2 ++ (qq rs (zo rs st n).1 n).2.toList:=rfl;rw [e] at h ⊢;by_cases hi:i < (zo rs st n).2.length
  ·rw [aQ hi] at h;obtain ⟨k,h1,h2,h3⟩:=zdv rs st n i m h;exact ⟨k,by lia,h2,by rw [h3,eB (by lia)]⟩
  ·rw [aN (by lia)] at h;cases e2:(qq rs (zo rs st n).1 n).2 with
   | none=>rw [e2] at h;simp at h
   | some x =>
    rw [e2] at h;have hl:i - (zo rs st n).2.length=0:=by have:=(aa.mp h).1;simp at this;lia
    rw [hl] at h;have h:x=m:=by simpa using h
    subst h;exact ⟨n,by lia,e2,by rw [eB (by lia),bK (by lia)]⟩
def zgk {rs:At} {st:PSt} {m:Move} (h:(qq rs st k).2=some m):∃ r ch,rs[k]?=some r/\z7 r (qh rs st.cells r) (qH st.cells r) st.turn (st.sides.getD k 0).toNat=some ch/\qq rs st k=((jy r st k ch).1,some (jy r st k ch).2)/\m=(jy r st k ch).2:=by
 cases e:rs[k]? with
 | none=>unfold qq at h;rw [e] at h;cases h
 | some r =>
  cases e2:z7 r (qh rs st.cells r) (qH st.cells r) st.turn (st.sides.getD k 0).toNat with
  | none=>unfold qq at h;rw [e] at h;simp only at h;rw [e2] at h;cases h
  | some ch =>
   have ea:qq rs st k=((jy r st k ch).1,some (jy r st k ch).2):=by
    unfold qq;rw [e];simp only;rw [e2]
   rw [ea] at h;exact ⟨r,ch,rfl,e2,ea,(aI h).symm⟩
def zap (K:A0):Sp:=λ vs H Q _=>∃ (l:Addr) (ns:A6),vs=[.ref l]/\SqL K H l (ns.map V.int)/\ns.length<=63/\∀ H',Q (.bl true) H'
abbrev zgt (l oq:Addr) (vw:V) (lim n:Nat) (v:V) (QL GV:Addr) (t:Nat) (v9 v10:Aq):St:=[some (.ref l),some (.ref oq),some vw,some (.int lim),some (.int n),some v,some (.ref QL),some (.ref GV),some (.int t),v9,v10]
def GvS (rs:At) (gs:List A6) (gv:A6):Prop:=∀ j r,rs[j]?=some r->r.wd=.source->gv[j]?=some (gAt gs j 0)
def zik (T:Txt K mg a) (F:Fun K "law" "law" Qd f fd):FnOk P w K mg base (CXr P w) 11 f fd ["_law_script"] (zap K):=by
 refine F.okx zhX ?_ ?_
 ·walk_at "i"
 walk_at "j";refine oE2 h λ l ns o8=>oA4 o8 λ oi hl hn k=>?_;clear o8 h;subst oi;walk_at "T";refine ⟨_,(zi (Xo (i:=1) zhX.nd rfl (Or.inl rfl) (vars:=["_law_cell_here"]) (caps:=[]) (N:=["_law_cell_here"]) (ON:=["_law_script","_law_cells","_law_work","_law_limit","_law_far_here","_law_state_here","_law_queues_here","_law_given","_law_turns","_law_k","_law_move"]) (osc:=zg Qd) rfl rfl (by right) rfl rfl (qo (pq 0)) (λ _ _ _ _=>(qp 0 (show (["_law_cell_here"]:A8).Nodup from by symm))) (λ _ _ _ _=>ql) (λ _ _ _ _=>(VM (pq 0))))  (zi (zu 2 zhX.nd ‹‹(pq 1) (za ze zb)› zb›)  (zi (zu 3 zhX.nd (zJ qd ze ‹‹(pq 1) (za ze zb)› (za ze (za ze zb))›))  (zi (zu 4 zhX.nd ‹(pq 1) zb›)  (zi (zu 5 zhX.nd ‹(pq 2) (za (pq 4) (za (pq 3) zb))›)  (zi (zF (zl ja (pq 5) zA (zq _))  (zd (zk Xr))  zp)  (zi (zu 6 zhX.nd ‹(pq 5) zb›)  (zi (Xo (i:=7) zhX.nd rfl (Or.inl rfl) (vars:=["_law_row_here"]) (caps:=[]) (N:=["_law_row_here"]) (ON:=["_law_script","_law_cells","_law_work","_law_limit","_law_far_here","_law_state_here","_law_queues_here","_law_given","_law_turns","_law_k","_law_move"]) (osc:=zg Qd) rfl rfl (by right) rfl rfl (qo (zm (pq 5) rfl)) (λ _ _ _ _=>(qp 0 (show (["_law_row_here"]:A8).Nodup from by symm))) (λ _ _ _ _=>ql) (λ _ _ _ _=>(zr (pq 0) ze)))  (zi (zu 8 zhX.nd (zJ qd ze ‹‹(pq 1) (za ze zb)› (za ze (za ze zb))›))  (qG (qB qX rfl (vh (za (pq 8) zb)) (qp 9 zhX.nd)  (qG (qB qX rfl (qo ‹(pq 2) (za (pq 5) zb)›) (qp 10 zhX.nd)  (zd (zF (jv (qO ‹(pq 2) (za (pq 6) (za (pq 7) (za (pq 10) zb)))› (λ _=>rfl)))  (zd (zk Xr))  zp)))  (zi (zu 5 zhX.nd ‹(pq 2) (za (pq 5) zb)›)  (zd (zF (zl (ZD hr.units1) (pq 6) ‹(pq 5) zb› (zq _))  (zd (zk Xr))  zp)))))  (zd (zk ‹(pq 5) (za ‹(pq 2) (za (zJ qd (pq 4) (pq 8)) (za (pq 3) zb))› zb)›)))))))))))),?_⟩;left;walk_at "d";exists ⟨l,rfl,.inl ⟨⟨_,hl⟩,λ _ _ _ _ oq hacc=>?_⟩⟩;refine qK (K:=K) (a:=l) (xs:=iv ns) (λ q σ H'=>∃ (v0:Aq) (cs:A6),σ=[v0]/\Same H H'/\H' oq=some (.lst (iv cs))/\cs.length=q) (iE2 _ ([]) (iA4 rfl (zf hacc) oB rfl)) (λ q σ H' _ h=>by obtain ⟨_,_,_,s,_⟩:=h;exact vL s hl) ?_ ?_
 ·intro q x σ H1 hq oj;refine oE2 oj λ v0 cs o8=>oA4 o8 λ oi s1 ha lc=>?_;ext;obtain ⟨c,hc,rfl⟩:=Qq hq;have hql:=(aa.mp hc).1;left;exact ⟨_,iA3 ha (zn (by rw [zK];lia)) (iE2 _ (cs ++ [_]) (iA4 rfl (λ b o hb=>by rw [oC (oE hb hacc)];exact s1 b o hb) (by rw [oB,jd]) (by simp [lc])))⟩
 intro σ H1 oj;refine oE2 oj λ v0 cs o8=>oA4 o8 λ oi s1 ha _=>?_;ext;clear s1 hl hacc;exists uc (zbw T).mono (uc (zge T).mono (spText.i oq cs rfl (SqL.of ha) (λ H2 bs rs s2 ot bo ro=>(iE2 bs rs (iA4 rfl ot (zcL ot bo ro) (λ vw H3 s3 hw=>?_))))));have ha3:=s3 _ _ (s2 _ _ ha);have b24:=ot.1.1.2;have r24:=ot.1.2.2;clear s2 s3 ha;exists uc (qF T).mono (uc (wP T).mono (iE3 oq cs 1 (iA3 rfl (SqL.of ha3) (iE3 _ 10103 40 (iA4 rfl (by decide) (by decide) (λ r r0 r1=>?_))))));obtain ⟨m,rfl⟩:∃ m:Nat,r=m:=⟨r.toNat,by lia⟩;have eL:(20:Int) + m=((20 + m:Nat):Int):=by lia
 have l60:20 + m<=60:=by lia
 rw [rd_addI];rw [eL];clear eL r0 r1;generalize 20 + m=lim at l60;exists uc (zhi T).mono (spFar.i oq cs rfl (SqL.of ha3) (λ n=>?_));exists uc (zeA T).mono (spState.i vw n lim bs rs rfl hw ot bo ro (by lia) (λ i j v H4 rd s4 sn=>?_) (λ H4 s4=>?_))
 rotate_left
 ·left;exact k _
 have hv:Rep H4 (Off []) v (jE a (zj bs rs n)):=sn.repN s4 λ _ h=>nomatch h;refine oE2 sn λ y ny o8=>oA3 o8 λ oi so _=>?_;clear o8 sn;subst oi;have hw4:=hw.same s4;have ha4:=s4 _ _ ha3;have wf:∀ i,stWf bs rs (zj bs rs i):=qg ot bo ro;have c6:∀ {s:PSt},stWf bs rs s->∀ c∈s.cells,c.length<=6:=λ w c hc=>by
  obtain ⟨q,hq⟩:=bx hc;have eb:=ac (l:=bs) (i:=q) (by rw [<- w.co.1];exact (aa.mp hq).1);have:=(w.co.2 q _ c eb hq).1;have:=(bo _ (af eb)).2.1
  lia
 clear s4 hw ha3;exists uc (XX T).mono (spQueues.i _ _ _ rfl hv (by rw [(wf n).co.1];exact b24) (c6 (wf n)) (λ QL us H5 s5 nQ gQ rQ=>?_));have so5:=so.same s5;have hg:=so5.hg;have lag:ny.ags.length=rs.length:=by rw [hg.len,qt,ah,(wf n).go.1]
 left;walk_at "d";exists ra so5.hy T.ad T.gP rfl ⟨ny.lg,rfl,.inl ⟨⟨_,SqL.of hg.out⟩,λ _ _ _ _ GV hGV=>?_⟩⟩;refine qK (K:=K) (a:=ny.lg) (xs:=ny.ags.map V.ref) (λ q σ H'=>∃ (v0:Aq),σ=[v0]/\Same H5 H'/\H' GV=some (.lst (iv (((zj bs rs n).gone.take q).map λ g=>g.headD 0)))) ⟨_,iA3 rfl (zf hGV) oB⟩ (λ q σ H' _ h=>by obtain ⟨_,_,s,_⟩:=h;exact SqL.of (s _ _ hg.out)) ?_ ?_
 ·intro q x σ H6 hq oj;refine oE1 oj λ v0 o8=>oA3 o8 λ oi s6 g6=>?_;ext;rw [ak,am] at hq;obtain ⟨b,hb,rfl⟩:=hq;have hql:q < rs.length:=by rw [<- lag];exact (aa.mp hb).1
  obtain ⟨g,eg⟩:∃ g,(zj bs rs n).gone[q]?=some g:=⟨_,ac (by rw [(wf n).go.1];exact hql)⟩;obtain ⟨b',e,hb'⟩:=vv hg eg;rw [hb] at e;cases e;have lg:=((wf n).go.2 q _ g (ac hql) eg).1;have cp:=x9 (ro _ (cF hql));obtain ⟨g0,gt,rfl⟩:∃ g0 gt,g=g0 :: gt:=by cases g with|nil=>simp at lg;lia|cons g0 gt=>exact ⟨g0,gt,rfl⟩
  exists zt (SqL.of (s6 _ _ hb')) (show atI (iv (g0 :: gt)) 0=some (.int g0) from at0) ⟨_,iA3 g6 (zn (by rw [zK,ah,aJ];lia)) ⟨_,iA3 rfl (λ b o hb=>by rw [oC (oE hb hGV)];exact s6 b o hb) ?_⟩⟩;rw [oB,jd,aH,eg];simp
 intro σ H6 oj;refine oE1 oj λ v0 o8=>oA3 o8 λ oi s6 g6=>?_;ext;rw [ah,lag,<- (wf n).go.1,aM] at g6;have w6:QS H6 QL GV ((zj bs rs n).cells.map zN) ((zj bs rs n).gone.map λ g=>g.headD 0) :=
  ⟨oE gQ hGV,⟨us,s6 _ _ gQ,(rQ.more (ns:=[QL,GV]) λ b hb=>by
   simp only [ar,a9,bz] at hb;rcases hb with rfl|rfl
   ·exact .inl (by simp)
   ·exact .inr hGV).same s6⟩,g6⟩
 have q6:GvS rs (zj bs rs n).gone ((zj bs rs n).gone.map λ g=>g.headD 0):=λ j r hj _=>by
  obtain ⟨g,eg⟩:∃ g,(zj bs rs n).gone[j]?=some g:=⟨_,ac (by rw [(wf n).go.1];exact (aa.mp hj).1)⟩;rw [ak,eg,<- jU,ae,eg]
  rfl
 have nw:∀ b∈[QL,GV],H4 b=none:=λ b hb=>by
  simp only [ar,a9,bz] at hb;rcases hb with rfl|rfl
  ·exact nQ
  ·exact zw s5 hGV
 have s46:=s5.trans s6;have hv6:=(hv.more (ns:=[QL,GV]) λ b hb=>.inr (nw b hb)).same s46;have hw6:=(hw4.more (ns:=[QL,GV]) λ b hb=>.inr (nw b hb)).same s46;have ha6:=s46 _ _ ha4;clear s5 s6 s46 nw g6 hg so5 so hv hw4 ha4 nQ gQ rQ hGV lag;generalize ((zj bs rs n).gone.map λ g=>g.headD 0)=gv0 at w6 q6;exists uc (qF T).mono (uc (wP T).mono (iE3 oq cs 1 (iA3 rfl (SqL.of ha6) (iE3 _ 10111 13 (iA4 rfl (by decide) (by decide) (λ r r0 r1=>?_))))));obtain ⟨t,et⟩:∃ t:Nat,1 + r=t:=⟨(1 + r).toNat,by lia⟩;have t13:t<=13:=by lia
 rw [rd_addI];rw [et];clear et r0 r1;left;let ow:St->Hp->Prop:=λ σ' H'=>∃ (v:V) (v9 v10:Aq),σ'=zgt l oq vw lim n v QL GV t v9 v10/\Rep H' (Off [QL,GV]) vw (qy a bs rs)/\Rep H' (Off [QL,GV]) v (jE a (zj bs rs (n + t)));refine cut ow ?_ ?_
 ·walk_at "e";exists ⟨by lia,by lia,?_⟩;let oy:Nat->St->Hp->Prop:=λ i σ H'=>∃ (v:V) (v9 v10:Aq) (gv:A6),σ=zgt l oq vw lim n v QL GV t v9 v10/\Rep H' (Off [QL,GV]) vw (qy a bs rs)/\Rep H' (Off [QL,GV]) v (jE a (zj bs rs (n + i)))/\QS H' QL GV ((zj bs rs (n + i)).cells.map zN) gv/\GvS rs (zj bs rs (n + i)).gone gv;refine Qu (n:=(t:Int).toNat) oy (iE4 _ _ _ gv0 (iA5 rfl hw6 hv6 w6 q6)) ?_ ?_
  ·clear hw6 hv6 w6 q6 ha6;intro i σ H6 hi oj;refine oE4 oj λ v v9 v10 gv o8=>oA5 o8 λ oi hw6 hv6 w6 q6=>?_;ext;generalize hst:zj bs rs (n + i)=st at hv6 w6 q6;have wfS:stWf bs rs st:=hst ▸ wf (n + i);left;let oA:St->Hp->Prop:=λ σ' H'=>∃ (v9 v10:Aq) (gv:A6),σ'=zgt l oq vw lim n v QL GV t v9 v10/\Rep H' (Off [QL,GV]) vw (qy a bs rs)/\Rep H' (Off [QL,GV]) v (jE a st)/\QS H' QL GV ((zo rs st rs.length).1.cells.map zN) gv/\GvS rs (zo rs st rs.length).1.gone gv;refine cut oA ?_ ?_
   ·walk_at "e";exists uc (zcG T).mono (spMovesOf.i vw v st bs rs _ rfl (hw6.more (ns:=[]) (λ b hb=>nomatch hb)) hv6 wfS ot bo ro (λ b us H7 s7 nb hb ru=>?_));have ob:=w6.off nb;have w7:=w6.same s7;have hw7:=hw6.same s7;have hv7:=hv6.same s7;have lu:us.length=(zo rs st rs.length).2.length:=by rw [ru.len,ah]
    have offT:∀ c,z8 H7 c->c ∉ [QL,GV]:=λ c ⟨xs,hx⟩ z=>by
     obtain ⟨vs,hv,_⟩:=w7.hQ;simp only [ar,a9,bz] at z;rcases z with rfl|rfl
     ·rw [hv] at hx;cases hx
     ·rw [w7.hG] at hx;cases hx
    clear hw6 hv6 w6 s7 nb;refine ⟨b,rfl,.inl ⟨⟨_,SqL.of hb⟩,?_⟩⟩;let M4_:Nat->St->Hp->Prop:=λ j σ H'=>∃ (v9 v10:Aq) (gv:A6) (m:Nat),σ=zgt l oq vw lim n v QL GV t v9 v10/\Fr [QL,GV] H7 H'/\QS H' QL GV ((zo rs st m).1.cells.map zN) gv/\GvS rs (zo rs st m).1.gone gv/\m<=rs.length/\(zo rs st m).2=(zo rs st rs.length).2.take j/\∀ m',m' < m->(zo rs st m').2.length < j;refine qK (K:=K) (a:=b) (xs:=us) M4_ (iE4 _ _ gv 0 (iA7 rfl Fr.refl w7 q6 (bA _) rfl (λ m h=>absurd h (eE m)))) (λ i σ H' _ h=>by obtain ⟨_,_,_,_,_,f,_⟩:=h;exact SqL.of (f _ _ ob hb)) ?_ ?_
    ·intro j u σ H8 hj oj;refine oE4 oj λ v9 v10 gv m o8=>oA7 o8 λ oi f8 w8 q8 hm em mn=>?_;ext;obtain ⟨d,hd,rv⟩:=ru.at hj;rw [ak,am] at hd;obtain ⟨mv,hmv,rfl⟩:=hd;refine oE1 (zdv rs st rs.length j mv hmv) λ k' o8=>oA3 o8 λ hk' ea e2=>?_;clear o8;refine oE2 (zgk ea) λ r ch o8=>oA4 o8 λ hr' hc eA oi=>?_;clear o8;subst oi;have hjl:j < (zo rs st rs.length).2.length:=(aa.mp hmv).1;have ln:(zo rs st m).2.length=j:=by rw [em,aJ];lia
     have lk:(zo rs st k').2.length=j:=by rw [e2,aJ];lia
     have nk:m<=k':=by
      rcases fN k' m with h|h
      ·have:=mn k' h;lia
      ·exact h
     have eS:=Vh rs st nk (by rw [ln,lk]);rw [eS] at w8 q8;have wfK:=qY wfS ot bo ro k';refine oE1 (zjV wfK ot bo ro hr' hc) λ x o8=>oA4 o8 λ ex mq eq eg=>?_;clear o8;have rv8:=rv.keep (q:=Off [QL,GV]) (H':=H8) λ c o hc ho=>⟨offT c hc,f8 _ _ (offT c hc) ho⟩;have rv8:Rep H8 (Off [QL,GV]) u (ZI ⟨k',(zM (zo rs st k').1 k' (qj r ch)).1,qj r ch,xO r ch⟩):=rv8;rw [ex] at rv8;have eN:zo rs st (k' + 1)=((jy r (zo rs st k').1 k' ch).1,(zo rs st k').2 ++ [(jy r (zo rs st k').1 k' ch).2]):=by
      rw [zo,eA];rfl
     exists uc (zeC T).mono (spMoved.i vw u QL GV bs rs r k' x _ _ _ gv _ _ rfl (hw7.fr f8) rv8 w8 hr' (ro r (af hr')) mq (q8 k' r hr') (by rw [ah,wfK.co.1];exact b24) r24 (λ q hq=>?_) (λ H9 f9 w9=>?_))
     ·obtain ⟨c,hc,rfl⟩:=aO.mp hq;exact aZ (zdZ c) (c6 wfK c hc)
     exists iE4 _ _ _ (k' + 1) (iA7 rfl (f8.trans f9) (by rw [eN,eq];exact w9) ?_ (by lia) ?_ (λ m' h=>?_))
     ·rw [eN];intro z r' hz hw';have q:=q8 z r' hz hw';rw [eg z r' hz hw'];cases qj r ch with
      | none =>
       by_cases e:z=k'
       ·subst e;rw [zfU,aP (aa.mp q).1,ae,q,ap ⟨rfl,rfl⟩]
        rfl
       ·rw [zfU,ba (a7 e),q,ao (λ y=>e y.1),d6]
      | some b=>rw [zfU,q,ao (λ y=>nomatch y.2),d6]
     ·rw [eN,e2,aH,hmv];rfl
     ·have:=zbG rs st (show m'<=k' by lia)
      lia
    ·intro σ H8 oj;refine oE4 oj λ v9 v10 gv m o8=>oA7 o8 λ oi f8 w8 q8 hm em mn=>?_;ext;rw [lu,aM] at em;rw [Vh rs st hm (by rw [em])] at w8 q8;exact iE3 _ _ gv (iA5 rfl (hw7.fr f8) (hv7.fr f8) w8 q8)
   clear hw6 hv6 w6 q6;intro σ' H7 oj;refine oE3 oj λ v9 v10 gv o8=>oA5 o8 λ oi hw7 hv7 w7 q7=>?_;ext;exists uc (XW T).mono (spOneTurn.i vw v st bs rs _ rfl (hw7.more (ns:=[]) (λ b hb=>nomatch hb)) hv7 wfS ot bo ro (λ v2 H8 s8 sn=>?_));have eP:(passF bs rs st).1=zj bs rs (n + (i + 1)):=by rw [<- hst];rfl
   have hv8:=sn.repN s8 (ms:=[QL,GV]) λ b hb=>by
    obtain ⟨vs,hv,_⟩:=w7.hQ;simp only [ar,a9,bz] at hb;rcases hb with rfl|rfl
    ·exact ⟨_,hv⟩
    ·exact ⟨_,w7.hG⟩
   have w8:=w7.same s8;have hw8:=hw7.same s8;have eQ:(passF bs rs st).1.cells.map zN=(zo rs st rs.length).1.cells.map zN:=zad _ _ _ _;have eG:(passF bs rs st).1.gone=(zo rs st rs.length).1.gone:=rfl;rw [<- eQ] at w8;rw [<- eG] at q7;rw [eP] at hv8 w8 q7;clear hw7 hv7 w7 eQ eG eP wfS hst;left;have wf1:=wf (n + (i + 1));refine uc (XX T).mono (spQueues.i _ _ _ rfl hv8 (by rw [wf1.co.1];exact b24) (c6 wf1) (λ Q2 us H9 s9 _ g9 r9=>?_));obtain ⟨vs,hQ,rQ⟩:=(w8.same s9).hQ;refine zb7 (n:=2) (by decide) (XU (λ q=>.lst (XU (λ x=>V2 (some x)) q)) _) ((rQ.keep λ b o _ hb=>⟨trivial,hb⟩).mk' (p:=λ _=>True) trivial hQ) ((r9.keep λ b o _ hb=>⟨trivial,hb⟩).mk' (p:=λ _=>True) trivial g9) ?_;exact iE4 _ _ _ gv (iA5 rfl (hw8.same s9) (hv8.same s9) (w8.same s9) q7)
  ·intro σ H7 oj;refine oE4 oj λ v v9 v10 gv o8=>oA4 o8 λ oi hw7 hv7 _=>?_;ext;rw [ax] at hv7;exact iE3 _ _ _ (iA3 rfl hw7 hv7)
 clear hw6 hv6 w6 q6 ha6;intro σ' H7 oj;refine oE3 oj λ v v9 v10 o8=>oA3 o8 λ oi hw7 hv7=>?_;ext;exists uc (zgf T).mono (uc (zdq T).mono (spLeapt.i vw (n + t) lim bs rs rfl (hw7.more (ns:=[]) (λ b hb=>nomatch hb)) ot bo ro (by lia) (λ i2 j2 v2 H8 _ s8 sn2=>?_) (λ nr=>absurd nr rd.no)));exact iE5 _ _ _ _ _ (iA4 rfl (hv7.same s8) (sn2.repN s8 (ms:=[]) (λ _ h=>nomatch h)) (k _))
theorem top_ok (T:Txt K mg a) (F:Fun K "law" "law" Qd f fd):FnOk P w K mg base (CXr P w) 11 f fd ["_law_script"] (zap K):=zik T F
end
local macro_rules | `(tactic| walk_at "b")=>`(tactic| first|((repeat intro _);rfl))
def zgj:Nat->(List Value->Prop)->Prop
 | 0,P=>P []
 | n + 1,P=>∀ x,zgj n λ l=>P (x :: l)
def Zx {n:Nat}:∀ {P:List Value->Prop},zgj n P->∀ us:List Value,us.length=n->P us:=by
 induction n with
 | zero =>
  intro P h us e;cases us with
  | nil=>exact h
  | cons=>cases e
 | succ n ih =>
  intro P h us e;cases us with
  | nil=>cases e
  | cons x r=>exact ih (h x) r (Nat.succ.inj e)
abbrev NNy (K:A0) (x:Str):Prop:=nsIn K mainGlobals x=some none
abbrev NRy (K:A0) (x:Str) (f:Addr):Prop:=nsIn K mainGlobals x=some (some (.ref f))
abbrev FHy (K:A0) (x:Str) (st:Stmt):Prop:=∃ (f:Addr) (oc:Am) (od an:Aa) (osl:Ae) (kV doc pm cdv ct:Am),nsIn K mainGlobals x=some (some (.ref f))/\K.lookup f=some ⟨oc,od,.func (fnOf x x (qf st) (z6 st) (zg st) .none kV doc pm an cdv ct),osl⟩/\codeIn K cdv x=true/\keepIn K (.ref f)=true
def fhy {st:Stmt} {f:Addr} {oc:Am} {od an:Aa} {osl:Ae} {kV doc pm cdv ct:Am} (a:nsIn K mainGlobals x=some (some (.ref f))) (l:K.lookup f=some ⟨oc,od,.func (fnOf x x (qf st) (z6 st) (zg st) .none kV doc pm an cdv ct),osl⟩) (c:codeIn K cdv x=true) (k:keepIn K (.ref f)=true):FHy K x st:=⟨_,_,_,_,_,_,_,_,_,_,a,l,c,k⟩
def qA {mg:A4} {h:Heap} {st:Stmt} (X:K.In h) (G:h.Ns mainGlobals mg) (y:FHy K x st) (hb:∀ (kV doc pm:Am) (an:Aa) (cdv ct:Am),zgj ps.length λ us=>bindArgs (fnOf x x (qf st) (z6 st) (zg st) .none kV doc pm an cdv ct) ⟨us,[]⟩=pure (ps.zip us):=by walk_at "b"):FA K mg x st ps:=by
 obtain ⟨_,_,_,_,_,_,_,_,_,_,a,l,c,k⟩:=y;exact zjB X G a l c k λ _ _ _ _ _ _=>Zx (hb _ _ _ _ _ _)
abbrev CHy (K:A0) (C:Addr):Prop:=plainGet K C Str.empty=true/\hasDictIn K C=true/\plainOver K C=true/\findIn K (.ref C) "__setattr__"=some (some (.builtin "object.__setattr__"))/\makesIn K C=true/\keepIn K (.ref C)=true/\findIn K (.ref C) "__class__"=some (some (.builtin "object.__class__"))/\mroIn K C (.type "object")=some true
def CHy.c (h:CHy K C):Cls K C:=⟨h.1,h.2.1,h.2.2.1,h.2.2.2.1⟩
def CHy.w (h:CHy K C) (g:specialIn K (.builtin "object.__class__") "__get__"=some (some (.builtin "getset_descriptor.__get__"))) (t:takesIn K (.builtin "object.__class__")=some true):WI K C:=⟨h.2.2.2.2.2.2.1,h.2.2.2.2.2.2.2,g,t⟩
abbrev MHy (K:A0) (C:Addr) (m q:Str) (st:Stmt):Prop:=∃ (f:Addr) (oc:Am) (od an:Aa) (osl:Ae) (kV doc pm cdv ct:Am),findIn K (.ref C) m=some (some (.ref f))/\isFn K (.ref f)=true/\K.lookup f=some ⟨oc,od,.func (fnOf m q (qf st) (z6 st) (zg st) .none kV doc pm an cdv ct),osl⟩/\codeIn K cdv q=true/\keepIn K (.ref f)=true
def mhy {m q:Str} {st:Stmt} {f:Addr} {oc:Am} {od an:Aa} {osl:Ae} {kV doc pm cdv ct:Am} (a:findIn K (.ref C) m=some (some (.ref f))) (i:isFn K (.ref f)=true) (l:K.lookup f=some ⟨oc,od,.func (fnOf m q (qf st) (z6 st) (zg st) .none kV doc pm an cdv ct),osl⟩) (c:codeIn K cdv q=true) (k:keepIn K (.ref f)=true):MHy K C m q st:=⟨_,_,_,_,_,_,_,_,_,_,a,i,l,c,k⟩
def wy {m q:Str} {st:Stmt} (y:MHy K C m q st) (hb:∀ (kV doc pm:Am) (an:Aa) (cdv ct:Am),zgj ps.length λ us=>bindArgs (fnOf m q (qf st) (z6 st) (zg st) .none kV doc pm an cdv ct) ⟨us,[]⟩=pure (ps.zip us):=by walk_at "b"):FM K C m q st ps:=by
 obtain ⟨_,_,_,_,_,_,_,_,_,_,a,i,l,c,k⟩:=y;exact zjw a i l c k λ _ _ _ _ _ _=>Zx (hb _ _ _ _ _ _)
def Wn {q:Str} {st:Stmt} (z:CHy K C) (y:MHy K C "__init__" q st) (hb:∀ (kV doc pm:Am) (an:Aa) (cdv ct:Am),zgj ps.length λ us=>bindArgs (fnOf "__init__" q (qf st) (z6 st) (zg st) .none kV doc pm an cdv ct) ⟨us,[]⟩=pure (ps.zip us):=by walk_at "b"):FK K C q st ps:=by
 obtain ⟨_,_,_,_,_,_,_,_,_,_,a,i,l,c,k⟩:=y;exact zjx z.2.2.2.2.1 z.2.2.2.2.2.1 a i l c k λ _ _ _ _ _ _=>Zx (hb _ _ _ _ _ _)
theorem all_mk {l:PySem.W.OpenLaw} {w:World} {h:Heap} {mg:A4} {fa fL f29 ya yc yd ye yf yg yh yi yj yl yn yo yp yq yr yt yu yv yx:Addr} (X:K.In h) (G:h.Ns mainGlobals mg) (hfa:mg "law"=some (.ref fa))
  {yy yz odL anL yA yB:Aa} {yC slL yD:Ae} {yE yF yG yH yI yJ ocL kVL dcL pmL cdL ctL yK yL yM yN yO yP:Am}
  {yQ:Am} {yR:Aa} {yS:Nat} {yT:Ae} {yU:Tok}
  {yV yW yX yY yZ y9 yaa yba yca:Tok}
  (h1:FHy K "kind_of" QO)
  (h2:FHy K "no_counts" vP)
  (h3:FHy K "empty_state" jx)
  (h4:FHy K "copied_state" xT)
  (h5:FHy K "check_pace" wY)
  (h6:FHy K "check_kind" wZ)
  (h7:FHy K "check_ways" wW)
  (h8:FHy K "first_place" wt)
  (h9:FHy K "place_for_ware" jX)
  (h10:FHy K "heads_of" xS)
  (h11:FHy K "taken_ware" wR)
  (h12:FHy K "belt_at" QP)
  (h13:FHy K "counted_place" xo)
  (h14:FHy K "act" zaE)
  (h15:FHy K "act_all" QQ)
  (h16:FHy K "move_belt" vQ)
  (h17:FHy K "pass_turn" wa)
  (h18:FHy K "one_turn" ZS)
  (h19:FHy K "moves_of" ZT)
  (h20:FHy K "played" Xh)
  (h21:FHy K "kinds_in" wU)
  (h22:FHy K "kind_place" wV)
  (h23:FHy K "shape_of" xR)
  (h24:FHy K "round_ends" wS)
  (h25:FHy K "growth_of" wb)
  (h26:FHy K "cells_by_ware" xp)
  (h27:FHy K "origin_of" vO)
  (h28:FHy K "origins_of" xD)
  (a29:nsIn K mainGlobals "leapt"=some (some (.ref f29))) (l29:K.lookup f29=some ⟨yE,yy,.func (fnOf "leapt" "leapt" (qf wT) (z6 wT) (zg wT) (.ref ya) yF yG yH yz yI yJ),yC⟩) (c29:codeIn K yI "leapt"=true) (k29:keepIn K (.ref f29)=true)
  (yda:K.lookup ya=some ⟨yQ,yR,.seq #[.int 200 yU] yS,yT⟩)
  (h30:FHy K "number_from" j6)
  (h31:FHy K "common" Qe)
  (h32:FHy K "lasting" QN)
  (h33:FHy K "check_size" wX)
  (h34:FHy K "check_each_once" jM)
  (h35:FHy K "made_part" vR)
  (h36:FHy K "part_from" xh)
  (h37:FHy K "read_work" vN)
  (h38:FHy K "_law_cell" Xl)
  (h39:FHy K "_law_some" Xj)
  (h40:FHy K "_law_row" JJ)
  (h41:FHy K "_law_belt" Xm)
  (h42:FHy K "_law_split" QT)
  (h43:FHy K "_law_grown" QV)
  (h44:FHy K "_law_text" Xi)
  (h45:FHy K "_law_far" VF)
  (h46:FHy K "_law_state" QR)
  (h47:FHy K "_law_queues" vb)
  (h48:FHy K "_law_moved" QU)
  (h49:FHy K "_law_same" Xk)
  (aL:nsIn K mainGlobals "law"=some (some (.ref fL))) (lL:K.lookup fL=some ⟨ocL,odL,.func (fnOf "law" "law" (qf Qd) (z6 Qd) (zg Qd) .none kVL dcL pmL anL cdL ctL),slL⟩) (cL:codeIn K cdL "law"=true) (kL:keepIn K (.ref fL)=true)
  (yea:NNy K "list")
  (yfa:NNy K "len")
  (yga:NNy K "max")
  (yha:NNy K "range")
  (yia:NNy K "isinstance")
  (yja:NNy K "enumerate")
  (yka:NNy K "tuple")
  (yla:NNy K "zip")
  (yma:NNy K "int")
  (yna:NNy K "all")
  (yoa:NNy K "sorted")
  (ypa:NNy K "str")
  (yqa:NNy K "reversed")
  (yra:NRy K "State" yc)
  (ysa:NRy K "WorkError" yd)
  (yta:NRy K "BadBelt" ye)
  (yua:NRy K "BadKnot" yf)
  (yva:NRy K "BadWork" yg)
  (ywa:NRy K "BadRow" yh)
  (yxa:NRy K "TooLong" yi)
  (yya:NRy K "Belt" yj)
  (yza:NRy K "Knot" yl)
  (yAa:NRy K "Source" yn)
  (yBa:NRy K "Drain" yo)
  (yCa:NRy K "Parter" yp)
  (yDa:NRy K "FirstParter" yq)
  (yEa:NRy K "Sieve" yr)
  (yFa:NRy K "Joiner" yt)
  (yGa:NRy K "Lap" yu)
  (yHa:NRy K "Work" yv)
  (yIa:CHy K yc)
  (yJa:NoAttr K yc "turn")
  (yKa:NoAttr K yc "cells")
  (yLa:NoAttr K yc "sides")
  (yMa:NoAttr K yc "gone")
  (yNa:MHy K yc "__init__" "State.__init__" jt)
  (yOa:CHy K yj)
  (yPa:NoAttr K yj "room")
  (yQa:NoAttr K yj "pace")
  (yRa:MHy K yj "__init__" "Belt.__init__" we)
  (ySa:findIn K (.ref yl) "__init__"=some (some (.ref yx))) (yTa:isFn K (.ref yx)=true) (yUa:K.lookup yx=some ⟨yK,yA,.func (fnOf "__init__" "Knot.__init__" (qf jh) (z6 jh) (zg jh) .none yL yM yN yB yO yP),yD⟩) (yVa:codeIn K yO "Knot.__init__"=true) (yWa:keepIn K (.ref yx)=true)
  (yXa:specialIn K (.ref yl) "__getattribute__"=some (some (.builtin "type.__getattribute__")))
  (yYa:readsIn K yl (.type "type")=true)
  (yZa:findCls K (.ref yl) (.type "type") "__init__"=some (.val (.ref yx)))
  (y0a:CHy K yn)
  (y1a:NoAttr K yn "pace")
  (y2a:NoAttr K yn "kinds")
  (y3a:NoAttr K yn "ins")
  (y4a:NoAttr K yn "outs")
  (y5a:MHy K yn "__init__" "Source.__init__" j8)
  (y6a:MHy K yn "choice" "Source.choice" xr)
  (y7a:MHy K yn "copied" "Source.copied" xq)
  (y8a:CHy K yo)
  (y9a:NoAttr K yo "pace")
  (yab:NoAttr K yo "ins")
  (ybb:NoAttr K yo "outs")
  (ycb:MHy K yo "__init__" "Drain.__init__" xF)
  (ydb:MHy K yo "choice" "Drain.choice" xY)
  (yeb:MHy K yo "copied" "Drain.copied" xX)
  (yfb:CHy K yp)
  (ygb:NoAttr K yp "ins")
  (yhb:NoAttr K yp "outs")
  (yib:MHy K yp "__init__" "Parter.__init__" j9)
  (yjb:MHy K yp "choice" "Parter.choice" xu)
  (ykb:MHy K yp "copied" "Parter.copied" xt)
  (ylb:CHy K yq)
  (ymb:NoAttr K yq "ins")
  (ynb:NoAttr K yq "outs")
  (yob:MHy K yq "__init__" "FirstParter.__init__" qQ)
  (ypb:MHy K yq "choice" "FirstParter.choice" jk)
  (yqb:MHy K yq "copied" "FirstParter.copied" ji)
  (yrb:CHy K yr)
  (ysb:NoAttr K yr "kind")
  (ytb:NoAttr K yr "ins")
  (yub:NoAttr K yr "outs")
  (yvb:MHy K yr "__init__" "Sieve.__init__" xE)
  (ywb:MHy K yr "choice" "Sieve.choice" xV)
  (yxb:MHy K yr "place_for" "Sieve.place_for" jO)
  (yyb:MHy K yr "copied" "Sieve.copied" xU)
  (yzb:CHy K yt)
  (yAb:NoAttr K yt "ins")
  (yBb:NoAttr K yt "outs")
  (yCb:MHy K yt "__init__" "Joiner.__init__" xa)
  (yDb:MHy K yt "choice" "Joiner.choice" jA)
  (yEb:MHy K yt "copied" "Joiner.copied" xv)
  (yFb:CHy K yu)
  (yGb:NoAttr K yu "before")
  (yHb:NoAttr K yu "length")
  (yIb:NoAttr K yu "origins")
  (yJb:NoAttr K yu "growth")
  (yKb:MHy K yu "__init__" "Lap.__init__" va)
  (yLb:MHy K yu "new_ware" "Lap.new_ware" xW)
  (yMb:MHy K yu "ware_after" "Lap.ware_after" jY)
  (yNb:MHy K yu "cells_after" "Lap.cells_after" jb)
  (yOb:MHy K yu "gone_after" "Lap.gone_after" ju)
  (yPb:MHy K yu "state_after" "Lap.state_after" jP)
  (yQb:CHy K yv)
  (yRb:NoAttr K yv "belts")
  (ySb:NoAttr K yv "knots")
  (yTb:MHy K yv "__init__" "Work.__init__" jH)
  (yUb:MHy K yv "drains" "Work.drains" j7)
  (yVb:MHy K yv "sources" "Work.sources" jN)
  (yWb:MHy K yv "beat" "Work.beat" wc)
  (wgn:specialIn K (.builtin "object.__class__") "__get__"=some (some (.builtin "getset_descriptor.__get__"))) (wtk:takesIn K (.builtin "object.__class__")=some true)
  (yXb:nsIn K mainGlobals "MOST_ROOM"=some (some (.int 6 yV)))
  (yYb:nsIn K mainGlobals "MOST_PACE"=some (some (.int 4 yW)))
  (yZb:nsIn K mainGlobals "MOST_KINDS"=some (some (.int 6 yX)))
  (y0b:nsIn K mainGlobals "FEWEST_WAYS"=some (some (.int 2 yY)))
  (y1b:nsIn K mainGlobals "MOST_WAYS"=some (some (.int 4 yZ)))
  (y2b:nsIn K mainGlobals "FIGURES"=some (some (.str "0123456789" y9)))
  (y3b:nsIn K mainGlobals "MOST_FIGURES"=some (some (.int 30 yaa)))
  (y4b:nsIn K mainGlobals "MOST_BELTS"=some (some (.int 24 yba)))
  (y5b:nsIn K mainGlobals "MOST_KNOTS"=some (some (.int 24 yca)))
  (y6b:excIn K ye bmV "ValueError.__new__"=true)
  (y7b:excIn K yf bmV "ValueError.__new__"=true)
  (y8b:excIn K yi bmV "ValueError.__new__"=true)
  (y9b:excIn K yg bmV "ValueError.__new__"=true)
  (yac:subIn K (.ref ye) (.type "BaseException")=some true)
  (ybc:subIn K (.ref yf) (.type "BaseException")=some true)
  (ycc:subIn K (.ref yi) (.type "BaseException")=some true)
  (ydc:hasDictIn K yi=true)
  (yec:typeIn K (.ref yi)=some (.type "type"))
  (yfc:subIn K (.ref yi) (.ref yi)=some true)
  (ygc:KOy K yn yt false)
  (yhc:KOy K yo yt false)
  (yic:KOy K yp yt false)
  (yjc:KOy K yq yt false)
  (ykc:KOy K yr yt false)
  (ylc:KOy K yt yt true)
  (ymc:KOy K yn yo false)
  (ync:KOy K yo yo true)
  (yoc:KOy K yp yo false)
  (ypc:KOy K yq yo false)
  (yqc:KOy K yr yo false)
  (yrc:KOy K yt yo false)
  (ysc:KOy K yn yn true)
  (ytc:KOy K yo yn false)
  (yuc:KOy K yp yn false)
  (yvc:KOy K yq yn false)
  (ywc:KOy K yr yn false)
  (yxc:KOy K yt yn false)
  (yyc:KOy K yj yl false)
  (yzc:KOy K yn yl true)
  (yAc:KOy K yo yl true)
  (yBc:KOy K yp yl true)
  (yCc:KOy K yq yl true)
  (yDc:KOy K yr yl true)
  (yEc:KOy K yt yl true)
  (yFc:KOy K yj yj true)
  : ∃ fd:FuncData,(∀ (s:An) (v:Am),BindsTo s fd ⟨[v],[]⟩ [("_law_script",v)])/\∀ base:Heap,K.In base->base.Ns mainGlobals mg->FnOk l.prog w K mg base (CXr l.prog w) 11 fa fd ["_law_script"] (zap K):=by
 have e:=hfa.symm.trans (b6 X G aL);cases e;have T:Txt K mg ⟨yc,yd,ye,yf,yg,yh,yi,yj,yl,yn,yo,yp,yq,yr,yt,yu,yv⟩:={
  mM:=qA X G h1
  mf:=qA X G h2
  ly:=qA X G h3
  kK:=qA X G h4
  lK:=qA X G h5
  lM:=qA X G h6
  lO:=qA X G h7
  lz:=qA X G h8
  i0:=qA X G h9
  mE:=qA X G h10
  lP:=qA X G h11
  mO:=qA X G h12
  ki:=qA X G h13
  oa:=qA X G h14
  mP:=qA X G h15
  mh:=qA X G h16
  mi:=qA X G h17
  mF:=qA X G h18
  mG:=qA X G h19
  m7:=qA X G h20
  mH:=qA X G h21
  lQ:=qA X G h22
  mI:=qA X G h23
  lR:=qA X G h24
  mj:=qA X G h25
  kj:=qA X G h26
  ml:=qA X G h27
  lS:=qA X G h28
  nN:=zjy (st:=wT) (ps:=["work","turns","limit"]) X G a29 l29 c29 k29 yda (.cons ⟨_,rfl⟩ (.nil)) (λ s us hK hl=>by refine Zx (n:=3) (P:=λ z=>BindsTo s _ ⟨z,[]⟩ (List.zip ["work","turns","limit"] z)) ?_ us hl;intro _ _ _;exact PySem.W.binds_K hK rfl yda rfl rfl rfl) (λ s us hK hl=>by refine Zx (n:=2) (P:=λ z=>BindsTo s _ ⟨z,[]⟩ (List.zip ["work","turns","limit"] (z ++ _))) ?_ us (by simp at hl;lia);intro _ _;exact PySem.W.binds_K hK rfl yda rfl rfl rfl)
  lA:=qA X G h30
  m8:=qA X G h31
  mQ:=qA X G h32
  lT:=qA X G h33
  iV:=qA X G h34
  kH:=qA X G h35
  mr:=qA X G h36
  mt:=qA X G h37
  m9:=qA X G h38
  nh:=qA X G h39
  nP:=qA X G h40
  ni:=qA X G h41
  mR:=qA X G h42
  mS:=qA X G h43
  nj:=qA X G h44
  nS:=qA X G h45
  mT:=qA X G h46
  mJ:=qA X G h47
  mU:=qA X G h48
  nu:=qA X G h49
  nA:=bP X G yea
  io:=bP X G yfa
  m5:=bP X G yga
  kM:=bP X G yha
  i5:=bP X G yia
  kI:=bP X G yja
  mL:=bP X G yka
  nX:=bP X G yla
  nY:=bP X G yma
  nZ:=bP X G yna
  mC:=bP X G yoa
  n6:=bP X G ypa
  lh:=bP X G yqa
  nT:=b6 X G yra
  lU:=b6 X G yta
  ip:=b6 X G yua
  lV:=b6 X G yva
  lW:=b6 X G yxa
  nB:=b6 X G yya
  nC:=b6 X G yza
  lj:=b6 X G yAa
  me:=b6 X G yBa
  nF:=b6 X G yCa
  lB:=b6 X G yDa
  nU:=b6 X G yEa
  mD:=b6 X G yFa
  oh:=b6 X G yGa
  n9:=b6 X G yHa
  ad:=yIa.c
  gS:=yJa
  gM:=yKa
  gW:=yLa
  gP:=yMa
  lX:=Wn yIa yNa
  iz:=yOa.c
  iQ:=yPa
  iA:=yQa
  nH:=yOa.w wgn wtk
  mw:=Wn yOa yRa
  gZ:=zjz (st:=jh) (ps:=["self","ins","outs"]) (b6 X G yza) yXa yYa yZa yUa yVa yWa (λ _ _ _ _ _ _=>Zx (by walk_at "b"))
  hX:=y0a.c
  ii:=y1a
  ic:=y2a
  i6:=y3a
  iB:=y4a
  nI:=y0a.w wgn wtk
  lC:=Wn y0a y5a
  ko:=wy y6a
  kq:=wy y7a
  ik:=y8a.c
  ie:=y9a
  iR:=yab
  i7:=ybb
  nV:=y8a.w wgn wtk
  lY:=Wn y8a ycb
  kO:=wy ydb
  kP:=wy yeb
  ir:=yfb.c
  iH:=ygb
  ij:=yhb
  nJ:=yfb.w wgn wtk
  lD:=Wn yfb yib
  kr:=wy yjb
  ku:=wy ykb
  hW:=ylb.c
  ib:=ymb
  ia:=ynb
  lE:=ylb.w wgn wtk
  iT:=Wn ylb yob
  iI:=wy ypb
  iJ:=wy yqb
  ig:=yrb.c
  iK:=ysb
  iS:=ytb
  iL:=yub
  nW:=yrb.w wgn wtk
  lZ:=Wn yrb yvb
  kR:=wy ywb
  iW:=wy yxb
  kS:=wy yyb
  iu:=yzb.c
  iw:=yAb
  iC:=yBb
  nK:=yzb.w wgn wtk
  lF:=Wn yzb yCb
  kx:=wy yDb
  ky:=wy yEb
  gY:=yFb.c
  hJ:=yGb
  ix:=yHb
  iU:=yIb
  iM:=yJb
  mK:=Wn yFb yKb
  kT:=wy yLb
  i8:=wy yMb
  iX:=wy yNb
  i9:=wy yOb
  iY:=wy yPb
  gX:=yQb.c
  iy:=yRb
  gU:=ySb
  mx:=Wn yQb yTb
  lG:=wy yUb
  kU:=wy yVb
  my:=wy yWb
  mz:=⟨_,b6 X G yXb⟩
  kJ:=⟨_,b6 X G yYb⟩
  l5:=⟨_,b6 X G yZb⟩
  lH:=⟨_,b6 X G y0b⟩
  mB:=⟨_,b6 X G y1b⟩
  mV:=⟨_,b6 X G y2b⟩
  kX:=⟨_,b6 X G y3b⟩
  l7:=⟨_,b6 X G y4b⟩
  l8:=⟨_,b6 X G y5b⟩
  mW:=⟨y6b⟩
  iE:=⟨y7b⟩
  mX:=⟨y8b⟩
  l9:=⟨y9b⟩
  mY:=yac
  mZ:=ybc
  m4:=ycc
  iZ:=zeg ydc yec yfc
  ka:=ygc
  kz:=yhc
  kb:=yic
  iF:=yjc
  kA:=ykc
  ke:=ylc
  kB:=ymc
  iP:=ync
  kC:=yoc
  iN:=ypc
  kY:=yqc
  kD:=yrc
  iD:=ysc
  kF:=ytc
  kg:=yuc
  iG:=yvc
  kG:=ywc
  kh:=yxc
  ma:=yyc
  kZ:=yzc
  lI:=yAc
  k8:=yBc
  iO:=yCc
  lJ:=yDc
  k9:=yEc
  md:=yFc
 }
 exact ⟨_,λ s v=>.of_eq rfl,λ base _ _=>top_ok T (vy (st:=Qd) lL cL kL)⟩
def walk {l:PySem.W.OpenLaw} {q:Af} {loose:A8} {XP:(Str->Option Value)->Heap->Prop} {YP:World->Heap->Prop} {d:DefRec} {K:Params->PySem.W.Frag} (hn:l.most=some 63) (hdf:d.params.defaults=[])
  (hY:∀ (w:World) (h:Heap),YP w h->(K w.params).In h)
  (F:∀ (w:World) (mg:A4) (fa:Addr) (h:Heap),(K w.params).In h->h.Ns mainGlobals mg->mg d.name=some (.ref fa) ->
   ∃ fd:FuncData,(∀ (s:An) (u:Am),BindsTo s fd ⟨[u],[]⟩ [("_law_script",u)])/\∀ base:Heap,(K w.params).In base->base.Ns mainGlobals mg->FnOk l.prog w (K w.params) mg base (CXr l.prog w) 11 fa fd ["_law_script"] (zap (K w.params))) :
  PySem.W.WalkO q loose XP YP l.row.toRowW d [] (λ f vs=>PySem.call f vs) :=
 L2.walk_of (n:=63) (k:=11) (x:="_law_script") (CX:=λ w=>CXr l.prog w) (sp:=λ w=>zap (K w.params)) hn (by decide) hdf ⟨rfl,by decide,by decide⟩ hY F (λ _ _ a ns hl _ hS=>⟨a,ns,rfl,hS,hl,λ _=>rfl⟩) λ _ _ _ _ _ z=>zeu z
end K47
set_option Elab.async false
structure PySem.W.Fast:Prop where(tw4261472857909360844 tw3060846835211799733 tw4610752279414864787 tw7251066525595445368 tw8359464304408915874 tw16675827244696068746 tw14121066618207986432 tw17033612812583546911 tw17070589816080266692 tw10958631030004871936 tw10628547198019329629 tw4263418093046253912 tw9438860905158192402 tw16878819849723414055 tw10078959401840076668 tw17049265152023516316 tw8343840809687948560 tw5633962659353279088 tw16125005193982730135 tw16378477182126739023 tw4379231543776544936 tw15320246797734060651 tw6673336856218113652 tw15965070584801841890 tw14775708671652408015 tw14641809848532985200 tw5320544499680094730 tw12827193718359199440 tw7271888619579922291 tw6585087568389201185 tw11506001886009397941 tw10789849313582782246 tw821440814441493655 tw225962460264234215 tw10438647790753253016 tw15671821614547120188 tw2955842356118659179 tw4485078935531489060 tw6203916090144776102 tw461917400138879440 tw17895291898726718104 tw17943372776191548330 tw17495470276055722438 tw9435710359573870945 tw478612598384489159 tw12033898070890565645 tw9723132762146582162 tw4187044520439932856 tw5408670255539279408 tw8387030056136568835 tw14219231858776285144 tw15323760222903565697 tw8025226341145746207 tw14915630550166719669 tw7633598773777599999 tw4175542354386856723 tw14109087018999836257 tw6582185858490311437 tw16915436468616215186 tw8887329862974561536 tw13342177651685245679 tw16186005228403017485 tw2147308712893145093 tw16938752060631622970 tw4841017484819025693 tw4553575806873539072 tw7444392958046271974 tw6519933333626489089 tw2090478388102447358 tw10215317989398149778 tw10422139825162543104 tw9366716605598007666 tw16790984388158093508 tw14370978605646510769 tw15484667448693897450 tw642353653842274617 tw2184916371162041930 tw13193714822080285841 tw15843515139175441607 tw3168887614220086042 tw10044050821592647680 tw17668392998787395667 tw9011584807183988169 tw10309440259880381984 tw4702262787687727622 tw4030947359383048613 tw12390480257983187290 tw11012456370286046548 tw13336727746007945051 tw16748338230237966832 tw11393924677020031147 tw1088252617342870075 tw10090583908951647227 tw2688549574817736935 tw7048771454508975813 tw4365519855536393379 tw4821342136259653783 tw11104523193558031176 tw10146851876088408402 tw7450881243883199961 tw17186580778872815878 tw14881574291613296812 tw1551548126724293485 tw13126271546392505867 tw10321404914947512894 tw13348853697605495661 tw5650857512378318886 tw18008428244958132658 tw1389608822196758974 tw16085874972475801900 tw16335297405370719276 tw10722792960236797843 tw8366853163368705601 tw514817596314121636 tw16555737360434574313 tw13447296731877789219 tw8664718131000908976 tw12821496165774681495 tw4453248842007686691 tw8538233985381583837 tw3927359760120474363 tw17309390057805886705 tw11401923743996987785 tw9562032734607482630 tw5835356000747275260 tw5554052066812219741 tw4000424923357180541 tw5088345997404632826 tw11551869011719873370 tw16117813471910601831 tw3462564950449787939 tw274521754604954954 tw12807830396489394405 tw2076663229273293802 tw3419525356496609875 tw12052131219482458994 tw12946205215668841542 tw4609447294301006149 tw11332127017532432573 tw16918177809581998020 tw11615137756618094187 tw7796578841578815429 tw14209275372500045354 tw15366673195197649925 tw9998035871946963341 tw3999796098716837527 tw12493469476971161511 tw9475100202684993520 tw17139266059960207603 tw4772088623635250617 tw14697500756176984435 tw10253173128601445132 tw7324010562501223603 tw13769508838907156687 tw14262285888126737879 tw9595336789914977601 tw17305123174164698748 tw14128148730621157603 tw4090671635438452799 tw10833203035373753620 tw8194186304945760588 tw15715356881804962912 tw5607483414415502090 tw11385877854767402434 tw15062627056874025421 tw6481758462404025961 tw3587075824792153177 tw11212644775150026893 tw14923515898287117109 tw10076979862633448357 tw13100465109692751017 tw13885879994133681269 tw7609550581363026319 tw3316102136085969745 tw9865783864780857147 tw2927796995972201930 tw12179929762475796972 tw5048644544690144743 tw9149496239002049580 tw13725119026028519499 tw16892775006771522116 tw8384370847696725102 tw4298786396858065975 tw9896282219601800032 tw4604133186992115593 tw7314070623098086989 tw15865357684399338911 tw8677238284970209424 tw9163677449235367174 tw4095712017431417297 tw6890594647587289148 tw14101824020465320693 tw14028205299017471396 tw12013260545484570200 tw16872217088027247501 tw10160626520243914864 tw13718706637489112136 tw10958097283111987579 tw13150040822037376370 tw10339597299402283581 tw12253541610149173484 tw1445429701114499226 tw2145176670305550010 tw249860976219367585 tw5504302518980526546 tw5783910129742750943 tw2800850322786630931 tw731016319886328714 tw6624609159132022977 tw16258791367625999088 tw16874353771119742741 tw4288566845775740397 tw5861628949040740009 tw9585935186607427998 tw18254354863369499221 tw13443620966030095172 tw18221969042889071533 tw13516234035174149676 tw2978064757329609251 tw12951727392829563460 tw10713817304676439451 tw16449240571293025520 tw15901021087100710700 tw1975690882941354029 tw3825931442455276792 tw364133656693076373 tw15481717383668473355 tw16316832378764151740 tw8282546446762265049 tw15740718109312468234 tw3494550182321123030 tw11458277392419544157 tw4824096621375596148 tw1161067626140593484 tw4205380962189529451 tw1824961115497162193 tw11943170451603731802 tw17965678897067342429 tw11123650577065807600 tw6833882926978330248 tw6599202525328228658 tw16458036946799051211 tw5386732187865120289 tw12710073995859083775 tw5327267976449622987 tw14815191975284305992 tw1858442447036571617 tw15456717207316183164 tw16221246157949794135 tw17673645637472860941 tw2072298007893291451 tw14651806281767158106 tw741234562609724460 tw4147986812417979907 tw1536189188595968670 tw9114700927600354030 tw8551520903853416504 tw9509945098621556647 tw14090101040484405372 tw15297814433739989943 tw9911489440689047071 tw15185847757298195186 tw17953603326151526421 tw17719621179804203862 tw6264774335442398509 tw3030896818855986099 tw18427577121534852097 tw14398633173998484389 tw16711208927967386320 tw4375380456987052217 tw12894123445326213656 tw14558940531034095948 tw8255909543914251976 tw1496790579297403461 tw14019760553415442667 tw941329054660534945 tw11233594323161178074 tw17585661020060442201 tw10893901972407497028 tw7812053825592234212 tw18409323711165441228 tw2107197358983389758 tw2801798355209818031 tw7073273004088949775 tw8262498649610502032 tw9806789591412242413 tw11296070345175576535 tw2527049894875526305 tw14733460578195608315 tw12946164230462925556 tw3283635727480327893 tw12228096719683719313 tw5674783836417327887 tw13430765530776763833 tw15911931343933789736 tw12884992259188836718 tw18337448381367072508 tw13720584574131185963 tw6127811374391288992 tw1812834038162855826 tw584961396861653439 tw9891495161062312999 tw7666934312724462751 tw10949504496153561720 tw12487686781034409500 tw9252062650453029157 tw646573797763511163 tw8555131804340131509 tw2058154897518448359 tw3452254683049796416 tw16658481686603112993 tw17640390069529587588 tw17928965007190669128 tw11871807744067448901 tw10507107506238492333 tw12420900821692424948 tw14155852428330301540 tw3712990275178169574 tw13154614283510992410 tw10645824887721564556 tw4669796742021016890 tw312869078211064654 tw9784159791277560790 tw14881440752465096817 tw2006610206020688980 tw9711520195320003557 tw15232960535112845373 tw17433851714708640596 tw1074873820634280360 tw11555381753937680634 tw2976564363942505730 tw10312900742588645386 tw12720105148756682010 tw5580132996525021271 tw7059905943099265851 tw17061405419791792933 tw15534459621199003072 tw6165610001594812866 tw9888657527053656072 tw7008816530192165850 tw7586742927190176325 tw1819602126465815391 tw13530075097938223956 tw14452228402662670580 tw13003998802936348987 tw9034682476808189935 tw8285273990944121946 tw3244992688758018835 tw10490476853212250749 tw13834786049053794858 tw1699803141884359663 tw1105301846555622163 tw397367971663805864 tw1740472412261721655 tw8337415020849427430 tw344851183088711617 tw12972410574722736858 tw16293658292894210078 tw9708257638336642581 tw8103227835718629298 tw753677317292804180 tw11384985410615890055 tw17313373516188884760 tw6636814331261455893 tw236252047235094676 tw1978310587087358787 tw15408659522473279192 tw5835934411614587648 tw12674578608092761164 tw2777338799964763803 tw11654383444010189683 tw14625445529203507350 tw6655726646293461353 tw11693276804780097661 tw15369072833680121807 tw13215371181140782061 tw6304836641919033152 tw5582135153215497934 tw1994154248102176360 tw9504575765778446588 tw12860548685168957807 tw12918500854336465198 tw9893929553251296555 tw10224446549059998412:True)
open PySem PySem.W PyProof.Rows
set_option maxRecDepth 100000 in
set_option maxHeartbeats 0 in
theorem PySem.Challenge.cw_beltshares_k47_whole_queues_for_ever_holds : PySem.Challenge.rw_beltshares_k47_whole_queues_for_ever.Holds := by
 w_on;o_law;k_head;(case hw=>w_witness2)
 k_fill
 refine K47.walk (l:=PySem.Challenge.rw_beltshares_k47_whole_queues_for_ever) rfl rfl (λ w h Y=>PySem.W.kIn_of Y) ?F
 case F =>
  intro w mg fa h KX G hmg;refine' K47.all_mk KX G hmg ..
  all_goals try first|(refine' K47.fhy ?a ?l ?c ?k;(case a=>k_is);(case l=>k_is);(case c=>k_is);(case k=>k_is))|(refine' K47.mhy ?a ?i ?l ?c ?k;(case a=>k_is);(case i=>k_is);(case l=>k_is);(case c=>k_is);(case k=>k_is))|(refine ⟨?_,?_,?_,?_,?_,?_,?_,?_⟩ <;> k_is)|k_is|(show nsIn _ _ _=_;k_is)|(show findIn _ _ _=_;k_is)|(show kitOne _ _ _=_;kit_is)|k_exc
