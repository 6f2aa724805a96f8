import PyProof.Rows.All
import Wide.All
import OpenK.AllK
import Wide.FinOn
import Lean
import PyProof.EqAt
import PyProof.EqKinds
import PyProof.TupleCall
import PyProof.NeKinds
import PyProof.SumWalkG
import PyProof.Rows.CallKwBuiltin
import PyProof.Rows.FStr
import PyProof.ListRange
import PyProof.ZipIter
import PyProof.CompFree
import KE.KIntText
import PyProof.StrWalks
import PyProof.Rows.StrMul
import PyProof.ConsumeWalk
import Wide.Txt
import PySem.Challenge.RW_beltshares_k42_whole_still_for_ever
open PySem.W (instObj methodObj lookIn plainGet hasDictIn findIn handedIn plainGet_of isFn plainOver takerIn any_some makesIn typeIn emptyDict looks_findIn keepIn specialIn takesIn mroIn fnOf codeIn callWith_K methodCall_KW kitOne excIn kitCls subIn nsIn mg_of readsIn findCls binds_K mg_none_of)
set_option Elab.async false
set_option linter.all false
set_option maxRecDepth 100000
set_option compiler.extract_closed false
set_option bootstrap.genMatcherCode false
set_option hygiene false
local macro_rules | `(tactic| walk_at "p")=>`(tactic| first|exact Or.inl rfl|exact Or.inr rfl|assumption)
local macro_rules | `(tactic| walk_at "q")=>`(tactic| first|exact L2.nobehind _ (by decide) (by decide)|rfl)
set_option hygiene true
open List (nodup_append of_mem_zip range_succ nodup_nil all_cons any_cons map_nil)
def aa:=@List.getElem?_eq_some_iff
def ad:=@List.getElem?_eq_getElem
def ae:=@List.getD_eq_getElem?_getD
def af:=@List.length_map
def ah:=@List.mem_of_getElem?
def ai:=@PySem.wpAny_bind
def aj:=@PySem.Heap.get?_push_of_some
def ak:=@List.getElem?_map
def am:=@Option.map_eq_some_iff
def ao:=@if_neg
def ap:=@if_pos
def aq:=@List.size_toArray
def ar:=@PySem.F.plainAttrs_list
def au:=@PySem.Heap.lt_size
def av:=@Nat.le_refl
def aw:=@List.mem_singleton
def ax:=@List.mem_cons
def ay:=@PySem.F.type_list_append
def az:=@PySem.F.slot_list_append
def aA:=@Int.toNat_natCast
def aB:=@Bool.false_ne_true
def aC:=@PySem.Heap.get?_push_size
def aD:=@PySem.wpAny_pure
def aE:=@List.mem_append
def aF:=@List.mem_cons_of_mem
def aG:=@Nat.lt_of_lt_of_le
def aH:=@Nat.ne_of_lt
def aI:=@Option.some.inj
def aJ:=@Option.getD_some
def aK:=@List.take_add_one
def aM:=@List.getElem?_append_right
def aN:=@List.take_length
def aO:=@List.length_append
def aP:=@List.length_take
def aQ:=@List.getElem?_append_left
def aR:=@decide_eq_false
def aS:=@List.getElem?_set_self
def aT:=@List.mem_append_right
def aU:=@PySem.wpAny_mono
def aV:=@List.mem_map
def aW:=@beq_eq_false_iff_ne
def aX:=@Ne.symm
def aY:=@decide_eq_true
def aZ:=@List.Perm.refl
def a7:=@List.map_append
def a8:=@Nat.le_trans
def a9:=@List.length_replicate
def bb:=@List.getLastD_eq_getLast?
def bc:=@PySem.Heap.get?_update_other
def bd:=@PySem.wpAny_field
def be:=@List.getElem?_set_ne
def bg:=@PyProof.Rows.callWith_type1
def bh:=@PySem.Obj.data_mapFields
def bj:=@List.not_mem_nil
def bn:=@PySem.wpAny_truthy_bool
def bp:=@List.mem_append_left
def br:=@List.getElem?_of_mem
def bt:=@congrArg
def bu:=@List.mem_range
def bw:=@PySem.wpAny_Call_Name_kw
def bx:=@beq_iff_eq
def bz:=@List.map_cons
def bA:=@PySem.mem_of_lookup
def bB:=@Int.le_refl
def bD:=@Int.natAbs_natCast
def bE:=@Array.getElem?_eq_some_iff
def bF:=@List.length_cons
def bH:=@Classical.byContradiction
def bI:=@List.length_set
def bJ:=@Int.emod_nonneg
def bK:=@PySem.wpAny_seqItems
def bL:=@of_decide_eq_true
def bM:=@Nat.le_of_lt
def bN:=@PySem.Heap.size_push
def bO:=@PySem.Heap.get?_update_self
def bP:=@Int.toNat_of_nonneg
def bQ:=@or_false
def bR:=@Option.bind_eq_some_iff
def bS:=@List.all_eq_true
def bT:=@List.mem_cons_self
def bU:=@PySem.W.mg_none_of
def bV:=@Int.natCast_nonneg
def bW:=@Int.emod_lt_of_pos
def bX:=@List.take_zero
def bY:=@List.getElem?_zipWith
def bZ:=@List.getElem?_eq_none
def b5:=@List.Perm.append_left
def b6:=@PySem.wpAny_setField_rec
def b7:=@PySem.wpAny_passesOwn
def b8:=@PySem.W.mg_of
def b9:=@PySem.Obj.isFreed_of_fields
def cc:=@Int.zero_add
def cf:=@List.getLast?_eq_getElem?
def cg:=@List.append_nil
def ci:=@Nat.lt_irrefl
def cj:=@PySem.F.slot_tuple_iterator_next
def ck:=@List.append_assoc
def cm:=@Option.map_some
def cn:=@List.mem_filter
def cr:=@Nat.lt_of_le_of_lt
def cu:=@List.mem_replicate
def cv:=@List.set_eq_of_length_le
def cx:=@Nat.zero_le
def cy:=@List.length_eq_zero_iff
def cz:=@PySem.Paired.length
def cA:=@Option.some.injEq
def cB:=@Int.le_of_lt
def cC:=@Bool.and_false
def cD:=@List.lookup_cons
def cE:=@PySem.SeqAt.EqAt.of_refs
def cF:=@PySem.wpAny_callSpecial?_slot
def cG:=@Int.natAbs_dvd_natAbs
def cH:=@Bool.and_eq_true
def cI:=@List.replicate_succ
def cJ:=@PySem.SeqAt.RcAt.tuples
def cK:=@Nat.le_succ
def cM:=@Bool.or_eq_false_iff
def cO:=@List.exists_cons_of_ne_nil
def cP:=@Bool.eq_iff_iff
def cQ:=@List.find?_cons
def cR:=@List.length_pos_iff
def cS:=@Array.length_toList
def cT:=@Nat.mod_lt
def cU:=@List.pairwise_cons
def cV:=@Bool.false_eq_true
def cW:=@PySem.wpAny_execs_nil
def cX:=@List.getElem?_eq_none_iff
def cY:=@decide_eq_true_eq
def cZ:=@Option.isSome_map
def c7:=@PySem.codeAny_mono
def c8:=@List.getElem?_replicate
def c9:=@PySem.wpAny_setField
def da:=@Nat.lt_succ_self
def db:=@Nat.le_add_right
def dc:=@List.take_of_length_le
def de:=@List.getElem_mem
def dg:=@PySem.W.callWith_K
def dh:=@Nat.ne_of_gt
def di:=@Nat.min_self
def dk:=@PySem.wpAny_pyIter_list
def dl:=@PySem.wpAny_newObj_type
def dn:=@List.nodup_cons
def dq:=@List.cons.injEq
def dr:=@PySem.F.type_list_pop
def du:=@PySem.F.slot_list_pop
def dA:=@Array.getElem?_toList
def dB:=@PySem.wpAny_call_entry
def dC:=@PySem.W.methodCall_KW
def dD:=@Int.emod_emod_of_dvd
def dE:=@List.map_set
def dF:=@List.flatten_cons
def dG:=@PySem.SeqAt.EqAt.same
def dH:=@PySem.F.slot_zip_next
def dI:=@Bool.and_true
def dJ:=@List.mem_filterMap
def dL:=@Int.lt_of_lt_of_le
def dM:=@List.ne_nil_of_length_pos
def dN:=@List.length_drop
def dO:=@PySem.wpAny_updateSeq_pair
def dP:=@if_true
def dQ:=@if_false
def dR:=@Nat.succ_mul
def dS:=@Nat.lt_trichotomy
def dU:=@Int.sub_self
def dW:=@Int.add_emod
def dX:=@Function.comp_def
def dY:=@Option.getD_none
def dZ:=@Int.natCast_emod
def d5:=@PySem.wpAny_onRaise
def d6:=@PySem.wpAny_holding
def d7:=@PySem.W.binds_K
def d8:=@PySem.tupleKind_room_in1
def d9:=@PySem.call_meets
def ee:=@Nat.not_lt_zero
def ef:=@Nat.min_le_left
def eu:=@Int.natCast_mul
def eB:=@List.map_map
def eC:=@Option.map_map
def eD:=@Int.fdiv_eq_ediv_of_nonneg
def eE:=@List.perm_append_comm
def eI:=@List.length_singleton
def eJ:=@PySem.F.slot_dict_getitem
def eK:=@Array.getElem?_eq_getElem
def eM:=@PySem.wpAny_execs_cons
def eP:=@List.cons_append
def eQ:=@PySem.SeqAt.RcAt.lists
def eR:=@PySem.F.type_list_extend
def eT:=@PySem.F.slot_list_extend
def eU:=@Option.isSome_iff_exists
def eV:=@Bool.not_true
def eX:=@PySem.Around.in1_units
def eY:=@PySem.sizeLine_eq
def eZ:=@PySem.seqIndex_of
def e6:=@PySem.W.cellsFrom_some
def fe:=@PyProof.noPylong_small
def ff:=@Nat.sub_self
def fg:=@Nat.mul_comm
def fh:=@Nat.add_zero
def fj:=@List.append_eq_nil_iff
def fk:=@List.Perm.append_right
def fo:=@Int.le_trans
def fq:=@PySem.F.args_tuple_iterator_next_1
def ft:=@List.map_congr_left
def fu:=@List.length_zipWith
def fv:=@List.length_reverse
def fz:=@List.length_nil
def fA:=@List.getElem?_range
def fB:=@List.forIn_cons
def fC:=@List.flatMap_append
def fD:=@List.filterMap_cons
def fE:=@List.take_append_drop
def fF:=@List.getElem?_reverse
def fG:=@PySem.F.entry_tuple_iterator_next
def fH:=@PySem.wpAny_call
def fI:=@PySem.SeqAt.RcNeAt.lists_lengths
def fJ:=@Decidable.of_not_not
def fK:=@PySem.Calls.Name_function_global
def fM:=@PySem.intBits_le_64
def fN:=@PySem.W.pyHash_slot
def fO:=@PySem.W.looks_subIn
def fP:=@PySem.W.callWith_K0
def fQ:=@Nat.add_le_add_left
def fR:=@List.toList_toArray
def fS:=@List.getElem_of_mem
def fT:=@PySem.wpAny_standAt
def fU:=@PySem.wpAny_comprehension_free
def fV:=@PySem.wpAny_attempt
def fW:=@List.take_succ
def fX:=@PySem.W.any_some
def fY:=@PySem.SeqAt.RcAt.lists_lengths
def fZ:=@Option.toList_some
def f9:=@Array.forIn_toList
def gc:=@Array.append_assoc
abbrev A0:=PySem.W.Frag
abbrev A1:=List (Int × Int)
abbrev A2:=List (PySem.Addr × PySem.Obj)
abbrev A3:=PySem.Value->PySem.Shared->Prop
abbrev A4:=PySem.Str->Option PySem.Value
abbrev A5:=PySem.Addr->Prop
abbrev A6:=List Int
abbrev A7:=List PySem.Value
abbrev A8:=List PySem.Str
abbrev A9:=Option Int
abbrev Aa:=Option PySem.Addr
abbrev Ab:=List PySem.Addr
abbrev Ac:=Array PySem.Value
abbrev Ae:=Array (Option PySem.Value)
abbrev Af:=PySem.Program
abbrev Ag:=Unit->PySem.Shared->Prop
abbrev Ah:=Int × Int->Int × Int->Prop
abbrev Ai:=List Bool
abbrev Aj:=List Nat
abbrev Ak:=Option Nat × Option Nat × Nat
abbrev Al:=PySem.Value->PySem.Value->PySem.Sem PySem.Value
abbrev Am:=PySem.Value
abbrev An:=PySem.Shared
abbrev Ao:=PySem.Around
namespace L2
open PySem PySem.Spec PyProof.Rows
variable {A:Ao} {s:An} {K:A0} {m4:A2} {w:World} {P:Af} {x:Str} {E Q:A3} {u:Am} {us:A7} {k t' i:Nat} {b C:Addr} {M:Model} {mg:A4} {base:Heap} {pos:Pos} {op:CmpOp} {f:Al} {tg:Expr} {fd:FuncData}
abbrev Key:=Sum Int Str
noncomputable def WC:Key->Value->Bool
 | .inl k,v=>Value.isInt k v
 | .inr x,v=>Value.isStrOf x v
noncomputable def zje (w:World):Key->Int
 | .inl k=>hashInt k
 | .inr x=>hashStr w x
theorem qz:∀ {k:Key} {v:Am},WC k v=true->(∃ i t,k=Sum.inl i/\v=Value.int i t)\/(∃ x t,k=Sum.inr x/\v=Value.str x t)
 | .inl i,v,h=>by
  obtain ⟨t,e⟩:=Value.isInt_shape (k:=i) (v:=v) h;exact .inl ⟨i,t,rfl,e⟩
 | .inr x,v,h=>by
  obtain ⟨t,e⟩:=Value.isStrOf_shape (x:=x) (v:=v) h;exact .inr ⟨x,t,rfl,e⟩
def zdX (i:Int) (t:Tok):WC (.inl i) (.int i t)=true:=by simp [WC,Value.isInt]
def zdW (x:Str) (t:Tok):WC (.inr x) (.str x t)=true:=by simp [WC,Value.isStrOf]
def zhV (a b:Int):decide ((Sum.inl a:Key)=Sum.inl b)=(a == b):=by
 by_cases e:a=b
 ·subst e;simp
 ·have h:¬ (Sum.inl a:Key)=Sum.inl b:=λ q=>e (Sum.inl.inj q);rw [aR h];exact (aW.mpr e).symm
def zhS (a b:Str):decide ((Sum.inr a:Key)=Sum.inr b)=decide (a=b):=by
 by_cases e:a=b
 ·subst e;simp
 ·have h:¬ (Sum.inr a:Key)=Sum.inr b:=λ q=>e (Sum.inr.inj q);rw [aR h,aR e]
def zhU (a:Int) (b:Str):decide ((Sum.inl a:Key)=Sum.inr b)=false:=aR (λ q=>nomatch q)
def zhT (a:Str) (b:Int):decide ((Sum.inr a:Key)=Sum.inl b)=false:=aR (λ q=>nomatch q)
noncomputable def qW (prog:Af) (w:World):PySem.KeyKind prog w Key where
 is:=WC
 hash:=zje w
 inj:=λ v a b ha hb=>by
  rcases qz ha with ⟨i,t,rfl,rfl⟩|⟨x,t,rfl,rfl⟩
  ·rcases qz hb with ⟨j,u,rfl,e⟩|⟨y,u,rfl,e⟩
   ·injection e with e1 _;rw [e1]
   ·exact nomatch e
  ·rcases qz hb with ⟨j,u,rfl,e⟩|⟨y,u,rfl,e⟩
   ·exact nomatch e
   ·injection e with e1 _;rw [e1]
 byValue:=λ k v h=>by
  rcases qz h with ⟨i,t,rfl,rfl⟩|⟨x,t,rfl,rfl⟩ <;> rfl
 pyHash:=λ hv h=>by
  rcases qz hv with ⟨i,t,rfl,rfl⟩|⟨x,t,rfl,rfl⟩
  ·exact wpAny_pyHash_int h
  ·exact wpAny_pyHash_str h
 eqBool:=λ hu hv h=>by
  rcases qz hu with ⟨i,t,rfl,rfl⟩|⟨x,t,rfl,rfl⟩
  ·rcases qz hv with ⟨j,u,rfl,rfl⟩|⟨y,u,rfl,rfl⟩
   ·rw [zhV] at h;exact wpAny_eqBool_int h
   ·rw [zhU] at h;exact SeqAt.EqAt.int_str i t y u _ _ _ _ h
  ·rcases qz hv with ⟨j,u,rfl,rfl⟩|⟨y,u,rfl,rfl⟩
   ·rw [zhT] at h;exact SeqAt.EqAt.str_int x t j u _ _ _ _ h
   ·rw [zhS] at h;exact wpAny_eqBool_str h
 «strs»:=λ k x t v h=>by
  rcases qz h with ⟨i,u,rfl,e⟩|⟨y,u,rfl,e⟩
  ·exact nomatch e
  ·injection e with e1 _
   subst e1;cases v <;> rfl
def zaU (prog:Af) (w:World) (i:Int) (t:Tok):(qW prog w).is (.inl i) (.int i t)=true:=zdX i t
def zaT (prog:Af) (w:World) (x:Str) (t:Tok):(qW prog w).is (.inr x) (.str x t)=true:=zdW x t
inductive V where
 | non|bl (b:Bool)|int (i:Int)|str (x:Str)|byt (b:Array UInt8)|flt (b:UInt64)|ref (a:Addr)|ty (n:String)
 deriving DecidableEq
abbrev As:=List (List Key × V)
abbrev Ar:=List (Str × V)
abbrev Aq:=Option V
abbrev Ap:=List V
def RelV:V->Value->Prop
 | .non,u=>u=Value.none
 | .bl b,u=>u=Value.bool b
 | .int i,u=>∃ t,u=Value.int i t
 | .str x,u=>∃ t,u=Value.str x t
 | .byt b,u=>∃ t,u=Value.bytes b t
 | .flt b,u=>∃ t,u=Value.float b t
 | .ref a,u=>u=Value.ref a
 | .ty n,u=>u=Value.type n
abbrev Vals:List V->List Value->Prop:=Paired RelV
def Vals.length {xs:Ap} (r:Vals xs us):xs.length=us.length:=cz r
theorem Vals.get:∀ {xs:Ap} {us:A7} {i:Nat} {x:V},Vals xs us->xs[i]?=some x->∃ u,us[i]?=some u/\RelV x u
 | _,_,_,_,.nil,e=>by simp at e
 | _,_,0,_,.cons r _,e=>by simp at e;subst e;exact ⟨_,rfl,r⟩
 | _,_,i + 1,x,.cons _ t,e=>by
  obtain ⟨u,h1,h2⟩:=Vals.get (i:=i) (x:=x) t (by simpa using e);exact ⟨u,by simpa using h1,h2⟩
theorem Vals.set {x:V} {u:Am} (r:RelV x u):∀ {xs:Ap} {us:A7} (i:Nat),Vals xs us->Vals (xs.set i x) (us.set i u)
 | _,_,_,.nil=>.nil
 | _,_,0,.cons _ t=>.cons r t
 | _,_,i + 1,.cons q t=>.cons q (Vals.set r i t)
theorem Vals.append:∀ {xs ys:Ap} {us ws:A7},Vals xs us->Vals ys ws->Vals (xs ++ ys) (us ++ ws)
 | _,_,_,_,.nil,s=>s
 | _,_,_,_,.cons r t,s=>.cons r (Vals.append t s)
theorem Vals.take:∀ {xs:Ap} {us:A7} (n:Nat),Vals xs us->Vals (xs.take n) (us.take n)
 | _,_,0,_=>.nil
 | _,_,_ + 1,.nil=>.nil
 | _,_,n + 1,.cons r t=>.cons r (Vals.take n t)
theorem Vals.drop:∀ {xs:Ap} {us:A7} (n:Nat),Vals xs us->Vals (xs.drop n) (us.drop n)
 | _,_,0,r=>r
 | _,_,_ + 1,.nil=>.nil
 | _,_,n + 1,.cons _ t=>Vals.drop n t
def Vals.none_of:∀ {xs:Ap} {us:A7} {i:Nat},Vals xs us->xs[i]?=none->us[i]?=none:=λ {xs us i} r e=>by
 have h1:=r.length;have h2:xs.length<=i:=cX.mp e;exact cX.mpr (by omega)
def RelO:Option V->Option Value->Prop
 | some v,some u=>RelV v u
 | none,none=>True
 | _,_=>False
def KV {κ:Type}:List (κ × V)->List (κ × Value)->Prop:=Paired λ (p:κ × V) (q:κ × Value)=>p.1=q.1/\RelV p.2 q.2
noncomputable def kV:Key->V
 | .inl i=>.int i
 | .inr x=>.str x
inductive HO where
 | lst (xs:Ap)
 | tup (xs:Ap)
 | dK (m9:List (Key × V))|dT (m9:As)
 | set (S:Int->Bool) (n:Nat)
 | ins (C dx:Addr) (fs:Ar)
 | own (x:Addr)
 | xd (fs:Ar)
 | met (f x:Addr)
 | rng (lo hi:Int)
 | frz (o:Obj) (u:HO)
 | tbl (ps:Ac)
 | ext (φ:Heap->Prop)
variable {o:HO}
abbrev Hp:=Addr->Option HO
variable {H:Hp}
noncomputable def upd (H:Hp) (a:Addr) (o:HO):Hp:=λ b=>if b=a then some o else H b
def upd_same {a:Addr}:upd H a o a=some o:=by unfold upd;rw [ap rfl]
def nk:=@upd_same
def upd_ne {a b:Addr} (h:b≠a):upd H a o b=H b:=by unfold upd;rw [ao h]
def nu:=@upd_ne
def vZ {a:Addr} {o u:HO}:upd (upd H a o) a u=upd H a u:=by
 funext b;unfold upd;split <;> rfl
def Z3 {a b:Addr} {o u:HO} (h:H a=some o) (h':H b=some u) (d:o≠u):a≠b:=by
 intro e;subst e;rw [h] at h';exact d (aI h')
def ne_of_none {a b:Addr} (h:H a=some o) (h':H b=none):a≠b:=by
 intro e;subst e;rw [h] at h';cases h'
def nz:=@ne_of_none
section
variable (P:Af) (w:World)
def ObjOk (H:Hp) (h:Heap) (a:Addr):HO->Prop
 | .lst xs=>xs.length<=sizeLine/\∃ (mY:A7) (n:Nat),Vals xs mY/\h.get? a=some { cls:=.type "list",data:=.seq mY.toArray n }
 | .tup xs=>xs.length<=sizeLine/\∃ mY:List Value,Vals xs mY/\IsTup h a mY.toArray
 | .dK m9=>m9.length<=sizeLine/\(a == sysModules)=false/\∃ vs,KV m9 vs/\h.DictOf (qW P w) a vs
 | .dT m9=>m9.length<=sizeLine/\(a == sysModules)=false/\∃ xs:List (List Key × Addr × Value),
   Paired (λ (p:List Key × V) (q:List Key × Addr × Value)=>p.1=q.1/\H q.2.1=some (.tup (p.1.map kV))/\RelV p.2 q.2.2) m9 xs /\
   ∃ o es ep,h.get? a=some o/\o.ExactDict/\o.data=.dict es ep/\es.toList=xs.map (entryOfKey (tupleKind (qW P w)))/\(xs.map (·.1)).Nodup
 | .set S n=>h.SetOf (intKind P w) a S n
 | .ins C dx fs=>H dx=some (.own a)/\fs.length<=1000/\dx≠a/\h.get? a=some (instObj C dx) /\
   ∃ mA,h.Ns1 dx mA/\(∀ f,RelO (fs.lookup f) (mA f))/\PySem.Within mA (fs.map (·.1))
 | .own _=>∃ o,h.get? a=some o
 | .xd fs=>∃ mA,h.Ns1 a mA/\∀ f,RelO (fs.lookup f) (mA f)
 | .rng lo hi=>∃ t u v,h.get? a=some { cls:=.type "range",data:=.fields #[.int lo t,.int hi u,.int 1 v] }
 | .frz o u=>h.get? a=some o/\ObjOk H h a u
 | .tbl ps=>h.get? a=some { cls:=.none,data:=.fields ps }
 | .met f x=>h.get? a=some (methodObj (.ref f) (.ref x))
 | .ext φ=>φ h/\(∃ o,h.get? a=some o)/\∀ h1 h2:Heap,φ h1->(∀ o,h1.get? a=some o->h2.get? a=some o)->φ h2
def HOk (H:Hp) (h:Heap):Prop:=∀ a o,H a=some o->ObjOk P w H h a o
end
section
variable {P:Af} {w:World} {H H':Hp} {h h':Heap} {a:Addr} {o:HO}
def ObjOk.lt (x:ObjOk P w H h a o):a < h.objs.size:=by
 cases o with
 | lst xs=>obtain ⟨_,_,_,_,e⟩:=x;exact au e
 | tup xs=>obtain ⟨_,_,_,p⟩:=x;exact p.lt
 | dK m9=>obtain ⟨_,_,_,_,o,_,_,e,_⟩:=x;exact au e
 | dT m9=>obtain ⟨_,_,_,_,o,_,_,e,_⟩:=x;exact au e
 | set S n=>obtain ⟨o,_,_,_,e,_⟩:=x;exact au e
 | ins C dx fs=>obtain ⟨_,_,_,e,_⟩:=x;exact au e
 | own y=>obtain ⟨_,e⟩:=x;exact au e
 | xd fs=>obtain ⟨_,⟨_,_,_,e,_⟩,_⟩:=x;exact au e
 | rng lo hi=>obtain ⟨_,_,_,e⟩:=x;exact au e
 | frz ob u=>obtain ⟨e,_⟩:=x;exact au e
 | tbl ps=>exact au (show h.get? a=some _ from x)
 | met f y=>exact au (show h.get? a=some _ from x)
 | ext φ=>obtain ⟨_,⟨_,e⟩,_⟩:=x;exact au e
theorem Paired.mapP {α β:Type} {F G:α->β->Prop}:∀ {l₁:List α} {l₂:List β},Paired F l₁ l₂->(∀ a b,F a b->G a b)->Paired G l₁ l₂
 | _,_,.nil,_=>.nil
 | _,_,.cons r t,f=>.cons (f _ _ r) (Paired.mapP t f)
theorem ObjOk.stay (x:ObjOk P w H h a o) (k:∀ b u,(b=a\/H b=some (.own a))->h.get? b=some u->h'.get? b=some u)
  (ho:∀ b,H b=some (.own a)->H' b=some (.own a)) (ht:∀ b xs,H b=some (.tup xs)->H' b=some (.tup xs)):ObjOk P w H' h' a o:=by
 induction o with
 | lst xs=>obtain ⟨z,mY,n,r,e⟩:=x;exact ⟨z,mY,n,r,k _ _ (.inl rfl) e⟩
 | tup xs=>obtain ⟨z,mY,r,ob,e,c⟩:=x;exact ⟨z,mY,r,ob,k _ _ (.inl rfl) e,c⟩
 | dK m9=>obtain ⟨z,y,vs,r,ob,es,ep,e,c⟩:=x;exact ⟨z,y,vs,r,ob,es,ep,k _ _ (.inl rfl) e,c⟩
 | dT m9 =>
  obtain ⟨z,y,xs,r,ob,es,ep,e,c⟩:=x;exact ⟨z,y,xs,Paired.mapP r λ p q z=>⟨z.1,ht _ _ z.2.1,z.2.2⟩,ob,es,ep,k _ _ (.inl rfl) e,c⟩
 | set S n=>obtain ⟨ob,es,ep,t,e,c⟩:=x;exact ⟨ob,es,ep,t,k _ _ (.inl rfl) e,c⟩
 | ins C dx fs =>
  obtain ⟨d,z,ne,e,mA,⟨od,es,ep,e2,c⟩,r⟩:=x;exact ⟨ho _ d,z,ne,k _ _ (.inl rfl) e,mA,⟨od,es,ep,k _ _ (.inr d) e2,c⟩,r⟩
 | own y=>obtain ⟨ob,e⟩:=x;exact ⟨ob,k _ _ (.inl rfl) e⟩
 | xd fs=>obtain ⟨mA,⟨od,es,ep,e,c⟩,r⟩:=x;exact ⟨mA,⟨od,es,ep,k _ _ (.inl rfl) e,c⟩,r⟩
 | rng lo hi=>obtain ⟨t,u,v,e⟩:=x;exact ⟨t,u,v,k _ _ (.inl rfl) e⟩
 | frz ob u ih=>obtain ⟨e,q⟩:=x;exact ⟨k _ _ (.inl rfl) e,ih q⟩
 | tbl ps =>
  have e:h.get? a=some { cls:=.none,data:=.fields ps }:=x;show h'.get? a=some { cls:=.none,data:=.fields ps }
  exact k a _ (.inl rfl) e
 | met f y =>
  have e:h.get? a=some (methodObj (.ref f) (.ref y)):=x;show h'.get? a=some (methodObj (.ref f) (.ref y))
  exact k a _ (.inl rfl) e
 | ext φ=>obtain ⟨p,⟨o,e⟩,st⟩:=x;exact ⟨st _ _ p λ o q=>k _ _ (.inl rfl) q,⟨o,k _ _ (.inl rfl) e⟩,st⟩
def HOk.lt (x:HOk P w H h) (e:H a=some o):a < h.objs.size:=(x a o e).lt
def HOk.fresh (x:HOk P w H h) (e:h.objs.size<=a):H a=none:=by
 cases q:H a with
 | none=>rfl
 | some u=>exact absurd (aG (x.lt q) e) (ci _)
def HOk.kept (x:HOk P w H h) (k:∀ b u,h.get? b=some u->h'.get? b=some u):HOk P w H h':=λ a o e =>
 (x a o e).stay (λ b u _ q=>k b u q) (λ _ q=>q) λ _ _ q=>q
def HOk.laid (x:HOk P w H h) (k:∀ b u,h.get? b=some u->h'.get? b=some u) (hp:h.objs.size<=a) (new:ObjOk P w (upd H a o) h' a o):HOk P w (upd H a o) h':=λ b u e=>by
 have hn:=x.fresh hp;by_cases hb:b=a
 ·subst hb;rw [nk] at e;cases e;exact new
 ·rw [nu hb] at e;exact (x b u e).stay (λ c v _ q=>k c v q) (λ c q=>by rw [nu (nz q hn)];exact q) λ c xs q=>by rw [nu (nz q hn)];exact q
end
def Rd (H:Hp) (a:Addr) (u:HO):Prop:=H a=some u\/∃ o,H a=some (.frz o u)
def Rd.of {a:Addr} {u:HO} (h:H a=some u):Rd H a u:=.inl h
def Rd.ok {h:Heap} {a:Addr} {u:HO} (r:Rd H a u) (x:HOk P w H h):ObjOk P w H h a u:=by
 rcases r with r|⟨o,r⟩
 ·exact x a u r
 ·obtain ⟨_,q⟩:=x a _ r;exact q
def Mut:Option HO->Prop
 | some (.lst _)=>True
 | some (.dK _)=>True
 | some (.dT _)=>True
 | some (.set _ _)=>True
 | some (.ins _ _ _)=>True
 | some (.ext _)=>True
 | _=>False
section
variable {P:Af} {w:World} {H:Hp} {h h':Heap} {x e:Addr} {o':HO}
def HOk.write (ok:HOk P w H h) (mu:Mut (H x)) (he:e=x\/H e=some (.own x)) (k:∀ b u,b≠e->h.get? b=some u->h'.get? b=some u) (heo:∃ u,h'.get? e=some u)
  (new:ObjOk P w (upd H x o') h' x o'):HOk P w (upd H x o') h':=λ b u q=>by
 have nown:∀ c y,H c=some (.own y)->c≠x:=λ c y r z=>by subst z;rw [r] at mu;exact mu
 have ntup:∀ c xs,H c=some (.tup xs)->c≠x:=λ c xs r z=>by subst z;rw [r] at mu;exact mu
 by_cases hb:b=x
 ·subst hb;rw [nk] at q;cases q;exact new
 ·rw [nu hb] at q;by_cases hbe:b=e
  ·have q':H b=some (.own x):=by
    rcases he with z|z
    ·exact absurd (hbe.trans z) hb
    ·rw [hbe];exact z
   rw [q] at q';cases q';obtain ⟨v,hv⟩:=heo;exact ⟨v,by rw [hbe];exact hv⟩
  ·refine (ok b u q).stay (λ c v hc r=>k c v ?_ r) (λ c r=>by rw [nu (nown c b r)];exact r) λ c xs r=>by rw [nu (ntup c xs r)];exact r
   rcases hc with rfl|hc
   ·exact hbe
   ·rintro rfl;rcases he with z|z
    ·exact nown c b hc z
    ·rw [hc] at z;cases z;exact hb rfl
end
structure Un (fs ex:Ab) (H H':Hp) (h h':Heap):Prop where
 keep:∀ b o,h.get? b=some o->H b=none->b ∉ fs->b ∉ ex->h'.get? b=some o
 slot:∀ b o,h.get? b=some o->H b=none->b∈fs->b ∉ ex->∃ sl,h'.get? b=some { o with slots:=sl }
 free:∀ b o,h.get? b=some o->H b=none->b ∉ ex->H' b=none
 there:∀ b o,h.get? b=some o->b ∉ ex->∃ o',h'.get? b=some o'
 tups:∀ b xs,H b=some (.tup xs)->H' b=some (.tup xs)
 frzs:∀ b o u,H b=some (.frz o u)->H' b=some (.frz o u)
 tbls:∀ b ps,H b=some (.tbl ps)->∃ more,H' b=some (.tbl (ps ++ more))
section
variable {fs fs' ex ex':Ab} {H H1 H2:Hp} {h h1 h2 h':Heap} {a x e:Addr} {o:HO}
def Un.any (u:Un fs ex H H1 h h1) {ob:Obj} (q:h.get? b=some ob) (n:H b=none) (hx:b ∉ ex):∃ sl,h1.get? b=some { ob with slots:=sl }:=by
 by_cases hb:b∈fs
 ·exact u.slot b ob q n hb hx
 ·exact ⟨ob.slots,u.keep b ob q n hb hx⟩
def Un.trans (a:Un fs ex H H1 h h1) (b:Un fs ex H1 H2 h1 h2):Un fs ex H H2 h h2 where
 keep:=λ c ob q n hc hx=>b.keep c ob (a.keep c ob q n hc hx) (a.free c ob q n hx) hc hx
 slot:=λ c ob q n hc hx=>by
  obtain ⟨sl,e1⟩:=a.slot c ob q n hc hx;obtain ⟨sl',e2⟩:=b.slot c _ e1 (a.free c ob q n hx) hc hx;exact ⟨sl',e2⟩
 free:=λ c ob q n hx=>by
  obtain ⟨o',e1⟩:=a.there c ob q hx;exact b.free c o' e1 (a.free c ob q n hx) hx
 there:=λ c ob q hx=>by
  obtain ⟨o',e1⟩:=a.there c ob q hx;exact b.there c o' e1 hx
 tups:=λ c xs q=>b.tups c xs (a.tups c xs q)
 frzs:=λ c ob xs q=>b.frzs c ob xs (a.frzs c ob xs q)
 tbls:=λ c ps q=>by
  obtain ⟨m1,e1⟩:=a.tbls c ps q;obtain ⟨m2,e2⟩:=b.tbls c _ e1;exact ⟨m1 ++ m2,by rw [e2,gc]⟩
def Un.kept (k:∀ b u,h.get? b=some u->h'.get? b=some u):Un fs ex H H h h' :=
 ⟨λ b ob q _ _ _=>k b ob q,λ b ob q _ _ _=>⟨ob.slots,k b ob q⟩,λ _ _ _ n _=>n,λ b ob q _=>⟨ob,k b ob q⟩,λ _ _ q=>q,λ _ _ _ q=>q,λ _ ps q=>⟨#[],by rw [q];simp⟩⟩
def Un.refl:Un fs ex H H h h:=Un.kept λ _ _ q=>q
def Un.laid (k:∀ b u,h.get? b=some u->h'.get? b=some u) (hp:h.objs.size<=a) (hn:H a=none):Un fs ex H (upd H a o) h h' where
 keep:=λ b u q _ _ _=>k b u q
 slot:=λ b u q _ _ _=>⟨u.slots,k b u q⟩
 free:=λ b u q n _=>by rw [nu (aH (aG (au q) hp))];exact n
 there:=λ b u q _=>⟨u,k b u q⟩
 tups:=λ b xs q=>by rw [nu (nz q hn)];exact q
 frzs:=λ b u xs q=>by rw [nu (nz q hn)];exact q
 tbls:=λ b ps q=>⟨#[],by rw [nu (nz q hn),q];simp⟩
def Un.write (mu:Mut (H x)) (he:e=x\/H e=some (.own x)) (k:∀ b u,b≠e->h.get? b=some u->h'.get? b=some u) (heo:∃ u,h'.get? e=some u):Un fs ex H (upd H x o) h h':=by
 have hx:∀ b,H b=none->b≠x:=λ b n z=>by subst z;rw [n] at mu;exact mu
 have hb:∀ b,H b=none->b≠e:=λ b n z=>by
  subst z;rcases he with r|r
  ·exact hx b n r
  ·rw [n] at r;cases r
 have hm:∀ b u,H b=some u->¬ Mut (some u)->b≠x:=λ b u q nm z=>by subst z;rw [q] at mu;exact nm mu
 refine ⟨λ b u q n _ _=>k b u (hb b n) q,λ b u q n _ _=>⟨u.slots,k b u (hb b n) q⟩,λ b u q n _=>by rw [nu (hx b n)];exact n,λ b u q _=>?_,
  λ b xs q=>by rw [nu (hm b _ q λ z=>z)];exact q,λ b u xs q=>by rw [nu (hm b _ q λ z=>z)];exact q,λ b ps q=>⟨#[],by rw [nu (hm b _ q λ z=>z),q];simp⟩⟩
 by_cases hbe:b=e
 ·subst hbe;exact heo
 ·exact ⟨u,k b u hbe q⟩
def Un.mono (u:Un fs ex H H1 h h1) (hs:∀ b∈fs,b∈fs') (hx:∀ b∈ex,b∈ex'):Un fs' ex' H H1 h h1 :=
 ⟨λ b ob q n hb he=>u.keep b ob q n (λ z=>hb (hs b z)) λ z=>he (hx b z),λ _ _ q n _ he=>u.any q n λ z=>he (hx _ z),λ b ob q n he=>u.free b ob q n λ z=>he (hx b z),λ b ob q he=>u.there b ob q λ z=>he (hx b z),u.tups,u.frzs,u.tbls⟩
end
noncomputable def trk (h:Heap) (H:Hp):List Addr:=(List.range h.objs.size).filter λ a=>(H a).isSome
noncomputable def VL (h:Heap) (H:Hp):Heap:=PySem.W.hideAll h (trk h H)
def zdZ (h:Heap) (H:Hp):(VL h H).objs.size=h.objs.size:=PySem.W.hideAll_size _ _
def zfs {h:Heap} {o:Obj} (e:h.get? b=some o) (n:H b=none):(VL h H).get? b=some o :=
 PySem.W.hideAll_get _ e λ hm=>by
  have q:(H b).isSome=true:=(cn.mp hm).2;rw [n] at q;simp at q
def zgt {h:Heap} {o:Obj} (e:(VL h H).get? b=some o):h.get? b=some o/\H b=none:=by
 have e':h.get? b=some o:=PySem.W.of_hideAll (trk h H) e;refine ⟨e',?_⟩;cases q:H b with
 | none=>rfl
 | some x =>
  have hm:b∈trk h H:=cn.mpr ⟨bu.mpr (au e'),by simp [q]⟩;have z:(VL h H).get? b=none:=PySem.W.hideAll_none (trk h H) hm;rw [z] at e;cases e
noncomputable def zgT (g h:Heap) (L:Addr):List (Addr × Obj):=(List.range h.objs.size).filterMap λ a=>if a=L\/(g.get? a).isSome=true then none else (h.get? a).map λ o=>(a,o)
noncomputable def rest (g h:Heap) (L d:Addr):List (Addr × Obj):=(zgT g h L).filter λ p=>decide (p.1≠d)
structure Mod (K:A0) (mg:A4) (base:Heap):Prop where
 kin:K.In base
 glob:base.Ns mainGlobals mg
 blt:∃ mb,base.Ns builtinsNs mb/\∀ x:Str,x≠"__name__"->mb x=bootBuiltins x
 nolimit:base.NoLimit
structure Cx where
 prog:Program
 w:World
 K:PySem.W.Frag
 mg:Str->Option Value
 base:Heap
 A:Around
 N:List Str
 s₀:Shared
 H₀:Hp
 env:Env
 outer:List Env
 stack:List Env
 ex:List Addr
 fn:Str->Bool
 calm:Bool
 pn:List (Addr × Obj)
 xe:Value->Shared->Prop
variable {X:Cx}
noncomputable def frs (l:List Env):List Addr:=l.filterMap (·.frame)
noncomputable abbrev Cx.fs (X:Cx):List Addr:=frs X.outer
def Vis (sc:Scope) (x:Str):Prop:=sc.names.lookup x=some .local\/sc.names.lookup x=some .cell\/sc.names.lookup x=some .free
def Loc (sc:Scope) (x:Str):Prop:=sc.names.lookup x=some .local\/sc.names.lookup x=some .cell
def zji (env:Env) (h:Heap) (m:A4) (x:Str) (u:Am):Prop :=
 (env.kindOf x=some .local/\m x=some u)\/((env.kindOf x=some .cell\/env.kindOf x=some .free)/\∃ c,env.cells.lookup x=some c/\h.IsCell c (some u))
structure Cx.Ok (X:Cx):Prop where
 mod:Mod X.K X.mg X.base
 kind:X.env.scope.kind=.function
 glob:X.env.globals=mainGlobals
 blt:X.env.builtins=builtinsNs
 above:X.s₀.heap.objs.size<=X.env.locals
 inj:∀ x y c,X.env.cells.lookup x=some c->X.env.cells.lookup y=some c->x=y
 has:∀ x,(X.env.kindOf x=some .cell\/X.env.kindOf x=some .free)->∃ c,X.env.cells.lookup x=some c
 cab:∀ x c,X.fn x=true->X.env.cells.lookup x=some c->X.s₀.heap.objs.size<=c
 hd:X.calm=true->X.A.handled=none
 frames:X.A.frames=some X.stack
 stk:X.stack=X.outer\/(X.stack=X.env :: X.outer/\X.env.frame=some X.env.locals)
 exf:∀ b∈X.ex,b≠X.env.locals/\∀ x c,X.env.cells.lookup x=some c->c≠b
 bs:∀ b o,X.base.get? b=some o->X.s₀.heap.get? b=some o/\X.H₀ b=none
 bsz:X.base.objs.size<=X.s₀.heap.objs.size
 noex:∀ b o,X.base.get? b=some o->b ∉ X.ex
 exfs:∀ b∈X.ex,b ∉ X.fs
 funs:X.s₀.heap.FunFrames X.base X.outer
 frf:∀ b∈X.fs,X.H₀ b=none
structure Inv (X:Cx) (m4:A2) (σ:List Aq) (H:Hp) (s:An):Prop where
 ok:X.Ok
 os:s.os=X.s₀.os
 bare:AllBare s.gens
 base:Un X.fs X.ex X.H₀ H X.s₀.heap s.heap
 loc:∃ m,s.heap.Ns X.env.locals m/\∀ (i:Nat) (x:Str) (v:V),X.N[i]?=some x->σ[i]?=some (some v)->Vis X.env.scope x->∃ u,RelV v u/\zji X.env s.heap m x u
 cell:∀ x c,X.env.cells.lookup x=some c->∃ v,s.heap.IsCell c v
 free:H X.env.locals=none
 freeC:∀ x c,X.env.cells.lookup x=some c->H c=none
 pin:∀ p∈X.pn ++ m4,s.heap.get? p.1=some p.2/\H p.1=none/\p.1≠X.env.locals/\p.1 ∉ X.fs/\∀ v,p.2.data≠.cell v
 hok:HOk X.prog X.w H s.heap
 len:σ.length=X.N.length
section
variable {X:Cx} {m4:A2} {σ:List Aq} {H H':Hp} {s:An} {h':Heap}
def Cx.Ok.nofr (ok:X.Ok) {o:Obj} (e:X.base.get? b=some o):b ∉ X.fs:=λ hb=>by
 have:=(ok.funs.mem hb).1;rw [e] at this;cases this
def Inv.bs (I:Inv X m4 σ H s):∀ b o,X.base.get? b=some o->s.heap.get? b=some o/\H b=none:=λ b o e =>
 ⟨I.base.keep b o (I.ok.bs b o e).1 (I.ok.bs b o e).2 (I.ok.nofr e) (I.ok.noex b o e),I.base.free b o (I.ok.bs b o e).1 (I.ok.bs b o e).2 (I.ok.noex b o e)⟩
def Inv.bk (I:Inv X m4 σ H s):∀ b o,X.base.get? b=some o->s.heap.get? b=some o:=λ b o e=>(I.bs b o e).1
def Inv.mod (I:Inv X m4 σ H s):Mod X.K X.mg X.base:=I.ok.mod
def Inv.kIn (I:Inv X m4 σ H s):X.K.In s.heap:=I.ok.mod.kin.keeps I.bk
def Inv.nolimit (I:Inv X m4 σ H s):s.heap.NoLimit:=I.ok.mod.nolimit.keeps I.bk
def Inv.fr (I:Inv X m4 σ H s):∃ m,Fr X.base X.env.locals s.heap m :=
 let ⟨m,hn,_⟩:=I.loc
 ⟨m,hn,I.bk,a8 I.ok.bsz I.ok.above⟩
def Inv.lt (I:Inv X m4 σ H s):X.env.locals < s.heap.objs.size:=by
 obtain ⟨_,hn,_⟩:=I.loc;exact hn.lt
def Inv.sz (I:Inv X m4 σ H s):X.s₀.heap.objs.size<=s.heap.objs.size:=a8 I.ok.above (bM I.lt)
def Inv.nofs (I:Inv X m4 σ H s) {a:Addr} (h:s.heap.objs.size<=a):a ∉ X.fs:=λ hb=>by
 obtain ⟨_,o,ho,_⟩:=I.ok.funs.mem hb;exact absurd (aG (au ho) (a8 I.sz h)) (ci _)
def Inv.cne (I:Inv X m4 σ H s):∀ x c,X.env.cells.lookup x=some c->c≠X.env.locals:=λ x c e z=>by
 obtain ⟨v,o,ho,hd⟩:=I.cell x c e;obtain ⟨m,⟨o',es,ep,ho',hd',_⟩,_⟩:=I.loc;rw [z,ho'] at ho;cases ho;rw [hd'] at hd;cases hd
def Inv.funs (I:Inv X m4 σ H s):s.heap.FunFrames X.base X.outer:=by
 have all:∀ (l:List Env),(∀ b∈frs l,b∈X.fs)->X.s₀.heap.FunFrames X.base l->s.heap.FunFrames X.base l:=by
  intro l
  induction l with
  | nil=>intro _ _;trivial
  | cons env r ih =>
   intro hs hl;obtain ⟨hk,⟨L,o,hf,hn,ho,hd⟩,hr⟩:=hl;have hL:L∈X.fs:=hs L (by unfold frs;rw [fD,hf];exact bT);obtain ⟨sl,e⟩:=I.base.slot L o ho (I.ok.frf L hL) hL λ z=>I.ok.exfs L z hL;exact ⟨hk,⟨L,_,hf,hn,e,hd⟩,ih (λ b hb=>hs b (by unfold frs;rw [fD,hf];exact aF _ hb)) hr⟩
 exact all X.outer (λ _ hb=>hb) I.ok.funs
def Inv.stack (I:Inv X m4 σ H s):s.heap.FunFrames X.base X.stack:=by
 rcases I.ok.stk with e|⟨e,hf⟩
 ·rw [e];exact I.funs
 ·rw [e];obtain ⟨m,hn,_⟩:=I.loc;refine .cons (by rw [I.ok.kind];decide) hf hn ?_ I.funs;exact Heap.get?_none_of_le (a8 I.ok.bsz I.ok.above)
def Inv.stkSub (I:Inv X m4 σ H s):∀ b∈frs X.stack,b∈X.env.locals :: X.fs:=λ b hb=>by
 rcases I.ok.stk with e|⟨e,hf⟩
 ·rw [e] at hb;exact aF _ hb
 ·rw [e] at hb;unfold frs at hb;rw [fD,hf] at hb;exact hb
def Inv.stkFree (I:Inv X m4 σ H s):∀ b∈frs X.stack,H b=none:=λ b hb=>by
 rcases ax.mp (I.stkSub b hb) with e|hb
 ·rw [e];exact I.free
 ·obtain ⟨_,o,ho,_⟩:=I.ok.funs.mem hb;exact I.base.free b o ho (I.ok.frf b hb) λ z=>I.ok.exfs b z hb
def Inv.step {g':Array GenState} {d':Drawn} {ch:Ab} (I:Inv X m4 σ H s)
  (hch:∀ b∈ch,(b∈X.ex\/X.s₀.heap.objs.size<=b)/\b≠X.env.locals/\(∀ x c,X.env.cells.lookup x=some c->c≠b)/\∀ p∈X.pn ++ m4,p.1≠b)
  (keep:∀ b o,b≠X.env.locals->b ∉ X.fs->b ∉ ch->s.heap.get? b=some o->H b=none->h'.get? b=some o)
  (slot:∀ b o,b≠X.env.locals->b∈X.fs->b ∉ ch->s.heap.get? b=some o->H b=none->∃ sl,h'.get? b=some { o with slots:=sl }) (free:∀ b o,b ∉ ch->s.heap.get? b=some o->H b=none->H' b=none)
  (there:∀ b o,b ∉ ch->s.heap.get? b=some o->∃ o',h'.get? b=some o')
  (tups:∀ b xs,H b=some (.tup xs)->H' b=some (.tup xs)) (frzs:∀ b o u,H b=some (.frz o u)->H' b=some (.frz o u)) (tbls:∀ b ps,H b=some (.tbl ps)->∃ more,H' b=some (.tbl (ps ++ more)))
  (ns:∀ m,s.heap.Ns X.env.locals m->h'.Ns X.env.locals m) (hok:HOk X.prog X.w H' h') (hg:AllBare g') :
  Inv X m4 σ H' { s with heap:=h',gens:=g',drawn:=d',toks:=t' }:=by
 have neL:∀ b o,X.s₀.heap.get? b=some o->b≠X.env.locals:=λ b o e=>aH (aG (au e) I.ok.above);have neC:∀ b o,X.s₀.heap.get? b=some o->b ∉ X.ex->b ∉ ch:=λ b o e hx hb=>by
  rcases (hch b hb).1 with z|z
  ·exact hx z
  ·exact absurd (aG (au e) z) (ci _)
 have cellK:∀ x c,X.env.cells.lookup x=some c->∀ v,s.heap.IsCell c v->h'.IsCell c v:=λ x c e v ⟨o,ho,hd⟩=>by
  have nch:c ∉ ch:=λ z=>(hch c z).2.2.1 x c e rfl;by_cases hc:c∈X.fs
  ·obtain ⟨sl,q⟩:=slot c o (I.cne x c e) hc nch ho (I.freeC x c e);exact ⟨_,q,hd⟩
  ·exact ⟨o,keep c o (I.cne x c e) hc nch ho (I.freeC x c e),hd⟩
 refine ⟨I.ok,I.os,hg,⟨λ b o e n hb hx=>?_,λ b o e n hb hx=>?_,λ b o e n hx=>?_,λ b o e hx=>?_,λ b xs e=>tups b xs (I.base.tups b xs e),λ b o xs e=>frzs b o xs (I.base.frzs b o xs e),λ b ps e=>?_⟩,?_,λ x c e=>?_,?_,λ x c e=>?_,λ p hp=>?_,hok,I.len⟩
 ·exact keep b o (neL b o e) hb (neC b o e hx) (I.base.keep b o e n hb hx) (I.base.free b o e n hx)
 ·obtain ⟨sl,e1⟩:=I.base.slot b o e n hb hx;obtain ⟨sl',e2⟩:=slot b _ (neL b o e) hb (neC b o e hx) e1 (I.base.free b o e n hx);exact ⟨sl',e2⟩
 ·obtain ⟨o',e1⟩:=I.base.there b o e hx;exact free b o' (neC b o e hx) e1 (I.base.free b o e n hx)
 ·obtain ⟨o',e1⟩:=I.base.there b o e hx;exact there b o' (neC b o e hx) e1
 ·obtain ⟨m1,e1⟩:=I.base.tbls b ps e;obtain ⟨m2,e2⟩:=tbls b _ e1;exact ⟨m1 ++ m2,by rw [e2,gc]⟩
 ·obtain ⟨m,hn,hl⟩:=I.loc;refine ⟨m,ns m hn,λ i x v e1 e2 e3=>?_⟩;obtain ⟨u,r,l⟩:=hl i x v e1 e2 e3;refine ⟨u,r,?_⟩;rcases l with l|⟨k,c,e,z⟩
  ·exact .inl l
  ·exact .inr ⟨k,c,e,cellK x c e _ z⟩
 ·obtain ⟨v,z⟩:=I.cell x c e;exact ⟨v,cellK x c e v z⟩
 ·obtain ⟨m,⟨o,_,_,ho,_⟩,_⟩:=I.loc;exact free _ o (λ z=>(hch _ z).2.1 rfl) ho I.free
 ·obtain ⟨v,o,ho,hd⟩:=I.cell x c e;exact free c o (λ z=>(hch c z).2.2.1 x c e rfl) ho (I.freeC x c e)
 ·obtain ⟨e,n,ne,nf,d⟩:=I.pin p hp;have nch:p.1 ∉ ch:=λ z=>(hch p.1 z).2.2.2 p hp rfl;exact ⟨keep p.1 p.2 ne nf nch e n,free p.1 p.2 nch e n,ne,nf,d⟩
def Inv.un (I:Inv X m4 σ H s) (u:Un X.fs [] H H' s.heap h') (hok:HOk X.prog X.w H' h'):Inv X m4 σ H' { s with heap:=h',toks:=t' }:=by
 obtain ⟨m,⟨o,es,ep,ho,r⟩,_⟩:=id I.loc;obtain ⟨sl,hL⟩:=u.any ho I.free (by simp);exact I.step (g':=s.gens) (d':=s.drawn) (ch:=[]) (λ _ z=>nomatch z) (λ b o _ hb _ e n=>u.keep b o e n hb (by simp)) (λ b o _ hb _ e n=>u.slot b o e n hb (by simp)) (λ b o _ e n=>u.free b o e n (by simp)) (λ b o _ e=>u.there b o e (by simp)) u.tups u.frzs u.tbls (λ m' hm=>by
  obtain ⟨o',es',ep',ho',r'⟩:=hm;rw [ho] at ho';cases ho';exact ⟨_,es',ep',hL,r'⟩) hok I.bare
def Inv.call {g':Array GenState} {d':Drawn} {ch:Ab} (I:Inv X m4 σ H s) (u:Un (frs X.stack) ch H H' s.heap h') (hok:HOk X.prog X.w H' h') (hg:AllBare g')
  (hch:∀ b∈ch,(b∈X.ex\/X.s₀.heap.objs.size<=b)/\b≠X.env.locals/\(∀ x c,X.env.cells.lookup x=some c->c≠b)/\∀ p∈X.pn ++ m4,p.1≠b) :
  Inv X m4 σ H' { s with heap:=h',gens:=g',drawn:=d',toks:=t' }:=by
 obtain ⟨m,⟨o,es,ep,ho,r⟩,_⟩:=id I.loc;obtain ⟨sl,hL⟩:=u.any ho I.free λ z=>(hch _ z).2.1 rfl;exact I.step (ch:=ch) hch (λ b o hL hb hc e n=>u.keep b o e n (λ z=>(ax.mp (I.stkSub b z)).elim hL hb) hc) (λ b o _ _ hc e n=>u.any e n hc) (λ b o hc e n=>u.free b o e n hc) (λ b o hc e=>u.there b o e hc) u.tups u.frzs u.tbls (λ m' hm=>by
  obtain ⟨o',es',ep',ho',r'⟩:=hm;rw [ho] at ho';cases ho';exact ⟨_,es',ep',hL,r'⟩) hok hg
def Inv.turned {it:Addr} (I:Inv X m4 σ H s) (k:∀ b o,b≠it->s.heap.get? b=some o->h'.get? b=some o) (hn:H it=none) (hL:it≠X.env.locals)
  (h1:it∈X.ex\/X.s₀.heap.objs.size<=it) (h2:∀ x c,X.env.cells.lookup x=some c->c≠it) (h3:∀ p∈X.pn ++ m4,p.1≠it):Inv X m4 σ H { s with heap:=h',toks:=t' }:=by
 have nit:∀ b u,H b=some u->b≠it:=λ b u e z=>by rw [z,hn] at e;cases e
 refine I.step (g':=s.gens) (d':=s.drawn) (ch:=[it]) (λ b hb=>?_) (λ b o _ _ hc e _=>k b o (λ z=>hc (by simp [z])) e) (λ b o _ _ hc e _=>⟨o.slots,k b o (λ z=>hc (by simp [z])) e⟩) (λ _ _ _ _ n=>n)
  (λ b o hc e=>⟨o,k b o (λ z=>hc (by simp [z])) e⟩) (λ _ _ e=>e) (λ _ _ _ e=>e) (λ b ps e=>⟨#[],by rw [e];simp⟩) (λ m hm=>?_) (λ b u e=>?_) I.bare
 ·have e:b=it:=by simpa using hb
  subst e;exact ⟨h1,hL,h2,h3⟩
 ·obtain ⟨o,es,ep,ho,r⟩:=hm;exact ⟨o,es,ep,k _ o (aX hL) ho,r⟩
 ·refine (I.hok b u e).stay (λ c v hc q=>k c v ?_ q) (λ _ q=>q) λ _ _ q=>q;rcases hc with z|z
  ·rw [z];exact nit b u e
  ·exact nit c _ z
def Inv.tok (I:Inv X m4 σ H s) (t:Nat):Inv X m4 σ H { s with toks:=t }:=I.un (h':=s.heap) (t':=t) Un.refl I.hok
def Inv.kept (I:Inv X m4 σ H s) (k:∀ b u,s.heap.get? b=some u->h'.get? b=some u):Inv X m4 σ H { s with heap:=h',toks:=t' }:=I.un (Un.kept k) (I.hok.kept k)
def Inv.laid {a:Addr} (I:Inv X m4 σ H s) (k:∀ b u,s.heap.get? b=some u->h'.get? b=some u) (hp:s.heap.objs.size<=a) (new:ObjOk X.prog X.w (upd H a o) h' a o) :
  Inv X m4 σ (upd H a o) { s with heap:=h',toks:=t' }:=I.un (Un.laid k hp (I.hok.fresh hp)) (I.hok.laid k hp new)
def Inv.write {x e:Addr} (I:Inv X m4 σ H s) (mu:Mut (H x)) (he:e=x\/H e=some (.own x)) (k:∀ b u,b≠e->s.heap.get? b=some u->h'.get? b=some u) (heo:∃ u,h'.get? e=some u)
  (new:ObjOk X.prog X.w (upd H x o) h' x o):Inv X m4 σ (upd H x o) { s with heap:=h',toks:=t' }:=I.un (Un.write mu he k heo) (I.hok.write mu he k heo new)
def Inv.pins_of {pins':A2} (I:Inv X m4 σ H s) (h:∀ p∈pins',s.heap.get? p.1=some p.2/\H p.1=none/\p.1≠X.env.locals/\p.1 ∉ X.fs/\∀ v,p.2.data≠.cell v):Inv X pins' σ H s :=
 ⟨I.ok,I.os,I.bare,I.base,I.loc,I.cell,I.free,I.freeC,λ p hp=>(aE.mp hp).elim (λ z=>I.pin p (bp _ z)) (h p),I.hok,I.len⟩
def Xi {N:A8} (hN:N.Nodup) {i j:Nat} (a:N[i]?=some x) (b:N[j]?=some x):i=j:=by
 obtain ⟨h1,e1⟩:=aa.mp a;obtain ⟨h2,e2⟩:=aa.mp b;exact (List.getElem_inj hN).mp (e1.trans e2.symm)
def We {v:V} {Q:Ag} (I:Inv X m4 σ H s) (hN:X.N.Nodup) (hi:X.N[i]?=some x) (hx:Loc X.env.scope x) (r:RelV v u)
  (h:∀ s',Inv X m4 (σ.set i (some v)) H s'->(∃ a,Heap.SameBut a s.heap s'.heap/\(a=X.env.locals\/X.env.cells.lookup x=some a))->Q () s') (hf:X.fn x=true\/X.env.scope.names.lookup x=some .local:=by walk_at "p"):wpAny M A (storeName X.env x u) Q E s:=by
 obtain ⟨m,hn,hl⟩:=id I.loc;have hcls:(X.env.scope.kind == .class || (X.env.scope.kind == .module && X.env.locals != X.env.globals))=false:=by rw [I.ok.kind];rfl
 have hiσ:i < σ.length:=by rw [I.len];exact (aa.mp hi).1
 have cne:=I.cne;have tracked:∀ {a:Addr} {h':Heap},(∃ o,s.heap.get? a=some o/\H a=none)->Heap.SameBut a s.heap h'->HOk X.prog X.w H h':=λ {a h'} ha hs b ob e=>by
  obtain ⟨_,_,hfree⟩:=ha;refine (I.hok b ob e).stay (λ c w' hc q=>(hs.2 c ?_).trans q) (λ _ q=>q) λ _ _ q=>q;rintro rfl;rcases hc with rfl|hc
  ·rw [hfree] at e;cases e
  ·rw [hfree] at hc;cases hc
 rcases hx with hk|hk
 ·refine wpAny_storeName_local hk hn (λ h' hn' hs=>?_) hcls;obtain ⟨oL,_,_,hoL,_⟩:=id hn;refine h _ ⟨I.ok,I.os,I.bare,⟨λ b o e n hb hx=>?_,λ b o e n hb hx=>?_,I.base.free,λ b o e hx=>?_,I.base.tups,I.base.frzs,I.base.tbls⟩,⟨_,hn',λ j y v' e1 e2 e3=>?_⟩,λ y c e=>?_,I.free,I.freeC,λ p hp=>?_,tracked ⟨oL,hoL,I.free⟩ hs,by simpa using I.len⟩ ⟨_,hs,.inl rfl⟩
  ·exact (hs.2 b (aH (aG (au e) I.ok.above))).trans (I.base.keep b o e n hb hx)
  ·obtain ⟨sl,e1⟩:=I.base.slot b o e n hb hx;exact ⟨sl,(hs.2 b (aH (aG (au e) I.ok.above))).trans e1⟩
  ·obtain ⟨o',e1⟩:=I.base.there b o e hx;exact ⟨o',(hs.2 b (aH (aG (au e) I.ok.above))).trans e1⟩
  ·by_cases hj:j=i
   ·subst hj;rw [hi] at e1;cases e1;rw [aS hiσ] at e2;cases e2;exact ⟨u,r,.inl ⟨hk,by simp⟩⟩
   ·rw [be (aX hj)] at e2;obtain ⟨u',r',q⟩:=hl j y v' e1 e2 e3;refine ⟨u',r',?_⟩;rcases q with ⟨k,e⟩|⟨k,c,e,z⟩
    ·refine .inl ⟨k,?_⟩;have:y≠x:=λ e=>hj (Xi hN e1 (e ▸ hi));simp [this,e]
    ·exact .inr ⟨k,c,e,z.sameBut hs (cne y c e)⟩
  ·obtain ⟨w',z⟩:=I.cell y c e;exact ⟨w',z.sameBut hs (cne y c e)⟩
  ·obtain ⟨e,n,ne,nf,d⟩:=I.pin p hp;exact ⟨(hs.2 p.1 ne).trans e,n,ne,nf,d⟩
 ·have hfn:X.fn x=true:=by
   rcases hf with z|z
   ·exact z
   ·rw [z] at hk;cases hk
  obtain ⟨c,hc⟩:=I.ok.has x (.inl hk);obtain ⟨w',z⟩:=I.cell x c hc;refine wpAny_storeName_cell I.ok.kind hk hc z (λ h' hc' hs=>?_);obtain ⟨oc,hoc,hocd⟩:=id z;refine h { s with heap:=h' } ⟨I.ok,I.os,I.bare,⟨λ b o e n hb hx=>?_,λ b o e n hb hx=>?_,I.base.free,λ b o e hx=>?_,I.base.tups,I.base.frzs,I.base.tbls⟩,⟨m,hn.sameBut hs (aX (cne x c hc)),λ j y v' e1 e2 e3=>?_⟩,λ y c' e=>?_,I.free,I.freeC,λ p hp=>?_,tracked ⟨oc,hoc,I.freeC x c hc⟩ hs,by simpa using I.len⟩ ⟨c,hs,.inr hc⟩
  ·exact (hs.2 b (aH (aG (au e) (I.ok.cab x c hfn hc)))).trans (I.base.keep b o e n hb hx)
  ·obtain ⟨sl,e1⟩:=I.base.slot b o e n hb hx;exact ⟨sl,(hs.2 b (aH (aG (au e) (I.ok.cab x c hfn hc)))).trans e1⟩
  ·obtain ⟨o',e1⟩:=I.base.there b o e hx;exact ⟨o',(hs.2 b (aH (aG (au e) (I.ok.cab x c hfn hc)))).trans e1⟩
  ·by_cases hj:j=i
   ·subst hj;rw [hi] at e1;cases e1;rw [aS hiσ] at e2;cases e2;exact ⟨u,r,.inr ⟨.inl hk,c,hc,hc'⟩⟩
   ·rw [be (aX hj)] at e2;obtain ⟨u',r',q⟩:=hl j y v' e1 e2 e3;refine ⟨u',r',?_⟩;rcases q with q|⟨k,c',e,z'⟩
    ·exact .inl q
    ·refine .inr ⟨k,c',e,z'.sameBut hs ?_⟩;rintro rfl;exact hj (Xi hN e1 (I.ok.inj _ _ _ e hc ▸ hi))
  ·by_cases hcc:c'=c
   ·subst hcc;exact ⟨_,hc'⟩
   ·obtain ⟨w2,z2⟩:=I.cell y c' e;exact ⟨w2,z2.sameBut hs hcc⟩
  ·obtain ⟨e,n,ne,nf,d⟩:=I.pin p hp;refine ⟨(hs.2 p.1 ?_).trans e,n,ne,nf,d⟩;intro q;rw [q,hoc] at e;have q':oc=p.2:=aI e;exact d w' (by rw [<- q'];exact hocd)
def ZV {v:V} {Q:Ag} (I:Inv X m4 σ H s) (hN:X.N.Nodup) (hi:X.N[i]?=some x) (hx:Loc X.env.scope x) (r:RelV v u)
  (h:∀ s',Inv X m4 (σ.set i (some v)) H s'->Q () s') (hf:X.fn x=true\/X.env.scope.names.lookup x=some .local:=by walk_at "p"):wpAny M A (storeName X.env x u) Q E s :=
 We I hN hi hx r (λ s' I' _=>h s' I') hf
def Inv.call' {s':An} {ch:Ab} (I:Inv X m4 σ H s) (ho:s'.os=s.os) (u:Un (frs X.stack) ch H H' s.heap s'.heap) (hok:HOk X.prog X.w H' s'.heap) (hg:AllBare s'.gens)
  (hch:∀ b∈ch,(b∈X.ex\/X.s₀.heap.objs.size<=b)/\b≠X.env.locals/\(∀ x c,X.env.cells.lookup x=some c->c≠b)/\∀ p∈X.pn ++ m4,p.1≠b):Inv X m4 σ H' s':=by
 obtain ⟨h',g',d',t',o'⟩:=s';have e:o'=s.os:=ho;subst e;exact I.call (g':=g') (t':=t') (d':=d') u hok hg hch
end
abbrev XK:=Value->Option Addr->Hp->Prop
abbrev St:=List Aq
variable {σ:St}
abbrev VK:=V->Hp->Prop
abbrev TE:=St->Hp->VK->Prop
abbrev TT:=St->Hp->(Bool->Hp->Prop)->Prop
abbrev TA:=St->Hp->(List V->Hp->Prop)->Prop
structure Ends where
 nx:St->Hp->Prop
 rt:VK
 bk:St->Hp->Prop:=λ _ _=>False
 ct:St->Hp->Prop:=λ _ _=>False
abbrev TS:=Ends->St->Hp->Prop
def EP (X:Cx) (m4:A2) (σ:St) (Q:VK) (u:Am) (s':An):Prop:=∃ v H',Inv X m4 σ H' s'/\RelV v u/\Q v H'
def TP (X:Cx) (m4:A2) (σ:St) (Q:Bool->Hp->Prop) (b:Bool) (s':An):Prop:=∃ H',Inv X m4 σ H' s'/\Q b H'
def AP (X:Cx) (m4:A2) (σ:St) (Q:List V->Hp->Prop) (us:A7) (s':An):Prop:=∃ vs H',Inv X m4 σ H' s'/\Vals vs us/\Q vs H'
def SP (X:Cx) (m4:A2) (D:Ends) (f:Flow) (s':An):Prop :=
 match f with
 | .next=>∃ σ' H',Inv X m4 σ' H' s'/\D.nx σ' H'
 | .brk=>∃ σ' H',Inv X m4 σ' H' s'/\D.bk σ' H'
 | .cont=>∃ σ' H',Inv X m4 σ' H' s'/\D.ct σ' H'
 | .ret u=>∃ v σ' H',Inv X m4 σ' H' s'/\RelV v u/\D.rt v H'
def PE (X:Cx) (e:Expr) (t:TE):Prop :=
 ∀ (m4:A2) (s:An) (σ:St) (H:Hp) (Q:VK),Inv X m4 σ H s->t σ H Q->wpAny (model X.prog X.w) X.A (eval e X.env) (EP X m4 σ Q) X.xe s
def PT (X:Cx) (e:Expr) (t:TT):Prop :=
 ∀ (m4:A2) (s:An) (σ:St) (H:Hp) (Q:Bool->Hp->Prop),Inv X m4 σ H s->t σ H Q->wpAny (model X.prog X.w) X.A (isTrue e X.env (eval e X.env)) (TP X m4 σ Q) X.xe s
def PW (X:Cx) (e:Expr) (t:TT):Prop :=
 ∀ (whole:Sem Value) (m4:A2) (s:An) (σ:St) (H:Hp) (Q:Bool->Hp->Prop),Inv X m4 σ H s->t σ H Q->wpAny (model X.prog X.w) X.A (isTrue e X.env whole) (TP X m4 σ Q) X.xe s
def PW.pt {e:Expr} {t:TT} (h:PW X e t):PT X e t:=h _
def PA (X:Cx) (es:List Expr) (t:TA):Prop :=
 ∀ (pos:Pos) (m4:A2) (s:An) (σ:St) (H:Hp) (Q:List V->Hp->Prop),Inv X m4 σ H s->t σ H Q->wpAny (model X.prog X.w) X.A (spliced (backTo pos (starEach es X.env))) (AP X m4 σ Q) X.xe s
def PS (X:Cx) (st:Stmt) (t:TS):Prop :=
 ∀ (m4:A2) (s:An) (σ:St) (H:Hp) (D:Ends),Inv X m4 σ H s->t D σ H->wpAny (model X.prog X.w) X.A (exec st X.env) (SP X m4 D) X.xe s
def PSs (X:Cx) (st:List Stmt) (t:TS):Prop :=
 ∀ (m4:A2) (s:An) (σ:St) (H:Hp) (D:Ends),Inv X m4 σ H s->t D σ H->wpAny (model X.prog X.w) X.A (execs st X.env) (SP X m4 D) X.xe s
def thn {α:Type} {t:Sem α} {Q Q':α->Shared->Prop} (h:wpAny M A t Q E s) (hQ:∀ a s,Q a s->Q' a s):wpAny M A t Q' E s:=aU h hQ λ _ _ x=>x
def qC {Q:VK} {t:Sem Value} {Q':A3} (h:wpAny M A t (EP X m4 σ Q) E s) (k:∀ u s1 x H1,Inv X m4 σ H1 s1->RelV x u->Q x H1->Q' u s1):wpAny M A t Q' E s:=thn h λ u s1 e=>by
 obtain ⟨x,H1,I1,r,q⟩:=e;exact k u s1 x H1 I1 r q
def vy {Q:List V->Hp->Prop} {t:Sem A7} {Q':List Value->Shared->Prop} (h:wpAny M A t (AP X m4 σ Q) E s) (k:∀ us s1 vs H1,Inv X m4 σ H1 s1->Vals vs us->Q vs H1->Q' us s1):wpAny M A t Q' E s:=thn h λ u s1 e=>by
 obtain ⟨x,H1,I1,r,q⟩:=e;exact k u s1 x H1 I1 r q
section
variable {X:Cx}
def bq:V->(Bool->Prop)->Prop
 | .bl k,P=>P k
 | _,_=>False
def Q6 {x:V} {P:Bool->Prop} (h:bq x P):∃ k,x=.bl k/\P k:=by
 cases x <;> first|exact ⟨_,rfl,h⟩|exact False.elim h
def iq:V->(Int->Prop)->Prop
 | .int i,P=>P i
 | _,_=>False
def Qd {x:V} {P:Int->Prop} (h:iq x P):∃ i,x=.int i/\P i:=by
 cases x <;> first|exact ⟨_,rfl,h⟩|exact False.elim h
def QR {x y:V} {P:Int->Int->Prop} (h:iq x λ i=>iq y λ j=>P i j):∃ i j,x=.int i/\y=.int j/\P i j:=by
 obtain ⟨i,e,h⟩:=Qd h;obtain ⟨j,e2,h⟩:=Qd h;exact ⟨i,j,e,e2,h⟩
def nq:V->Prop->Prop
 | .non,P=>P
 | _,_=>False
def zcH {x:V} {P:Prop} (h:nq x P):x=.non/\P:=by
 cases x <;> first|exact ⟨rfl,h⟩|exact False.elim h
def lq:List V->(V->Prop)->Prop
 | [v],P=>P v
 | _,_=>False
theorem zfd:∀ {xs:Ap} {P:V->Prop},lq xs P->∃ v,xs=[v]/\P v
 | [_],_,h=>⟨_,rfl,h⟩
 | [],_,h=>h.elim
 | _ :: _ :: _,_,h=>h.elim
def vq:Option Aq->(V->Prop)->Prop
 | some (some v),P=>P v
 | _,_=>False
theorem zgY:∀ {o:Option Aq} {P:V->Prop},vq o P->∃ v,o=some (some v)/\P v
 | some (some v),_,h=>⟨v,rfl,h⟩
 | some none,_,h=>h.elim
 | none,_,h=>h.elim
def szl (xs:Ap) (P:Prop):Prop:=cond (Nat.ble xs.length 12) P False
def zbr {xs:Ap} {P:Prop} (h:szl xs P):xs.length<=sizeLine/\P:=by
 unfold szl at h;cases e:Nat.ble xs.length 12 with
 | true=>rw [e] at h;exact ⟨a8 (Nat.le_of_ble_eq_true e) (by decide),h⟩
 | false=>rw [e] at h;exact h.elim
def tVar (i:Nat):TE:=λ σ H Q=>vq σ[i]? λ v=>Q v H
def tC (v:V):TE:=λ _ H Q=>Q v H
def zhA (hN:X.N[i]?=some x) (hv:Vis X.env.scope x) (hd:(x == ("__debug__":Str))=false:=by decide) (hcd:(x == ("__classdict__":Str))=false:=by decide):PE X (.Name x pos) (tVar i):=by
 intro m4 s σ H Q I h;obtain ⟨v,e,h⟩:=zgY h;obtain ⟨m,hn,hl⟩:=I.loc;obtain ⟨u,r,l⟩:=hl i x v hN e hv;have fin:EP X m4 σ Q u s:=⟨v,H,I,r,h⟩;rcases l with ⟨hk,hm⟩|⟨hk,c,hc,hcell⟩
 ·exact wpAny_Name (wpAny_loadName_local I.ok.kind hk hn hm fin) hd
 ·rcases hk with hk|hk
  ·exact wpAny_Name (wpAny_loadName_cell I.ok.kind hk hc hcell fin) hd
  ·exact wpAny_Name (wpAny_loadName_free I.ok.kind hk hc hcell fin hcd) hd
def zf {i j pos}:PE X (.Constant (.int i) j pos) (tC (.int i)):=λ _ _ _ H _ I h=>wpAny_Constant_int ⟨.int i,H,I.tok _,⟨_,rfl⟩,h⟩
def Wq {b j pos}:PE X (.Constant (.bool b) j pos) (tC (.bl b)):=λ _ _ _ H _ I h=>Constant_bool ⟨.bl b,H,I,rfl,h⟩
def zE {j pos}:PE X (.Constant .none j pos) (tC .non):=λ _ _ _ H _ I h=>Constant_none ⟨.non,H,I,rfl,h⟩
def jI {x j pos}:PE X (.Constant (.str x) j pos) (tC (.str x)):=λ _ _ _ H _ I h=>Calls.Constant_str ⟨.str x,H,I.tok _,⟨_,rfl⟩,h⟩
def Gl (X:Cx) (x:Str):Prop:=X.env.kindOf x=some .globalImplicit
def wq (I:Inv X m4 σ H s) (hg:Gl X x) (hm:X.mg x=some u) (h:Q u s)
  (hd:(x == ("__debug__":Str))=false:=by decide):wpAny (model X.prog X.w) X.A (eval (.Name x pos) X.env) Q E s :=
 fK I.ok.kind hg (Calls.loadGlobal_global (by rw [I.ok.glob];exact I.mod.glob.keeps I.bk) hm h) hd
def vQ (I:Inv X m4 σ H s) (hg:Gl X x) (hm:X.mg x=none) (hv:bootBuiltins x=some u) (h:Q u s)
  (hn:x≠"__name__":=by decide) (hd:(x == ("__debug__":Str))=false:=by decide):wpAny (model X.prog X.w) X.A (eval (.Name x pos) X.env) Q E s:=by
 obtain ⟨mb,h1,h2⟩:=I.mod.blt;exact fK I.ok.kind hg (Calls.loadGlobal_builtin (by rw [I.ok.glob];exact I.mod.glob.keeps I.bk) hm (by rw [I.ok.blt];exact h1.keeps I.bk) ((h2 x hn).trans hv) h) hd
variable {a b:Expr} {ta tb:TE} {pos:Pos}
def PC (X:Cx) (op:CmpOp) (a b:Expr) (t:TE):Prop :=
 ∀ (m4:A2) (s:An) (σ:St) (H:Hp) (Q:VK),Inv X m4 σ H s->t σ H Q ->
  wpAny (model X.prog X.w) X.A (eval a X.env) (λ v s₁=>wpAny (model X.prog X.w) X.A (eval b X.env) (λ u s₂=>wpAny (model X.prog X.w) X.A (compareOp op v u) (EP X m4 σ Q) X.xe s₂) X.xe s₁) X.xe s
def nobehind (b:Expr) (h:op≠.In) (h2:op≠.NotIn):behindInMarks op b=false:=by
 have e1:(op == CmpOp.In)=false:=by cases op <;> first|rfl|exact absurd rfl h
 have e2:(op == CmpOp.NotIn)=false:=by cases op <;> first|rfl|exact absurd rfl h2
 cases b <;> simp [behindInMarks,e1,e2]
def RelV.none_iff {x:V} {v:Am} (r:RelV x v):(v == Value.none)=decide (x=.non):=by
 cases x with
 | non=>cases r;rfl
 | bl _=>cases r;rfl
 | int _=>obtain ⟨t,rfl⟩:=r;rfl
 | str _=>obtain ⟨t,rfl⟩:=r;rfl
 | byt _=>obtain ⟨t,rfl⟩:=r;rfl
 | flt _=>obtain ⟨t,rfl⟩:=r;rfl
 | ref _=>cases r;rfl
 | ty _=>cases r;rfl
def tB (t:TE):TT:=λ σ H Q=>t σ H λ x H1=>bq x λ c=>Q c H1
def zeO {t:TE} (h:PC X op a b t) (h1:behindInMarks op b=false:=by walk_at "q"):PT X (.Compare a [op] [b] pos) (tB t):=by
 intro m4 s σ H Q I hw;refine wpAny_isTrue_Compare1 (thn (h m4 s σ H _ I hw) λ v s1 h1=>thn h1 λ u s2 h2=>thn h2 λ c s3 ⟨x,H1,I1,r1,q1⟩=>?_) h1;obtain ⟨d,rfl,q⟩:=Q6 q1;cases r1;exact bn ⟨H1,I1,q⟩
variable {tA tB':TT} {rest:List Expr}
def tAnd (t u:TT):TT:=λ σ H Q=>t σ H λ c H1=>if c=true then u σ H1 Q else Q false H1
def tOr (t u:TT):TT:=λ σ H Q=>t σ H λ c H1=>if c=true then Q true H1 else u σ H1 Q
def tNot (t:TT):TT:=λ σ H Q=>t σ H λ c H1=>Q (!c) H1
def pw_and1 (ha:PT X a tA):PW X (.BoolOp .And [a] pos) tA:=by
 intro wh m4 s σ H Q I h;refine isTrue_and (thn (ha m4 s σ H Q I h) λ c s1 e=>?_);cases c with
 | true=>exact isTrue_and_nil e
 | false=>exact e
def pw_or1 (ha:PT X a tA):PW X (.BoolOp .Or [a] pos) tA:=by
 intro wh m4 s σ H Q I h;refine isTrue_or (thn (ha m4 s σ H Q I h) λ c s1 e=>?_);cases c with
 | false=>exact isTrue_or_nil e
 | true=>exact e
def pw_and (ha:PT X a tA) (hb:PW X (.BoolOp .And (b :: rest) pos) tB'):PW X (.BoolOp .And (a :: b :: rest) pos) (tAnd tA tB'):=by
 intro wh m4 s σ H Q I h;refine isTrue_and (thn (ha m4 s σ H _ I h) λ c s1 ⟨H1,I1,q1⟩=>?_);cases c with
 | true=>exact hb wh m4 s1 σ H1 Q I1 q1
 | false=>exact ⟨H1,I1,q1⟩
def pw_or (ha:PT X a tA) (hb:PW X (.BoolOp .Or (b :: rest) pos) tB'):PW X (.BoolOp .Or (a :: b :: rest) pos) (tOr tA tB'):=by
 intro wh m4 s σ H Q I h;refine isTrue_or (thn (ha m4 s σ H _ I h) λ c s1 ⟨H1,I1,q1⟩=>?_);cases c with
 | true=>exact ⟨H1,I1,q1⟩
 | false=>exact hb wh m4 s1 σ H1 Q I1 q1
def jP (ha:PT X a tA):PT X (.UnaryOp .Not a pos) (tNot tA):=by
 intro m4 s σ H Q I h;exact isTrue_not (ha m4 s σ H (λ c H1=>Q (!c) H1) I h)
def tAndV (ta tb:TE):TE:=λ σ H Q=>ta σ H λ x H1=>bq x λ c=>if c=true then tb σ H1 Q else Q (.bl false) H1
def tOrV (ta tb:TE):TE:=λ σ H Q=>ta σ H λ x H1=>bq x λ c=>if c=true then Q (.bl true) H1 else tb σ H1 Q
def tNotV (ta:TE):TE:=λ σ H Q=>ta σ H λ x H1=>bq x λ c=>Q (.bl (!c)) H1
def Vy {op} {t:TE} (h:PE X a t):PE X (.BoolOp op [a] pos) t:=λ m4 s σ H Q I hw=>BoolOp_one (h m4 s σ H Q I hw)
def VA (ha:PE X a ta) (hb:PE X (.BoolOp .And (b :: rest) pos) tb):PE X (.BoolOp .And (a :: b :: rest) pos) (tAndV ta tb):=by
 intro m4 s σ H Q I h;refine BoolOp_and (qC (ha m4 s σ H _ I h) λ v s1 x H1 I1 r1 q1=>?_);obtain ⟨c,rfl,q1⟩:=Q6 q1;cases r1;refine bn ?_;cases c with
 | true=>exact hb m4 s1 σ H1 Q I1 q1
 | false=>exact ⟨.bl false,H1,I1,rfl,q1⟩
def ziE (ha:PE X a ta) (hb:PE X (.BoolOp .Or (b :: rest) pos) tb):PE X (.BoolOp .Or (a :: b :: rest) pos) (tOrV ta tb):=by
 intro m4 s σ H Q I h;refine BoolOp_or (qC (ha m4 s σ H _ I h) λ v s1 x H1 I1 r1 q1=>?_);obtain ⟨c,rfl,q1⟩:=Q6 q1;cases r1;refine bn ?_;cases c with
 | false=>exact hb m4 s1 σ H1 Q I1 q1
 | true=>exact ⟨.bl true,H1,I1,rfl,q1⟩
def zhC (ha:PE X a ta):PE X (.UnaryOp .Not a pos) (tNotV ta):=by
 intro m4 s σ H Q I h;refine UnaryOp_ (qC (ha m4 s σ H _ I h) λ v s1 x H1 I1 r1 q1=>?_);obtain ⟨c,rfl,q1⟩:=Q6 q1;cases r1;exact not_of (bn ⟨.bl (!c),H1,I1,rfl,q1⟩)
def tIf (t:TT) (ta tb:TE):TE:=λ σ H Q=>t σ H λ c H1=>if c=true then ta σ H1 Q else tb σ H1 Q
def xQ {c:Expr} (hc:PT X c tA) (ha:PE X a ta) (hb:PE X b tb):PE X (.IfExp c a b pos) (tIf tA ta tb):=by
 intro m4 s σ H Q I h;refine wpAny_IfExp (thn (hc m4 s σ H _ I h) λ d s1 ⟨H1,I1,q1⟩=>?_);cases d with
 | true=>exact ha m4 s1 σ H1 Q I1 q1
 | false=>exact hb m4 s1 σ H1 Q I1 q1
end
def SqL (K:A0) (H:Hp) (a:Addr) (xs:Ap):Prop :=
 Rd H a (.lst xs) \/
  ∃ (o:Obj) (mY:Ac) (n:Nat),K.lookup a=some o/\o.cls=.type "list"/\o.dict=none/\o.data=.seq mY n/\mY.size<=sizeLine/\Vals xs mY.toList
def SqT (K:A0) (H:Hp) (a:Addr) (xs:Ap):Prop :=
 Rd H a (.tup xs) \/
  ∃ (o:Obj) (mY:Ac) (n:Nat),K.lookup a=some o/\o.cls=.type "tuple"/\o.data=.seq mY n/\mY.size<=sizeLine/\Vals xs mY.toList
noncomputable def zjg:Value->Option V
 | .none=>some .non
 | .bool b=>some (.bl b)
 | .int i _=>some (.int i)
 | .str x _=>some (.str x)
 | .bytes b _=>some (.byt b)
 | .float b _=>some (.flt b)
 | .ref a=>some (.ref a)
 | .type n=>some (.ty n)
 | _=>none
def RelV.abs {x:V} (r:RelV x u):zjg u=some x:=by
 cases x with
 | non=>cases r;rfl
 | bl _=>cases r;rfl
 | int _=>obtain ⟨t,rfl⟩:=r;rfl
 | str _=>obtain ⟨t,rfl⟩:=r;rfl
 | byt _=>obtain ⟨t,rfl⟩:=r;rfl
 | flt _=>obtain ⟨t,rfl⟩:=r;rfl
 | ref _=>cases r;rfl
 | ty _=>cases r;rfl
def RelV.inj {x y:V} (r:RelV x u) (q:RelV y u):x=y:=aI (r.abs.symm.trans q.abs)
theorem Vals.inj:∀ {xs ys:Ap} {us:A7},Vals xs us->Vals ys us->xs=ys
 | _,_,_,.nil,.nil=>rfl
 | _,_,_,.cons r t,.cons r' t'=>by rw [r.inj r',Vals.inj t t']
section
variable {X:Cx} {m4:A2} {σ:St} {H:Hp} {s:An} {a:Addr} {xs ys:Ap}
def SqL.of (h:H a=some (.lst xs)):SqL K H a xs:=.inl (.inl h)
def SqT.of (h:H a=some (.tup xs)):SqT K H a xs:=.inl (.inl h)
def Inv.list (I:Inv X m4 σ H s) (h:SqL X.K H a xs):∃ mY:List Value,Vals xs mY/\PlainL s.heap a mY.toArray/\xs.length<=sizeLine:=by
 rcases h with h|⟨o,mY,n,hk,hc,hd,hs,hz,r⟩
 ·obtain ⟨z,mY,n,r,e⟩:=h.ok I.hok;exact ⟨mY,r,⟨_,n,e,rfl,rfl,rfl⟩,z⟩
 ·refine ⟨mY.toList,r,⟨o,n,I.kIn a o hk,hc,hd,by simpa using hs⟩,?_⟩;have e:=r.length;simp only [cS] at e;omega
def Inv.tuple (I:Inv X m4 σ H s) (h:SqT X.K H a xs):∃ mY:List Value,Vals xs mY/\IsTup s.heap a mY.toArray/\xs.length<=sizeLine:=by
 rcases h with h|⟨o,mY,n,hk,hc,hs,hz,r⟩
 ·obtain ⟨z,mY,r,p⟩:=h.ok I.hok;exact ⟨mY,r,p,z⟩
 ·refine ⟨mY.toList,r,⟨o,I.kIn a o hk,hc,n,by simpa using hs⟩,?_⟩;have e:=r.length;simp only [cS] at e;omega
def Inv.list_inj (I:Inv X m4 σ H s) (h:SqL X.K H a xs) (h':SqL X.K H a ys):xs=ys:=by
 obtain ⟨mY,r,⟨o,n,e,_,_,d⟩,_⟩:=I.list h;obtain ⟨its',r',⟨o',n',e',_,_,d'⟩,_⟩:=I.list h';rw [e] at e';cases e';rw [d] at d';injection d' with d1 _
 have:mY=its':=by simpa using bt Array.toList d1
 subst this;exact r.inj r'
def Inv.tuple_inj (I:Inv X m4 σ H s) (h:SqT X.K H a xs) (h':SqT X.K H a ys):xs=ys:=by
 obtain ⟨mY,r,⟨o,e,_,n,d⟩,_⟩:=I.tuple h;obtain ⟨its',r',⟨o',e',_,n',d'⟩,_⟩:=I.tuple h';rw [e] at e';cases e';rw [d] at d';injection d' with d1 _
 have:mY=its':=by simpa using bt Array.toList d1
 subst this;exact r.inj r'
end
noncomputable abbrev Cx.wish (X:Cx) (E:A3):Cx:={ X with xe:=E }
noncomputable abbrev Cx.nox (X:Cx):Cx:=X.wish λ _ _=>False
def Cx.Ok.wish (ok:X.Ok) (E:A3):(X.wish E).Ok :=
 ⟨ok.mod,ok.kind,ok.glob,ok.blt,ok.above,ok.inj,ok.has,ok.cab,ok.hd,ok.frames,ok.stk,ok.exf,ok.bs,ok.bsz,ok.noex,ok.exfs,ok.funs,ok.frf⟩
def Cx.Ok.unwish (ok:(X.wish E).Ok):X.Ok :=
 ⟨ok.mod,ok.kind,ok.glob,ok.blt,ok.above,ok.inj,ok.has,ok.cab,ok.hd,ok.frames,ok.stk,ok.exf,ok.bs,ok.bsz,ok.noex,ok.exfs,ok.funs,ok.frf⟩
section
variable {X:Cx} {m4:A2} {σ:St} {H:Hp} {s:An} {E:A3}
def Inv.wish (I:Inv X m4 σ H s) (E:A3):Inv (X.wish E) m4 σ H s:=⟨I.ok.wish E,I.os,I.bare,I.base,I.loc,I.cell,I.free,I.freeC,I.pin,I.hok,I.len⟩
def Inv.unwish (I:Inv (X.wish E) m4 σ H s):Inv X m4 σ H s:=⟨I.ok.unwish,I.os,I.bare,I.base,I.loc,I.cell,I.free,I.freeC,I.pin,I.hok,I.len⟩
def SP.unwish {D:Ends} {f:Flow} {s':An} (h:SP (X.wish E) m4 D f s'):SP X m4 D f s':=by
 cases f with
 | next=>obtain ⟨σ',H',I,q⟩:=h;exact ⟨σ',H',I.unwish,q⟩
 | brk=>obtain ⟨σ',H',I,q⟩:=h;exact ⟨σ',H',I.unwish,q⟩
 | cont=>obtain ⟨σ',H',I,q⟩:=h;exact ⟨σ',H',I.unwish,q⟩
 | ret u=>obtain ⟨v,σ',H',I,r,q⟩:=h;exact ⟨v,σ',H',I.unwish,r,q⟩
def PE.nox {e:Expr} {t:TE} (h:PE X.nox e t):PE X e t:=λ m4 s σ H Q I hw =>
 aU (h m4 s σ H Q (I.wish _) hw) (λ _ _ ⟨v,H',I',r,q⟩=>⟨v,H',I'.unwish,r,q⟩) λ _ _ z=>False.elim z
def PT.nox {e:Expr} {t:TT} (h:PT X.nox e t):PT X e t:=λ m4 s σ H Q I hw =>
 aU (h m4 s σ H Q (I.wish _) hw) (λ _ _ ⟨H',I',q⟩=>⟨H',I'.unwish,q⟩) λ _ _ z=>False.elim z
def PSs.nox {st:List Stmt} {t:TS} (h:PSs X.nox st t):PSs X st t:=λ m4 s σ H D I hw =>
 aU (h m4 s σ H D (I.wish _) hw) (λ _ _ q=>q.unwish) λ _ _ z=>False.elim z
end
section
variable {X:Cx} {st:Stmt} {rest:List Stmt} {t u:TS} {e:Expr} {te:TE} {pos:Pos}
def tNext:TS:=λ D σ H=>D.nx σ H
def tSeq (t u:TS):TS:=λ D σ H=>t { D with nx:=u D } σ H
def zt:PSs X [] tNext:=λ _ _ σ H _ I h=>cW ⟨σ,H,I,h⟩
def zi (h1:PS X st t) (h2:PSs X rest u):PSs X (st :: rest) (tSeq t u):=by
 intro m4 s σ H D I h;refine eM (thn (h1 m4 s σ H { D with nx:=u D } I h) λ f s1 q=>?_);cases f with
 | next =>
  obtain ⟨σ',H',I',q⟩:=q;exact h2 m4 s1 σ' H' D I' q
 | ret v=>exact q
 | brk=>exact q
 | cont=>exact q
def ze (h1:PS X st t):PSs X [st] t:=by
 intro m4 s σ H D I h;refine eM (thn (h1 m4 s σ H D I h) λ f s1 q=>?_);cases f with
 | next=>exact cW q
 | ret v=>exact q
 | brk=>exact q
 | cont=>exact q
def tBreak:TS:=λ D σ H=>D.bk σ H
def zeQ:PS X (.Break pos) tBreak:=λ _ _ σ H _ I h=>wpAny_Break ⟨σ,H,I,h⟩
def Inv.quiet (I:Inv X m4 σ H s):interactive X.env=false:=by simp [interactive,I.ok.kind]
def tDrop (te:TE):TS:=λ D σ H=>te σ H λ _ H1=>D.nx σ H1
def zF (he:PE X e te) (hs:swapsWith e none pos.line X.env=pure false:=by rfl):PS X (.Expr e pos) (tDrop te):=by
 intro m4 s σ H D I h;exact wpAny_Expr_any (qC (he m4 s σ H _ I h) λ v s1 x H1 I1 r1 q1=>⟨σ,H1,I1,q1⟩) I.quiet hs
def tRet (te:TE):TS:=λ D σ H=>te σ H D.rt
def zl (he:PE X e te):PS X (.Return (some e) pos) (tRet te):=by
 intro m4 s σ H D I h;exact wpAny_Return_some (qC (he m4 s σ H _ I h) λ v s1 x H1 I1 r1 q1=>⟨x,σ,H1,I1,r1,q1⟩)
def tIfS (c:TT) (t u:TS):TS:=λ D σ H=>c σ H λ b H1=>if b=true then t D σ H1 else u D σ H1
def zL {c:Expr} {a b:List Stmt} {tc:TT} (hc:PT X c tc) (ha:PSs X a t) (hb:PSs X b u):PS X (.If c a b pos) (tIfS tc t u):=by
 intro m4 s σ H D I h;refine wpAny_If (thn (hc m4 s σ H _ I h) λ d s1 ⟨H1,I1,q1⟩=>?_);cases d with
 | true=>exact ha m4 s1 σ H1 D I1 q1
 | false=>exact hb m4 s1 σ H1 D I1 q1
end
abbrev TG:=V->St->Hp->(St->Hp->Prop)->Prop
abbrev TGs:=List V->St->Hp->(St->Hp->Prop)->Prop
def PG (X:Cx) (target:Expr) (t:TG):Prop :=
 ∀ (m4:A2) (s:An) (σ:St) (H:Hp) (v:V) (u:Am) (Q:St->Hp->Prop),Inv X m4 σ H s->RelV v u->t v σ H Q ->
  wpAny (model X.prog X.w) X.A (assign target X.env u) (λ _ s'=>∃ σ' H',Inv X m4 σ' H' s'/\Q σ' H') X.xe s
def PGs (X:Cx) (ts:List Expr) (t:TGs):Prop :=
 ∀ (m4:A2) (s:An) (σ:St) (H:Hp) (vs:Ap) (us:A7) (Q:St->Hp->Prop),Inv X m4 σ H s->Vals vs us->t vs σ H Q ->
  wpAny (model X.prog X.w) X.A (assignInOrder ((assignEach ts X.env).map (·.2)) us) (λ _ s'=>∃ σ' H',Inv X m4 σ' H' s'/\Q σ' H') X.xe s
abbrev zfW:=V->V->V->Hp->(Hp->Prop)->Prop
def zii (X:Cx) (t:zfW):Prop :=
 ∀ (m4:A2) (s:An) (σ:St) (H:Hp) (o i v:V) (ov iv u:Am) (Q:Hp->Prop),Inv X m4 σ H s->RelV o ov->RelV i iv->RelV v u->t o i v H Q ->
  wpAny (model X.prog X.w) X.A (setItem ov iv u) (λ _ s'=>∃ H',Inv X m4 σ H' s'/\Q H') X.xe s
abbrev TIp:=V->V->Hp->VK->Prop
def PIp (X:Cx) (op:Operator) (t:TIp):Prop :=
 ∀ (m4:A2) (s:An) (σ:St) (H:Hp) (x y:V) (v u:Am) (Q:VK),Inv X m4 σ H s->RelV x v->RelV y u->t x y H Q ->
  wpAny (model X.prog X.w) X.A (inplaceOp op v u) (EP X m4 σ Q) X.xe s
section
variable {X:Cx} {pos:Pos}
def gName (i:Nat):TG:=λ v σ H Q=>Q (σ.set i (some v)) H
def Ze (hN:X.N.Nodup) (hi:X.N[i]?=some x) (hx:Loc X.env.scope x) (hf:X.fn x=true\/X.env.scope.names.lookup x=some .local:=by walk_at "p"):PG X (.Name x pos) (gName i):=by
 intro m4 s σ H v u Q I r h;exact wpAny_assign_Name (ZV I hN hi hx r (λ s' I'=>⟨_,H,I',h⟩) hf)
def gNil:TGs:=λ vs σ H Q=>vs=[]/\Q σ H
def gCons (t:TG) (u:TGs):TGs:=λ vs σ H Q=>∃ v r,vs=v :: r/\t v σ H λ σ' H'=>u r σ' H' Q
def xu:PGs X [] gNil:=by
 intro m4 s σ H vs us Q I r h;obtain ⟨e,h⟩:=h;subst e;cases r;exact assignInOrder_nil ⟨σ,H,I,h⟩
theorem qj {e:Expr} {es:List Expr} {t:TG} {u:TGs} (h1:PG X e t) (h2:PGs X es u)
  (hs:(assignEach (e :: es) X.env).map (·.2)=assign e X.env :: (assignEach es X.env).map (·.2):=by rfl):PGs X (e :: es) (gCons t u):=by
 intro m4 s σ H vs us Q I r h;obtain ⟨v,vr,e1,h⟩:=h;subst e1;cases r with
 | cons r rr =>
  rw [hs];refine assignInOrder_cons (thn (h1 m4 s σ H _ _ _ I r h) λ _ s1 ⟨σ1,H1,I1,q1⟩=>?_);exact h2 m4 s1 σ1 H1 _ _ Q I1 rr q1
def gTup (K:A0) (n:Nat) (t:TGs):TG:=λ v σ H Q=>∃ a xs,v=.ref a/\SqT K H a xs/\xs.length=n/\t xs σ H Q
def va {es:List Expr} {t:TGs} {n:Nat} (hc:X.calm=true) (h:PGs X es t)
  (hn:(assignEach es X.env).length=n:=by rfl) (hst:(assignEach es X.env).findIdx? (·.1)=none:=by rfl):PG X (.Tuple es k pos) (gTup X.K n t):=by
 intro m4 s σ H v u Q I r hw;obtain ⟨a,xs,e1,hq,hl,hw⟩:=hw;subst e1;cases r;obtain ⟨mY,rv,ht,hz⟩:=I.tuple hq;refine assign_Tuple_tuple (I.ok.hd hc) ht (by simp [hn,<- hl,rv.length]) hst λ h' hx=>?_;have I1:Inv X m4 σ H { s with heap:=h' }:=I.kept (t':=s.toks) λ b o e=>hx b o (aH (au e)) e;exact h m4 _ σ H xs _ Q I1 (by simpa using rv) hw
def gSub (to ti:TE) (t:zfW):TG:=λ v σ H Q=>to σ H λ o H1=>ti σ H1 λ i H2=>t o i v H2 λ H3=>Q σ H3
def Xa {o i:Expr} {to ti:TE} {t:zfW} (ho:PE X o to) (hi:PE X i ti) (hs:zii X t)
  (ha:∀ v,assign (.Subscript o i pos) X.env v=(do
   let ov <- holding [v] (eval o X.env)
   let iv <- holding [v,ov] (eval i X.env)
   standAt pos
   holding [v,ov,iv] (setItem ov iv v)
   release [v,ov,iv] []):=by intro _;rfl):PG X (.Subscript o i pos) (gSub to ti t):=by
 intro m4 s σ H v u Q I r h;rw [ha];refine ai (d6 (qC (ho m4 s σ H _ I h) λ ov s1 x H1 I1 r1 q1=>?_));refine ai (d6 (qC (hi m4 s1 σ H1 _ I1 q1) λ iv s2 y H2 I2 r2 q2=>?_));refine ai (fT (ai (d6 (thn (hs m4 s2 σ H2 x y v ov iv u _ I2 r1 r2 r q2) λ _ s3 ⟨H3,I3,q3⟩=>?_))));exact wpAny_release ⟨σ,H3,I3,q3⟩
def tAsg (te:TE) (g:TG):TS:=λ D σ H=>te σ H λ x H1=>g x σ H1 D.nx
def QH {tg e:Expr} {te:TE} {g:TG} (he:PE X e te) (hg:PG X tg g) (hs:swapsWithSole [tg] e pos.line X.env=pure false:=by rfl) (hw:swappedStores [tg] e X.env=pure none:=by rfl)
  (h1:(assignEach [tg] X.env).map (·.2)=[assign tg X.env]:=by rfl):PS X (.Assign [tg] e pos) (tAsg te g):=by
 intro m4 s σ H D I h;refine wpAny_Assign_stores (qC (he m4 s σ H _ I h) λ v s1 x H1 I1 r1 q1=>?_) hs hw;rw [h1];exact thn (hg m4 s1 σ H1 x v _ I1 r1 q1) λ _ s2 q=>q
def zeP {e:Expr} {te:TE} {pos':Pos} (hN:X.N.Nodup) (hi:X.N[i]?=some x) (hx:Loc X.env.scope x) (he:PE X e te) (hs:swapsWith e (some (.Name x pos')) pos.line X.env=pure false:=by rfl) (hf:X.fn x=true\/X.env.scope.names.lookup x=some .local:=by walk_at "p") :
  PS X (.Assign [.Name x pos'] e pos) (tAsg te (gName i)):=by
 intro m4 s σ H D I h;refine wpAny_Assign_Name (qC (he m4 s σ H _ I h) λ v s1 y H1 I1 r1 q1=>?_) hs;exact ZV I1 hN hi hx r1 (λ s2 I2=>⟨_,H1,I2,q1⟩) hf
def tAug (i:Nat) (te:TE) (ti:TIp):TS:=λ D σ H=>vq σ[i]? λ x=>te σ H λ y H1=>ti x y H1 λ z H2=>D.nx (σ.set i (some z)) H2
def zhy {e:Expr} {te:TE} {op:Operator} {ti:TIp} {pos':Pos} (hN:X.N.Nodup) (hi:X.N[i]?=some x) (hx:Loc X.env.scope x) (he:PE X e te) (ho:PIp X op ti) (hf:X.fn x=true\/X.env.scope.names.lookup x=some .local:=by walk_at "p") :
  PS X (.AugAssign (.Name x pos') op e pos) (tAug i te ti):=by
 intro m4 s σ H D I h;obtain ⟨v,e1,h⟩:=zgY h;obtain ⟨m,hn,hl⟩:=I.loc;have vis:Vis X.env.scope x:=by rcases hx with k|k;exact .inl k;exact .inr (.inl k)
 obtain ⟨u,r,l⟩:=hl i x v hi e1 vis;refine wpAny_AugAssign_Name ?_;have go:wpAny (model X.prog X.w) X.A (eval e X.env) (λ w s₂=>wpAny (model X.prog X.w) X.A (inplaceOp op u w) (λ r s₃=>wpAny (model X.prog X.w) X.A (storeName X.env x r) (λ _=>SP X m4 D .next) X.xe s₃) X.xe s₂) X.xe s:=by
  refine qC (he m4 s σ H _ I h) λ w s1 y H1 I1 r1 q1=>?_;refine qC (ho m4 s1 σ H1 v y u w _ I1 r r1 q1) λ z s2 zv H2 I2 r2 q2=>?_;exact ZV I2 hN hi hx r2 (λ s3 I3=>⟨_,H2,I3,q2⟩) hf
 rcases l with ⟨hk,hm⟩|⟨hk,c,hc,hcell⟩
 ·exact wpAny_loadName_local I.ok.kind hk hn hm go
 ·rcases hk with hk|hk
  ·exact wpAny_loadName_cell I.ok.kind hk hc hcell go
  ·rcases hx with k|k
   ·have:X.env.scope.names.lookup x=some .free:=hk;rw [k] at this;cases this
   ·have:X.env.scope.names.lookup x=some .free:=hk;rw [k] at this;cases this
def zg2 (to ti te:TE) (tget:V->V->Hp->VK->Prop) (tip:TIp) (tset:zfW):TS:=λ D σ H=>to σ H λ o H1=>ti σ H1 λ i H2=>tget o i H2 λ x H3=>te σ H3 λ y H4=>tip x y H4 λ z H5=>tset o i z H5 λ H6=>D.nx σ H6
def zi0 (X:Cx) (t:V->V->Hp->VK->Prop):Prop :=
 ∀ (m4:A2) (s:An) (σ:St) (H:Hp) (o i:V) (ov iv:Am) (Q:VK),Inv X m4 σ H s->RelV o ov->RelV i iv->t o i H Q ->
  wpAny (model X.prog X.w) X.A (getItem ov iv) (EP X m4 σ Q) X.xe s
def zgm {o i e:Expr} {to ti te:TE} {tget:V->V->Hp->VK->Prop} {tip:TIp} {tset:zfW} {op:Operator} {tpos:Pos} (ho:PE X o to) (hi:PE X i ti) (hg:zi0 X tget) (he:PE X e te) (hp:PIp X op tip) (hs:zii X tset)
  (ha:∀ ov iv new,augStore i ov iv new=(do holding [new,ov,iv] (setItem ov iv new);release [new,ov,iv] [];pure .next):=by intros;rfl):PS X (.AugAssign (.Subscript o i tpos) op e pos) (zg2 to ti te tget tip tset):=by
 intro m4 s σ H D I h;refine wpAny_AugAssign_SubscriptAny (qC (ho m4 s σ H _ I h) λ ov s1 x1 H1 I1 r1 q1=>?_) ha;refine qC (hi m4 s1 σ H1 _ I1 q1) λ iv s2 x2 H2 I2 r2 q2=>?_;refine qC (hg m4 s2 σ H2 x1 x2 ov iv _ I2 r1 r2 q2) λ old s3 x3 H3 I3 r3 q3=>?_;refine qC (he m4 s3 σ H3 _ I3 q3) λ v s4 x4 H4 I4 r4 q4=>?_;refine qC (hp m4 s4 σ H4 x3 x4 old v _ I4 r3 r4 q4) λ new s5 x5 H5 I5 r5 q5=>?_;exact thn (hs m4 s5 σ H5 x1 x2 x5 ov iv new _ I5 r1 r2 r5 q5) λ _ s6 ⟨H6,I6,q6⟩=>⟨σ,H6,I6,q6⟩
def ipI (f:Int->Int->Int):TIp:=λ x y H Q=>iq x λ i=>iq y λ j=>Q (.int (f i j)) H
def zh1:PIp X .Add (ipI λ i j=>i + j):=by
 intro m4 s σ H x y v u Q I r1 r2 h;obtain ⟨i,j,e1,e2,q⟩:=QR h;subst e1;subst e2;obtain ⟨t,rfl⟩:=r1;obtain ⟨t',rfl⟩:=r2;exact iadd_int ⟨.int _,H,I.tok _,⟨_,rfl⟩,q⟩
def zh0:PIp X .Sub (ipI λ i j=>i - j):=by
 intro m4 s σ H x y v u Q I r1 r2 h;obtain ⟨i,j,e1,e2,q⟩:=QR h;subst e1;subst e2;obtain ⟨t,rfl⟩:=r1;obtain ⟨t',rfl⟩:=r2;exact isub_int ⟨.int _,H,I.tok _,⟨_,rfl⟩,q⟩
end
section
variable {X:Cx} {pos:Pos}
def zhk (c:TT) (tb:TS):TS:=λ D σ H=>∃ W:Nat->St->Hp->Prop,(∃ m,W m σ H)/\∀ m σ H,W m σ H ->
 c σ H λ b H1=>if b=true then ∃ N:St->Hp->Prop,(∀ σ' H',N σ' H'->∃ m',m' < m/\W m' σ' H')/\tb { D with nx:=N,ct:=N,bk:=D.nx } σ H1 else D.nx σ H1
def zaF {c:Expr} {body:List Stmt} {tc:TT} {tb:TS} (hp:PassesOwn (model X.prog X.w) X.A X.env X.xe) (hc:PT X c tc) (hb:PSs X body tb):PS X (.While c body [] pos) (zhk tc tb):=by
 intro m4 s σ H D I h;obtain ⟨W,⟨m0,w0⟩,turn⟩:=h;refine wpAny_While (codeAny_whileLoop (λ n s'=>∃ σ' H',Inv X m4 σ' H' s'/\W n σ' H') ?_ m0 ⟨σ,H,I,w0⟩);rintro n s1 ⟨σ1,H1,I1,w1⟩;refine b7 hp (thn (hc m4 s1 σ1 H1 _ I1 (turn n σ1 H1 w1)) λ b s2 ⟨H2,I2,q2⟩=>?_);cases b with
 | true =>
  obtain ⟨N,hN,q2⟩:=q2;rw [ap rfl];refine b7 hp (thn (hb m4 s2 σ1 H2 _ I2 q2) λ f s3 q3=>?_);cases f with
  | next =>
   obtain ⟨σ3,H3,I3,n3⟩:=q3;obtain ⟨m',hm,w3⟩:=hN σ3 H3 n3;exact ⟨m',hm,σ3,H3,I3,w3⟩
  | cont =>
   obtain ⟨σ3,H3,I3,n3⟩:=q3;obtain ⟨m',hm,w3⟩:=hN σ3 H3 n3;exact ⟨m',hm,σ3,H3,I3,w3⟩
  | brk=>exact q3
  | ret v=>exact q3
 | false =>
  rw [ao aB];exact cW ⟨σ1,H2,I2,q2⟩
end
structure It where
 go:Nat->Hp->Prop
 yld:Nat->Hp->V->Hp->Prop
 stop:Nat->Hp->Prop
def QY (X:Cx) (m4:A2) (H:Hp) (b:Addr):Prop :=
 H b=none/\b≠X.env.locals/\b ∉ X.fs/\(b∈X.ex\/X.s₀.heap.objs.size<=b)/\(∀ x c,X.env.cells.lookup x=some c->c≠b)/\∀ p∈X.pn ++ m4,p.1≠b
def Inv.fpOk {H H':Hp} (I:Inv X m4 σ H s) (hb:s.heap.objs.size<=b) (hn:H' b=none):QY X m4 H' b:=by
 refine ⟨hn,dh (aG I.lt hb),I.nofs hb,.inr (a8 I.sz hb),λ x c e z=>?_,λ p hp z=>?_⟩
 ·obtain ⟨v,q⟩:=I.cell x c e;exact absurd (aG q.lt (by rw [z];exact hb)) (ci _)
 ·exact absurd (aG (au (I.pin p hp).1) (by rw [z];exact hb)) (ci _)
structure Turn (P:Af) (w:World) (K:A0) (tg:Expr) (J:It) (fp:Ab) (it:Addr) (tn:Nat->Heap->Prop):Prop where
 mem:it∈fp
 obj:∀ i h,tn i h->∀ b∈fp,∃ o,h.get? b=some o/\∀ v,o.data≠.cell v
 keep:∀ i h h',tn i h->(∀ b∈fp,∀ o,h.get? b=some o->h'.get? b=some o)->tn i h'
 item:∀ (X:Cx),X.prog=P->X.w=w->X.K=K->X.calm=true->∀ (i:Nat) (m4:A2) (s:An) (σ:St) (H:Hp) (E:A3),Inv X m4 σ H s->(∀ b∈fp,QY X m4 H b)->tn i s.heap->J.go i H ->
  wpAny (model P w) X.A (pyNext (.ref it)) (λ r s1=>∃ u,r=some u /\
   wpAny (model P w) X.A (letOwnedTupleGo tg (.ref it) u) (λ _ s2=>∃ x H',Inv X m4 σ H' s2/\RelV x u/\J.yld i H x H'/\tn (i + 1) s2.heap/\∀ b∈fp,H' b=none) E s1) E s
 done:∀ (X:Cx),X.prog=P->X.w=w->X.K=K->X.calm=true->∀ (i:Nat) (m4:A2) (s:An) (σ:St) (H:Hp) (E:A3),Inv X m4 σ H s->(∀ b∈fp,QY X m4 H b)->tn i s.heap->J.stop i H ->
  wpAny (model P w) X.A (pyNext (.ref it)) (λ r s1=>r=none/\Inv X m4 σ H s1) E s
 self:∀ (A:Ao) (i:Nat) (s:An) (Q:A3) (E:A3),tn i s.heap->Q (.ref it) s->wpAny (model P w) A (pyIter (.ref it)) Q E s
abbrev TI:=St->Hp->(It->Hp->Prop)->Prop
def PIE (X:Cx) (m4:A2) (σ:St) (tg:Expr) (R:It->Hp->Prop) (itv:Am) (s2:An):Prop :=
 ∃ (it:Addr) (fp:Ab) (tn:Nat->Heap->Prop) (J:It) (H':Hp),itv=.ref it/\Inv X m4 σ H' s2/\Turn X.prog X.w X.K tg J fp it tn/\tn 0 s2.heap/\(∀ b∈fp,QY X m4 H' b)/\R J H'
def PI (X:Cx) (tg iter:Expr) (wi:TI):Prop :=
 ∀ (m4:A2) (s:An) (σ:St) (H:Hp) (R:It->Hp->Prop),Inv X m4 σ H s->wi σ H R ->
  wpAny (model X.prog X.w) X.A (eval iter X.env) (λ v s1=>wpAny (model X.prog X.w) X.A (pyIter v) (PIE X m4 σ tg R) X.xe s1) X.xe s
theorem zcS {it:Addr} {o:Obj} {n:String} {vs:Ac} {Q:Ag} (ho:s.heap.get? it=some o) (hc:o.cls=.type n) (hd:o.data=.fields vs)
  (hn:["enumerate","zip","dict_itemiterator","dict_reverseitemiterator","odict_iterator","itertools.zip_longest","itertools.pairwise"].contains n=false) (hQ:Q () s):wpAny M A (letOwnedTupleGo tg (.ref it) u) Q E s:=by
 unfold letOwnedTupleGo;cases tg <;> first
  | exact aD hQ
  | (cases u <;> first
    | exact aD hQ
    | (refine ai (wpAny_load ho ?_)
       rw [hc,hd];show wpAny M A (if (["enumerate","zip","dict_itemiterator","dict_reverseitemiterator","odict_iterator","itertools.zip_longest","itertools.pairwise"].contains n && vs[0]? == some (rawInt _))=true then _ else _) Q E s
       rw [ao (by intro h;rw [hn,Bool.false_and] at h;cases h)];exact aD hQ))
noncomputable def Itl (K:A0) (a:Addr):It :=
 ⟨λ i H=>∃ xs x,SqL K H a xs/\xs[i]?=some x,λ i H x H'=>H'=H/\∀ xs,SqL K H a xs->xs[i]?=some x,λ i H=>∃ xs,SqL K H a xs/\xs.length<=i⟩
noncomputable def Itt (K:A0) (a:Addr):It :=
 ⟨λ i H=>∃ xs x,SqT K H a xs/\xs[i]?=some x,λ i H x H'=>H'=H/\∀ xs,SqT K H a xs->xs[i]?=some x,λ i H=>∃ xs,SqT K H a xs/\xs.length<=i⟩
noncomputable def Itr (lo:Int) (n:Nat):It:=⟨λ i _=>i < n,λ i H x H'=>H'=H/\x=.int (lo + i),λ i _=>n<=i⟩
def zdi (a it:Addr):Turn P w K tg (Itl K a) [it] it (λ i h=>h.IsListIter it a i) where
 mem:=by simp
 obj:=λ i h st b hb=>by
  have e:b=it:=by simpa using hb
  subst e;obtain ⟨o,e,c,d⟩:=st;exact ⟨o,e,λ v z=>by rw [d] at z;cases z⟩
 keep:=λ i h h' st k=>st.at λ o e=>k it (by simp) o e
 item:=by
  intro X hP hw hK hc i m4 s σ H E I hf st hg;subst hP hw hK;obtain ⟨xs,x,hq,hx⟩:=hg;obtain ⟨mY,rv,p,hz⟩:=I.list hq;obtain ⟨u,hu,ru⟩:=rv.get hx;obtain ⟨f0,f1,f2,f3,f4,f5⟩:=hf it (by simp);refine wpAny_pyNext_list_item st p.isList (x:=u) (by simpa using hu) λ h' st' sb=>?_;have I1:Inv X m4 σ H { s with heap:=h' }:=I.turned (t':=s.toks) (λ b o hb e=>(sb.2 b hb).trans e) f0 f1 f3 f4 f5;obtain ⟨o,e,c,d⟩:=id st';exact ⟨u,rfl,zcS (s:={ s with heap:=h' }) e c d (by decide) ⟨x,H,I1,ru,⟨rfl,λ ys hy=>by rw [I.list_inj hy hq];exact hx⟩,st',λ b hb=>(hf b hb).1⟩⟩
 done:=by
  intro X hP hw hK hc i m4 s σ H E I hf st hg;subst hP hw hK;obtain ⟨xs,hq,hx⟩:=hg;obtain ⟨mY,rv,p,hz⟩:=I.list hq;obtain ⟨f0,f1,f2,f3,f4,f5⟩:=hf it (by simp);have hl:=rv.length;exact wpAny_pyNext_list_end (I.ok.hd hc) st p.isList (by simp;omega) λ h' eb=>⟨rfl,I.turned (t':=s.toks) (λ b o hb e=>eb b o hb e) f0 f1 f3 f4 f5⟩
 self:=λ _ _ _ _ _ st h=>wpAny_pyIter_listiter st h
def zbp (a it:Addr):Turn P w K tg (Itt K a) [it] it (λ i h=>h.IsTupleIter it a i) where
 mem:=by simp
 obj:=λ i h st b hb=>by
  have e:b=it:=by simpa using hb
  subst e;obtain ⟨o,e,c,d⟩:=st;exact ⟨o,e,λ v z=>by rw [d] at z;cases z⟩
 keep:=λ i h h' st k=>st.at λ o e=>k it (by simp) o e
 item:=by
  intro X hP hw hK hc i m4 s σ H E I hf st hg;subst hP hw hK;obtain ⟨xs,x,hq,hx⟩:=hg;obtain ⟨mY,rv,p,hz⟩:=I.tuple hq;obtain ⟨u,hu,ru⟩:=rv.get hx;obtain ⟨f0,f1,f2,f3,f4,f5⟩:=hf it (by simp);refine wpAny_pyNext_tuple_item st (show s.heap.IsTuple a mY.toArray from p) (x:=u) (by simpa using hu) λ h' st' sb=>?_;have I1:Inv X m4 σ H { s with heap:=h' }:=I.turned (t':=s.toks) (λ b o hb e=>(sb.2 b hb).trans e) f0 f1 f3 f4 f5;obtain ⟨o,e,c,d⟩:=id st';exact ⟨u,rfl,zcS (s:={ s with heap:=h' }) e c d (by decide) ⟨x,H,I1,ru,⟨rfl,λ ys hy=>by rw [I.tuple_inj hy hq];exact hx⟩,st',λ b hb=>(hf b hb).1⟩⟩
 done:=by
  intro X hP hw hK hc i m4 s σ H E I hf st hg;subst hP hw hK;obtain ⟨xs,hq,hx⟩:=hg;obtain ⟨mY,rv,p,hz⟩:=I.tuple hq;obtain ⟨f0,f1,f2,f3,f4,f5⟩:=hf it (by simp);have hl:=rv.length;exact wpAny_pyNext_tuple_end (I.ok.hd hc) st (show s.heap.IsTuple a mY.toArray from p) (by simp;omega) λ h' eb=>⟨rfl,I.turned (t':=s.toks) (λ b o hb e=>eb b o hb e) f0 f1 f3 f4 f5⟩
 self:=λ _ _ _ _ _ st h=>wpAny_pyIter_tupleiter st h
def zbq (it:Addr) (lo:Int) (n:Nat):Turn P w K tg (Itr lo n) [it] it (λ i h=>IsRangeIter h it (lo + (i:Nat) * 1) ((n:Int) - (i:Nat)) 1) where
 mem:=by simp
 obj:=λ i h st b hb=>by
  have e:b=it:=by simpa using hb
  subst e;exact ⟨_,st,λ v z=>by
   have z':Data.fields _=Data.cell v:=z;cases z'⟩
 keep:=λ i h h' st k=>k it (by simp) _ st
 item:=by
  intro X hP hw hK hc i m4 s σ H E I hf st hg;subst hP hw hK;obtain ⟨f0,f1,f2,f3,f4,f5⟩:=hf it (by simp);have W:=Walks.range (prog:=X.prog) (w:=X.w) (I.ok.hd hc) it lo 1 n;refine W.item i s _ _ hg st λ v h' tk hv st' kk=>?_;obtain ⟨t,rfl⟩:=hv;have I1:Inv X m4 σ H { s with heap:=h',toks:=tk }:=I.turned (λ b o hb e=>kk b o (by simpa using hb) e) f0 f1 f3 f4 f5;refine ⟨_,rfl,zcS (s:={ s with heap:=h',toks:=tk }) (n:="range_iterator") st' rfl rfl (by decide) ⟨.int (lo + i),H,I1,⟨t,?_⟩,⟨rfl,rfl⟩,st',λ b hb=>(hf b hb).1⟩⟩;rw [Int.mul_one]
 done:=by
  intro X hP hw hK hc i m4 s σ H E I hf st hg;subst hP hw hK;obtain ⟨f0,f1,f2,f3,f4,f5⟩:=hf it (by simp);exact wpAny_pyNext_range_end (I.ok.hd hc) st (by have:n<=i:=hg;omega) λ h' eb=>⟨rfl,I.turned (t':=s.toks) (λ b o hb e=>eb b o hb e) f0 f1 f3 f4 f5⟩
 self:=λ _ _ _ _ _ st h=>wpAny_pyIter_rangeiter st h
section
variable {X:Cx} {tg:Expr}
def zeL {R:It->Hp->Prop} {lo hi:Int} {t u v:Tok} {tk:Nat} (I:Inv X m4 σ H s) (h1:-(2 ^ 62)<=lo) (h2:lo < 2 ^ 62) (h3:-(2 ^ 62)<=hi) (h4:hi < 2 ^ 62)
  (q:R (Itr lo (hi - lo).toNat) H):wpAny (model X.prog X.w) X.A (pyIter (.ref s.heap.objs.size)) (PIE X m4 σ tg R) E { s with heap:=s.heap.push { cls:=.type "range",data:=.fields #[.int lo t,.int hi u,.int 1 v] },toks:=tk }:=by
 refine wpAny_pyIter_range (IsRange.new ..) (small_one h1 h2 h3 h4) ?_;have I1:Inv X m4 σ H { s with heap:=s.heap.push { cls:=.type "range",data:=.fields #[.int lo t,.int hi u,.int 1 v] },toks:=tk }:=I.kept λ b o e=>aj _ e;refine ⟨(s.heap.push { cls:=.type "range",data:=.fields #[.int lo t,.int hi u,.int 1 v] }).objs.size,[(s.heap.push { cls:=.type "range",data:=.fields #[.int lo t,.int hi u,.int 1 v] }).objs.size],_,_,H,rfl,
  I1.kept (t':=tk) λ b o e=>aj _ e,zbq _ lo (hi - lo).toNat,?_,λ b hb=>?_,q⟩
 ·have e1:lo + ((0:Nat):Int) * 1=lo:=by simp
  have e2:(((hi - lo).toNat:Nat):Int) - ((0:Nat):Int)=Builtin.Range.rangeSize lo hi 1:=by rw [rangeSize_one];split <;> omega
  show IsRangeIter _ _ (lo + ((0:Nat):Int) * 1) ((((hi - lo).toNat:Nat):Int) - ((0:Nat):Int)) 1
  rw [e1,e2];exact aC _ rfl
 ·have e:b=(s.heap.push { cls:=.type "range",data:=.fields #[.int lo t,.int hi u,.int 1 v] }).objs.size:=by simpa using hb
  subst e;exact I1.fpOk (av _) (I1.hok.fresh (av _))
def iRng1 (ta:TA):TI:=λ σ H R=>ta σ H λ vs H1=>lq vs λ v=>iq v λ j=>-(2 ^ 62)<=j/\j < 2 ^ 62/\R (Itr 0 j.toNat) H1
def zdL {a:Expr} {ta:TA} {p pos:Pos} (hg:Gl X "range") (hm:X.mg "range"=none) (ha:PA X [a] ta) (hs:starEach [a] X.env=[(false,eval a X.env)]:=by rfl):PI X tg (.Call (.Name "range" p) [a] [] pos) (iRng1 ta):=by
 intro m4 s σ H R I h;refine Call_ (vQ I hg hm boot_range (bg (vy (ha pos m4 s σ H _ I h) λ us s1 vs H1 I1 r1 q1=>?_) hs rfl));obtain ⟨v,e,q0⟩:=zfd q1;clear q1;obtain ⟨j,e2,q1,q2,q⟩:=Qd q0;subst e2;subst e;cases r1 with
 | cons r rr =>
  cases rr;obtain ⟨t,rfl⟩:=r;exact call_range_1 (zeL I1 (by omega) (by omega) q1 q2 (by simpa using q))
def tFor (wi:TI) (g:TG) (tb:TS):TS:=λ D σ H=>wi σ H λ J H1=>∃ W:Nat->Nat->St->Hp->Prop,(∃ m,W 0 m σ H1)/\∀ i m σ H,W i m σ H ->
 (J.stop i H/\D.nx σ H)\/(J.go i H/\∃ N:St->Hp->Prop,(∀ σ' H',N σ' H'->∃ m',m' < m/\W (i + 1) m' σ' H')/\∀ x H',J.yld i H x H'->g x σ H' λ σ2 H2=>tb { D with nx:=N,ct:=N,bk:=D.nx } σ2 H2)
noncomputable def J9 (fp:Ab) (h:Heap):List (Addr × Obj):=fp.filterMap λ b=>(h.get? b).map λ o=>(b,o)
def vb {fp:Ab} {h:Heap} {o:Obj} (hb:b∈fp) (e:h.get? b=some o):(b,o)∈J9 fp h:=dJ.mpr ⟨b,hb,by rw [e];rfl⟩
def zdP {fp:Ab} {h:Heap} {p:Addr × Obj} (hp:p∈J9 fp h):p.1∈fp/\h.get? p.1=some p.2:=by
 obtain ⟨b,hb,e⟩:=dJ.mp hp;cases q:h.get? b with
 | none=>rw [q] at e;cases e
 | some o =>
  rw [q] at e;have e':(b,o)=p:=aI e;subst e';exact ⟨hb,q⟩
def Inv.pinned {fp:Ab} (I:Inv X m4 σ H s) (hf:∀ b∈fp,QY X m4 H b) (ho:∀ b∈fp,∃ o,s.heap.get? b=some o/\∀ v,o.data≠.cell v):Inv X (m4 ++ J9 fp s.heap) σ H s :=
 I.pins_of λ p hp=>(aE.mp hp).elim (λ z=>I.pin p (aT _ z)) λ z=>by
  obtain ⟨hb,e⟩:=zdP z;obtain ⟨f0,f1,f2,_⟩:=hf p.1 hb;obtain ⟨o,e',d⟩:=ho p.1 hb;rw [e] at e';cases e';exact ⟨e,f0,f1,f2,d⟩
def Inv.unpinned {m4 pl:A2} (I:Inv X (m4 ++ pl) σ H s):Inv X m4 σ H s:=I.pins_of λ p hp=>I.pin p (aT _ (bp _ hp))
theorem qt {iter:Expr} {body:List Stmt} {wi:TI} {g:TG} {tb:TS} (hp:PassesOwn (model X.prog X.w) X.A X.env X.xe) (hc:X.calm=true) (hi:PI X tg iter wi) (hg:PG X tg g) (hb:PSs X body tb)
  (hs:∀ x,foldedSetIterable iter X.env x=pure x:=by intro _;rfl):PS X (.For tg iter body [] pos) (tFor wi g tb):=by
 intro m4 s σ H D I h;refine wpAny_For (thn (hi m4 s σ H _ I h) λ v s1 h1=>thn h1 λ itv s2 h2=>?_) hs;obtain ⟨it,fp,tn,J,H2,e,I2,T,st2,f2,W,⟨m0,w0⟩,turn⟩:=h2;subst e;have stat:∀ {H':Hp},(∀ b∈fp,H' b=none)->∀ b∈fp,QY X m4 H' b:=λ hn b hb=>⟨hn b hb,(f2 b hb).2⟩;refine codeAny_forLoop_any (λ n s'=>∃ i σ' H',Inv X m4 σ' H' s'/\tn i s'.heap/\(∀ b∈fp,H' b=none)/\W i n σ' H') ?_ m0 ⟨0,σ,H2,I2,st2,λ b hb=>(f2 b hb).1,w0⟩;rintro n s3 ⟨i,σ3,H3,I3,st3,fr3,w3⟩;rcases turn i n σ3 H3 w3 with ⟨stop,qn⟩|⟨go,N,hN,step⟩
 ·refine b7 hp (thn (T.done X rfl rfl rfl hc i m4 s3 σ3 H3 X.xe I3 (stat fr3) st3 stop) λ r s4 ⟨hr,I4⟩=>?_);subst hr;exact cW ⟨σ3,H3,I4,qn⟩
 ·refine b7 hp (thn (T.item X rfl rfl rfl hc i m4 s3 σ3 H3 X.xe I3 (stat fr3) st3 go) λ r s4 ⟨u,hr,h4⟩=>?_);subst hr;refine b7 hp (thn h4 λ _ s5 ⟨x,H5,I5,r5,y5,st5,fr5⟩=>?_);have I5':=I5.pinned (stat fr5) (T.obj _ _ st5);refine b7 hp (thn (hg _ s5 σ3 H5 x u _ I5' r5 (step x H5 y5)) λ _ s6 ⟨σ6,H6,I6,q6⟩=>?_);refine b7 hp (thn (hb _ s6 σ6 H6 _ I6 q6) λ f s7 q7=>?_);have again:∀ {σ7:St} {H7:Hp},Inv X (m4 ++ J9 fp s5.heap) σ7 H7 s7->N σ7 H7->∃ m,m < n/\∃ i σ' H',Inv X m4 σ' H' s7/\tn i s7.heap/\(∀ b∈fp,H' b=none)/\W i m σ' H':=λ {σ7 H7} I7 n7=>by
   obtain ⟨m',hm,w7⟩:=hN σ7 H7 n7;refine ⟨m',hm,i + 1,σ7,H7,I7.unpinned,T.keep _ _ _ st5 λ b hb o e=>(I7.pin (b,o) (aT _ (aT _ (vb hb e)))).1,λ b hb=>?_,w7⟩;obtain ⟨o,e,d⟩:=T.obj _ _ st5 b hb;exact (I7.pin (b,o) (aT _ (aT _ (vb hb e)))).2.1
  cases f with
  | next=>obtain ⟨σ7,H7,I7,n7⟩:=q7;exact again I7 n7
  | cont=>obtain ⟨σ7,H7,I7,n7⟩:=q7;exact again I7 n7
  | brk=>obtain ⟨σ7,H7,I7,q7⟩:=q7;exact ⟨σ7,H7,I7.unpinned,q7⟩
  | ret v=>obtain ⟨x7,σ7,H7,I7,r7,q7⟩:=q7;exact ⟨x7,σ7,H7,I7.unpinned,r7,q7⟩
end
abbrev R2:=V->V->Hp->VK->Prop
def OpR (X:Cx) (f:Al) (r:R2):Prop :=
 ∀ (m4:A2) (s:An) (σ:St) (H:Hp) (x y:V) (v u:Am) (Q:VK),Inv X m4 σ H s->RelV x v->RelV y u->r x y H Q ->
  wpAny (model X.prog X.w) X.A (f v u) (EP X m4 σ Q) X.xe s
def UnR (X:Cx) (f:Value->Sem Value) (r:V->Hp->VK->Prop):Prop :=
 ∀ (m4:A2) (s:An) (σ:St) (H:Hp) (x:V) (v:Am) (Q:VK),Inv X m4 σ H s->RelV x v->r x H Q ->
  wpAny (model X.prog X.w) X.A (f v) (EP X m4 σ Q) X.xe s
def CallR (X:Cx) (f:Am) (r:List V->Hp->VK->Prop):Prop :=
 ∀ (m4:A2) (s:An) (σ:St) (H:Hp) (xs:Ap) (us:A7) (Q:VK),Inv X m4 σ H s->Vals xs us->r xs H Q ->
  wpAny (model X.prog X.w) X.A (call f us) (EP X m4 σ Q) X.xe s
def zjh (X:Cx) (r:V->Hp->(Bool->Hp->Prop)->Prop):Prop :=
 ∀ (m4:A2) (s:An) (σ:St) (H:Hp) (x:V) (v:Am) (Q:Bool->Hp->Prop),Inv X m4 σ H s->RelV x v->r x H Q ->
  wpAny (model X.prog X.w) X.A (truthy v) (TP X m4 σ Q) X.xe s
def tOp (r:R2) (ta tb:TE):TE:=λ σ H Q=>ta σ H λ x H1=>tb σ H1 λ y H2=>r x y H2 Q
def tUn (r:V->Hp->VK->Prop) (ta:TE):TE:=λ σ H Q=>ta σ H λ x H1=>r x H1 Q
def rI (C:Int->Int->Prop) (g:Int->Int->V):R2:=λ x y H Q=>iq x λ i=>iq y λ j=>C i j/\Q (g i j) H
def rI0 (g:Int->Int->V):R2:=λ x y H Q=>iq x λ i=>iq y λ j=>Q (g i j) H
def rU (g:Int->V):V->Hp->VK->Prop:=λ x H Q=>iq x λ i=>Q (g i) H
section
variable {X:Cx} {a b c:Expr} {ta tb tc:TE} {pos:Pos}
def zic (ha:PE X a ta) (hb:PE X b tb) {R:V->V->Hp->Prop} (I:Inv X m4 σ H s)
  (h:ta σ H λ x H1=>tb σ H1 λ y H2=>R x y H2)
  (hf:∀ v u s2 x y H2,Inv X m4 σ H2 s2->RelV x v->RelV y u->R x y H2->wpAny (model X.prog X.w) X.A (f v u) Q X.xe s2) :
  wpAny (model X.prog X.w) X.A (eval a X.env) (λ v s₁=>wpAny (model X.prog X.w) X.A (eval b X.env) (λ u s₂=>wpAny (model X.prog X.w) X.A (f v u) Q X.xe s₂) X.xe s₁) X.xe s:=by
 refine qC (ha m4 s σ H _ I h) λ v s1 x H1 I1 r1 q1=>?_;refine qC (hb m4 s1 σ H1 _ I1 q1) λ u s2 y H2 I2 r2 q2=>?_;exact hf v u s2 x y H2 I2 r1 r2 q2
def zG {op:Operator} {r:R2} (ho:OpR X (binaryOp op) r) (ha:PE X a ta) (hb:PE X b tb):PE X (.BinOp a op b pos) (tOp r ta tb):=by
 intro m4 s σ H Q I h;exact wpAny_BinOp (zic ha hb I h λ v u s2 x y H2 I2 rx ry q=>ho m4 s2 σ H2 x y v u Q I2 rx ry q)
def Wp {op:UnaryOp} {r:V->Hp->VK->Prop} (ho:UnR X (unaryOp op) r) (ha:PE X a ta):PE X (.UnaryOp op a pos) (tUn r ta):=by
 intro m4 s σ H Q I h;exact UnaryOp_ (qC (ha m4 s σ H _ I h) λ v s1 x H1 I1 r1 q1=>ho m4 s1 σ H1 x v Q I1 r1 q1)
def opI {C:Int->Int->Prop} {g:Int->Int->Int}
  (rule:∀ (i j:Int) (t u:Tok) (s:An) (Q:A3) (E:A3),C i j->Q (.int (g i j) s.toks) { s with toks:=s.toks + 1 }->wpAny (model X.prog X.w) X.A (f (.int i t) (.int j u)) Q E s) :
  OpR X f (rI C λ i j=>.int (g i j)):=by
 intro m4 s σ H x y v u Q I rx ry h;obtain ⟨i,j,rfl,rfl,hc,q⟩:=QR h;obtain ⟨t,rfl⟩:=rx;obtain ⟨t',rfl⟩:=ry;exact rule i j t t' s _ _ hc ⟨.int (g i j),H,I.tok _,⟨_,rfl⟩,q⟩
def ziH {g:Int->Int->Int}
  (rule:∀ (i j:Int) (t u:Tok) (s:An) (Q:A3) (E:A3),Q (.int (g i j) s.toks) { s with toks:=s.toks + 1 }->wpAny (model X.prog X.w) X.A (f (.int i t) (.int j u)) Q E s) :
  OpR X f (rI0 λ i j=>.int (g i j)):=by
 intro m4 s σ H x y v u Q I rx ry h;obtain ⟨i,j,rfl,rfl,q⟩:=QR h;obtain ⟨t,rfl⟩:=rx;obtain ⟨t',rfl⟩:=ry;exact rule i j t t' s _ _ ⟨.int (g i j),H,I.tok _,⟨_,rfl⟩,q⟩
def zhH {g:Int->Int->Bool}
  (rule:∀ (i j:Int) (t u:Tok) (s:An) (Q:A3) (E:A3),Q (.bool (g i j)) s->wpAny (model X.prog X.w) X.A (f (.int i t) (.int j u)) Q E s) :
  OpR X f (rI0 λ i j=>.bl (g i j)):=by
 intro m4 s σ H x y v u Q I rx ry h;obtain ⟨i,j,rfl,rfl,q⟩:=QR h;obtain ⟨t,rfl⟩:=rx;obtain ⟨t',rfl⟩:=ry;exact rule i j t t' s _ _ ⟨.bl (g i j),H,I,rfl,q⟩
def zjj (i j:Int):Prop:=0 < j/\j < 1073741824
def zi3 (i j:Int):Prop:=0<=j/\j<=1000000/\i.natAbs < 2 ^ 64
def CMul (i j:Int):Prop:=(-(2 ^ 64) < i/\i < 2 ^ 64)\/(-(2 ^ 64) < j/\j < 2 ^ 64)
def CMul.ok {i j:Int} (h:CMul i j):IntMulOk i j:=by
 rcases h with ⟨h1,h2⟩|⟨h1,h2⟩
 ·exact .of_left (intBits_le_64 h1 h2)
 ·exact .of_right (intBits_le_64 h1 h2)
def op_add:OpR X (binaryOp .Add) (rI0 λ i j=>.int (i + j)):=ziH λ _ _ _ _ _ _ _ q=>add_int q
def xl:OpR X (binaryOp .Sub) (rI0 λ i j=>.int (i - j)):=ziH λ _ _ _ _ _ _ _ q=>sub_int q
def zgq:OpR X (binaryOp .FloorDiv) (rI zjj λ i j=>.int (i / j)):=opI λ i j _ _ _ _ _ hc q=>by
 have h1:(0:Int) < j:=hc.1;have h2:j < 1073741824:=hc.2;exact floordiv_int (by omega) (by rw [eD i (by omega)];exact q) (.inl (fe (by omega)))
def qT:OpR X (binaryOp .Mod) (rI (λ _ j=>0 < j) λ i j=>.int (i % j)):=opI λ i j _ _ _ _ _ hc q=>by
 have h1:(0:Int) < j:=hc;exact mod_int' (by omega) (by rw [Int.fmod_eq_emod_of_nonneg i (by omega)];exact q)
def zhG:OpR X (binaryOp .Pow) (rI zi3 λ i j=>.int (i ^ j.toNat)):=opI λ _ _ _ _ _ _ _ hc q=>pow_int_small hc.1 hc.2.1 hc.2.2 q
def unI {f:Value->Sem Value} {g:Int->Int}
  (rule:∀ (i:Int) (t:Tok) (s:An) (Q:A3) (E:A3),Q (.int (g i) s.toks) { s with toks:=s.toks + 1 }->wpAny (model X.prog X.w) X.A (f (.int i t)) Q E s) :
  UnR X f (rU λ i=>.int (g i)):=by
 intro m4 s σ H x v Q I rx h;obtain ⟨i,rfl,q⟩:=Qd h;obtain ⟨t,rfl⟩:=rx;exact rule i t s _ _ ⟨.int (g i),H,I.tok _,⟨_,rfl⟩,q⟩
def Qo:UnR X (unaryOp .USub) (rU λ i=>.int (-i)):=unI λ _ _ _ _ _ q=>neg_int q
end
noncomputable def zit:V->V->Bool
 | .non,.non=>true | .non,.int _=>true | .int _,.non=>true | .non,.bl _=>true | .bl _,.non=>true | .non,.str _=>true | .str _,.non=>true
 | .int _,.int _=>true | .bl _,.bl _=>true | .str _,.str _=>true | .byt _,.byt _=>true
 | .int _,.str _=>true | .str _,.int _=>true | .bl _,.str _=>true | .str _,.bl _=>true
 | _,_=>false
def rEq:R2:=λ x y H Q=>zit x y=true/\Q (.bl (decide (x=y))) H
def rNe:R2:=λ x y H Q=>zit x y=true/\Q (.bl (!decide (x=y))) H
def zc2 {i j:Int}:decide (V.int i=V.int j)=(i == j):=by
 rw [cP];simp
def zfC {i j:Bool}:decide (V.bl i=V.bl j)=(i == j):=by
 rw [cP];simp
def zc1 {i j:Str}:decide (V.str i=V.str j)=(i == j):=by
 rw [cP];simp
def zc3 {i j:Array UInt8}:decide (V.byt i=V.byt j)=(i.toList == j.toList):=by
 rw [cP];cases i;cases j;simp
section
variable {X:Cx} {a b c:Expr} {ta tb tc:TE} {pos:Pos}
def z9 {Q:VK} {k k':Bool} (I:Inv X m4 σ H s) (q:Q (.bl k) H) (e:k=k'):EP X m4 σ Q (.bool k') s:=by
 subst e;exact ⟨.bl k,H,I,rfl,q⟩
def op_eq:OpR X (compareOp .Eq) rEq:=by
 intro m4 s σ H x y v u Q I rx ry h;obtain ⟨hs,q⟩:=h;cases x with
 | non =>
  cases rx;cases y with
  | non=>cases ry;exact PySem.EqNone.eq_none_none (z9 I q (by simp))
  | bl j=>cases ry;exact PySem.EqNone.eq_none_bool (z9 I q (by simp))
  | int j=>obtain ⟨t',rfl⟩:=ry;exact PySem.EqNone.eq_none_int (z9 I q (by simp))
  | str j=>obtain ⟨t',rfl⟩:=ry;exact PySem.EqNone.eq_none_str (z9 I q (by simp))
  | _=>exact absurd (show false=true from hs) aB
 | bl i =>
  cases rx;cases y with
  | non=>cases ry;exact PySem.EqNone.eq_bool_none (z9 I q (by simp))
  | bl j=>cases ry;exact eq_bool (z9 I q zfC)
  | str j=>obtain ⟨t',rfl⟩:=ry;exact PySem.EqMixed.eq_bool_str (z9 I q (by simp))
  | _=>exact absurd (show false=true from hs) aB
 | int i =>
  obtain ⟨t,rfl⟩:=rx;cases y with
  | non=>cases ry;exact PySem.EqNone.eq_int_none (z9 I q (by simp))
  | int j=>obtain ⟨t',rfl⟩:=ry;exact eq_int (z9 I q zc2)
  | str j=>obtain ⟨t',rfl⟩:=ry;exact PySem.EqMixed.eq_int_str (z9 I q (by simp))
  | _=>exact absurd (show false=true from hs) aB
 | str i =>
  obtain ⟨t,rfl⟩:=rx;cases y with
  | non=>cases ry;exact PySem.EqNone.eq_str_none (z9 I q (by simp))
  | bl j=>cases ry;exact PySem.EqMixed.eq_str_bool (z9 I q (by simp))
  | int j=>obtain ⟨t',rfl⟩:=ry;exact PySem.EqMixed.eq_str_int (z9 I q (by simp))
  | str j=>obtain ⟨t',rfl⟩:=ry;exact eq_str (z9 I q zc1)
  | _=>exact absurd (show false=true from hs) aB
 | byt i =>
  obtain ⟨t,rfl⟩:=rx;cases y with
  | byt j=>obtain ⟨t',rfl⟩:=ry;exact PySem.W.eq_bytes (z9 I q zc3)
  | _=>exact absurd (show false=true from hs) aB
 | _=>cases y <;> exact absurd (show false=true from hs) aB
def op_ne:OpR X (compareOp .NotEq) rNe:=by
 intro m4 s σ H x y v u Q I rx ry h;obtain ⟨hs,q⟩:=h;cases x with
 | non =>
  cases rx;cases y with
  | non=>cases ry;exact PySem.EqNone.ne_none_none (z9 I q (by simp))
  | bl j=>cases ry;exact PySem.EqNone.ne_none_bool (z9 I q (by simp))
  | int j=>obtain ⟨t',rfl⟩:=ry;exact PySem.EqNone.ne_none_int (z9 I q (by simp))
  | str j=>obtain ⟨t',rfl⟩:=ry;exact PySem.EqNone.ne_none_str (z9 I q (by simp))
  | _=>exact absurd (show false=true from hs) aB
 | bl i =>
  cases rx;cases y with
  | non=>cases ry;exact PySem.EqNone.ne_bool_none (z9 I q (by simp))
  | bl j=>cases ry;exact ne_bool (z9 I q (bt not zfC))
  | str j=>obtain ⟨t',rfl⟩:=ry;exact PySem.EqMixed.ne_bool_str (z9 I q (by simp))
  | _=>exact absurd (show false=true from hs) aB
 | int i =>
  obtain ⟨t,rfl⟩:=rx;cases y with
  | non=>cases ry;exact PySem.EqNone.ne_int_none (z9 I q (by simp))
  | int j=>obtain ⟨t',rfl⟩:=ry;exact ne_int (z9 I q (bt not zc2))
  | str j=>obtain ⟨t',rfl⟩:=ry;exact PySem.EqMixed.ne_int_str (z9 I q (by simp))
  | _=>exact absurd (show false=true from hs) aB
 | str i =>
  obtain ⟨t,rfl⟩:=rx;cases y with
  | non=>cases ry;exact PySem.EqNone.ne_str_none (z9 I q (by simp))
  | bl j=>cases ry;exact PySem.EqMixed.ne_str_bool (z9 I q (by simp))
  | int j=>obtain ⟨t',rfl⟩:=ry;exact PySem.EqMixed.ne_str_int (z9 I q (by simp))
  | str j=>obtain ⟨t',rfl⟩:=ry;exact ne_str (z9 I q (bt not zc1))
  | _=>exact absurd (show false=true from hs) aB
 | byt i =>
  obtain ⟨t,rfl⟩:=rx;cases y with
  | byt j=>obtain ⟨t',rfl⟩:=ry;exact PySem.W.ne_bytes (z9 I q (bt not zc3))
  | _=>exact absurd (show false=true from hs) aB
 | _=>cases y <;> exact absurd (show false=true from hs) aB
def op_lt:OpR X (compareOp .Lt) (rI0 λ i j=>.bl (decide (i < j))):=zhH λ _ _ _ _ _ _ _ q=>lt_int q
def op_le:OpR X (compareOp .LtE) (rI0 λ i j=>.bl (decide (i<=j))):=zhH λ _ _ _ _ _ _ _ q=>le_int q
def op_gt:OpR X (compareOp .Gt) (rI0 λ i j=>.bl (decide (j < i))):=zhH λ _ _ _ _ _ _ _ q=>gt_int q
def op_isN:OpR X (compareOp .Is) (λ x y H Q=>nq y (Q (.bl (decide (x=.non))) H)):=by
 intro m4 s σ H x y v u Q I rx ry h;obtain ⟨rfl,q⟩:=zcH h;cases ry;refine is_none_gen (z9 I q ?_);cases x <;> first
  | (cases rx;rfl)
  | (obtain ⟨t,rfl⟩:=rx;rfl)
def op_notN:OpR X (compareOp .IsNot) (λ x y H Q=>nq y (Q (.bl (!decide (x=.non))) H)):=by
 intro m4 s σ H x y v u Q I rx ry h;obtain ⟨rfl,q⟩:=zcH h;cases ry;refine isnot_none_gen (z9 I q ?_);cases x <;> first
  | (cases rx;rfl)
  | (obtain ⟨t,rfl⟩:=rx;rfl)
def OpR.or {r r':R2} (h:OpR X f r) (h':OpR X f r'):OpR X f (λ x y H Q=>r x y H Q\/r' x y H Q):=by
 intro m4 s σ H x y v u Q I rx ry q;rcases q with q|q
 ·exact h m4 s σ H x y v u Q I rx ry q
 ·exact h' m4 s σ H x y v u Q I rx ry q
def zy (b:Expr) (h:op≠.In:=by decide) (h2:op≠.NotIn:=by decide):behindInMarks op b=false:=by
 have e1:(op == CmpOp.In)=false:=by cases op <;> first|rfl|exact absurd rfl h
 have e2:(op == CmpOp.NotIn)=false:=by cases op <;> first|rfl|exact absurd rfl h2
 cases b <;> simp [behindInMarks,e1,e2]
def xv {r:R2} (ho:OpR X (compareOp op) r) (ha:PE X a ta) (hb:PE X b tb) (hm:behindInMarks op b=false):PE X (.Compare a [op] [b] pos) (tOp r ta tb):=by
 intro m4 s σ H Q I h;exact wpAny_Compare1 (zic ha hb I h λ v u s2 x y H2 I2 rx ry q=>ho m4 s2 σ H2 x y v u Q I2 rx ry q) hm
def tTest (t:TE):TT:=λ σ H Q=>t σ H λ x H'=>bq x λ k=>Q k H'
def zx {r:R2} (ho:OpR X (compareOp op) r) (ha:PE X a ta) (hb:PE X b tb) (hm:behindInMarks op b=false):PT X (.Compare a [op] [b] pos) (tTest (tOp r ta tb)):=by
 intro m4 s σ H Q I h;refine wpAny_isTrue_Compare1 (qC (ha m4 s σ H _ I h) λ v s1 x H1 I1 r1 q1=>qC (hb m4 s1 σ H1 _ I1 q1) λ u s2 y H2 I2 r2 q2 =>
  thn (ho m4 s2 σ H2 x y v u _ I2 r1 r2 q2) λ c s3 ⟨z,H3,I3,r3,q3⟩=>?_) hm
 obtain ⟨k,e,q3⟩:=Q6 q3;subst e;cases r3;exact bn ⟨H3,I3,q3⟩
def tChain (r r':R2) (ta tb tc:TE):TE:=λ σ H Q=>ta σ H λ x H1=>tb σ H1 λ y H2=>r x y H2 λ z H3=>bq z λ k =>
 (if k=true then tc σ H3 λ w' H4=>r' y w' H4 Q else Q (.bl false) H3)
theorem jX {op op':CmpOp} {r r':R2} (ho:OpR X (compareOp op) r) (ho':OpR X (compareOp op') r') (ha:PE X a ta) (hb:PE X b tb) (hc:PE X c tc)
  (hm:lastMarks [op,op'] [b,c]=false:=by with_unfolding_all rfl):PT X (.Compare a [op,op'] [b,c] pos) (tTest (tChain r r' ta tb tc)):=by
 intro m4 s σ H Q I h;refine isTrue_chain (qC (ha m4 s σ H _ I h) λ v s1 x H1 I1 r1 q1=>test_link (qC (hb m4 s1 σ H1 _ I1 q1) λ u s2 y H2 I2 r2 q2 =>
  thn (ho m4 s2 σ H2 x y v u _ I2 r1 r2 q2) λ d s3 ⟨z,H3,I3,r3,q3⟩=>?_)) hm
 obtain ⟨k,e,q3⟩:=Q6 q3;subst e;cases r3;refine bn ?_;cases k with
 | false =>
  obtain ⟨k',e',q'⟩:=Q6 q3;cases e';exact ite_ff ⟨H3,I3,q'⟩
 | true =>
  refine ite_tt (test_last (thn (hc m4 s3 σ H3 _ I3 q3) λ w' s4 ⟨z',H4,I4,r4,q4⟩=>thn (ho' m4 s4 σ H4 y z' u w' _ I4 r2 r4 q4) λ d' s5 ⟨z2,H5,I5,r5,q5⟩=>?_));obtain ⟨k2,e2,q5⟩:=Q6 q5;subst e2;cases r5;exact bn ⟨H5,I5,q5⟩
def zem (K:A0) (x:V) (H:Hp) (k:Bool):Prop :=
 match x with
 | .non=>k=false
 | .bl b=>k=b
 | .int i=>k=(i != 0)
 | .str y=>y.length<=sizeLine/\k=((y.length:Int) != 0)
 | .byt y=>y.size<=sizeLine/\k=((y.size:Int) != 0)
 | .ref p=>(∃ xs,SqL K H p xs/\k=!xs.isEmpty)\/(∃ xs,SqT K H p xs/\k=!xs.isEmpty)\/∃ m9,H p=some (.dK m9)/\k=!m9.isEmpty
 | _=>False
def zb6 {κ:Type} {m9:List (κ × V)} {vs:List (κ × Value)} (r:KV m9 vs):(!vs.isEmpty)=!m9.isEmpty:=by
 cases r <;> rfl
def Xx {xs:Ap} {mY:A7} (r:Vals xs mY):(!mY.toArray.isEmpty)=!xs.isEmpty:=by
 cases r <;> simp
def ZO:(sizeLine:Nat) < 2 ^ 63:=by rw [eY];decide
def zhi:zjh X (λ x H Q=>∃ k,zem X.K x H k/\Q k H):=by
 intro m4 s σ H x v Q I rx h;obtain ⟨k,e,q⟩:=h;have hl:=ZO;have hs:sizeLine=16777216:=eY;cases x with
 | non =>
  cases rx;have e':k=false:=e;subst e';exact truthy_none ⟨H,I,q⟩
 | bl b =>
  cases rx;have e':k=b:=e;subst e';exact bn ⟨H,I,q⟩
 | int i =>
  obtain ⟨t,rfl⟩:=rx;have e':k=(i != 0):=e;subst e';exact PySem.P.truthy_int ⟨H,I,q⟩
 | str y =>
  obtain ⟨t,rfl⟩:=rx;obtain ⟨hy,e'⟩:y.length<=sizeLine/\k=((y.length:Int) != 0):=e;subst e';exact PySem.P.truthy_str (by omega) ⟨H,I.tok _,q⟩
 | byt y =>
  obtain ⟨t,rfl⟩:=rx;obtain ⟨hy,e'⟩:y.size<=sizeLine/\k=((y.size:Int) != 0):=e;subst e';exact PySem.W.truthy_bytes (by omega) ⟨H,I.tok _,q⟩
 | ref p =>
  cases rx;have e':(∃ xs,SqL X.K H p xs/\k=!xs.isEmpty)\/(∃ xs,SqT X.K H p xs/\k=!xs.isEmpty)\/∃ m9,H p=some (.dK m9)/\k=!m9.isEmpty:=e;rcases e' with ⟨xs,hx,e'⟩|⟨xs,hx,e'⟩|⟨m9,hx,e'⟩
  ·subst e';obtain ⟨mY,r,pl,hz⟩:=I.list hx;have hlen:=r.length;exact wpAny_truthy_list pl.isList (by simp only [aq];omega) ⟨H,I.tok _,by rw [Xx r];exact q⟩
  ·subst e';obtain ⟨mY,r,pl,hz⟩:=I.tuple hx;have hlen:=r.length;exact truthy_tuple pl (by simp only [aq];omega) ⟨H,I.tok _,by rw [Xx r];exact q⟩
  ·subst e';obtain ⟨hz,hS,vs,r,m⟩:m9.length<=sizeLine/\(p == sysModules)=false/\∃ vs,KV m9 vs/\s.heap.DictOf (qW X.prog X.w) p vs:=I.hok p _ hx;have hlen:m9.length=vs.length:=cz r;exact wpAny_truthy_dict hS m (by omega) ⟨H,I.tok _,by rw [zb6 r];exact q⟩
 | _=>exact (show False from e).elim
def trq (K:A0) (x:V) (H:Hp) (Q:Bool->Hp->Prop):Prop :=
 match x with
 | .bl b=>Q b H
 | x=>∃ k,zem K x H k/\Q k H
def zhj {x:V} {Q:Bool->Hp->Prop} (h:trq K x H Q):∃ k,zem K x H k/\Q k H:=by
 cases x <;> first|exact ⟨_,rfl,h⟩|exact h
def tTru (K:A0) (ta:TE):TT:=λ σ H Q=>ta σ H λ x H'=>trq K x H' Q
def qO (ha:PE X a ta) (he:∀ whole,isTrue a X.env whole=(do let v <- whole;standAt a.pos;holding [v] (truthy v))) :
  PT X a (tTru X.K ta):=by
 intro m4 s σ H Q I h;exact isTrue_plain (qC (ha m4 s σ H _ I h) λ v s1 x H1 I1 r1 q1=>zhi m4 s1 σ H1 x v Q I1 r1 (zhj q1)) (he _)
def op_add_str:OpR X (binaryOp .Add) (λ x y H Q=>∃ i j,x=.str i/\y=.str j/\i.length + j.length<=sizeLine/\Q (.str (i ++ j)) H):=by
 intro m4 s σ H x y v u Q I rx ry h;obtain ⟨i,j,rfl,rfl,hz,q⟩:=h;obtain ⟨t,rfl⟩:=rx;obtain ⟨t',rfl⟩:=ry;exact add_str (λ t' tk=>⟨.str (i ++ j),H,I.tok _,⟨_,rfl⟩,q⟩) hz
def Q0 {x:V} (r:Vals [x] us):∃ u,us=[u]/\RelV x u:=by
 cases r with
 | cons r1 r2=>cases r2;exact ⟨_,rfl,r1⟩
def zg0 {x y:V} (r:Vals [x,y] us):∃ u w',us=[u,w']/\RelV x u/\RelV y w':=by
 cases r with
 | cons r1 r2 =>
  cases r2 with
  | cons r3 r4=>cases r4;exact ⟨_,_,rfl,r1,r3⟩
def zeb (hc:X.calm=true):CallR X (.builtin "max") (λ xs H Q=>∃ i j,xs=[.int i,.int j]/\Q (.int (if j > i then j else i)) H):=by
 intro m4 s σ H xs us Q I r h;obtain ⟨i,j,rfl,q⟩:=h;obtain ⟨u,w',rfl,⟨t,rfl⟩,⟨t',rfl⟩⟩:=zg0 r;refine max_two_ints (I.ok.hd hc) λ h' tk k=>⟨_,H,I.kept k,?_,q⟩;by_cases hj:j > i
 ·rw [ap hj,ap hj];exact ⟨_,rfl⟩
 ·rw [ao hj,ao hj];exact ⟨_,rfl⟩
def zi1 (K:A0) (x:V) (H:Hp) (n:Nat):Prop :=
 match x with
 | .str y=>y.length<=sizeLine/\n=y.length
 | .byt y=>y.size<=sizeLine/\n=y.size
 | .ref p=>(∃ xs,SqL K H p xs/\n=xs.length)\/∃ xs,SqT K H p xs/\n=xs.length
 | _=>False
def zfK:CallR X (.builtin "len") (λ xs H Q=>∃ x n,xs=[x]/\zi1 X.K x H n/\Q (.int n) H):=by
 intro m4 s σ H xs us Q I r h;obtain ⟨x,n,rfl,e,q⟩:=h;obtain ⟨u,rfl,rx⟩:=Q0 r;have hl:=ZO;have hs:sizeLine=16777216:=eY;cases x with
 | str y =>
  obtain ⟨t,rfl⟩:=rx;obtain ⟨hy,e'⟩:y.length<=sizeLine/\n=y.length:=e;subst e';exact len_str (by omega) ⟨.int _,H,I.tok _,⟨_,rfl⟩,q⟩
 | byt y =>
  obtain ⟨t,rfl⟩:=rx;obtain ⟨hy,e'⟩:y.size<=sizeLine/\n=y.size:=e;subst e';exact PySem.W.len_bytes (by omega) ⟨.int _,H,I.tok _,⟨_,rfl⟩,q⟩
 | ref p =>
  cases rx;have e':(∃ xs,SqL X.K H p xs/\n=xs.length)\/∃ xs,SqT X.K H p xs/\n=xs.length:=e;rcases e' with ⟨xs,hx,e'⟩|⟨xs,hx,e'⟩
  ·subst e';obtain ⟨mY,r',pl,hz⟩:=I.list hx;have hlen:=r'.length;exact Calls.call_len_list pl.isList (by simp only [aq];omega) ⟨.int xs.length,H,I.tok _,⟨_,by simp only [aq];rw [hlen]⟩,q⟩
  ·subst e';obtain ⟨mY,r',pl,hz⟩:=I.tuple hx;have hlen:=r'.length;exact len_tuple pl (by simp only [aq];omega) ⟨.int xs.length,H,I.tok _,⟨_,by simp only [aq];rw [hlen]⟩,q⟩
 | _=>exact (show False from e).elim
end
structure ObjM (h:Heap) (x dx C:Addr) (mA:A4):Prop where
 obj:h.get? x=some (instObj C dx)
 ns:h.Ns1 dx mA
 ne:dx≠x
def zdS {h:Heap} {dx:Addr} {mA:A4} (n:h.Ns1 dx mA):∃ od,h.get? dx=some od/\∀ name,lookIn name od=some (mA name):=by
 obtain ⟨o,es,ep,ho,hd,hk,_,hm⟩:=n;refine ⟨o,ho,λ name=>?_⟩;have e:=hm name;unfold nsFind findBy at e;rw [<- Array.find?_toList] at e;unfold lookIn;rw [hd];dsimp only
 split
 ·rename_i y q;rw [q] at e;exact bt some e
 ·rename_i q;rw [q] at e;have a:es.toList.any (·.refKey)=false:=by
   rw [List.any_eq_false];intro y hy;obtain ⟨z,t,hkey⟩:=hk y (Array.mem_toList_iff.mp hy);simp [DictEntry.refKey,hkey]
  have a':¬ es.toList.any (·.refKey)=true:=by rw [a];exact aB
  rw [ao a'];exact bt some e
def ObjM.look {h:Heap} {x dx C:Addr} {mA:A4} (I:ObjM h x dx C mA):∃ od,PySem.W.InstAt h x (instObj C dx) C (some od)/\∀ name,lookIn name od=some (mA name) :=
 let ⟨od,ho,hl⟩:=zdS I.ns
 ⟨od,⟨I.obj,rfl,rfl,ho⟩,hl⟩
section
variable {prog:Af} {w:World} {A:Ao} {E:A3} {s:An} {K:A0} {x dx C f:Addr} {mA:A4} {name:Str} {v:Am}
def zgC {expr:Bool} (X:K.In s.heap) (I:ObjM s.heap x dx C mA) (hg:plainGet K C name=true) (hh:hasDictIn K C=true)
  (ha:findIn K (.ref C) name=some none) (hv:mA name=some v) (hv':handedIn v=true) (h:Q v { s with toks:=s.toks + 1 }) :
  wpAny (model prog w) A (getAttr (.ref x) name expr) Q E s:=by
 obtain ⟨od,J,hl⟩:=I.look;exact PySem.W.get_value X J (plainGet_of hg).1 (PySem.W.findObj_own hh ha rfl (by rw [hl,hv])) hv' h
def zfu {pl:Sem Bool} {Q:Value × List Value->Shared->Prop} (X:K.In s.heap) (I:ObjM s.heap x dx C mA) (hg:plainGet K C name=true)
  (hf:findIn K (.ref C) name=some (some (.ref f))) (ht:isFn K (.ref f)=true) (hv:mA name=none) (h:Q (.ref f,[.ref x]) s) :
  wpAny (model prog w) A (getMethod (.ref x) name pl) Q E s:=by
 obtain ⟨od,J,hl⟩:=I.look;exact PySem.W.method_fn X J (plainGet_of hg).1 (plainGet_of hg).2 hf (bx.mp ht) (by show (lookIn name od).map (·.isSome)=some false;rw [hl,hv];rfl) h
def zf9 {ns:A8} {Q:Ag} (X:K.In s.heap) (I:ObjM s.heap x dx C mA)
  (hs:findIn K (.ref C) "__setattr__"=some (some (.builtin "object.__setattr__"))) (hp:plainOver K C=true) (ht:takerIn K C name=some none) (hh:hasDictIn K C=true)
  (hw:PySem.Within mA ns) (hsz:ns.length<=sizeLine)
  (h:∀ h',ObjM h' x dx C (λ y=>if y=name then some v else mA y)->Heap.SameBut dx s.heap h'->Q () { s with heap:=h',toks:=s.toks + 2 }) :
  wpAny (model prog w) A (setAttr (.ref x) name v) Q E s:=by
 obtain ⟨od,J,hl⟩:=I.look;refine PySem.W.set_plain X J hs (PySem.W.osa_open (s:={ s with toks:=s.toks + 1 }) (r:=none) X J hp ht λ b=>?_);obtain ⟨cd,hc,hd'⟩:=fX hh;have hx:s.heap.get? x=some ⟨.ref C,some dx,.plain,#[]⟩:=I.obj;refine ai (aD (ai (ai (wpAny_loadPart hx (ai (PySem.W.Looks.here (s:={ s with toks:=s.toks + 1 }) (PySem.W.looks_clsIn X hc) ?_))))));rw [hd'];refine aD (a:=some dx) (ai (aD (ai ?_)));refine wpAny_nsSet1 (s:={ s with toks:=s.toks + 1 }) I.ns λ h' hn2 hs2=>?_;obtain ⟨oD,esD,epD,hoD,hdD,hcD⟩:=hn2.count (PySem.Within.cons name v hw);refine ai (wpAny_lookBehind hoD (by rw [hdD];exact pastItsLine_dict (a8 hcD (by rw [bF];omega))) ?_);exact aD (h _ ⟨(hs2.2 _ (aX I.ne)).trans I.obj,hn2,I.ne⟩ hs2)
def zaW {R:Result->Shared->Prop} {vs:A7} {kw:List (Str × Value)} (X:K.In s.heap) (hm:makesIn K C=true)
  (hi:findIn K (.ref C) "__init__"=some (some (.ref f))) (hf:typeIn K (.ref f)=some (.type "function"))
  (h:codeAny (model prog w) (A.under (.builtin "type.__call__" ⟨.ref C :: vs,kw⟩)) (.call (.ref f) ⟨.ref (s.heap.objs.size + 1) :: vs,kw⟩) (PySem.W.InitBack (s.heap.objs.size + 1) R)
   { s with heap:=(s.heap.push emptyDict).push (instObj C s.heap.objs.size) }) :
  codeAny (model prog w) A (.call (.ref C) ⟨vs,kw⟩) R s:=by
 obtain ⟨hh,g,d,t,os⟩:=s;exact PySem.W.make_core (PySem.W.makes_of X hm) (looks_findIn X hi) (λ self=>PySem.W.bind_fn X self hf) (.inl rfl) h
end
noncomputable def zQ (f:Str) (v:V):List (Str × V)->List (Str × V)
 | []=>[(f,v)]
 | (g,x) :: r=>if g=f then (g,v) :: r else (g,x) :: zQ f v r
theorem zB (f g:Str) (v:V):∀ fs:List (Str × V),(zQ f v fs).lookup g=if g=f then some v else fs.lookup g
 | []=>by
  show List.lookup g [(f,v)]=_
  by_cases h:g=f
  ·have hb:(g == f)=true:=bx.mpr h;simp only [List.lookup,hb,ap h]
  ·have hb:(g == f)=false:=aW.mpr h;simp only [List.lookup,hb,ao h]
 | (k,x) :: r=>by
  have ih:=zB f g v r;rw [show zQ f v ((k,x) :: r)=(if k=f then (k,v) :: r else (k,x) :: zQ f v r) from rfl];by_cases hk:k=f
  ·rw [ap hk];by_cases h:g=k
   ·have hb:(g == k)=true:=bx.mpr h;simp only [List.lookup,hb,ap (h.trans hk)]
   ·have hb:(g == k)=false:=aW.mpr h;simp only [List.lookup,hb,ao (λ e:g=f=>h (e.trans hk.symm))]
  ·rw [ao hk];by_cases h:g=k
   ·have hb:(g == k)=true:=bx.mpr h;simp only [List.lookup,hb,ao (λ e:g=f=>hk (h.symm.trans e))]
   ·have hb:(g == k)=false:=aW.mpr h;simp only [List.lookup,hb];exact ih
theorem QP (f:Str) (v:V):∀ fs:List (Str × V),f∈(zQ f v fs).map (·.1)/\∀ g,g∈fs.map (·.1)->g∈(zQ f v fs).map (·.1)
 | []=>⟨by simp [zQ],λ g h=>by simp at h⟩
 | (k,x) :: r=>by
  obtain ⟨i1,i2⟩:=QP f v r;rw [show zQ f v ((k,x) :: r)=(if k=f then (k,v) :: r else (k,x) :: zQ f v r) from rfl];by_cases hk:k=f
  ·rw [ap hk];subst hk;exact ⟨by simp,λ g h=>by simpa using h⟩
  ·rw [ao hk];refine ⟨?_,λ g h=>?_⟩
   ·rw [bz];exact aF _ i1
   ·rw [bz] at h ⊢;rcases ax.mp h with e|e
    ·exact ax.mpr (.inl e)
    ·exact aF _ (i2 g e)
theorem wo (f:Str) (v:V):∀ fs:List (Str × V),(zQ f v fs).length<=fs.length + 1
 | []=>by simp [zQ]
 | (k,x) :: r=>by
  have ih:=wo f v r;rw [show zQ f v ((k,x) :: r)=(if k=f then (k,v) :: r else (k,x) :: zQ f v r) from rfl];by_cases hk:k=f
  ·rw [ap hk,bF,bF];omega
  ·rw [ao hk,bF,bF];omega
def RelO.some_of {v:V} {o:Option Value} (r:RelO (some v) o):∃ u,o=some u/\RelV v u:=by
 cases o with
 | none=>exact (show False from r).elim
 | some u=>exact ⟨u,rfl,r⟩
def RelO.none_of {o:Option Value} (r:RelO none o):o=none:=by
 cases o with
 | none=>rfl
 | some u=>exact (show False from r).elim
def zd2 {v:V} (r:RelV v u):handedIn u=true:=by
 cases v with
 | non=>cases (show u=Value.none from r);rfl
 | bl b=>cases (show u=Value.bool b from r);rfl
 | int i=>obtain ⟨t,e⟩:=(show ∃ t,u=Value.int i t from r);cases e;rfl
 | str x=>obtain ⟨t,e⟩:=(show ∃ t,u=Value.str x t from r);cases e;rfl
 | byt b=>obtain ⟨t,e⟩:=(show ∃ t,u=Value.bytes b t from r);cases e;rfl
 | flt b=>obtain ⟨t,e⟩:=(show ∃ t,u=Value.float b t from r);cases e;rfl
 | ref a=>cases (show u=Value.ref a from r);rfl
 | ty n=>cases (show u=Value.type n from r);rfl
section
variable {P:Af} {w:World} {H H':Hp} {h h':Heap} {a C dx:Addr} {fs fs':Ar}
def Jz (hok:HOk P w H h) (e:H a=some (.ins C dx fs)):∃ mA,ObjM h a dx C mA/\(∀ f,RelO (fs.lookup f) (mA f))/\PySem.Within mA (fs.map (·.1))/\fs.length<=1000/\H dx=some (.own a):=by
 obtain ⟨d,z,ne,ob,mA,n,r,q⟩:=(show ObjOk P w H h a (.ins C dx fs) from hok a _ e);exact ⟨mA,⟨ob,n,ne⟩,r,q,z,d⟩
end
structure Cls (K:A0) (C:Addr):Prop where
 pg:plainGet K C Str.empty=true
 hd:hasDictIn K C=true
 po:plainOver K C=true
 sa:findIn K (.ref C) "__setattr__"=some (some (.builtin "object.__setattr__"))
def Cls.get (c:Cls K C) (f:Str):plainGet K C f=true:=c.pg
def NoAttr (K:A0) (C:Addr) (f:Str):Prop:=findIn K (.ref C) f=some none
def NoAttr.taker {f:Str} (n:NoAttr K C f):takerIn K C f=some none:=by
 unfold takerIn;rw [show findIn K (.ref C) f=some none from n]
 rfl
structure Meth (K:A0) (C:Addr) (m:Str) (f:Addr):Prop where
 at_:findIn K (.ref C) m=some (some (.ref f))
 fn:isFn K (.ref f)=true
 kp:keepIn K (.ref f)=true
section
variable {X:Cx} {m4:A2} {σ:St} {H:Hp} {s:An} {a C dx:Addr} {fs:Ar} {f:Str} {v:V} {A:Ao} {E:A3}
def Xy {b:Bool} (I:Inv X m4 σ H s) (e:H a=some (.ins C dx fs)) (c:Cls X.K C) (n:NoAttr X.K C f) (l:fs.lookup f=some v)
  (h:∀ u s',Inv X m4 σ H s'->RelV v u->Q u s'):wpAny (model X.prog X.w) A (getAttr (.ref a) f b) Q E s:=by
 obtain ⟨mA,O,r,_,_,_⟩:=Jz I.hok e;obtain ⟨u,hu,ru⟩:=RelO.some_of (v:=v) (o:=mA f) (by rw [<- l];exact r f);exact zgC I.kIn O (c.get f) c.hd n hu (zd2 ru) (h u _ (I.tok _) ru)
def vd {m:Str} {g:Addr} {pl:Sem Bool} {Q:Value × List Value->Shared->Prop} (I:Inv X m4 σ H s) (e:H a=some (.ins C dx fs)) (c:Cls X.K C) (k:Meth X.K C m g) (l:fs.lookup m=none)
  (h:Q (.ref g,[.ref a]) s):wpAny (model X.prog X.w) A (getMethod (.ref a) m pl) Q E s:=by
 obtain ⟨mA,O,r,_,_,_⟩:=Jz I.hok e;have hn:mA m=none:=RelO.none_of (by rw [<- l];exact r m);exact zfu I.kIn O (c.get m) k.at_ k.fn hn h
def JL {y:V} {Q:Ag} (I:Inv X m4 σ H s) (e:H a=some (.ins C dx fs)) (c:Cls X.K C) (n:NoAttr X.K C f) (hl:fs.length < 1000) (ry:RelV y u)
  (h:∀ s',Inv X m4 σ (upd H a (.ins C dx (zQ f y fs))) s'->Q () s'):wpAny (model X.prog X.w) A (setAttr (.ref a) f u) Q E s:=by
 obtain ⟨mA,O,r,wi,_,ho⟩:=Jz I.hok e;have hz:(fs.map (·.1)).length<=sizeLine:=by rw [af,eY];omega
 refine zf9 I.kIn O c.sa c.po n.taker c.hd wi hz λ h' O' sb=>h _ ?_;have hd:∃ o,h'.get? dx=some o:=let ⟨o,_,_,e',_⟩:=O'.ns;⟨o,e'⟩
 refine I.write (x:=a) (e:=dx) (by rw [e];exact True.intro) (.inr ho) (λ b q hb z=>(sb.2 b hb).trans z) hd ?_;refine ⟨by rw [nu O.ne];exact ho,?_,O.ne,O'.obj,_,O'.ns,λ g=>?_,λ g hg=>?_⟩
 ·have:=wo f y fs;omega
 ·show RelO ((zQ f y fs).lookup g) (if g=f then some u else mA g)
  rw [zB];by_cases q:g=f
  ·rw [ap q,ap q];exact ry
  ·rw [ao q,ao q];exact r g
 ·by_cases q:g=f
  ·rw [q];exact (QP f y fs).1
  ·refine (QP f y fs).2 g (wi g λ z=>hg ?_);show (if g=f then some u else mA g)=none
   rw [ao q];exact z
def Inv.made (I:Inv X m4 σ H s):Inv X m4 σ (upd (upd H s.heap.objs.size (.own (s.heap.objs.size + 1))) (s.heap.objs.size + 1) (.ins C s.heap.objs.size []))
  { s with heap:=(s.heap.push emptyDict).push (instObj C s.heap.objs.size) }:=by
 have e1:(s.heap.push emptyDict).get? s.heap.objs.size=some emptyDict:=aC s.heap rfl;have e2:((s.heap.push emptyDict).push (instObj C s.heap.objs.size)).get? (s.heap.objs.size + 1)=some (instObj C s.heap.objs.size):=by
  have:=aC (s.heap.push emptyDict) (o:=instObj C s.heap.objs.size) rfl
  rwa [bN] at this
 have e3:(s.heap.push emptyDict).Ns s.heap.objs.size (λ _=>none):=⟨emptyDict,#[],_,e1,rfl,(λ e he=>absurd he (by simp)),λ _=>rfl⟩;have I1:=I.laid (a:=s.heap.objs.size) (o:=.own (s.heap.objs.size + 1)) (h':=s.heap.push emptyDict) (t':=s.toks) (λ b u q=>aj _ q) (av _) ⟨_,e1⟩;refine I1.laid (a:=s.heap.objs.size + 1) (o:=.ins C s.heap.objs.size []) (t':=s.toks) (λ b u q=>aj _ q) (Nat.le_of_eq (bN _ _)) ?_;have ne:s.heap.objs.size≠s.heap.objs.size + 1:=aH (da _);refine ⟨by rw [nu ne,nk],cx _,ne,e2,λ _=>none,(Heap.Ns1.of_empty e3).at λ o q=>aj _ q,λ _=>True.intro,λ y hy=>absurd rfl hy⟩
def zgS {prog:Af} {env:Env} {e:Expr} {f:Str} {s:An} (hb:attributeBase e f env (eval e env)=eval e env)
  (h:wpAny (model prog w) A (eval e env) (λ o s₁=>wpAny (model prog w) A (getAttr o f true) Q E s₁) E s):wpAny (model prog w) A (eval (.Attribute e f pos) env) Q E s :=
 Attribute_any_ h (by rw [arm_eval_Attribute,hb])
end
def tFld (K:A0) (ta:TE) (f:Str):TE:=λ σ H Q=>ta σ H λ x H1=>∃ a C dx fs v,x=.ref a/\H1 a=some (.ins C dx fs)/\Cls K C/\NoAttr K C f/\fs.lookup f=some v/\Q v H1
def sFld (K:A0) (ta tv:TE) (f:Str):TS:=λ D σ H=>tv σ H λ y H1=>ta σ H1 λ x H2=>∃ a C dx fs,x=.ref a/\H2 a=some (.ins C dx fs)/\Cls K C/\NoAttr K C f/\fs.length < 1000 /\
 D.nx σ (upd H2 a (.ins C dx (zQ f y fs)))
def zi2 (X:Cx) (op:Operator) (rd:V->V->Hp->VK->Prop):Prop :=
 ∀ (m4:A2) (s:An) (σ:St) (H:Hp) (x y:V) (u v:Am) (Q:VK),Inv X m4 σ H s->RelV x u->RelV y v->rd x y H Q->wpAny (model X.prog X.w) X.A (inplaceOp op u v) (EP X m4 σ Q) X.xe s
def zga (K:A0) (ta tv:TE) (rd:V->V->Hp->VK->Prop) (f:Str):TS:=λ D σ H=>ta σ H λ x H1=>∃ a C dx fs v,x=.ref a/\H1 a=some (.ins C dx fs)/\Cls K C/\NoAttr K C f/\fs.lookup f=some v /\
 tv σ H1 λ y H2=>rd v y H2 λ z H3=>∃ dx' fs',H3 a=some (.ins C dx' fs')/\fs'.length < 1000/\D.nx σ (upd H3 a (.ins C dx' (zQ f z fs')))
section
variable {X:Cx} {o e value:Expr} {f:Str} {pos pos' tpos:Pos} {ta tv:TE}
def zk (he:PE X e ta) (hb:attributeBase e f X.env (eval e X.env)=eval e X.env):PE X (.Attribute e f pos) (tFld X.K ta f):=by
 intro m4 s σ H Q I h;refine zgS hb (qC (he m4 s σ H _ I h) λ u s1 x H1 I1 rx qq_=>?_);obtain ⟨a,C,dx,fs,v,ex,ea,c,n,l,q⟩:=qq_;subst ex;obtain rfl:u=Value.ref a:=rx;exact Xy I1 ea c n l λ u' s2 I2 ru=>⟨v,H1,I2,ru,q⟩
def qR (ha:PE X o ta) (hv:PE X value tv) (hs:swapsWith value (some (.Attribute o f pos')) pos.line X.env=pure false):PS X (.Assign [.Attribute o f pos'] value pos) (sFld X.K ta tv f):=by
 intro m4 s σ H D I h;refine plainObj_wpAny_Assign_Attribute (qC (hv m4 s σ H _ I h) λ u s1 y H1 I1 ry q=>qC (ha m4 s1 σ H1 _ I1 q) λ ov s2 x H2 I2 rx qq_=>?_) hs;obtain ⟨a,C,dx,fs,ex,ea,c,n,l,q2⟩:=qq_;subst ex;obtain rfl:ov=Value.ref a:=rx;exact JL I2 ea c n l ry λ s3 I3=>⟨σ,_,I3,q2⟩
def zdJ {op:Operator} {rd:V->V->Hp->VK->Prop} (ha:PE X o ta) (hv:PE X value tv) (hop:zi2 X op rd):PS X (.AugAssign (.Attribute o f tpos) op value pos) (zga X.K ta tv rd f):=by
 intro m4 s σ H D I h;refine wpAny_AugAssign_AttributeAny (qC (ha m4 s σ H _ I h) λ ov s1 x H1 I1 rx qq_=>?_);obtain ⟨a,C,dx,fs,v,ex,ea,c,n,l,q⟩:=qq_;subst ex;obtain rfl:ov=Value.ref a:=rx;refine Xy I1 ea c n l λ u s2 I2 ru=>qC (hv m4 s2 σ H1 _ I2 q) λ w3 s3 y H2 I3 ry q3=>thn (hop m4 s3 σ H2 v y u w3 _ I3 ru ry q3) λ w4 s4 ⟨z,H3,I4,rz,dx',fs',ea',l',q4⟩=>?_;exact JL I4 ea' c n l' rz λ s5 I5=>⟨σ,_,I5,q4⟩
def zjb:V->V->Hp->VK->Prop:=λ x y H Q=>∃ i j,x=.int i/\y=.int j/\Q (.int (i + j)) H
def zh2:zi2 X .Add zjb:=by
 rintro m4 s σ H x y u v Q I rx ry ⟨i,j,rfl,rfl,q⟩;obtain ⟨t,rfl⟩:=(show ∃ t,u=Value.int i t from rx);obtain ⟨t',rfl⟩:=(show ∃ t',v=Value.int j t' from ry);exact PyProof.Rows.iadd_int ⟨.int (i + j),H,I.tok _,⟨_,rfl⟩,q⟩
end
section
variable {X:Cx} {m4:A2} {σ:St} {H:Hp} {s:An} {A:Ao} {E:A3} {Q:A3} {c:Am} {b:Bool}
inductive TyOf (K:A0) (H:Hp):V->Value->Prop where
 | non:TyOf K H .non (.type "NoneType")
 | bl (x:Bool):TyOf K H (.bl x) (.type "bool")
 | int (i:Int):TyOf K H (.int i) (.type "int")
 | str (x:Str):TyOf K H (.str x) (.type "str")
 | flt (x:UInt64):TyOf K H (.flt x) (.type "float")
 | lst {a:Addr} {xs:Ap} (e:H a=some (.lst xs)):TyOf K H (.ref a) (.type "list")
 | frz {a:Addr} {o:Obj} {xs:Ap} (e:H a=some (.frz o (.lst xs))):TyOf K H (.ref a) (.type "list")
 | tup {a:Addr} {xs:Ap} (e:H a=some (.tup xs)):TyOf K H (.ref a) (.type "tuple")
 | dK {a:Addr} {m9:List (Key × V)} (e:H a=some (.dK m9)):TyOf K H (.ref a) (.type "dict")
 | dT {a:Addr} {m9:As} (e:H a=some (.dT m9)):TyOf K H (.ref a) (.type "dict")
 | ins {a C dx:Addr} {fs:Ar} (e:H a=some (.ins C dx fs)) (cl:Cls K C) (ha:findIn K (.ref C) "__class__"=some (some (.builtin "object.__class__")))
   (hn:specialIn K (.builtin "object.__class__") "__get__"=some (some (.builtin "getset_descriptor.__get__"))) (htk:takesIn K (.builtin "object.__class__")=some true)
   (hm:mroIn K C (.type "object")=some true):TyOf K H (.ref a) (.ref C)
end
structure Room (k:Nat) (A:Ao):Prop where
 hd:A.handled=none
 dp:A.depth + 3 * k + 5 < recursionLimit
 un:A.units + 16 * k + 200 < cLine
def Room.mono {j k:Nat} (r:Room k A) (h:j<=k):Room j A:=⟨r.hd,by have:=r.dp;omega,by have:=r.un;omega⟩
def Room.deeper (r:Room (k + 1) A) (env:Env):Room k (A.deeper env) :=
 ⟨r.hd,by have:=r.dp;show A.depth + 1 + 3 * k + 5 < _;omega,by have:=r.un;show A.units + 3 + 16 * k + 200 < _;omega⟩
def Room.in1 (r:Room (k + 1) A):Room k A.in1 :=
 ⟨r.hd,by have:=r.dp;show A.depth + 3 * k + 5 < _;omega,by have:=r.un;show A.units + 1 + 16 * k + 200 < _;omega⟩
def zbZ {kw:List (Str × Value)}:(A.under (.builtin "type.__call__" ⟨.ref C :: us,kw⟩)).depth=A.depth + 1:=by
 first|rfl|simp [Around.under,Code.weight,Code.isCreation,Code.isGuard,Code.isCaller,Code.frames,Code.isFrame,guardIds]
def zbY {kw:List (Str × Value)}:(A.under (.builtin "type.__call__" ⟨.ref C :: us,kw⟩)).units=A.units + 1:=by
 first|rfl|simp [Around.under,Code.cUnits,Code.frames,Code.isFrame]
def Room.make (r:Room (k + 1) A) (C:Addr) (us:A7) (kw:List (Str × Value)):Room k (A.under (.builtin "type.__call__" ⟨.ref C :: us,kw⟩)) :=
 ⟨r.hd,by have:=r.dp;rw [zbZ];omega,by have:=r.un;rw [zbY];omega⟩
def Room.depth (r:Room k A):A.depth < recursionLimit:=by have:=r.dp;omega
def Room.units (r:Room k A):A.units + 64 < cLine:=by have:=r.un;omega
def tNil:TA:=λ _ H Q=>Q [] H
def tCons (ta:TE) (tr:TA):TA:=λ σ H Q=>ta σ H λ x H1=>tr σ H1 λ xs H2=>Q (x :: xs) H2
section
variable {X:Cx} {e:Expr} {es:List Expr} {te:TE} {t:TA} {pos:Pos}
def zc:PA X [] tNil:=λ _ _ _ _ H Q I h=>Calls.spliced_nil ⟨[],H,I,.nil,h⟩
def za (ha:PE X e te) (hr:PA X es t) (hs:starEach (e :: es) X.env=(false,eval e X.env) :: starEach es X.env:=by rfl):PA X (e :: es) (tCons te t):=by
 intro pos m4 s σ H Q I h;rw [hs];show wpAny _ _ (spliced ((false,eval e X.env) :: backTo pos (starEach es X.env))) _ _ s
 refine Calls.spliced_cons (qC (ha m4 s σ H _ I h) λ u s1 x H1 I1 r1 q1=>?_);exact vy (hr pos m4 s1 σ H1 _ I1 q1) λ us s2 xs H2 I2 r2 q2=>⟨x :: xs,H2,I2,.cons r1 r2,q2⟩
def tTup (t:TA):TE:=λ σ H Q=>t σ H λ xs H1=>szl xs (∀ p,H1 p=none->Q (.ref p) (upd H1 p (.tup xs)))
def tLst (t:TA):TE:=λ σ H Q=>t σ H λ xs H1=>szl xs (∀ p,H1 p=none->Q (.ref p) (upd H1 p (.lst xs)))
def qS {x1} (h:PA X es t):PE X (.Tuple es x1 pos) (tTup t):=by
 intro m4 s σ H Q I hq;refine wpAny_Tuple_spliced (vy (h pos m4 s σ H _ I hq) λ us s1 xs H1 I1 r q=>let ⟨z,q⟩:=zbr q;⟨by rw [<- r.length];exact z,?_⟩);have hf:H1 s1.heap.objs.size=none:=I1.hok.fresh (av _);refine ⟨.ref s1.heap.objs.size,upd H1 s1.heap.objs.size (.tup xs),I1.laid (t':=s1.toks) (λ b u e=>aj _ e) (av _) ?_,rfl,q _ hf⟩;exact ⟨z,us,r,⟨_,aC _ rfl,rfl,_,rfl⟩⟩
def zK (h:PA X es t):PE X (.List es pos) (tLst t):=by
 intro m4 s σ H Q I hq;refine wpAny_List_spliced (vy (h pos m4 s σ H _ I hq) λ us s1 xs H1 I1 r q=>let ⟨z,q⟩:=zbr q;⟨by rw [<- r.length];exact z,?_⟩);have hf:H1 s1.heap.objs.size=none:=I1.hok.fresh (av _);refine ⟨.ref s1.heap.objs.size,upd H1 s1.heap.objs.size (.lst xs),I1.laid (t':=s1.toks) (λ b u e=>aj _ e) (av _) ?_,rfl,q _ hf⟩;exact ⟨z,us,0,r,aC _ rfl⟩
end
abbrev Sp:=List V->Hp->VK->XK->Prop
abbrev CXT:=List Env->Hp->Shared->XK->Value->Shared->Prop
variable {CX:CXT}
structure Env0 (P:Af) (w:World) (K:A0) (mg:A4) (base:Heap) (A:Ao) (outer:List Env) (s:An) (H:Hp):Prop where
 frames:A.frames=some outer
 mod:Mod K mg base
 bs:∀ b o,base.get? b=some o->s.heap.get? b=some o/\H b=none
 bsz:base.objs.size<=s.heap.objs.size
 funs:s.heap.FunFrames base outer
 frf:∀ b∈frs outer,H b=none
 hok:HOk P w H s.heap
 bare:AllBare s.gens
def CE (outer:List Env) (P:Af) (w:World) (H:Hp) (s:An) (Q:VK) (u:Am) (s':An):Prop :=
 ∃ v H',s'.os=s.os/\AllBare s'.gens/\Un (frs outer) [] H H' s.heap s'.heap/\HOk P w H' s'.heap/\RelV v u/\Q v H'
def CR (CX:CXT) (outer:List Env) (P:Af) (w:World) (H:Hp) (s:An) (Q:VK) (E:XK) (r:Result) (s':An):Prop :=
 match r with
 | .ok (.ret u)=>CE outer P w H s Q u s'
 | .ok _=>False
 | .error e=>CX outer H s E e s'
structure FnOk (P:Af) (w:World) (K:A0) (mg:A4) (base:Heap) (CX:CXT) (k:Nat) (f:Addr) (fd:FuncData) (ps:A8) (sp:Sp):Prop where
 len:∀ vs H Q E,sp vs H Q E->vs.length=ps.length
 run:∀ (A:Ao) (outer:List Env) (s:An) (H:Hp) (args:Args) (us:A7) (vs:Ap) (Q:VK) (E:XK),Room k A->Env0 P w K mg base A outer s H->BindsTo s fd args (ps.zip us)->Vals vs us->sp vs H Q E ->
  codeAny (model P w) A (.call (.ref f) args) (CR CX outer P w H s Q E) s
def FnOk.mono {j k:Nat} {f:Addr} {ps:A8} {sp:Sp} (F:FnOk P w K mg base CX j f fd ps sp) (h:j<=k) :
  FnOk P w K mg base CX k f fd ps sp:=⟨F.len,λ A outer s H args us vs Q E hr=>F.run A outer s H args us vs Q E (hr.mono h)⟩
def FnOk.imp {f:Addr} {ps:A8} {sp sp':Sp} (F:FnOk P w K mg base CX k f fd ps sp)
  (h:∀ vs H Q E,sp' vs H Q E->sp vs H Q E):FnOk P w K mg base CX k f fd ps sp' :=
 ⟨λ vs H Q E q=>F.len vs H Q E (h _ _ _ _ q),λ A outer s H args us vs Q E hr he hb hv hs=>F.run A outer s H args us vs Q E hr he hb hv (h _ _ _ _ hs)⟩
def Env0.make {outer:List Env} (e:Env0 P w K mg base A outer s H) (C:Addr) (us:A7) (kw:List (Str × Value)) :
  Env0 P w K mg base (A.under (.builtin "type.__call__" ⟨.ref C :: us,kw⟩)) outer s H:=⟨by first|exact e.frames|(simpa [Around.under,Code.envs,Code.isFrame,pushEnvs] using e.frames),e.mod,e.bs,e.bsz,e.funs,e.frf,e.hok,e.bare⟩
def Env0.in1 {outer:List Env} (e:Env0 P w K mg base A outer s H) :
  Env0 P w K mg base A.in1 outer s H:=⟨e.frames,e.mod,e.bs,e.bsz,e.funs,e.frf,e.hok,e.bare⟩
section
variable {X:Cx} {m4:A2} {σ:St} {H:Hp} {s s':An}
def Inv.env0 (I:Inv X m4 σ H s):Env0 X.prog X.w X.K X.mg X.base X.A X.stack s H :=
 ⟨I.ok.frames,I.ok.mod,I.bs,a8 I.ok.bsz I.sz,I.stack,I.stkFree,I.hok,I.bare⟩
def Inv.after {Q:VK} (I:Inv X m4 σ H s) (h:CE X.stack X.prog X.w H s Q u s'):EP X m4 σ Q u s':=by
 obtain ⟨v,H',os,bare,un,hok,r,q⟩:=h;obtain ⟨hh,g,d,t,os'⟩:=s';obtain rfl:os'=s.os:=os;exact ⟨v,H',I.call (h':=hh) (g':=g) (d':=d) (t':=t) (ch:=[]) un hok bare (λ b z=>absurd z (by simp)),r,q⟩
end
def Binds (K:A0) (fd:FuncData) (ps:A8) (ds:A7):Prop :=
 ∀ (s:An) (us:A7),K.In s.heap->(us ++ ds).length=ps.length->BindsTo s fd ⟨us,[]⟩ (ps.zip (us ++ ds))
def Binds.all {ps:A8} (h:∀ us:List Value,us.length=ps.length->bindArgs fd ⟨us,[]⟩=pure (ps.zip us)):Binds K fd ps []:=λ s us _ hl=>by
 rw [cg] at hl ⊢;exact .of_eq (h us hl)
def zcr (CX:CXT) (X:Cx) (E:XK):Prop:=∀ (m4:A2) (σ:St) (H:Hp) (s:An) (e:Am) (s':An),Inv X m4 σ H s->CX X.stack H s E e s'->X.xe e s'
section
variable {X:Cx} {CX:CXT} {k:Nat} {f C:Addr} {fd:FuncData} {ps:A8} {sp:Sp} {dvs:Ap} {ds:A7} {E:XK} {x m:Str} {p pos apos:Pos} {e o:Expr} {es:List Expr} {ta:TE} {t:TA}
theorem zbI {Q:VK} {vs:Ap} (F:FnOk X.prog X.w X.K X.mg X.base CX k f fd ps sp) (hr:Room k X.A) (hb:Binds X.K fd ps ds) (hd:Vals dvs ds) (hx:zcr CX X E)
  (I:Inv X m4 σ H s) (r:Vals vs us) (h:sp (vs ++ dvs) H Q E):wpAny (model X.prog X.w) X.A (call (.ref f) us) (EP X m4 σ Q) X.xe s:=by
 have r2:Vals (vs ++ dvs) (us ++ ds):=r.append hd;have hl:(us ++ ds).length=ps.length:=by rw [<- r2.length];exact F.len _ _ _ _ h
 refine fH (c7 (F.run X.A X.stack s H ⟨us,[]⟩ (us ++ ds) (vs ++ dvs) Q E hr I.env0 (hb s us I.kIn hl) r2 h) λ r s' hq=>?_);cases r with
 | error e=>exact hx m4 σ H s e s' I hq
 | ok fl =>
  cases fl with
  | ret u=>exact I.after hq
  | next=>exact False.elim hq
  | brk=>exact False.elim hq
  | cont=>exact False.elim hq
structure Mk (K:A0) (C f:Addr):Prop where
 makes:makesIn K C=true
 init:findIn K (.ref C) "__init__"=some (some (.ref f))
 fn:isFn K (.ref f)=true
 kp:keepIn K (.ref C)=true
theorem zeH {Q:VK} {vs:Ap} (M:Mk X.K C f) (F:FnOk X.prog X.w X.K X.mg X.base CX k f fd ps sp) (hr:Room (k + 1) X.A) (hb:Binds X.K fd ps ds) (hd:Vals dvs ds)
  (hx:zcr CX X E) (I:Inv X m4 σ H s) (r:Vals vs us)
  (h:∀ x dx,H x=none->H dx=none->dx≠x->sp (.ref x :: (vs ++ dvs)) (upd (upd H dx (.own x)) x (.ins C dx [])) (λ v H2=>v=.non/\Q (.ref x) H2) E) :
  wpAny (model X.prog X.w) X.A (call (.ref C) us) (EP X m4 σ Q) X.xe s:=by
 have hq:=h (s.heap.objs.size + 1) s.heap.objs.size (I.hok.fresh (cK _)) (I.hok.fresh (av _)) (aH (da _));have I2:=Inv.made (C:=C) I;have r2:Vals (V.ref (s.heap.objs.size + 1) :: (vs ++ dvs)) (Value.ref (s.heap.objs.size + 1) :: (us ++ ds)):=.cons rfl (r.append hd);have hl:(Value.ref (s.heap.objs.size + 1) :: us ++ ds).length=ps.length:=by
  have e:=r2.length;rw [F.len _ _ _ _ hq] at e;exact e.symm
 refine fH (zaW (f:=f) I.kIn M.makes M.init (bx.mp M.fn) (c7 (F.run _ X.stack _ _ ⟨Value.ref (s.heap.objs.size + 1) :: us,[]⟩ (Value.ref (s.heap.objs.size + 1) :: (us ++ ds)) _ _ E (hr.make C us [])
  (I2.env0.make C us []) (hb _ (Value.ref (s.heap.objs.size + 1) :: us) I2.kIn hl) r2 hq) λ r s' hq'=>?_))
 cases r with
 | error e=>exact hx m4 σ _ _ e s' I2 hq'
 | ok fl =>
  cases fl with
  | ret u =>
   obtain ⟨v,H',I3,rv,ev,q3⟩:=I2.after hq';subst ev;exact ⟨rv,⟨V.ref (s.heap.objs.size + 1),H',I3,rfl,q3⟩⟩
  | next=>exact False.elim hq'
  | brk=>exact False.elim hq'
  | cont=>exact False.elim hq'
end
def PK (X:Cx) (kws:List Keyword) (t:TA):Prop :=
 ∀ (pos:Pos) (m4:A2) (s:An) (σ:St) (H:Hp) (Q:List V->Hp->Prop),Inv X m4 σ H s->t σ H Q->wpAny (model X.prog X.w) X.A (evalAll ((backToKw pos (keywordEach kws X.env)).map (·.2))) (AP X m4 σ Q) X.xe s
section
variable {X:Cx} {CX:CXT} {k:Nat} {f C:Addr} {fd:FuncData} {ps ks:A8} {sp:Sp} {E:XK} {x m:Str} {p pos apos kpos:Pos} {e o:Expr} {es:List Expr} {kws:List Keyword} {te ta:TE} {t tk:TA} {nm:Option Str}
variable {g:List Value->List Value->List Value} {gV:List V->List V->List V}
end
structure FnScope (N P:A8) (sc:Scope):Prop where
 kind:sc.kind=.function
 co:sc.isCoroutine=false
 gen:sc.isGenerator=false
 nd:N.Nodup
 pre:N.take P.length=P
 par:∀ x∈P,sc.names.lookup x=some .local\/sc.names.lookup x=some .cell
 nofree:∀ y∈sc.names,y.2≠.free
theorem WO {kindOf:Str->Option NameKind} {x:Str}:∀ {binds:List (Str × Value)} {m:A4},(∀ v,(x,v) ∉ binds)->bindL kindOf binds m x=m x
 | [],_,_=>rfl
 | (n,v) :: r,m,h=>by
  unfold bindL;rw [WO λ w hw=>h w (aF _ hw)]
  split
  ·have:x≠n:=by rintro rfl;exact h v bT
   simp [this]
  ·rfl
theorem WQ {kindOf:Str->Option NameKind} {x:Str}:∀ {binds:List (Str × Value)} {m:A4},(∀ v,(x,v) ∉ binds)->bindC kindOf binds m x=m x
 | [],_,_=>rfl
 | (n,v) :: r,m,h=>by
  unfold bindC;rw [WQ λ w hw=>h w (aF _ hw)]
  split
  ·rfl
  ·have:x≠n:=by rintro rfl;exact h v bT
   simp [this]
theorem WP {kindOf:Str->Option NameKind} {x:Str} {v:Am}:∀ {P:A8} {vs:A7} {i:Nat} {m:A4},P.Nodup->P[i]?=some x->vs[i]?=some v->kindOf x=some .local ->
  bindL kindOf (P.zip vs) m x=some v
 | [],_,_,_,_,h,_,_=>by simp at h
 | _ :: _,[],_,_,_,_,h,_=>by simp at h
 | p :: P,w :: vs,0,m,nd,h1,h2,hk=>by
  simp at h1 h2;subst h1;subst h2;show bindL kindOf ((p,w) :: P.zip vs) m p=_
  unfold bindL;rw [WO λ v hv=>(dn.mp nd).1 (of_mem_zip hv).1,ap hk];simp
 | p :: P,w :: vs,i + 1,m,nd,h1,h2,hk=>by
  show bindL kindOf ((p,w) :: P.zip vs) m x=_
  unfold bindL;exact WP (i:=i) (dn.mp nd).2 (by simpa using h1) (by simpa using h2) hk
theorem WR {kindOf:Str->Option NameKind} {x:Str} {v:Am}:∀ {P:A8} {vs:A7} {i:Nat} {m:A4},P.Nodup->P[i]?=some x->vs[i]?=some v->kindOf x≠some .local ->
  bindC kindOf (P.zip vs) m x=some v
 | [],_,_,_,_,h,_,_=>by simp at h
 | _ :: _,[],_,_,_,_,h,_=>by simp at h
 | p :: P,w :: vs,0,m,nd,h1,h2,hk=>by
  simp at h1 h2;subst h1;subst h2;show bindC kindOf ((p,w) :: P.zip vs) m p=_
  unfold bindC;rw [WQ λ v hv=>(dn.mp nd).1 (of_mem_zip hv).1,ao hk];simp
 | p :: P,w :: vs,i + 1,m,nd,h1,h2,hk=>by
  show bindC kindOf ((p,w) :: P.zip vs) m x=_
  unfold bindC;exact WR (i:=i) (dn.mp nd).2 (by simpa using h1) (by simpa using h2) hk
noncomputable def start (N:A8) (vs:Ap):St:=vs.map some ++ List.replicate (N.length - vs.length) none
noncomputable def Jp (CX:CXT) (P:Af) (w:World) (K:A0) (mg:A4) (base:Heap) (N:A8) (qual:Str) (scope:Scope) (f:Addr) (cd:Am) (A:Ao) (outer:List Env) (s:An) (H:Hp) (E:XK):Cx where
 prog:=P
 w:=w
 K:=K
 mg:=mg
 base:=base
 A:=A.deeper (envOfC qual scope s.heap.objs.size f cd)
 N:=N
 s₀:=s
 H₀:=H
 env:=envOfC qual scope s.heap.objs.size f cd
 outer:=outer
 stack:=envOfC qual scope s.heap.objs.size f cd :: outer
 ex:=[]
 calm:=true
 fn:=λ _=>true
 pn:=[]
 xe:=λ e s'=>wpAny (model P w) (A.deeper (envOfC qual scope s.heap.objs.size f cd)) (leaving (envOfC qual scope s.heap.objs.size f cd) e) (λ _ s''=>CX outer H s E e s'') (λ e' s''=>CX outer H s E e' s'') s'
def zbe {sc:Scope} {n:Nat} (h:sc.names.lookup x=some .cell):∃ c,(cellsFrom n sc.names []).lookup x=some c:=by
 have q:=e6 sc.names n [] (.inl h);exact eU.mp q
theorem zdY {N ps:A8} {qual:Str} {scope:Scope} {f:Addr} {cd:Am} {outer:List Env} {s s1:An} {E:XK} {vs:Ap}
  (S:FnScope N ps scope) (hd:A.handled=none) (e0:Env0 P w K mg base A outer s H) (hl:vs.length=ps.length) (r:Vals vs us)
  (x:InCallC s s.heap.objs.size (bindL (envOfC qual scope s.heap.objs.size f cd).kindOf (ps.zip us) λ _=>none) (cellsFrom (s.heap.objs.size + 1) scope.names []) (bindC (envOfC qual scope s.heap.objs.size f cd).kindOf (ps.zip us) λ _=>none) s1) :
  Inv (Jp CX P w K mg base N qual scope f cd A outer s H E) [] (start N vs) H s1:=by
 have hpl:ps.length<=N.length:=by have:=bt List.length S.pre;rw [aP] at this;omega
 obtain ⟨h1,tk,rfl,hk⟩:=x.done;have noA:∀ b:Addr,b ∉ (Jp CX P w K mg base N qual scope f cd A outer s H E).ex:=λ b z=>absurd (show b∈([]:Ab) from z) (by simp);refine ⟨⟨e0.mod,S.kind,rfl,rfl,av _,λ y z c h1 h2=>?_,λ y hy=>?_,λ y c _ h=>?_,λ _=>hd,Around.frames_deeper e0.frames,.inr ⟨rfl,rfl⟩,λ b z=>absurd z (noA b),e0.bs,e0.bsz,λ b _ _=>noA b,λ b z=>absurd z (noA b),e0.funs,e0.frf⟩,
  rfl,e0.bare,Un.kept hk,⟨_,x.toInCall.ns,λ i y v h1 h2 h3=>?_⟩,λ y c h=>⟨_,x.cell y c h⟩,e0.hok.fresh (av _),λ y c h=>?_,λ p hp=>absurd (show p∈([]:A2) from hp) (by simp),e0.hok.kept hk,?_⟩
 ·exact name_of_addr x.apart (bA h1) (bA h2)
 ·have hy:scope.names.lookup y=some .cell\/scope.names.lookup y=some .free:=hy;rcases hy with hy|hy
  ·exact zbe hy
  ·exact absurd rfl (S.nofree _ (bA hy))
 ·exact bM (x.above y c (bA h))
 ·have hi:i < vs.length:=by
   unfold start at h2;by_cases hi:i < vs.length
   ·exact hi
   ·rw [aM (by simpa using hi)] at h2;rw [c8] at h2
    split at h2 <;> cases h2
  have ha:vs[i]?=some v:=by
   unfold start at h2;rw [aQ (by simpa using hi),ak] at h2;cases e:vs[i]? with
   | none=>rw [e] at h2;cases h2
   | some a=>rw [e] at h2;cases h2;rfl
  obtain ⟨u,hu,rv⟩:=r.get ha;have hp:ps[i]?=some y:=by
   rw [<- S.pre,List.getElem?_take_of_lt (by omega)];exact h1
  have ndP:ps.Nodup:=by rw [<- S.pre];exact S.nd.sublist (List.take_sublist _ _)
  refine ⟨u,rv,?_⟩;rcases S.par y (ah hp) with k|k
  ·exact .inl ⟨k,WP ndP hp hu k⟩
  ·obtain ⟨c,e⟩:=zbe (n:=s.heap.objs.size + 1) k;refine .inr ⟨.inl k,c,e,?_⟩;have q:=x.cell y c e;rw [WR ndP hp hu (by show scope.names.lookup y≠_;rw [k];decide)] at q;exact q
 ·exact e0.hok.fresh (bM (x.above y c (bA h)))
 ·unfold start;show _=N.length
  rw [aO,af,a9];omega
theorem zfx {f:Addr} {name qual:Str} {params:Arguments} {body:List Stmt} {scope:Scope} {dV kV doc pm cdv ct oc:Am} {an od:Aa}
  {osl:Ae} {N ps:A8} {sp:Sp} (lk:K.lookup f=some ⟨oc,od,.func (fnOf name qual params body scope dV kV doc pm an cdv ct),osl⟩) (hcd:codeIn K cdv qual=true) (S:FnScope N ps scope)
  (len:∀ vs H Q E,sp vs H Q E->vs.length=ps.length)
  (hbody:∀ (A:Ao) (outer:List Env) (s:An) (H:Hp) (vs:Ap) (Q:VK) (E:XK),Room k (A.deeper (envOfC qual scope s.heap.objs.size f cdv))->sp vs H Q E ->
   ∃ t,PSs (Jp CX P w K mg base N qual scope f cdv A outer s H E) body t/\t { nx:=λ _ H'=>Q .non H',rt:=Q } (start N vs) H) :
  FnOk P w K mg base CX (k + 1) f (fnOf name qual params body scope dV kV doc pm an cdv ct) ps sp:=by
 refine ⟨len,λ A outer s H args us vs Q E hr e0 hb r hsp=>?_⟩;have hl:=len _ _ _ _ hsp;have KX:K.In s.heap:=e0.mod.kin.keeps λ b o e=>(e0.bs b o e).1;have lim:s.heap.NoLimit:=e0.mod.nolimit.keeps λ b o e=>(e0.bs b o e).1;have hkind:∀ y∈ps.zip us,scope.names.lookup y.1=some .local\/(scope.names.lookup y.1=some .cell/\((cellsFrom (s.heap.objs.size + 1) scope.names []).lookup y.1).isSome=true):=λ ⟨n,v⟩ hy=>by
  rcases S.par n (of_mem_zip hy).1 with q|q
  ·exact .inl q
  ·exact .inr ⟨q,e6 _ _ _ (.inl q)⟩
 refine codeAny_call_function hr.depth (KX _ _ lk) rfl S.co S.gen rfl (PySem.W.codeRec_of KX hcd) (hb _ _ _ _ ?_);refine wpAny_newFunctionEnv_cells S.kind hkind λ env he s1 x=>?_;subst he;refine ⟨lim.keeps x.toInCall.keep,codeAny_func ?_⟩;obtain ⟨t,ht,hq⟩:=hbody A outer s H vs Q E (hr.deeper _) hsp;have I:Inv (Jp CX P w K mg base N qual scope f cdv A outer s H E) [] (start N vs) H s1:=zdY S hr.hd e0 hl r x;refine aU (ht [] s1 (start N vs) H _ I hq) (λ fl s' hs=>?_) λ e s' hs=>hs;have fin:∀ {σ':St} {H':Hp} {v:V} {u:Am},Inv (Jp CX P w K mg base N qual scope f cdv A outer s H E) [] σ' H' s'->RelV v u->Q v H'->CE outer P w H s Q u s' :=
  λ {σ' H' v u} J rv q=>⟨v,H',J.os,J.bare,J.base,J.hok,rv,q⟩
 cases fl with
 | ret u =>
  obtain ⟨v,σ',H',J,rv,q⟩:=hs;exact fin J rv q
 | next =>
  obtain ⟨σ',H',J,q⟩:=hs;exact fin (v:=V.non) (u:=Value.none) J rfl q
 | brk =>
  obtain ⟨_,_,_,q⟩:=hs;exact False.elim q
 | cont =>
  obtain ⟨_,_,_,q⟩:=hs;exact False.elim q
section
variable {X:Cx} {x:Str} {p pos:Pos} {e:Expr} {es:List Expr} {t:TA} {id T:String} {r:List V->Hp->VK->Prop}
def tCB (r:List V->Hp->VK->Prop) (t:TA):TE:=λ σ H Q=>t σ H λ vs H1=>r vs H1 Q
def zeZ (hc:CallR X (.builtin id) r) (hg:Gl X x) (hm:X.mg x=none) (hv:bootBuiltins x=some (.builtin id)) (ha:PA X (e :: es) t) (hn:x≠"__name__":=by decide) (hdb:(x == ("__debug__":Str))=false:=by decide)
  (he:starEach (e :: es) X.env=(false,eval e X.env) :: starEach es X.env:=by rfl) (hpl:(backTo pos (starEach es X.env)).any (·.1)=false:=by rfl):PE X (.Call (.Name x p) (e :: es) [] pos) (tCB r t):=by
 intro m4 s σ H Q I h;refine bw (vQ I hg hm hv ?_ hn hdb);exact PyProof.Rows.callWith_builtin1 (vy (ha pos m4 s σ H _ I h) λ us s1 vs H1 I1 r1 q1=>hc m4 s1 σ H1 vs us Q I1 r1 q1) he hpl
def zdM (hc:CallR X (.type T) r) (hg:Gl X x) (hm:X.mg x=none) (hv:bootBuiltins x=some (.type T)) (ha:PA X (e :: es) t) (hn:x≠"__name__":=by decide) (hdb:(x == ("__debug__":Str))=false:=by decide)
  (he:starEach (e :: es) X.env=(false,eval e X.env) :: starEach es X.env:=by rfl) (hpl:(backTo pos (starEach es X.env)).any (·.1)=false:=by rfl):PE X (.Call (.Name x p) (e :: es) [] pos) (tCB r t):=by
 intro m4 s σ H Q I h;refine bw (vQ I hg hm hv ?_ hn hdb);exact bg (vy (ha pos m4 s σ H _ I h) λ us s1 vs H1 I1 r1 q1=>hc m4 s1 σ H1 vs us Q I1 r1 q1) he hpl
end
end L2
namespace HT
open PySem PyProof.Rows
section
open PySem.SeqAt
open PySem.AutoSeq1 (wpAny_loadPart')
open PySem.MeetsSeq PySem.MeetsSeq2 PySem.MeetsSeq3
end
section
variable {prog:Af} {w:World} {A:Ao} {E:A3} {s:An}
noncomputable def sIx (n d:Nat):Option Int->Nat
 | none=>d
 | some v=>if v < 0 then (v + (n:Int)).toNat else min v.toNat n
def sIx_none (n d:Nat):sIx n d none=d:=rfl
def sIx_nat (n d k:Nat):sIx n d (some (k:Int))=min k n:=by
 show (if (k:Int) < 0 then ((k:Int) + (n:Int)).toNat else min (k:Int).toNat n)=min k n
 rw [ao (by omega),aA]
end
end HT
namespace L2
open PySem PySem.Spec PyProof.Rows
abbrev TO:=St->Hp->(Option Int->Hp->Prop)->Prop
def PO (X:Cx) (e:Option Expr) (t:TO):Prop :=
 ∀ (m4:A2) (s:An) (σ:St) (H:Hp) (Q:Option Int->Hp->Prop),Inv X m4 σ H s->t σ H Q ->
  wpAny (model X.prog X.w) X.A (evalPart e X.env) (λ u s'=>∃ o H',Inv X m4 σ H' s'/\IsPart u o/\Q o H') X.xe s
def tNoPart:TO:=λ _ H Q=>Q none H
def tPart (t:TE):TO:=λ σ H Q=>t σ H λ x H1=>iq x λ i=>Q (some i) H1
def zb8 {ns:A6}:∀ {us:A7},Vals (ns.map V.int) us->IntsAre us ns:=by
 induction ns with
 | nil=>intro us r;rw [map_nil] at r;cases r;exact .nil
 | cons n ns ih =>
  intro us r;rw [bz] at r;cases r with
  | cons r1 r2 =>
   obtain ⟨t,e⟩:=r1;subst e;exact .cons n t (ih r2)
section
variable {X:Cx} {e:Expr} {te:TE} {lo hi:Option Expr} {tl th:TO} {pos p2:Pos}
def Vt:PO X none tNoPart:=by
 intro m4 s σ H Q I h;rw [evalPart_none];exact aD ⟨none,H,I,.none,h⟩
def Vs (h:PE X e te):PO X (some e) (tPart te):=by
 intro m4 s σ H Q I hw;rw [evalPart_some];refine qC (h m4 s σ H _ I hw) λ u s1 x H1 I1 r1 q1=>?_;obtain ⟨i,rfl,q⟩:=Qd q1;obtain ⟨t,rfl⟩:=r1;exact ⟨some i,H1,I1,.int i t,q⟩
def SlR (X:Cx) (r:V->Option Int->Option Int->Hp->VK->Prop):Prop :=
 ∀ (m4:A2) (s:An) (σ:St) (H:Hp) (x:V) (v vl vu:Am) (lo hi:A9) (sl:Addr) (Q:VK),Inv X m4 σ H s->RelV x v->s.heap.IsSliceOf sl vl vu .none->IsPart vl lo->IsPart vu hi->r x lo hi H Q ->
  ∃ T id,typeLookup (.type T) "__getitem__"=pure (some (.builtin id))/\s.TypeIs v T/\wpAny (model X.prog X.w) X.A (getItem v (.ref sl)) (EP X m4 σ Q) X.xe s
def SlR.or {r r':V->Option Int->Option Int->Hp->VK->Prop} (h:SlR X r) (h':SlR X r'):SlR X (λ x lo hi H Q=>r x lo hi H Q\/r' x lo hi H Q):=by
 intro m4 s σ H x v vl vu lo hi sl Q I rx hs pl pu q;rcases q with q|q
 ·exact h m4 s σ H x v vl vu lo hi sl Q I rx hs pl pu q
 ·exact h' m4 s σ H x v vl vu lo hi sl Q I rx hs pl pu q
def tSl (r:V->Option Int->Option Int->Hp->VK->Prop) (te:TE) (tl th:TO):TE:=λ σ H Q=>te σ H λ x H1=>tl σ H1 λ l H2=>th σ H2 λ u H3=>r x l u H3 Q
def Xb {r:V->Option Int->Option Int->Hp->VK->Prop} (hr:SlR X r) (he:PE X e te) (hl:PO X lo tl) (hu:PO X hi th):PE X (.Subscript e (.Slice lo hi none p2) pos) (tSl r te tl th):=by
 intro m4 s σ H Q I h;refine Subscript_ (qC (he m4 s σ H _ I h) λ v s1 x H1 I1 r1 q1=>?_);refine wpAny_Slice (thn (hl m4 s1 σ H1 _ I1 q1) λ vl s2 ⟨l,H2,I2,pl,q2⟩=>thn (hu m4 s2 σ H2 _ I2 q2) λ vu s3 ⟨u,H3,I3,pu,q3⟩=>?_);rw [evalPart_none];refine aD ?_;have I4:Inv X m4 σ H3 { s3 with heap:=s3.heap.push { cls:=.type "slice",data:=.fields #[vl,vu,.none] } }:=I3.kept (t':=s3.toks) λ b ob q=>aj _ q;obtain ⟨T,id,hT,ht,hg⟩:=hr m4 { s3 with heap:=s3.heap.push { cls:=.type "slice",data:=.fields #[vl,vu,.none] } } σ H3 x v vl vu l u s3.heap.objs.size Q I4 r1 (Heap.IsSliceOf.new ..) pl pu q3;show wpAny (model X.prog X.w) X.A (subscriptTail e (.Slice lo hi none p2) v (.ref s3.heap.objs.size)) (EP X m4 σ Q) X.xe { s3 with heap:=s3.heap.push { cls:=.type "slice",data:=.fields #[vl,vu,.none] } }
 exact tail_any (ops:=[.ref s3.heap.objs.size,v]) ht hT hg (by with_unfolding_all rfl)
noncomputable def XB (xs:Ap) (lo hi:A9):List V:=(xs.drop (HT.sIx xs.length 0 lo)).take (HT.sIx xs.length xs.length hi - HT.sIx xs.length 0 lo)
def zba (xs:Ap) (lo hi:A9):(XB xs lo hi).length<=xs.length:=by
 unfold XB;rw [aP,dN];omega
end
noncomputable def ixN (n:Nat) (i:Int):Option Nat:=if 0<=i then (if i < n then some i.toNat else none) else if -(n:Int)<=i then some (i + n).toNat else none
noncomputable def atI {α:Type} (xs:List α) (i:Int):Option α:=(ixN xs.length i).bind λ j=>xs[j]?
def zcO {n:Nat} {i:Int} {j:Nat} (h:ixN n i=some j):seqIndex? i n=some j/\j < n/\-(n:Int)<=i/\i < n:=by
 unfold ixN at h;by_cases h0:0<=i
 ·rw [ap h0] at h;by_cases h1:i < n
  ·rw [ap h1] at h;have e:i.toNat=j:=aI h;exact ⟨by rw [eZ h0 h1,e],by omega,by omega,h1⟩
  ·rw [ao h1] at h;cases h
 ·rw [ao h0] at h;by_cases h1:-(n:Int)<=i
  ·rw [ap h1] at h;have e:(i + n).toNat=j:=aI h;exact ⟨by rw [seqIndex_neg (by omega) h1,e],by omega,h1,by omega⟩
  ·rw [ao h1] at h;cases h
def JC {α:Type} {xs:List α} {i:Int} {v:α} (h:atI xs i=some v):∃ j,seqIndex? i xs.length=some j/\xs[j]?=some v/\j < xs.length/\-(xs.length:Int)<=i/\i < xs.length:=by
 unfold atI at h;cases e:ixN xs.length i with
 | none=>rw [e] at h;cases h
 | some j =>
  rw [e] at h;obtain ⟨h1,h2,h3,h4⟩:=zcO e;exact ⟨j,h1,h,h2,h3,h4⟩
def zD {α:Type} {xs:List α} {j:Nat} {v:α} (h:xs[j]?=some v):atI xs (j:Int)=some v:=by
 have hj:j < xs.length:=(aa.mp h).1;have e:ixN xs.length (j:Int)=some j:=by
  unfold ixN;rw [ap (by omega),ap (by omega)];simp
 unfold atI;rw [e];exact h
def zdg (b:Expr):Prop:=∀ o i,subscripted b false o i=operate [o,i] (getItem o i)
def IxR (X:Cx) (r:R2):Prop :=
 ∀ (value slice:Expr) (m4:A2) (s:An) (σ:St) (H:Hp) (x y:V) (v u:Am) (Q:VK),Inv X m4 σ H s->RelV x v->RelV y u->r x y H Q ->
  subscripted slice false v u=operate [v,u] (getItem v u)->wpAny (model X.prog X.w) X.A (subscriptTail value slice v u) (EP X m4 σ Q) X.xe s
def MtR (X:Cx) (id:String) (r:V->List V->Hp->VK->Prop):Prop :=
 ∀ (m4:A2) (s:An) (σ:St) (H:Hp) (x:V) (xs:Ap) (v:Am) (us:A7) (Q:VK),Inv X m4 σ H s->RelV x v->Vals xs us->r x xs H Q ->
  wpAny (model X.prog X.w) X.A (call (.builtin id) (v :: us)) (EP X m4 σ Q) X.xe s
section
variable {X:Cx} {a b:Expr} {ta tb:TE} {pos:Pos}
def IxR.or {r r':R2} (h:IxR X r) (h':IxR X r'):IxR X (λ x y H Q=>r x y H Q\/r' x y H Q):=by
 intro value slice m4 s σ H x y v u Q I rx ry q hs;rcases q with q|q
 ·exact h value slice m4 s σ H x y v u Q I rx ry q hs
 ·exact h' value slice m4 s σ H x y v u Q I rx ry q hs
def MtR.or {id:String} {r r':V->List V->Hp->VK->Prop} (h:MtR X id r) (h':MtR X id r'):MtR X id (λ x xs H Q=>r x xs H Q\/r' x xs H Q):=by
 intro m4 s σ H x xs v us Q I rx rs q;rcases q with q|q
 ·exact h m4 s σ H x xs v us Q I rx rs q
 ·exact h' m4 s σ H x xs v us Q I rx rs q
def ziF {r:R2} (hr:IxR X r) (ha:PE X a ta) (hb:PE X b tb) (hs:zdg b):PE X (.Subscript a b pos) (tOp r ta tb):=by
 intro m4 s σ H Q I h;exact Subscript_ (zic ha hb I h λ v u s2 x y H2 I2 rx ry q=>hr a b m4 s2 σ H2 x y v u Q I2 rx ry q (hs _ _))
def ziB (K:A0):R2:=λ x y H Q=>∃ p xs i v,x=.ref p/\y=.int i/\SqL K H p xs/\atI xs i=some v/\Q v H
def ziz (K:A0):R2:=λ x y H Q=>∃ p xs i v,x=.ref p/\y=.int i/\SqT K H p xs/\atI xs i=some v/\Q v H
def ziA:R2:=λ x y H Q=>∃ z i c,x=.str z/\y=.int i/\z.length<=sizeLine/\atI z.cps.toList i=some c/\Q (.str ⟨#[c]⟩) H
def ix_list:IxR X (ziB X.K):=by
 intro value slice m4 s σ H x y v u Q I rx ry h hs;obtain ⟨p,xs,i,z,rfl,rfl,hq,he,q⟩:=h;cases rx;obtain ⟨t,rfl⟩:=ry;obtain ⟨mY,r,pl,hz⟩:=I.list hq;obtain ⟨j,h1,h2,h3,h4,h5⟩:=JC he;obtain ⟨w,ew,rw'⟩:=r.get h2;have hl:=r.length;have hn:=ZO;have fin:EP X m4 σ Q w s:=⟨z,H,I,rw',q⟩;by_cases h0:0<=i
 ·have hj:i.toNat=j:=by
   rw [eZ h0 h5] at h1;exact aI h1
  exact item_listR pl.isList h0 (by omega) (by rw [hj];simpa using ew) fin hs
 ·have hj:(i + (mY.toArray.size:Int)).toNat=j:=by
   rw [seqIndex_neg (by omega) h4] at h1;rw [aq,<- hl];exact aI h1
  exact subscriptTail_builtinR (x:=w) pl.isList.typeIs slot_list_getitem.lookup
   (wpAny_getItem_list_neg (Q:=λ r s'=>r=w/\EP X m4 σ Q r s') pl.isList (by omega) (by rw [aq] <;> omega) (by omega) (by rw [hj];simpa using ew) ⟨rfl,fin⟩) hs
def ix_tup:IxR X (ziz X.K):=by
 intro value slice m4 s σ H x y v u Q I rx ry h hs;obtain ⟨p,xs,i,z,rfl,rfl,hq,he,q⟩:=h;cases rx;obtain ⟨t,rfl⟩:=ry;obtain ⟨mY,r,pl,hz⟩:=I.tuple hq;obtain ⟨j,h1,h2,h3,h4,h5⟩:=JC he;obtain ⟨w,ew,rw'⟩:=r.get h2;have hl:=r.length;have hn:=ZO;have fin:EP X m4 σ Q w s:=⟨z,H,I,rw',q⟩;exact subscriptTail_builtinR (x:=w) pl.typeIs slot_tuple_getitem.lookup
  (getItem_tuple (j:=j) (Q:=λ r s'=>r=w/\EP X m4 σ Q r s') pl (by omega) (by omega) (by rw [aq,<- hl];exact h1) (by simpa using ew) ⟨rfl,fin⟩) hs
def zhX:IxR X ziA:=by
 intro value slice m4 s σ H x y v u Q I rx ry h hs;obtain ⟨z,i,c,rfl,rfl,hz,he,q⟩:=h;obtain ⟨t,rfl⟩:=rx;obtain ⟨t',rfl⟩:=ry;obtain ⟨j,h1,h2,h3,h4,h5⟩:=JC he;have hl:z.cps.toList.length=z.length:=by simp [Str.length]
 rw [hl] at h1 h4 h5;have hn:=ZO;exact tail_any (typeIs_str s z t) slot_str_getitem.lookup (getItem_str (c:=c) (by
  have e1:decide (i < -(2 ^ 63:Int))=false:=aR (by omega);have e2:decide (i ≥ 2 ^ 63)=false:=aR (by omega);rw [e1,e2,Bool.or_false]) (by rw [h1];simpa using h2) ⟨.str ⟨#[c]⟩,H,I.tok _,⟨_,rfl⟩,q⟩) hs
def rIx (K:A0):R2:=λ x y H Q=>ziB K x y H Q\/ziz K x y H Q\/ziA x y H Q
def zhY:IxR X (rIx X.K):=ix_list.or (ix_tup.or zhX)
def zbX (mY:A7) (n j:Nat) (u:Am):Obj.mapSeq (·.setIfInBounds j u) { cls:=.type "list",data:=.seq mY.toArray n }={ cls:=.type "list",data:=.seq (mY.set j u).toArray n }:=by
 simp [Obj.mapSeq]
def Inv.lst {m4:A2} {σ:St} {H:Hp} {s:An} {p:Addr} {xs:Ap} (I:Inv X m4 σ H s) (h:H p=some (.lst xs)) :
  ∃ (mY:A7) (n:Nat),Vals xs mY/\s.heap.get? p=some { cls:=.type "list",data:=.seq mY.toArray n }/\xs.length<=sizeLine:=by
 obtain ⟨z,mY,n,r,e⟩:=I.hok p _ h;exact ⟨mY,n,r,e,z⟩
def Inv.lstUpd {m4:A2} {σ:St} {H:Hp} {s:An} {p:Addr} {xs ys:Ap} {mY its':A7} {n n':Nat} {f:Obj->Obj} (I:Inv X m4 σ H s) (h:H p=some (.lst xs))
  (ho:s.heap.get? p=some { cls:=.type "list",data:=.seq mY.toArray n }) (hf:f { cls:=.type "list",data:=.seq mY.toArray n }={ cls:=.type "list",data:=.seq its'.toArray n' }) (r:Vals ys its') (hz:ys.length<=sizeLine) (t:Nat) :
  Inv X m4 σ (upd H p (.lst ys)) { s with heap:=s.heap.update p f,toks:=t }:=by
 have e:(s.heap.update p f).get? p=some { cls:=.type "list",data:=.seq its'.toArray n' }:=by
  rw [bO f ho (by rw [hf] <;> rfl),hf]
 refine I.write (x:=p) (e:=p) (by rw [h];trivial) (.inl rfl) (λ b u hb q=>(bc _ _ (aX hb)).trans q) ⟨_,e⟩ ?_;exact ⟨hz,its',n',r,e⟩
def zg6:V->V->V->Hp->(Hp->Prop)->Prop:=λ o i v H Q=>∃ p xs k j,o=.ref p/\i=.int k/\H p=some (.lst xs)/\ixN xs.length k=some j/\Q (upd H p (.lst (xs.set j v)))
def wE:zii X zg6:=by
 intro m4 s σ H o i v ov iv u Q I ro ri rv h;obtain ⟨p,xs,k,j,rfl,rfl,hp,hj,q⟩:=h;cases ro;obtain ⟨t,rfl⟩:=ri;obtain ⟨mY,n,r,ho,hz⟩:=I.lst hp;obtain ⟨h1,h2,h3,h4⟩:=zcO hj;have hl:=r.length;have hn:=ZO;have I':Inv X m4 σ (upd H p (.lst (xs.set j v))) { s with heap:=s.heap.update p (Obj.mapSeq (·.setIfInBounds j u)) } :=
  I.lstUpd hp ho (zbX mY n j u) (r.set rv j) (by rw [bI];exact hz) s.toks
 by_cases h0:0<=k
 ·have hk:k.toNat=j:=by
   rw [eZ h0 h4] at h1;exact aI h1
  exact PySem.W.ki_setAt ho h0 (by omega) (by rw [aq,<- hl];exact h4) (by rw [hk];exact ⟨_,I',q⟩)
 ·have hk:(k + (mY.toArray.size:Int)).toNat=j:=by
   rw [seqIndex_neg (by omega) h3] at h1;rw [aq,<- hl];exact aI h1
  exact PySem.W.ki_setBack ho (by omega) (by rw [aq,<- hl];exact h3) (by omega) (by rw [hk];exact ⟨_,I',q⟩)
def Vb (lo hi:A9) (n:Nat):(sliceBounds lo hi none n).1=((HT.sIx n 0 lo:Nat):Int)/\(sliceBounds lo hi none n).2.1=((HT.sIx n n hi:Nat):Int)/\(sliceBounds lo hi none n).2.2=1:=by
 refine ⟨?_,?_,rfl⟩
 ·cases lo with
  | none=>simp [sliceBounds,HT.sIx]
  | some i =>
   simp only [sliceBounds,HT.sIx,dY,show (1:Int) > 0 by decide,dP];by_cases h:i < 0
   ·simp only [h,dP] <;> omega
   ·simp only [h,dQ] <;> omega
 ·cases hi with
  | none=>simp [sliceBounds,HT.sIx]
  | some i =>
   simp only [sliceBounds,HT.sIx,dY,show (1:Int) > 0 by decide,dP];by_cases h:i < 0
   ·simp only [h,dP] <;> omega
   ·simp only [h,dQ] <;> omega
def XN (mY:A7) (lo hi:A9):slicePick mY.toArray lo hi none=((mY.drop (HT.sIx mY.length 0 lo)).take (HT.sIx mY.length mY.length hi - HT.sIx mY.length 0 lo)).toArray:=by
 obtain ⟨h1,h2,h3⟩:=Vb lo hi mY.toArray.size;unfold slicePick;rw [h1,h2,h3];simp only [sliceRange_one,pick_run,aq] <;> rfl
def zhv (K:A0):V->Option Int->Option Int->Hp->VK->Prop:=λ x lo hi H Q=>∃ a xs,x=.ref a/\SqL K H a xs/\∀ p,H p=none->Q (.ref p) (upd H p (.lst (XB xs lo hi)))
def zf7:SlR X (zhv X.K):=by
 intro m4 s σ H x v vl vu lo hi sl Q I rx hs pl pu h;obtain ⟨a,xs,rfl,hx,q⟩:=h;cases rx;obtain ⟨mY,r,ht,hz⟩:=I.list hx;have hlen:=r.length;refine ⟨"list",_,slot_list_getitem.lookup,ht.isList.typeIs,?_⟩;refine wpAny_getItem_list_slice ht.isList hs pl pu .none (by simp) ?_ (by rw [aq] <;> omega);rw [XN,<- hlen];refine ⟨.ref s.heap.objs.size,_,I.laid (t':=s.toks) (o:=.lst (XB xs lo hi)) (λ b ob q=>aj _ q) (av _) ?_,rfl,q _ (I.hok.fresh (av _))⟩;exact ⟨a8 (zba xs lo hi) hz,_,0,(r.drop (HT.sIx xs.length 0 lo)).take (HT.sIx xs.length xs.length hi - HT.sIx xs.length 0 lo),aC _ rfl⟩
noncomputable def wK:V->Bool
 | .non=>true
 | .bl _=>true
 | .int _=>true
 | .str _=>true
 | _=>false
noncomputable def eqV:V->V->Bool
 | .non,.non=>true
 | .bl a,.bl b=>a == b
 | .bl a,.int b=>(if a then 1 else 0) == b
 | .int a,.bl b=>a == (if b then 1 else 0)
 | .int a,.int b=>a == b
 | .str a,.str b=>a == b
 | _,_=>false
def QT {A:Ao} {s:An} {y x:V} {u v:Am} (ry:RelV y u) (rx:RelV x v) (fy:wK y=true) (fx:wK x=true):SeqAt.EqAt A s u v (eqV y x):=by
 cases y with
 | non =>
  cases ry;cases x with
  | non=>cases rx;exact dG _
  | bl b=>cases rx;exact SeqAt.EqAt.none_bool b
  | int b=>obtain ⟨t,rfl⟩:=rx;exact SeqAt.EqAt.none_int b t
  | str b=>obtain ⟨t,rfl⟩:=rx;exact SeqAt.EqAt.none_str b t
  | _=>exact absurd (show false=true from fx) aB
 | bl a =>
  cases ry;cases x with
  | non=>cases rx;exact SeqAt.EqAt.bool_none a
  | bl b=>cases rx;exact SeqAt.EqAt.bool_bool a b
  | int b=>obtain ⟨t,rfl⟩:=rx;exact SeqAt.EqAt.bool_int a b t
  | str b=>obtain ⟨t,rfl⟩:=rx;exact SeqAt.EqAt.bool_str a b t
  | _=>exact absurd (show false=true from fx) aB
 | int a =>
  obtain ⟨t',rfl⟩:=ry;cases x with
  | non=>cases rx;exact SeqAt.EqAt.int_none a t'
  | bl b=>cases rx;exact SeqAt.EqAt.int_bool a t' b
  | int b=>obtain ⟨t,rfl⟩:=rx;exact SeqAt.EqAt.int_int a t' b t
  | str b=>obtain ⟨t,rfl⟩:=rx;exact SeqAt.EqAt.int_str a t' b t
  | _=>exact absurd (show false=true from fx) aB
 | str a =>
  obtain ⟨t',rfl⟩:=ry;cases x with
  | non=>cases rx;exact SeqAt.EqAt.str_none a t'
  | bl b=>cases rx;exact SeqAt.EqAt.str_bool a t' b
  | int b=>obtain ⟨t,rfl⟩:=rx;exact SeqAt.EqAt.str_int a t' b t
  | str b=>obtain ⟨t,rfl⟩:=rx;exact SeqAt.EqAt.str_str a t' b t
  | _=>exact absurd (show false=true from fx) aB
 | _=>exact absurd (show false=true from fy) aB
def CallR.or {f:Am} {r r':List V->Hp->VK->Prop} (h:CallR X f r) (h':CallR X f r'):CallR X f (λ xs H Q=>r xs H Q\/r' xs H Q):=by
 intro m4 s σ H xs us Q I rs q;rcases q with q|q
 ·exact h m4 s σ H xs us Q I rs q
 ·exact h' m4 s σ H xs us Q I rs q
def VT:CallR X (.type "list") (λ xs H Q=>∃ p ys,xs=[.ref p]/\(SqL X.K H p ys\/SqT X.K H p ys)/\∀ l,H l=none->Q (.ref l) (upd H l (.lst ys))):=by
 intro m4 s σ H xs us Q I r h;obtain ⟨p,ys,rfl,hq,q⟩:=h;obtain ⟨u,rfl,rx⟩:=Q0 r;cases rx;have fin:∀ (mY:A7),Vals ys mY->ys.length<=sizeLine->∀ (h':Heap) (c':Nat),(∀ b o',s.heap.get? b=some o'->h'.get? b=some o') ->
   h'.get? s.heap.objs.size=some { cls:=.type "list",dict:=none,data:=.seq mY.toArray c',slots:=#[] }->EP X m4 σ Q (.ref s.heap.objs.size) { s with heap:=h' }:=λ mY r' hz h' c' kp e =>
  ⟨.ref s.heap.objs.size,_,I.laid (t':=s.toks) kp (av _) (show ObjOk X.prog X.w _ h' _ (.lst ys) from ⟨hz,mY,c',r',e⟩),rfl,q _ (I.hok.fresh (av _))⟩
 rcases hq with hq|hq
 ·obtain ⟨mY,r',pl,hz⟩:=I.list hq;have hlen:=r'.length;obtain ⟨o,ho,hc,n,hd⟩:=pl.isList;exact call_list_seq p (.inl rfl) ho hc hd (λ h' c' kp e=>fin mY r' hz h' c' kp e) (by simp only [aq] <;> omega)
 ·obtain ⟨mY,r',pl,hz⟩:=I.tuple hq;have hlen:=r'.length;obtain ⟨o,ho,hc,n,hd⟩:=pl;exact call_list_seq p (.inr rfl) ho hc hd (λ h' c' kp e=>fin mY r' hz h' c' kp e) (by simp only [aq] <;> omega)
def X8:CallR X (.type "tuple") (λ xs H Q=>∃ p ys,xs=[.ref p]/\((SqL X.K H p ys/\∀ l,H l=none->Q (.ref l) (upd H l (.tup ys)))\/(SqT X.K H p ys/\Q (.ref p) H))):=by
 intro m4 s σ H xs us Q I r h;obtain ⟨p,ys,rfl,h⟩:=h;obtain ⟨u,rfl,rx⟩:=Q0 r;cases rx;rcases h with ⟨hq,q⟩|⟨hq,q⟩
 ·obtain ⟨mY,r',pl,hz⟩:=I.list hq;have hlen:=r'.length;refine call_tuple_list pl.isList (λ h' kp=>?_) (by simp only [aq] <;> omega);have I1:Inv X m4 σ H { s with heap:=h' }:=I.kept (t':=s.toks) kp;have I2:Inv X m4 σ (upd H h'.objs.size (.tup ys)) { s with heap:=h'.push { cls:=.type "tuple",data:=.seq mY.toArray } } :=
   I1.laid (t':=s.toks) (λ b o e=>aj _ e) (av _) (show ObjOk X.prog X.w _ _ _ (.tup ys) from ⟨hz,mY,r',IsTup.new _ _⟩)
  exact ⟨.ref h'.objs.size,_,I2,rfl,q _ (I1.hok.fresh (av _))⟩
 ·obtain ⟨mY,r',pl,hz⟩:=I.tuple hq;exact call_tuple_same pl ⟨.ref p,H,I,rfl,q⟩
def tyV (K:A0) (T:String) (x:V) (H:Hp):Prop:=match x with
 | .str _=>T="str"
 | .int _=>T="int"
 | .ref p=>(T="list"/\∃ xs,SqL K H p xs)\/(T="tuple"/\∃ o,K.lookup p=some o/\o.cls=.type "tuple"/\o.dict=none) \/
   (T="dict"/\((∃ m9,H p=some (.dK m9))\/∃ m9,H p=some (.dT m9)))\/(T="set"/\∃ S n,H p=some (.set S n))
 | _=>False
theorem zhh {m4:A2} {σ:St} {H:Hp} {s:An} {T:String} {x:V} {v:Am} (I:Inv X m4 σ H s) (r:RelV x v) (ty:tyV X.K T x H) :
  s.TypeIs v T/\∀ a,v=.ref a->∃ ob,s.heap.get? a=some ob/\ob.dict=none:=by
 cases x with
 | str z =>
  obtain ⟨t,rfl⟩:=r;cases (show T="str" from ty);exact ⟨typeIs_str s z t,λ _ e=>nomatch e⟩
 | int i =>
  obtain ⟨t,rfl⟩:=r;cases (show T="int" from ty);exact ⟨typeIs_int s i t,λ _ e=>nomatch e⟩
 | ref p =>
  cases r;rcases ty with ⟨rfl,xs,hq⟩|⟨rfl,o,hk,hc,hd⟩|⟨rfl,hk⟩|⟨rfl,S,n,hk⟩
  ·obtain ⟨mY,_,pl,_⟩:=I.list hq;refine ⟨pl.isList.typeIs,λ a e=>?_⟩;cases e;obtain ⟨o,n,e,c,hd,_⟩:=pl;exact ⟨o,e,hd⟩
  ·refine ⟨⟨o,I.kIn p o hk,hc⟩,λ a e=>?_⟩;cases e;exact ⟨o,I.kIn _ o hk,hd⟩
  ·have z:∃ o,s.heap.get? p=some o/\o.ExactDict:=by
    rcases hk with ⟨m9,hk⟩|⟨m9,hk⟩
    ·obtain ⟨_,_,_,_,o,_,_,e,ex,_⟩:=I.hok p _ hk;exact ⟨o,e,ex⟩
    ·obtain ⟨_,_,_,_,o,_,_,e,ex,_⟩:=I.hok p _ hk;exact ⟨o,e,ex⟩
   obtain ⟨o,e,ex⟩:=z;refine ⟨⟨o,e,ex.1⟩,λ a e2=>?_⟩;cases e2;exact ⟨o,e,ex.2.1⟩
  ·obtain ⟨o,_,_,_,e,ex,_⟩:=I.hok p _ hk;refine ⟨⟨o,e,ex.1⟩,λ a e2=>?_⟩;cases e2;exact ⟨o,e,ex.2.1⟩
 | _=>exact False.elim ty
def tBM (K:A0) (T:String) (r:V->List V->Hp->VK->Prop) (to:TE) (t:TA):TE:=λ σ H Q=>to σ H λ x H1=>tyV K T x H1/\t σ H1 λ xs H2=>r x xs H2 Q
variable {o e:Expr} {es:List Expr} {to:TE} {t:TA} {name:Str} {apos cpos:Pos} {T id:String} {r:V->List V->Hp->VK->Prop}
def qP (pa:PlainAttrs T) (slot:Slot T name id) (hty:typeOf (.builtin id)=pure (.type "method_descriptor")) (hm:MtR X id r) (ho:PE X o to) (ha:PA X (e :: es) t)
  (hbase:attributeBase o name X.env (eval o X.env)=eval o X.env:=by rfl)
  (hfew:((backTo cpos (starEach (e :: es) X.env)).all (λ x=>!x.1) && (backToKw cpos (keywordEach [] X.env)).all (λ x=>x.1.isSome)
   && decide ((e :: es).length + ([]:List Keyword).length + (if ([]:List Keyword).isEmpty then 0 else 1) < 30))=true:=by rfl)
  (hline:(apos.endLine == cpos.line)=true:=by rfl) (hs:starEach (e :: es) X.env=(false,eval e X.env) :: starEach es X.env:=by rfl) (hplain:(backTo cpos (starEach es X.env)).any (·.1)=false:=by rfl) :
  PE X (.Call (.Attribute o name apos) (e :: es) [] cpos) (tBM X.K T r to t):=by
 intro m4 s σ H Q I h;refine wpAny_Call_method_late hbase hfew hline rfl (qC (ho m4 s σ H _ I h) λ v s1 x H1 I1 r1 qq_=>?_);obtain ⟨ty,q1⟩:=qq_;obtain ⟨h1,h2⟩:=zhh I1 r1 ty;refine ⟨T,id,pa,slot,hty,h1,h2,?_⟩;have hA:=ha cpos m4 s1 σ H1 _ I1 q1;rw [hs] at hA ⊢;refine Calls.callWith_builtin (by show (false || (backTo cpos (starEach es X.env)).any (·.1))=false;rw [hplain] <;> rfl) (Calls.evalArgs_plain ?_);exact thn hA λ us s2 ⟨vs,H2,I2,r2,q2⟩=>hm m4 s2 σ H2 x vs v us Q I2 r1 r2 q2
end
def MtM (X:Cx) (id:String) (r:V->List V->Hp->VK->Prop):Prop :=
 ∀ (m4:A2) (s:An) (σ:St) (H:Hp) (x:V) (xs:Ap) (v:Am) (us:A7) (Q:VK),Inv X m4 σ H s->RelV x v->Vals xs us->r x xs H Q ->
  wpAny (model X.prog X.w) X.A (call (.builtin id) (v :: us)) (EP X m4 σ Q) X.xe s
def Vals.one {x:V} {us:A7} (h:Vals [x] us):∃ u,us=[u]/\RelV x u:=by
 cases h with
 | cons r t=>cases t;exact ⟨_,rfl,r⟩
def Vals.two {x y:V} {us:A7} (h:Vals [x,y] us):∃ u v,us=[u,v]/\RelV x u/\RelV y v:=by
 cases h with
 | cons r t =>
  obtain ⟨v,rfl,q⟩:=Vals.one t;exact ⟨_,_,rfl,r,q⟩
theorem Vals.zero:∀ {us:A7},Vals [] us->us=[]
 | _,.nil=>rfl
theorem Vals.eraseIdx:∀ {xs:Ap} {us:A7} (i:Nat),Vals xs us->Vals (xs.eraseIdx i) (us.eraseIdx i)
 | _,_,_,.nil=>.nil
 | _,_,0,.cons _ t=>t
 | _,_,i + 1,.cons r t=>.cons r (Vals.eraseIdx i t)
def Vals.reverse {xs:Ap} {us:A7} (h:Vals xs us):Vals xs.reverse us.reverse:=by
 induction h with
 | nil=>exact .nil
 | cons r t ih=>rw [List.reverse_cons,List.reverse_cons];exact Vals.append ih (.cons r .nil)
theorem Vals.rep {xs:Ap} {us:A7} (h:Vals xs us):∀ k:Nat,Vals (List.replicate k xs).flatten (List.replicate k us).flatten
 | 0=>.nil
 | k + 1=>by
  rw [cI,cI,dF,dF];exact Vals.append h (Vals.rep h k)
theorem Ww {α:Type}:∀ (l:List α) (i:Nat),(l.eraseIdx i).length<=l.length
 | [],_=>av _
 | _ :: _,0=>cK _
 | _ :: r,i + 1=>Nat.succ_le_succ (Ww r i)
theorem WH (mY:A7):∀ (k:Nat) (mZ:A7),
  List.foldl (λ x1 x2=>x1 ++ x2) mZ.toArray (List.replicate k mY.toArray)=(mZ ++ (List.replicate k mY).flatten).toArray
 | 0,mZ=>by simp
 | k + 1,mZ=>by
  have e:mZ.toArray ++ mY.toArray=(mZ ++ mY).toArray:=by simp
  have e2:(mZ ++ mY) ++ (List.replicate k mY).flatten=mZ ++ (List.replicate (k + 1) mY).flatten:=by
   rw [cI,dF,ck]
  rw [<- e2,<- WH mY k (mZ ++ mY),<- e,cI,List.foldl_cons]
section
variable {X:Cx} {m4:A2} {σ:St} {H:Hp} {s:An} {l b:Addr} {xs ys zs:Ap}
def Inv.lset {mY its':A7} {n:Nat} {f:Array Value->Array Value} {t':Nat} (I:Inv X m4 σ H s) (hH:H l=some (.lst xs))
  (e:s.heap.get? l=some { cls:=.type "list",data:=.seq mY.toArray n }) (hf:f mY.toArray=its'.toArray) (hv:Vals ys its') (hz:ys.length<=sizeLine) :
  Inv X m4 σ (upd H l (.lst ys)) { s with heap:=s.heap.update l (Obj.mapSeq f),toks:=t' }:=by
 have q:=PySem.IsL.update e f;rw [hf] at q;refine I.write (x:=l) (e:=l) (by rw [hH];exact trivial) (.inl rfl) (λ b' u hb hu=>(bc s.heap (Obj.mapSeq f) (aX hb)).trans hu) ⟨_,q⟩ ?_;exact ⟨hz,its',_,hv,q⟩
def Inv.lnew {mY:A7} {t':Nat} (I:Inv X m4 σ H s) (hv:Vals ys mY) (hz:ys.length<=sizeLine) :
  Inv X m4 σ (upd H s.heap.objs.size (.lst ys)) { s with heap:=s.heap.push { cls:=.type "list",data:=.seq mY.toArray },toks:=t' } :=
 I.laid (λ _ _ q=>aj _ q) (av _) ⟨hz,mY,0,hv,aC _ rfl⟩
def Inv.fresh (I:Inv X m4 σ H s):H s.heap.objs.size=none:=I.hok.fresh (av _)
def Inv.lstM (I:Inv X m4 σ H s) (hH:H l=some (.lst xs)):xs.length<=sizeLine/\∃ (mY:A7) (n:Nat),Vals xs mY/\xs.length=mY.length/\s.heap.get? l=some { cls:=.type "list",data:=.seq mY.toArray n }:=by
 obtain ⟨z,mY,n,r,e⟩:=I.hok l _ hH;exact ⟨z,mY,n,r,r.length,e⟩
def zaQ {n:Nat} (h:n<=sizeLine):Builtin.List.listTooLong n=false:=by
 unfold Builtin.List.listTooLong;exact aR (by omega)
end
section
variable {X:Cx}
def zgj:V->List V->Hp->VK->Prop:=λ x vs H Q=>∃ l xs y,x=.ref l/\vs=[y]/\H l=some (.lst xs)/\xs.length < sizeLine/\Q .non (upd H l (.lst (xs ++ [y])))
def zU:MtM X "list.append" zgj:=by
 intro m4 s σ H x vs v us Q I rx rv h;obtain ⟨l,xs,y,rfl,rfl,hH,hz,q⟩:=h;cases rx;obtain ⟨u,rfl,ru⟩:=rv.one;obtain ⟨z,mY,n,r,hl,e⟩:=I.lstM hH;refine d9 F.slot_list_append ⟨_,e,rfl⟩ F.entry_list_append (F.args_list_append_2 _ _) (PySem.list_append l mY.toArray n u (by rw [aq];omega)) ⟨e,?_⟩;refine ⟨.non,_,I.lset (its':=mY ++ [u]) hH e (by simp) (r.append (.cons ru .nil)) ?_,rfl,q⟩;rw [aO,eI];omega
def zgg:V->List V->Hp->VK->Prop:=λ x vs H Q=>∃ l b xs zs,x=.ref l/\vs=[.ref b]/\H l=some (.lst xs)/\H b=some (.lst zs)/\xs.length + zs.length<=sizeLine/\Q .non (upd H l (.lst (xs ++ zs)))
def Wt:MtM X "list.extend" zgg:=by
 intro m4 s σ H x vs v us Q I rx rv h;obtain ⟨l,b,xs,zs,rfl,rfl,hH,hB,hz,q⟩:=h;cases rx;obtain ⟨u,rfl,ru⟩:=rv.one;cases ru;obtain ⟨z,mY,n,r,hl,e⟩:=I.lstM hH;obtain ⟨z2,its2,n2,r2,hl2,e2⟩:=I.lstM hB;have hsz:mY.toArray.size + its2.toArray.size<=sizeLine:=by rw [aq,aq];omega
 have hlong:¬ (!mY.toArray.isEmpty && Builtin.List.listTooLong (mY.toArray.size + its2.toArray.size))=true:=by
  rw [zaQ hsz,cC];exact aB
 refine d9 F.slot_list_extend ⟨_,e,rfl⟩ F.entry_list_extend (F.args_list_extend_2 _ _)
  (AutoSeq1.list_extend_list_list_0 l mY.toArray n b its2.toArray n2 hlong (by rw [aq];omega) (by omega)) ⟨e,e2,?_⟩
 refine ⟨.non,_,I.lset (its':=mY ++ its2) hH e (by simp) (r.append r2) ?_,rfl,q⟩;rw [aO];omega
def zhw:V->List V->Hp->VK->Prop:=λ x vs H Q=>∃ l xs i k y,x=.ref l/\vs=[.int i]/\H l=some (.lst xs)/\-(2 ^ 63)<=i/\i < 2 ^ 63/\seqIndex? i xs.length=some k/\xs[k]?=some y/\Q y (upd H l (.lst (xs.eraseIdx k)))
def Xk:MtM X "list.pop" zhw:=by
 intro m4 s σ H x vs v us Q I rx rv h;obtain ⟨l,xs,i,k,y,rfl,rfl,hH,h1,h2,hk,hy,q⟩:=h;cases rx;obtain ⟨u,rfl,ru⟩:=rv.one;obtain ⟨t,rfl⟩:=ru;obtain ⟨z,mY,n,r,hl,e⟩:=I.lstM hH;obtain ⟨w,hw,rw'⟩:=r.get hy;refine d9 F.slot_list_pop ⟨_,e,rfl⟩ F.entry_list_pop (F.args_list_pop_2 _ _)
  (MeetsSeq.list_pop_at l mY.toArray n i t k w (fitsIndex_both h1 h2) (by rw [aq,<- hl];exact hk) (by rw [<- dA];exact hw) (by rw [aq];omega)) ⟨e,?_⟩
 refine ⟨y,_,I.lset (its':=mY.eraseIdx k) hH e ?_ (r.eraseIdx k) ?_,rw',q⟩
 ·show mY.toArray.eraseIdxIfInBounds k=(mY.eraseIdx k).toArray
  rw [List.eraseIdxIfInBounds_toArray]
 ·have:=Ww xs k;omega
def zi9:R2:=λ x y H Q=>∃ l k xs,x=.ref l/\y=.int k/\H l=some (.lst xs)/\-(2 ^ 63)<=k/\k < 2 ^ 63/\xs.length * k.toNat<=sizeLine /\
 ∀ p,H p=none->Q (.ref p) (upd H p (.lst (List.replicate k.toNat xs).flatten))
def zgx {α:Type} (xs:List α) (k:Nat):(List.replicate k xs).flatten.length=k * xs.length:=by
 induction k with
 | zero=>simp
 | succ k ih=>rw [cI,dF,aO,ih,dR,Nat.add_comm]
def zbR:OpR X (binaryOp .Mult) zi9:=by
 intro m4 s σ H x y v u Q I rx ry h;obtain ⟨l,k,xs,rfl,rfl,hH,h1,h2,hz,q⟩:=h;cases rx;obtain ⟨t,rfl⟩:=ry;obtain ⟨z,mY,n,r,hl,e⟩:=I.lstM hH;have hlen:mY.toArray.size * k.toNat<=sizeLine:=by rw [aq,<- hl];exact hz
 have hcap:¬ mY.toArray.size * k.toNat > (2 ^ 63 - 1) / 8:=by
  have:(sizeLine:Nat)<=(2 ^ 63 - 1) / 8:=by decide
  omega
 have hfit:¬ (!Builtin.List.listFitsIndex k)=true:=by
  rw [fitsIndex_both h1 h2];exact aB
 have hlong:¬ Builtin.List.listTooLong (mY.toArray.size * k.toNat)=true:=by
  rw [zaQ hlen];exact aB
 have hnew:List.foldl (λ x1 x2=>x1 ++ x2) #[] (List.replicate (if mY.toArray.isEmpty=true then 0 else k.toNat) mY.toArray)=(List.replicate k.toNat mY).flatten.toArray:=by
  have f0:∀ m:Nat,List.foldl (λ x1 x2=>x1 ++ x2) #[] (List.replicate m mY.toArray)=(List.replicate m mY).flatten.toArray:=λ m=>by
   have:=WH mY m [];rw [List.nil_append] at this;exact this
  rw [f0];cases mY with
  | nil=>simp
  | cons a r'=>rw [ao (by simp)]
 refine wpAny_binaryOp_repeat_ref (T:="list") (U:="int") (by decide) ⟨_,e,rfl⟩ (λ s'=>typeIs_int s' k t) noFill_list_mul F.fills_int_mul F.slot_int_rmul repeat_list F.slot_int_index.lookup
  (d9 F.slot_int_rmul (typeIs_int s k t) F.entry_int_rmul (F.args_int_rmul_2 _ _) (int___rmul___int_list k t l mY.toArray n)
   ⟨e,rfl,⟨_,e,rfl⟩,d9 F.slot_list_mul ⟨_,e,rfl⟩ F.entry_list_mul (F.args_list_mul_2 _ _) (AutoListH.list___mul___list_int_3 l mY.toArray n k t hfit hcap hlong) ⟨e,?_⟩⟩)
 rw [hnew];exact ⟨.ref _,_,I.lnew (t':=s.toks) (r.rep k.toNat) (by rw [zgx,fg];exact hz),rfl,q _ I.fresh⟩
end
section
variable {prog:Af} {w:World} {A:Ao} {E:A3} {s:An}
end
section
variable {X:Cx}
end
end L2
namespace Att
open PySem PySem.W PySem.Calls PyProof.Rows
def Jo {P:Params} {h:Heap}:∀ (ns:A6) (vs:A7),WellAll P h vs (ns.map WData.int)->IntsAre vs ns:=by
 intro ns
 induction ns with
 | nil =>
  intro vs w;rw [map_nil] at w;cases w;exact .nil
 | cons n ns ih =>
  intro vs w;rw [bz] at w;cases w with
  | cons a b =>
   cases a;exact .cons _ _ (ih _ b)
theorem zdt {l:OpenLaw} {n:Nat} (hn:l.most=some n) {P:Params} {h:Heap} {args:List WData} {vals:A7}
  (hpre:l.row.toRowW.claim.pre args=true) (hwl:WellAll P h vals args) :
  ∃ a vs ns,vals=[Value.ref a]/\args=[WData.list (ns.map WData.int)]/\h.get? a=some { cls:=.type "list",data:=.seq vs.toArray }/\IntsAre vs ns/\ns.length<=n:=by
 have hsh:WShape.hasAll [] args [.list .int]=true:=(pre_splitW hpre).1;have hc:l.pre.holds [] { args:=args }=true:=(pre_splitW hpre).2;obtain ⟨d,r,rfl,h1,h2⟩:=hasAllW_cons hsh;obtain rfl:=hasAllW_nil h2;obtain ⟨xs,rfl,h3⟩:=hasW_list h1;obtain ⟨ns,rfl⟩:=items_int h3;have hlen:ns.length<=n:=by
  unfold OpenLaw.pre at hc;have h4:(WTm.not (.lt (.lit (.int (n:Int))) (.len (.arg 0)))).holds [] { args:=[.list (ns.map .int)] }=true:=by
   have h4:=(holds_andW hc).1;rw [hn] at h4;exact h4
  have h5:=condW_of h4 (w_not (w_lt w_lit (w_len_list (w_arg rfl))));rw [af] at h5;refine Nat.le_of_not_lt λ q=>?_;have q':(n:Int) < ((ns.length:Nat):Int):=by omega
  first
   | (rw [aY q'] at h5;exact absurd h5 (by decide))
   | (simp at h5;omega)
 cases hwl with
 | cons w1 w2 =>
  cases w2;cases w1 with
  | list ho hall=>exact ⟨_,_,ns,rfl,rfl,ho,Jo ns _ hall,hlen⟩
def zdK (l:OpenLaw) (args:List WData):l.row.toRowW.claim.post args (.bool true) args=true :=
 postW_of (r:=l.row.toRowW) (X:=(true == true))
  (show WShape.has [] (.bool true) .bool=true by first|rfl|decide|simp [WShape.has,WShape.arms,WShape.armsAll])
  (show (WTm.eq .res (.lit (.bool true))).value [] { args:=args,res:=some (.bool true),after:=args }=some (.bool (true == true)) from w_eq_bool (w_res rfl) w_lit) rfl
def attach_call {l:OpenLaw} {n:Nat} {q:Af} {loose:A8} {XP:(Str->Option Value)->Heap->Prop} {YP:World->Heap->Prop} {d:DefRec}
  (hn:l.most=some n) (hdf:d.params.defaults=[])
  (call:∀ (w:World) (s₀ s₁:An) (mg mb:A4) (fa:Addr) (o:Obj) (pm cd doc:Am) (a:Addr) (vs:A7) (ns:A6),
   Ground q loose [] XP w s₀ mg mb s₁.heap->YP w s₁.heap ->
   s₁.heap.get? fa=some o->o.data=.func (docDef d.name d.params d.body d.scope pm cd doc)->s₁.heap.CodeRec cd d.name->mg d.name=some (.ref fa) ->
   s₁.heap.get? a=some { cls:=.type "list",data:=.seq vs.toArray }->IntsAre vs ns->ns.length<=n->s₁.gens=#[] ->
   codeAny (model l.prog w) callerA (.call (.ref fa) ⟨[.ref a],[]⟩) (λ r s'=>r=.ok (.ret (.bool true))/\OldK s₁.heap s'.heap/\s'.os=s₁.os/\AllBare s'.gens) s₁) :
  WalkO q loose XP YP l.row.toRowW d [] (λ f vs=>PySem.call f vs):=by
 intro w s₀ s₁ mg mb G Y fa o pm cd doc dV kV ho hd hcd hD hmg hg args vals as hpre hlay hrd hwl hlo;obtain rfl:dV=.none:=Dflts.none hD hdf;obtain rfl:kV=.none:=Dflts.noKw hD;obtain ⟨a,vs,ns,rfl,rfl,hobj,hints,hlen⟩:=zdt hn hpre hwl;refine enter_call (c7 (call w s₀ s₁ mg mb fa o pm cd doc a vs ns G Y ho (fd_plain hd) hcd hmg hobj hints hlen hg) λ r s' hq=>?_);obtain ⟨rfl,h2,h3,h4⟩:=hq;exact ⟨.inl ⟨.bool true,.bool true,[],rfl,λ _=>rfl,.bool true,zdK l _,λ _=>⟨List.Pairwise.nil,λ _ hm=>(nomatch hm)⟩⟩,h2,h3,h4⟩
section
variable {prog:Af} {w:World} {A:Ao} {E:A3} {s:An} {K:Frag}
noncomputable def ledger (h:Heap) (L d:Addr):List (Addr × Obj):=(List.range h.objs.size).filterMap λ a=>if a=L\/a=d then none else (h.get? a).map λ o=>(a,o)
end
end Att
namespace L2
open PySem PySem.Spec PyProof.Rows
variable {fd:FuncData}
theorem Wa:∀ {vs:A7} {ns:A6},IntsAre vs ns->Vals (ns.map V.int) vs
 | _,_,.nil=>.nil
 | _,_,.cons n t h=>.cons ⟨t,rfl⟩ (Wa h)
def zij (H:Hp):Prop:=∀ b,H b=none\/∃ o xs,H b=some (.frz o (.lst xs))
theorem zfe {P:Af} {w:World} {K:A0} {mg mb:A4} {CX:CXT} {k:Nat} {fa a:Addr} {x:Str} {sp:Sp} {s₁:An} {vs:A7} {ns:A6}
  (KX:K.In s₁.heap) (hns:s₁.heap.Ns mainGlobals mg) (hb:s₁.heap.Ns builtinsNs mb) (hbb:∀ x:Str,x≠"__name__"->mb x=bootBuiltins x) (hlim:s₁.heap.NoLimit) (hg:s₁.gens=#[])
  (ha:s₁.heap.get? a=some { cls:=.type "list",data:=.seq vs.toArray }) (hi:IntsAre vs ns) (hl:ns.length<=sizeLine) (hr:Room k callerA)
  (F:∀ base:Heap,K.In base->base.Ns mainGlobals mg->FnOk P w K mg base CX k fa fd [x] sp) (hbind:∀ (s:An) (u:Am),BindsTo s fd ⟨[u],[]⟩ [(x,u)])
  (hsp:∀ H:Hp,zij H->SqL K H a (ns.map V.int)->sp [.ref a] H (λ v _=>v=.bl true) λ _ _ _=>False)
  (hCX:∀ H e s',CX [] H s₁ (λ _ _ _=>False) e s'->False) :
  codeAny (model P w) callerA (.call (.ref fa) ⟨[.ref a],[]⟩) (λ r s'=>r=.ok (.ret (.bool true))/\OldK s₁.heap s'.heap/\s'.os=s₁.os/\AllBare s'.gens) s₁:=by
 have rv:=Wa hi;have lenV:=hi.length;have core:∀ H:Hp,zij H->SqL K H a (ns.map V.int)->HOk P w H s₁.heap->(∀ b,H b≠none->b=a)->(H a≠none->K.lookup a=none) ->
   codeAny (model P w) callerA (.call (.ref fa) ⟨[.ref a],[]⟩) (λ r s'=>r=.ok (.ret (.bool true))/\OldK s₁.heap s'.heap/\s'.os=s₁.os/\AllBare s'.gens) s₁:=by
  intro H hO hS hok hA hK;have base_of:∀ {b:Addr} {o:Obj},s₁.heap.get? b=some o->H b=none->(VL s₁.heap H).get? b=some o:=λ e n=>zfs e n;have noA:∀ {b:Addr} {o:Obj} {es:Array DictEntry} {ep:Nat},s₁.heap.get? b=some o->o.data=.dict es ep->H b=none:=λ {b o es ep} e d=>by
   cases q:H b with
   | none=>rfl
   | some u =>
    have e':b=a:=hA b (by rw [q];simp);subst e';rw [ha] at e;cases e;have d':Data.seq vs.toArray _=Data.dict es ep:=d;cases d'
  have nsK:∀ {b:Addr} {m:A4},s₁.heap.Ns b m->(VL s₁.heap H).Ns b m:=λ {b m} ⟨o,es,ep,e,d,r⟩=>⟨o,es,ep,base_of e (noA e d),d,r⟩;have hKb:K.In (VL s₁.heap H):=λ b o e=>base_of (KX b o e) (by
   cases q:H b with
   | none=>rfl
   | some u =>
    have e':b=a:=hA b (by rw [q];simp);subst e';rw [hK (by rw [q];simp)] at e;cases e)
  have hM:Mod K mg (VL s₁.heap H):=⟨hKb,nsK hns,⟨mb,nsK hb,hbb⟩,let ⟨mc,h1,h2⟩:=hlim;⟨mc,nsK h1,h2⟩⟩;have e0:Env0 P w K mg (VL s₁.heap H) callerA [] s₁ H:=⟨rfl,hM,λ b o e=>zgt e,Nat.le_of_eq (zdZ _ _),trivial,λ b hb=>absurd (show b∈([]:Ab) from hb) (by simp),hok,.of_eq hg⟩;refine c7 ((F _ hKb (nsK hns)).run callerA [] s₁ H ⟨[.ref a],[]⟩ [.ref a] [.ref a] _ _ hr e0 (hbind s₁ (.ref a)) (.cons rfl .nil) (hsp H hO hS)) λ r s' h=>?_;cases r with
  | error e=>exact (hCX H e s' h).elim
  | ok fl =>
   cases fl with
   | next=>exact False.elim h
   | brk=>exact False.elim h
   | cont=>exact False.elim h
   | ret u =>
    obtain ⟨v,H',os,bare,un,hok',r',q⟩:=h;have q':v=.bl true:=q;subst q';obtain rfl:u=Value.bool true:=r';refine ⟨rfl,OldK.of_keep λ b o e=>?_,os,bare⟩;cases q:H b with
    | none=>exact un.keep b o e q (by intro z;exact absurd (show b∈([]:Ab) from z) (by simp)) (by simp)
    | some u =>
     rcases hO b with z|⟨ob,xs,z⟩
     ·rw [q] at z;cases z
     ·have z2:=un.frzs b ob _ z;obtain ⟨e1,_⟩:=hok b _ z;obtain ⟨e2,_⟩:=hok' b _ z2;rw [e] at e1;cases e1;exact e2
 cases hk:K.lookup a with
 | some o =>
  have e:=KX a o hk;rw [ha] at e;cases e;refine core (λ _=>none) (λ _=>.inl rfl) (.inr ⟨_,vs.toArray,_,hk,rfl,rfl,rfl,by rw [aq,lenV];exact hl,by simpa using rv⟩) (λ b u z=>by have z':(none:Option HO)=some u:=z;cases z') (λ b z=>absurd rfl z) λ z=>absurd rfl z
 | none =>
  refine core (λ b=>if b=a then some (.frz { cls:=.type "list",data:=.seq vs.toArray } (.lst (ns.map V.int))) else none) (λ b=>?_) (.inl (.inr ⟨{ cls:=.type "list",data:=.seq vs.toArray },ap rfl⟩)) (λ b u z=>?_) (λ b z=>?_) λ _=>hk
  ·by_cases hb:b=a
   ·exact .inr ⟨_,_,ap hb⟩
   ·exact .inl (ao hb)
  ·by_cases hb:b=a
   ·have z':=(ap hb).symm.trans z;cases z';subst hb;exact ⟨ha,by rw [af];exact hl,vs,_,rv,ha⟩
   ·have z':=(ao hb).symm.trans z;cases z'
  ·by_cases hb:b=a
   ·exact hb
   ·exact absurd (ao hb) z
def walk_of {l:PySem.W.OpenLaw} {n k:Nat} {q:Af} {loose:A8} {XP:(Str->Option Value)->Heap->Prop} {YP:World->Heap->Prop} {d:DefRec} {K:Params->PySem.W.Frag} {CX:World->CXT} {sp:World->Sp} {x:Str}
  (hn:l.most=some n) (hn2:n<=sizeLine) (hdf:d.params.defaults=[]) (hr:Room k callerA)
  (hY:∀ (w:World) (h:Heap),YP w h->(K w.params).In h)
  (F:∀ (w:World) (mg:A4) (fa:Addr) (h:Heap),(K w.params).In h->h.Ns mainGlobals mg->mg d.name=some (.ref fa) ->
   ∃ fd:FuncData,(∀ (s:An) (u:Am),BindsTo s fd ⟨[u],[]⟩ [(x,u)]) /\
    ∀ base:Heap,(K w.params).In base->base.Ns mainGlobals mg->FnOk l.prog w (K w.params) mg base (CX w) k fa fd [x] (sp w))
  (hsp:∀ (w:World) (H:Hp) (a:Addr) (ns:A6),ns.length<=n->zij H->SqL (K w.params) H a (ns.map V.int)->sp w [.ref a] H (λ v _=>v=.bl true) λ _ _ _=>False)
  (hCX:∀ (w:World) (H:Hp) (s:An) (e:Am) (s':An),CX w [] H s (λ _ _ _=>False) e s'->False) :
  PySem.W.WalkO q loose XP YP l.row.toRowW d [] (λ f vs=>PySem.call f vs):=by
 refine Att.attach_call hn hdf λ w s₀ s₁ mg mb fa o pm cd doc a vs ns G Y ho hd hcd hmg hobj hints hlen hg=>?_;have KX:=hY w _ Y;obtain ⟨fd,hb,hF⟩:=F w mg fa _ KX G.T.g hmg;exact zfe KX G.T.g G.T.b G.T.builtins G.T.nolimit hg hobj hints (a8 hlen hn2) hr hF hb (λ H hO hS=>hsp w H a ns hlen hO hS) λ H e s'=>hCX w H s₁ e s'
noncomputable def zN (s:Stmt) (j:Nat):Stmt:=match s with
 | .ClassDef _ _ _ body _ _ _ _ _ _ _=>body.getD j (.Pass ⟨0,0,0,0⟩)
 | _=>.Pass ⟨0,0,0,0⟩
noncomputable def zW (s:Stmt):Arguments:=match s with
 | .FunctionDef _ a _ _ _ _ _ _ _ _=>a
 | _=>{ posonlyargs:=[],args:=[],vararg:=none,kwonlyargs:=[],kw_defaults:=[],kwarg:=none,defaults:=[] }
noncomputable def zO (s:Stmt):List Stmt:=match s with
 | .FunctionDef _ _ b _ _ _ _ _ _ _=>b
 | _=>[]
noncomputable def zd (s:Stmt):Scope:=match s with
 | .FunctionDef _ _ _ _ _ _ sc _ _ _=>sc
 | _=>{ kind:=.function,names:=[],isGenerator:=false,isCoroutine:=false }
abbrev CX0:CXT:=λ _ _ _ _ _ _=>False
structure Fun (K:A0) (x qual:Str) (st:Stmt) (f:Addr) (fd:FuncData):Prop where
 ex:∃ (oc:Am) (od:Aa) (kV doc pm:Am) (an:Aa) (cdv ct:Am) (osl:Ae),
  fd=fnOf x qual (zW st) (zO st) (zd st) .none kV doc pm an cdv ct/\K.lookup f=some ⟨oc,od,.func fd,osl⟩/\codeIn K cdv qual=true
 kp:keepIn K (.ref f)=true
section
variable {P:Af} {w:World} {K:A0} {mg:A4} {base:Heap}
def Fun.ok {x qual:Str} {st:Stmt} {f:Addr} {N ps:A8} {k:Nat} {sp:Sp} (F:Fun K x qual st f fd) (S:FnScope N ps (zd st)) (len:∀ vs H Q E,sp vs H Q E->vs.length=ps.length)
  (hbody:∀ (cdv:Am) (A:Ao) (outer:List Env) (s:An) (H:Hp) (vs:Ap) (Q:VK) (E:XK),Room k (A.deeper (envOfC qual (zd st) s.heap.objs.size f cdv))->sp vs H Q E ->
   ∃ t,PSs (Jp CX0 P w K mg base N qual (zd st) f cdv A outer s H E).nox (zO st) t/\t { nx:=λ _ H'=>Q .non H',rt:=Q } (start N vs) H):FnOk P w K mg base CX0 (k + 1) f fd ps sp:=by
 obtain ⟨oc,od,kV,doc,pm,an,cdv,ct,osl,rfl,lk,hcd⟩:=F.ex;refine zfx lk hcd S len λ A outer s H vs Q E hr hsp=>?_;obtain ⟨t,h,q⟩:=hbody cdv A outer s H vs Q E hr hsp;exact ⟨t,h.nox,q⟩
def Fun.binds {x qual:Str} {st:Stmt} {f:Addr} {ps:A8} (F:Fun K x qual st f fd)
  (h:∀ (kV doc pm:Am) (an:Aa) (cdv ct:Am) (us:A7),us.length=ps.length->bindArgs (fnOf x qual (zW st) (zO st) (zd st) .none kV doc pm an cdv ct) ⟨us,[]⟩=pure (ps.zip us)):Binds K fd ps []:=by
 obtain ⟨oc,od,kV,doc,pm,an,cdv,ct,osl,rfl,lk,hcd⟩:=F.ex;exact .all (h kV doc pm an cdv ct)
def vh {x qual:Str} {st:Stmt} {f:Addr} {oc:Am} {od an:Aa} {osl:Ae} {kV doc pm cdv ct:Am} (l:K.lookup f=some ⟨oc,od,.func (fnOf x qual (zW st) (zO st) (zd st) .none kV doc pm an cdv ct),osl⟩)
  (c:codeIn K cdv qual=true) (k:keepIn K (.ref f)=true):Fun K x qual st f (fnOf x qual (zW st) (zO st) (zd st) .none kV doc pm an cdv ct):=⟨⟨oc,od,kV,doc,pm,an,cdv,ct,osl,rfl,l,c⟩,k⟩
end
def zcR {A:Ao} {k:Nat} (hr:Room k A):A.units + 1 < cLine:=cr (fQ (by decide:1<=64) _) hr.units
def zm {n:Nat} (h:n<=1000):n < sizeLine:=cr h (by decide)
section
variable {X:Cx}
end
def zZ {c A B:Prop} [Decidable c] (h1:c->A) (h2:¬ c->B):if c then A else B:=by
 by_cases h:c
 ·rw [ap h];exact h1 h
 ·rw [ao h];exact h2 h
def Same (H H':Hp):Prop:=∀ b o,H b=some o->H' b=some o
def Same.refl (H:Hp):Same H H:=λ _ _ h=>h
def Same.trans {H H1 H2:Hp} (a:Same H H1) (b:Same H1 H2):Same H H2:=λ c o h=>b c o (a c o h)
def Same.free {H H':Hp} (e:Same H H') {l:Addr} (h:H' l=Option.none):H l=Option.none:=by
 cases q:H l with
 | none=>rfl
 | some o =>
  rw [e l o q] at h;cases h
def Same.seq {K:A0} {H H':Hp} {a:Addr} {xs:Ap} (e:Same H H') (h:SqL K H a xs):SqL K H' a xs:=by
 rcases h with (h|⟨o,h⟩)|h
 ·exact .inl (.inl (e _ _ h))
 ·exact .inl (.inr ⟨o,e _ _ h⟩)
 ·exact .inr h
end L2
set_option maxHeartbeats 4000000
namespace L2
open PySem PySem.Spec PyProof.Rows
variable {K:A0} {H:Hp} {P:Af} {w:World} {base:Heap} {s:An} {Q:Ag} {cls:Am} {sp:Sp} {mg:A4} {ps:A8} {oe:Obj} {m4:A2} {x:Str}
abbrev GK:=Value->St->Hp->Prop
structure Exc (g h:Heap) (H:Hp) (pn:A2) (a:Addr) (cls:Am):Prop where
 ex:∃ (oe:Obj) (vs:Ac) (T:Addr) (oT:Obj) (ts:Ac),h.get? a=some oe/\oe.cls=cls/\oe.dict=none/\oe.data=.fields vs/\vs[1]?=some (.ref T)/\T≠a /\
  h.get? T=some oT/\oT.data=.fields ts/\ts[3]?=some .none/\g.get? T=none/\H T=none/\∀ p∈pn,p.1≠T
 ga:g.get? a=none
 Ha:H a=none
 pa:∀ p∈pn,p.1≠a
def ObjOk.there {h:Heap} {a:Addr} {o:HO} (x:ObjOk P w H h a o):∃ ob,h.get? a=some ob:=by
 cases o with
 | lst xs=>obtain ⟨_,_,_,_,e⟩:=x;exact ⟨_,e⟩
 | tup xs=>obtain ⟨_,_,_,ob,e,_⟩:=x;exact ⟨_,e⟩
 | dK m9=>obtain ⟨_,_,_,_,o,_,_,e,_⟩:=x;exact ⟨_,e⟩
 | dT m9=>obtain ⟨_,_,_,_,o,_,_,e,_⟩:=x;exact ⟨_,e⟩
 | set S n=>obtain ⟨o,_,_,_,e,_⟩:=x;exact ⟨_,e⟩
 | ins C dx fs=>obtain ⟨_,_,_,e,_⟩:=x;exact ⟨_,e⟩
 | own y=>obtain ⟨_,e⟩:=x;exact ⟨_,e⟩
 | xd fs=>obtain ⟨_,⟨_,_,_,e,_⟩,_⟩:=x;exact ⟨_,e⟩
 | rng lo hi=>obtain ⟨_,_,_,e⟩:=x;exact ⟨_,e⟩
 | frz ob u=>obtain ⟨e,_⟩:=x;exact ⟨_,e⟩
 | tbl ps=>exact ⟨_,(show h.get? a=some _ from x)⟩
 | met f y=>exact ⟨_,(show h.get? a=some _ from x)⟩
 | ext φ=>obtain ⟨_,⟨_,e⟩,_⟩:=x;exact ⟨_,e⟩
section
variable {M:Model} {A:Ao} {E:A3} {s:An}
def WJ {env:Env} {outer:List Env} {L e:Addr} {vs:Ac} {head:Am} {hadNext:Bool}
  (hfr:A.frames=some (env :: outer)) (hl:s.heap.FunFrames base (env :: outer)) (hf:env.frame=some L) (he:s.heap.get? e=some oe) (hd:oe.data=.fields vs) (hsz:1 < vs.size)
  (h:∀ h' T,(∀ b o,b ∉ (env :: outer).filterMap (·.frame)->b≠e->s.heap.get? b=some o->h'.get? b=some o)->(∀ b o,b≠e->s.heap.get? b=some o->∃ sl,h'.get? b=some { o with slots:=sl }) ->
   s.heap.get? T=none->T≠e->h'.get? e=some (oe.mapFields (·.setIfInBounds 1 (.ref T)))->(∃ oT ts,h'.get? T=some oT/\oT.data=.fields ts/\ts[3]?=some .none)->Q () { s with heap:=h' }) :
  wpAny M A (do let a <- frameOf env;let pl <- entryPlaceOf L hadNext;let b <- EntryCells.newEntry head a .none (rawInt L) .none pl;setField (.ref e) 1 b) (λ _ s'=>wpAny M A (setFlight (.ref e) none) Q E s') E s:=by
 have hene:e ∉ (env :: outer).filterMap (·.frame):=λ hm=>by
  obtain ⟨_,o,ho,hnf⟩:=hl.mem hm;rw [he] at ho;injection ho with ho;subst ho;exact hnf vs hd
 refine ai (wpAny_frameOf_fun hfr hl hf λ h₁ hs₁=>?_);refine ai (wpAny_entryPlaceOf λ pl hpl=>?_);unfold EntryCells.newEntry newFields;refine ai (dl ?_ (hpl.sizeOk5 _ _ _ _ _));have he₁:h₁.get? e=some oe:=(hs₁.2.1 e hene).trans he;have he₂:=aj (h:=h₁) { cls:=.type "traceback",dict:=none,data:=.fields ([head,.ref L,.none,rawInt L,.none] ++ (if pl.isEmpty then List.replicate 6 Value.none else pl)).toArray } he₁;refine c9 he₂ hd hsz ?_;have hTe:h₁.objs.size≠e:=dh (au he₁);have hd₃:=bh hd (·.setIfInBounds 1 (Value.ref h₁.objs.size));have he₃:=bO (Obj.mapFields (·.setIfInBounds 1 (Value.ref h₁.objs.size))) he₂ (b9 hd₃);have hT₃:=(bc (h₁.push { cls:=.type "traceback",dict:=none,data:=.fields ([head,.ref L,.none,rawInt L,.none] ++ (if pl.isEmpty then List.replicate 6 Value.none else pl)).toArray })
  (Obj.mapFields (·.setIfInBounds 1 (Value.ref h₁.objs.size))) (aX hTe)).trans (aC h₁ rfl)
 unfold setFlight;refine ai (bd he₃ hd₃ (x:=.ref h₁.objs.size) (by simp [hsz]) ?_);rw [ap (show (Value.ref h₁.objs.size != Value.none)=true from by simp)];refine c9 hT₃ rfl (by simp only [aq,aO,bF,fz] <;> omega) ?_;have keep:∀ b o,b≠e->h₁.get? b=some o ->
   (((h₁.push { cls:=.type "traceback",dict:=none,data:=.fields ([head,.ref L,.none,rawInt L,.none] ++ (if pl.isEmpty then List.replicate 6 Value.none else pl)).toArray }).update e (Obj.mapFields (·.setIfInBounds 1 (Value.ref h₁.objs.size)))).update h₁.objs.size
    (Obj.mapFields (·.setIfInBounds 3 ((none:Aa).elim Value.none λ f=>rawInt f)))).get? b=some o:=λ b o hbe hb=>by
  have hbT:h₁.objs.size≠b:=dh (au hb);rw [bc _ _ hbT,bc _ _ (aX hbe)];exact aj _ hb
 refine h _ h₁.objs.size (λ b o hb hbe q=>keep b o hbe ((hs₁.2.1 b hb).trans q)) (λ b o hbe q=>?_) (Heap.get?_none_of_le (by rw [hs₁.1];exact av _)) hTe ?_ ?_
 ·obtain ⟨sl,hs⟩:=hs₁.2.2 b o q;exact ⟨sl,keep b _ hbe hs⟩
 ·rw [bc _ _ hTe];exact he₃
 ·exact ⟨_,_,bO _ hT₃ (b9 (bh rfl _)),bh rfl _,by first|(simp;done)|(rcases hpl with rfl|⟨_,_,_,_,_,_,_,rfl⟩ <;> simp)⟩
def Wx {env:Env} {outer:List Env} {L e:Addr} {vs:Ac} {ch:Ab}
  (hfr:A.frames=some (env :: outer)) (hl:s.heap.FunFrames base (env :: outer)) (hf:env.frame=some L) (he:s.heap.get? e=some oe) (hd:oe.data=.fields vs)
  (h1:(vs[1]?=some .none/\ch=[e])\/∃ T oT ts,vs[1]?=some (.ref T)/\T≠e/\s.heap.get? T=some oT/\oT.data=.fields ts/\ts[3]?=some .none/\ch=[e,T])
  (h:∀ h' T,(∀ b o,b ∉ (env :: outer).filterMap (·.frame)->b ∉ ch->s.heap.get? b=some o->h'.get? b=some o)->(∀ b o,b ∉ ch->s.heap.get? b=some o->∃ sl,h'.get? b=some { o with slots:=sl }) ->
   (∀ b∈ch,∃ o,h'.get? b=some o)->s.heap.get? T=none->T≠e->h'.get? e=some (oe.mapFields (·.setIfInBounds 1 (.ref T)))->(∃ oT ts,h'.get? T=some oT/\oT.data=.fields ts/\ts[3]?=some .none)->Q () { s with heap:=h' }) :
  wpAny M A (noteFrame (.ref e) env) (λ _ s'=>wpAny M A (setFlight (.ref e) none) Q E s') E s:=by
 rcases h1 with ⟨h1,rfl⟩|⟨T,oT,ts,h1,hTe,hT,hdT,h3,rfl⟩
 ·unfold noteFrame;simp only [hf];refine ai (bd he hd h1 ?_);rw [ao (by decide)];refine WJ hfr hl hf he hd (bE.mp h1).1 λ h' T k1 k2 k3 k4 k5 k6=>?_;refine h h' T (λ b o hb hc q=>k1 b o hb (λ z=>hc (by simp [z])) q) (λ b o hc q=>k2 b o (λ z=>hc (by simp [z])) q) (λ b hb=>?_) k3 k4 k5 k6;obtain rfl:b=e:=by simpa using hb
  exact ⟨_,k5⟩
 ·unfold noteFrame;simp only [hf];refine ai (bd he hd h1 ?_);rw [ap (show (Value.ref T != Value.none)=true from by simp)];refine ai (bd hT hdT h3 ?_);rw [ao (show ¬ ((Value.none == rawInt L)=true) from by simp [rawInt])];refine ai (c9 hT hdT (bE.mp h3).1 ?_);have other:∀ b,b≠T->(s.heap.update T (Obj.mapFields (·.setIfInBounds 3 Value.none))).get? b=s.heap.get? b:=λ b hb=>bc _ _ (aX hb);have noRecord:∀ b o,s.heap.get? b=some o->(∀ vs,o.data≠.fields vs)->b≠T:=λ b o hb hnf q=>by
   rw [q,hT] at hb;injection hb with hb;subst hb;exact hnf ts hdT
  have hT':=bO (Obj.mapFields (·.setIfInBounds 3 Value.none)) hT (b9 (bh hdT _));refine WJ hfr (hl.of_keeps λ b o hb hnf=>⟨o,(other b (noRecord b o hb hnf)).trans hb,rfl⟩) hf ((other e (aX hTe)).trans he) hd (bE.mp h1).1 λ h' T' k1 k2 k3 k4 k5 k6=>?_;have hTT:T'≠T:=λ z=>by rw [z,hT'] at k3;cases k3
  refine h h' T' (λ b o hb hc q=>k1 b o hb (λ z=>hc (by simp [z])) ((other b (λ z=>hc (by simp [z]))).trans q)) (λ b o hc q=>k2 b o (λ z=>hc (by simp [z])) ((other b (λ z=>hc (by simp [z]))).trans q)) (λ b hb=>?_) ((other T' hTT).symm.trans k3) k4 k5 k6;rcases ax.mp hb with rfl|hb
  ·exact ⟨_,k5⟩
  ·obtain rfl:b=T:=by simpa using hb
   obtain ⟨sl,q⟩:=k2 b _ hTe hT';exact ⟨_,q⟩
end
section
variable {X:Cx} {m4:A2} {σ:List Aq} {H:Hp} {s:An} {h':Heap}
def Inv.stepx {ch:Ab} (I:Inv X m4 σ H s)
  (hch:∀ b∈ch,X.s₀.heap.get? b=none/\H b=none/\∀ p∈X.pn ++ m4,p.1≠b) (hrec:∀ b∈ch,∃ o vs,s.heap.get? b=some o/\o.data=.fields vs)
  (keep:∀ b o,b ∉ frs X.stack->b ∉ ch->s.heap.get? b=some o->h'.get? b=some o)
  (slot:∀ b o,b ∉ ch->s.heap.get? b=some o->∃ sl,h'.get? b=some { o with slots:=sl }) (there:∀ b∈ch,∃ o,h'.get? b=some o):Inv X m4 σ H { s with heap:=h' }:=by
 have neL:∀ b∈ch,b≠X.env.locals:=λ b hb z=>by
  obtain ⟨o,vs,ho,hd⟩:=hrec b hb;obtain ⟨m,⟨o',es,ep,ho',hd',_⟩,_⟩:=I.loc;rw [z,ho'] at ho;cases ho;rw [hd'] at hd;cases hd
 have neC:∀ b∈ch,∀ x c,X.env.cells.lookup x=some c->c≠b:=λ b hb x c e z=>by
  obtain ⟨o,vs,ho,hd⟩:=hrec b hb;obtain ⟨v,o',ho',hd'⟩:=I.cell x c e;rw [z,ho] at ho';cases ho';rw [hd] at hd';cases hd'
 have nch:∀ b o,X.s₀.heap.get? b=some o->b ∉ ch:=λ b o e hb=>by rw [(hch b hb).1] at e;cases e
 have trk:∀ b u,H b=some u->b ∉ ch/\b ∉ frs X.stack:=λ b u e=>⟨(λ hb=>by rw [(hch b hb).2.1] at e;cases e),(λ hb=>by rw [I.stkFree b hb] at e;cases e)⟩;have nfs:∀ b,b ∉ X.fs->b≠X.env.locals->b ∉ frs X.stack:=λ b h1 h2 z=>(ax.mp (I.stkSub b z)).elim h2 h1;have ltL:∀ b o,X.s₀.heap.get? b=some o->b≠X.env.locals:=λ b o e=>aH (aG (au e) I.ok.above);have cellK:∀ x c,X.env.cells.lookup x=some c->∀ v,s.heap.IsCell c v->h'.IsCell c v:=λ x c e v ⟨o,ho,hd⟩=>by
  obtain ⟨sl,q⟩:=slot c o (λ z=>neC c z x c e rfl) ho;exact ⟨_,q,hd⟩
 have hok:HOk X.prog X.w H h':=λ b u e=>(I.hok b u e).stay (λ c v hc q=>by
  have hcH:∃ u',H c=some u':=by
   rcases hc with rfl|z
   ·exact ⟨_,e⟩
   ·exact ⟨_,z⟩
  obtain ⟨u',hu⟩:=hcH;exact keep c v (trk c u' hu).2 (trk c u' hu).1 q) (λ _ q=>q) λ _ _ q=>q
 refine ⟨I.ok,I.os,I.bare,⟨λ b o e n hb hx=>?_,λ b o e n hb hx=>?_,I.base.free,λ b o e hx=>?_,I.base.tups,I.base.frzs,I.base.tbls⟩,?_,λ x c e=>?_,I.free,I.freeC,λ p hp=>?_,hok,I.len⟩
 ·exact keep b o (nfs b hb (ltL b o e)) (nch b o e) (I.base.keep b o e n hb hx)
 ·obtain ⟨sl,e1⟩:=I.base.slot b o e n hb hx;obtain ⟨sl',e2⟩:=slot b _ (nch b o e) e1;exact ⟨sl',e2⟩
 ·obtain ⟨o',e1⟩:=I.base.there b o e hx;obtain ⟨sl',e2⟩:=slot b _ (nch b o e) e1;exact ⟨_,e2⟩
 ·obtain ⟨m,⟨o,es,ep,ho,r⟩,hl⟩:=I.loc;obtain ⟨sl,q⟩:=slot _ o (λ z=>neL _ z rfl) ho;refine ⟨m,⟨_,es,ep,q,r⟩,λ i x v e1 e2 e3=>?_⟩;obtain ⟨u,r',l⟩:=hl i x v e1 e2 e3;refine ⟨u,r',?_⟩;rcases l with l|⟨k,c,e,z⟩
  ·exact .inl l
  ·exact .inr ⟨k,c,e,cellK x c e _ z⟩
 ·obtain ⟨v,z⟩:=I.cell x c e;exact ⟨v,cellK x c e v z⟩
 ·obtain ⟨e,n,ne,nf,d⟩:=I.pin p hp;exact ⟨keep p.1 p.2 (nfs _ nf ne) (λ z=>(hch p.1 z).2.2 p hp rfl) e,n,ne,nf,d⟩
theorem Wy {a:Addr} {vs:Ac} {E:A3} (I:Inv X m4 σ H s) (hst:X.stack=X.env :: X.outer) (hfr:X.env.frame=some X.env.locals) (hex:X.ex=[])
  (he:s.heap.get? a=some oe) (hdict:oe.dict=none) (hd:oe.data=.fields vs) (ga:X.s₀.heap.get? a=none) (Ha:H a=none) (hpa:∀ p∈X.pn ++ m4,p.1≠a)
  (h1:vs[1]?=some .none\/∃ T oT ts,vs[1]?=some (.ref T)/\T≠a/\s.heap.get? T=some oT/\oT.data=.fields ts/\ts[3]?=some .none/\X.s₀.heap.get? T=none/\H T=none/\∀ p∈X.pn ++ m4,p.1≠T)
  (hQ:∀ s',Inv X m4 σ H s'->Exc X.s₀.heap s'.heap H (X.pn ++ m4) a oe.cls->Q () s') :
  wpAny (model X.prog X.w) X.A (noteFrame (.ref a) X.env) (λ _ s'=>wpAny (model X.prog X.w) X.A (setFlight (.ref a) none) Q E s') E s:=by
 have hfs:=I.ok.frames;have hFF:=I.stack;rw [hst] at hfs hFF;have hS:frs X.stack=(X.env :: X.outer).filterMap (·.frame):=by rw [hst];rfl
 have fin:∀ (ch:Ab),(∀ b∈ch,X.s₀.heap.get? b=none/\H b=none/\∀ p∈X.pn ++ m4,p.1≠b)->(∀ b∈ch,∃ o vs,s.heap.get? b=some o/\o.data=.fields vs)->a∈ch ->
   ∀ h' T,(∀ b o,b ∉ (X.env :: X.outer).filterMap (·.frame)->b ∉ ch->s.heap.get? b=some o->h'.get? b=some o)->(∀ b o,b ∉ ch->s.heap.get? b=some o->∃ sl,h'.get? b=some { o with slots:=sl }) ->
   (∀ b∈ch,∃ o,h'.get? b=some o)->s.heap.get? T=none->T≠a->h'.get? a=some (oe.mapFields (·.setIfInBounds 1 (.ref T)))->(∃ oT ts,h'.get? T=some oT/\oT.data=.fields ts/\ts[3]?=some .none)->Q () { s with heap:=h' }:=by
  intro ch hch hrec ha h' T k1 k2 k3 k4 k5 k6 k7;have I':=I.stepx (h':=h') hch hrec (λ b o hb hc q=>k1 b o (by rw [<- hS];exact hb) hc q) k2 k3;refine hQ _ I' ⟨?_,ga,Ha,hpa⟩;obtain ⟨oT,ts,q1,q2,q3⟩:=k7;have hsz:1 < vs.size:=by
   rcases h1 with z|⟨_,_,_,z,_⟩ <;> exact (bE.mp z).1
  refine ⟨_,_,T,oT,ts,k6,Obj.cls_mapFields _ _,by obtain ⟨c,d,dt,sl⟩:=oe;cases dt <;> exact hdict,bh hd _,by simp [hsz],k5,q1,q2,q3,?_,?_,λ p hp z=>?_⟩
  ·cases e:X.s₀.heap.get? T with
   | none=>rfl
   | some o =>
    obtain ⟨o',e'⟩:=I.base.there T o e (by rw [hex];simp);rw [k4] at e';cases e'
  ·cases e:H T with
   | none=>rfl
   | some u =>
    obtain ⟨o',e'⟩:=(I.hok T u e).there;rw [k4] at e';cases e'
  ·have:=(I.pin p hp).1;rw [z,k4] at this;cases this
 rcases h1 with h1|⟨T,oT,ts,h1,hTa,hT,hdT,h3,gT,HT,pT⟩
 ·refine Wx (ch:=[a]) hfs hFF hfr he hd (.inl ⟨h1,rfl⟩) (fin [a] (λ b hb=>?_) (λ b hb=>?_) (by simp))
  ·obtain rfl:b=a:=by simpa using hb
   exact ⟨ga,Ha,hpa⟩
  ·obtain rfl:b=a:=by simpa using hb
   exact ⟨oe,vs,he,hd⟩
 ·refine Wx (ch:=[a,T]) hfs hFF hfr he hd (.inr ⟨T,oT,ts,h1,hTa,hT,hdT,h3,rfl⟩) (fin [a,T] (λ b hb=>?_) (λ b hb=>?_) (by simp))
  ·rcases ax.mp hb with rfl|hb
   ·exact ⟨ga,Ha,hpa⟩
   ·obtain rfl:b=T:=by simpa using hb
    exact ⟨gT,HT,pT⟩
  ·rcases ax.mp hb with rfl|hb
   ·exact ⟨oe,vs,he,hd⟩
   ·obtain rfl:b=T:=by simpa using hb
    exact ⟨oT,ts,hT,hdT⟩
end
def JG (X:Cx) (G:GK) (e:Am) (s:An):Prop:=∃ a cls σ H,e=Value.ref a/\Inv X [] σ H s/\Exc X.s₀.heap s.heap H X.pn a cls/\G cls σ H
def xeG (X:Cx) (G:GK) (e:Am) (s:An):Prop:=wpAny (model X.prog X.w) X.A (noteFrame e X.env) (λ _ s'=>wpAny (model X.prog X.w) X.A (setFlight e none) (λ _ s''=>JG X G e s'') (λ _ _=>False) s') (λ _ _=>False) s
noncomputable abbrev Cx.exg (X:Cx) (G:GK):Cx:=X.wish (xeG X G)
structure Bod (X:Cx):Prop where
 st:X.stack=X.env :: X.outer
 fr:X.env.frame=some X.env.locals
 ex:X.ex=[]
def qI {X:Cx} {G:GK}:PassesOwn (model X.prog X.w) X.A X.env (xeG X G):=PassesOwn.looking
def Inv.nopins {X:Cx} {σ:St} (I:Inv X m4 σ H s):Inv X [] σ H s:=I.pins_of λ p hp=>absurd hp (by simp)
def Exc.less {g h:Heap} {pn pn':A2} {a:Addr} (x:Exc g h H pn a cls) (hp:∀ p∈pn',p∈pn):Exc g h H pn' a cls:=by
 obtain ⟨⟨oe,vs,T,oT,ts,h1,h2,h3,h4,h5,h6,h7,h8,h9,h10,h11,h12⟩,ga,Ha,pa⟩:=x;exact ⟨⟨oe,vs,T,oT,ts,h1,h2,h3,h4,h5,h6,h7,h8,h9,h10,h11,λ p q=>h12 p (hp p q)⟩,ga,Ha,λ p q=>pa p (hp p q)⟩
def CXr (P:Af) (w:World):CXT:=λ outer H s E e s'=>∃ a cls H',e=Value.ref a/\s'.os=s.os/\AllBare s'.gens/\Un (frs outer) [] H H' s.heap s'.heap/\HOk P w H' s'.heap /\
 Exc s.heap s'.heap H' [] a cls/\E cls none H'
section
variable {X:Cx} {m4:A2} {σ:St} {H:Hp} {s:An} {G:GK}
def QZ {e:Am} {s':An} (B:Bod X) (I:Inv X m4 σ H s) (h:CXr X.prog X.w X.stack H s (λ cls _ H'=>G cls σ H') e s'):xeG X G e s':=by
 obtain ⟨a,cls,H',rfl,os,bare,un,hok,⟨⟨oe,vs,T,oT,ts,h1,h2,h3,h4,h5,h6,h7,h8,h9,h10,h11,_⟩,ga,Ha,_⟩,hG⟩:=h;have I':Inv X m4 σ H' s':=I.call' os un hok bare (λ b z=>absurd z (by simp));have old:∀ b,s.heap.get? b=none->X.s₀.heap.get? b=none:=λ b hb=>by
  cases e:X.s₀.heap.get? b with
  | none=>rfl
  | some o =>
   obtain ⟨o',e'⟩:=I.base.there b o e (by rw [B.ex];simp);rw [hb] at e';cases e'
 have pin:∀ b,s.heap.get? b=none->∀ p∈X.pn ++ m4,p.1≠b:=λ b hb p hp z=>by
  have:=(I.pin p hp).1;rw [z,hb] at this;cases this
 refine Wy I' B.st B.fr B.ex h1 h3 h4 (old a ga) Ha (pin a ga) (.inr ⟨T,oT,ts,h5,h6,h7,h8,h9,old T h10,h11,pin T h10⟩) λ s'' I2 x=>?_;exact ⟨a,oe.cls,σ,H',rfl,I2.nopins,x.less λ p hp=>bp _ hp,h2 ▸ hG⟩
def zbm {a:Addr} {args:A7} {h':Heap} (B:Bod X) (I:Inv X m4 σ H s) (hm:Heap.MadeExcOf s.heap h' a cls args) (hG:G cls σ H):xeG X G (.ref a) { s with heap:=h' }:=by
 obtain ⟨t,h1,h2,h3⟩:=hm.there;have I':Inv X m4 σ H { s with heap:=h' }:=I.kept (t':=s.toks) hm.keeps;have ga:X.s₀.heap.get? a=none:=by
  cases e:X.s₀.heap.get? a with
  | none=>rfl
  | some o =>
   obtain ⟨o',e'⟩:=I.base.there a o e (by rw [B.ex];simp);rw [hm.new] at e';cases e'
 have Ha:H a=none:=by
  cases e:H a with
  | none=>rfl
  | some u =>
   obtain ⟨o',e'⟩:=(I.hok a u e).there;rw [hm.new] at e';cases e'
 refine Wy (s:={ s with heap:=h' }) I' B.st B.fr B.ex h1 rfl rfl ga Ha (λ p hp z=>?_) (.inl rfl) λ s'' I2 x=>?_
 ·have:=(I.pin p hp).1;rw [z,hm.new] at this;cases this
 ·exact ⟨a,cls,σ,H,rfl,I2.nopins,x.less λ p hp=>bp _ hp,hG⟩
end
section
variable {P:Af} {w:World} {K:A0} {mg:A4} {base:Heap}
noncomputable abbrev cxR (P:Af) (w:World) (K:A0) (mg:A4) (base:Heap) (N:A8) (qual:Str) (scope:Scope) (f:Addr) (cd:Am) (A:Ao) (outer:List Env) (s:An) (H:Hp) (E:XK):Cx :=
 Jp (CXr P w) P w K mg base N qual scope f cd A outer s H E
def Fun.okx {x qual:Str} {st:Stmt} {f:Addr} {fd:FuncData} {N ps:A8} {k:Nat} (F:Fun K x qual st f fd) (S:FnScope N ps (zd st)) (len:∀ vs H Q E,sp vs H Q E->vs.length=ps.length)
  (hbody:∀ (cdv:Am) (A:Ao) (outer:List Env) (s:An) (H:Hp) (vs:Ap) (Q:VK) (E:XK),Room k (A.deeper (envOfC qual (zd st) s.heap.objs.size f cdv))->sp vs H Q E ->
   ∃ t,PSs ((cxR P w K mg base N qual (zd st) f cdv A outer s H E).exg λ cls _ H'=>E cls none H') (zO st) t/\t { nx:=λ _ H'=>Q .non H',rt:=Q } (start N vs) H):FnOk P w K mg base (CXr P w) (k + 1) f fd ps sp:=by
 obtain ⟨oc,od,kV,doc,pm,an,cdv,ct,osl,rfl,lk,hcd⟩:=F.ex;refine zfx lk hcd S len λ A outer s H vs Q E hr hsp=>?_;obtain ⟨t,h,q⟩:=hbody cdv A outer s H vs Q E hr hsp;refine ⟨t,λ m4 s σ H' D I hw=>?_,q⟩;refine aU (h m4 s σ H' D (I.wish _) hw) (λ _ _ z=>z.unwish) λ e s' z=>?_;refine ai (aU (show wpAny _ _ _ _ _ _ from z) (λ _ s1 y1=>aU y1 (λ _ s'' y=>?_) λ _ _ y=>y.elim) λ _ _ y=>y.elim);obtain ⟨a,cls,σ2,H2,rfl,J,xx,g⟩:=y;exact ⟨a,cls,H2,rfl,J.os,J.bare,J.base,J.hok,xx.less (λ p hp=>absurd hp (by simp)),g⟩
end
structure Cal (P:Af) (w:World) (K:A0) (mg:A4) (base:Heap) (x:Str) (k:Nat) (ps:A8) (dvs:Ap) (sp:Sp):Prop where
 ex:∃ f fd ds,FnOk P w K mg base (CXr P w) k f fd ps sp/\mg x=some (.ref f)/\keepIn K (.ref f)=true/\Binds K fd ps ds/\Vals dvs ds
structure MCal (P:Af) (w:World) (K:A0) (mg:A4) (base:Heap) (C:Addr) (m:Str) (k:Nat) (ps:A8) (dvs:Ap) (sp:Sp):Prop where
 cl:Cls K C
 ex:∃ f fd ds,FnOk P w K mg base (CXr P w) k f fd ps sp/\Meth K C m f/\Binds K fd ps ds/\Vals dvs ds
structure KCal (P:Af) (w:World) (K:A0) (mg:A4) (base:Heap) (x:Str) (C:Addr) (k:Nat) (ps:A8) (dvs:Ap) (sp:Sp):Prop where
 gl:mg x=some (.ref C)
 ex:∃ f fd ds,FnOk P w K mg base (CXr P w) k f fd ps sp/\Mk K C f/\Binds K fd ps ds/\Vals dvs ds
def Cal.mono {j k:Nat} {dvs:Ap} (c:Cal P w K mg base x j ps dvs sp) (h:j<=k:=by decide):Cal P w K mg base x k ps dvs sp:=by
 obtain ⟨f,fd,ds,a,b⟩:=c.ex;exact ⟨f,fd,ds,a.mono h,b⟩
def MCal.mono {C:Addr} {m:Str} {j k:Nat} {dvs:Ap} (c:MCal P w K mg base C m j ps dvs sp) (h:j<=k:=by decide):MCal P w K mg base C m k ps dvs sp:=by
 obtain ⟨f,fd,ds,a,b⟩:=c.ex;exact ⟨c.cl,f,fd,ds,a.mono h,b⟩
def KCal.mono {C:Addr} {j k:Nat} {dvs:Ap} (c:KCal P w K mg base x C j ps dvs sp) (h:j<=k:=by decide):KCal P w K mg base x C k ps dvs sp:=by
 obtain ⟨f,fd,ds,a,b⟩:=c.ex;exact ⟨c.gl,f,fd,ds,a.mono h,b⟩
section
variable {X:Cx} {G:GK} {k:Nat} {f C:Addr} {fd:FuncData} {ps:A8} {sp:Sp} {dvs:Ap} {ds:A7} {x m:Str} {p pos apos:Pos} {e o:Expr} {es:List Expr} {ta:TE} {t:TA}
theorem Ju {σ:St} {Q:VK} {us:A7} {vs:Ap} (B:Bod X) (F:FnOk X.prog X.w X.K X.mg X.base (CXr X.prog X.w) k f fd ps sp) (hr:Room k X.A) (hb:Binds X.K fd ps ds) (hd:Vals dvs ds)
  (I:Inv (X.exg G) m4 σ H s) (r:Vals vs us) (h:sp (vs ++ dvs) H Q (λ cls _ H'=>G cls σ H')):wpAny (model X.prog X.w) X.A (call (.ref f) us) (EP (X.exg G) m4 σ Q) (xeG X G) s:=by
 have r2:Vals (vs ++ dvs) (us ++ ds):=r.append hd;have hl:(us ++ ds).length=ps.length:=by rw [<- r2.length];exact F.len _ _ _ _ h
 refine fH (c7 (F.run X.A X.stack s H ⟨us,[]⟩ (us ++ ds) (vs ++ dvs) Q _ hr I.unwish.env0 (hb s us I.kIn hl) r2 h) λ r s' hq=>?_);cases r with
 | error e=>exact QZ B I.unwish hq
 | ok fl =>
  cases fl with
  | ret u=>exact I.after hq
  | next=>exact False.elim hq
  | brk=>exact False.elim hq
  | cont=>exact False.elim hq
theorem zdB {σ:St} {Q:VK} {us:A7} {vs:Ap} (B:Bod X) (M:Mk X.K C f) (F:FnOk X.prog X.w X.K X.mg X.base (CXr X.prog X.w) k f fd ps sp) (hr:Room (k + 1) X.A) (hb:Binds X.K fd ps ds) (hd:Vals dvs ds)
  (I:Inv (X.exg G) m4 σ H s) (r:Vals vs us)
  (h:∀ x dx,H x=none->H dx=none->dx≠x->sp (.ref x :: (vs ++ dvs)) (upd (upd H dx (.own x)) x (.ins C dx [])) (λ v H2=>v=.non/\Q (.ref x) H2) (λ cls _ H'=>G cls σ H')) :
  wpAny (model X.prog X.w) X.A (call (.ref C) us) (EP (X.exg G) m4 σ Q) (xeG X G) s:=by
 have hq:=h (s.heap.objs.size + 1) s.heap.objs.size (I.hok.fresh (cK _)) (I.hok.fresh (av _)) (aH (da _));have I2:=Inv.made (C:=C) I;have r2:Vals (V.ref (s.heap.objs.size + 1) :: (vs ++ dvs)) (Value.ref (s.heap.objs.size + 1) :: (us ++ ds)):=.cons rfl (r.append hd);have hl:(Value.ref (s.heap.objs.size + 1) :: us ++ ds).length=ps.length:=by
  have e:=r2.length;rw [F.len _ _ _ _ hq] at e;exact e.symm
 refine fH (zaW (f:=f) I.kIn M.makes M.init (bx.mp M.fn) (c7 (F.run _ X.stack _ _ ⟨Value.ref (s.heap.objs.size + 1) :: us,[]⟩ (Value.ref (s.heap.objs.size + 1) :: (us ++ ds)) _ _ _ (hr.make C us [])
  (I2.unwish.env0.make C us []) (hb _ (Value.ref (s.heap.objs.size + 1) :: us) I2.kIn hl) r2 hq) λ r s' hq'=>?_))
 cases r with
 | error e=>exact QZ B I2.unwish hq'
 | ok fl =>
  cases fl with
  | ret u =>
   obtain ⟨v,H',I3,rv,ev,q3⟩:=I2.after hq';subst ev;exact ⟨rv,⟨V.ref (s.heap.objs.size + 1),H',I3,rfl,q3⟩⟩
  | next=>exact False.elim hq'
  | brk=>exact False.elim hq'
  | cont=>exact False.elim hq'
def tCl (X:Cx) (k:Nat) (x:Str) (G:GK) (t:TA):TE:=λ σ H Q=>∃ ps dvs sp,Cal X.prog X.w X.K X.mg X.base x k ps dvs sp/\t σ H λ vs H1=>sp (vs ++ dvs) H1 Q (λ cls _ H'=>G cls σ H')
def zw (B:Bod X) (hr:Room k X.A) (ha:PA (X.exg G) (e :: es) t) (hg:Gl X x:=by rfl) (hdb:(x == ("__debug__":Str))=false:=by decide)
  (he:starEach (e :: es) X.env=(false,eval e X.env) :: starEach es X.env:=by rfl) (hpl:(backTo pos (starEach es X.env)).any (·.1)=false:=by rfl) :
  PE (X.exg G) (.Call (.Name x p) (e :: es) [] pos) (tCl X k x G t):=by
 intro m4 s σ H Q I h;obtain ⟨ps,dvs,sp,⟨f,fd,ds,F,hm,hk,hb,hd⟩,h⟩:=h;refine bw (wq I hg hm ?_ hdb);refine dg (h₀:=X.base) I.ok.mod.kin hk (vy (ha pos m4 s σ H _ I h) λ us s1 vs H1 I1 r q=>⟨I1.kIn,?_⟩) he hpl;exact Ju B F hr hb hd I1 r q
def tMk (X:Cx) (k:Nat) (x:Str) (G:GK) (t:TA):TE:=λ σ H Q=>∃ C ps dvs sp,KCal X.prog X.w X.K X.mg X.base x C k ps dvs sp/\t σ H λ vs H1=>∀ y dx,H1 y=none->H1 dx=none->dx≠y ->
 sp (.ref y :: (vs ++ dvs)) (upd (upd H1 dx (.own y)) y (.ins C dx [])) (λ v H2=>v=.non/\Q (.ref y) H2) (λ cls _ H'=>G cls σ H')
def qV (B:Bod X) (hr:Room (k + 1) X.A) (ha:PA (X.exg G) (e :: es) t) (hg:Gl X x:=by rfl) (hdb:(x == ("__debug__":Str))=false:=by decide)
  (he:starEach (e :: es) X.env=(false,eval e X.env) :: starEach es X.env:=by rfl) (hpl:(backTo pos (starEach es X.env)).any (·.1)=false:=by rfl) :
  PE (X.exg G) (.Call (.Name x p) (e :: es) [] pos) (tMk X k x G t):=by
 intro m4 s σ H Q I h;obtain ⟨C,ps,dvs,sp,⟨hm,f,fd,ds,F,M,hb,hd⟩,h⟩:=h;refine bw (wq I hg hm ?_ hdb);refine dg (h₀:=X.base) I.ok.mod.kin M.kp (vy (ha pos m4 s σ H _ I h) λ us s1 vs H1 I1 r q=>⟨I1.kIn,?_⟩) he hpl;exact zdB B M F hr hb hd I1 r q
def tMth (X:Cx) (k:Nat) (m:Str) (G:GK) (ta:TE) (t:TA):TE:=λ σ H Q=>ta σ H λ y H1=>∃ a C dx fs ps dvs sp,y=.ref a/\H1 a=some (.ins C dx fs)/\fs.lookup m=none /\
 MCal X.prog X.w X.K X.mg X.base C m k ps dvs sp/\t σ H1 λ vs H2=>sp (.ref a :: (vs ++ dvs)) H2 Q (λ cls _ H'=>G cls σ H')
def QI {pl:Sem Bool} (B:Bod X) (hr:Room k X.A) (he:PE (X.exg G) o ta) (ha:PA (X.exg G) (e :: es) t)
  (hst:starEach (e :: es) X.env=(false,eval e X.env) :: starEach es X.env:=by rfl) (hpl:(backTo pos (starEach es X.env)).any (·.1)=false:=by rfl)
  (ht:eval (.Call (.Attribute o m apos) (e :: es) [] pos) X.env=(do
   let ov <- eval o X.env
   standAt apos.atName
   let (f,first) <- holding [ov] (getMethod ov m pl)
   callWith pos f first (backTo pos (starEach (e :: es) X.env)) (backToKw pos (keywordEach [] X.env))):=by rfl) :
  PE (X.exg G) (.Call (.Attribute o m apos) (e :: es) [] pos) (tMth X k m G ta t):=by
 intro m4 s σ H Q I h;refine dC (pl:=pl) (thn (he m4 s σ H _ I h) λ u s1 hz=>?_) ht;obtain ⟨x,H1,I1,rx,a,C,dx,fs,ps,dvs,sp,ex,ea,l,⟨c,f,fd,ds,F,hm,hb,hd⟩,q⟩:=hz;subst ex;obtain rfl:u=Value.ref a:=rx;refine vd I1 ea c hm l ?_;refine dg (first:=[.ref a]) (h₀:=X.base) I.ok.mod.kin hm.kp (vy (ha pos m4 s1 σ H1 _ I1 q) λ us s2 vs H2 I2 r q2=>⟨I2.kIn,?_⟩) hst hpl;exact Ju (us:=.ref a :: us) (vs:=.ref a :: vs) B F hr hb hd I2 (.cons rfl r) q2
def Jw {pl:Sem Bool} (B:Bod X) (hr:Room k X.A) (he:PE (X.exg G) o ta)
  (ht:eval (.Call (.Attribute o m apos) [] [] pos) X.env=(do
   let ov <- eval o X.env
   standAt apos.atName
   let (f,first) <- holding [ov] (getMethod ov m pl)
   callWith pos f first (backTo pos (starEach [] X.env)) (backToKw pos (keywordEach [] X.env))):=by rfl) :
  PE (X.exg G) (.Call (.Attribute o m apos) [] [] pos) (tMth X k m G ta tNil):=by
 intro m4 s σ H Q I h;refine dC (pl:=pl) (thn (he m4 s σ H _ I h) λ u s1 hz=>?_) ht;obtain ⟨x,H1,I1,rx,a,C,dx,fs,ps,dvs,sp,ex,ea,l,⟨c,f,fd,ds,F,hm,hb,hd⟩,q⟩:=hz;subst ex;obtain rfl:u=Value.ref a:=rx;refine vd I1 ea c hm l ?_;exact fP (first:=[.ref a]) I1.kIn hm.kp (Ju (us:=[.ref a]) (vs:=[.ref a]) B F hr hb hd I1 (.cons rfl .nil) q)
def tGl (X:Cx) (x:Str):TE:=λ _ H Q=>∃ v u,X.mg x=some u/\RelV v u/\Q v H
def wg (hg:Gl X x:=by rfl) (hd:(x == ("__debug__":Str))=false:=by decide):PE X (.Name x pos) (tGl X x):=λ _ _ _ H _ I h=>by
 obtain ⟨v,u,hm,r,h⟩:=h;exact wq I hg hm ⟨v,H,I,r,h⟩ hd
def tBl (X:Cx) (x:Str) (v:V):TE:=λ _ H Q=>X.mg x=none/\Q v H
def zg7 {n:String} (hv:bootBuiltins x=some (.type n)) (hg:Gl X x:=by rfl) (hn:x≠"__name__":=by decide) (hd:(x == ("__debug__":Str))=false:=by decide):PE X (.Name x pos) (tBl X x (.ty n)):=λ _ _ _ H _ I h=>by
 obtain ⟨hm,h⟩:=h;exact vQ I hg hm hv ⟨.ty n,H,I,rfl,h⟩ hn hd
def tBi (X:Cx) (x:Str) (r:List V->Hp->VK->Prop) (t:TA):TE:=λ σ H Q=>X.mg x=none/\t σ H λ vs H1=>r vs H1 Q
def z7 {id:String} {r:List V->Hp->VK->Prop} (hc:CallR X (.builtin id) r) (hv:bootBuiltins x=some (.builtin id)) (ha:PA X (e :: es) t) (hg:Gl X x:=by rfl) (hn:x≠"__name__":=by decide) (hdb:(x == ("__debug__":Str))=false:=by decide)
  (he:starEach (e :: es) X.env=(false,eval e X.env) :: starEach es X.env:=by rfl) (hpl:(backTo pos (starEach es X.env)).any (·.1)=false:=by rfl):PE X (.Call (.Name x p) (e :: es) [] pos) (tBi X x r t):=λ m4 s σ H Q I h =>
 zeZ hc hg h.1 hv ha hn hdb he hpl m4 s σ H Q I h.2
def vI {T:String} {r:List V->Hp->VK->Prop} (hc:CallR X (.type T) r) (hv:bootBuiltins x=some (.type T)) (ha:PA X (e :: es) t) (hg:Gl X x:=by rfl) (hn:x≠"__name__":=by decide) (hdb:(x == ("__debug__":Str))=false:=by decide)
  (he:starEach (e :: es) X.env=(false,eval e X.env) :: starEach es X.env:=by rfl) (hpl:(backTo pos (starEach es X.env)).any (·.1)=false:=by rfl):PE X (.Call (.Name x p) (e :: es) [] pos) (tBi X x r t):=λ m4 s σ H Q I h =>
 zdM hc hg h.1 hv ha hn hdb he hpl m4 s σ H Q I h.2
end
section
variable {X:Cx} {tg:Expr} {a b c e o:Expr} {ta tb tc:TE} {pos:Pos}
def iSeq (K:A0) (tl:TE):TI:=λ σ H R=>tl σ H λ x H1=>∃ a,x=.ref a/\(((∃ xs,SqL K H1 a xs)/\R (Itl K a) H1)\/((∃ xs,SqT K H1 a xs)/\R (Itt K a) H1))
def ql {l:Expr} {tl:TE} (hl:PE X l tl):PI X tg l (iSeq X.K tl):=by
 intro m4 s σ H R I h;refine qC (hl m4 s σ H _ I h) λ v s1 x H1 I1 r1 q1=>?_;obtain ⟨a,e,q⟩:=q1;subst e;cases r1;rcases q with ⟨⟨xs,hq⟩,q⟩|⟨⟨xs,hq⟩,q⟩
 ·obtain ⟨mY,rv,p,hz⟩:=I1.list hq;refine dk p.isList ?_;refine ⟨s1.heap.objs.size,[s1.heap.objs.size],_,_,H1,rfl,I1.kept (t':=s1.toks) λ b o e=>aj _ e,zdi a _,⟨_,aC _ rfl,rfl,rfl⟩,λ b hb=>?_,q⟩;have e:b=s1.heap.objs.size:=by simpa using hb
  subst e;exact I1.fpOk (av _) (I1.hok.fresh (av _))
 ·obtain ⟨mY,rv,p,hz⟩:=I1.tuple hq;refine wpAny_pyIter_tuple (show s1.heap.IsTuple a mY.toArray from p) ?_;refine ⟨s1.heap.objs.size,[s1.heap.objs.size],_,_,H1,rfl,I1.kept (t':=s1.toks) λ b o e=>aj _ e,zbp a _,⟨_,aC _ rfl,rfl,rfl⟩,λ b hb=>?_,q⟩;have e:b=s1.heap.objs.size:=by simpa using hb
  subst e;exact I1.fpOk (av _) (I1.hok.fresh (av _))
def xP {ta:TA} {p pos:Pos} (ha:PA X [a] ta) (hg:Gl X "range":=by rfl) (hs:starEach [a] X.env=[(false,eval a X.env)]:=by rfl):PI X tg (.Call (.Name "range" p) [a] [] pos) (λ σ H R=>X.mg "range"=none/\iRng1 ta σ H R) :=
 λ m4 s σ H R I h=>zdL hg h.1 ha hs m4 s σ H R I h.2
def zeM (K:A0):R2:=λ x y H Q=>∃ l b xs zs,x=.ref l/\y=.ref b/\SqL K H l xs/\SqL K H b zs/\xs.length + zs.length<=sizeLine/\∀ p,H p=none->Q (.ref p) (upd H p (.lst (xs ++ zs)))
def zgr:OpR X (binaryOp .Add) (zeM X.K):=by
 intro m4 s σ H x y v u Q I rx ry h;obtain ⟨l,b,xs,zs,rfl,rfl,hH,hB,hz,q⟩:=h;cases rx;cases ry;obtain ⟨mY,r,p,z⟩:=I.list hH;obtain ⟨its2,r2,p2,z2⟩:=I.list hB;have e1:=r.length;have e2:=r2.length;obtain ⟨⟨cls,dd,data,sl⟩,n,ho,hc,hdd,hd⟩:=p;obtain ⟨⟨cls2,dd2,data2,sl2⟩,n2,ho2,hc2,hdd2,hd2⟩:=p2;simp only at hc hd hc2 hd2;subst hc hd hc2 hd2;have ea:mY.toArray ++ its2.toArray=(mY ++ its2).toArray:=by simp
 refine concat_meets ⟨_,ho,rfl⟩ ⟨_,ho2,rfl⟩ noFill_list_add seq_list_add PySem.F.slot_list_add PySem.F.entry_list_add (PySem.F.args_list_add_2 _ _) (list_addW l b mY.toArray its2.toArray n n2 dd dd2 sl sl2 (by simp only [aq];omega)) ⟨ho,ho2,?_⟩;rw [ea];exact ⟨.ref _,_,I.lnew (t':=s.toks) (r.append r2) (by rw [aO];omega),rfl,q _ I.fresh⟩
def OpR.wk {f:Al} {r r':R2} (h:OpR X f r) (k:∀ x y H Q,r' x y H Q->r x y H Q):OpR X f r':=λ m4 s σ H x y v u Q I rx ry q=>h m4 s σ H x y v u Q I rx ry (k x y H Q q)
def zaE (K:A0):R2:=λ x y H Q=>match x,y with
 | .int i,.int j=>Q (.int (i + j)) H
 | .str i,.str j=>i.length + j.length<=sizeLine/\Q (.str (i ++ j)) H
 | x,y=>zeM K x y H Q
def qm:OpR X (binaryOp .Add) (zaE X.K):=(op_add.or (op_add_str.or zgr)).wk λ x y H Q h=>by
 unfold zaE at h
 split at h
 ·exact .inl h
 ·exact .inr (.inl ⟨_,_,rfl,rfl,h⟩)
 ·exact .inr (.inr h)
def rT (c:Int->Int->Prop) [∀ i j,Decidable (c i j)]:R2:=λ x y H Q=>iq x λ i=>iq y λ j=>if c i j then Q (.bl true) H else Q (.bl false) H
def zb5 {c:Prop} [Decidable c] {Q:VK} (h:if c then Q (.bl true) H else Q (.bl false) H):Q (.bl (decide c)) H:=by
 by_cases e:c
 ·rw [ap e] at h;rw [aY e];exact h
 ·rw [ao e] at h;rw [aR e];exact h
def zcP {c:Prop} [Decidable c] {Q:VK} (h:if ¬ c then Q (.bl true) H else Q (.bl false) H):Q (.bl (!decide c)) H:=by
 by_cases e:c
 ·rw [ao (λ z=>z e)] at h;rw [aY e];exact h
 ·rw [ap e] at h;rw [aR e];exact h
def OpR.t {f:Al} {c:Int->Int->Prop} [∀ i j,Decidable (c i j)] (h:OpR X f (rI0 λ i j=>.bl (decide (c i j)))):OpR X f (rT c):=h.wk λ x y H Q q=>by
 obtain ⟨i,j,rfl,rfl,q⟩:=QR q;exact zb5 q
def zcD:OpR X (compareOp .Lt) (rT λ i j=>i < j):=op_lt.t
def xS:OpR X (compareOp .LtE) (rT λ i j=>i<=j):=op_le.t
def Zq:OpR X (compareOp .Gt) (rT λ i j=>j < i):=op_gt.t
def jq:OpR X (compareOp .Is) (λ x y H Q=>nq y (if x=.non then Q (.bl true) H else Q (.bl false) H)):=op_isN.wk λ x y H Q q=>by
 obtain ⟨rfl,q⟩:=zcH q;exact zb5 q
def wl:OpR X (compareOp .IsNot) (λ x y H Q=>nq y (if ¬ x=.non then Q (.bl true) H else Q (.bl false) H)):=op_notN.wk λ x y H Q q=>by
 obtain ⟨rfl,q⟩:=zcH q;exact zcP q
def zbP {op:Operator} {b:Expr} {y:V} {r:R2} (ho:OpR X (binaryOp op) r) (hb:PE X b (tC y)) {ta:TE} {r':V->Hp->VK->Prop} (k:∀ x H Q,r' x H Q->r x y H Q) {pos:Pos} (ha:PE X a ta):PE X (.BinOp a op b pos) (tUn r' ta):=by
 intro m4 s σ H Q I h;refine wpAny_BinOp (qC (ha m4 s σ H _ I h) λ v s1 x H1 I1 r1 q1=>thn (hb m4 s1 σ H1 (λ z H2=>z=y/\H2=H1) I1 ⟨rfl,rfl⟩) λ u s2 ⟨z,H2,I2,r2,e,e2⟩=>?_);subst e e2;exact ho m4 s2 σ H2 x z v u Q I2 r1 r2 (k x H2 Q q1)
def zeX {k:Int} {j:Nat} {p2 pos:Pos} {ta:TE} (ha:PE X a ta) (h:decide (0 < k)=true:=by rfl):PE X (.BinOp a .Mod (.Constant (.int k) j p2) pos) (tUn (rU λ i=>.int (i % k)) ta) :=
 zbP qT zf (λ x H Q q=>by obtain ⟨i,rfl,q⟩:=Qd q;exact ⟨bL h,q⟩) ha
def Xc {k:Int} {j:Nat} {p2 pos:Pos} {ta:TE} (ha:PE X a ta) (h:decide (0 < k/\k < 1073741824)=true:=by rfl):PE X (.BinOp a .FloorDiv (.Constant (.int k) j p2) pos) (tUn (rU λ i=>.int (i / k)) ta) :=
 zbP zgq zf (λ x H Q q=>by obtain ⟨i,rfl,q⟩:=Qd q;have z:=bL h;exact ⟨z,q⟩) ha
def Vx {b k:Int} {j j2:Nat} {p1 p2 pos:Pos} (h:decide (0<=k/\k<=1000000/\b.natAbs < 2 ^ 64)=true:=by rfl):PE X (.BinOp (.Constant (.int b) j p1) .Pow (.Constant (.int k) j2 p2) pos) (tC (.int (b ^ k.toNat))):=by
 intro m4 s σ H Q I q;have z:=bL h;exact zG zhG zf zf m4 s σ H Q I ⟨z,q⟩
def Vz {b k:Int} {j j2:Nat} {p1 p2 p3 pos:Pos} {ta:TE} (ha:PE X a ta) (h:decide (0<=k/\k<=1000000/\b.natAbs < 2 ^ 64)=true:=by rfl) (h0:decide (0 < b)=true:=by rfl) :
  PE X (.BinOp a .Mod (.BinOp (.Constant (.int b) j p1) .Pow (.Constant (.int k) j2 p2) p3) pos) (tUn (rU λ i=>.int (i % b ^ k.toNat)) ta) :=
 zbP qT (Vx h) (λ x H Q q=>by obtain ⟨i,rfl,q⟩:=Qd q;exact ⟨Int.pow_pos (bL h0),q⟩) ha
structure MulOk (i j:Int):Prop where
 h:IntMulOk i j
def vK:OpR X (binaryOp .Mult) (rI MulOk λ i j=>.int (i * j)):=opI λ _ _ _ _ _ _ _ hc q=>mul_int q hc.h
structure CFd (_ j:Int):Prop where
 a:j≠0
 b:j.natAbs.log2 < 9000
def zcF:OpR X (binaryOp .FloorDiv) (rI CFd λ i j=>.int (i.fdiv j)):=opI λ _ _ _ _ _ _ _ hc q=>floordiv_int hc.1 q (.inl (PyProof.noPylong_of_log2 hc.2))
def ziI:OpR X (compareOp .Gt) (rI0 λ i j=>.bl (decide (j < i))):=op_gt
def mul_okL {i j:Int} (h1:-(2 ^ 64) < i) (h2:i < 2 ^ 64):MulOk i j:=⟨PySem.IntMulOk.of_left (fM h1 h2)⟩
def mul_okR {i j:Int} (h1:-(2 ^ 64) < j) (h2:j < 2 ^ 64):MulOk i j:=⟨PySem.IntMulOk.of_right (fM h1 h2)⟩
def fd_ok {i j:Int} (h1:0 < j) (h2:j.natAbs < 2 ^ 8999):CFd i j:=⟨by omega,by
 have:=(Nat.log2_lt (n:=j.natAbs) (k:=8999) (by omega)).mpr h2;omega⟩
def fdiv_pos {i j:Int} (h:0 < j):i.fdiv j=i / j:=eD i (cB h)
noncomputable def xn:List V->List V->Bool
 | [],[]=>true
 | x :: xs,y :: ys=>eqV x y && xn xs ys
 | _,_=>false
theorem wF:∀ {xs ys:Ap},xs.length≠ys.length->xn xs ys=false
 | [],[],h=>absurd rfl h
 | [],_ :: _,_=>rfl
 | _ :: _,[],_=>rfl
 | x :: xs,y :: ys,h=>by
  have:=wF (xs:=xs) (ys:=ys) (λ e=>h (by simp [e]));unfold xn;rw [this,cC]
theorem wG:∀ {xs ys:Ap},xs.length=ys.length->(List.range xs.length).all (λ j=>eqV (xs.getD j .non) (ys.getD j .non))=xn xs ys
 | [],[],_=>rfl
 | [],_ :: _,h=>by simp at h
 | _ :: _,[],h=>by simp at h
 | x :: xs,y :: ys,h=>by
  have ih:=wG (xs:=xs) (ys:=ys) (by simpa using h);unfold xn;rw [<- ih,bF,List.range_succ_eq_map,all_cons,List.all_map]
  rfl
theorem Vals.getD:∀ {xs:Ap} {us:A7} {j:Nat} (h:j < us.length),Vals xs us->RelV (xs.getD j .non) us[j]
 | _,_,0,_,.cons r _=>r
 | _,_,j + 1,h,.cons _ t=>Vals.getD (j:=j) (by simpa using h) t
def jZ {xs:Ap} (f:xs.all wK=true) (j:Nat):wK (xs.getD j .non)=true:=by
 rw [ae];cases e:xs[j]? with
 | none=>rfl
 | some x=>exact bS.mp f x (ah e)
def zgh (K:A0) (neg:Bool):R2:=λ x y H Q=>∃ a b xs ys,x=.ref a/\y=.ref b/\((SqL K H a xs/\SqL K H b ys)\/(SqT K H a xs/\SqT K H b ys))/\xs.all wK=true/\ys.all wK=true/\Q (.bl (if neg then !xn xs ys else xn xs ys)) H
def zdN (hu:X.A.units < cLine):OpR X (compareOp .Eq) (zgh X.K false):=by
 intro m4 s σ H x y v u Q I rx ry h;obtain ⟨a,b,xs,ys,rfl,rfl,hq,fx,fy,q⟩:=h;cases rx;cases ry;have fin:EP X m4 σ Q (.bool (xn xs ys)) s:=⟨.bl (xn xs ys),H,I,rfl,q⟩;rcases hq with ⟨h1,h2⟩|⟨h1,h2⟩
 ·obtain ⟨mY,r,p,_⟩:=I.list h1;obtain ⟨its2,r2,p2,_⟩:=I.list h2;have e1:=r.length;have e2:=r2.length;by_cases hl:xs.length=ys.length
  ·refine eQ (e:=λ j=>eqV (xs.getD j .non) (ys.getD j .non)) p.isList p2.isList (by simp only [aq];omega) hu (λ j h1 h2=>?_) _ _ _ _ ?_
   ·exact QT (Vals.getD (by simpa using h1) r) (Vals.getD (by simpa using h2) r2) (jZ fx j) (jZ fy j)
   ·rw [aq,<- e1,wG hl];exact fin
  ·rw [wF hl] at fin;exact fY p.isList p2.isList (by simp only [aq];simp;omega) hu _ _ _ _ fin
 ·obtain ⟨mY,r,p,_⟩:=I.tuple h1;obtain ⟨its2,r2,p2,_⟩:=I.tuple h2;have e1:=r.length;have e2:=r2.length;refine cJ (e:=λ j=>eqV (xs.getD j .non) (ys.getD j .non)) p p2 hu (λ j h1 h2=>?_) _ _ _ _ ?_
  ·exact QT (Vals.getD (by simpa using h1) r) (Vals.getD (by simpa using h2) r2) (jZ fx j) (jZ fy j)
  ·by_cases hl:xs.length=ys.length
   ·have em:min mY.toArray.size its2.toArray.size=xs.length:=by simp only [aq];omega
    have es:(mY.toArray.size == its2.toArray.size)=true:=by simp only [aq];rw [bx];omega
    rw [em,es,wG hl,dI];exact fin
   ·have es:(mY.toArray.size == its2.toArray.size)=false:=by simp only [aq];rw [aW];omega
    rw [es,cC];rw [wF hl] at fin;exact fin
def Ws (hu:X.A.units < cLine):OpR X (compareOp .NotEq) (zgh X.K true):=by
 intro m4 s σ H x y v u Q I rx ry h;obtain ⟨a,b,xs,ys,rfl,rfl,hq,fx,fy,q⟩:=h;cases rx;cases ry;have fin:EP X m4 σ Q (.bool (!xn xs ys)) s:=⟨.bl (!xn xs ys),H,I,rfl,q⟩;rcases hq with ⟨h1,h2⟩|⟨h1,h2⟩
 ·obtain ⟨mY,r,p,_⟩:=I.list h1;obtain ⟨its2,r2,p2,_⟩:=I.list h2;have e1:=r.length;have e2:=r2.length;by_cases hl:xs.length=ys.length
  ·refine SeqAt.RcNeAt.lists (e:=λ j=>eqV (xs.getD j .non) (ys.getD j .non)) p.isList p2.isList (by simp only [aq];omega) hu (λ j h1 h2=>?_) _ _ _ _ ?_
   ·exact QT (Vals.getD (by simpa using h1) r) (Vals.getD (by simpa using h2) r2) (jZ fx j) (jZ fy j)
   ·rw [aq,<- e1,wG hl];exact fin
  ·rw [wF hl] at fin;exact fI p.isList p2.isList (by simp only [aq];simp;omega) hu _ _ _ _ fin
 ·obtain ⟨mY,r,p,_⟩:=I.tuple h1;obtain ⟨its2,r2,p2,_⟩:=I.tuple h2;have e1:=r.length;have e2:=r2.length;refine SeqAt.RcNeAt.tuples (e:=λ j=>eqV (xs.getD j .non) (ys.getD j .non)) p p2 hu (λ j h1 h2=>?_) _ _ _ _ ?_
  ·exact QT (Vals.getD (by simpa using h1) r) (Vals.getD (by simpa using h2) r2) (jZ fx j) (jZ fy j)
  ·by_cases hl:xs.length=ys.length
   ·have em:min mY.toArray.size its2.toArray.size=xs.length:=by simp only [aq];omega
    have es:(mY.toArray.size == its2.toArray.size)=true:=by simp only [aq];rw [bx];omega
    rw [em,es,wG hl,dI];exact fin
   ·have es:(mY.toArray.size == its2.toArray.size)=false:=by simp only [aq];rw [aW];omega
    rw [es,cC];rw [wF hl] at fin;exact fin
inductive DE (K:A0) (H:Hp):Nat->V->V->Bool->Prop
 | flat {n:Nat} {x y:V}:wK x=true->wK y=true->DE K H n x y (eqV x y)
 | same {n:Nat} {p:Addr}:DE K H n (.ref p) (.ref p) true
 | lists {n:Nat} {p q:Addr} {xs ys:Ap} {e:Nat->Bool}:p≠q->SqL K H p xs->SqL K H q ys->xs.length=ys.length->(∀ j x y,xs[j]?=some x->ys[j]?=some y->DE K H n x y (e j))->DE K H (n + 1) (.ref p) (.ref q) ((List.range xs.length).all e)
 | listsL {n:Nat} {p q:Addr} {xs ys:Ap}:p≠q->SqL K H p xs->SqL K H q ys->xs.length≠ys.length->DE K H (n + 1) (.ref p) (.ref q) false
 | tuples {n:Nat} {p q:Addr} {xs ys:Ap} {e:Nat->Bool}:p≠q->SqT K H p xs->SqT K H q ys->(∀ j x y,xs[j]?=some x->ys[j]?=some y->DE K H n x y (e j))->DE K H (n + 1) (.ref p) (.ref q) ((List.range (min xs.length ys.length)).all e && xs.length == ys.length)
 | nt {n:Nat} {p:Addr} {xs:Ap}:SqT K H p xs->DE K H n .non (.ref p) false
 | tn {n:Nat} {p:Addr} {xs:Ap}:SqT K H p xs->DE K H n (.ref p) .non false
def Vals.at_ {xs:Ap} {us:A7} (r:Vals xs us) {j:Nat} (h:j < us.toArray.size):∃ x,xs[j]?=some x/\RelV x us.toArray[j]:=by
 have h':j < us.length:=by simpa using h
 have hl:j < xs.length:=by rw [r.length];exact h'
 obtain ⟨u,hu,ru⟩:=r.get (ad hl);have e:us.toArray[j]=u:=by
  have:=aa.mp hu;obtain ⟨_,e⟩:=this;simpa using e
 exact ⟨xs[j],ad hl,e ▸ ru⟩
def zc4 {σ:St} {n:Nat} {x y:V} {b:Bool} (I:Inv X m4 σ H s) (h:DE X.K H n x y b):∀ {u v:Am} {A:Ao},RelV x u->RelV y v->A.units + n < cLine->SeqAt.EqAt A s u v b:=by
 induction h with
 | flat fx fy=>intro u v A rx ry _;exact QT rx ry fx fy
 | same=>intro u v A rx ry _;cases rx;cases ry;exact dG _
 | lists hne h1 h2 hl _ ih =>
  intro u v A rx ry hu;cases rx;cases ry;obtain ⟨mY,r,p,_⟩:=I.list h1;obtain ⟨its2,r2,p2,_⟩:=I.list h2;have e1:=r.length;have e2:=r2.length;refine cE hne ?_;have:=eQ (A:=A) (s:=s) p.isList p2.isList (by simp only [aq];omega) (by omega) (λ j h1 h2=>by
   obtain ⟨x,hx,rx⟩:=r.at_ h1;obtain ⟨y,hy,ry⟩:=r2.at_ h2;exact ih j x y hx hy rx ry (by show A.units + 1 + _ < _;omega))
  rw [aq,<- e1] at this;exact this
 | listsL hne h1 h2 hl =>
  intro u v A rx ry hu;cases rx;cases ry;obtain ⟨mY,r,p,_⟩:=I.list h1;obtain ⟨its2,r2,p2,_⟩:=I.list h2;have e1:=r.length;have e2:=r2.length;exact cE hne (fY p.isList p2.isList (by simp only [aq];simp;omega) (by omega))
 | tuples hne h1 h2 _ ih =>
  intro u v A rx ry hu;cases rx;cases ry;obtain ⟨mY,r,p,_⟩:=I.tuple h1;obtain ⟨its2,r2,p2,_⟩:=I.tuple h2;have e1:=r.length;have e2:=r2.length;refine cE hne ?_;have:=cJ (A:=A) (s:=s) p p2 (by omega) (λ j h1 h2=>by
   obtain ⟨x,hx,rx⟩:=r.at_ h1;obtain ⟨y,hy,ry⟩:=r2.at_ h2;exact ih j x y hx hy rx ry (by show A.units + 1 + _ < _;omega))
  simp only [aq,<- e1,<- e2] at this;exact this
 | nt h1 =>
  intro u v A rx ry hu;cases rx;cases ry;obtain ⟨mY,r,p,_⟩:=I.tuple h1;exact SeqAt.EqAt.none_tuple p (by omega)
 | tn h1 =>
  intro u v A rx ry hu;cases rx;cases ry;obtain ⟨mY,r,p,_⟩:=I.tuple h1;exact SeqAt.EqAt.tuple_none p (by omega)
def zgi (K:A0) (neg:Bool):R2:=λ x y H Q=>∃ p q xs ys n e,x=.ref p/\y=.ref q/\n<=8/\(∀ j x y,xs[j]?=some x->ys[j]?=some y->DE K H n x y (e j)) /\
 ((SqL K H p xs/\SqL K H q ys/\xs.length=ys.length/\Q (.bl (if neg then !((List.range xs.length).all e) else (List.range xs.length).all e)) H) \/
   (SqT K H p xs/\SqT K H q ys/\Q (.bl (if neg then !((List.range (min xs.length ys.length)).all e && xs.length == ys.length) else ((List.range (min xs.length ys.length)).all e && xs.length == ys.length))) H))
def zbT (hu:X.A.units + 100 < cLine):OpR X (compareOp .Eq) (zgi X.K false):=by
 intro m4 s σ H x y v u Q I rx ry h;obtain ⟨p,q,xs,ys,n,e,rfl,rfl,hn,hde,h⟩:=h;cases rx;cases ry;rcases h with ⟨h1,h2,hl,q⟩|⟨h1,h2,q⟩
 ·obtain ⟨mY,r,p,_⟩:=I.list h1;obtain ⟨its2,r2,p2,_⟩:=I.list h2;have e1:=r.length;have e2:=r2.length;refine eQ (e:=e) p.isList p2.isList (by simp only [aq];omega) (by omega) (λ j h1 h2=>?_) _ _ _ _ ?_
  ·obtain ⟨x,hx,rx⟩:=r.at_ h1;obtain ⟨y,hy,ry⟩:=r2.at_ h2;exact zc4 I (hde j x y hx hy) rx ry (by show X.A.units + 1 + _ < _;omega)
  ·rw [aq,<- e1];exact ⟨.bl _,H,I,rfl,q⟩
 ·obtain ⟨mY,r,p,_⟩:=I.tuple h1;obtain ⟨its2,r2,p2,_⟩:=I.tuple h2;have e1:=r.length;have e2:=r2.length;refine cJ (e:=e) p p2 (by omega) (λ j h1 h2=>?_) _ _ _ _ ?_
  ·obtain ⟨x,hx,rx⟩:=r.at_ h1;obtain ⟨y,hy,ry⟩:=r2.at_ h2;exact zc4 I (hde j x y hx hy) rx ry (by show X.A.units + 1 + _ < _;omega)
  ·simp only [aq,<- e1,<- e2];exact ⟨.bl _,H,I,rfl,q⟩
def zbS (hu:X.A.units + 100 < cLine):OpR X (compareOp .NotEq) (zgi X.K true):=by
 intro m4 s σ H x y v u Q I rx ry h;obtain ⟨p,q,xs,ys,n,e,rfl,rfl,hn,hde,h⟩:=h;cases rx;cases ry;rcases h with ⟨h1,h2,hl,q⟩|⟨h1,h2,q⟩
 ·obtain ⟨mY,r,p,_⟩:=I.list h1;obtain ⟨its2,r2,p2,_⟩:=I.list h2;have e1:=r.length;have e2:=r2.length;refine SeqAt.RcNeAt.lists (e:=e) p.isList p2.isList (by simp only [aq];omega) (by omega) (λ j h1 h2=>?_) _ _ _ _ ?_
  ·obtain ⟨x,hx,rx⟩:=r.at_ h1;obtain ⟨y,hy,ry⟩:=r2.at_ h2;exact zc4 I (hde j x y hx hy) rx ry (by show X.A.units + 1 + _ < _;omega)
  ·rw [aq,<- e1];exact ⟨.bl _,H,I,rfl,q⟩
 ·obtain ⟨mY,r,p,_⟩:=I.tuple h1;obtain ⟨its2,r2,p2,_⟩:=I.tuple h2;have e1:=r.length;have e2:=r2.length;refine SeqAt.RcNeAt.tuples (e:=e) p p2 (by omega) (λ j h1 h2=>?_) _ _ _ _ ?_
  ·obtain ⟨x,hx,rx⟩:=r.at_ h1;obtain ⟨y,hy,ry⟩:=r2.at_ h2;exact zc4 I (hde j x y hx hy) rx ry (by show X.A.units + 1 + _ < _;omega)
  ·simp only [aq,<- e1,<- e2];exact ⟨.bl _,H,I,rfl,q⟩
def Vp (K:A0):R2:=λ x y H Q=>match x,y with
 | .int i,.int j=>Q (.bl (decide (i=j))) H
 | .str i,.str j=>Q (.bl (decide (i=j))) H
 | .bl i,.bl j=>Q (.bl (decide (i=j))) H
 | x,y=>rEq x y H Q\/zgh K false x y H Q\/zgi K false x y H Q
def zbO (K:A0):R2:=λ x y H Q=>match x,y with
 | .int i,.int j=>Q (.bl (!decide (i=j))) H
 | .str i,.str j=>Q (.bl (!decide (i=j))) H
 | .bl i,.bl j=>Q (.bl (!decide (i=j))) H
 | x,y=>rNe x y H Q\/zgh K true x y H Q\/zgi K true x y H Q
def zdG (K:A0):R2:=λ x y H Q=>match x,y with
 | .int i,.int j=>if i=j then Q (.bl true) H else Q (.bl false) H
 | .str i,.str j=>if i=j then Q (.bl true) H else Q (.bl false) H
 | .bl i,.bl j=>if i=j then Q (.bl true) H else Q (.bl false) H
 | x,y=>Vp K x y H Q
def zdE (K:A0):R2:=λ x y H Q=>match x,y with
 | .int i,.int j=>if ¬ i=j then Q (.bl true) H else Q (.bl false) H
 | .str i,.str j=>if ¬ i=j then Q (.bl true) H else Q (.bl false) H
 | .bl i,.bl j=>if ¬ i=j then Q (.bl true) H else Q (.bl false) H
 | x,y=>zbO K x y H Q
def zcG (hu:X.A.units + 100 < cLine):OpR X (compareOp .Eq) (Vp X.K):=(op_eq.or ((zdN (by omega)).or (zbT hu))).wk λ x y H Q h=>by
 unfold Vp at h
 split at h <;> first|exact h|exact .inl ⟨rfl,by simpa using h⟩
def zha (hu:X.A.units + 100 < cLine):OpR X (compareOp .NotEq) (zbO X.K):=(op_ne.or ((Ws (by omega)).or (zbS hu))).wk λ x y H Q h=>by
 unfold zbO at h
 split at h <;> first|exact h|exact .inl ⟨rfl,by simpa using h⟩
def vJ (hu:X.A.units + 100 < cLine):OpR X (compareOp .Eq) (zdG X.K):=(zcG hu).wk λ x y H Q h=>by
 unfold zdG at h
 split at h <;> first|exact h|exact zb5 (Q:=Q) h
def zaL (hu:X.A.units + 100 < cLine):OpR X (compareOp .NotEq) (zdE X.K):=(zha hu).wk λ x y H Q h=>by
 unfold zdE at h
 split at h <;> first|exact h|exact zcP (Q:=Q) h
def Room.units1 {k:Nat} {A:Ao} (r:Room k A):A.units + 100 < cLine:=by have:=r.un;omega
noncomputable def zgK:V->Option Value
 | .ty n=>some (.type n)
 | .ref a=>some (.ref a)
 | _=>none
def qd:bootBuiltins "len"=some (.builtin "len"):=by decide +kernel
def qu:bootBuiltins "isinstance"=some (.builtin "isinstance"):=by decide +kernel
def zcp:bootBuiltins "max"=some (.builtin "max"):=by decide +kernel
def zib:bootBuiltins "any"=some (.builtin "any"):=by decide +kernel
def zei:bootBuiltins "sorted"=some (.builtin "sorted"):=by decide +kernel
def zia:bootBuiltins "int"=some (.type "int"):=by decide +kernel
def vn:bootBuiltins "list"=some (.type "list"):=by decide +kernel
def Qk:bootBuiltins "tuple"=some (.type "tuple"):=by decide +kernel
def zgO:bootBuiltins "bool"=some (.type "bool"):=by decide +kernel
def Q3:kitOne K (.type "int") (.type "int")=some true:=by rfl
def Qa:kitOne K (.type "int") (.type "bool")=some false:=by rfl
def Zs:kitOne K (.type "bool") (.type "bool")=some true:=by rfl
def Q2:kitOne K (.type "str") (.type "str")=some true:=by rfl
def zhZ:IxR X (rIx X.K):=zhY
def qe:CallR X (.builtin "len") (λ xs H Q=>lq xs λ x=>∃ n,zi1 X.K x H n/\Q (.int n) H):=λ m4 s σ H xs us Q I r h=>let ⟨x,e,n,h⟩:=zfd h;zfK m4 s σ H xs us Q I r ⟨x,n,e,h⟩
def zhO {xs:Ap} {P:Int->Prop} (h:lq xs λ v=>iq v P):∃ i,xs=[.int i]/\P i:=by
 obtain ⟨v,rfl,h⟩:=zfd h;obtain ⟨i,rfl,h⟩:=Qd h;exact ⟨i,rfl,h⟩
end
abbrev bmV:List Value:=[.type "ValueError",.type "Exception",.type "BaseException",.type "object"]
structure XC (K:A0) (C:Addr):Prop where
 q:excIn K C bmV "ValueError.__new__"=true
def zhg {C:Addr} {h₀:Heap} (X:K.In h₀) (x:XC K C):∃ bm N nm q bs hdct sn sub ab col dd k0 k1 k2 k3 k5 mN,h₀.get? C=some (excClassObj nm q C N bs bm hdct sn sub ab col dd k0 k1 k2 k3 k5 "ValueError.__new__")/\h₀.Ns N mN/\mN "__init__"=none/\OwnTail h₀ bmV bm:=by
 have q:=x.q;unfold excIn at q
 split at q
 ·rename_i dd cd sl ho
  split at q
  ·rename_i C' bm k0 k1 k2 k3 n k5 hm hs;simp only [cH,bx,Bool.not_eq_true'] at q;obtain ⟨⟨⟨⟨⟨rfl,rfl⟩,hdel⟩,ht⟩,hok⟩,hni⟩:=q;obtain ⟨nm,bs,mro,ns,qn,hd,sn,sub,ab,col,del⟩:=cd;dsimp only at hm hdel hok hni;subst hm hdel;have hsl:sl=#[k0,k1,k2,k3,some (.builtin "ValueError.__new__"),k5]:=by
    obtain ⟨l⟩:=sl;simp only at hs;rw [hs]
   subst hsl;exact ⟨bm,ns,nm,qn,bs,hd,sn,sub,ab,col,dd,k0,k1,k2,k3,k5,_,X _ _ ho,.of_isNs (PySem.W.isNs_of_in X hok),PySem.W.nsMap_none_of_in X hok hni,PySem.W.tail_of_in X ht⟩
  ·cases q
 ·cases q
section
variable {X:Cx} {G:GK} {x n:Str} {np cpos pos hpos:Pos} {e₀:Expr} {es:List Expr} {t:TA}
def tRaise (X:Cx) (x:Str) (G:GK) (t:TA):TS:=λ _ σ H=>∃ C,X.mg x=some (.ref C)/\XC X.K C/\t σ H λ vs H1=>szl vs (G (.ref C) σ H1)
def je (B:Bod X) (hc:X.calm=true) (ha:PA (X.exg G) (e₀ :: es) t) (hg:Gl X x:=by rfl) (hdb:(x == ("__debug__":Str))=false:=by decide)
  (he:starEach (e₀ :: es) X.env=(false,eval e₀ X.env) :: starEach es X.env:=by rfl) (hpl:(backTo cpos (starEach es X.env)).any (·.1)=false:=by rfl) :
  PS (X.exg G) (.Raise (some (.Call (.Name x np) (e₀ :: es) [] cpos)) none pos) (tRaise X x G t):=by
 intro m4 s σ H D I h;obtain ⟨C,hm,xc,h⟩:=h;obtain ⟨tl,N,nm,q,bs,hdct,sn,sub,ab,col,dd,k0,k1,k2,k3,k5,mN,hC,hN,hni,T⟩:=zhg I.ok.mod.kin xc;refine wpAny_Raise_call_subT (C:=C) (nm:=nm) (q:=q) (N:=N) (bs:=bs) (bm:=tl) (hdct:=hdct) (sn:=sn) (sub:=sub) (ab:=ab) (col:=col) (dd:=dd) (k0:=k0) (k1:=k1) (k2:=k2) (k3:=k3) (k5:=k5)
  F.excBase_ValueError (mN:=mN) (T.hasType F.excBase_ValueError.hasBase) (I.ok.hd hc) (by rw [he];show (false || (backTo cpos (starEach es X.env)).any (·.1))=false;rw [hpl];rfl) hni (wq I hg hm ⟨rfl,?_⟩ hdb)
 have hA:=ha cpos m4 s σ H _ I h;rw [he] at hA ⊢;refine Calls.evalArgs_plain (thn hA λ us s2 ⟨vs,H2,I2,r,g⟩=>?_);obtain ⟨hl,g⟩:=zbr g;exact ⟨rfl,by rw [<- r.length];exact hl,I2.bk _ _ hC,hN.keeps I2.bk,T.keeps I2.bk,λ h' a hm=>zbm B I2.unwish hm g⟩
end
noncomputable def zcf (a:Addr) (cls:Am):HO:=.ext λ h=>∃ o vs,h.get? a=some o/\o.cls=cls/\o.dict=none/\o.data=.fields vs
def Exc.obj {g h:Heap} {pn:A2} {a:Addr} (x:Exc g h H pn a cls):∃ o vs,h.get? a=some o/\o.cls=cls/\o.dict=none/\o.data=.fields vs:=by
 obtain ⟨oe,vs,_,_,_,h1,h2,h3,h4,_⟩:=x.ex;exact ⟨oe,vs,h1,h2,h3,h4⟩
section
variable {X:Cx} {m4:A2} {σ:St} {H:Hp} {s:An}
def Inv.track {a:Addr} {u:HO} (I:Inv X m4 σ H s) (Ha:H a=none) (ga:X.s₀.heap.get? a=none) (hrec:∃ o vs,s.heap.get? a=some o/\o.data=.fields vs) (pa:∀ p∈X.pn ++ m4,p.1≠a)
  (new:ObjOk X.prog X.w (upd H a u) s.heap a u):Inv X m4 σ (upd H a u) s:=by
 obtain ⟨o,vs,ho,hd⟩:=hrec;have neL:X.env.locals≠a:=λ z=>by
  obtain ⟨m,⟨o',es,ep,ho',hd',_⟩,_⟩:=I.loc;rw [z,ho] at ho';cases ho';rw [hd'] at hd;cases hd
 have neC:∀ x c,X.env.cells.lookup x=some c->c≠a:=λ x c e z=>by
  obtain ⟨v,o',ho',hd'⟩:=I.cell x c e;rw [z,ho] at ho';cases ho';rw [hd'] at hd;cases hd
 have keep:∀ b v,H b=some v->upd H a u b=some v:=λ b v e=>by
  rw [nu (nz e Ha)];exact e
 refine ⟨I.ok,I.os,I.bare,⟨I.base.keep,I.base.slot,λ b o' e n hx=>?_,I.base.there,λ b xs e=>keep b _ (I.base.tups b xs e),λ b o' v e=>keep b _ (I.base.frzs b o' v e),λ b ps e=>?_⟩,I.loc,I.cell,?_,λ x c e=>?_,λ p hp=>?_,λ b v e=>?_,I.len⟩
 ·have:b≠a:=λ z=>by rw [z,ga] at e;cases e
  rw [nu this];exact I.base.free b o' e n hx
 ·obtain ⟨more,q⟩:=I.base.tbls b ps e;exact ⟨more,keep b _ q⟩
 ·rw [nu neL];exact I.free
 ·rw [nu (neC x c e)];exact I.freeC x c e
 ·obtain ⟨e,n,ne,nf,d⟩:=I.pin p hp;exact ⟨e,by rw [nu (pa p hp)];exact n,ne,nf,d⟩
 ·by_cases hb:b=a
  ·subst hb;rw [nk] at e;cases e;exact new
  ·rw [nu hb] at e;exact (I.hok b v e).stay (λ _ _ _ q=>q) (λ c q=>keep c _ q) λ c xs q=>keep c _ q
def zgE {a:Addr} {h:Heap} (x:∃ o vs,h.get? a=some o/\o.cls=cls/\o.dict=none/\o.data=.fields vs) {H:Hp}:ObjOk P w H h a (zcf a cls):=by
 refine ⟨x,let ⟨o,_,e,_⟩:=x;⟨o,e⟩,λ h1 h2 p k=>?_⟩;obtain ⟨o,vs,e,r⟩:=p;exact ⟨o,vs,k o e,r⟩
def zcc {M:Model} {A:Ao} {E:A3} {a:Addr} (I:Inv X m4 σ H s) (x:Exc X.s₀.heap s.heap H (X.pn ++ m4) a cls)
  (hQ:∀ s',Inv X m4 σ H s'->Exc X.s₀.heap s'.heap H (X.pn ++ m4) a cls->Q () s'):wpAny M A (setFlight (.ref a) none) Q E s:=by
 obtain ⟨⟨oe,vs,T,oT,ts,h1,h2,h3,h4,h5,h6,h7,h8,h9,h10,h11,h12⟩,ga,Ha,pa⟩:=x;have h3s:3 < ts.size:=(bE.mp h9).1;refine wpAny_setFlight_none h1 h4 h5 h7 h8 h3s ?_;have hT:=bO (Obj.mapFields (·.setIfInBounds 3 Value.none)) h7 (b9 (bh h8 _));have other:∀ b,b≠T->(s.heap.update T (Obj.mapFields (·.setIfInBounds 3 Value.none))).get? b=s.heap.get? b:=λ b hb=>bc _ _ (aX hb);refine hQ _ (I.stepx (ch:=[T]) (λ b hb=>?_) (λ b hb=>?_) (λ b o _ hc q=>(other b (λ z=>hc (by simp [z]))).trans q) (λ b o hc q=>⟨o.slots,(other b (λ z=>hc (by simp [z]))).trans q⟩) λ b hb=>?_)
  ⟨⟨oe,vs,T,_,_,(other a (aX h6)).trans h1,h2,h3,h4,h5,h6,hT,bh h8 _,by simp [h3s],h10,h11,h12⟩,ga,Ha,pa⟩
 ·obtain rfl:b=T:=by simpa using hb
  exact ⟨h10,h11,h12⟩
 ·obtain rfl:b=T:=by simpa using hb
  exact ⟨oT,ts,h7,h8⟩
 ·obtain rfl:b=T:=by simpa using hb
  exact ⟨_,hT⟩
end
noncomputable abbrev Cx.suite (X:Cx) (pn:A2) (a:Addr):Cx:={ X with pn:=pn,A:=X.A.mark (some (.ref a)),calm:=false,xe:=λ _ _=>False }
noncomputable abbrev Cx.pinned (X:Cx) (pn:A2):Cx:={ X with pn:=pn }
section
variable {X:Cx} {m4:A2} {σ:St} {H:Hp} {s:An}
def Inv.topn (I:Inv X m4 σ H s):Inv (X.pinned (X.pn ++ m4)) [] σ H s :=
 ⟨⟨I.ok.mod,I.ok.kind,I.ok.glob,I.ok.blt,I.ok.above,I.ok.inj,I.ok.has,I.ok.cab,I.ok.hd,I.ok.frames,I.ok.stk,I.ok.exf,I.ok.bs,I.ok.bsz,I.ok.noex,I.ok.exfs,I.ok.funs,I.ok.frf⟩,
  I.os,I.bare,I.base,I.loc,I.cell,I.free,I.freeC,λ p hp=>I.pin p (by rwa [cg] at hp),I.hok,I.len⟩
def Inv.ofpn (I:Inv (X.pinned (X.pn ++ m4)) [] σ H s):Inv X m4 σ H s :=
 ⟨⟨I.ok.mod,I.ok.kind,I.ok.glob,I.ok.blt,I.ok.above,I.ok.inj,I.ok.has,I.ok.cab,I.ok.hd,I.ok.frames,I.ok.stk,I.ok.exf,I.ok.bs,I.ok.bsz,I.ok.noex,I.ok.exfs,I.ok.funs,I.ok.frf⟩,
  I.os,I.bare,I.base,I.loc,I.cell,I.free,I.freeC,λ p hp=>I.pin p (by rw [cg];exact hp),I.hok,I.len⟩
def Inv.tosuite {pn:A2} {a:Addr} (I:Inv (X.pinned pn) [] σ H s):Inv (X.suite pn a) [] σ H s :=
 ⟨⟨I.ok.mod,I.ok.kind,I.ok.glob,I.ok.blt,I.ok.above,I.ok.inj,I.ok.has,I.ok.cab,λ h=>Bool.noConfusion h,I.ok.frames,I.ok.stk,I.ok.exf,I.ok.bs,I.ok.bsz,I.ok.noex,I.ok.exfs,I.ok.funs,I.ok.frf⟩,
  I.os,I.bare,I.base,I.loc,I.cell,I.free,I.freeC,I.pin,I.hok,I.len⟩
def Inv.ofsuite {pn:A2} {a:Addr} (hd:X.calm=true->X.A.handled=none) (I:Inv (X.suite pn a) [] σ H s):Inv (X.pinned pn) [] σ H s :=
 ⟨⟨I.ok.mod,I.ok.kind,I.ok.glob,I.ok.blt,I.ok.above,I.ok.inj,I.ok.has,I.ok.cab,hd,I.ok.frames,I.ok.stk,I.ok.exf,I.ok.bs,I.ok.bsz,I.ok.noex,I.ok.exfs,I.ok.funs,I.ok.frf⟩,
  I.os,I.bare,I.base,I.loc,I.cell,I.free,I.freeC,I.pin,I.hok,I.len⟩
def Zg {M:Model} {A:Ao} {E:A3} {i:Nat} {n:Str} {pos:Pos} (I:Inv X m4 σ H s) (hN:X.N.Nodup) (hi:X.N[i]?=some n) (hlo:X.env.kindOf n=some .local)
  (hQ:∀ s',Inv X m4 (σ.set i none) H s'->Q () s'):wpAny M A (do bindName X.env n .none;unbindBehindTheSuite X.env n pos) Q E s:=by
 obtain ⟨m,hn,hl⟩:=id I.loc;have hcls:(X.env.scope.kind == .class || (X.env.scope.kind == .module && X.env.locals != X.env.globals))=false:=by rw [I.ok.kind];rfl
 refine wpAny_nameGoes_keeps hlo hn hcls λ h' v hn' hs=>?_;have iσ:i < σ.length:=by rw [I.len];exact (aa.mp hi).1
 obtain ⟨oL,_,_,hoL,_⟩:=id hn;have cne:=I.cne;refine hQ _ ⟨I.ok,I.os,I.bare,⟨λ b o e n hb hx=>?_,λ b o e n hb hx=>?_,I.base.free,λ b o e hx=>?_,I.base.tups,I.base.frzs,I.base.tbls⟩,⟨_,hn',λ j y v' e1 e2 e3=>?_⟩,λ y c e=>?_,I.free,I.freeC,λ p hp=>?_,λ b ob e=>?_,by simpa using I.len⟩
 ·exact (hs.2 b (aH (aG (au e) I.ok.above))).trans (I.base.keep b o e n hb hx)
 ·obtain ⟨sl,e1⟩:=I.base.slot b o e n hb hx;exact ⟨sl,(hs.2 b (aH (aG (au e) I.ok.above))).trans e1⟩
 ·obtain ⟨o',e1⟩:=I.base.there b o e hx;exact ⟨o',(hs.2 b (aH (aG (au e) I.ok.above))).trans e1⟩
 ·by_cases hj:j=i
  ·subst hj;rw [aS iσ] at e2;cases e2
  ·rw [be (aX hj)] at e2;obtain ⟨u',r',q⟩:=hl j y v' e1 e2 e3;refine ⟨u',r',?_⟩;rcases q with ⟨k,e⟩|⟨k,c,e,z⟩
   ·refine .inl ⟨k,?_⟩;have:y≠n:=λ e=>hj (Xi hN e1 (e ▸ hi));simp [this,e]
   ·exact .inr ⟨k,c,e,z.sameBut hs (cne y c e)⟩
 ·obtain ⟨w',z⟩:=I.cell y c e;exact ⟨w',z.sameBut hs (cne y c e)⟩
 ·obtain ⟨e,n,ne,nf,d⟩:=I.pin p hp;exact ⟨(hs.2 p.1 ne).trans e,n,ne,nf,d⟩
 ·refine (I.hok b ob e).stay (λ c w' hc q=>(hs.2 c ?_).trans q) (λ _ q=>q) λ _ _ q=>q;rintro rfl;rcases hc with z|hc
  ·rw [<- z] at e;rw [I.free] at e;cases e
  ·rw [I.free] at hc;cases hc
end
def za7 {M:Model} {A:Ao} {E:A3} {e C D:Addr} {b:Bool} {Q:Bool->Shared->Prop} (X:K.In s.heap) (he:s.heap.get? e=some oe) (hcls:oe.cls=.ref C)
  (k1:kitCls K (.ref C) (.ref D)=some b) (k2:subIn K (.ref D) (.type "BaseException")=some true) (hq:Q b s):wpAny M A (excMatches (.ref e) (.ref D)) Q E s:=by
 obtain ⟨L1,L2,L3⟩:=PySem.W.kit_cls (M:=M) X k1;have L4:=fO (M:=M) X k2;have f:=tc_notTuple;obtain ⟨hp,g,d,tk,os⟩:=s;unfold excMatches
 repeat (first|(with_reducible refine wpAny_loadPart_at he ?_;rw [hcls])|with_reducible refine L1.at ?_|with_reducible refine L2.at ?_|with_reducible refine L3.at ?_|with_reducible refine L4.at ?_|wp_step)
 cases b
 ·wp_walk
  exact hq
 ·wp_walk
  exact hq
section
variable {X:Cx} {G:GK} {x n:Str} {np pos hpos:Pos} {i:Nat} {body suite:List Stmt} {b₀:Stmt} {tb:List (Addr × Obj)->GK->TS} {th:List (Addr × Obj)->Addr->TS}
def tTryAs (X:Cx) (i:Nat) (x:Str) (tb:List (Addr × Obj)->GK->TS) (th:List (Addr × Obj)->Addr->TS):TS:=λ D σ H=>∃ Dc,X.mg x=some (.ref Dc)/\subIn X.K (.ref Dc) (.type "BaseException")=some true /\
 ∀ pn,tb pn (λ cls σ' H'=>∃ C,cls=.ref C/\kitCls X.K (.ref C) (.ref Dc)=some true/\∀ a,H' a=none ->
  th pn a { nx:=λ σ2 H2=>D.nx (σ2.set i none) H2,rt:=D.rt,bk:=λ σ2 H2=>D.bk (σ2.set i none) H2,ct:=λ σ2 H2=>D.ct (σ2.set i none) H2 } (σ'.set i (some (.ref a))) (upd H' a (zcf a (.ref C)))) D σ H
theorem zdI (B:Bod X) (hc:X.calm=true) (hN:X.N.Nodup) (hi:X.N[i]?=some n) (hlo:X.env.kindOf n=some .local)
  (hb:∀ pn G',PSs ((X.pinned pn).exg G') body (tb pn G')) (hs:∀ pn a,PSs (X.suite pn a) (b₀ :: suite) (th pn a)) (hg:Gl X x:=by rfl) (hdb:(x == ("__debug__":Str))=false:=by decide) :
  PS (X.exg G) (.Try body [.ExceptHandler (some (.Name x np)) (some n) (b₀ :: suite) hpos] [] [] pos) (tTryAs X i x tb th):=by
 intro m4 s σ H D I h;obtain ⟨Dc,hm,hsub,h⟩:=h;have I1:=I.unwish.topn;refine wpAny_Try_except (aU (hb (X.pn ++ m4) _ [] s σ H D (I1.wish _) (h (X.pn ++ m4))) (λ f s1 q=>?_) λ e s1 q=>?_)
 ·cases f with
  | next =>
   obtain ⟨σ',H',J,q⟩:=q;exact cW ⟨σ',H',J.unwish.ofpn.wish _,q⟩
  | brk=>obtain ⟨σ',H',J,q⟩:=q;exact ⟨σ',H',J.unwish.ofpn.wish _,q⟩
  | cont=>obtain ⟨σ',H',J,q⟩:=q;exact ⟨σ',H',J.unwish.ofpn.wish _,q⟩
  | ret u=>obtain ⟨v,σ',H',J,r,q⟩:=q;exact ⟨v,σ',H',J.unwish.ofpn.wish _,r,q⟩
 ·refine aU (show wpAny _ _ _ _ _ _ from q) (λ _ s2 q2=>aU q2 (λ _ s3 q3=>?_) λ _ _ z=>z.elim) λ _ _ z=>z.elim;obtain ⟨a,cls,σ',H',rfl,J,xx,C,rfl,hk,hth⟩:=q3;have J2:Inv (X.suite (X.pn ++ m4) a) [] σ' H' s3:=J.tosuite;obtain ⟨oe,vs,he,hcls,_,_⟩:=xx.obj;refine wpAny_handleBy_cons (codeAny_handlers_test (wq J2 hg hm (za7 J2.kIn he hcls hk hsub ?_) hdb)) (by intro z;cases z);refine codeAny_handlers_suite_as ?_;refine zcc J2 (xx.less λ p hp=>by rwa [cg] at hp) λ s4 J4 x4=>?_;have J5:=J4.track (u:=zcf a (.ref C)) x4.Ha x4.ga (let ⟨o,vs,e,_,_,d⟩:=x4.obj;⟨o,vs,e,d⟩) x4.pa (zgE x4.obj);refine ZV (X:=X.suite (X.pn ++ m4) a) (v:=.ref a) J5 hN hi (Or.inl hlo) rfl (λ s5 J6=>?_) (Or.inr hlo);refine aU (hs (X.pn ++ m4) a [] s5 _ _ _ J6 (hth a xx.Ha)) (λ f s6 q6=>?_) λ _ _ z=>False.elim z;cases f with
  | next =>
   obtain ⟨σ7,H7,J7,q7⟩:=q6;exact Zg (X:=X.suite (X.pn ++ m4) a) J7 hN hi hlo λ s8 J8=>⟨_,H7,(J8.ofsuite I.ok.hd).ofpn.wish _,q7⟩
  | brk =>
   obtain ⟨σ7,H7,J7,q7⟩:=q6;exact Zg (X:=X.suite (X.pn ++ m4) a) J7 hN hi hlo λ s8 J8=>⟨_,H7,(J8.ofsuite I.ok.hd).ofpn.wish _,q7⟩
  | cont =>
   obtain ⟨σ7,H7,J7,q7⟩:=q6;exact Zg (X:=X.suite (X.pn ++ m4) a) J7 hN hi hlo λ s8 J8=>⟨_,H7,(J8.ofsuite I.ok.hd).ofpn.wish _,q7⟩
  | ret u =>
   obtain ⟨v,σ7,H7,J7,r7,q7⟩:=q6;exact Zg (X:=X.suite (X.pn ++ m4) a) J7 hN hi hlo λ s8 J8=>⟨v,_,H7,(J8.ofsuite I.ok.hd).ofpn.wish _,r7,q7⟩
end
structure FA (K:A0) (mg:A4) (x:Str) (st:Stmt) (ps:A8):Prop where
 ex:∃ f fd,Fun K x x st f fd/\mg x=some (.ref f)/\Binds K fd ps []
def FA.cal {st:Stmt} {k:Nat} (h:FA K mg x st ps) (ok:∀ {f fd},Fun K x x st f fd->FnOk P w K mg base (CXr P w) k f fd ps sp) :
  Cal P w K mg base x k ps [] sp:=by
 obtain ⟨f,fd,F,m,b⟩:=h.ex;exact ⟨f,fd,[],ok F,m,F.kp,b,.nil⟩
def ziT {h:Heap} {st:Stmt} {f:Addr} {oc:Am} {od an:Aa} {osl:Ae} {kV doc pm cdv ct:Am} (X:K.In h) (G:h.Ns mainGlobals mg)
  (a:nsIn K mainGlobals x=some (some (.ref f))) (l:K.lookup f=some ⟨oc,od,.func (fnOf x x (zW st) (zO st) (zd st) .none kV doc pm an cdv ct),osl⟩)
  (c:codeIn K cdv x=true) (k:keepIn K (.ref f)=true)
  (hb:∀ (kV doc pm:Am) (an:Aa) (cdv ct:Am) (us:A7),us.length=ps.length->bindArgs (fnOf x x (zW st) (zO st) (zd st) .none kV doc pm an cdv ct) ⟨us,[]⟩=pure (ps.zip us)):FA K mg x st ps :=
 ⟨f,_,vh l c k,b8 X G a,(vh l c k).binds hb⟩
def zd7 {e:Am} {s':An} (h:CXr P w [] H s (λ _ _ _=>False) e s'):False:=by
 obtain ⟨_,_,_,_,_,_,_,_,_,z⟩:=h;exact z
end L2
namespace L2
open PySem PySem.Spec PySem.Calls PyProof.Rows
variable {K:A0} {C:Addr} {st:Stmt} {ps:A8}
structure XI (K:A0) (C:Addr):Prop where
 ga:findIn K (.ref C) "__getattribute__"=some (some (.builtin "BaseException.__getattribute__"))
 gt:findIn K (.ref C) "__getattr__"=some none
 cl:findIn K (.ref C) "__class__"=some (some (.builtin "object.__class__"))
 hd:hasDictIn K C=true
 gn:specialIn K (.builtin "object.__class__") "__get__"=some (some (.builtin "getset_descriptor.__get__"))
 tk:takesIn K (.builtin "object.__class__")=some true
 mo:mroIn K C (.type "object")=some true
 mb:subIn K (.ref C) (.type "BaseException")=some true
section
variable {prog:Af} {w:World} {A:Ao} {E:A3} {s:An} {K:A0} {a C:Addr} {o:Obj} {vs:Ac}
def za8 {hp:Heap} (hx:hp.get? a=some o) (hc:o.cls=.ref C) (hd:o.dict=none) (hv:o.data=.fields vs):PySem.W.InstAt hp a o C none:=by
 refine ⟨hx,hc,?_,?_⟩
 ·obtain ⟨c,d,dt,sl⟩:=o;simp only at hv;subst hv
  rfl
 ·rw [hd]
  trivial
def zd4 {Q:Option Value->Shared->Prop} (X:K.In s.heap) (f:XI K C) (hx:s.heap.get? a=some o) (hc:o.cls=.ref C) (hd:o.dict=none) (hv:o.data=.fields vs)
  (h:Q (some (.ref C)) { s with toks:=s.toks + 1 }):wpAny (model prog w) A (getAttr? (.ref a) "__class__") Q E s:=by
 have I:=za8 hx hc hd hv;have hf:PySem.W.findObj K C none "__class__"=some (.bind (.builtin "getset_descriptor.__get__") (.builtin "object.__class__")):=by
   obtain ⟨cd,hcd,_⟩:=fX f.hd;simp [PySem.W.findObj,hcd,f.cl,f.gn,f.tk]
 obtain ⟨hh,g,d,t,os⟩:=s;have T0:=I.type (M:=model prog w);have T1:=looks_findIn (M:=model prog w) X f.ga;have T2:=PySem.W.looks_find (M:=model prog w) X I hf;have T3:=looks_findIn (M:=model prog w) X f.gt;have T4:=fO (M:=model prog w) X f.mb;have f3:=F.attr_ValueError.ga.bind (.ref a);unfold getAttr? getAttrBy? getAttrBy;refine ai (wpAny_mkText (ai (fV (d6 (ai (T0.at (ai (T1.at ?_))))))));dsimp only;have nga:(onTheHeap (Value.ref C) && Value.builtin "BaseException.__getattribute__" == Value.builtin "object.__getattribute__")=false:=by
  have z:(Value.builtin "BaseException.__getattribute__" == Value.builtin "object.__getattribute__")=false:=by decide +kernel
  rw [z,cC]
 rw [nga,ao aB];unfold getAttrByItsOwn
 repeat (any_goals (first|assumption|with_reducible refine T0.at ?_|with_reducible refine T3.at ?_|with_reducible refine T1.at ?_|wp_step))
 refine codeAny_call_builtin F.attr_ValueError.ga.plain F.entry_bexc_ga ?_;have hk:builtinKind "BaseException.__getattribute__"=some .slot:=by decide +kernel
 have hsp:splitId "BaseException.__getattribute__"=some ("BaseException","__getattribute__"):=by decide +kernel
 have hav:=F.args_bexc_ga (.ref a) (Value.str (Str.ofString "__class__") t);simp only [checkBuiltinCall,hk,hsp];refine ai ?_;unfold isInstance
 repeat (first|with_reducible refine T2.at ?_|with_reducible refine T0.at ?_|with_reducible refine T4.at ?_|wp_step)
 refine PySem.W.class_get (s:=⟨hh,g,d,t + 1,os⟩) (ox:=o) (od:=none) X I f.mo ?_;refine aD ?_;refine PySem.W.handed_on rfl ?_;exact aD h
def zfj {vs:Ac} (f:XI K C):PySem.W.KitX K (.ref a) (.ref C) (λ h=>∃ o vs,h.get? a=some o/\o.cls=.ref C/\o.dict=none/\o.data=.fields vs) where
 ty:=λ M h _ ⟨o,vs,e,c,d,v⟩=>(za8 e c d v).type
 it:=λ _ _ X _=>by
  obtain ⟨cd,hcd,_⟩:=fX f.hd;unfold PySem.W.clsIn at hcd
  split at hcd
  ·rename_i c' d' cd' sl' ho;intro A' Q' E' s' k q;unfold isType loadHead;exact ai (wpAny_loadPart (k _ _ (X _ _ ho)) (aD q))
  ·cases hcd
 ne:=λ h tp dd mY n sl X htp=>by
  obtain ⟨cd,hcd,_⟩:=fX f.hd;refine Bool.eq_false_iff.mpr λ q=>?_;have e:C=tp:=Value.ref.inj (bx.mp q);subst e;unfold PySem.W.clsIn at hcd
  split at hcd
  ·rename_i ho;have z:=(X _ _ ho).symm.trans htp;cases z
  ·cases hcd
 ca:=λ X ⟨o,vs,e,c,d,v⟩ k=>zd4 X f e c d v k
end
inductive TyX (K:A0) (H:Hp):V->Value->Prop where
 | old {x:V} {t:Am} (h:TyOf K H x t):TyX K H x t
 | exc {a C:Addr} (h:H a=some (zcf a (.ref C))) (f:XI K C):TyX K H (.ref a) (.ref C)
noncomputable def zc8:List V->Option A7
 | []=>some []
 | c :: r=>match zgK c,zc8 r with
  | some u,some us=>some (u :: us)
  | _,_=>none
def zc9 {c:V} {u v:Am} (h:zgK c=some u) (r:RelV c v):v=u:=by
 cases c with
 | ty n=>cases r;exact aI h
 | ref a=>cases r;exact aI h
 | _=>cases h
theorem zbd:∀ {cs:Ap} {us vs:A7},zc8 cs=some us->Vals cs vs->vs=us
 | [],_,_,h,.nil=>aI h
 | c :: r,us,v :: vs,h,.cons rc rr=>by
  unfold zc8 at h
  split at h
  ·rename_i u us' h1 h2;cases h;rw [zc9 h1 rc,zbd h2 rr]
  ·cases h
theorem zhQ {X:Cx} {m4:A2} {σ:St} {H:Hp} {s:An} {x:V} {u t:Am} (I:Inv X m4 σ H s) (rx:RelV x u) (ty:TyX X.K H x t) :
  ∃ Hx:Heap->Prop,PySem.W.KitX X.K u t Hx/\Hx s.heap/\u≠.builtin "__main__.__loader__#opaque":=by
 cases ty with
 | @exc a C ea f =>
  cases (show u=Value.ref a from rx);obtain ⟨p,_⟩:=(show ObjOk X.prog X.w H s.heap a (zcf a (.ref C)) from I.hok a _ ea);exact ⟨_,zfj (vs:=#[]) f,p,λ z=>nomatch z⟩
 | old ty =>
  cases ty with
  | non=>cases (show u=Value.none from rx);exact ⟨_,PySem.W.kitx_none,True.intro,λ z=>nomatch z⟩
  | bl y=>cases (show u=Value.bool y from rx);exact ⟨_,PySem.W.kitx_bool,True.intro,λ z=>nomatch z⟩
  | int i=>obtain ⟨t,q⟩:=(show ∃ t,u=Value.int i t from rx);cases q;exact ⟨_,PySem.W.kitx_int,True.intro,λ z=>nomatch z⟩
  | str y=>obtain ⟨t,q⟩:=(show ∃ t,u=Value.str y t from rx);cases q;exact ⟨_,PySem.W.kitx_str,True.intro,λ z=>nomatch z⟩
  | flt y=>obtain ⟨t,q⟩:=(show ∃ t,u=Value.float y t from rx);cases q;exact ⟨_,PySem.W.kitx_float,True.intro,λ z=>nomatch z⟩
  | @lst a xs ea =>
   cases (show u=Value.ref a from rx);obtain ⟨_,_,n,_,h1⟩:=(show ObjOk X.prog X.w H s.heap a (.lst xs) from I.hok a _ ea);exact ⟨_,PySem.W.kitx_list,⟨_,h1,rfl⟩,λ z=>nomatch z⟩
  | @frz a ob xs ea =>
   cases (show u=Value.ref a from rx);obtain ⟨_,_,_,n,_,h1⟩:=(show ObjOk X.prog X.w H s.heap a (.frz ob (.lst xs)) from I.hok a _ ea);exact ⟨_,PySem.W.kitx_list,⟨_,h1,rfl⟩,λ z=>nomatch z⟩
  | @tup a xs ea =>
   cases (show u=Value.ref a from rx);obtain ⟨_,_,_,p⟩:=(show ObjOk X.prog X.w H s.heap a (.tup xs) from I.hok a _ ea);obtain ⟨o,h1,h2,_⟩:=p;exact ⟨_,PySem.W.kitx_tuple,⟨o,h1,h2⟩,λ z=>nomatch z⟩
  | @dK a m9 ea =>
   cases (show u=Value.ref a from rx);obtain ⟨_,_,vs,_,p⟩:=(show ObjOk X.prog X.w H s.heap a (.dK m9) from I.hok a _ ea);obtain ⟨o,es,ep,h1,h2,_⟩:=p;exact ⟨_,PySem.W.kitx_dict,⟨o,h1,h2.1⟩,λ z=>nomatch z⟩
  | @dT a m9 ea =>
   cases (show u=Value.ref a from rx);obtain ⟨_,_,xs,_,o,es,ep,h1,h2,_⟩:=(show ObjOk X.prog X.w H s.heap a (.dT m9) from I.hok a _ ea);exact ⟨_,PySem.W.kitx_dict,⟨o,h1,h2.1⟩,λ z=>nomatch z⟩
  | @ins a C dx fs ea cl ha hn htk hm =>
   cases (show u=Value.ref a from rx);obtain ⟨mA,O,_⟩:=Jz I.hok ea;obtain ⟨od,J,_⟩:=O.look;exact ⟨_,PySem.W.kitx_own (cl.get _) cl.hd ha hn htk hm,J,λ z=>nomatch z⟩
def zdF (K:A0):List V->Hp->VK->Prop:=λ xs H Q=>∃ x c t b,xs=[x,c]/\TyX K H x t/\((∃ u,zgK c=some u/\kitOne K t u=some b)\/(∃ p cs us,c=.ref p/\H p=some (.tup cs)/\zc8 cs=some us/\PySem.W.kitAny K t us=some b))/\Q (.bl b) H
def vY {X:Cx}:CallR X (.builtin "isinstance") (zdF X.K):=by
 intro m4 s σ H xs us Q I r h;obtain ⟨x,c,t,b,rfl,ty,hc,q⟩:=h;obtain ⟨v,v2,rfl,rx,rc⟩:=r.two;obtain ⟨Hx,Z,p,nx⟩:=zhQ I rx ty;rcases hc with ⟨u,hu,e⟩|⟨pt,cs,us,rfl,hp,hu,e⟩
 ·obtain rfl:=zc9 hu rc;exact PySem.W.kia_one Z I.kIn p e nx λ tk=>⟨.bl b,H,I.tok tk,rfl,q⟩
 ·cases rc;obtain ⟨_,mY,rv,o,h1,h2,n,h3⟩:=(show ObjOk X.prog X.w H s.heap pt (.tup cs) from I.hok pt _ hp);obtain rfl:=zbd hu rv;obtain ⟨cl,dd,dt,sl⟩:=o;simp only at h2 h3;subst h2 h3;exact PySem.W.kia_tup Z I.kIn p h1 e nx λ tk=>⟨.bl b,H,I.tok tk,rfl,q⟩
def zdU {t:Am} {D:Addr} {b:Bool} (h1:hasDictIn K D=true) (h2:typeIn K (.ref D)=some (.type "type")) (h3:subIn K t (.ref D)=some b):kitCls K t (.ref D)=some b:=by
 obtain ⟨cd,hcd,_⟩:=fX h1;simp [kitCls,hcd,h2,h3]
structure FK (K:A0) (C:Addr) (qual:Str) (st:Stmt) (ps:A8):Prop where
 ex:∃ f fd,Fun K "__init__" qual st f fd/\Mk K C f/\Binds K fd ps []
structure FM (K:A0) (C:Addr) (m qual:Str) (st:Stmt) (ps:A8):Prop where
 ex:∃ f fd,Fun K m qual st f fd/\Meth K C m f/\Binds K fd ps []
def FK.cal {P:Af} {w:World} {mg:A4} {base:Heap} {x:Str} {qual:Str} {k:Nat} {sp:Sp} (h:FK K C qual st ps) (gl:mg x=some (.ref C))
  (ok:∀ {f fd},Fun K "__init__" qual st f fd->FnOk P w K mg base (CXr P w) k f fd ps sp):KCal P w K mg base x C k ps [] sp:=by
 obtain ⟨f,fd,F,m,b⟩:=h.ex;exact ⟨gl,f,fd,[],ok F,m,b,.nil⟩
def FM.cal {P:Af} {w:World} {mg:A4} {base:Heap} {m qual:Str} {k:Nat} {sp:Sp} (h:FM K C m qual st ps) (cl:Cls K C)
  (ok:∀ {f fd},Fun K m qual st f fd->FnOk P w K mg base (CXr P w) k f fd ps sp):MCal P w K mg base C m k ps [] sp:=by
 obtain ⟨f,fd,F,mm,b⟩:=h.ex;exact ⟨cl,f,fd,[],ok F,mm,b,.nil⟩
def ziQ {qual:Str} {f:Addr} {oc:Am} {od an:Aa} {osl:Ae} {kV doc pm cdv ct:Am} (mk:makesIn K C=true) (kc:keepIn K (.ref C)=true)
  (a:findIn K (.ref C) "__init__"=some (some (.ref f))) (i:isFn K (.ref f)=true) (l:K.lookup f=some ⟨oc,od,.func (fnOf "__init__" qual (zW st) (zO st) (zd st) .none kV doc pm an cdv ct),osl⟩)
  (c:codeIn K cdv qual=true) (k:keepIn K (.ref f)=true)
  (hb:∀ (kV doc pm:Am) (an:Aa) (cdv ct:Am) (us:A7),us.length=ps.length->bindArgs (fnOf "__init__" qual (zW st) (zO st) (zd st) .none kV doc pm an cdv ct) ⟨us,[]⟩=pure (ps.zip us)):FK K C qual st ps :=
 ⟨f,_,vh l c k,⟨mk,a,i,kc⟩,(vh l c k).binds hb⟩
def ziP {m qual:Str} {f:Addr} {oc:Am} {od an:Aa} {osl:Ae} {kV doc pm cdv ct:Am}
  (a:findIn K (.ref C) m=some (some (.ref f))) (i:isFn K (.ref f)=true) (l:K.lookup f=some ⟨oc,od,.func (fnOf m qual (zW st) (zO st) (zd st) .none kV doc pm an cdv ct),osl⟩)
  (c:codeIn K cdv qual=true) (k:keepIn K (.ref f)=true)
  (hb:∀ (kV doc pm:Am) (an:Aa) (cdv ct:Am) (us:A7),us.length=ps.length->bindArgs (fnOf m qual (zW st) (zO st) (zd st) .none kV doc pm an cdv ct) ⟨us,[]⟩=pure (ps.zip us)):FM K C m qual st ps :=
 ⟨f,_,vh l c k,⟨a,i,k⟩,(vh l c k).binds hb⟩
structure WI (K:A0) (C:Addr):Prop where
 c:findIn K (.ref C) "__class__"=some (some (.builtin "object.__class__"))
 m:mroIn K C (.type "object")=some true
 g:specialIn K (.builtin "object.__class__") "__get__"=some (some (.builtin "getset_descriptor.__get__"))
 t:takesIn K (.builtin "object.__class__")=some true
def WI.ty {H:Hp} {a C dx:Addr} {fs:Ar} (f:WI K C) (cl:Cls K C) (h:H a=some (.ins C dx fs)):TyX K H (.ref a) (.ref C):=.old (.ins h cl f.c f.g f.t f.m)
end L2
namespace L2
open PySem PySem.Spec PySem.Calls PyProof.Rows
section
variable {prog:Af} {w:World} {A:Ao} {E:A3} {s:An}
theorem Zy:∀ {ns:A6} {mY:A7},Vals (ns.map V.int) mY->∀ (i:Nat) (v:Am),mY[i]?=some v->∃ t,v=.int (ns[i]?.getD 0) t
 | [],_,.nil,i,v,h=>by simp at h
 | n :: ns,_,.cons (b:=y) ⟨t,e⟩ r,0,v,h=>by
  have:y=v:=by simpa using h
  exact ⟨t,by rw [<- this,e];rfl⟩
 | n :: ns,_,.cons _ r,i + 1,v,h=>by
  obtain ⟨t,e⟩:=Zy r i v (by simpa using h);exact ⟨t,by simpa using e⟩
end
section
variable {X:Cx} {a e:Expr} {ta:TA} {te:TE} {pos p kp:Pos}
def zbx:SlR X (zhv X.K):=zf7
def Zj:CallR X (.type "list") (λ xs H Q=>∃ p ys,xs=[.ref p]/\(SqL X.K H p ys\/SqT X.K H p ys)/\∀ l,H l=none->Q (.ref l) (upd H l (.lst ys))):=VT
end
end L2
namespace L2
open PySem PySem.Spec PySem.Calls PyProof.Rows
section
variable {X:Cx} {v v1 v2:Expr} {es:List Expr} {te:TE} {pos p:Pos}
def ziq (t u:TS):TS:=λ D σ H=>∃ M:St->Hp->Prop,t { D with nx:=M } σ H/\∀ σ' H',M σ' H'->u D σ' H'
def qM {st:Stmt} {rest:List Stmt} {t u:TS} (h1:PS X st t) (h2:PSs X rest u):PSs X (st :: rest) (ziq t u):=by
 intro m4 s σ H D I ⟨M,ht,hu⟩;refine eM (thn (h1 m4 s σ H _ I ht) λ f s1 q=>?_);cases f with
 | next=>exact let ⟨σ',H',I',q⟩:=q;h2 m4 s1 σ' H' D I' (hu σ' H' q)
 | _=>exact q
def zg1 (t u:TS):TS:=λ D σ H=>tSeq t u D σ H
def zj {st:Stmt} {rest:List Stmt} {t u:TS} (h1:PS X st t) (h2:PSs X rest u):PSs X (st :: rest) (zg1 t u):=show PSs X (st :: rest) (tSeq t u) from zi h1 h2
structure Nx (N:St->Hp->Prop) (u:TS) (D:Ends):Prop where
 h:∀ σ H,u D σ H->N σ H
def nxt {t u:TS} {D:Ends} {σ:St} {H:Hp} (k:∀ N,Nx N u D->t { D with nx:=N } σ H):zg1 t u D σ H:=k (u D) ⟨λ _ _ h=>h⟩
def useN {N:St->Hp->Prop} {u:TS} {D:Ends} {σ:St} {H:Hp} (n:Nx N u D) (q:u D σ H):N σ H:=n.h σ H q
def cut {t u:TS} {D:Ends} {σ:St} {H:Hp} (M:St->Hp->Prop) (h1:t { D with nx:=M } σ H) (h2:∀ σ' H',M σ' H'->u D σ' H'):ziq t u D σ H:=⟨M,h1,h2⟩
end
end L2
namespace L2
open PySem PySem.Spec PySem.Calls PyProof.Rows
section
variable {X:Cx} {k:Nat} {x m:Str} {p pos apos:Pos} {e o:Expr} {es:List Expr} {ta:TE} {t:TA}
def passF:zcr (CXr X.prog X.w) X (λ _ _ _=>False):=λ _ _ _ _ _ _ _ h=>let ⟨_,_,_,_,_,_,_,_,_,z⟩:=h;z.elim
def tClN (X:Cx) (k:Nat) (x:Str) (t:TA):TE:=λ σ H Q=>∃ ps dvs sp,Cal X.prog X.w X.K X.mg X.base x k ps dvs sp/\t σ H λ vs H1=>sp (vs ++ dvs) H1 Q (λ _ _ _=>False)
def vH (hr:Room k X.A) (ha:PA X (e :: es) t) (hg:Gl X x:=by rfl) (hdb:(x == ("__debug__":Str))=false:=by decide)
  (he:starEach (e :: es) X.env=(false,eval e X.env) :: starEach es X.env:=by rfl) (hpl:(backTo pos (starEach es X.env)).any (·.1)=false:=by rfl) :
  PE X (.Call (.Name x p) (e :: es) [] pos) (tClN X k x t):=by
 intro m4 s σ H Q I h;obtain ⟨ps,dvs,sp,⟨f,fd,ds,F,hm,hk,hb,hd⟩,h⟩:=h;refine bw (wq I hg hm ?_ hdb);refine dg (h₀:=X.base) I.ok.mod.kin hk (vy (ha pos m4 s σ H _ I h) λ us s1 vs H1 I1 r q=>⟨I1.kIn,?_⟩) he hpl;exact zbI F hr hb hd passF I1 r q
def tMkN (X:Cx) (k:Nat) (x:Str) (t:TA):TE:=λ σ H Q=>∃ C ps dvs sp,KCal X.prog X.w X.K X.mg X.base x C k ps dvs sp/\t σ H λ vs H1=>∀ y dx,H1 y=none->H1 dx=none->dx≠y ->
 sp (.ref y :: (vs ++ dvs)) (upd (upd H1 dx (.own y)) y (.ins C dx [])) (λ v H2=>v=.non/\Q (.ref y) H2) (λ _ _ _=>False)
def zhD (hr:Room (k + 1) X.A) (ha:PA X (e :: es) t) (hg:Gl X x:=by rfl) (hdb:(x == ("__debug__":Str))=false:=by decide)
  (he:starEach (e :: es) X.env=(false,eval e X.env) :: starEach es X.env:=by rfl) (hpl:(backTo pos (starEach es X.env)).any (·.1)=false:=by rfl) :
  PE X (.Call (.Name x p) (e :: es) [] pos) (tMkN X k x t):=by
 intro m4 s σ H Q I h;obtain ⟨C,ps,dvs,sp,⟨hm,f,fd,ds,F,M,hb,hd⟩,h⟩:=h;refine bw (wq I hg hm ?_ hdb);refine dg (h₀:=X.base) I.ok.mod.kin M.kp (vy (ha pos m4 s σ H _ I h) λ us s1 vs H1 I1 r q=>⟨I1.kIn,?_⟩) he hpl;exact zeH M F hr hb hd passF I1 r q
def tMthN (X:Cx) (k:Nat) (m:Str) (ta:TE) (t:TA):TE:=λ σ H Q=>ta σ H λ y H1=>∃ a C dx fs ps dvs sp,y=.ref a/\H1 a=some (.ins C dx fs)/\fs.lookup m=none /\
 MCal X.prog X.w X.K X.mg X.base C m k ps dvs sp/\t σ H1 λ vs H2=>sp (.ref a :: (vs ++ dvs)) H2 Q (λ _ _ _=>False)
def zgp {pl:Sem Bool} (hr:Room k X.A) (he:PE X o ta) (ha:PA X (e :: es) t)
  (hst:starEach (e :: es) X.env=(false,eval e X.env) :: starEach es X.env:=by rfl) (hpl:(backTo pos (starEach es X.env)).any (·.1)=false:=by rfl)
  (ht:eval (.Call (.Attribute o m apos) (e :: es) [] pos) X.env=(do
   let ov <- eval o X.env
   standAt apos.atName
   let (f,first) <- holding [ov] (getMethod ov m pl)
   callWith pos f first (backTo pos (starEach (e :: es) X.env)) (backToKw pos (keywordEach [] X.env))):=by rfl) :
  PE X (.Call (.Attribute o m apos) (e :: es) [] pos) (tMthN X k m ta t):=by
 intro m4 s σ H Q I h;refine dC (pl:=pl) (thn (he m4 s σ H _ I h) λ u s1 hz=>?_) ht;obtain ⟨x,H1,I1,rx,a,C,dx,fs,ps,dvs,sp,ex,ea,l,⟨c,f,fd,ds,F,hm,hb,hd⟩,q⟩:=hz;subst ex;obtain rfl:u=Value.ref a:=rx;refine vd I1 ea c hm l ?_;refine dg (first:=[.ref a]) (h₀:=X.base) I.ok.mod.kin hm.kp (vy (ha pos m4 s1 σ H1 _ I1 q) λ us s2 vs H2 I2 r q2=>⟨I2.kIn,?_⟩) hst hpl;exact zbI (us:=.ref a :: us) (vs:=.ref a :: vs) F hr hb hd passF I2 (.cons rfl r) q2
def zeW {pl:Sem Bool} (hr:Room k X.A) (he:PE X o ta)
  (ht:eval (.Call (.Attribute o m apos) [] [] pos) X.env=(do
   let ov <- eval o X.env
   standAt apos.atName
   let (f,first) <- holding [ov] (getMethod ov m pl)
   callWith pos f first (backTo pos (starEach [] X.env)) (backToKw pos (keywordEach [] X.env))):=by rfl) :
  PE X (.Call (.Attribute o m apos) [] [] pos) (tMthN X k m ta tNil):=by
 intro m4 s σ H Q I h;refine dC (pl:=pl) (thn (he m4 s σ H _ I h) λ u s1 hz=>?_) ht;obtain ⟨x,H1,I1,rx,a,C,dx,fs,ps,dvs,sp,ex,ea,l,⟨c,f,fd,ds,F,hm,hb,hd⟩,q⟩:=hz;subst ex;obtain rfl:u=Value.ref a:=rx;refine vd I1 ea c hm l ?_;exact fP (first:=[.ref a]) I1.kIn hm.kp (zbI (us:=[.ref a]) (vs:=[.ref a]) F hr hb hd passF I1 (.cons rfl .nil) q)
end
noncomputable def jk (cells:List (Str × Addr)):List (Str × NameKind)->List (Str × Addr)->List (Str × Addr)
 | [],cs=>cs
 | (n,k) :: r,cs=>if k=.free then jk cells r ((n,(cells.lookup n).getD 0) :: cs) else jk cells r cs
def zd9 (cells:List (Str × Addr)) (ns:List (Str × NameKind)):Prop:=∀ y∈ns,y.2=.free->∃ c,cells.lookup y.1=some c
def Zv {scope:Scope} {env:Env} (h:zd9 env.cells scope.names):closureFor scope env=pure (jk env.cells scope.names []):=by
 simp only [closureFor];have key:∀ (ns:List (Str × NameKind)) (cs:List (Str × Addr)),zd9 env.cells ns ->
   (forIn ns cs λ x r=>if (x.2 == NameKind.free)=true then do let c <- cellOf env x.1;pure (ForInStep.yield ((x.1,c) :: r)) else pure (ForInStep.yield r):Sem (List (Str × Addr)))=pure (jk env.cells ns cs):=by
  intro ns
  induction ns with
  | nil=>intro cs _;rfl
  | cons y r ih =>
   intro cs hc;obtain ⟨n,k⟩:=y;have hr:zd9 env.cells r:=λ z hz=>hc z (aF _ hz);rw [fB];by_cases hk:k=.free
   ·subst hk;obtain ⟨c,e⟩:=hc (n,.free) bT rfl;have e':cellOf env n=pure c:=by unfold cellOf;simp only at e;rw [e]
    simp only [beq_self_eq_true,dP,e',pure_bind];rw [ih _ hr];simp only at e;simp [jk,e]
   ·have hb:(k == NameKind.free)=false:=by simpa using hk
    simp only [hb,cV,dQ,pure_bind];rw [ih _ hr];simp [jk,hk]
 have:=key scope.names [] h
 first
  | exact this
  | (simp only [bind_pure] at *;exact this)
theorem ZQ {cells:List (Str × Addr)} {x:Str} {c:Addr}:∀ {ns:List (Str × NameKind)} {cs:List (Str × Addr)},zd9 cells ns->(∀ c,cs.lookup x=some c->cells.lookup x=some c)->(jk cells ns cs).lookup x=some c->cells.lookup x=some c
 | [],_,_,hs,h=>hs c h
 | (n,k) :: r,cs,hc,hs,h=>by
  have hr:zd9 cells r:=λ z hz=>hc z (aF _ hz);unfold jk at h
  split at h
  ·rename_i hk;obtain ⟨d,e⟩:=hc (n,k) bT hk;refine ZQ hr (λ c' hc'=>?_) h;rw [cD] at hc'
   split at hc'
   ·rename_i hx;have hx:x=n:=by simpa using hx
    subst hx;simp only at e;rw [e] at hc' ⊢;exact hc'
   ·exact hs c' hc'
  ·exact ZQ hr hs h
theorem vU {cells:List (Str × Addr)} {x:Str}:∀ {ns:List (Str × NameKind)} {cs:List (Str × Addr)},(∃ c,cs.lookup x=some c)->∃ c,(jk cells ns cs).lookup x=some c
 | [],_,h=>h
 | (n,k) :: r,cs,h=>by
  unfold jk
  split
  ·refine vU ?_;rw [cD]
   split
   ·exact ⟨_,rfl⟩
   ·exact h
  ·exact vU h
theorem ZP {cells:List (Str × Addr)} {x:Str}:∀ {ns:List (Str × NameKind)} {cs:List (Str × Addr)},(x,NameKind.free)∈ns->∃ c,(jk cells ns cs).lookup x=some c
 | [],_,h=>by simp at h
 | (n,k) :: r,cs,h=>by
  unfold jk;rcases ax.mp h with h|h
  ·cases h;rw [ap rfl];exact vU ⟨(cells.lookup x).getD 0,by rw [cD];simp⟩
  ·split <;> exact ZP h
noncomputable def zeK (scope osc:Scope):Scope :=
 { scope with names:=scope.names.map λ (n,k)=>if (k == .free && osc.kind == .function && osc.names.lookup n == some .cell) then (n,.cell) else (n,k) }
def zbM {scope osc:Scope} {x:Str} (hcell:∀ y∈scope.names,y.2≠.cell) (h:(zeK scope osc).names.lookup x=some .cell\/(zeK scope osc).names.lookup x=some .free):(x,NameKind.free)∈scope.names:=by
 have key:∀ k,(k=.cell\/k=.free)->(zeK scope osc).names.lookup x=some k->(x,NameKind.free)∈scope.names:=λ k hk hl=>by
  have hm:=bA hl;obtain ⟨⟨n,k'⟩,hm',e⟩:=aV.mp hm;simp only at e
  split at e
  ·rename_i hc;simp only [cH,bx] at hc;cases e;rw [<- hc.1.1];exact hm'
  ·cases e;rcases hk with rfl|rfl
   ·exact absurd rfl (hcell _ hm')
   ·exact hm'
 rcases h with h|h
 ·exact key _ (.inl rfl) h
 ·exact key _ (.inr rfl) h
noncomputable def cxC (X:Cx) (N:A8) (scope:Scope) (s:An) (H:Hp) (fp:Ab) (m4:A2):Cx where
 prog:=X.prog
 w:=X.w
 K:=X.K
 mg:=X.mg
 base:=X.base
 A:=X.A
 N:=N
 s₀:=s
 H₀:=H
 env:=compEnvC scope (jk X.env.cells scope.names []) s.heap.objs.size X.env
 outer:=X.stack
 stack:=X.stack
 ex:=fp
 fn:=λ _=>false
 calm:=X.calm
 pn:=X.pn ++ m4
 xe:=λ _ _=>False
noncomputable def stC (nv:Nat) (caps:Aj) (σ:St):St:=List.replicate nv none ++ caps.map λ k=>(σ[k]?).getD none
structure CompOk (osc scope:Scope) (ON:A8) (vars:A8) (caps:Aj):Prop where
 kind:scope.kind=.function
 cell:∀ y∈scope.names,y.2≠.cell
 loc:∀ y∈scope.names,y.2=.local->scope.names.lookup y.1=some .local
 free:∀ y∈scope.names,y.2=.free->osc.names.lookup y.1=some .cell\/osc.names.lookup y.1=some .free
 caps:∀ k∈caps,k < ON.length/\scope.names.lookup (ON.getD k Str.empty)=some .free
noncomputable def zc6 (osc scope:Scope) (ON:A8) (caps:Aj):Bool :=
 scope.kind == .function && scope.names.all (λ y=>y.2 != .cell) && scope.names.all (λ y=>y.2 != .local || scope.names.lookup y.1 == some .local) &&
 scope.names.all (λ y=>y.2 != .free || (osc.names.lookup y.1 == some .cell || osc.names.lookup y.1 == some .free)) && caps.all λ k=>decide (k < ON.length) && scope.names.lookup (ON.getD k Str.empty) == some .free
def zbb {osc scope:Scope} {ON vars:A8} {caps:Aj} (h:zc6 osc scope ON caps=true):CompOk osc scope ON vars caps:=by
 simp only [zc6,cH,bS,bx,bne_iff_ne,Bool.or_eq_true,cY] at h;obtain ⟨⟨⟨⟨h1,h2⟩,h3⟩,h4⟩,h5⟩:=h;refine ⟨h1,h2,λ y hy e=>(h3 y hy).resolve_left (λ z=>z e),λ y hy e=>(h4 y hy).resolve_left (λ z=>z e),λ k hk=>h5 k hk⟩
theorem J1 {osc:Scope} {x:Str}:∀ {ns:List (Str × NameKind)},ns.lookup x=some .free ->
  (ns.map λ (n,k)=>if (k == NameKind.free && osc.kind == .function && osc.names.lookup n == some .cell) then (n,NameKind.cell) else (n,k)).lookup x=some .cell \/
  (ns.map λ (n,k)=>if (k == NameKind.free && osc.kind == .function && osc.names.lookup n == some .cell) then (n,NameKind.cell) else (n,k)).lookup x=some .free
 | [],h=>by simp at h
 | (n,k) :: r,h=>by
  have ih:=@J1 osc x r;rw [bz];show List.lookup x ((if (k == NameKind.free && osc.kind == .function && osc.names.lookup n == some .cell)=true then (n,NameKind.cell) else (n,k)) :: _)=_\/List.lookup x ((if (k == NameKind.free && osc.kind == .function && osc.names.lookup n == some .cell)=true then (n,NameKind.cell) else (n,k)) :: _)=_
  cases hx:x == n with
  | true =>
   simp only [cD,hx] at h;cases h
   split
   ·exact .inl (by simp [cD,hx])
   ·exact .inr (by simp [cD,hx])
  | false =>
   simp only [cD,hx] at h
   split <;> (simp only [cD,hx];exact ih h)
section
variable {X:Cx} {m4:A2} {σ:St} {H:Hp} {s:An} {fp:Ab} {N vars:A8} {caps:Aj} {scope osc:Scope}
theorem zfq (I:Inv X m4 σ H s) (hosc:X.env.scope=osc) (C:CompOk osc scope X.N vars caps) (hN:N=vars ++ caps.map λ k=>X.N.getD k Str.empty)
  (hf:∀ b∈fp,QY X m4 H b) (hfo:∀ b∈fp,∃ o,s.heap.get? b=some o)
  {h':Heap} {tk:Nat} {mm:A4} (hns:h'.Ns s.heap.objs.size mm) (hk:∀ b o,s.heap.get? b=some o->h'.get? b=some o) :
  Inv (cxC X N scope s H fp m4) [] (stC vars.length caps σ) H { s with heap:=h',toks:=tk }:=by
 have hkf:∀ y∈scope.names,y.2=.free->X.env.kindOf y.1=some .cell\/X.env.kindOf y.1=some .free:=λ y hy e=>by
  have z:=C.free y hy e;rw [<- hosc] at z;exact z
 have hcl:zd9 X.env.cells scope.names:=λ y hy e=>I.ok.has y.1 (hkf y hy e);have get:∀ x c,(jk X.env.cells scope.names []).lookup x=some c->X.env.cells.lookup x=some c:=λ x c h=>ZQ hcl (λ c h=>by simp at h) h;refine ⟨⟨I.ok.mod,C.kind,I.ok.glob,I.ok.blt,av _,λ x y c h1 h2=>I.ok.inj x y c (get x c h1) (get y c h2),λ x hx=>ZP (zbM (osc:=X.env.scope) C.cell hx),λ _ _ h _=>Bool.noConfusion h,I.ok.hd,I.ok.frames,.inl rfl,
   λ b hb=>⟨?_,λ x c h=>(hf b hb).2.2.2.2.1 x c (get x c h)⟩,I.bs,a8 I.ok.bsz I.sz,λ b o e hb=>?_,λ b hb z=>(ax.mp (I.stkSub b z)).elim (hf b hb).2.1 (hf b hb).2.2.1,I.stack,I.stkFree⟩,
  rfl,I.bare,Un.kept hk,⟨_,hns,λ i x v e1 e2 e3=>?_⟩,λ x c h=>?_,I.hok.fresh (av _),λ x c h=>I.freeC x c (get x c h),λ p hp=>?_,I.hok.kept hk,?_⟩
 ·obtain ⟨o,e⟩:=hfo b hb;exact aH (au e)
 ·rcases (hf b hb).2.2.2.1 with z|z
  ·exact I.ok.noex b o e z
  ·exact absurd (aG (au (I.ok.bs b o e).1) z) (ci _)
 ·have hi:¬ i < vars.length:=λ hi=>by
   unfold stC at e2;rw [aQ (by simpa using hi),c8] at e2
   split at e2 <;> cases e2
  have e1':(vars ++ caps.map λ k=>X.N.getD k Str.empty)[i]?=some x:=by rw [<- hN];exact e1
  unfold stC at e2;rw [aM (by simpa using hi),a9,ak] at e2;rw [aM (by omega),ak] at e1';cases ek:caps[i - vars.length]? with
  | none=>rw [ek] at e2;cases e2
  | some k =>
   rw [ek] at e1' e2;obtain ⟨hkl,hlk⟩:=C.caps k (ah ek);have ex:X.N.getD k Str.empty=x:=by simpa using e1'
   have es:σ[k]?.getD none=some v:=by simpa using e2
   have es':σ[k]?=some (some v):=by
    cases q:σ[k]? with
    | none=>rw [q] at es;cases es
    | some z=>rw [q] at es;simp only [aJ] at es;rw [es]
   have eN:X.N[k]?=some x:=by
    rw [<- ex,ae,ad hkl];rfl
   rw [ex] at hlk;have hm:(x,NameKind.free)∈scope.names:=bA hlk;have hkx:=hkf _ hm rfl;obtain ⟨m,_,hl⟩:=I.loc;obtain ⟨u,r,L⟩:=hl k x v eN es' (hkx.elim (λ z=>.inr (.inl z)) λ z=>.inr (.inr z));refine ⟨u,r,.inr ⟨J1 (osc:=X.env.scope) hlk,?_⟩⟩;obtain ⟨c',ec⟩:=ZP (cells:=X.env.cells) (cs:=[]) hm;rcases L with ⟨z,_⟩|⟨_,c,ec2,o,ho,hd⟩
   ·rcases hkx with y|y <;> (simp only at y;rw [y] at z;cases z)
   ·have z:=get x c' ec;rw [ec2] at z;obtain rfl:c=c':=aI z;exact ⟨c,ec,o,hk _ _ ho,hd⟩
 ·obtain ⟨v,o,ho,hd⟩:=I.cell x c (get x c h);exact ⟨v,o,hk _ _ ho,hd⟩
 ·have hp':p∈X.pn ++ m4:=by simpa [cxC] using hp
  obtain ⟨e,n,ne,nf,d⟩:=I.pin p hp';exact ⟨hk _ _ e,n,aH (au e),λ z=>(ax.mp (I.stkSub _ z)).elim ne nf,d⟩
 ·show (stC vars.length caps σ).length=N.length
  rw [hN];simp [stC]
def zb7 {σ':St} {H':Hp} {s':An} (I:Inv X m4 σ H s) (hf:∀ b∈fp,QY X m4 H b) (I':Inv (cxC X N scope s H fp m4) [] σ' H' s'):Inv X m4 σ H' s' :=
 I.call' (ch:=fp) I'.os I'.base I'.hok I'.bare λ b hb=>⟨(hf b hb).2.2.2.1,(hf b hb).2.1,(hf b hb).2.2.2.2.1,(hf b hb).2.2.2.2.2⟩
end
section
variable {prog:Af} {w:World} {A:Ao} {R:Result->Shared->Prop} {s:An}
abbrev NoX:Value->Shared->Prop:=λ _ _=>False
theorem zd8 {elt target iter:Expr} {ifs:List Expr} {scope:Scope} {pos:Pos} {it mZ:Am} {env:Env} (I:Nat->Shared->Prop)
  (turn:∀ n s,I n s->wpAny (model prog w) A (pyNext it) (λ r s₁=>match r with
   | none=>R (.ok .next) s₁
   | some v=>wpAny (model prog w) A (letOwnedTupleGo target it v) (λ _ s₁'=>wpAny (model prog w) A (assign target env v) (λ _ s₂ =>
     wpAny (model prog w) A (forIn ifs true λ c r=>if r=true then do let ok <- isTrue c env (eval c env);pure (ForInStep.yield ok) else pure (ForInStep.yield r)) (λ ok s₃ =>
      if ok=true then wpAny (model prog w) A (eval elt env) (λ x s₄ =>
       wpAny (model prog w) A (call (.builtin "list.append") [mZ,x]) (λ _ s₅=>∃ m,m < n/\I m s₅) NoX s₄) NoX s₃
      else ∃ m,m < n/\I m s₃) NoX s₂) NoX s₁') NoX s₁) NoX s)
  (n:Nat) (h:I n s) :
  codeAny (model prog w) A (.compLoop (.ListComp elt [⟨target,iter,ifs,0⟩] scope pos) 0 it mZ env) R s:=by
 refine codeAny_loop rfl I (λ n s hI=>?_) n h;show wpAny _ A ((compTurn (.ListComp elt [⟨target,iter,ifs,0⟩] scope pos) 0 it mZ env).onRaise (λ x=>do noteFrame x env;theTreesLotGoes x)) _ _ s
 refine wpAny_noted ?_;rw [compTurn_list];refine ai (fT (ai (aU (turn n s hI) (λ r s₁ h₁=>?_) λ _ _ h'=>h'.elim)));cases r with
 | none=>exact aD h₁
 | some v =>
  refine ai (aU h₁ (λ _ s₁' h₁'=>?_) λ _ _ h'=>h'.elim);refine ai (aU h₁' (λ _ s₂ h₂=>ai (aU h₂ (λ ok s₃ h₃=>?_) λ _ _ h'=>h'.elim)) λ _ _ h'=>h'.elim);cases ok with
  | false=>exact aD ⟨rfl,h₃⟩
  | true =>
   exact ai (ai (aU h₃ (λ x s₄ h₄=>ai (aU h₄ (λ _ s₅ h₅=>aD (aD ⟨rfl,h₅⟩)) λ _ _ h'=>h'.elim)) λ _ _ h'=>h'.elim))
end
def zfX (X:Cx) (ifs:List Expr) (t:TT):Prop :=
 ∀ (m4:A2) (s:An) (σ:St) (H:Hp) (Q:Bool->Hp->Prop),Inv X m4 σ H s->t σ H Q ->
  wpAny (model X.prog X.w) X.A (forIn ifs true λ c r=>if r=true then do let ok <- isTrue c X.env (eval c X.env);pure (ForInStep.yield ok) else pure (ForInStep.yield r)) (TP X m4 σ Q) X.xe s
def tYes:TT:=λ _ H Q=>Q true H
def qo {X:Cx}:zfX X [] tYes:=λ _ _ _ H _ I h=>wpAny_tests_nil ⟨H,I,h⟩
def zcz {X:Cx} {c:Expr} {t:TT} (h:PT X c t):zfX X [c] t:=λ m4 s σ H Q I hw=>wpAny_tests_one (h m4 s σ H Q I hw)
abbrev CB (α:Type):=Shared->Hp->List Addr->List (Addr × Obj)->α
def tLc (wi:TI) (nv:Nat) (caps:Aj) (g:CB TG) (tt:CB TT) (te:CB TE):TE:=λ σ H Q=>wi σ H λ J H1=>∀ (s3:An) (H3:Hp) (fp:Ab) (pns:A2) mZ,H1 mZ=none ->
 ∃ W:Nat->Nat->St->Hp->Prop,(∃ m,W 0 m (stC nv caps σ) (upd H1 mZ (.lst [])))/\∀ i m σ' H',W i m σ' H' ->
  (J.stop i H'/\Q (.ref mZ) H')\/(J.go i H'/\∃ N:St->Hp->Prop,(∀ σ'' H'',N σ'' H''->∃ m',m' < m/\W (i + 1) m' σ'' H'')/\∀ x H'',J.yld i H' x H''->g s3 H3 fp pns x σ' H'' λ σ2 H2=>tt s3 H3 fp pns σ2 H2 λ b H5 =>
   if b=true then te s3 H3 fp pns σ2 H5 λ y H4=>∃ ys,H4 mZ=some (.lst ys)/\ys.length < sizeLine/\N σ2 (upd H4 mZ (.lst (ys ++ [y]))) else N σ2 H5)
section
variable {X:Cx} {elt target iter:Expr} {ifs:List Expr} {scope osc:Scope} {pos:Pos} {wi:TI} {g:CB TG} {tt:CB TT} {te:CB TE} {N vars:A8} {caps:Aj}
theorem XD {m4:A2} {σ:St} {H2:Hp} {s2:An} {it:Addr} {fp:Ab} {tn:Nat->Heap->Prop} {J:It} {Q:VK} {RR:Value->Addr->Result->Shared->Prop} {E:A3}
  (hosc:X.env.scope=osc) (C:CompOk osc scope X.N vars caps) (hN:N=vars ++ caps.map λ k=>X.N.getD k Str.empty) (hc:X.calm=true)
  (hg:∀ s H fp m4,PG (cxC X N scope s H fp m4) target (g s H fp m4)) (ht:∀ s H fp m4,zfX (cxC X N scope s H fp m4) ifs (tt s H fp m4)) (he:∀ s H fp m4,PE (cxC X N scope s H fp m4) elt (te s H fp m4))
  (I2:Inv X m4 σ H2 s2) (T:Turn X.prog X.w X.K target J fp it tn) (st2:tn 0 s2.heap) (hf:∀ b∈fp,QY X m4 H2 b)
  (h:∀ (s3:An) (H3:Hp) (fp:Ab) (pns:A2) mZ,H2 mZ=none->∃ W:Nat->Nat->St->Hp->Prop,(∃ m,W 0 m (stC vars.length caps σ) (upd H2 mZ (.lst [])))/\∀ i m σ' H',W i m σ' H' ->
   (J.stop i H'/\Q (.ref mZ) H')\/(J.go i H'/\∃ N:St->Hp->Prop,(∀ σ'' H'',N σ'' H''->∃ m',m' < m/\W (i + 1) m' σ'' H'')/\∀ x H'',J.yld i H' x H''->g s3 H3 fp pns x σ' H'' λ σ2 H2=>tt s3 H3 fp pns σ2 H2 λ b H5 =>
    if b=true then te s3 H3 fp pns σ2 H5 λ y H4=>∃ ys,H4 mZ=some (.lst ys)/\ys.length < sizeLine/\N σ2 (upd H4 mZ (.lst (ys ++ [y]))) else N σ2 H5))
  (hRR:∀ mZ C s' H' m,Inv X m4 σ H' s'->Q (.ref mZ) H'->s'.heap.Ns C m->H' C=none->C≠X.env.locals->X.s₀.heap.objs.size<=C->(∀ x c,X.env.cells.lookup x=some c->c≠C)->(∀ p∈X.pn ++ m4,p.1≠C)->RR (.ref mZ) C (.ok .next) s') :
  wpAny (model X.prog X.w) X.A (newList []) (λ mZ s₃=>wpAny (model X.prog X.w) X.A (newFunctionEnv scope X.env.globals (jk X.env.cells scope.names []) [] X.env.qual none .none (some X.env)) (λ cenv s₄ =>
   codeAny (model X.prog X.w) X.A (.compStart (.ListComp elt [⟨target,iter,ifs,0⟩] scope pos) 0 (.ref it) mZ { cenv with scope:=relabel scope X.env }) (RR mZ cenv.locals) s₄) E s₃) E s2:=by
 refine dl (wpAny_newFunctionEnv C.cell (by intro y hy;simp at hy) (λ h₁ hns₁ hsb₁=>?_) C.kind);obtain ⟨W,⟨m0,w0⟩,turn⟩:=h { s2 with heap:=s2.heap.push { cls:=.type "list",dict:=none,data:=.seq ([]:A7).toArray } } (upd H2 s2.heap.objs.size (.lst [])) fp m4 s2.heap.objs.size I2.fresh;have I3:Inv X m4 σ (upd H2 s2.heap.objs.size (.lst [])) { s2 with heap:=s2.heap.push { cls:=.type "list",dict:=none,data:=.seq ([]:A7).toArray } }:=I2.lnew (mY:=[]) (t':=s2.toks) .nil (by decide);dsimp only at hns₁ hsb₁ ⊢;have hfo:∀ b∈fp,∃ o,s2.heap.get? b=some o:=λ b hb=>let ⟨o,e,_⟩:=T.obj _ _ st2 b hb;⟨o,e⟩
 have hf3:∀ b∈fp,QY X m4 (upd H2 s2.heap.objs.size (.lst [])) b:=λ b hb=>by
  refine ⟨?_,(hf b hb).2⟩;obtain ⟨o,e⟩:=hfo b hb;rw [nu (aH (au e))];exact (hf b hb).1
 generalize hs3:({ s2 with heap:=s2.heap.push { cls:=.type "list",dict:=none,data:=.seq ([]:A7).toArray } }:An)=s3 at I3 turn;have eh:s2.heap.push { cls:=.type "list",dict:=none,data:=.seq ([]:A7).toArray }=s3.heap:=by rw [<- hs3]
 have old:∀ b o,s2.heap.get? b=some o->s3.heap.get? b=some o:=λ b o e=>by rw [<- eh];exact aj _ e
 rw [eh] at hns₁ hsb₁ ⊢;have es:({ s2 with heap:=h₁,toks:=s2.toks + ([]:List (Str × Value)).length }:An)={ s3 with heap:=h₁,toks:=s2.toks }:=by rw [<- hs3];rfl
 rw [es];generalize hH3:upd H2 s2.heap.objs.size (.lst [])=H3 at *;have hk:∀ b o,s3.heap.get? b=some o->h₁.get? b=some o:=λ b o e=>hsb₁.extBut b o (aH (au e)) (aj _ e);have I4:Inv (cxC X N scope s3 H3 fp m4) [] (stC vars.length caps σ) H3 { s3 with heap:=h₁,toks:=s2.toks }:=zfq I3 hosc C hN hf3 (λ b hb=>let ⟨o,e⟩:=hfo b hb;⟨o,old b o e⟩) hns₁ hk;have st4:tn 0 h₁:=T.keep _ _ _ st2 λ b hb o e=>hk b o (old b o e);have stat:∀ {H':Hp},(∀ b∈fp,H' b=none)->∀ b∈fp,QY (cxC X N scope s3 H3 fp m4) [] H' b:=λ hn b hb =>
  ⟨hn b hb,(I4.ok.exf b hb).1,I4.ok.exfs b hb,.inl hb,(I4.ok.exf b hb).2,λ p hp=>(hf b hb).2.2.2.2.2 p (by simpa [cxC] using hp)⟩
 have loop:∀ s4:Shared,s4={ s3 with heap:=h₁,toks:=s2.toks } ->
   codeAny (model X.prog X.w) X.A (.compLoop (.ListComp elt [⟨target,iter,ifs,0⟩] scope pos) 0 (.ref it) (.ref s2.heap.objs.size) (cxC X N scope s3 H3 fp m4).env) (RR (.ref s2.heap.objs.size) s3.heap.objs.size) s4:=by
  rintro s4 rfl;refine zd8 (λ n s'=>∃ i σ' H',Inv (cxC X N scope s3 H3 fp m4) [] σ' H' s'/\tn i s'.heap/\(∀ b∈fp,H' b=none)/\W i n σ' H') ?_ m0 ⟨0,_,H3,I4,st4,λ b hb=>(hf3 b hb).1,w0⟩;rintro n s5 ⟨i,σ5,H5,I5,st5,fr5,w5⟩;rcases turn i n σ5 H5 w5 with ⟨stop,qn⟩|⟨go,NN,hNN,step⟩
  ·refine thn (T.done (cxC X N scope s3 H3 fp m4) rfl rfl rfl hc i [] s5 σ5 H5 NoX I5 (stat fr5) st5 stop) λ r s6 ⟨hr,I6⟩=>?_;subst hr;obtain ⟨m,hn,_⟩:=I6.loc;have hlt:∀ b o,s3.heap.get? b=some o->b≠s3.heap.objs.size:=λ b o e=>aH (au e);obtain ⟨m3,⟨oL,_,_,hoL,_⟩,_⟩:=I3.loc;refine hRR _ _ s6 H5 m (zb7 I3 hf3 I6) qn hn I6.free (λ z=>hlt _ _ hoL z.symm) I3.sz (λ x c ec z=>?_) λ p hp z=>hlt _ _ (I3.pin p hp).1 z;obtain ⟨v,o,ho,_⟩:=I3.cell x c ec;exact hlt _ _ ho z
  ·refine thn (T.item (cxC X N scope s3 H3 fp m4) rfl rfl rfl hc i [] s5 σ5 H5 NoX I5 (stat fr5) st5 go) λ r s6 ⟨u,hr,h6⟩=>?_;subst hr;refine thn h6 λ _ s7 ⟨x,H7,I7,r7,y7,st7,fr7⟩=>?_;have I7':=I7.pinned (stat fr7) (T.obj _ _ st7);have again:∀ {σ8:St} {H8:Hp} {s8:An},Inv (cxC X N scope s3 H3 fp m4) ([] ++ J9 fp s7.heap) σ8 H8 s8->NN σ8 H8->∃ m,m < n/\∃ i σ' H',Inv (cxC X N scope s3 H3 fp m4) [] σ' H' s8/\tn i s8.heap/\(∀ b∈fp,H' b=none)/\W i m σ' H':=λ {σ8 H8 s8} I8 n8=>by
    obtain ⟨m',hm,w8⟩:=hNN σ8 H8 n8;refine ⟨m',hm,i + 1,σ8,H8,I8.unpinned,T.keep _ _ _ st7 λ b hb o e=>(I8.pin (b,o) (aT _ (aT _ (vb hb e)))).1,λ b hb=>?_,w8⟩;obtain ⟨o,e,d⟩:=T.obj _ _ st7 b hb;exact (I8.pin (b,o) (aT _ (aT _ (vb hb e)))).2.1
   refine thn (hg s3 H3 fp m4 _ s7 σ5 H7 x u _ I7' r7 (step x H7 y7)) λ _ s8 ⟨σ8,H8,I8,q8⟩=>?_;refine thn (ht s3 H3 fp m4 _ s8 σ8 H8 _ I8 q8) λ b s9 ⟨H9,I9,q9⟩=>?_;cases b with
   | false=>exact again I9 q9
   | true =>
    refine qC (he s3 H3 fp m4 _ s9 σ8 H9 _ I9 q9) λ v s10 y H10 I10 r10 qq_=>?_;obtain ⟨ys,ea,hz,q10⟩:=qq_;refine thn (zU (X:=cxC X N scope s3 H3 fp m4) _ s10 σ8 H10 (.ref s2.heap.objs.size) [y] (.ref s2.heap.objs.size) [v] (λ _ H'=>NN σ8 H') I10 rfl (.cons r10 .nil) ⟨_,ys,y,rfl,rfl,ea,hz,q10⟩) λ _ s11 ⟨_,H11,I11,_,q11⟩=>?_;exact again I11 q11
 exact codeAny_compStart_list (loop _ rfl) (T.self X.A 0 _ _ _ st4 (loop _ rfl))
def jY {ON:A8} (hosc:X.env.scope=osc) (hON:X.N=ON) (hB:zc6 osc scope ON caps=true) (hN:N=vars ++ caps.map λ k=>ON.getD k Str.empty) (hc:X.calm=true) (hi:PI X target iter wi)
  (hg:∀ s H fp m4,PG (cxC X N scope s H fp m4) target (g s H fp m4)) (ht:∀ s H fp m4,zfX (cxC X N scope s H fp m4) ifs (tt s H fp m4)) (he:∀ s H fp m4,PE (cxC X N scope s H fp m4) elt (te s H fp m4))
  (hs:∀ x,foldedSetIterable iter X.env x=pure x:=by intro _;rfl):PE X (.ListComp elt [⟨target,iter,ifs,0⟩] scope pos) (tLc wi vars.length caps g tt te):=by
 subst hON;intro m4 s σ H Q I h;have C:CompOk osc scope X.N vars caps:=zbb hB;have hclos:closureFor scope X.env=pure (jk X.env.cells scope.names []):=Zv λ y hy e=>I.ok.has y.1 (by have z:=C.free y hy e;rw [<- hosc] at z;exact z);rw [eval_ListComp];refine fU (use:=none) rfl hs hclos C.kind C.loc (thn (hi m4 s σ H _ I h) λ v s1 h1=>thn h1 λ itv s2 h2=>?_);obtain ⟨it,fp,tn,J,H2,e,I2,T,st2,f2,hw⟩:=h2;subst e;refine XD (N:=N) (RR:=λ mZ Cc=>compPost (model X.prog X.w) X.A X.xe none (EP X m4 σ Q) mZ Cc) hosc C hN hc hg ht he I2 T st2 f2 hw λ mZ Cc s' H' m I' q hn hC hL hsz hcc hpp=>?_;refine ⟨m,hn,λ h' hs'=>⟨.ref mZ,H',?_,rfl,q⟩⟩;exact I'.turned (t':=s'.toks) (it:=Cc) (λ b o hb e=>(hs'.2 b hb).trans e) hC (λ z=>hL z) (.inr hsz) hcc hpp
def Wn {ON:A8} {i:Nat} {x:Str} {pos' spos:Pos} (hNd:X.N.Nodup) (hix:X.N[i]?=some x) (hx:Loc X.env.scope x)
  (hosc:X.env.scope=osc) (hON:X.N=ON) (hB:zc6 osc scope ON caps=true) (hN:N=vars ++ caps.map λ k=>ON.getD k Str.empty) (hc:X.calm=true) (hi:PI X target iter wi)
  (hg:∀ s H fp m4,PG (cxC X N scope s H fp m4) target (g s H fp m4)) (ht:∀ s H fp m4,zfX (cxC X N scope s H fp m4) ifs (tt s H fp m4)) (he:∀ s H fp m4,PE (cxC X N scope s H fp m4) elt (te s H fp m4))
  (hsw:swapsWith (.ListComp elt [⟨target,iter,ifs,0⟩] scope pos) (some (.Name x pos')) spos.line X.env=pure true:=by rfl)
  (hf:X.fn x=true\/X.env.scope.names.lookup x=some .local:=by walk_at "p")
  (hs:∀ x,foldedSetIterable iter X.env x=pure x:=by intro _;rfl):PS X (.Assign [.Name x pos'] (.ListComp elt [⟨target,iter,ifs,0⟩] scope pos) spos) (tAsg (tLc wi vars.length caps g tt te) (gName i)):=by
 subst hON;intro m4 s σ H D I h;have C:CompOk osc scope X.N vars caps:=zbb hB;have hclos:closureFor scope X.env=pure (jk X.env.cells scope.names []):=Zv λ y hy e=>I.ok.has y.1 (by have z:=C.free y hy e;rw [<- hosc] at z;exact z);rw [exec_Assign_Name_used _ _ _ _ hsw];refine ai (fT (ai ?_));show wpAny _ X.A (do let _ <- comprehension (.ListComp elt [⟨target,iter,ifs,0⟩] scope pos) scope X.env _ (newList []) false (eval iter X.env) (some (assign (.Name x pos') X.env))) _ _ s
 refine ai (aU (fU (use:=some (assign (.Name x pos') X.env)) (Q:=λ _ s'=>SP X m4 D .next s') rfl hs hclos C.kind C.loc (thn (hi m4 s σ H _ I h) λ v s1 h1=>thn h1 λ itv s2 h2=>?_)) (λ _ s' hq=>aD (aD hq)) λ _ _ e=>e);obtain ⟨it,fp,tn,J,H2,e,I2,T,st2,f2,hw⟩:=h2;subst e;refine XD (N:=N) (Q:=λ v H1=>gName i v σ H1 D.nx) (RR:=λ mZ Cc=>compPost (model X.prog X.w) X.A X.xe (some (assign (.Name x pos') X.env)) (λ _ s'=>SP X m4 D .next s') mZ Cc) hosc C hN hc hg ht he I2 T st2 f2 hw λ mZ Cc s' H' m I' q hn hC hL hsz hcc hpp=>?_;refine wpAny_assign_Name (We I' hNd hix hx (v:=.ref mZ) rfl (λ s3 I3 ⟨a,sb,ha⟩=>?_) hf);have hne:Cc≠a:=λ z=>by
  rcases ha with e|e
  ·exact hL (z.trans e)
  ·exact hcc x a e z.symm
 refine ⟨m,hn.sameBut sb hne,λ h' hs'=>⟨_,H',?_,q⟩⟩;exact I3.turned (t':=s3.toks) (it:=Cc) (λ b o hb e=>(hs'.2 b hb).trans e) hC (λ z=>hL z) (.inr hsz) hcc hpp
end
end L2
namespace L2
open PySem PySem.Spec PySem.Calls PyProof.Rows
variable {b:Bool} {Q:A3} {i:Nat} {X:Cx}
section
variable {X:Cx} {m4:A2} {σ:St} {H:Hp} {s:An} {h':Heap} {ch:Ab}
def Inv.turnNew {T:Addr} {o:HO} {t':Nat} (I:Inv X m4 σ H s) (hch:∀ b∈ch,QY X m4 H b) (hT:s.heap.objs.size<=T) (keep:∀ b o,b ∉ ch->s.heap.get? b=some o->h'.get? b=some o)
  (new:ObjOk X.prog X.w (upd H T o) h' T o):Inv X m4 σ (upd H T o) { s with heap:=h',toks:=t' }:=by
 have hn:H T=none:=I.hok.fresh hT;have lt:∀ b u,s.heap.get? b=some u->b≠T:=λ b u e=>aH (aG (au e) hT);have nch:∀ b u,H b=some u->b ∉ ch:=λ b u e z=>by rw [(hch b z).1] at e;cases e
 refine I.step (g':=s.gens) (d':=s.drawn) (ch:=ch) (λ b hb=>⟨(hch b hb).2.2.2.1,(hch b hb).2.1,(hch b hb).2.2.2.2.1,(hch b hb).2.2.2.2.2⟩) (λ b o _ _ hc e _=>keep b o hc e) (λ b o _ _ hc e _=>⟨o.slots,keep b o hc e⟩)
  (λ b o _ e n=>by rw [nu (lt b o e)];exact n) (λ b o hc e=>⟨o,keep b o hc e⟩) (λ b xs e=>by rw [nu (nz e hn)];exact e) (λ b o u e=>by rw [nu (nz e hn)];exact e)
  (λ b ps e=>⟨#[],by rw [nu (nz e hn),e];simp⟩) (λ m hm=>?_) (λ b u e=>?_) I.bare
 ·obtain ⟨o,es,ep,ho,r⟩:=hm;exact ⟨o,es,ep,keep _ o (λ z=>(hch _ z).2.1 rfl) ho,r⟩
 ·by_cases hb:b=T
  ·subst hb;rw [nk] at e;cases e;exact new
  ·rw [nu hb] at e;refine (I.hok b u e).stay (λ c v hc q=>keep c v ?_ q) (λ c q=>by rw [nu (nz q hn)];exact q) λ c xs q=>by rw [nu (nz q hn)];exact q
   rcases hc with z|z
   ·rw [z];exact nch b u e
   ·exact nch c _ z
def Inv.turnL {t':Nat} (I:Inv X m4 σ H s) (hch:∀ b∈ch,QY X m4 H b) (keep:∀ b o,b ∉ ch->s.heap.get? b=some o->h'.get? b=some o):Inv X m4 σ H { s with heap:=h',toks:=t' }:=by
 have nch:∀ b u,H b=some u->b ∉ ch:=λ b u e z=>by rw [(hch b z).1] at e;cases e
 refine I.step (g':=s.gens) (d':=s.drawn) (ch:=ch) (λ b hb=>⟨(hch b hb).2.2.2.1,(hch b hb).2.1,(hch b hb).2.2.2.2.1,(hch b hb).2.2.2.2.2⟩) (λ b o _ _ hc e _=>keep b o hc e) (λ b o _ _ hc e _=>⟨o.slots,keep b o hc e⟩)
  (λ _ _ _ _ n=>n) (λ b o hc e=>⟨o,keep b o hc e⟩) (λ _ _ e=>e) (λ _ _ _ e=>e) (λ b ps e=>⟨#[],by rw [e];simp⟩) (λ m hm=>?_) (λ b u e=>?_) I.bare
 ·obtain ⟨o,es,ep,ho,r⟩:=hm;exact ⟨o,es,ep,keep _ o (λ z=>(hch _ z).2.1 rfl) ho,r⟩
 ·refine (I.hok b u e).stay (λ c v hc q=>keep c v ?_ q) (λ _ q=>q) λ _ _ q=>q;rcases hc with z|z
  ·rw [z];exact nch b u e
  ·exact nch c _ z
end
noncomputable def Ite (K:A0) (a:Addr):It :=
 ⟨λ i H=>∃ xs x,SqL K H a xs/\xs[i]?=some x,λ i H v H'=>∃ t x,H t=none/\v=.ref t/\(∀ xs,SqL K H a xs->xs[i]?=some x)/\H'=upd H t (.tup [.int i,x]),λ i H=>∃ xs,SqL K H a xs/\xs.length<=i⟩
def zdj {P:Af} {w:World} {K:A0} {elts:List Expr} {x1} {pos:Pos} (a e it:Addr) (hne:e≠it) :
  Turn P w K (.Tuple elts x1 pos) (Ite K a) [e,it] e (λ i h=>(∃ old,IsEnum h e it i old)/\h.IsListIter it a i) where
 mem:=by simp
 obj:=λ i h st b hb=>by
  obtain ⟨⟨old,he⟩,o,ho,c,d⟩:=st;rcases ax.mp hb with rfl|hb
  ·exact ⟨_,he,λ v z=>by cases z⟩
  ·obtain rfl:b=it:=by simpa using hb
   exact ⟨o,ho,λ v z=>by rw [d] at z;cases z⟩
 keep:=λ i h h' st k=>by
  obtain ⟨⟨old,he⟩,hi⟩:=st;exact ⟨⟨old,k e (by simp) _ he⟩,hi.at λ o z=>k it (by simp) o z⟩
 item:=by
  intro X hP hw hK hc i m4 s σ H E I hf st hg;subst hP hw hK;obtain ⟨⟨old,he⟩,hi⟩:=st;obtain ⟨xs,x,hq,hx⟩:=hg;obtain ⟨mY,rv,p,hz⟩:=I.list hq;obtain ⟨u,hu,ru⟩:=rv.get hx;refine wpAny_pyNext_enum_item he hi p.isList (x:=u) (by simpa using hu) hne λ h' he' hi' hT hsz hk=>?_;refine ⟨_,rfl,?_⟩;have I1:Inv X m4 σ (upd H s.heap.objs.size (.tup [.int i,x])) { s with heap:=h',toks:=s.toks + 1 }:=I.turnNew hf (av _) (λ b o hb q=>hk b o (λ z=>hb (by simp [z])) (λ z=>hb (by simp [z])) q)
   ⟨by show 2<=sizeLine;decide,[.int i s.toks,u],.cons ⟨_,rfl⟩ (.cons ru .nil),⟨_,hT,rfl,_,rfl⟩⟩
  have hn:H s.heap.objs.size=none:=I.hok.fresh (av _);have ne:∀ b∈[e,it],b≠s.heap.objs.size:=λ b hb=>by
   rcases ax.mp hb with rfl|hb
   ·exact aH (au he)
   ·obtain rfl:b=it:=by simpa using hb
    obtain ⟨o,ho,_⟩:=hi;exact aH (au ho)
  have fr:∀ b∈[e,it],(upd H s.heap.objs.size (.tup [.int i,x])) b=none:=λ b hb=>by rw [nu (ne b hb)];exact (hf b hb).1
  refine wpAny_letOwnedTupleGo_enum he' λ h'' he'' hs''=>?_;refine ⟨.ref s.heap.objs.size,_,I1.turnL (t':=s.toks + 1) (ch:=[e]) (λ b hb=>?_) (λ b o hb q=>(hs''.2 b (λ z=>hb (by simp [z]))).trans q),rfl,
   ⟨s.heap.objs.size,x,hn,rfl,λ ys hy=>by rw [I.list_inj hy hq];exact hx,rfl⟩,⟨⟨u,?_⟩,hi'.extBut hs''.extBut (aX hne)⟩,fr⟩
  ·obtain rfl:b=e:=by simpa using hb
   exact ⟨fr b (by simp),(hf b (by simp)).2⟩
  ·exact he''
 done:=by
  intro X hP hw hK hc i m4 s σ H E I hf st hg;subst hP hw hK;obtain ⟨⟨old,he⟩,hi⟩:=st;obtain ⟨xs,hq,hx⟩:=hg;obtain ⟨mY,rv,p,hz⟩:=I.list hq;have hl:=rv.length;exact wpAny_pyNext_enum_end (I.ok.hd hc) he hi p.isList (by simp;omega) λ h' eb=>⟨rfl,I.turnL (t':=s.toks) hf λ b o hb q=>eb b o (λ z=>hb (by simp [z])) q⟩
 self:=λ _ _ _ _ _ st h=>by
  obtain ⟨⟨old,he⟩,_⟩:=st;exact wpAny_pyIter_enum he h
def V0:bootBuiltins "enumerate"=some (.type "enumerate"):=by decide +kernel
def zh9:bootBuiltins "zip"=some (.type "zip"):=by decide +kernel
def iEnum (X:Cx) (ta:TA):TI:=λ σ H R=>X.mg "enumerate"=none/\ta σ H λ vs H1=>∃ a xs,vs=[.ref a]/\H1 a=some (.lst xs)/\R (Ite X.K a) H1
def jo {a:Expr} {elts:List Expr} {x1} {tp p pos:Pos} {ta:TA} (ha:PA X [a] ta) (hg:Gl X "enumerate":=by rfl)
  (hs:starEach [a] X.env=(false,eval a X.env) :: starEach [] X.env:=by rfl) (hpl:(backTo pos (starEach [] X.env)).any (·.1)=false:=by rfl) :
  PI X (.Tuple elts x1 tp) (.Call (.Name "enumerate" p) [a] [] pos) (iEnum X ta):=by
 intro m4 s σ H R I h;refine bw (vQ I hg h.1 V0 ?_);refine bg (vy (ha pos m4 s σ H _ I h.2) λ us s1 vs H1 I1 r1 q1=>?_) hs hpl;obtain ⟨l,xs,rfl,hq,hR⟩:=q1;obtain ⟨u,rfl,rx⟩:=Q0 r1;cases rx;obtain ⟨hz,mY,n,rv,hl,e⟩:=I1.lstM hq;refine call_enumerate_1 e λ h' he hi hsz hk=>wpAny_pyIter_enum he ?_;refine ⟨s1.heap.objs.size + 1,[s1.heap.objs.size + 1,s1.heap.objs.size],_,_,H1,rfl,I1.kept (t':=s1.toks) hk,zdj l _ _ (Nat.succ_ne_self _),⟨⟨_,he⟩,hi⟩,λ b hb=>?_,hR⟩;rcases ax.mp hb with rfl|hb
 ·exact I1.fpOk (cK _) (I1.hok.fresh (cK _))
 ·obtain rfl:b=s1.heap.objs.size:=by simpa using hb
  exact I1.fpOk (av _) (I1.hok.fresh (av _))
def ItAt (b:Bool) (h:Heap) (it a:Addr) (i:Nat):Prop:=if b=true then h.IsListIter it a i else h.IsTupleIter it a i
def SqAt (b:Bool) (h:Heap) (a:Addr) (items:Ac):Prop:=if b=true then h.IsList a items else h.IsTuple a items
noncomputable def QQ (b:Bool):String:=if b=true then "list_iterator" else "tuple_iterator"
def ItAt.at' {h h':Heap} {it a:Addr} (x:ItAt b h it a i) (hk:∀ o,h.get? it=some o->h'.get? it=some o):ItAt b h' it a i:=by
 cases b <;> exact let ⟨o,ho,r⟩:=x;⟨o,hk o ho,r⟩
def ItAt.obj {h:Heap} {it a:Addr} (x:ItAt b h it a i):∃ o,h.get? it=some o/\∀ v,o.data≠.cell v:=by
 cases b <;> exact let ⟨o,ho,_,hd⟩:=x;⟨o,ho,λ v z=>by rw [hd] at z;cases z⟩
def SqAt.at' {h h':Heap} {a:Addr} {items:Ac} (x:SqAt b h a items) (hk:∀ o,h.get? a=some o->h'.get? a=some o):SqAt b h' a items:=by
 cases b <;> exact let ⟨o,ho,r⟩:=x;⟨o,hk o ho,r⟩
section
variable {prog:Af} {w:World} {A:Ao} {E:A3} {s:An}
def Z2 {it t:Addr} {items} {x:Am} (hit:s.heap.IsTupleIter it t i) (ht:s.heap.IsTuple t items) (hx:items[i]?=some x)
  (hQ:∀ h',h'.IsTupleIter it t (i + 1)->Heap.SameBut it s.heap h'->Q x { s with heap:=h' }):wpAny (model prog w) A (Builtin.SmallTypes.nextOf (.ref it)) Q E s:=by
 obtain ⟨o,ho,hc,hd⟩:=id hit;obtain ⟨ol,hol,_,nl,hdl⟩:=ht;unfold Builtin.SmallTypes.nextOf;refine ai (cF (name:=Str.ofString "__next__") hit.typeIs cj
  (dB cj hit.typeIs fG ?_ (fq _)))
 show wpAny _ _ (field (.ref it) 0 >>= _) _ _ s
 refine ai (bd ho hd (x:=.ref t) rfl ?_);show wpAny _ _ (if (Value.ref t == Value.none)=true then _ else _) _ _ s
 rw [ao (show ¬ ((Value.ref t == Value.none)=true) from aB)];show wpAny _ _ (field (.ref it) 1 >>= _) _ _ s
 refine ai (bd ho hd (x:=.int i 0) rfl ?_);show wpAny _ _ (seqItems? (.ref t) >>= _) _ _ s
 refine ai (bK hol hdl ?_);simp only [aA,hx];refine ai (c9 ho hd (by simp) (aD ⟨x,rfl,aD (hQ _ ?_ (Heap.SameBut.update ..))⟩));exact ⟨_,bO _ ho (b9 (bh hd _)),(Obj.cls_mapFields ..).trans hc,by
  rw [bh hd];simp [rawInt]⟩
def QJ {it t:Addr} {items} (hh:A.handled=none) (hit:s.heap.IsTupleIter it t i) (ht:s.heap.IsTuple t items) (hx:items[i]?=none)
  (hE:∀ h' e,Heap.ExtBut it s.heap h'->(∃ o,h'.get? e=some o/\o.cls=.type "StopIteration")->E (.ref e) { s with heap:=h' }) :
  wpAny (model prog w) A (Builtin.SmallTypes.nextOf (.ref it)) Q E s:=by
 obtain ⟨o,ho,hc,hd⟩:=id hit;obtain ⟨ol,hol,_,nl,hdl⟩:=ht;unfold Builtin.SmallTypes.nextOf;refine ai (cF (name:=Str.ofString "__next__") hit.typeIs cj
  (dB cj hit.typeIs fG ?_ (fq _)))
 show wpAny _ _ (field (.ref it) 0 >>= _) _ _ s
 refine ai (bd ho hd (x:=.ref t) rfl ?_);show wpAny _ _ (if (Value.ref t == Value.none)=true then _ else _) _ _ s
 rw [ao (show ¬ ((Value.ref t == Value.none)=true) from aB)];show wpAny _ _ (field (.ref it) 1 >>= _) _ _ s
 refine ai (bd ho hd (x:=.int i 0) rfl ?_);show wpAny _ _ (seqItems? (.ref t) >>= _) _ _ s
 refine ai (bK hol hdl ?_);simp only [aA,hx];refine ai (wpAny_rule (ai (c9 ho hd (by simp) ?_)));show wpAny _ _ (newExc (.type "StopIteration") [] >>= _) _ _ _
 refine ai ?_;simp only [newExc,newTuple];refine ai (dl ?_ (by size_fits));refine ai (m:=firstArgMember _ _) (wpAny_of_eq (a:=Value.none) (by first|rfl|(simp only [firstArgMember];rfl)) ?_);refine dl ?_ (by size_fits);simp only [raiseNew];refine ai (wpAny_handled ?_)
 first|rw [show A.in1.handled=none from hh] | rw [hh]
 refine ai (aD (wpAny_throw ?_));exact hE _ _ (((Heap.SameBut.update ..).extBut.push _).push _) ⟨_,aC _ rfl,rfl⟩
def vL {it t:Addr} {items} {x:Am} (hit:ItAt b s.heap it t i) (ht:SqAt b s.heap t items) (hx:items[i]?=some x)
  (hQ:∀ h',ItAt b h' it t (i + 1)->Heap.SameBut it s.heap h'->Q x { s with heap:=h' }):wpAny (model prog w) A (Builtin.SmallTypes.nextOf (.ref it)) Q E s:=by
 cases b
 ·exact Z2 hit ht hx hQ
 ·exact wpAny_nextOf_list_item hit ht hx hQ
def Xj {it t:Addr} {items} (hh:A.handled=none) (hit:ItAt b s.heap it t i) (ht:SqAt b s.heap t items) (hx:items[i]?=none)
  (hE:∀ h' e,Heap.ExtBut it s.heap h'->(∃ o,h'.get? e=some o/\o.cls=.type "StopIteration")->E (.ref e) { s with heap:=h' }) :
  wpAny (model prog w) A (Builtin.SmallTypes.nextOf (.ref it)) Q E s:=by
 cases b
 ·exact QJ hh hit ht hx hE
 ·exact wpAny_nextOf_list_end hh hit ht hx hE
def Wm {t:Addr} {items} (ht:SqAt b s.heap t items)
  (hQ:Q (.ref s.heap.objs.size) { s with heap:=s.heap.push { cls:=.type (QQ b),data:=.fields #[.ref t,.int 0 0] } }):wpAny (model prog w) A (pyIter (.ref t)) Q E s:=by
 cases b
 ·exact wpAny_pyIter_tuple ht hQ
 ·exact dk ht hQ
def zen {b1 b2:Bool} {z TI TO i1 i2 l1 l2:Addr} {k1 k2:Nat} {xs ys:Ac} {x y a b:Am} (D:ZipApart z TI TO i1 i2 l1 l2)
  (hz:IsZip s.heap z TI TO .none) (hTI:IsPair s.heap TI (.ref i1) (.ref i2)) (hTO:IsPair s.heap TO a b)
  (h1:ItAt b1 s.heap i1 l1 k1) (h2:ItAt b2 s.heap i2 l2 k2) (hl1:SqAt b1 s.heap l1 xs) (hl2:SqAt b2 s.heap l2 ys) (hx:xs[k1]?=some x) (hy:ys[k2]?=some y)
  (hQ:∀ h',IsZip h' z TI TO (rawInt s.heap.objs.size)->IsPair h' TO x y->ItAt b1 h' i1 l1 (k1 + 1)->ItAt b2 h' i2 l2 (k2 + 1)->IsPair h' s.heap.objs.size x y->h'.objs.size=s.heap.objs.size + 1 ->
   (∀ c o,c≠z->c≠TO->c≠i1->c≠i2->s.heap.get? c=some o->h'.get? c=some o)->Q (.ref s.heap.objs.size) { s with heap:=h' }) :
  wpAny (model prog w) A (Builtin.«zip.__next__» ⟨[.ref z],[]⟩) (λ fin s'=>∃ v,fin=.done (.ret v)/\Q v s') E s:=by
 show wpAny _ _ (field (.ref z) 2 >>= _) _ _ _
 refine ai (bd hz rfl (x:=.bool false) rfl ?_);show wpAny _ _ (field (.ref z) 3 >>= _) _ _ _
 refine ai (bd hz rfl (x:=.ref TI) rfl ?_);refine ai (bK hTI rfl ?_);show wpAny _ _ (Builtin.SmallTypes.ownedTupleIsFree (.ref z) >>= _) _ _ _
 refine ai ?_;unfold Builtin.SmallTypes.ownedTupleIsFree;refine ai (bd hz rfl (x:=.none) rfl (aD ?_));simp only [dP];refine ai (wpAny_rule ?_);refine ai (bd hz rfl (x:=.ref TO) rfl ?_);refine ai (b6 hz (by simp) λ h₁ hz₁ hs₁=>?_);replace hz₁:IsZip h₁ z TI TO .ellipsis:=hz₁;refine ai ?_;simp only [List.zipIdx_cons,List.zipIdx_nil,fB,List.forIn_nil];refine ai (ai (d5 ?_));show wpAny _ _ (Builtin.SmallTypes.nextOf (.ref i1) >>= _) _ _ _
 refine ai (vL (h1.at' λ o e=>hs₁.extBut _ _ D.i1z e) (hl1.at' λ o e=>hs₁.extBut _ _ D.l1z e) hx λ h₂ h1₂ hs₂=>aD ?_);have hTO₂:IsPair h₂ TO a b:=hs₂.extBut _ _ D.TOi1 (hs₁.extBut _ _ D.TOz hTO);refine ai (bK hTO₂ rfl ?_);refine ai (dO hTO₂ λ h₃ hTO₃ hs₃=>?_);replace hTO₃:IsPair h₃ TO x b:=hTO₃;refine ai (wpAny_letGo (aD ?_));refine ai (ai (d5 ?_));show wpAny _ _ (Builtin.SmallTypes.nextOf (.ref i2) >>= _) _ _ _
 refine ai (vL (h2.at' λ o e=>hs₃.extBut _ _ D.TOi2.symm (hs₂.extBut _ _ D.i12.symm (hs₁.extBut _ _ D.i2z e)))
  (hl2.at' λ o e=>hs₃.extBut _ _ D.l2TO (hs₂.extBut _ _ D.l2i1 (hs₁.extBut _ _ D.l2z e))) hy λ h₄ h2₄ hs₄=>aD ?_)
 have hTO₄:IsPair h₄ TO x b:=hs₄.extBut _ _ D.TOi2 hTO₃;refine ai (bK hTO₄ rfl ?_);refine ai (dO hTO₄ λ h₅ hTO₅ hs₅=>?_);replace hTO₅:IsPair h₅ TO x y:=hTO₅;refine ai (wpAny_letGo (aD (aD ?_)));refine ai (bK hTO₅ rfl ?_);refine ai (wpAny_newTuple ?_);have hsz:h₅.objs.size=s.heap.objs.size:=by rw [hs₅.1,hs₄.1,hs₃.1,hs₂.1,hs₁.1]
 have hz₅:IsZip h₅ z TI TO .ellipsis:=hs₅.extBut _ _ D.TOz.symm (hs₄.extBut _ _ D.i2z.symm (hs₃.extBut _ _ D.TOz.symm (hs₂.extBut _ _ D.i1z.symm hz₁)));have hk₅:∀ c o,c≠z->c≠TO->c≠i1->c≠i2->s.heap.get? c=some o->h₅.get? c=some o:=λ c o c1 c2 c3 c4 e =>
  hs₅.extBut _ _ c2 (hs₄.extBut _ _ c4 (hs₃.extBut _ _ c2 (hs₂.extBut _ _ c3 (hs₁.extBut _ _ c1 e))))
 have h1₅:ItAt b1 h₅ i1 l1 (k1 + 1):=h1₂.at' λ o e=>hs₅.extBut _ _ D.TOi1.symm (hs₄.extBut _ _ D.i12 (hs₃.extBut _ _ D.TOi1.symm e));have h2₅:ItAt b2 h₅ i2 l2 (k2 + 1):=h2₄.at' λ o e=>hs₅.extBut _ _ D.TOi2.symm e;have hzlt:z < h₅.objs.size:=au hz₅;show wpAny _ _ (Builtin.SmallTypes.ownedTupleHandOut (.ref z) (.ref h₅.objs.size) >>= _) _ _ _
 refine ai ?_;unfold Builtin.SmallTypes.ownedTupleHandOut;have hz₆:IsZip (h₅.push { cls:=.type "tuple",data:=.seq #[x,y] }) z TI TO .ellipsis:=aj _ hz₅;refine ai (b6 hz₆ (by simp) λ h₇ hz₇ hs₇=>?_);replace hz₇:IsZip h₇ z TI TO (rawInt h₅.objs.size):=hz₇;refine b6 hz₇ (by simp) λ h₈ hz₈ hs₈=>?_;replace hz₈:IsZip h₈ z TI TO (rawInt h₅.objs.size):=hz₈;have up:∀ c o,c≠z->h₅.get? c=some o->h₈.get? c=some o:=λ c o c1 e=>hs₈.extBut _ _ c1 (hs₇.extBut _ _ c1 (aj _ e));have hT₈:IsPair h₈ h₅.objs.size x y:=hs₈.extBut _ _ (dh hzlt) (hs₇.extBut _ _ (dh hzlt) (aC _ rfl));have hz8:h₈.objs.size=h₅.objs.size + 1:=by rw [hs₈.1,hs₇.1,bN]
 rw [hsz] at hz₈ hT₈ hz8;refine aD ⟨_,rfl,?_⟩;show Q (.ref h₅.objs.size) _
 rw [hsz];exact hQ h₈ hz₈ (up _ _ D.TOz hTO₅) (h1₅.at' λ o e=>up _ o D.i1z e) (h2₅.at' λ o e=>up _ o D.i2z e) hT₈ hz8 λ c o c1 c2 c3 c4 e=>up c o c1 (hk₅ c o c1 c2 c3 c4 e)
theorem zfY {b1 b2:Bool} {z TI TO i1 i2 l1 l2:Addr} {k1 k2:Nat} {xs ys:Ac} {a b:Am} {Q:Fin->Shared->Prop} (hh:A.handled=none) (D:ZipApart z TI TO i1 i2 l1 l2)
  (hz:IsZip s.heap z TI TO .none) (hTI:IsPair s.heap TI (.ref i1) (.ref i2)) (hTO:IsPair s.heap TO a b)
  (h1:ItAt b1 s.heap i1 l1 k1) (h2:ItAt b2 s.heap i2 l2 k2) (hl1:SqAt b1 s.heap l1 xs) (hl2:SqAt b2 s.heap l2 ys) (hend:xs[k1]?=none\/ys[k2]?=none)
  (hE:∀ h' e,(∀ c o,c≠z->c≠TO->c≠i1->c≠i2->s.heap.get? c=some o->h'.get? c=some o)->(∃ o,h'.get? e=some o/\o.cls=.type "StopIteration")->E (.ref e) { s with heap:=h' }) :
  wpAny (model prog w) A (Builtin.«zip.__next__» ⟨[.ref z],[]⟩) Q E s:=by
 show wpAny _ _ (field (.ref z) 2 >>= _) _ _ _
 refine ai (bd hz rfl (x:=.bool false) rfl ?_);show wpAny _ _ (field (.ref z) 3 >>= _) _ _ _
 refine ai (bd hz rfl (x:=.ref TI) rfl ?_);refine ai (bK hTI rfl ?_);show wpAny _ _ (Builtin.SmallTypes.ownedTupleIsFree (.ref z) >>= _) _ _ _
 refine ai ?_;unfold Builtin.SmallTypes.ownedTupleIsFree;refine ai (bd hz rfl (x:=.none) rfl (aD ?_));simp only [dP];refine ai (wpAny_rule ?_);refine ai (bd hz rfl (x:=.ref TO) rfl ?_);refine ai (b6 hz (by simp) λ h₁ hz₁ hs₁=>?_);replace hz₁:IsZip h₁ z TI TO .ellipsis:=hz₁;refine ai ?_;simp only [List.zipIdx_cons,List.zipIdx_nil,fB,List.forIn_nil];refine ai (ai (d5 ?_));show wpAny _ _ (Builtin.SmallTypes.nextOf (.ref i1) >>= _) _ _ _
 cases hx:xs[k1]? with
 | none =>
  refine ai (Xj hh (h1.at' λ o e=>hs₁.extBut _ _ D.i1z e) (hl1.at' λ o e=>hs₁.extBut _ _ D.l1z e) hx λ h₂ e hs₂ he=>?_);obtain ⟨oe,hoe,hce⟩:=he;have hz₂:IsZip h₂ z TI TO .ellipsis:=hs₂ _ _ D.i1z.symm hz₁;have hez:e≠z:=λ x=>by subst x;rw [hz₂] at hoe;cases hoe;simp at hce
  refine b6 hz₂ (by simp) λ h₃ _ hs₃=>hE h₃ e (λ c o c1 _ c3 _ x=>hs₃.extBut _ _ c1 (hs₂ _ _ c3 (hs₁.extBut _ _ c1 x))) ⟨oe,hs₃.extBut _ _ hez hoe,hce⟩
 | some x =>
  have hy:ys[k2]?=none:=by rcases hend with h|h;rw [hx] at h;cases h;exact h
  refine ai (vL (h1.at' λ o e=>hs₁.extBut _ _ D.i1z e) (hl1.at' λ o e=>hs₁.extBut _ _ D.l1z e) hx λ h₂ h1₂ hs₂=>aD ?_);have hTO₂:IsPair h₂ TO a b:=hs₂.extBut _ _ D.TOi1 (hs₁.extBut _ _ D.TOz hTO);refine ai (bK hTO₂ rfl ?_);refine ai (dO hTO₂ λ h₃ hTO₃ hs₃=>?_);refine ai (wpAny_letGo (aD ?_));refine ai (ai (d5 ?_));show wpAny _ _ (Builtin.SmallTypes.nextOf (.ref i2) >>= _) _ _ _
  refine ai (Xj hh (h2.at' λ o e=>hs₃.extBut _ _ D.TOi2.symm (hs₂.extBut _ _ D.i12.symm (hs₁.extBut _ _ D.i2z e)))
   (hl2.at' λ o e=>hs₃.extBut _ _ D.l2TO (hs₂.extBut _ _ D.l2i1 (hs₁.extBut _ _ D.l2z e))) hy λ h₄ e hs₄ he=>?_)
  obtain ⟨oe,hoe,hce⟩:=he;have hz₄:IsZip h₄ z TI TO .ellipsis:=hs₄ _ _ D.i2z.symm (hs₃.extBut _ _ D.TOz.symm (hs₂.extBut _ _ D.i1z.symm hz₁));have hez:e≠z:=λ x=>by subst x;rw [hz₄] at hoe;cases hoe;simp at hce
  refine b6 hz₄ (by simp) λ h₅ _ hs₅=>hE h₅ e (λ c o c1 c2 c3 c4 x=>hs₅.extBut _ _ c1 (hs₄ _ _ c4 (hs₃.extBut _ _ c2 (hs₂.extBut _ _ c3 (hs₁.extBut _ _ c1 x))))) ⟨oe,hs₅.extBut _ _ hez hoe,hce⟩
noncomputable abbrev zH1 (h:Heap) (b1:Bool) (l1:Addr):Heap:=h.push { cls:=.type (QQ b1),data:=.fields #[.ref l1,.int 0 0] }
noncomputable abbrev zH2 (h:Heap) (b1 b2:Bool) (l1 l2:Addr):Heap:=(zH1 h b1 l1).push { cls:=.type (QQ b2),data:=.fields #[.ref l2,.int 0 0] }
noncomputable abbrev zH3 (h:Heap) (b1 b2:Bool) (l1 l2:Addr):Heap:=(zH2 h b1 b2 l1 l2).push { cls:=.type "tuple",data:=.seq #[.ref h.objs.size,.ref (zH1 h b1 l1).objs.size] }
noncomputable abbrev zH4 (h:Heap) (b1 b2:Bool) (l1 l2:Addr):Heap:=(zH3 h b1 b2 l1 l2).push { cls:=.type "tuple",data:=.seq #[.none,.none] }
noncomputable abbrev zH5 (h:Heap) (b1 b2:Bool) (l1 l2:Addr):Heap:=(zH4 h b1 b2 l1 l2).push { cls:=.type "zip",data:=.fields #[.none,.bool false,.bool false,.ref (zH2 h b1 b2 l1 l2).objs.size,.ref (zH3 h b1 b2 l1 l2).objs.size] }
end
def zdR {b1 b2:Bool} (l1 l2:Addr) (xs ys:Ac) :
  Meets (Builtin.«zip.__new__» ⟨[.type "zip",.ref l1,.ref l2],[]⟩) (λ _ R s=>SqAt b1 s.heap l1 xs/\SqAt b2 s.heap l2 ys /\
   R (.ok (.ret (.ref (zH4 s.heap b1 b2 l1 l2).objs.size))) { s with heap:=zH5 s.heap b1 b2 l1 l2 }) :=
 .of_wp λ prog w A R s h=>by
  obtain ⟨hp,g,d,tk,os⟩:=s;obtain ⟨hl1,hl2,h⟩:=h;have hsub:=sub_zip;have hL1:SqAt b1 (Shared.heap ⟨hp,g,d,tk,os⟩) l1 xs:=hl1;have hL2:SqAt b2 (Shared.heap ⟨hp.push { cls:=.type (QQ b1),data:=.fields #[.ref l1,.int 0 0] },g,d,tk,os⟩) l2 ys:=hl2.at' λ o e=>aj _ e
  wp_walk using Wm hL1,Wm hL2
  exact ⟨_,rfl,h⟩
section
variable {prog:Af} {w:World} {A:Ao} {E:A3} {s:An}
def ItAt.new {h:Heap} {it l:Addr} (e:h.get? it=some { cls:=.type (QQ b),data:=.fields #[.ref l,.int 0 0] }):ItAt b h it l 0:=by
 cases b <;> exact ⟨_,e,rfl,rfl⟩
def zfJ {b1 b2:Bool} {l1 l2:Addr} {xs ys:Ac} (hl1:SqAt b1 s.heap l1 xs) (hl2:SqAt b2 s.heap l2 ys)
  (h:∀ h',IsZip h' (s.heap.objs.size + 4) (s.heap.objs.size + 2) (s.heap.objs.size + 3) .none->IsPair h' (s.heap.objs.size + 2) (.ref s.heap.objs.size) (.ref (s.heap.objs.size + 1)) ->
   IsPair h' (s.heap.objs.size + 3) .none .none->ItAt b1 h' s.heap.objs.size l1 0->ItAt b2 h' (s.heap.objs.size + 1) l2 0->h'.objs.size=s.heap.objs.size + 5 ->
   (∀ c o,s.heap.get? c=some o->h'.get? c=some o)->Q (.ref (s.heap.objs.size + 4)) { s with heap:=h' }) :
  wpAny (model prog w) A (call (.type "zip") [.ref l1,.ref l2]) Q E s:=by
 refine callType_new F.called_zip (by decide) (F.typeCall_zip_2 _ _) (F.newCall_zip_2 _ _) (λ obj=>F.args_object_init_3 obj _ _) F.entry_zip_new
  (zdR (b1:=b1) (b2:=b2) l1 l2 xs ys) ⟨hl1,hl2,?_⟩
 have z1:(zH1 s.heap b1 l1).objs.size=s.heap.objs.size + 1:=bN ..;have z2:(zH2 s.heap b1 b2 l1 l2).objs.size=s.heap.objs.size + 2:=by rw [bN,z1]
 have z3:(zH3 s.heap b1 b2 l1 l2).objs.size=s.heap.objs.size + 3:=by rw [bN,z2]
 have z4:(zH4 s.heap b1 b2 l1 l2).objs.size=s.heap.objs.size + 4:=by rw [bN,z3]
 have z5:(zH5 s.heap b1 b2 l1 l2).objs.size=s.heap.objs.size + 5:=by rw [bN,z4]
 have g5:(zH5 s.heap b1 b2 l1 l2).get? (zH4 s.heap b1 b2 l1 l2).objs.size=some _:=aC _ rfl;have g4:(zH5 s.heap b1 b2 l1 l2).get? (zH3 s.heap b1 b2 l1 l2).objs.size=some _:=aj _ (aC _ rfl);have g3:(zH5 s.heap b1 b2 l1 l2).get? (zH2 s.heap b1 b2 l1 l2).objs.size=some _:=aj _ (aj _ (aC _ rfl));have g2:(zH5 s.heap b1 b2 l1 l2).get? (zH1 s.heap b1 l1).objs.size=some _:=aj _ (aj _ (aj _ (aC _ rfl)));have g1:(zH5 s.heap b1 b2 l1 l2).get? s.heap.objs.size=some _:=aj _ (aj _ (aj _ (aj _ (aC _ rfl))));show _/\_
 rw [z2,z3,z4] at g5;rw [z1,z2] at g3;rw [z3] at g4;rw [z1] at g2;rw [z4];exact ⟨⟨_,g5,rfl⟩,h _ g5 g3 g4 (ItAt.new g1) (ItAt.new g2) z5 λ c o x =>
  aj _ (aj _ (aj _ (aj _ (aj _ x))))⟩
end
def SqB (b:Bool) (K:A0) (H:Hp) (a:Addr) (xs:Ap):Prop:=if b=true then SqL K H a xs else SqT K H a xs
def Inv.sqB {m4:A2} {σ:St} {H:Hp} {s:An} {a:Addr} {xs:Ap} (I:Inv X m4 σ H s) (h:SqB b X.K H a xs):∃ mY:List Value,Vals xs mY/\SqAt b s.heap a mY.toArray:=by
 cases b
 ·obtain ⟨mY,r,p,_⟩:=I.tuple (show SqT X.K H a xs from h);exact ⟨mY,r,p⟩
 ·obtain ⟨mY,r,p,_⟩:=I.list (show SqL X.K H a xs from h);exact ⟨mY,r,p.isList⟩
def Inv.sqB_inj {m4:A2} {σ:St} {H:Hp} {s:An} {a:Addr} {xs ys:Ap} (I:Inv X m4 σ H s) (h1:SqB b X.K H a xs) (h2:SqB b X.K H a ys):xs=ys:=by
 cases b
 ·exact I.tuple_inj (show SqT X.K H a xs from h1) (show SqT X.K H a ys from h2)
 ·exact I.list_inj (show SqL X.K H a xs from h1) (show SqL X.K H a ys from h2)
noncomputable def Itz (K:A0) (b1 b2:Bool) (a1 a2:Addr):It :=
 ⟨λ i H=>∃ xs ys x y,SqB b1 K H a1 xs/\SqB b2 K H a2 ys/\xs[i]?=some x/\ys[i]?=some y,
   λ i H v H'=>∃ t x y,H t=none/\v=.ref t/\(∀ xs,SqB b1 K H a1 xs->xs[i]?=some x)/\(∀ ys,SqB b2 K H a2 ys->ys[i]?=some y)/\H'=upd H t (.tup [x,y]),
   λ i H=>∃ xs ys,SqB b1 K H a1 xs/\SqB b2 K H a2 ys/\(xs.length<=i\/ys.length<=i)⟩
def SqB.there {m4:A2} {σ:St} {H:Hp} {s:An} {a:Addr} {xs:Ap} (I:Inv X m4 σ H s) (h:SqB b X.K H a xs):∃ o,s.heap.get? a=some o/\(o.cls=.type "list"\/o.cls=.type "tuple")/\∃ mY n,o.data=.seq mY n:=by
 obtain ⟨mY,_,p⟩:=I.sqB h;cases b
 ·obtain ⟨o,e,c,n,d⟩:=p;exact ⟨o,e,.inr c,_,n,d⟩
 ·obtain ⟨o,e,c,n,d⟩:=p;exact ⟨o,e,.inl c,_,n,d⟩
def zeq {P:Af} {w:World} {K:A0} {elts:List Expr} {x1} {pos:Pos} {b1 b2:Bool} (z TI TO i1 i2 l1 l2:Addr) (D:ZipApart z TI TO i1 i2 l1 l2) :
  Turn P w K (.Tuple elts x1 pos) (Itz K b1 b2 l1 l2) [z,TI,TO,i1,i2] z (λ i h=>IsZip h z TI TO .none/\IsPair h TI (.ref i1) (.ref i2)/\(∃ a b,IsPair h TO a b)/\ItAt b1 h i1 l1 i/\ItAt b2 h i2 l2 i) where
 mem:=by simp
 obj:=λ i h st b hb=>by
  obtain ⟨hz,hTI,⟨a,b',hTO⟩,h1,h2⟩:=st;simp only [ax,bj,bQ] at hb;rcases hb with rfl|rfl|rfl|rfl|rfl
  ·exact ⟨_,hz,λ v z=>by cases z⟩
  ·exact ⟨_,hTI,λ v z=>by cases z⟩
  ·exact ⟨_,hTO,λ v z=>by cases z⟩
  ·exact h1.obj
  ·exact h2.obj
 keep:=λ i h h' st k=>by
  obtain ⟨hz,hTI,⟨a,b',hTO⟩,h1,h2⟩:=st;exact ⟨k z (by simp) _ hz,k TI (by simp) _ hTI,⟨a,b',k TO (by simp) _ hTO⟩,h1.at' λ o e=>k i1 (by simp) o e,h2.at' λ o e=>k i2 (by simp) o e⟩
 item:=by
  intro X hP hw hK hc i m4 s σ H E I hf st hg;subst hP hw hK;obtain ⟨hz,hTI,⟨a,b',hTO⟩,h1,h2⟩:=st;obtain ⟨xs,ys,x,y,q1,q2,hx,hy⟩:=hg;obtain ⟨its1,r1,p1⟩:=I.sqB q1;obtain ⟨its2,r2,p2⟩:=I.sqB q2;obtain ⟨u1,hu1,ru1⟩:=r1.get hx;obtain ⟨u2,hu2,ru2⟩:=r2.get hy;have hT:s.TypeIs (.ref z) "zip":=⟨_,hz,rfl⟩;unfold pyNext;refine ai (fV (cF (name:=Str.ofString "__next__") hT dH (dB dH hT F.entry_zip_next
   (zen D hz hTI hTO h1 h2 p1 p2 (x:=u1) (y:=u2) (by simpa using hu1) (by simpa using hu2) λ h' a1 a2 a3 a4 a5 a6 hk=>aD ?_) (F.args_zip_next_1 _))))
  refine ⟨_,rfl,?_⟩;have I1:Inv X m4 σ (upd H s.heap.objs.size (.tup [x,y])) { s with heap:=h' }:=I.turnNew (t':=s.toks) hf (av _) (λ b o hb q=>hk b o (λ z=>hb (by simp [z])) (λ z=>hb (by simp [z])) (λ z=>hb (by simp [z])) (λ z=>hb (by simp [z])) q)
   ⟨by show 2<=sizeLine;decide,[u1,u2],.cons ru1 (.cons ru2 .nil),⟨_,a5,rfl,_,rfl⟩⟩
  have hn:H s.heap.objs.size=none:=I.hok.fresh (av _);have ne:∀ b∈[z,TI,TO,i1,i2],b≠s.heap.objs.size:=λ b hb=>by
   have:∃ o,s.heap.get? b=some o:=by
    simp only [ax,bj,bQ] at hb;rcases hb with rfl|rfl|rfl|rfl|rfl
    ·exact ⟨_,hz⟩
    ·exact ⟨_,hTI⟩
    ·exact ⟨_,hTO⟩
    ·exact let ⟨o,e,_⟩:=h1.obj;⟨o,e⟩
    ·exact let ⟨o,e,_⟩:=h2.obj;⟨o,e⟩
   obtain ⟨o,e⟩:=this;exact aH (au e)
  have fr:∀ b∈[z,TI,TO,i1,i2],(upd H s.heap.objs.size (.tup [x,y])) b=none:=λ b hb=>by rw [nu (ne b hb)];exact (hf b hb).1
  have hTI':IsPair h' TI (.ref i1) (.ref i2):=hk _ _ D.TIz D.TITO D.TIi1 D.TIi2 hTI;refine wpAny_letOwnedTupleGo_zip a1 λ h'' hz'' hs''=>?_;refine ⟨.ref s.heap.objs.size,_,I1.turnL (t':=s.toks) (ch:=[z]) (λ b hb=>?_) (λ b o hb q=>(hs''.2 b (λ z=>hb (by simp [z]))).trans q),rfl,
   ⟨s.heap.objs.size,x,y,hn,rfl,λ zs hy=>by rw [I.sqB_inj hy q1];exact hx,λ zs hz=>by rw [I.sqB_inj hz q2];exact hy,rfl⟩,
   ⟨hz'',hs''.extBut _ _ D.TIz hTI',⟨_,_,hs''.extBut _ _ D.TOz a2⟩,a3.at' λ o e=>hs''.extBut _ _ D.i1z e,a4.at' λ o e=>hs''.extBut _ _ D.i2z e⟩,fr⟩
  obtain rfl:b=z:=by simpa using hb
  exact ⟨fr b (by simp),(hf b (by simp)).2⟩
 done:=by
  intro X hP hw hK hc i m4 s σ H E I hf st hg;subst hP hw hK;obtain ⟨hz,hTI,⟨a,b',hTO⟩,h1,h2⟩:=st;obtain ⟨xs,ys,q1,q2,hx⟩:=hg;obtain ⟨its1,r1,p1⟩:=I.sqB q1;obtain ⟨its2,r2,p2⟩:=I.sqB q2;have e1:=r1.length;have e2:=r2.length;have hT:s.TypeIs (.ref z) "zip":=⟨_,hz,rfl⟩;have hend:its1.toArray[i]?=none\/its2.toArray[i]?=none:=by
   rcases hx with h|h
   ·exact .inl (by simp;omega)
   ·exact .inr (by simp;omega)
  unfold pyNext;refine ai (fV (cF (name:=Str.ofString "__next__") hT dH
   (dB dH hT F.entry_zip_next (zfY (I.ok.hd hc) D hz hTI hTO h1 h2 p1 p2 hend λ h' e hk he=>?_) (F.args_zip_next_1 _))))
  obtain ⟨o,ho,hcl⟩:=he;refine ai (wpAny_isInstance (T:="StopIteration") (b:=true) ⟨o,ho,hcl⟩ isSubtype_stop ?_);exact aD ⟨rfl,I.turnL (t':=s.toks) hf λ b o hb q=>hk b o (λ z=>hb (by simp [z])) (λ z=>hb (by simp [z])) (λ z=>hb (by simp [z])) (λ z=>hb (by simp [z])) q⟩
 self:=λ _ _ _ _ _ st h=>wpAny_pyIter_zip st.1 h
def zdh (n l1 l2:Nat) (h1:l1 < n) (h2:l2 < n):ZipApart (n + 4) (n + 2) (n + 3) n (n + 1) l1 l2:=by
 constructor <;> (show (_:Nat)≠_) <;> omega
def iZip (X:Cx) (ta:TA):TI:=λ σ H R=>X.mg "zip"=none/\ta σ H λ vs H1=>∃ b1 b2 l1 l2 xs ys,vs=[.ref l1,.ref l2]/\SqB b1 X.K H1 l1 xs/\SqB b2 X.K H1 l2 ys/\R (Itz X.K b1 b2 l1 l2) H1
def zeV {a b:Expr} {elts:List Expr} {x1} {tp p pos:Pos} {ta:TA} (ha:PA X [a,b] ta) (hg:Gl X "zip":=by rfl)
  (hs:starEach [a,b] X.env=(false,eval a X.env) :: starEach [b] X.env:=by rfl) (hpl:(backTo pos (starEach [b] X.env)).any (·.1)=false:=by rfl) :
  PI X (.Tuple elts x1 tp) (.Call (.Name "zip" p) [a,b] [] pos) (iZip X ta):=by
 intro m4 s σ H R I h;refine bw (vQ I hg h.1 zh9 ?_);refine bg (vy (ha pos m4 s σ H _ I h.2) λ us s1 vs H1 I1 r1 q1=>?_) hs hpl;obtain ⟨b1,b2,l1,l2,xs,ys,rfl,q1,q2,hR⟩:=q1;obtain ⟨u1,u2,rfl,rx,ry⟩:=zg0 r1;cases rx;cases ry;obtain ⟨its1,rv1,p1⟩:=I1.sqB q1;obtain ⟨its2,rv2,p2⟩:=I1.sqB q2;obtain ⟨o1,e1,_⟩:=SqB.there I1 q1;obtain ⟨o2,e2,_⟩:=SqB.there I1 q2;have n1:=au e1;have n2:=au e2;refine zfJ p1 p2 λ h' hz hTI hTO h1 h2 hsz hk=>wpAny_pyIter_zip hz ?_;refine ⟨s1.heap.objs.size + 4,[s1.heap.objs.size + 4,s1.heap.objs.size + 2,s1.heap.objs.size + 3,s1.heap.objs.size,s1.heap.objs.size + 1],_,_,H1,rfl,I1.kept (t':=s1.toks) hk,
  zeq _ _ _ _ _ l1 l2 (zdh _ _ _ n1 n2),⟨hz,hTI,⟨_,_,hTO⟩,h1,h2⟩,λ b hb=>?_,hR⟩
 have ge:s1.heap.objs.size<=b:=by
  simp only [ax,bj,bQ] at hb;rcases hb with rfl|rfl|rfl|rfl|rfl
  ·exact db _ _
  ·exact db _ _
  ·exact db _ _
  ·exact av _
  ·exact db _ _
 exact I1.fpOk ge (I1.hok.fresh ge)
section
variable {K:A0} {σ:St} {H:Hp}
def WG {a:Addr} {xs:Ap} {DN:St->Hp->Prop} {B:(St->Hp->Prop)->V->St->Hp->Prop} (Pv:Nat->St->Hp->Prop) (h0:Pv 0 σ H) (hl:∀ i σ H,i<=xs.length->Pv i σ H->SqL K H a xs)
  (hs:∀ i x t σ H,xs[i]?=some x->H t=none->Pv i σ H->B (Pv (i + 1)) (.ref t) σ (upd H t (.tup [.int i,x]))) (hd:∀ σ H,Pv xs.length σ H->DN σ H) :
  ∃ W:Nat->Nat->St->Hp->Prop,(∃ m,W 0 m σ H)/\∀ i m σ H,W i m σ H ->
   ((Ite K a).stop i H/\DN σ H)\/((Ite K a).go i H/\∃ N:St->Hp->Prop,(∀ σ' H',N σ' H'->∃ m',m' < m/\W (i + 1) m' σ' H')/\∀ x H',(Ite K a).yld i H x H'->B N x σ H'):=by
 refine ⟨λ i m σ H=>m=xs.length - i/\i<=xs.length/\Pv i σ H,⟨xs.length,by simp,cx _,h0⟩,?_⟩;rintro i m σ H ⟨rfl,hi,p⟩;have q:=hl i σ H hi p;by_cases hlt:i < xs.length
 ·refine .inr ⟨⟨xs,xs[i],q,by simp [hlt]⟩,Pv (i + 1),λ σ' H' p'=>⟨xs.length - (i + 1),by omega,rfl,hlt,p'⟩,λ v H' y=>?_⟩;obtain ⟨t,x,ht,rfl,hx,rfl⟩:=y;exact hs i x t σ _ (hx xs q) ht p
 ·have e:i=xs.length:=by omega
  subst e;exact .inl ⟨⟨xs,q,av _⟩,hd σ H p⟩
def zhc {b1 b2:Bool} {a1 a2:Addr} {xs ys:Ap} {DN:St->Hp->Prop} {B:(St->Hp->Prop)->V->St->Hp->Prop} (Pv:Nat->St->Hp->Prop) (h0:Pv 0 σ H) (hl:∀ i σ H,i<=min xs.length ys.length->Pv i σ H->SqB b1 K H a1 xs/\SqB b2 K H a2 ys)
  (hs:∀ i x y t σ H,xs[i]?=some x->ys[i]?=some y->H t=none->Pv i σ H->B (Pv (i + 1)) (.ref t) σ (upd H t (.tup [x,y]))) (hd:∀ σ H,Pv (min xs.length ys.length) σ H->DN σ H) :
  ∃ W:Nat->Nat->St->Hp->Prop,(∃ m,W 0 m σ H)/\∀ i m σ H,W i m σ H ->
   ((Itz K b1 b2 a1 a2).stop i H/\DN σ H)\/((Itz K b1 b2 a1 a2).go i H/\∃ N:St->Hp->Prop,(∀ σ' H',N σ' H'->∃ m',m' < m/\W (i + 1) m' σ' H')/\∀ x H',(Itz K b1 b2 a1 a2).yld i H x H'->B N x σ H'):=by
 refine ⟨λ i m σ H=>m=min xs.length ys.length - i/\i<=min xs.length ys.length/\Pv i σ H,⟨min xs.length ys.length,by simp,cx _,h0⟩,?_⟩;rintro i m σ H ⟨rfl,hi,p⟩;obtain ⟨q1,q2⟩:=hl i σ H hi p;by_cases hlt:i < min xs.length ys.length
 ·have l1:i < xs.length:=by omega
  have l2:i < ys.length:=by omega
  refine .inr ⟨⟨xs,ys,xs[i],ys[i],q1,q2,by simp [l1],by simp [l2]⟩,Pv (i + 1),λ σ' H' p'=>⟨min xs.length ys.length - (i + 1),by omega,rfl,hlt,p'⟩,λ v H' y=>?_⟩;obtain ⟨t,x,y,ht,rfl,hx,hy,rfl⟩:=y;exact hs i x y t σ _ (hx xs q1) (hy ys q2) ht p
 ·have e:i=min xs.length ys.length:=by omega
  subst e;exact .inl ⟨⟨xs,ys,q1,q2,by omega⟩,hd σ H p⟩
end
section
variable {X:Cx} {N:A8} {scope:Scope} {s:An} {H:Hp} {fp:Ab} {m4:A2}
def cxC_K:(cxC X N scope s H fp m4).K=X.K:=rfl
def cxC_mg:(cxC X N scope s H fp m4).mg=X.mg:=rfl
def cxC_prog:(cxC X N scope s H fp m4).prog=X.prog:=rfl
def cxC_w:(cxC X N scope s H fp m4).w=X.w:=rfl
def cxC_base:(cxC X N scope s H fp m4).base=X.base:=rfl
end
end L2
namespace L2
open PySem PySem.Spec PySem.Calls PyProof.Rows
structure BCal (P:Af) (w:World) (K:A0) (mg:A4) (base:Heap) (x m:Str) (k:Nat) (ps:A8) (dvs:Ap) (sp:Sp):Prop where
 ex:∃ C f fd ds,mg x=some (.ref C)/\specialIn K (.ref C) "__getattribute__"=some (some (.builtin "type.__getattribute__"))/\readsIn K C (.type "type")=true /\
  findCls K (.ref C) (.type "type") m=some (.val (.ref f))/\handedIn (.ref f)=true/\FnOk P w K mg base (CXr P w) k f fd ps sp/\keepIn K (.ref f)=true/\Binds K fd ps ds/\Vals dvs ds
def BCal.mono {P:Af} {w:World} {K:A0} {mg:A4} {base:Heap} {x m:Str} {j k:Nat} {ps:A8} {dvs:Ap} {sp:Sp} (c:BCal P w K mg base x m j ps dvs sp) (h:j<=k:=by decide):BCal P w K mg base x m k ps dvs sp:=by
 obtain ⟨C,f,fd,ds,a,b,c,d,e,g,r⟩:=c.ex;exact ⟨C,f,fd,ds,a,b,c,d,e,g.mono h,r⟩
section
variable {X:Cx} {G:GK} {k:Nat} {x m:Str} {p pos apos:Pos} {e:Expr} {es:List Expr} {t:TA}
def tBase (X:Cx) (k:Nat) (x m:Str) (G:GK) (t:TA):TE:=λ σ H Q=>∃ ps dvs sp,BCal X.prog X.w X.K X.mg X.base x m k ps dvs sp/\t σ H λ vs H1=>sp (vs ++ dvs) H1 Q (λ cls _ H'=>G cls σ H')
def Zf {pl:Sem Bool} (B:Bod X) (hr:Room k X.A) (ha:PA (X.exg G) (e :: es) t) (hg:Gl X x:=by rfl) (hdb:(x == ("__debug__":Str))=false:=by decide)
  (hst:starEach (e :: es) X.env=(false,eval e X.env) :: starEach es X.env:=by rfl) (hpl:(backTo pos (starEach es X.env)).any (·.1)=false:=by rfl)
  (ht:eval (.Call (.Attribute (.Name x p) m apos) (e :: es) [] pos) X.env=(do
   let ov <- eval (.Name x p) X.env
   standAt apos.atName
   let (f,first) <- holding [ov] (getMethod ov m pl)
   callWith pos f first (backTo pos (starEach (e :: es) X.env)) (backToKw pos (keywordEach [] X.env))):=by rfl) :
  PE (X.exg G) (.Call (.Attribute (.Name x p) m apos) (e :: es) [] pos) (tBase X k x m G t):=by
 intro m4 s σ H Q I h;obtain ⟨ps,dvs,sp,⟨C,f,fd,ds,hm,hga,hrd,hfc,hhd,F,hk,hb,hd⟩,h⟩:=h;refine dC (pl:=pl) (wq I hg hm ?_ hdb) ht;refine PySem.W.method_cls I.kIn hga (PySem.W.cls_value I.kIn hrd hfc hhd ?_);have I0:=I.tok (s.toks + 1);refine dg (first:=[]) (h₀:=X.base) I.ok.mod.kin hk (vy (ha pos m4 _ σ H _ I0 h) λ us s1 vs H1 I1 r q=>⟨I1.kIn,?_⟩) hst hpl;exact Ju B F hr hb hd I1 r q
end
structure FB (K:A0) (mg:A4) (x m qual:Str) (st:Stmt) (ps:A8):Prop where
 ex:∃ C f fd,mg x=some (.ref C)/\specialIn K (.ref C) "__getattribute__"=some (some (.builtin "type.__getattribute__"))/\readsIn K C (.type "type")=true /\
  findCls K (.ref C) (.type "type") m=some (.val (.ref f))/\Fun K m qual st f fd/\keepIn K (.ref f)=true/\Binds K fd ps []
def FB.cal {P:Af} {w:World} {K:A0} {mg:A4} {base:Heap} {x m qual:Str} {st:Stmt} {ps:A8} {k:Nat} {sp:Sp} (h:FB K mg x m qual st ps)
  (ok:∀ {f fd},Fun K m qual st f fd->FnOk P w K mg base (CXr P w) k f fd ps sp):BCal P w K mg base x m k ps [] sp:=by
 obtain ⟨C,f,fd,a,b,c,d,F,kp,bi⟩:=h.ex;exact ⟨C,f,fd,[],a,b,c,d,rfl,ok F,kp,bi,.nil⟩
def ziR {K:A0} {mg:A4} {C:Addr} {x m qual:Str} {st:Stmt} {ps:A8} {f:Addr} {oc:Am} {od an:Aa} {osl:Ae} {kV doc pm cdv ct:Am} (gl:mg x=some (.ref C))
  (ga:specialIn K (.ref C) "__getattribute__"=some (some (.builtin "type.__getattribute__"))) (rd:readsIn K C (.type "type")=true) (fc:findCls K (.ref C) (.type "type") m=some (.val (.ref f)))
  (l:K.lookup f=some ⟨oc,od,.func (fnOf m qual (zW st) (zO st) (zd st) .none kV doc pm an cdv ct),osl⟩)
  (c:codeIn K cdv qual=true) (k:keepIn K (.ref f)=true)
  (hb:∀ (kV doc pm:Am) (an:Aa) (cdv ct:Am) (us:A7),us.length=ps.length->bindArgs (fnOf m qual (zW st) (zO st) (zd st) .none kV doc pm an cdv ct) ⟨us,[]⟩=pure (ps.zip us)):FB K mg x m qual st ps :=
 ⟨C,f,_,gl,ga,rd,fc,vh l c k,k,(vh l c k).binds hb⟩
section
variable {X:Cx} {a b:Expr} {ta:TA} {p pos lp lpos:Pos}
noncomputable def rgL (lo:Int) (n:Nat):List V:=(List.range n).map λ (i:Nat)=>V.int (lo + (i:Int))
def zbo {lo:Int} {n:Nat} {mZ:Ac} (h:ItemsOf (λ i v=>∃ t,v=.int (lo + i * 1) t) mZ n):Vals (rgL lo n) mZ.toList:=by
 have key:∀ (k:Nat) (l:A7) (m:Nat),l.length=m->(∀ i v,l[i]?=some v->∃ t,v=Value.int (lo + ((k + i:Nat):Int)) t)->Vals ((List.range' k m).map λ (i:Nat)=>V.int (lo + (i:Int))) l:=by
  intro k l
  induction l generalizing k with
  | nil=>intro m hm _;simp at hm;subst hm;exact .nil
  | cons x r ih =>
   intro m hm hv;obtain ⟨m,rfl⟩:∃ m',m=m' + 1:=⟨r.length,by simpa using hm.symm⟩;rw [List.range'_succ,bz];refine .cons ?_ (ih (k + 1) m (by simpa using hm) λ i v e=>?_)
   ·obtain ⟨t,e⟩:=hv 0 x rfl;exact ⟨t,by simpa using e⟩
   ·obtain ⟨t,e'⟩:=hv (i + 1) v (by simpa using e);exact ⟨t,by rw [e'];congr 2;omega⟩
 have:=key 0 mZ.toList n (by simpa using h.1) λ i v e=>by
  obtain ⟨t,e'⟩:=h.2 i v (by simpa using e);exact ⟨t,by rw [e'];simp⟩
 rw [rgL,List.range_eq_range'];exact this
def tRg1 (X:Cx) (ta:TA):TE:=λ σ H Q=>X.mg "range"=none/\ta σ H λ vs H1=>lq vs λ v=>iq v λ j=>∀ p,H1 p=none->Q (.ref p) (upd H1 p (.rng 0 j))
def zhB (ha:PA X [a] ta) (hg:Gl X "range":=by rfl) (hs:starEach [a] X.env=[(false,eval a X.env)]:=by rfl):PE X (.Call (.Name "range" p) [a] [] pos) (tRg1 X ta):=by
 intro m4 s σ H Q I h;refine Call_ (vQ I hg h.1 boot_range (bg (vy (ha pos m4 s σ H _ I h.2) λ us s1 vs H1 I1 r1 q1=>?_) hs rfl));obtain ⟨j,e,q⟩:=zhO q1;subst e;cases r1 with
 | cons r rr =>
  cases rr;obtain ⟨t,rfl⟩:=r;exact call_range_1 ⟨.ref _,_,I1.laid (o:=.rng 0 j) (λ b o e=>aj _ e) (av _) ⟨_,_,_,aC _ rfl⟩,rfl,q _ I1.fresh⟩
def zbJ {lo:Int} {n:Nat}:(rgL lo n).length=n:=by simp [rgL]
def zfO (hc:X.calm=true):CallR X (.type "list") (λ xs H Q=>∃ p lo hi,xs=[.ref p]/\H p=some (.rng lo hi)/\(-(2 ^ 62)<=lo/\lo < 2 ^ 62/\-(2 ^ 62)<=hi/\hi < 2 ^ 62/\(hi - lo).toNat<=1000)/\∀ l,H l=none->Q (.ref l) (upd H l (.lst (rgL lo (hi - lo).toNat)))):=by
 intro m4 s σ H xs us Q I r h;obtain ⟨p,lo,hi,rfl,hq,⟨h1,h2,h3,h4,h5⟩,q⟩:=h;obtain ⟨u,rfl,rx⟩:=Q0 r;cases rx;obtain ⟨t,u,v,e⟩:=I.hok p _ hq;refine call_list_range (n:=(hi - lo).toNat) (I.ok.hd hc) e (small_one h1 h2 h3 h4) (by rw [rangeSize_one];split <;> omega) (by omega) λ h' tk acc' c' hk hS hit=>?_;exact ⟨.ref _,_,I.laid (o:=.lst (rgL lo (hi - lo).toNat)) (t':=tk) hk (av _) ⟨by rw [zbJ];exact bM (zm h5),acc'.toList,c',zbo hit,by simpa using hS⟩,rfl,q _ I.fresh⟩
end
end L2
namespace L2
open PySem PySem.Spec PyProof.Rows
noncomputable def Itd (lo:Int) (n:Nat):It:=⟨λ i _=>i < n,λ i H x H'=>H'=H/\x=.int (lo - i),λ i _=>n<=i⟩
def zdk {P:Af} {w:World} {K:A0} {tg:Expr} (it:Addr) (lo:Int) (n:Nat):Turn P w K tg (Itd lo n) [it] it (λ i h=>IsRangeIter h it (lo + (i:Nat) * (-1)) ((n:Int) - (i:Nat)) (-1)) where
 mem:=by simp
 obj:=λ i h st b hb=>by
  have e:b=it:=by simpa using hb
  subst e;exact ⟨_,st,λ v z=>by
   have z':Data.fields _=Data.cell v:=z;cases z'⟩
 keep:=λ i h h' st k=>k it (by simp) _ st
 item:=by
  intro X hP hw hK hc i m4 s σ H E I hf st hg;subst hP hw hK;obtain ⟨f0,f1,f2,f3,f4,f5⟩:=hf it (by simp);have W:=Walks.range (prog:=X.prog) (w:=X.w) (I.ok.hd hc) it lo (-1) n;refine W.item i s _ _ hg st λ v h' tk hv st' kk=>?_;obtain ⟨t,rfl⟩:=hv;have I1:Inv X m4 σ H { s with heap:=h',toks:=tk }:=I.turned (λ b o hb e=>kk b o (by simpa using hb) e) f0 f1 f3 f4 f5;refine ⟨_,rfl,zcS (s:={ s with heap:=h',toks:=tk }) (n:="range_iterator") st' rfl rfl (by decide) ⟨.int (lo - i),H,I1,⟨t,?_⟩,⟨rfl,rfl⟩,st',λ b hb=>(hf b hb).1⟩⟩
  congr 1;omega
 done:=by
  intro X hP hw hK hc i m4 s σ H E I hf st hg;subst hP hw hK;obtain ⟨f0,f1,f2,f3,f4,f5⟩:=hf it (by simp);exact wpAny_pyNext_range_end (I.ok.hd hc) st (by have:n<=i:=hg;omega) λ h' eb=>⟨rfl,I.turned (t':=s.toks) (λ b o hb e=>eb b o hb e) f0 f1 f3 f4 f5⟩
 self:=λ _ _ _ _ _ st h=>wpAny_pyIter_rangeiter st h
def vF (a b:Int):Builtin.Range.rangeSize a b (-1)=((a - b).toNat:Int):=by
 unfold Builtin.Range.rangeSize;rw [ao (by decide),show (- (-1:Int))=1 from rfl,Int.ediv_one]
 split <;> omega
def zbw {a b:Int} (ha:-(2 ^ 62)<=a) (ha':a < 2 ^ 62) (hb:-(2 ^ 62)<=b) (hb':b < 2 ^ 62):Builtin.Range.small a b (-1)=true:=by
 unfold Builtin.Range.small;rw [vF];simp only [Builtin.Range.rangeFitsLong,cH,Bool.or_eq_true,cY,bx,show ¬ ((-1:Int) > 0) by decide,dQ];omega
section
variable {X:Cx} {tg:Expr}
def zgF {m4:A2} {σ:St} {H:Hp} {s:An} {R:It->Hp->Prop} {E:A3} {lo hi:Int} {t u v:Tok} {tk:Nat} (I:Inv X m4 σ H s) (h1:-(2 ^ 62)<=lo) (h2:lo < 2 ^ 62) (h3:-(2 ^ 62)<=hi) (h4:hi < 2 ^ 62)
  (q:R (Itd lo (lo - hi).toNat) H):wpAny (model X.prog X.w) X.A (pyIter (.ref s.heap.objs.size)) (PIE X m4 σ tg R) E { s with heap:=s.heap.push { cls:=.type "range",data:=.fields #[.int lo t,.int hi u,.int (-1) v] },toks:=tk }:=by
 refine wpAny_pyIter_range (IsRange.new ..) (zbw h1 h2 h3 h4) ?_;have I1:Inv X m4 σ H { s with heap:=s.heap.push { cls:=.type "range",data:=.fields #[.int lo t,.int hi u,.int (-1) v] },toks:=tk }:=I.kept λ b o e=>aj _ e;refine ⟨(s.heap.push { cls:=.type "range",data:=.fields #[.int lo t,.int hi u,.int (-1) v] }).objs.size,[(s.heap.push { cls:=.type "range",data:=.fields #[.int lo t,.int hi u,.int (-1) v] }).objs.size],_,_,H,rfl,
  I1.kept (t':=tk) λ b o e=>aj _ e,zdk _ lo (lo - hi).toNat,?_,λ b hb=>?_,q⟩
 ·have e1:lo + ((0:Nat):Int) * (-1)=lo:=by simp
  have e2:(((lo - hi).toNat:Nat):Int) - ((0:Nat):Int)=Builtin.Range.rangeSize lo hi (-1):=by rw [vF];omega
  show IsRangeIter _ _ (lo + ((0:Nat):Int) * (-1)) ((((lo - hi).toNat:Nat):Int) - ((0:Nat):Int)) (-1)
  rw [e1,e2];exact aC _ rfl
 ·have e:b=(s.heap.push { cls:=.type "range",data:=.fields #[.int lo t,.int hi u,.int (-1) v] }).objs.size:=by simpa using hb
  subst e;exact I1.fpOk (av _) (I1.hok.fresh (av _))
def iRng3 (X:Cx) (ta:TA):TI:=λ σ H R=>X.mg "range"=none/\ta σ H λ vs H1=>∃ i j:Int,vs=[.int i,.int j,.int (-1)]/\(-1000<=i/\i < 1000/\-1000<=j/\j < 1000)/\R (Itd i (i - j).toNat) H1
theorem zhz {a b c:Expr} {ta:TA} {p pos:Pos} (ha:PA X [a,b,c] ta) (hg:Gl X "range":=by rfl) (hs:starEach [a,b,c] X.env=[(false,eval a X.env),(false,eval b X.env),(false,eval c X.env)]:=by rfl) (hs2:starEach [b,c] X.env=[(false,eval b X.env),(false,eval c X.env)]:=by rfl) :
  PI X tg (.Call (.Name "range" p) [a,b,c] [] pos) (iRng3 X ta):=by
 intro m4 s σ H R I h;refine Call_ (vQ I hg h.1 boot_range (bg (vy (ha pos m4 s σ H _ I h.2) λ us s1 vs H1 I1 r1 q1=>?_) (by rw [hs,hs2]) (by rw [hs2];rfl)));obtain ⟨i,j,e,⟨q1,q2,q3,q4⟩,q⟩:=q1;subst e;cases r1 with
 | cons r rr =>
  cases rr with
  | cons r' rr =>
   cases rr with
   | cons r'' rr =>
    cases rr;obtain ⟨t,rfl⟩:=r;obtain ⟨t',rfl⟩:=r';obtain ⟨t'',rfl⟩:=r'';exact call_range_3 (by decide) (zgF I1 (by omega) (by omega) (by omega) (by omega) q) (Or.inl (fe (by omega)))
def ziO {K:A0} {σ:St} {H:Hp} {lo:Int} {n:Nat} {DN:St->Hp->Prop} {B:(St->Hp->Prop)->V->St->Hp->Prop} (Pv:Nat->St->Hp->Prop) (h0:Pv 0 σ H)
  (hs:∀ i σ H,i < n->Pv i σ H->B (Pv (i + 1)) (.int (lo - i)) σ H) (hd:∀ σ H,Pv n σ H->DN σ H) :
  ∃ W:Nat->Nat->St->Hp->Prop,(∃ m,W 0 m σ H)/\∀ i m σ H,W i m σ H ->
   ((Itd lo n).stop i H/\DN σ H)\/((Itd lo n).go i H/\∃ N:St->Hp->Prop,(∀ σ' H',N σ' H'->∃ m',m' < m/\W (i + 1) m' σ' H')/\∀ x H',(Itd lo n).yld i H x H'->B N x σ H'):=by
 refine ⟨λ i m σ H=>m=n - i/\i<=n/\Pv i σ H,⟨n,by simp,cx _,h0⟩,?_⟩;rintro i m σ H ⟨rfl,hi,p⟩;by_cases hlt:i < n
 ·refine .inr ⟨hlt,Pv (i + 1),λ σ' H' p'=>⟨n - (i + 1),by omega,rfl,hlt,p'⟩,λ x H' y=>?_⟩;obtain ⟨e,y⟩:=y;subst e y;exact hs i σ _ hlt p
 ·have e:i=n:=by omega
  subst e;exact .inl ⟨av _,hd σ H p⟩
end
section
variable {X:Cx} {tg:Expr}
end
end L2
namespace L2
open PySem PySem.Spec PySem.Calls PyProof.Rows
theorem ZT:∀ {us:A7} {ns:A6},IntsAre us ns->Vals (ns.map V.int) us
 | _,_,.nil=>.nil
 | _,_,.cons n t h=>.cons ⟨t,rfl⟩ (ZT h)
section
variable {X:Cx}
def zej:CallR X (.builtin "sorted") (λ xs H Q=>∃ p,∃ ns:List Int,xs=[.ref p]/\SqL X.K H p (ns.map V.int)/\ns.length < 64 /\
  ∀ (ms:A6) l,ms.Perm ns->ms.Pairwise (·<=·)->H l=none->Q (.ref l) (upd H l (.lst (ms.map V.int)))):=by
 intro m4 s σ H xs us Q I r h;obtain ⟨p,ns,rfl,hp,h64,q⟩:=h;obtain ⟨u,rfl,rx⟩:=Q0 r;cases rx;obtain ⟨mY,rv,hl,hz⟩:=I.list hp;have hlen:mY.length=ns.length:=by have:=rv.length;rw [af] at this;exact this.symm
 refine sorted_ints hl.isList (zb8 rv) (by omega) λ out ms a1 a2 a3=>?_;obtain ⟨e,he⟩:=sortedAll_at s.heap mY out;exact ⟨.ref _,_,I.laid (a:=s.heap.objs.size + 1) (o:=.lst (ms.map V.int)) (t':=s.toks) (λ b o h=>sortedAll_old h) (cK _) ⟨by rw [af,a2.length_eq];exact bM (zm (by omega)),out.toList,e,ZT a1,by simpa using he⟩,rfl,q ms _ a2 a3 (I.hok.fresh (cK _))⟩
end
structure FunD (K:A0) (x qual:Str) (st:Stmt) (f:Addr) (fd:FuncData):Prop where
 ex:∃ (oc:Am) (od:Aa) (dV kV doc pm:Am) (an:Aa) (cdv ct:Am) (osl:Ae),
  fd=fnOf x qual (zW st) (zO st) (zd st) dV kV doc pm an cdv ct/\K.lookup f=some ⟨oc,od,.func fd,osl⟩/\codeIn K cdv qual=true
 kp:keepIn K (.ref f)=true
section
variable {P:Af} {w:World} {K:A0} {mg:A4} {base:Heap}
def FunD.okx {x qual:Str} {st:Stmt} {f:Addr} {fd:FuncData} {N ps:A8} {k:Nat} {sp:Sp} (F:FunD K x qual st f fd) (S:FnScope N ps (zd st)) (len:∀ vs H Q E,sp vs H Q E->vs.length=ps.length)
  (hbody:∀ (cdv:Am) (A:Ao) (outer:List Env) (s:An) (H:Hp) (vs:Ap) (Q:VK) (E:XK),Room k (A.deeper (envOfC qual (zd st) s.heap.objs.size f cdv))->sp vs H Q E ->
   ∃ t,PSs ((cxR P w K mg base N qual (zd st) f cdv A outer s H E).exg λ cls _ H'=>E cls none H') (zO st) t/\t { nx:=λ _ H'=>Q .non H',rt:=Q } (start N vs) H):FnOk P w K mg base (CXr P w) (k + 1) f fd ps sp:=by
 obtain ⟨oc,od,dV,kV,doc,pm,an,cdv,ct,osl,rfl,lk,hcd⟩:=F.ex;refine zfx lk hcd S len λ A outer s H vs Q E hr hsp=>?_;obtain ⟨t,h,q⟩:=hbody cdv A outer s H vs Q E hr hsp;refine ⟨t,λ m4 s σ H' D I hw=>?_,q⟩;refine aU (h m4 s σ H' D (I.wish _) hw) (λ _ _ z=>z.unwish) λ e s' z=>?_;refine ai (aU (show wpAny _ _ _ _ _ _ from z) (λ _ s1 y1=>aU y1 (λ _ s'' y=>?_) λ _ _ y=>y.elim) λ _ _ y=>y.elim);obtain ⟨a,cls,σ2,H2,rfl,J,xx,g⟩:=y;exact ⟨a,cls,H2,rfl,J.os,J.bare,J.base,J.hok,xx.less (λ p hp=>absurd hp (by simp)),g⟩
structure FD (K:A0) (mg:A4) (x:Str) (st:Stmt) (ps:A8) (dvs:Ap):Prop where
 ex:∃ f fd ds,FunD K x x st f fd/\mg x=some (.ref f)/\Binds K fd ps []/\Binds K fd ps ds/\Vals dvs ds
def FD.cal {x:Str} {st:Stmt} {ps:A8} {dvs:Ap} {k:Nat} {sp:Sp} (h:FD K mg x st ps dvs) (ok:∀ {f fd},FunD K x x st f fd->FnOk P w K mg base (CXr P w) k f fd ps sp) :
  Cal P w K mg base x k ps [] sp:=by
 obtain ⟨f,fd,_,F,m,b,_⟩:=h.ex;exact ⟨f,fd,[],ok F,m,F.kp,b,.nil⟩
def zcW {h:Heap} {x:Str} {st:Stmt} {ps:A8} {dvs:Ap} {f dT:Addr} {oc toc:Am} {od an tod:Aa} {osl tsl:Ae} {items:Ac} {tn:Nat} {kV doc pm cdv ct:Am} (X:K.In h) (G:h.Ns mainGlobals mg)
  (a:nsIn K mainGlobals x=some (some (.ref f))) (l:K.lookup f=some ⟨oc,od,.func (fnOf x x (zW st) (zO st) (zd st) (.ref dT) kV doc pm an cdv ct),osl⟩)
  (c:codeIn K cdv x=true) (k:keepIn K (.ref f)=true) (lt:K.lookup dT=some ⟨toc,tod,.seq items tn,tsl⟩) (hv:Vals dvs items.toList)
  (hb:∀ (s:An) (us:A7),K.In s.heap->us.length=ps.length->BindsTo s (fnOf x x (zW st) (zO st) (zd st) (.ref dT) kV doc pm an cdv ct) ⟨us,[]⟩ (ps.zip us))
  (hd:∀ (s:An) (us:A7),K.In s.heap->(us ++ items.toList).length=ps.length->BindsTo s (fnOf x x (zW st) (zO st) (zd st) (.ref dT) kV doc pm an cdv ct) ⟨us,[]⟩ (ps.zip (us ++ items.toList))):FD K mg x st ps dvs :=
 ⟨f,_,items.toList,⟨⟨oc,od,.ref dT,kV,doc,pm,an,cdv,ct,osl,rfl,l,c⟩,k⟩,b8 X G a,(λ s us hK hl=>by rw [cg] at hl ⊢;exact hb s us hK hl),hd,hv⟩
end
end L2
namespace L2
open PySem PySem.Spec PySem.Calls PyProof.Rows
section
variable {prog:Af} {w:World} {A:Ao} {E:A3} {s:An} {R:Result->Shared->Prop}
end
section
variable {X:Cx} {a:Expr} {ta:TA} {p p2 pos pos2:Pos}
end
section
variable {X:Cx}
end
end L2
namespace L2
open PySem PySem.Spec PyProof.Rows
variable {H:Hp} {m9:As} {v:V} {b l:Addr} {w:World} {u:Am} {i:Nat}
inductive D where
 | non|bl (b:Bool)|int (i:Int)|str (x:Str)|lst (xs:List D)|tup (xs:List D)|ob (C:Addr) (fs:List (Str × D))
inductive Rep (H:Hp) (p:A5):V->D->Prop where
 | non:Rep H p .non .non
 | bl {b:Bool}:Rep H p (.bl b) (.bl b)
 | int {i:Int}:Rep H p (.int i) (.int i)
 | str {x:Str}:Rep H p (.str x) (.str x)
 | lst {l:Addr} {vs:Ap} {ds:List D}:p l->H l=some (.lst vs)->vs.length=ds.length->(∀ (i:Nat) v d,vs[i]?=some v->ds[i]?=some d->Rep H p v d)->Rep H p (.ref l) (.lst ds)
 | tup {l:Addr} {vs:Ap} {ds:List D}:p l->H l=some (.tup vs)->vs.length=ds.length->(∀ (i:Nat) v d,vs[i]?=some v->ds[i]?=some d->Rep H p v d)->Rep H p (.ref l) (.tup ds)
 | ob {l C dx:Addr} {fs:Ar} {ds:List (Str × D)}:p l->H l=some (.ins C dx fs)->fs.map (·.1)=ds.map (·.1)->(∀ (i:Nat) f g,fs[i]?=some f->ds[i]?=some g->Rep H p f.2 g.2)->Rep H p (.ref l) (.ob C ds)
def Rep.keep {H H':Hp} {p q:A5} (s:∀ b o,p b->H b=some o->q b/\H' b=some o) {d:D} (h:Rep H p v d):Rep H' q v d:=by
 induction h with
 | non=>exact .non
 | bl=>exact .bl
 | int=>exact .int
 | str=>exact .str
 | lst pl hl e _ ih=>exact .lst (s _ _ pl hl).1 (s _ _ pl hl).2 e ih
 | tup pl hl e _ ih=>exact .tup (s _ _ pl hl).1 (s _ _ pl hl).2 e ih
 | ob pl hl e _ ih=>exact .ob (s _ _ pl hl).1 (s _ _ pl hl).2 e ih
structure Reps (H:Hp) (p:A5) (vs:Ap) (ds:List D):Prop where
 len:vs.length=ds.length
 g:∀ (i:Nat) v d,vs[i]?=some v->ds[i]?=some d->Rep H p v d
section
variable {H H':Hp} {p q:A5} {vs us:Ap} {ds es:List D} {v:V} {d:D}
def Reps.keep (s:∀ b o,p b->H b=some o->q b/\H' b=some o) (h:Reps H p vs ds):Reps H' q vs ds:=⟨h.len,λ i v d a b=>(h.g i v d a b).keep s⟩
def Reps.nil:Reps H p [] []:=⟨rfl,λ i v d h=>by simp at h⟩
theorem Reps.cons (h:Rep H p v d) (k:Reps H p vs ds):Reps H p (v :: vs) (d :: ds):=⟨by simp [k.len],λ i u e a b=>by
 cases i with
 | zero =>
  have a:v=u:=by simpa using a
  have b:d=e:=by simpa using b
  rw [<- a,<- b];exact h
 | succ i=>exact k.g i u e (by simpa using a) (by simpa using b)⟩
def Reps.one (h:Rep H p v d):Reps H p [v] [d]:=.cons h .nil
def Reps.append (h:Reps H p vs ds) (k:Reps H p us es):Reps H p (vs ++ us) (ds ++ es):=by
 refine ⟨by rw [aO,aO,h.len,k.len],λ i v r e1 e2=>?_⟩;by_cases hi:i < vs.length
 ·rw [aQ hi] at e1;rw [aQ (by rw [<- h.len];exact hi)] at e2;exact h.g i v r e1 e2
 ·rw [aM (by omega)] at e1;rw [aM (by rw [<- h.len];omega),<- h.len] at e2;exact k.g _ v r e1 e2
def Reps.at (h:Reps H p vs ds) (e:vs[i]?=some v):∃ d,ds[i]?=some d/\Rep H p v d:=by
 have hi:=(aa.mp e).1;have e2:ds[i]?=some (ds[i]'(by rw [<- h.len];exact hi)):=ad _;exact ⟨_,e2,h.g i v _ e e2⟩
def Reps.of (h:Reps H p vs ds) (e:ds[i]?=some d):∃ v,vs[i]?=some v/\Rep H p v d:=by
 have hi:=(aa.mp e).1;have e2:vs[i]?=some (vs[i]'(by rw [h.len];exact hi)):=ad _;exact ⟨_,e2,h.g i _ d e2 e⟩
def Reps.take (h:Reps H p vs ds) (n:Nat):Reps H p (vs.take n) (ds.take n):=⟨by rw [aP,aP,h.len],λ i v d a b=>by
 rw [List.getElem?_take] at a b;by_cases hn:i < n
 ·rw [ap hn] at a b;exact h.g i v d a b
 ·rw [ao hn] at a;cases a⟩
def Reps.drop (h:Reps H p vs ds) (n:Nat):Reps H p (vs.drop n) (ds.drop n):=⟨by rw [dN,dN,h.len],λ i v d a b=>by
 rw [List.getElem?_drop] at a b;exact h.g _ v d a b⟩
def Reps.reverse (h:Reps H p vs ds):Reps H p vs.reverse ds.reverse:=⟨by rw [fv,fv,h.len],λ i v d a b=>by
 have hi:i < vs.length:=by have:=(aa.mp a).1;rw [fv] at this;exact this
 rw [fF hi] at a;rw [fF (by rw [<- h.len];exact hi),<- h.len] at b;exact h.g _ v d a b⟩
def Reps.mk' (h:Reps H p vs ds) (pl:p l) (e:H l=some (.lst vs)):Rep H p (.ref l) (.lst ds):=.lst pl e h.len h.g
def Reps.mkT (h:Reps H p vs ds) (pl:p l) (e:H l=some (.tup vs)):Rep H p (.ref l) (.tup ds):=.tup pl e h.len h.g
def Rep.lst' (h:Rep H p v (.lst ds)):∃ l us,v=.ref l/\p l/\H l=some (.lst us)/\Reps H p us ds:=by
 cases h with|lst a b c e=>exact ⟨_,_,rfl,a,b,c,e⟩
def Rep.tup' (h:Rep H p v (.tup ds)):∃ l us,v=.ref l/\p l/\H l=some (.tup us)/\Reps H p us ds:=by
 cases h with|tup a b c e=>exact ⟨_,_,rfl,a,b,c,e⟩
theorem ZN {f:Str}:∀ {fs:Ar} {gs:List (Str × D)},fs.map (·.1)=gs.map (·.1)->(∀ (i:Nat) x y,fs[i]?=some x->gs[i]?=some y->Rep H p x.2 y.2) ->
  (∀ d,gs.lookup f=some d->∃ u,fs.lookup f=some u/\Rep H p u d)/\(gs.lookup f=none->fs.lookup f=none)
 | [],[],_,_=>⟨λ d h=>by simp at h,λ _=>rfl⟩
 | [],_ :: _,e,_=>by simp at e
 | _ :: _,[],e,_=>by simp at e
 | (a,u) :: fs,(b,c) :: gs,e,r=>by
  have e1:a=b:=by simpa using (List.cons.inj e).1
  subst e1;have ih:=ZN (f:=f) (fs:=fs) (gs:=gs) (List.cons.inj e).2 λ i x y hx hy=>r (i + 1) x y (by simpa using hx) (by simpa using hy);by_cases hf:f=a
  ·have hb:(f == a)=true:=bx.mpr hf;refine ⟨λ d h=>?_,λ h=>?_⟩
   ·simp only [List.lookup,hb] at h ⊢;cases h;exact ⟨_,rfl,r 0 (a,u) (a,c) rfl rfl⟩
   ·simp only [List.lookup,hb] at h;cases h
  ·have hb:(f == a)=false:=aW.mpr hf;simp only [List.lookup,hb];exact ih
def Rep.ob' {C:Addr} {gs:List (Str × D)} (h:Rep H p v (.ob C gs)):∃ l dx fs,v=.ref l/\p l/\H l=some (.ins C dx fs)/\(∀ f d,gs.lookup f=some d->∃ u,fs.lookup f=some u/\Rep H p u d)/\(∀ f,gs.lookup f=none->fs.lookup f=none):=by
 cases h with|ob a b c e=>exact ⟨_,_,_,rfl,a,b,λ f=>(ZN c e).1,λ f=>(ZN c e).2⟩
noncomputable abbrev D.ints (ns:A6):D:=.lst (ns.map D.int)
theorem reps_ints:∀ {ns:A6},Reps H p (ns.map V.int) (ns.map D.int)
 | []=>.nil
 | _ :: _=>.cons .int reps_ints
theorem Jy:∀ {ns:A6} {vs:Ap},Reps H p vs (ns.map D.int)->vs=ns.map V.int
 | [],[],_=>rfl
 | [],_ :: _,h=>by have:=h.len;simp at this
 | _ :: _,[],h=>by have:=h.len;simp at this
 | n :: ns,v :: vs,h=>by
  have h1:=h.g 0 v (.int n) rfl rfl;have h2:Reps H p vs (ns.map D.int):=⟨by have:=h.len;simpa using this,λ i u d a b=>h.g (i + 1) u d (by simpa using a) (by simpa using b)⟩;cases h1;rw [bz,Jy h2]
def Rep.ints' {ns:A6} (h:Rep H p v (.ints ns)):∃ l,v=.ref l/\p l/\H l=some (.lst (ns.map V.int)):=by
 obtain ⟨l,us,e,a,b,c⟩:=h.lst';rw [Jy c] at b;exact ⟨l,e,a,b⟩
def qi {ns:A6} (pl:p l) (e:H l=some (.lst (ns.map V.int))):Rep H p (.ref l) (.ints ns):=reps_ints.mk' pl e
end
def Off (ms:Ab):Addr->Prop:=λ b=>b ∉ ms
def Fr (ms:Ab) (H H':Hp):Prop:=∀ b o,b ∉ ms->H b=some o->H' b=some o
section
variable {H H' H2:Hp} {ms ns:Ab} {x:Addr} {o:HO} {v:V} {d:D} {vs:Ap} {ds:List D}
def Fr.refl:Fr ms H H:=λ _ _ _ h=>h
def Fr.trans (a:Fr ms H H') (b:Fr ms H' H2):Fr ms H H2:=λ c o n h=>b c o n (a c o n h)
def Fr.more (a:Fr ms H H') (s:∀ b,b∈ms->b∈ns):Fr ns H H':=λ b o n h=>a b o (λ z=>n (s b z)) h
def Same.fr (a:Same H H'):Fr ms H H':=λ b o _ h=>a b o h
def ji (h:x∈ms):Fr ms H (upd H x o):=λ b u n hb=>by
 rw [nu (λ z=>n (by rw [z];exact h))];exact hb
def zcb (h:H x=none):Fr ms H (upd H x o):=(same_upd' h).fr where
 same_upd' {H:Hp} {x:Addr} {o:HO} (h:H x=none):Same H (upd H x o):=λ b u hb=>by rw [nu (nz hb h)];exact hb
def Fr.same (a:Fr ms H H') (h:∀ m∈ms,H m=none):Same H H':=λ b o hb=>a b o (λ z=>by rw [h b z] at hb;cases hb) hb
def Rep.fr (h:Rep H (Off ms) v d) (s:Fr ms H H'):Rep H' (Off ms) v d:=h.keep λ b o pb hb=>⟨pb,s b o pb hb⟩
def Reps.fr (h:Reps H (Off ms) vs ds) (s:Fr ms H H'):Reps H' (Off ms) vs ds:=h.keep λ b o pb hb=>⟨pb,s b o pb hb⟩
def Rep.more (h:Rep H (Off ms) v d) (s:∀ b,b∈ns->b∈ms\/H b=none):Rep H (Off ns) v d:=h.keep λ b o pb hb=>⟨λ z=>(s b z).elim pb (λ q=>by rw [q] at hb;cases hb),hb⟩
def Reps.more (h:Reps H (Off ms) vs ds) (s:∀ b,b∈ns->b∈ms\/H b=none):Reps H (Off ns) vs ds:=h.keep λ b o pb hb=>⟨λ z=>(s b z).elim pb (λ q=>by rw [q] at hb;cases hb),hb⟩
def Rep.same (h:Rep H (Off ms) v d) (s:Same H H'):Rep H' (Off ms) v d:=h.fr s.fr
def Reps.same (h:Reps H (Off ms) vs ds) (s:Same H H'):Reps H' (Off ms) vs ds:=h.fr s.fr
def Rep.ahead (h:Rep H (Off []) v d) (s:Same H H') (n:∀ m∈ms,H m=none):Rep H' (Off ms) v d:=h.keep λ b o _ hb=>⟨(λ z=>nomatch (n b z).symm.trans hb),s b o hb⟩
def Reps.ahead (h:Reps H (Off []) vs ds) (s:Same H H') (n:∀ m∈ms,H m=none):Reps H' (Off ms) vs ds:=h.keep λ b o _ hb=>⟨(λ z=>nomatch (n b z).symm.trans hb),s b o hb⟩
def Rep.all {p:A5} (h:Rep H p v d):Rep H (Off []) v d:=h.keep λ b o _ hb=>⟨(λ z=>nomatch z),hb⟩
def Reps.all {p:A5} (h:Reps H p vs ds):Reps H (Off []) vs ds:=h.keep λ b o _ hb=>⟨(λ z=>nomatch z),hb⟩
end
def fd_small {i j:Int} (h1:0 < j) (h2:j < 1000000):CFd i j:=fd_ok h1 (aG (show j.natAbs < 2 ^ 20 by omega) (Nat.pow_le_pow_right (by decide) (by decide)))
def J3 {α:Type} {xs:List α} {k:Int} (h0:0<=k) (h1:k < xs.length):seqIndex? k xs.length=some k.toNat:=by
 unfold seqIndex?;have:¬ k < 0:=by omega
 simp [this,h0,h1]
def vz {K:A0} {H H':Hp} {xs:Ap} (s:Same H H') (h:SqL K H l xs):SqL K H' l xs:=s.seq h
noncomputable def del (H:Hp) (x:Addr):Hp:=λ b=>if b=x then none else H b
section
variable {K:A0} {H:Hp} {Q:VK} {p:A5} {v:V} {d:D} {ds:List D} {f:Str}
def zgf {C:Addr} {gs:List (Str × D)} {R:V->Prop} (h:Rep H p v (.ob C gs)) (c:Cls K C) (n:NoAttr K C f) (e:gs.lookup f=some d) (q:∀ u,Rep H p u d->R u) :
  ∃ a C dx fs u,v=.ref a/\H a=some (.ins C dx fs)/\Cls K C/\NoAttr K C f/\fs.lookup f=some u/\R u:=by
 obtain ⟨l,dx,fs,rfl,_,a,b,_⟩:=h.ob';obtain ⟨u,e1,r⟩:=b f d e;exact ⟨l,C,dx,fs,u,rfl,a,c,n,e1,q u r⟩
def zhf {vs:Ap} {i:Int} (h:Reps H p vs ds) (e:atI ds i=some d):∃ u,atI vs i=some u/\Rep H p u d:=by
 unfold atI at e ⊢;rw [h.len];cases z:ixN ds.length i with
 | none=>rw [z] at e;cases e
 | some j=>rw [z] at e;exact h.of (i:=j) e
end
def jd {H H':Hp} {p:A5} {d:D} (h:Rep H p v d) (s:Same H H'):Rep H' p v d:=h.keep λ b o pb hb=>⟨pb,s b o hb⟩
section
variable {X:Cx}
def ziC (K:A0):R2:=λ x y H Q=>∃ p xs i v,x=.ref p/\y=.int i/\SqL K H p xs/\0<=i/\atI xs i=some v/\Q v H
def zfv:zi0 X (ziC X.K):=by
 intro m4 s σ H x y v u Q I rx ry h;obtain ⟨p,xs,i,z,rfl,rfl,hq,h0,he,q⟩:=h;cases rx;obtain ⟨t,rfl⟩:=ry;obtain ⟨mY,r,pl,hz⟩:=I.list hq;obtain ⟨j,h1,h2,h3,h4,h5⟩:=JC he;obtain ⟨w,ew,rw'⟩:=r.get h2;have hl:=r.length;have hn:=ZO;have hj:i.toNat=j:=by
  rw [eZ h0 h5] at h1;exact aI h1
 exact wpAny_getItem_list pl.isList h0 (by omega) (by rw [hj];simpa using ew) ⟨z,H,I,rw',q⟩
end
inductive Hard:D->Prop where
 | non:Hard .non
 | bl {b:Bool}:Hard (.bl b)
 | int {i:Int}:Hard (.int i)
 | str {x:Str}:Hard (.str x)
 | tup {ds:List D}:(∀ (i:Nat) d,ds[i]?=some d->Hard d)->Hard (.tup ds)
def Rep.hard {p q:A5} {d:D} (h:Rep H p v d) (hd:Hard d) (k:∀ b xs,p b->H b=some (.tup xs)->q b):Rep H q v d:=by
 induction h with
 | non=>exact .non
 | bl=>exact .bl
 | int=>exact .int
 | str=>exact .str
 | lst pl hl e _ ih=>cases hd
 | tup pl hl e _ ih =>
  cases hd with
  | tup hd=>exact .tup (k _ _ pl hl) hl e λ i v d a b=>ih i v d a b (hd i d b)
 | ob pl hl e _ ih=>cases hd
def ze6 {as:Ab} (nd:as.Nodup) {i j:Nat} (h1:as[i]?=some b) (h2:as[j]?=some b):i=j:=by
 obtain ⟨hi,e1⟩:=aa.mp h1;obtain ⟨hj,e2⟩:=aa.mp h2;have P:=List.pairwise_iff_getElem.mp nd;rcases dS i j with h|h|h
 ·exact absurd (e1.trans e2.symm) (P i j hi hj h)
 ·exact h
 ·exact absurd (e2.trans e1.symm) (P j i hj hi h)
structure NL (H:Hp) (p:A5) (G:Addr) (as:Ab) (xss:List (List D)):Prop where
 out:H G=some (.lst (as.map V.ref))
 len:as.length=xss.length
 nd:as.Nodup
 nG:G ∉ as
 g:∀ (i:Nat) b xs,as[i]?=some b->xss[i]?=some xs->∃ vs,H b=some (.lst vs)/\Reps H p vs xs
section
variable {H H':Hp} {p q:A5} {G:Addr} {as:Ab} {xss:List (List D)}
def NL.keep (h:NL H p G as xss) (s:∀ b o,(b=G\/b∈as\/p b)->H b=some o->H' b=some o) (sp:∀ b,p b->H b≠none->q b):NL H' q G as xss:=by
 refine ⟨s _ _ (.inl rfl) h.out,h.len,h.nd,h.nG,λ i b xs e1 e2=>?_⟩;obtain ⟨vs,h1,h2⟩:=h.g i b xs e1 e2;exact ⟨vs,s _ _ (.inr (.inl (ah e1))) h1,h2.keep λ c o pc hc=>⟨sp c pc (by rw [hc];intro z;cases z),s c o (.inr (.inr pc)) hc⟩⟩
def NL.same (h:NL H p G as xss) (s:Same H H'):NL H' p G as xss:=h.keep (λ b o _ hb=>s b o hb) λ _ hp _=>hp
def NL.at (h:NL H p G as xss) {xs:List D} (e:xss[i]?=some xs):∃ b vs,as[i]?=some b/\H b=some (.lst vs)/\Reps H p vs xs:=by
 have hi:=(aa.mp e).1;have e2:as[i]?=some (as[i]'(by rw [h.len];exact hi)):=ad _;obtain ⟨vs,h1,h2⟩:=h.g i _ xs e2 e;exact ⟨_,vs,e2,h1,h2⟩
def zbU {H:Hp} {p:A5} {G:Addr} (h:H G=some (.lst [])):NL H p G [] []:=⟨h,rfl,nodup_nil,by simp,λ i b xs e=>by simp at e⟩
def NL.rep (h:NL H p G as xss):Rep H (Off []) (.ref G) (.lst (xss.map D.lst)):=by
 refine .lst (λ z=>nomatch z) h.out (by rw [af,af,h.len]) λ i v d e1 e2=>?_;rw [ak,am] at e1 e2;obtain ⟨b,e1,rfl⟩:=e1;obtain ⟨xs,e2,rfl⟩:=e2;obtain ⟨vs,h1,h2⟩:=h.g i b xs e1 e2;exact h2.all.mk' (λ z=>nomatch z) h1
def NL.put {vs:Ap} {ys:List D} (h:NL H p G as xss) (e:as[i]?=some b) (np:¬ p b) (r:Reps H p vs ys):NL (upd H b (.lst vs)) p G as (xss.set i ys):=by
 have hb:=ah e;have nG:G≠b:=λ z=>h.nG (by rw [z];exact hb);have rk:∀ {us:Ap} {zs:List D},Reps H p us zs->Reps (upd H b (.lst vs)) p us zs:=λ r=>r.keep λ c o pc hc=>⟨pc,by rw [nu (λ z=>np (by rw [<- z];exact pc))];exact hc⟩;refine ⟨by rw [nu nG];exact h.out,by rw [bI,h.len],h.nd,h.nG,λ j c xs e1 e2=>?_⟩;by_cases hj:j=i
 ·subst hj;rw [e] at e1;cases e1;have hl:j < xss.length:=by rw [<- h.len];exact (aa.mp e).1
  rw [aS hl] at e2;cases e2;exact ⟨vs,nk,rk r⟩
 ·rw [be (aX hj)] at e2;have nc:c≠b:=λ z=>by
   subst z;exact hj (ze6 h.nd e1 e)
  obtain ⟨us,h1,h2⟩:=h.g j c xs e1 e2;exact ⟨us,by rw [nu nc];exact h1,rk h2⟩
def NL.push {vs:Ap} {ys:List D} (h:NL H p G as xss) (hb:H b=some (.lst vs)) (nb:b ∉ as) (nG:b≠G) (np:¬ p G) (r:Reps H p vs ys):NL (upd H G (.lst (as.map V.ref ++ [.ref b]))) p G (as ++ [b]) (xss ++ [ys]):=by
 have rk:∀ {us:Ap} {zs:List D},Reps H p us zs->Reps (upd H G (.lst (as.map V.ref ++ [.ref b]))) p us zs:=λ r=>r.keep λ c o pc hc=>⟨pc,by rw [nu (λ z=>np (by rw [<- z];exact pc))];exact hc⟩;refine ⟨by rw [nk,a7];rfl,by simp [h.len],?_,?_,λ j c xs e1 e2=>?_⟩
 ·rw [nodup_append];refine ⟨h.nd,by simp,?_⟩;intro x hx y hy z;rw [aw.mp hy] at z;exact nb (by rw [<- z];exact hx)
 ·intro z;rcases aE.mp z with z|z
  ·exact h.nG z
  ·exact nG (aw.mp z).symm
 ·by_cases hj:j < as.length
  ·rw [aQ hj] at e1;rw [aQ (by rw [<- h.len];exact hj)] at e2;obtain ⟨us,h1,h2⟩:=h.g j c xs e1 e2;have nc:c≠G:=λ z=>h.nG (by rw [<- z];exact ah e1);exact ⟨us,by rw [nu nc];exact h1,rk h2⟩
  ·rw [aM (by omega)] at e1;rw [aM (by rw [<- h.len];omega),<- h.len] at e2;have hj0:j - as.length=0:=by have:=(aa.mp e1).1;simp at this;omega
   rw [hj0] at e1 e2;have e1:b=c:=by simpa using e1
   have e2:ys=xs:=by simpa using e2
   subst e1 e2;exact ⟨vs,by rw [nu nG];exact hb,rk r⟩
end
def zV (H:Hp):Addr->Prop:=λ b=>∃ xs,H b=some (.tup xs)
def NL.tup {H H':Hp} {G:Addr} {as:Ab} {xss:List (List D)} (h:NL H (zV H) G as xss) (s:∀ b o,(b=G\/b∈as\/zV H b)->H b=some o->H' b=some o):NL H' (zV H') G as xss :=
 h.keep s λ b hb _=>by
  obtain ⟨xs,hx⟩:=hb;exact ⟨xs,s b _ (.inr (.inr ⟨xs,hx⟩)) hx⟩
def NL.isl {G:Addr} {as:Ab} {p:A5} {xss:List (List D)} (h:NL H p G as xss) (hb:b∈G :: as):∃ vs,H b=some (.lst vs):=by
 rcases ax.mp hb with rfl|hb
 ·exact ⟨_,h.out⟩
 ·obtain ⟨j,hj⟩:=br hb;obtain ⟨vs,h1,_⟩:=h.g j b _ hj (ad (by rw [<- h.len];exact (aa.mp hj).1));exact ⟨vs,h1⟩
def uc {P:Af} {K:A0} {mg:A4} {base:Heap} {x:Str} {k:Nat} {G:List V->Sp->Prop} {ps:A8} {dvs:Ap} {sp:Sp} (c:Cal P w K mg base x k ps dvs sp) (h:G dvs sp):∃ ps dvs sp,Cal P w K mg base x k ps dvs sp/\G dvs sp:=⟨ps,dvs,sp,c,h⟩
def un2 {K:A0} {t:Addr} {x y:V} {G:V->V->Prop} (h:H t=some (.tup [x,y])) (q:G x y):∃ a xs,V.ref t=.ref a/\SqT K H a xs/\xs.length=2/\∃ v r,xs=v :: r/\∃ v' r',r=v' :: r'/\r'=[]/\G v v':=⟨t,_,rfl,SqT.of h,rfl,x,_,rfl,y,_,rfl,rfl,q⟩
def ra {K:A0} {a C dx:Addr} {fs:Ar} {f:Str} {G:V->Prop} (h:H a=some (.ins C dx fs)) (c:Cls K C) (n:NoAttr K C f) (e:fs.lookup f=some v) (q:G v):∃ a' C dx fs v,V.ref a=.ref a'/\H a'=some (.ins C dx fs)/\Cls K C/\NoAttr K C f/\fs.lookup f=some v/\G v:=⟨a,C,dx,fs,v,rfl,h,c,n,e,q⟩
section
variable {prog:Af} {w:World} {A:Ao} {E:A3} {s:An}
noncomputable abbrev lit (l:Addr):Obj:={ cls:=.type (QQ true),data:=.fields #[.ref l,.int 0 0] }
end
section
variable {prog:Af} {w:World} {A:Ao} {E:A3} {s:An}
end
section
variable {X:Cx} {pos pos':Pos} {x:Str}
def zp (i:Nat) {e:Expr} {te:TE} (hN:X.N.Nodup) (he:PE X e te) (hi:X.N[i]?=some x:=by rfl) (hx:Loc X.env.scope x:=by exact Or.inl rfl) (hs:swapsWith e (some (.Name x pos')) pos.line X.env=pure false:=by rfl)
  (hf:Or (X.fn x=true) (X.env.scope.names.lookup x=some .local):=by walk_at "p"):PS X (.Assign [.Name x pos'] e pos) (tAsg te (gName i)):=zeP hN hi hx he hs hf
def qp (i:Nat) (hN:X.N.Nodup) (hi:X.N[i]?=some x:=by rfl) (hx:Loc X.env.scope x:=by exact Or.inl rfl) (hf:Or (X.fn x=true) (X.env.scope.names.lookup x=some .local):=by walk_at "p"):PG X (.Name x pos) (gName i):=Ze hN hi hx hf
def zn {a b:Expr} {ta tb:TE} (ha:PE X a ta) (hb:PE X b tb) (hs:zdg b:=by intro _ _;rfl):PE X (.Subscript a b pos) (tOp (rIx X.K) ta tb):=ziF zhZ ha hb hs
end
section
variable {X:Cx}
end
section
variable {X:Cx} {G:GK} {x y:Str} {np mp pos hpos gpos:Pos} {body su sv:List Stmt} {b₀ c₀:Stmt} {tb:List (Addr × Obj)->GK->TS} {th ti:List (Addr × Obj)->Addr->TS}
end
section
variable {X:Cx}
end
section
variable {X:Cx}
def zja (K:A0):R2:=λ x y H Q=>∃ p q xs,x=.ref p/\y=.ref q/\SqL K H p xs/\SqL K H q []/\Q (.bl (decide (xs.length≠0))) H
def ze3 (hu:X.A.units + 100 < cLine):OpR X (compareOp .NotEq) (zja X.K):=by
 intro m4 s σ H x y v u Q I rx ry h;obtain ⟨p,q,xs,rfl,rfl,h1,h2,k⟩:=h;by_cases hl:xs.length=0
 ·have e:xs=[]:=cy.mp hl;subst e;exact Ws (by omega) m4 s σ H _ _ _ _ Q I rx ry ⟨p,q,[],[],rfl,rfl,.inl ⟨h1,h2⟩,rfl,rfl,k⟩
 ·rw [aY hl] at k;cases rx;cases ry;obtain ⟨mY,r,p,_⟩:=I.list h1;obtain ⟨its2,r2,p2,_⟩:=I.list h2;have e1:=r.length;have e2:=r2.length;exact fI p.isList p2.isList (by simp only [aq];simp at e2 ⊢;omega) (by omega) _ _ _ _ ⟨.bl true,H,I,rfl,k⟩
end
section
variable {κ:Type} [DecidableEq κ]
noncomputable def j5 (m9:List (κ × V)) (k:κ):Option V:=(m9.find? λ kv=>decide (kv.1=k)).map (·.2)
noncomputable def vv (m9:List (κ × V)) (k:κ) (v:V):List (κ × V) :=
 if (m9.any λ kv=>decide (kv.1=k))=true then m9.map (λ kv=>if kv.1=k then (kv.1,v) else kv) else m9 ++ [(k,v)]
noncomputable def zhd (m9:List (κ × V)) (k:κ):List (κ × V):=m9.filter λ kv=>decide (kv.1≠k)
def qY {p:κ × V} {r:List (κ × V)} {k:κ} (e:p.1=k):j5 (p :: r) k=some p.2:=by simp [j5,cQ,e]
def qZ {p:κ × V} {r:List (κ × V)} {k:κ} (e:¬ p.1=k):j5 (p :: r) k=j5 r k:=by simp [j5,cQ,e]
theorem ZU (k:κ):∀ m9:List (κ × V),(m9.any λ kv=>decide (kv.1=k))=(j5 m9 k).isSome
 | []=>rfl
 | p :: r=>by
  rw [any_cons];by_cases e:p.1=k
  ·simp only [qY e,aY e,Bool.true_or,Option.isSome_some]
  ·rw [qZ e,aR e,Bool.false_or];exact ZU k r
theorem V7 (k j:κ) (y:V):∀ m9:List (κ × V),j5 (m9.map λ kv=>if kv.1=k then (kv.1,y) else kv) j=(j5 m9 j).map λ x=>if j=k then y else x
 | []=>rfl
 | p :: r=>by
  have ih:=V7 k j y r;rw [bz];by_cases h:p.1=k
  ·rw [ap h];by_cases e:p.1=j
   ·rw [qY (p:=(p.1,y)) e,qY e,cm,ap (e.symm.trans h)]
   ·rw [qZ (p:=(p.1,y)) e,qZ e,ih]
  ·rw [ao h];by_cases e:p.1=j
   ·rw [qY (p:=p) e,qY e,cm,ao (λ z=>h (e.trans z))]
   ·rw [qZ (p:=p) e,qZ e,ih]
theorem Wb (k j:κ) (y:V):∀ m9:List (κ × V),j5 m9 k=none->j5 (m9 ++ [(k,y)]) j=if j=k then some y else j5 m9 j
 | [],_=>by
  by_cases e:k=j
  ·rw [ap e.symm];exact qY (p:=(k,y)) e
  ·rw [ao (λ z=>e z.symm)];exact qZ (p:=(k,y)) e
 | p :: r,hn=>by
  rw [eP];have hk:¬ p.1=k:=λ z=>by rw [qY z] at hn;cases hn
  rw [qZ hk] at hn;have ih:=Wb k j y r hn;by_cases e:p.1=j
  ·rw [qY e,qY e,ao (λ z=>hk (e.trans z))]
  ·rw [qZ e,qZ e,ih]
def V6 (m9:List (κ × V)) (k j:κ) (y:V):j5 (vv m9 k y) j=if j=k then some y else j5 m9 j:=by
 unfold vv;by_cases a:(m9.any λ kv=>decide (kv.1=k))=true
 ·rw [ap a,V7];rw [ZU] at a;by_cases e:j=k
  ·obtain ⟨x,hx⟩:=eU.mp a;rw [ap e,e,hx,cm,ap rfl]
  ·rw [ao e];cases j5 m9 j with
   | none=>rfl
   | some x=>rw [cm,ao e]
 ·rw [ao a];refine Wb k j y m9 ?_;rw [ZU] at a;cases q:j5 m9 k with
  | none=>rfl
  | some x=>rw [q] at a;exact (a rfl).elim
def Q1 (m9:List (κ × V)) (k:κ) (v:V):(vv m9 k v).length<=m9.length + 1:=by
 unfold vv
 split
 ·rw [af];omega
 ·rw [aO,bF,fz];omega
def RelO.isSome_eq {o:Aq} {u:Option Value} (r:RelO o u):o.isSome=u.isSome:=by
 cases o with
 | none=>cases u with
  | none=>rfl
  | some _=>exact (show False from r).elim
 | some _=>cases u with
  | none=>exact (show False from r).elim
  | some _=>rfl
def RelO.getD {o:Aq} {u:Option Value} {d:V} {d':Am} (r:RelO o u) (rd:RelV d d'):RelV (o.getD d) (u.getD d'):=by
 cases o with
 | none=>cases u with
  | none=>exact rd
  | some _=>exact (show False from r).elim
 | some _=>cases u with
  | none=>exact (show False from r).elim
  | some _=>exact r
def KV.val {m9:List (κ × V)} {vs:List (κ × Value)} (r:KV m9 vs) (k:κ):RelO (j5 m9 k) (valueAt vs k):=by
 unfold KV at r
 induction r with
 | nil=>exact True.intro
 | @cons p q ps qs h t ih =>
  obtain ⟨h1,h2⟩:=h;by_cases e:p.1=k
  ·have e':q.1=k:=h1.symm.trans e;have b:valueAt (q :: qs) k=some q.2:=by simp [valueAt,cQ,e']
   rw [qY e,b];exact h2
  ·have e':¬ q.1=k:=λ z=>e (h1.trans z);have b:valueAt (q :: qs) k=valueAt qs k:=by simp [valueAt,cQ,e']
   rw [qZ e,b];exact ih
def KV.any {m9:List (κ × V)} {vs:List (κ × Value)} (r:KV m9 vs) (k:κ):(m9.any λ kv=>decide (kv.1=k))=vs.any λ kv=>decide (kv.1=k):=by
 unfold KV at r
 induction r with
 | nil=>rfl
 | cons h t ih=>rw [any_cons,any_cons,ih,h.1]
theorem KV.repl {m9:List (κ × V)} {vs:List (κ × Value)} (r:KV m9 vs) (k:κ) {y:V} (ry:RelV y u) :
  KV (m9.map λ kv=>if kv.1=k then (kv.1,y) else kv) (vs.map λ kv=>if kv.1=k then (kv.1,u) else kv):=by
 unfold KV at r ⊢
 induction r with
 | nil=>exact .nil
 | @cons p q ps qs h t ih =>
  rw [bz,bz];refine .cons ?_ ih;obtain ⟨h1,h2⟩:=h;by_cases e:p.1=k
  ·rw [ap e,ap (h1.symm.trans e)];exact ⟨h1,ry⟩
  ·rw [ao e,ao (λ z=>e (h1.trans z))];exact ⟨h1,h2⟩
def KV.put {m9:List (κ × V)} {vs:List (κ × Value)} (r:KV m9 vs) (k:κ) {y:V} (ry:RelV y u):KV (vv m9 k y) (stored vs k u):=by
 unfold vv stored;rw [r.any k];by_cases e:(vs.any λ kv=>decide (kv.1=k))=true
 ·rw [ap e,ap e];exact r.repl k ry
 ·rw [ao e,ao e];exact Paired.snoc r ⟨rfl,ry⟩
def KV.drop {m9:List (κ × V)} {vs:List (κ × Value)} (r:KV m9 vs) (k:κ):KV (zhd m9 k) (without vs k):=by
 unfold KV at r ⊢;unfold zhd without
 induction r with
 | nil=>exact .nil
 | @cons p q ps qs h t ih =>
  obtain ⟨h1,h2⟩:=h;rw [List.filter_cons,List.filter_cons];by_cases e:p.1=k
  ·have a:¬ decide (p.1≠k)=true:=by simp [e]
   have b:¬ decide (q.1≠k)=true:=by simp [h1.symm.trans e]
   rw [ao a,ao b];exact ih
  ·have e':¬ q.1=k:=λ z=>e (h1.trans z);have a:decide (p.1≠k)=true:=by simp [e]
   have b:decide (q.1≠k)=true:=by simp [e']
   rw [ap a,ap b];exact .cons ⟨h1,h2⟩ ih
def KV.keys {m9:List (κ × V)} {vs:List (κ × Value)} (r:KV m9 vs):m9.map (·.1)=vs.map (·.1):=by
 unfold KV at r
 induction r with
 | nil=>rfl
 | cons h t ih=>rw [bz,bz,ih,h.1]
def KV.length {m9:List (κ × V)} {vs:List (κ × Value)} (r:KV m9 vs):m9.length=vs.length:=cz r
end
def zcM {P:Af} {k:Key} (r:RelV (kV k) u):(qW P w).is k u=true:=by
 cases k with
 | inl i=>obtain ⟨t,e⟩:=(show ∃ t,u=Value.int i t from r);subst e;exact zaU P w i t
 | inr x=>obtain ⟨t,e⟩:=(show ∃ t,u=Value.str x t from r);subst e;exact zaT P w x t
theorem WE {P:Af} {w:World}:∀ {ks:List Key} {us:A7},Vals (ks.map kV) us->ItemsAre (qW P w) ks us
 | [],_,r=>by rw [map_nil] at r;cases r;exact .nil
 | k :: ks,_,r=>by
  rw [bz] at r;cases r with
  | cons h t=>exact .cons (zcM h) (WE t)
abbrev KT (H:Hp):List (List Key × V)->List (List Key × Addr × Value)->Prop:=Paired λ p q=>p.1=q.1/\H q.2.1=some (.tup (p.1.map kV))/\RelV p.2 q.2.2
def KT.val {xs:List (List Key × Addr × Value)} (r:KT H m9 xs) (k:List Key):RelO (j5 m9 k) ((atKey xs k).map (·.2)):=by
 induction r with
 | nil=>exact True.intro
 | @cons p q ps qs h t ih =>
  obtain ⟨h1,_,h2⟩:=h;by_cases e:p.1=k
  ·have e':q.1=k:=h1.symm.trans e;have b:atKey (q :: qs) k=some q.2:=by simp [atKey,cQ,e']
   rw [qY e,b];exact h2
  ·have e':¬ q.1=k:=λ z=>e (h1.trans z);have b:atKey (q :: qs) k=atKey qs k:=by simp [atKey,cQ,e']
   rw [qZ e,b];exact ih
theorem KT.repl {xs:List (List Key × Addr × Value)} (r:KT H m9 xs) (k:List Key) {y:V} (ry:RelV y u) :
  KT H (m9.map λ kv=>if kv.1=k then (kv.1,y) else kv) (xs.map (putAt k u)):=by
 induction r with
 | nil=>exact .nil
 | @cons p q ps qs h t ih =>
  rw [bz,bz];refine .cons ?_ ih;obtain ⟨h1,h2,h3⟩:=h;unfold putAt;by_cases e:p.1=k
  ·rw [ap e,ap (h1.symm.trans e)];exact ⟨h1,h2,ry⟩
  ·rw [ao e,ao (λ z=>e (h1.trans z))];exact ⟨h1,h2,h3⟩
def KT.put {xs:List (List Key × Addr × Value)} (r:KT H m9 xs) (k:List Key) {y:V} (hb:H b=some (.tup (k.map kV))) (ry:RelV y u) :
  KT H (vv m9 k y) (storedH xs k b u):=by
 have e:(m9.any λ kv=>decide (kv.1=k))=(atKey xs k).isSome:=by
  rw [ZU,(r.val k).isSome_eq,cZ]
 unfold vv storedH;rw [e];by_cases q:(atKey xs k).isSome=true
 ·rw [ap q,ap q];exact r.repl k ry
 ·rw [ao q,ao q];exact Paired.snoc r ⟨rfl,hb,ry⟩
def KT.keeps {H H':Hp} {xs:List (List Key × Addr × Value)} (r:KT H m9 xs) (ht:∀ b ys,H b=some (.tup ys)->H' b=some (.tup ys)):KT H' m9 xs :=
 Paired.mapP r λ _ _ z=>⟨z.1,ht _ _ z.2.1,z.2.2⟩
section
variable {P:Af} {w:World} {H:Hp} {h:Heap} {a:Addr}
def zg5 {u:HO} (ok:HOk P w H h) (e:Rd H a u):ObjOk P w H h a u:=e.ok ok
def zc0 {m9:List (Key × V)} (ok:HOk P w H h) (e:Rd H a (.dK m9)):m9.length<=sizeLine/\(a == sysModules)=false/\∃ vs,KV m9 vs/\h.DictOf (qW P w) a vs :=
 show ObjOk P w H h a (.dK m9) from zg5 ok e
def ziV {m9:List (Key × V)} (ok:HOk P w H h) (e:H a=some (.dK m9)):m9.length<=sizeLine/\(a == sysModules)=false/\∃ vs,KV m9 vs/\h.DictOf (qW P w) a vs:=zc0 ok (.inl e)
def VH {ks:List Key} (ok:HOk P w H h) (e:H a=some (.tup (ks.map kV))):(tupleKind (qW P w)).is h ks a:=by
 obtain ⟨_,mY,r,o,h1,h2,n,h3⟩:=(show ObjOk P w H h a (.tup (ks.map kV)) from ok a _ e);exact ⟨o,mY.toArray,n,h1,h2,h3,by simpa using WE r⟩
theorem zcZ (ok:HOk P w H h) (e:Rd H a (.dT m9)):m9.length<=sizeLine/\(a == sysModules)=false /\
  ∃ xs,KT H m9 xs/\h.DictOfH (tupleKind (qW P w)) a xs:=by
 obtain ⟨z,y,xs,r,o,es,ep,h1,h2,h3,h4,h5⟩:=(show ObjOk P w H h a (.dT m9) from zg5 ok e);refine ⟨z,y,xs,r,o,es,ep,h1,h2,h3,h4,λ x hx=>?_,h5⟩;have all:∀ {l:As} {m:List (List Key × Addr × Value)},KT H l m->∀ x∈m,(tupleKind (qW P w)).is h x.1 x.2.1:=by
  intro l m q
  induction q with
  | nil=>intro x hx;exact nomatch hx
  | @cons p q ps qs hq t ih =>
   intro x hx;rcases ax.mp hx with e|hx
   ·subst e;exact VH ok (by rw [<- hq.1];exact hq.2.1)
   ·exact ih x hx
 exact all r x hx
def ziU (ok:HOk P w H h) (e:H a=some (.dT m9)):m9.length<=sizeLine/\(a == sysModules)=false /\
  ∃ xs,KT H m9 xs/\h.DictOfH (tupleKind (qW P w)) a xs:=zcZ ok (.inl e)
end
def DGet (H:Hp) (a:Addr) (y:V) (r:Aq):Prop :=
 (∃ m9 k,Rd H a (.dK m9)/\y=kV k/\r=j5 m9 k)\/∃ m9 k b,Rd H a (.dT m9)/\y=.ref b/\H b=some (.tup (k.map kV))/\r=j5 m9 k
def DPut (H:Hp) (a:Addr) (y v:V) (H':Hp):Prop :=
 (∃ m9 k,H a=some (.dK m9)/\y=kV k/\m9.length < sizeLine/\H'=upd H a (.dK (vv m9 k v))) \/
 ∃ m9 k b,H a=some (.dT m9)/\y=.ref b/\H b=some (.tup (k.map kV))/\m9.length < sizeLine/\H'=upd H a (.dT (vv m9 k v))
def DGet.k {a:Addr} {m9:List (Key × V)} {k:Key} (e:H a=some (.dK m9)):DGet H a (kV k) (j5 m9 k):=.inl ⟨m9,k,.inl e,rfl,rfl⟩
def DGet.t {a b:Addr} {k:List Key} (e:H a=some (.dT m9)) (eb:H b=some (.tup (k.map kV))):DGet H a (.ref b) (j5 m9 k):=.inr ⟨m9,k,b,.inl e,rfl,eb,rfl⟩
def DPut.k {a:Addr} {m9:List (Key × V)} {k:Key} (e:H a=some (.dK m9)) (hl:m9.length < sizeLine):DPut H a (kV k) v (upd H a (.dK (vv m9 k v))):=.inl ⟨m9,k,e,rfl,hl,rfl⟩
def DPut.t {a b:Addr} {k:List Key} (e:H a=some (.dT m9)) (eb:H b=some (.tup (k.map kV))) (hl:m9.length < sizeLine) :
  DPut H a (.ref b) v (upd H a (.dT (vv m9 k v))):=.inr ⟨m9,k,b,e,rfl,eb,hl,rfl⟩
section
variable {X:Cx} {m4:A2} {σ:St} {H:Hp} {s:An} {a:Addr} {y v:V} {u r:Am} {o:Aq} {A:Ao} {E:A3}
def Inv.big (I:Inv X m4 σ H s):sysModules < s.heap.objs.size:=by
 have h:mainGlobals < s.heap.objs.size:=(I.mod.glob.keeps I.bk).lt;exact Nat.lt_trans (by decide) h
def zd6 {Q:A3} (hu:A.units + 1 < cLine) (I:Inv X m4 σ H s) (g:DGet H a y (some v)) (ry:RelV y u) (h:∀ w' s',Inv X m4 σ H s'->RelV v w'->Q w' s') :
  wpAny (model X.prog X.w) A (getItem (.ref a) u) Q E s:=by
 rcases g with ⟨m9,k,e,ey,l⟩|⟨m9,k,b,e,ey,eb,l⟩
 ·subst ey;obtain ⟨z,hd,vs,rel,dd⟩:=zc0 I.hok e;obtain ⟨w',hw,rw'⟩:=RelO.some_of (v:=v) (o:=valueAt vs k) (by rw [l];exact rel.val k);exact wpAny_getItem_of (zcM ry) dd.mapOf hw (h w' _ (I.tok _) rw')
 ·subst ey;cases (show u=Value.ref b from ry);obtain ⟨z,hd,xs,rel,dd⟩:=zcZ I.hok e;obtain ⟨w',hw,rw'⟩:=RelO.some_of (v:=v) (o:=(atKey xs k).map (·.2)) (by rw [l];exact rel.val k);obtain ⟨p,hp,hp2⟩:=am.mp hw;refine wpAny_getItem_heap (d8 hu) (VH I.hok eb) dd hp ?_;rw [hp2];exact h w' _ (I.tok _) rw'
def zjf {Q:A3} (hu:A.units + 1 < cLine) (I:Inv X m4 σ H s) (g:DGet H a y o) (ry:RelV y u) (h:∀ s',Inv X m4 σ H s'->Q (.bool o.isSome) s') :
  wpAny (model X.prog X.w) A (compareOp .In u (.ref a)) Q E s:=by
 rcases g with ⟨m9,k,e,ey,l⟩|⟨m9,k,b,e,ey,eb,l⟩
 ·subst ey;obtain ⟨z,hd,vs,rel,dd⟩:=zc0 I.hok e;refine wpAny_in_of (zcM ry) hd dd.mapOf ?_;rw [<- (rel.val k).isSome_eq,<- l];exact h _ (I.tok _)
 ·subst ey;cases (show u=Value.ref b from ry);obtain ⟨z,hd,xs,rel,dd⟩:=zcZ I.hok e;refine wpAny_in_heap (d8 hu) (VH I.hok eb) hd dd ?_;have q:=(rel.val k).isSome_eq;rw [cZ] at q;rw [<- q,<- l];exact h _ (I.tok _)
def VR {h':Heap} {t':Nat} {ob:HO} (I:Inv X m4 σ H s) (mu:Mut (H a)) (hs:Heap.SameBut a s.heap h') (he:∃ q,h'.get? a=some q) (new:ObjOk X.prog X.w (upd H a ob) h' a ob) :
  Inv X m4 σ (upd H a ob) { s with heap:=h',toks:=t' } :=
 I.write (x:=a) (e:=a) mu (.inl rfl) (λ b q hb z=>(hs.2 b hb).trans z) he new
def zh5 {P:Af} {H':Hp} {h':Heap} {m9:List (Key × V)} {vs:List (Key × Value)} (z:m9.length<=sizeLine) (hd:(a == sysModules)=false) (rel:KV m9 vs) (dd:h'.DictOf (qW P w) a vs) :
  ObjOk P w H' h' a (.dK m9):=⟨z,hd,vs,rel,dd⟩
def zd5 {H':Hp} {Q:Ag} (hu:A.units + 1 < cLine) (I:Inv X m4 σ H s) (g:DPut H a y v H') (ry:RelV y u) (rv:RelV v r) (h:∀ s',Inv X m4 σ H' s'->Q () s') :
  wpAny (model X.prog X.w) A (setItem (.ref a) u r) Q E s:=by
 rcases g with ⟨m9,k,e,ey,l,eH⟩|⟨m9,k,b,e,ey,eb,l,eH⟩
 ·subst ey eH;obtain ⟨z,hd,vs,rel,dd⟩:=ziV I.hok e;have hz:vs.length<=sizeLine:=by rw [<- rel.length];exact z
  have hl:(vv m9 k v).length<=sizeLine:=by have:=Q1 m9 k v;omega
  refine wpAny_setItem_pairs (hsz:=hz) (zcM ry) dd λ h' dd' hs=>h _ ?_;have he:∃ q,h'.get? a=some q:=let ⟨q,_,_,hq,_⟩:=dd';⟨q,hq⟩
  exact VR I (by rw [e];exact True.intro) hs he (zh5 hl hd (rel.put k rv) dd')
 ·subst ey eH;cases (show u=Value.ref b from ry);obtain ⟨z,hd,xs,rel,dd⟩:=ziU I.hok e;have hz:xs.length<=sizeLine:=by rw [<- cz rel];exact z
  have hl:(vv m9 k v).length<=sizeLine:=by have:=Q1 m9 k v;omega
  refine wpAny_setItem_heap (hsz:=hz) (d8 hu) (VH I.hok eb) dd λ h' dd' hs=>h _ ?_;obtain ⟨q,es,ep,hq,h2,h3,h4,_,h5⟩:=dd';refine VR I (by rw [e];exact True.intro) hs ⟨q,hq⟩ ⟨hl,hd,_,(rel.put k eb rv).keeps λ c ys ec=>?_,q,es,ep,hq,h2,h3,h4,h5⟩;rw [nu (Z3 ec e (λ z=>nomatch z))];exact ec
end
section
variable {X:Cx} {m4:A2} {σ:St} {H:Hp} {s:An} {a:Addr} {m9:List (Key × V)} {k:Key} {u:Am} {A:Ao} {E:A3}
end
def zik (i:Expr):Prop:=∀ ov iv,subscripted i false ov iv=operate [ov,iv] (getItem ov iv)
theorem zcs {prog:Af} {A:Ao} {E:A3} {s:An} {env:Env} {value slice:Expr} {pos:Pos} {T id:String} {Q:A3}
  (hl:typeLookup (.type T) "__getitem__"=pure (some (.builtin id))) (hs:zik slice)
  (h:wpAny (model prog w) A (eval value env) (λ o s₁=>wpAny (model prog w) A (eval slice env) (λ i s₂=>s₂.TypeIs o T/\wpAny (model prog w) A (getItem o i) Q E s₂) E s₁) E s) :
  wpAny (model prog w) A (eval (.Subscript value slice pos) env) Q E s:=by
 refine Subscript_ (aU h (λ o s₁ h₁=>aU h₁ (λ i s₂ h₂=>?_) λ _ _ x=>x) λ _ _ x=>x);obtain ⟨hT,h₂⟩:=h₂;unfold subscriptTail;refine ai ?_;rw [getitemInPython_of_ne hT.not_modules];refine ai (wpAny_specialOf hT hl ?_);have fin:wpAny (model prog w) A (subscripted slice false o i) (λ r s₃=>wpAny (model prog w) A (letTemporaryGo value o r >>= λ _=>pure r) Q E s₃) E s₂:=by
  rw [hs o i];exact wpAny_operating (aU h₂ (λ r s₃ h₃=>ai (wpAny_letTemporaryGo (aD h₃))) λ _ _ x=>x)
 first
  | exact aD (ai fin)
  | exact ai (aD (ai fin))
  | exact ai fin
def za9 {X:Cx} {m4:A2} {σ:St} {s:An} {a:Addr} {y:V} {o:Aq} (I:Inv X m4 σ H s) (g:DGet H a y o):s.TypeIs (.ref a) "dict":=by
 rcases g with ⟨m9,k,e,_,_⟩|⟨m9,k,b,e,_,_,_⟩
 ·obtain ⟨_,_,vs,_,dd⟩:=zc0 I.hok e;exact dd.typeIs
 ·obtain ⟨_,_,xs,_,dd⟩:=zcZ I.hok e;exact dd.typeIs
def tDGet (td ty:TE):TE:=λ σ H Q=>td σ H λ x H1=>ty σ H1 λ y H2=>∃ a v,x=.ref a/\DGet H2 a y (some v)/\Q v H2
def tDIn (ty td:TE):TE:=λ σ H Q=>ty σ H λ y H1=>td σ H1 λ x H2=>∃ a o,x=.ref a/\DGet H2 a y o/\Q (.bl o.isSome) H2
def sDPut (td ty tv:TE):TS:=λ D σ H=>tv σ H λ v H1=>td σ H1 λ x H2=>ty σ H2 λ y H3=>∃ a H4,x=.ref a/\DPut H3 a y v H4/\D.nx σ H4
section
variable {X:Cx} {o i e value:Expr} {pos pos' tpos:Pos} {td ty tv:TE}
def zcA (hu:X.A.units + 1 < cLine) (ho:PE X o td) (hi:PE X i ty) (hs:zik i):PE X (.Subscript o i pos) (tDGet td ty):=by
 intro m4 s σ H Q I h;refine zcs eJ.lookup hs (thn (ho m4 s σ H _ I h) λ u s1 ⟨x,H1,I1,rx,q1⟩=>thn (hi m4 s1 σ H1 _ I1 q1) λ iv s2 ⟨y,H2,I2,ry,a,v,ex,g,q2⟩=>?_);subst ex;obtain rfl:u=Value.ref a:=rx;exact ⟨za9 I2 g,zd6 hu I2 g ry λ w' s3 I3 rw'=>⟨v,H2,I3,rw',q2⟩⟩
def zhF (hu:X.A.units + 1 < cLine) (hi:PE X i ty) (ho:PE X o td):PC X .In i o (tDIn ty td):=by
 intro m4 s σ H Q I h;refine thn (hi m4 s σ H _ I h) λ iv s1 ⟨y,H1,I1,ry,q1⟩=>thn (ho m4 s1 σ H1 _ I1 q1) λ u s2 ⟨x,H2,I2,rx,a,ov,ex,g,q2⟩=>?_;subst ex;obtain rfl:u=Value.ref a:=rx;exact zjf hu I2 g ry λ s3 I3=>⟨.bl ov.isSome,H2,I3,rfl,q2⟩
def zgl (hu:X.A.units + 1 < cLine) (ho:PE X o td) (hi:PE X i ty) (hv:PE X value tv) (hs:swapsWith value (some (.Subscript o i pos')) pos.line X.env=pure false) :
  PS X (.Assign [.Subscript o i pos'] value pos) (sDPut td ty tv):=by
 intro m4 s σ H D I h;refine wpAny_Assign_Subscript (thn (hv m4 s σ H _ I h) λ r s1 ⟨v,H1,I1,rv,q1⟩=>thn (ho m4 s1 σ H1 _ I1 q1) λ u s2 ⟨x,H2,I2,rx,q2⟩=>thn (hi m4 s2 σ H2 _ I2 q2) λ iv s3 ⟨y,H3,I3,ry,a,H4,ex,g,q3⟩=>?_) hs;subst ex;obtain rfl:u=Value.ref a:=rx;exact zd5 hu I3 g ry rv λ s4 I4=>⟨σ,H4,I4,q3⟩
end
def zfA {P:Af} (h:Heap) (hb:sysModules < h.objs.size):ObjOk P w H (h.push { cls:=.type "dict",data:=.dict #[] }) h.objs.size (.dT []) :=
 ⟨cx _,aW.mpr (aX (aH hb)),[],.nil,_,#[],0,aC _ rfl,⟨rfl,rfl,rfl⟩,rfl,rfl,nodup_nil⟩
def tDNewT:TE:=λ _ H Q=>∀ p,H p=none->Q (.ref p) (upd H p (.dT []))
section
variable {X:Cx} {pos:Pos}
def zeY:PE X (.Dict [] [] pos) tDNewT:=λ m4 s σ H Q I h =>
 wpAny_Dict_empty ⟨.ref s.heap.objs.size,_,I.laid (a:=s.heap.objs.size) (o:=.dT []) (t':=s.toks) (λ _ _ q=>aj _ q) (av _) (zfA s.heap I.big),rfl,h _ (I.hok.fresh (av _))⟩
end
section
variable {X:Cx} {m4:A2} {σ:St} {H:Hp} {s:An} {a:Addr} {y d:V} {u r:Am} {o:Aq} {A:Ao} {E:A3}
end
section
variable {X:Cx} {o e f:Expr} {apos cpos:Pos} {td ty tx:TE}
end
section
variable {κ:Type} [DecidableEq κ]
end
end L2
namespace L2
open PySem PySem.Spec PySem.Calls PyProof.Rows
section
variable {X:Cx}
def zhL {ns:A6} {i:Nat} (h:i < ns.length):ns[i]?.getD 0∈ns:=by
 rw [ad h];exact de h
def zid (hc:X.calm=true):CallR X (.builtin "any") (λ xs H Q=>∃ p,∃ bs:List Bool,xs=[.ref p]/\H p=some (.lst (bs.map V.bl))/\Q (.bl (bs.any id)) H):=by
 intro m4 s σ H xs us Q I r h;obtain ⟨p,bs,rfl,hp,q⟩:=h;obtain ⟨u,rfl,rx⟩:=Q0 r;cases rx;obtain ⟨mY,rv,hl,hz⟩:=I.list (SqL.of (K:=X.K) hp);have hl':=hl.isList;have hlt:p < s.heap.objs.size:=by obtain ⟨_,e,_⟩:=hl';exact au e
 have hlen:mY.length=bs.length:=by have:=rv.length;rw [af] at this;exact this.symm
 refine call_any_walk (dk hl' ?_);refine ⟨s.heap.objs.size,[s.heap.objs.size,p],[s.heap.objs.size],mY.toArray.size,_,_,λ i=>(bs[i]?).getD false,rfl,Walks.list (A:=X.A.in1) (I.ok.hd hc) _ p (aH hlt) mY.toArray,
  ⟨⟨_,aC _ rfl,rfl,rfl⟩,hl'.push _⟩,λ i v s' Q' E' hP hQ=>?_,λ h' tk hk=>?_⟩
 ·have hP:mY[i]?=some v:=by simpa using hP
  have hib:i < bs.length:=by rw [<- hlen];exact (aa.mp hP).1
  obtain ⟨u,hu,ru⟩:=rv.get (i:=i) (x:=.bl bs[i]) (by rw [ak,ad hib];rfl);rw [hu] at hP;cases hP;cases ru;have e:(bs[i]?).getD false=bs[i]:=by rw [ad hib];rfl
  simp only [e] at hQ;exact bn hQ
 ·have e:((List.range mY.toArray.size).any λ i=>(bs[i]?).getD false)=bs.any id:=by
   rw [aq,hlen,cP,List.any_eq_true,List.any_eq_true];constructor
   ·rintro ⟨i,hi,h⟩;rw [ad (bu.mp hi)] at h;exact ⟨_,de _,h⟩
   ·rintro ⟨b,hb,h⟩;obtain ⟨i,hi,rfl⟩:=fS hb;exact ⟨i,bu.mpr hi,by rw [ad hi];exact h⟩
  rw [e];refine ⟨.bl (bs.any id),H,I.kept (t':=tk) (λ b o eb=>hk b o (λ hm=>?_) (aj _ eb)),rfl,q⟩;rw [aw.mp hm] at eb;exact ci _ (au eb)
def zdb (hc:X.calm=true):CallR X (.builtin "max") (λ xs H Q=>∃ p,∃ ns:List Int,xs=[.ref p]/\SqL X.K H p (ns.map V.int)/\0 < ns.length/\∀ m,m∈ns->(∀ n∈ns,n<=m)->Q (.int m) H):=by
 intro m4 s σ H xs us Q I r h;obtain ⟨p,ns,rfl,hp,hne,q⟩:=h;obtain ⟨u,rfl,rx⟩:=Q0 r;cases rx;obtain ⟨mY,rv,hl,hz⟩:=I.list hp;have hl':=hl.isList;have hlt:p < s.heap.objs.size:=by obtain ⟨_,e,_⟩:=hl';exact au e
 have hlen:mY.length=ns.length:=by have:=rv.length;rw [af] at this;exact this.symm
 refine call_max_walk (dk hl' ?_);refine ⟨s.heap.objs.size,[s.heap.objs.size,p],[s.heap.objs.size],mY.toArray.size,_,_,_,rfl,Walks.list (A:=X.A.in1) (I.ok.hd hc) _ p (aH hlt) mY.toArray,
  ⟨⟨_,aC _ rfl,rfl,rfl⟩,hl'.push _⟩,λ b hb=>?_,by rw [aq,hlen];exact hne,CmpOf.ints_gt (λ i=>ns[i]?.getD 0) (λ i v hP=>Zy rv i v (by simpa using hP)),λ v h' tk hP hk=>?_⟩
 ·simp only [ax,bj,bQ] at hb;simp only [bN];rcases hb with rfl|rfl
  ·exact da _
  ·exact Nat.lt_succ_of_lt hlt
 ·obtain ⟨t,rfl⟩:=Zy rv _ v (by simpa using hP);obtain ⟨h1,h2⟩:=argBest_gt (λ i=>ns[i]?.getD 0) (mY.toArray.size - 1);have hs:mY.toArray.size=ns.length:=by rw [aq,hlen]
  refine ⟨.int _,H,I.kept (t':=tk) (λ b o e=>hk b o (by simpa using aH (au e)) (aj _ e)),⟨_,rfl⟩,q _ (zhL (cr h1 (by omega))) λ n hn=>?_⟩;obtain ⟨j,hj,rfl⟩:=fS hn;have:=h2 j (by omega);simp only [ad hj,aJ] at this;exact this
end
end L2
namespace L2
open PySem PySem.Spec PyProof.Rows
variable {items:Ac}
section
variable {prog:Af} {w:World} {A:Ao} {E:A3} {s:An} {it d:Addr} {i ep:Nat} {es:Array DictEntry} {od:Obj}
end
theorem wJ {α β:Type} {F:α->β->Prop}:∀ {l₁:List α} {l₂:List β},Paired F l₁ l₂->∀ {i:Nat} {x:α} {y:β},l₁[i]?=some x->l₂[i]?=some y->F x y
 | _,_,.nil,_,_,_,h,_=>nomatch h
 | _,_,.cons r t,0,_,_,h,h'=>by cases h;cases h';exact r
 | _,_,.cons r t,i + 1,_,_,h,h'=>wJ t h h'
section
variable {prog:Af} {w:World}
structure KItem (prog:Af) (w:World) (κ:Type) [DecidableEq κ] (d:Nat) where
 is:Heap->κ->Value->Prop
 hash:κ->Int
 draws:κ->Nat
 inj:∀ {h:Heap} {v:Am} {x y:κ},is h x v->is h y v->x=y
 keeps:∀ {h h':Heap} {k:κ} {v:Am} {a:Addr} {o:Obj} {es:Array DictEntry} {ep:Nat},is h k v->h.get? a=some o->o.data=.dict es ep->Heap.SameBut a h h'->is h' k v
 pyHash:∀ {A:Ao} {E:A3} {s:An} {k:κ} {v:Am} {Q:Int->Shared->Prop},A.units + d < cLine->is s.heap k v->Q (hash k) { s with toks:=s.toks + draws k }->wpAny (model prog w) A (PySem.pyHash v) Q E s
 eq:∀ {A:Ao} {s:An} {x y:κ} {u v:Am},A.units + d < cLine->is s.heap x u->is s.heap y v->SeqAt.EqAt A s u v (decide (x=y))
 quiet:∀ {A:Ao} {E:A3} {s:An} {n:Nat} {k:κ} {v:Am} {Q:Bool->Shared->Prop},d<=n->is s.heap k v->Q true s->wpAny (model prog w) A (eqIsQuiet n v) Q E s
noncomputable def oiV:Option Int->V
 | none=>.non
 | some n=>.int n
def zaO (x:A9):wK (oiV x)=true:=by cases x <;> rfl
def zhK (x y:A9):eqV (oiV x) (oiV y)=decide (x=y):=by
 cases x with
 | none=>cases y <;> simp [oiV,eqV]
 | some a =>
  cases y with
  | none=>simp [oiV,eqV]
  | some b =>
   show (a == b)=decide (some a=some b)
   by_cases e:a=b <;> simp [e]
def zgs {x y:A9} {v:Am} (h1:RelV (oiV x) v) (h2:RelV (oiV y) v):x=y:=by
 cases x <;> cases y
 ·rfl
 ·cases h1;obtain ⟨t,e⟩:=h2;cases e
 ·cases h2;obtain ⟨t,e⟩:=h1;cases e
 ·obtain ⟨t,rfl⟩:=h1;obtain ⟨t,e⟩:=h2;cases e;rfl
noncomputable def ziN:Option Int->Int
 | none=>reduceHash 0xFCA86420
 | some n=>hashInt n
def zaP {x:A9} {v:Am} (h:RelV (oiV x) v):carriedByValue v=true:=by
 cases x with
 | none=>cases h;rfl
 | some n=>obtain ⟨t,rfl⟩:=h;rfl
noncomputable def jL (prog:Af) (w:World):KItem prog w A9 0 where
 is:=λ _ k v=>RelV (oiV k) v
 hash:=ziN
 draws:=λ _=>1
 inj:=zgs
 keeps:=λ h _ _ _=>h
 pyHash:=by
  intro A E s k v Q hu h q;cases k with
  | none =>
   cases h;exact fN (T:="NoneType") rfl F.slot_NoneType_hash F.entry_NoneType_hash (F.args_NoneType_hash_1 _) (beq_builtin_none _) (.inr (by omega)) (ai (aD (ai (wpAny_mkInt (aD ⟨_,_,rfl,q⟩)))))
  | some n =>
   obtain ⟨t,rfl⟩:=h;exact wpAny_pyHash_int q
 eq:=by
  intro A s x y u v hu h1 h2;rw [<- zhK];exact QT h1 h2 (zaO x) (zaO y)
 quiet:=by
  intro A E s n k v Q _ h q;rw [eqIsQuiet_byValue _ (zaP h)];exact aD q
inductive HashAll (prog:Af) (w:World) (d:Nat) (hp:Heap):List Value->List (Int × Nat)->Prop
 | nil:HashAll prog w d hp [] []
 | cons {v:Am} {h:Int × Nat} {vs:A7} {hs:List (Int × Nat)}:(∀ (A:Ao) (E:A3) (s:An) (Q:Int->Shared->Prop),s.heap=hp->A.units + d < cLine->Q h.1 { s with toks:=s.toks + h.2 }->wpAny (model prog w) A (PySem.pyHash v) Q E s)->HashAll prog w d hp vs hs->HashAll prog w d hp (v :: vs) (h :: hs)
theorem WF {d:Nat} {hp:Heap} {A:Ao} {E:A3} (hu:A.units + d < cLine):∀ {vs:A7} {hs:List (Int × Nat)} {s:An} {b:Array Int} {Q:Array Int->Shared->Prop},HashAll prog w d hp vs hs->s.heap=hp->(∀ b',b'.toList=b.toList ++ hs.map (·.1)->Q b' { s with toks:=s.toks + (hs.map (·.2)).sum }) ->
  wpAny (model prog w) A (forIn vs b λ x r=>do let h <- PySem.pyHash x;pure PUnit.unit;pure (ForInStep.yield (r.push h))) Q E s
 | _,_,s,b,Q,.nil,_,h=>aD (h b (by simp))
 | _,_,s,b,Q,.cons (h:=h0) x r,e,h=>by
  rw [fB];refine ai (ai (x A E s _ e hu ?_));refine ai (aD (aD ?_));refine WF hu r (by exact e) λ b' hb=>?_;have:=h b' (by simp [hb]);simpa [Nat.add_assoc] using this
def za6 {d:Nat} {a:Addr} {hs:List (Int × Nat)} {A:Ao} {E:A3} {s:An} {Q:Int->Shared->Prop} (hT:IsTup s.heap a items) (all:HashAll prog w d s.heap items.toList hs) (hu:A.units + (d + 1) < cLine)
  (h:Q (reduceHash (Builtin.Tuple.tupleHashOf (hs.map (·.1)))) { s with toks:=s.toks + ((hs.map (·.2)).sum + 1) }):wpAny (model prog w) A (PySem.pyHash (.ref a)) Q E s:=by
 obtain ⟨o,ho,hc,n,hd⟩:=hT;refine fN (T:="tuple") ⟨_,ho,hc⟩ F.slot_tuple_hash F.entry_tuple_hash (F.args_tuple_hash_1 _) (beq_builtin_none _) (.inr (by omega)) ?_;show wpAny _ _ (Builtin.Tuple.tupleItemsOf (.ref a) >>= _) _ _ s
 refine ai (wpAny_tupleItemsOf ho hd ?_);refine ai ?_;rw [<- f9];refine WF (d:=d) (by simp only [eX];omega) all rfl λ b hb=>?_;show wpAny _ _ (retInt (Builtin.Tuple.tupleHashOf b.toList)) _ _ _
 rw [hb];exact ai (wpAny_mkInt (aD ⟨_,_,rfl,by simpa [Nat.add_assoc] using h⟩))
def Wl {d:Nat} {a:Addr} {A:Ao} {E:A3} {s:An} {Q:Bool->Shared->Prop} {n:Nat} (hT:IsTup s.heap a items) (all:∀ v∈items.toList,∀ (A:Ao) (E:A3) (Q:Bool->Shared->Prop),Q true s->wpAny (model prog w) A (eqIsQuiet n v) Q E s) (h:Q true s):wpAny (model prog w) A (eqIsQuiet (n + 1) (.ref a)) Q E s:=by
 obtain ⟨o,ho,hc,m,hd⟩:=hT;have hT:s.TypeIs (.ref a) "tuple":=⟨o,ho,hc⟩;unfold eqIsQuiet;refine ai (wpAny_specialOf hT F.slot_tuple_eq.lookup ?_);show wpAny _ _ (isInstance (.ref a) (.type "tuple") >>= _) _ _ s
 refine ai (wpAny_isInstance hT isSubtype_tuple_tuple ?_);simp only [eV,cV,dQ];refine ai (bK ho hd ?_);refine ai ?_;show wpAny _ _ (forIn items _ _) _ _ s
 rw [<- f9];refine wpAny_forIn_list _ (λ rest r s'=>r.1=none/\s'=s/\∀ v∈rest,v∈items.toList) _ ?_ ?_ _ _ ⟨rfl,rfl,λ v hv=>hv⟩
 ·rintro v rest r s' ⟨hr,rfl,hall⟩;refine ai (all v (hall v bT) _ _ _ ?_);simp only [eV,cV,dQ];exact aD ⟨rfl,rfl,λ u hu'=>hall u (aF _ hu')⟩
 ·rintro ⟨r1,r2⟩ s' ⟨hr,rfl,_⟩;simp only at hr;subst hr;exact aD h
def Xw {h h':Heap} {b a:Addr} {o:Obj} {es:Array DictEntry} {ep:Nat} (x:IsTup h b items) (ho:h.get? a=some o) (hd:o.data=.dict es ep) (hs:Heap.SameBut a h h'):IsTup h' b items:=by
 obtain ⟨o',h1,h2,n,h3⟩:=x;have ne:b≠a:=λ z=>by
  subst z;rw [ho] at h1;cases h1;rw [hd] at h3;cases h3
 exact ⟨o',(hs.2 b ne).trans h1,h2,n,h3⟩
def Zi {h:Heap} {b:Addr} {xs ys:Ac} (x:IsTup h b xs) (y:IsTup h b ys):xs=ys:=by
 obtain ⟨o,h1,_,n,h3⟩:=x;obtain ⟨o',g1,_,m,g3⟩:=y;rw [h1] at g1;cases g1;rw [h3] at g3;injection g3
def zfR {κ:Type} [DecidableEq κ] {xs ys:List κ}:((List.range (min xs.length ys.length)).all (λ j=>decide (xs[j]?=ys[j]?)) && xs.length == ys.length)=decide (xs=ys):=by
 by_cases e:xs=ys
 ·subst e;simp
 ·rw [aR e];by_cases hl:xs.length=ys.length
  ·have:¬ (List.range (min xs.length ys.length)).all (λ j=>decide (xs[j]?=ys[j]?))=true:=λ z=>e (List.ext_getElem? λ j=>by
    rw [bS] at z;by_cases hj:j < xs.length
    ·exact bL (z j (bu.mpr (by omega)))
    ·rw [bZ (by omega),bZ (by omega)])
   simp only [Bool.not_eq_true] at this;rw [this]
   rfl
  ·have:(xs.length == ys.length)=false:=aW.mpr hl;rw [this,cC]
section
variable {κ:Type} [DecidableEq κ] {d:Nat}
theorem ZM {F:κ->Value->Prop} (f:∀ (x y:κ) (v:Am),F x v->F y v->x=y):∀ {xs ys:List κ} {vs:A7},Paired F xs vs->Paired F ys vs->xs=ys
 | _,_,_,.nil,h=>by cases h;rfl
 | _,_,_,.cons a t,h=>by
  cases h with
  | cons b u=>rw [f _ _ _ a b,ZM f t u]
def zaZ {n d e c:Nat} (l:d<=e) (h:n + e < c):n + d < c:=cr (fQ l n) h
def ziM {A:Ao} {e c:Nat} (h:A.units + (e + 1) < c):A.in1.units + e < c:=by
 simp only [eX];omega
def zet {n d:Nat} (h:d + 1<=n):∃ m,n=m + 1/\d<=m:=⟨n - 1,by omega,by omega⟩
noncomputable def Za (I:KItem prog w κ d):KItem prog w (List κ) (d + 1) where
 is:=λ h ks v=>∃ a items,v=.ref a/\IsTup h a items/\Paired (I.is h) ks items.toList
 hash:=λ ks=>reduceHash (Builtin.Tuple.tupleHashOf (ks.map I.hash))
 draws:=λ ks=>(ks.map I.draws).sum + 1
 inj:=by
  rintro h v x y ⟨a,items,rfl,h1,h2⟩ ⟨b,items',e,g1,g2⟩;cases e;have:=Zi h1 g1;subst this;exact ZM (F:=I.is h) (λ _ _ _ p q=>I.inj p q) h2 g2
 keeps:=by
  rintro h h' k v a o es ep ⟨b,items,rfl,h1,h2⟩ ho hd hs;exact ⟨b,items,rfl,Xw h1 ho hd hs,Paired.mapP h2 λ p q z=>I.keeps z ho hd hs⟩
 pyHash:=by
  rintro A E s k v Q hu ⟨b,items,rfl,h1,h2⟩ q;have all:∀ {ks:List κ} {vs:A7},Paired (I.is s.heap) ks vs->HashAll prog w d s.heap vs (ks.map λ k=>(I.hash k,I.draws k)):=by
   intro ks vs p
   induction p with
   | nil=>exact .nil
   | cons z _ ih=>exact .cons (λ A E s' Q e hu q=>I.pyHash hu (by rw [e];exact z) q) ih
  refine za6 h1 (all h2) hu ?_;rw [eB,eB];exact q
 eq:=by
  rintro A s x y u v hu ⟨a,xs,rfl,h1,h2⟩ ⟨b,ys,rfl,g1,g2⟩;by_cases e:a=b
  ·subst e;have:=Zi h1 g1;subst this;rw [ZM (F:=I.is s.heap) (λ _ _ _ p q=>I.inj p q) h2 g2,aY rfl];exact dG _
  ·refine cE e ?_;have l1:x.length=xs.size:=by rw [cz h2,cS]
   have l2:y.length=ys.size:=by rw [cz g2,cS]
   have:=cJ (A:=A) (s:=s) (e:=λ j=>decide (x[j]?=y[j]?)) h1 g1 (by omega) (λ j hj1 hj2=>by
    obtain ⟨k1,e1⟩:∃ k,x[j]?=some k:=⟨x[j]'(by omega),ad _⟩;obtain ⟨k2,e2⟩:∃ k,y[j]?=some k:=⟨y[j]'(by omega),ad _⟩;have p1:=wJ h2 e1 (show xs.toList[j]?=some xs[j] by rw [dA,eK hj1]);have p2:=wJ g2 e2 (show ys.toList[j]?=some ys[j] by rw [dA,eK hj2]);rw [e1,e2,show decide (some k1=some k2)=decide (k1=k2) by simp];exact I.eq (ziM hu) p1 p2)
   rw [<- l1,<- l2,zfR] at this;exact this
 quiet:=by
  rintro A E s n k v Q hn ⟨b,items,rfl,h1,h2⟩ q;obtain ⟨m,rfl,hm⟩:=zet hn;refine Wl (d:=d) h1 (λ v hv A E Q q=>?_) q;obtain ⟨j,hj⟩:=List.mem_iff_getElem?.mp hv;have hl:=(aa.mp hj).1;obtain ⟨k1,e1⟩:∃ x,k[j]?=some x:=⟨k[j]'(by rw [cz h2];exact hl),ad _⟩;exact I.quiet hm (wJ h2 e1 hj) q
end
section
variable {κ1 κ2 κ3 κ4:Type} [DecidableEq κ1] [DecidableEq κ2] [DecidableEq κ3] [DecidableEq κ4] {d1 d2 d3 d4:Nat}
inductive QIs (I1:KItem prog w κ1 d1) (I2:KItem prog w κ2 d2) (I3:KItem prog w κ3 d3) (I4:KItem prog w κ4 d4) (h:Heap) (k:κ1 × κ2 × κ3 × κ4) (v:Am):Prop
 | i (a:Addr) (u1 u2 u3 u4:Am):v=.ref a->IsTup h a #[u1,u2,u3,u4]->I1.is h k.1 u1->I2.is h k.2.1 u2->I3.is h k.2.2.1 u3->I4.is h k.2.2.2 u4->QIs I1 I2 I3 I4 h k v
noncomputable def zeN (I1:KItem prog w κ1 d1) (I2:KItem prog w κ2 d2) (I3:KItem prog w κ3 d3) (I4:KItem prog w κ4 d4) (d:Nat) (l1:d1<=d) (l2:d2<=d) (l3:d3<=d) (l4:d4<=d):KItem prog w (κ1 × κ2 × κ3 × κ4) (d + 1) where
 is:=QIs I1 I2 I3 I4
 hash:=λ k=>reduceHash (Builtin.Tuple.tupleHashOf [I1.hash k.1,I2.hash k.2.1,I3.hash k.2.2.1,I4.hash k.2.2.2])
 draws:=λ k=>[I1.draws k.1,I2.draws k.2.1,I3.draws k.2.2.1,I4.draws k.2.2.2].sum + 1
 inj:=by
  rintro h v ⟨x1,x2,x3,x4⟩ ⟨y1,y2,y3,y4⟩ ⟨a,u1,u2,u3,u4,rfl,h1,i1,i2,i3,i4⟩ ⟨b,v1,v2,v3,v4,e,g1,j1,j2,j3,j4⟩;cases e;have:=Zi h1 g1;cases this;simp only at i1 i2 i3 i4 j1 j2 j3 j4;rw [I1.inj i1 j1,I2.inj i2 j2,I3.inj i3 j3,I4.inj i4 j4]
 keeps:=by
  rintro h h' k v a o es ep ⟨b,u1,u2,u3,u4,rfl,h1,i1,i2,i3,i4⟩ ho hd hs;exact ⟨b,u1,u2,u3,u4,rfl,Xw h1 ho hd hs,I1.keeps i1 ho hd hs,I2.keeps i2 ho hd hs,I3.keeps i3 ho hd hs,I4.keeps i4 ho hd hs⟩
 pyHash:=by
  rintro A E s k v Q hu ⟨b,u1,u2,u3,u4,rfl,h1,i1,i2,i3,i4⟩ q;refine za6 (d:=d) (hs:=[(I1.hash k.1,I1.draws k.1),(I2.hash k.2.1,I2.draws k.2.1),(I3.hash k.2.2.1,I3.draws k.2.2.1),(I4.hash k.2.2.2,I4.draws k.2.2.2)]) h1 ?_ hu q;exact .cons (λ A E s' Q e hu q=>I1.pyHash (zaZ l1 hu) (by rw [e];exact i1) q) (.cons (λ A E s' Q e hu q=>I2.pyHash (zaZ l2 hu) (by rw [e];exact i2) q) (.cons (λ A E s' Q e hu q=>I3.pyHash (zaZ l3 hu) (by rw [e];exact i3) q) (.cons (λ A E s' Q e hu q=>I4.pyHash (zaZ l4 hu) (by rw [e];exact i4) q) .nil)))
 eq:=by
  rintro A s ⟨x1,x2,x3,x4⟩ ⟨y1,y2,y3,y4⟩ u v hu ⟨a,u1,u2,u3,u4,rfl,h1,i1,i2,i3,i4⟩ ⟨b,v1,v2,v3,v4,rfl,g1,j1,j2,j3,j4⟩;simp only at i1 i2 i3 i4 j1 j2 j3 j4;by_cases e:a=b
  ·subst e;have:=Zi h1 g1;cases this;rw [I1.inj i1 j1,I2.inj i2 j2,I3.inj i3 j3,I4.inj i4 j4,aY rfl];exact dG _
  ·refine cE e ?_;have hu':=ziM hu;have:=cJ (A:=A) (s:=s) (e:=λ j=>[decide (x1=y1),decide (x2=y2),decide (x3=y3),decide (x4=y4)].getD j true) h1 g1 (by omega) (λ j hj1 hj2=>by
    match j,hj1,hj2 with
    | 0,_,_=>exact I1.eq (zaZ l1 hu') i1 j1
    | 1,_,_=>exact I2.eq (zaZ l2 hu') i2 j2
    | 2,_,_=>exact I3.eq (zaZ l3 hu') i3 j3
    | 3,_,_=>exact I4.eq (zaZ l4 hu') i4 j4)
   have z:((List.range (min (#[u1,u2,u3,u4]:Ac).size (#[v1,v2,v3,v4]:Ac).size)).all (λ j=>[decide (x1=y1),decide (x2=y2),decide (x3=y3),decide (x4=y4)].getD j true) && (#[u1,u2,u3,u4]:Ac).size == (#[v1,v2,v3,v4]:Ac).size)=decide ((x1,x2,x3,x4)=(y1,y2,y3,y4)):=by
    show ((List.range 4).all _ && true)=_
    rw [show List.range 4=[0,1,2,3] from rfl];simp only [all_cons,List.all_nil,dI,List.getD_cons_zero,List.getD_cons_succ,Prod.mk.injEq,Bool.decide_and]
   rw [z] at this;exact this
 quiet:=by
  rintro A E s n k v Q hn ⟨b,u1,u2,u3,u4,rfl,h1,i1,i2,i3,i4⟩ q;obtain ⟨m,rfl,hm⟩:=zet hn;refine Wl (d:=d) h1 (λ v hv A E Q q=>?_) q;have hv:v=u1\/v=u2\/v=u3\/v=u4:=by simpa using hv
  rcases hv with rfl|rfl|rfl|rfl
  ·exact I1.quiet (a8 l1 hm) i1 q
  ·exact I2.quiet (a8 l2 hm) i2 q
  ·exact I3.quiet (a8 l3 hm) i3 q
  ·exact I4.quiet (a8 l4 hm) i4 q
end
abbrev ShK:=Option Int × List (List A9) × List A9 × List A9
noncomputable def jB (prog:Af) (w:World):KItem prog w ShK 3:=zeN (jL prog w) (Za (Za (jL prog w))) (Za (jL prog w)) (Za (jL prog w)) 2 (by decide) (by decide) (by decide) (by decide)
noncomputable def wD (prog:Af) (w:World):HeapKind prog w ShK where
 is:=λ h k a=>(jB prog w).is h k (.ref a)
 hash:=(jB prog w).hash
 draws:=(jB prog w).draws
 room:=λ A=>A.units + 3 < cLine
 inj:=λ hx hy=>(jB prog w).inj hx hy
 keeps:=λ x ho hd hs=>(jB prog w).keeps x ho hd hs
 pyHash:=λ hu hk h=>(jB prog w).pyHash hu hk h
 eqBool:=λ hu hx hy h=>(jB prog w).eq hu hx hy prog w _ _ h
 quiet:=λ hk h=>(jB prog w).quiet (by decide) hk h
end
noncomputable def oiD:Option Int->D
 | none=>.non
 | some n=>.int n
noncomputable def shD (k:ShK):D:=.tup [oiD k.1,.tup (k.2.1.map λ r=>.tup (r.map oiD)),.tup (k.2.2.1.map oiD),.tup (k.2.2.2.map oiD)]
theorem Wr {α β:Type} {F:α->β->Prop}:∀ {xs:List α} {ys:List β},xs.length=ys.length->(∀ (i:Nat) x y,xs[i]?=some x->ys[i]?=some y->F x y)->Paired F xs ys
 | [],[],_,_=>.nil
 | [],_ :: _,h,_=>by simp at h
 | _ :: _,[],h,_=>by simp at h
 | x :: xs,y :: ys,h,f=>.cons (f 0 x y rfl rfl) (Wr (by simpa using h) λ i a b e1 e2=>f (i + 1) a b e1 e2)
section
variable {P:Af} {w:World} {H:Hp} {h:Heap} {p:A5}
def Qg {x:A9} {v:V} {u:Am} (r:Rep H p v (oiD x)) (e:RelV v u):(jL P w).is h x u:=by
 cases x with
 | none =>
  have r:Rep H p v .non:=r;cases r;exact e
 | some n =>
  have r:Rep H p v (.int n):=r;cases r;exact e
def Jt {κ:Type} [DecidableEq κ] {d:Nat} (ok:HOk P w H h) {I:KItem P w κ d} {f:κ->D} (hI:∀ x v u,Rep H p v (f x)->RelV v u->I.is h x u) {xs:List κ} {v:V} {u:Am} (r:Rep H p v (.tup (xs.map f))) (e:RelV v u):(Za I).is h xs u:=by
 obtain ⟨t,us,rfl,_,ht,rr⟩:=Rep.tup' r;obtain ⟨_,mY,vals,isT⟩:=(show ObjOk P w H h t (.tup us) from ok t _ ht);refine ⟨t,mY.toArray,e,isT,Wr ?_ λ i x y e1 e2=>?_⟩
 ·rw [fR,<- vals.length,rr.len,af]
 ·rw [fR] at e2;obtain ⟨v',hv',rv⟩:=rr.of (i:=i) (d:=f x) (by rw [ak,e1];rfl);exact hI x v' y rv (wJ vals hv' e2)
theorem zc5 {α:Type} {n:Nat}:∀ {us:List α},us.length=n + 1->∃ v w,us=v :: w/\w.length=n
 | v :: w,h=>⟨v,w,rfl,by simpa using h⟩
def zcC {v:V} {vs:Ap} {us:A7} (h:Vals (v :: vs) us):∃ u ws,us=u :: ws/\RelV v u/\Vals vs ws:=by
 cases h with
 | cons a b=>exact ⟨_,_,rfl,a,b⟩
def Zc (ok:HOk P w H h) {k:ShK} {b:Addr} (r:Rep H p (.ref b) (shD k)):(wD P w).is h k b:=by
 obtain ⟨t,us,e,_,ht,rr⟩:=Rep.tup' r;cases e;obtain ⟨_,mY,vals,isT⟩:=(show ObjOk P w H h b (.tup us) from ok b _ ht);have g:=rr.g;obtain ⟨v1,w1,rfl,l1⟩:=zc5 rr.len;obtain ⟨v2,w2,rfl,l2⟩:=zc5 l1;obtain ⟨v3,w3,rfl,l3⟩:=zc5 l2;obtain ⟨v4,w4,rfl,l4⟩:=zc5 l3;cases cy.mp l4;obtain ⟨u1,z1,rfl,q1,vals⟩:=zcC vals;obtain ⟨u2,z2,rfl,q2,vals⟩:=zcC vals;obtain ⟨u3,z3,rfl,q3,vals⟩:=zcC vals;obtain ⟨u4,z4,rfl,q4,vals⟩:=zcC vals;cases vals;have k1:=Qg (P:=P) (w:=w) (h:=h) (g 0 v1 _ rfl rfl) q1;have k2:=Jt ok (I:=Za (jL P w)) (λ x v u r e=>Jt ok (I:=jL P w) (λ x v u r e=>Qg r e) r e) (g 1 v2 _ rfl rfl) q2;have k3:=Jt ok (I:=jL P w) (λ x v u r e=>Qg r e) (g 2 v3 _ rfl rfl) q3;have k4:=Jt ok (I:=jL P w) (λ x v u r e=>Qg r e) (g 3 v4 _ rfl rfl) q4;exact ⟨b,u1,u2,u3,u4,rfl,isT,k1,k2,k3,k4⟩
end
noncomputable def toV (x:ShK × Addr × Addr):ShK × Addr × Value:=(x.1,x.2.1,.ref x.2.2)
noncomputable def sdO (P:Af) (w:World) (D:Addr) (xs:List (ShK × Addr × Addr)):HO:=.ext λ h=>((D == sysModules)=false/\xs.length<=sizeLine/\(xs.map (·.1)).Nodup)/\∃ o es ep,h.get? D=some o/\o.ExactDict/\o.data=.dict es ep/\es.toList=(xs.map toV).map (entryOfKey (wD P w))
def keysOk (H:Hp) (xs:List (ShK × Addr × Addr)):Prop:=∀ x∈xs,∃ p:Addr->Prop,Rep H p (.ref x.2.1) (shD x.1)
noncomputable def wn (xs:List (ShK × Addr × Addr)) (k:ShK):Option Addr:=(xs.find? λ x=>decide (x.1=k)).map (·.2.2)
theorem Z9 (k:ShK):∀ xs:List (ShK × Addr × Addr),(atKey (xs.map toV) k).map (·.2)=(wn xs k).map Value.ref
 | []=>rfl
 | x :: xs=>by
  have ih:=Z9 k xs;unfold atKey wn at ih ⊢;rw [bz,cQ,cQ];show Option.map _ (Option.map _ (match decide (x.1=k) with|true=>some (toV x)|false=>_))=_
  by_cases e:x.1=k
  ·rw [aY e];rfl
  ·rw [aR e];exact ih
def keysOk.same {H H':Hp} {xs:List (ShK × Addr × Addr)} (h:keysOk H xs) (s:∀ b ys,H b=some (.tup ys)->H' b=some (.tup ys)) (t:∀ x∈xs,∃ p:Addr->Prop,Rep H p (.ref x.2.1) (shD x.1)/\∀ b o,p b->H b=some o->H' b=some o):keysOk H' xs:=λ x hx=>by
 obtain ⟨p,r,k⟩:=t x hx;exact ⟨p,r.keep λ b o pb hb=>⟨pb,k b o pb hb⟩⟩
def zcv {P:Af} {w:World} {H:Hp} {h:Heap} {D:Addr} {xs:List (ShK × Addr × Addr)} (ok:HOk P w H h) (e:H D=some (sdO P w D xs)) (ks:keysOk H xs):(D == sysModules)=false/\xs.length<=sizeLine/\(xs.map (·.1)).Nodup/\h.DictOfH (wD P w) D (xs.map toV):=by
 obtain ⟨⟨⟨h1,h2,h3⟩,o,es,ep,g1,g2,g3,g4⟩,_,_⟩:=(show ObjOk P w H h D (sdO P w D xs) from ok D _ e);refine ⟨h1,h2,h3,o,es,ep,g1,g2,g3,g4,λ x hx=>?_,by rw [eB];exact h3⟩;obtain ⟨y,hy,rfl⟩:=aV.mp hx;obtain ⟨p,r⟩:=ks y hy;exact Zc ok r
def zg4 {P:Af} {w:World} {H:Hp} {h:Heap} {D:Addr} {xs:List (ShK × Addr × Addr)} (h1:(D == sysModules)=false) (h2:xs.length<=sizeLine) (h3:(xs.map (·.1)).Nodup) (g:∃ o es ep,h.get? D=some o/\o.ExactDict/\o.data=.dict es ep/\es.toList=(xs.map toV).map (entryOfKey (wD P w))):ObjOk P w H h D (sdO P w D xs):=by
 refine ⟨⟨⟨h1,h2,h3⟩,g⟩,?_,?_⟩
 ·obtain ⟨o,_,_,g1,_⟩:=g;exact ⟨o,g1⟩
 ·rintro k1 k2 ⟨a,o,es,ep,g1,g2⟩ k;exact ⟨a,o,es,ep,k o g1,g2⟩
section
variable {X:Cx} {m4:A2} {σ:St} {H:Hp} {s:An} {D b y:Addr} {A:Ao} {E:A3} {xs:List (ShK × Addr × Addr)} {k:ShK} {p:A5}
def ZD (hu:A.units + 100 < cLine):(wD X.prog X.w).room A.in1:=by
 show A.in1.units + 3 < cLine
 simp only [eX];omega
def zi8 {Q:A3} (hu:A.units + 100 < cLine) (I:Inv X m4 σ H s) (e:H D=some (sdO X.prog X.w D xs)) (ks:keysOk H xs) (r:Rep H p (.ref b) (shD k)) (h:∀ s',Inv X m4 σ H s'->Q (.bool (wn xs k).isSome) s'):wpAny (model X.prog X.w) A (compareOp .In (.ref b) (.ref D)) Q E s:=by
 obtain ⟨h1,h2,h3,dd⟩:=zcv I.hok e ks;refine wpAny_in_heap (ZD hu) (Zc I.hok r) h1 dd ?_;have q:=bt Option.isSome (Z9 k xs);rw [cZ,cZ] at q;rw [q];exact h _ (I.tok _)
def ziv {Q:A3} (hu:A.units + 100 < cLine) (I:Inv X m4 σ H s) (e:H D=some (sdO X.prog X.w D xs)) (ks:keysOk H xs) (r:Rep H p (.ref b) (shD k)) (l:wn xs k=some y) (h:∀ s',Inv X m4 σ H s'->Q (.ref y) s'):wpAny (model X.prog X.w) A (getItem (.ref D) (.ref b)) Q E s:=by
 obtain ⟨h1,h2,h3,dd⟩:=zcv I.hok e ks;have q:=Z9 k xs;rw [l] at q;obtain ⟨z,hz,e2⟩:=am.mp q;refine wpAny_getItem_heap (ZD hu) (Zc I.hok r) dd hz ?_;rw [e2];exact h _ (I.tok _)
def ziu {Q:Ag} (hu:A.units + 100 < cLine) (I:Inv X m4 σ H s) (e:H D=some (sdO X.prog X.w D xs)) (ks:keysOk H xs) (r:Rep H p (.ref b) (shD k)) (l:wn xs k=none) (hl:xs.length < sizeLine) (h:∀ s',Inv X m4 σ (upd H D (sdO X.prog X.w D (xs ++ [(k,b,y)]))) s'->Q () s'):wpAny (model X.prog X.w) A (setItem (.ref D) (.ref b) (.ref y)) Q E s:=by
 obtain ⟨h1,h2,h3,dd⟩:=zcv I.hok e ks;have q:=Z9 k xs;rw [l] at q;have q:atKey (xs.map toV) k=none:=by simpa using q
 refine wpAny_setItem_heap (hsz:=by rw [af];exact h2) (ZD hu) (Zc I.hok r) dd λ h' dd' hs=>h _ ?_;rw [storedH_new q] at dd';obtain ⟨o,es,ep,g1,g2,g3,g4,_,g5⟩:=dd';refine VR I (by rw [e];exact True.intro) hs ⟨o,g1⟩ (zg4 h1 (by simp;omega) ?_ ⟨o,es,ep,g1,g2,g3,?_⟩)
 ·have:(xs ++ [(k,b,y)]).map (·.1)=((xs.map toV ++ [(k,b,Value.ref y)]).map (·.1)):=by simp [toV]
  rw [this];exact g5
 ·rw [g4];simp [toV]
end
def tSIn (P:Af) (w:World) (ty td:TE):TE:=λ σ H Q=>ty σ H λ y H1=>td σ H1 λ x H2=>∃ D b xs k p,x=.ref D/\y=.ref b/\H2 D=some (sdO P w D xs)/\keysOk H2 xs/\Rep H2 p (.ref b) (shD k)/\Q (.bl (wn xs k).isSome) H2
def tSGet (P:Af) (w:World) (td ty:TE):TE:=λ σ H Q=>td σ H λ x H1=>ty σ H1 λ y H2=>∃ D b xs k p z,x=.ref D/\y=.ref b/\H2 D=some (sdO P w D xs)/\keysOk H2 xs/\Rep H2 p (.ref b) (shD k)/\wn xs k=some z/\Q (.ref z) H2
def sSPut (P:Af) (w:World) (td ty tv:TE):TS:=λ N σ H=>tv σ H λ v H1=>td σ H1 λ x H2=>ty σ H2 λ y H3=>∃ D b xs k p z,x=.ref D/\y=.ref b/\v=.ref z/\H3 D=some (sdO P w D xs)/\keysOk H3 xs/\Rep H3 p (.ref b) (shD k)/\wn xs k=none/\xs.length < sizeLine/\N.nx σ (upd H3 D (sdO P w D (xs ++ [(k,b,z)])))
def tSNew (P:Af) (w:World):TE:=λ _ H Q=>∀ p,H p=none->Q (.ref p) (upd H p (sdO P w p []))
section
variable {X:Cx} {o i value:Expr} {pos pos':Pos} {td ty tv:TE}
def zhE (hu:X.A.units + 100 < cLine) (hi:PE X i ty) (ho:PE X o td):PC X .In i o (tSIn X.prog X.w ty td):=by
 intro m4 s σ H Q I h;refine qC (hi m4 s σ H _ I h) λ iv s1 y H1 I1 ry q1=>qC (ho m4 s1 σ H1 _ I1 q1) λ u s2 x H2 I2 rx qq_=>?_;obtain ⟨D,b,xs,k,p,ex,ey,e,ks,r,q2⟩:=qq_;subst ex ey;obtain rfl:u=Value.ref D:=rx;obtain rfl:iv=Value.ref b:=ry;exact zi8 hu I2 e ks r λ s3 I3=>⟨.bl _,H2,I3,rfl,q2⟩
def zgo (hu:X.A.units + 100 < cLine) (ho:PE X o td) (hi:PE X i ty) (hs:zik i):PE X (.Subscript o i pos) (tSGet X.prog X.w td ty):=by
 intro m4 s σ H Q I h;refine zcs eJ.lookup hs (qC (ho m4 s σ H _ I h) λ u s1 x H1 I1 rx q1=>qC (hi m4 s1 σ H1 _ I1 q1) λ iv s2 y H2 I2 ry qq_=>?_);obtain ⟨D,b,xs,k,p,z,ex,ey,e,ks,r,l,q2⟩:=qq_;subst ex ey;obtain rfl:u=Value.ref D:=rx;obtain rfl:iv=Value.ref b:=ry;exact ⟨(zcv I2.hok e ks).2.2.2.typeIs,ziv hu I2 e ks r l λ s3 I3=>⟨.ref z,H2,I3,rfl,q2⟩⟩
def zgk (hu:X.A.units + 100 < cLine) (ho:PE X o td) (hi:PE X i ty) (hv:PE X value tv) (hs:swapsWith value (some (.Subscript o i pos')) pos.line X.env=pure false) :
  PS X (.Assign [.Subscript o i pos'] value pos) (sSPut X.prog X.w td ty tv):=by
 intro m4 s σ H N I h;refine wpAny_Assign_Subscript (qC (hv m4 s σ H _ I h) λ r s1 v H1 I1 rv q1=>qC (ho m4 s1 σ H1 _ I1 q1) λ u s2 x H2 I2 rx q2=>qC (hi m4 s2 σ H2 _ I2 q2) λ iv s3 y H3 I3 ry qq_=>?_) hs;obtain ⟨D,b,xs,k,p,z,ex,ey,ez,e,ks,r',l,hl,q3⟩:=qq_;subst ex ey ez;obtain rfl:u=Value.ref D:=rx;obtain rfl:iv=Value.ref b:=ry;obtain rfl:r=Value.ref z:=rv;exact ziu hu I3 e ks r' l hl λ s4 I4=>⟨σ,_,I4,q3⟩
def zgn:PE X (.Dict [] [] pos) (tSNew X.prog X.w):=λ m4 s σ H Q I h =>
 wpAny_Dict_empty ⟨.ref s.heap.objs.size,_,I.laid (a:=s.heap.objs.size) (o:=sdO X.prog X.w s.heap.objs.size []) (t':=s.toks) (λ _ _ q=>aj _ q) (av _) (zg4 (aW.mpr (aX (aH I.big))) (cx _) nodup_nil ⟨_,#[],0,aC _ rfl,⟨rfl,rfl,rfl⟩,rfl,rfl⟩),rfl,h _ (I.hok.fresh (av _))⟩
end
section
variable {X:Cx} {G:GK} {x:Str} {np pos hpos:Pos} {body su:List Stmt} {b₀:Stmt} {tb:List (Addr × Obj)->GK->TS} {th:List (Addr × Obj)->Addr->TS}
end
def Qj {X:Cx}:CallR X (.type "tuple") (λ xs H Q=>∃ p ys,xs=[.ref p]/\((SqL X.K H p ys/\∀ l,H l=none->Q (.ref l) (upd H l (.tup ys)))\/(SqT X.K H p ys/\Q (.ref p) H))):=X8
end L2
namespace L2
section
variable {G:Prop} {A B C D E F H I:Type}
def iE2 {k:A->B->Prop} (a:A) (b:B) (p:k a b):∃ a b,k a b:=⟨a,b,p⟩
def iE3 {k:A->B->C->Prop} (a:A) (b:B) (c:C) (p:k a b c):∃ a b c,k a b c:=⟨a,b,c,p⟩
def iE4 {k:A->B->C->D->Prop} (a:A) (b:B) (c:C) (d:D) (p:k a b c d):∃ a b c d,k a b c d:=⟨a,b,c,d,p⟩
def iE5 {k:A->B->C->D->E->Prop} (a:A) (b:B) (c:C) (d:D) (e:E) (p:k a b c d e):∃ a b c d e,k a b c d e:=⟨a,b,c,d,e,p⟩
def iE6 {k:A->B->C->D->E->F->Prop} (a:A) (b:B) (c:C) (d:D) (e:E) (f:F) (p:k a b c d e f):∃ a b c d e f,k a b c d e f:=⟨a,b,c,d,e,f,p⟩
def iE7 {k:A->B->C->D->E->F->H->Prop} (a:A) (b:B) (c:C) (d:D) (e:E) (f:F) (g:H) (p:k a b c d e f g):∃ a b c d e f g,k a b c d e f g:=⟨a,b,c,d,e,f,g,p⟩
def iE8 {k:A->B->C->D->E->F->H->I->Prop} (a:A) (b:B) (c:C) (d:D) (e:E) (f:F) (g:H) (i:I) (p:k a b c d e f g i):∃ a b c d e f g i,k a b c d e f g i:=⟨a,b,c,d,e,f,g,i,p⟩
def oE1 {k:A->Prop} (h:∃ a,k a) (w:∀ a,k a->G):G:=by obtain ⟨a,p⟩:=h;exact w a p
def oE2 {k:A->B->Prop} (h:∃ a b,k a b) (w:∀ a b,k a b->G):G:=by obtain ⟨a,b,p⟩:=h;exact w a b p
def oE3 {k:A->B->C->Prop} (h:∃ a b c,k a b c) (w:∀ a b c,k a b c->G):G:=by obtain ⟨a,b,c,p⟩:=h;exact w a b c p
def oE4 {k:A->B->C->D->Prop} (h:∃ a b c d,k a b c d) (w:∀ a b c d,k a b c d->G):G:=by obtain ⟨a,b,c,d,p⟩:=h;exact w a b c d p
def oE5 {k:A->B->C->D->E->Prop} (h:∃ a b c d e,k a b c d e) (w:∀ a b c d e,k a b c d e->G):G:=by obtain ⟨a,b,c,d,e,p⟩:=h;exact w a b c d e p
def oE6 {k:A->B->C->D->E->F->Prop} (h:∃ a b c d e f,k a b c d e f) (w:∀ a b c d e f,k a b c d e f->G):G:=by obtain ⟨a,b,c,d,e,f,p⟩:=h;exact w a b c d e f p
def oE7 {k:A->B->C->D->E->F->H->Prop} (h:∃ a b c d e f g,k a b c d e f g) (w:∀ a b c d e f g,k a b c d e f g->G):G:=by obtain ⟨a,b,c,d,e,f,g,p⟩:=h;exact w a b c d e f g p
def oE8 {k:A->B->C->D->E->F->H->I->Prop} (h:∃ a b c d e f g i,k a b c d e f g i) (w:∀ a b c d e f g i,k a b c d e f g i->G):G:=by obtain ⟨a,b,c,d,e,f,g,i,p⟩:=h;exact w a b c d e f g i p
end
section
variable {G A B C D E F H I J:Prop}
def iA3 (a:A) (b:B) (c:C):A/\B/\C:=⟨a,b,c⟩
def iA4 (a:A) (b:B) (c:C) (d:D):A/\B/\C/\D:=⟨a,b,c,d⟩
def iA5 (a:A) (b:B) (c:C) (d:D) (e:E):A/\B/\C/\D/\E:=⟨a,b,c,d,e⟩
def iA6 (a:A) (b:B) (c:C) (d:D) (e:E) (f:F):A/\B/\C/\D/\E/\F:=⟨a,b,c,d,e,f⟩
def iA7 (a:A) (b:B) (c:C) (d:D) (e:E) (f:F) (g:H):A/\B/\C/\D/\E/\F/\H:=⟨a,b,c,d,e,f,g⟩
def iA8 (a:A) (b:B) (c:C) (d:D) (e:E) (f:F) (g:H) (i:I):A/\B/\C/\D/\E/\F/\H/\I:=⟨a,b,c,d,e,f,g,i⟩
def iA9 (a:A) (b:B) (c:C) (d:D) (e:E) (f:F) (g:H) (i:I) (j:J):A/\B/\C/\D/\E/\F/\H/\I/\J:=⟨a,b,c,d,e,f,g,i,j⟩
def oA2 (h:A/\B) (k:A->B->G):G:=by obtain ⟨a,b⟩:=h;exact k a b
def oA3 (h:A/\B/\C) (k:A->B->C->G):G:=by obtain ⟨a,b,c⟩:=h;exact k a b c
def oA4 (h:A/\B/\C/\D) (k:A->B->C->D->G):G:=by obtain ⟨a,b,c,d⟩:=h;exact k a b c d
def oA5 (h:A/\B/\C/\D/\E) (k:A->B->C->D->E->G):G:=by obtain ⟨a,b,c,d,e⟩:=h;exact k a b c d e
def oA6 (h:A/\B/\C/\D/\E/\F) (k:A->B->C->D->E->F->G):G:=by obtain ⟨a,b,c,d,e,f⟩:=h;exact k a b c d e f
def oA7 (h:A/\B/\C/\D/\E/\F/\H) (k:A->B->C->D->E->F->H->G):G:=by obtain ⟨a,b,c,d,e,f,g⟩:=h;exact k a b c d e f g
def oA8 (h:A/\B/\C/\D/\E/\F/\H/\I) (k:A->B->C->D->E->F->H->I->G):G:=by obtain ⟨a,b,c,d,e,f,g,i⟩:=h;exact k a b c d e f g i
def oA9 (h:A/\B/\C/\D/\E/\F/\H/\I/\J) (k:A->B->C->D->E->F->H->I->J->G):G:=by obtain ⟨a,b,c,d,e,f,g,i,j⟩:=h;exact k a b c d e f g i j
end
end L2
namespace Mine
def zfw {p r:Int} (hp:0<=p) (hr:0 < r):Int.gcd r (p % r)=Int.gcd p r:=by
 have e:(p % r).natAbs=p.natAbs % r.natAbs:=by
  have h1:p=(p.natAbs:Int):=by omega
  have h2:r=(r.natAbs:Int):=by omega
  rw [h1,h2,<- dZ,bD,bD,bD]
 show Nat.gcd r.natAbs (p % r).natAbs=Nat.gcd p.natAbs r.natAbs
 rw [e,Nat.gcd_comm p.natAbs,Nat.gcd_rec r.natAbs p.natAbs,Nat.gcd_comm]
def zgD {p:Int} (hp:0<=p):(Int.gcd p 0:Int)=p:=by
 rw [Int.gcd_zero_right];omega
def zcT {a b:Int} (h:¬ (a=0/\b=0)):1<=(Int.gcd a b:Int):=by
 have:0 < Int.gcd a b:=Int.gcd_pos_iff.mpr (by omega);omega
end Mine
namespace Mine
structure IsLcm (ns:A6) (l:Int):Prop where
 pos:0 < l
 dv:∀ n∈ns,n ∣ l
 least:∀ m:Int,(∀ n∈ns,n ∣ m)->l ∣ m
def IsLcm.nil:IsLcm [] 1:=⟨by decide,(λ _ h=>nomatch h),λ m _=>Int.one_dvd m⟩
def zhP {a b:Int} (ha:0 < a) (hb:0 < b):a / (Int.gcd a b:Int) * b=(Nat.lcm a.natAbs b.natAbs:Int):=by
 have g:(Int.gcd a b:Int) ∣ a:=Int.gcd_dvd_left ..;obtain ⟨k,hk⟩:=g;have gp:0 < (Int.gcd a b:Int):=by have:=zcT (a:=a) (b:=b) (by omega);omega
 have e1:a / (Int.gcd a b:Int)=k:=by
  conv=>lhs;rw [hk]
  have hk':=hk;rw [Int.mul_comm (Int.gcd a b:Int) k];have e2:Int.gcd (k * (Int.gcd a b:Int)) b=Int.gcd a b:=by rw [Int.mul_comm,<- hk]
  rw [e2];exact Int.mul_ediv_cancel _ (by omega)
 have hkn:0 < k:=by
  rcases (by omega:k<=0\/0 < k) with h|h
  ·have:=Int.mul_nonpos_of_nonneg_of_nonpos (cB gp) h;omega
  ·exact h
 have hg:Nat.gcd a.natAbs b.natAbs * Nat.lcm a.natAbs b.natAbs=a.natAbs * b.natAbs:=Nat.gcd_mul_lcm ..;have ea:a.natAbs=Nat.gcd a.natAbs b.natAbs * k.natAbs:=by
  have:=bt Int.natAbs hk;rw [Int.natAbs_mul,bD] at this;exact this
 have gp':0 < Nat.gcd a.natAbs b.natAbs:=by
  have:(Nat.gcd a.natAbs b.natAbs:Int)=(Int.gcd a b:Int):=rfl;omega
 have e3:Nat.lcm a.natAbs b.natAbs=k.natAbs * b.natAbs:=by
  apply Nat.eq_of_mul_eq_mul_left gp';rw [hg,<- Nat.mul_assoc,<- ea]
 rw [e1,e3];rw [eu];have h1:k=(k.natAbs:Int):=by omega
 have h2:b=(b.natAbs:Int):=by omega
 rw [<- h1,<- h2]
def Zr {a b:Int} (h:a ∣ b):a.natAbs ∣ b.natAbs:=cG.mpr h
def IsLcm.step {ns:A6} {l p:Int} (x:IsLcm ns l) (hp:0 < p):IsLcm (ns ++ [p]) (l / (Int.gcd l p:Int) * p):=by
 rw [zhP x.pos hp];have lp:0 < l.natAbs:=by have:=x.pos;omega
 have pp:0 < p.natAbs:=by omega
 refine ⟨?_,λ n hn=>?_,λ m hm=>?_⟩
 ·have:=Nat.lcm_pos lp pp;omega
 ·rcases aE.mp hn with h|h
  ·have h1:=x.dv n h;refine Int.dvd_trans h1 ?_;rw [<- cG,bD];exact Nat.dvd_lcm_left ..
  ·rw [aw.mp h,<- cG,bD];exact Nat.dvd_lcm_right ..
 ·have h1:=x.least m λ n hn=>hm n (bp _ hn);have h2:=hm p (aT _ (aw.mpr rfl));rw [<- cG,bD];exact Nat.lcm_dvd (Zr h1) (Zr h2)
def VM {a b:Int} (hb:0 < b):(Int.gcd a b:Int)<=b:=Int.le_of_dvd hb (Int.gcd_dvd_right ..)
end Mine
namespace L2
open PySem PySem.Spec PyProof.Rows
variable {i:Int} {xs:Ap} {v:V} {CX:CXT} {P:Af} {w:World} {mg:A4} {base:Heap} {N:A8} {qual:Str} {scope:Scope} {f:Addr} {cd:Am} {A:Ao} {s:An} {E:XK} {n:Nat}
section
variable {X:Cx} {K:A0} {σ:St} {H:Hp} {Q:VK} {D:Ends}
def rd_iq {P:Int->Prop}:iq (.int i) P=P i:=rfl
def rd_bq {b:Bool} {P:Bool->Prop}:bq (.bl b) P=P b:=rfl
def rd_nq {P:Prop}:nq .non P=P:=rfl
def rd_lq {P:V->Prop}:lq [v] P=P v:=rfl
def rd_vq {P:V->Prop}:vq (some (some v)) P=P v:=rfl
def rd_addI {i j:Int}:zaE K (.int i) (.int j) H Q=Q (.int (i + j)) H:=rfl
def rd_addS {i j:Str}:zaE K (.str i) (.str j) H Q=(i.length + j.length<=sizeLine/\Q (.str (i ++ j)) H):=rfl
def rd_mc {α β:Type} {f:α->β} {a:α} {l:List α}:List.map f (a :: l)=f a :: List.map f l:=rfl
def rd_mn {α β:Type} {f:α->β}:List.map f []=[]:=rfl
def rd_itT {A B:Prop}:(if true=true then A else B)=A:=rfl
def rd_itF {A B:Prop}:(if false=true then A else B)=B:=rfl
def rd_is0 {A B:Prop}:(if V.non=V.non then A else B)=A:=rfl
def rd_is1 {a:Addr} {A B:Prop}:(if V.ref a=V.non then A else B)=B:=rfl
def rd_is2 {a:Int} {A B:Prop}:(if V.int a=V.non then A else B)=B:=rfl
def rd_in0 {A B:Prop}:(if ¬ V.non=V.non then A else B)=B:=rfl
def rd_in1 {a:Addr} {A B:Prop}:(if ¬ V.ref a=V.non then A else B)=A:=rfl
def rd_in2 {a:Int} {A B:Prop}:(if ¬ V.int a=V.non then A else B)=A:=rfl
def rd_sz0 {P:Prop}:szl [] P=P:=rfl
section
variable {P:Prop} {a b c d e f g h i:V}
def rd_sz1:szl [a] P=P:=rfl
def rd_sz2:szl [a,b] P=P:=rfl
def rd_sz3:szl [a,b,c] P=P:=rfl
def rd_sz4:szl [a,b,c,d] P=P:=rfl
def rd_sz5:szl [a,b,c,d,e] P=P:=rfl
def rd_sz6:szl [a,b,c,d,e,f] P=P:=rfl
def rd_sz7:szl [a,b,c,d,e,f,g] P=P:=rfl
def rd_sz8:szl [a,b,c,d,e,f,g,h] P=P:=rfl
def rd_sz9:szl [a,b,c,d,e,f,g,h,i] P=P:=rfl
end
noncomputable def zcX:Nat->List Stmt->Bool
 | 0,_=>false
 | n + 1,b=>match b.getLast? with
  | some (.Return ..)=>true
  | some (.Raise ..)=>true
  | some (.Continue ..)=>true
  | some (.Break ..)=>true
  | some (.If _ b e _)=>zcX n b && zcX n e
  | _=>false
noncomputable def ziS:Stmt->Bool
 | .For ..=>true
 | .While ..=>true
 | .Try ..=>true
 | .If _ b e _=>!zcX 9 b && !zcX 9 e
 | _=>false
def fa {X:Cx} {st:Stmt} {t:TS} (_:ziS st=true) (p:PS X st t):PS X st t:=p
structure Vr (X:Cx) (i:Nat) (x:Str):Prop where
 n:X.N[i]?=some x
 v:Vis X.env.scope x
 d:(x == ("__debug__":Str))=false
 c:(x == ("__classdict__":Str))=false
def pq {X:Cx} (i:Nat) {x:Str} {pos:Pos} (h:Vr X i x:=by walk_at "v"):PE X (.Name x pos) (tVar i):=zhA h.n h.v h.d h.c
def rd_trB {b:Bool} {P:Bool->Hp->Prop}:trq K (.bl b) H P=P b H:=rfl
def rd_trI {P:Bool->Hp->Prop}:trq K (.int i) H P=∃ k,zem K (.int i) H k/\P k H:=rfl
def rd_trR {a:Addr} {P:Bool->Hp->Prop}:trq K (.ref a) H P=∃ k,zem K (.ref a) H k/\P k H:=rfl
def rd_trS {x:Str} {P:Bool->Hp->Prop}:trq K (.str x) H P=∃ k,zem K (.str x) H k/\P k H:=rfl
def rd_eqI {i j:Int}:Vp K (.int i) (.int j) H Q=Q (.bl (decide (i=j))) H:=rfl
def rd_neI {i j:Int}:zbO K (.int i) (.int j) H Q=Q (.bl (!decide (i=j))) H:=rfl
def rd_eqS {i j:Str}:Vp K (.str i) (.str j) H Q=Q (.bl (decide (i=j))) H:=rfl
def rd_eqB {i j:Bool}:Vp K (.bl i) (.bl j) H Q=Q (.bl (decide (i=j))) H:=rfl
def rd_eTI {i j:Int}:zdG K (.int i) (.int j) H Q=if i=j then Q (.bl true) H else Q (.bl false) H:=rfl
def rd_eTS {i j:Str}:zdG K (.str i) (.str j) H Q=if i=j then Q (.bl true) H else Q (.bl false) H:=rfl
def rd_eTB {i j:Bool}:zdG K (.bl i) (.bl j) H Q=if i=j then Q (.bl true) H else Q (.bl false) H:=rfl
def rd_nTI {i j:Int}:zdE K (.int i) (.int j) H Q=if ¬ i=j then Q (.bl true) H else Q (.bl false) H:=rfl
def rd_nTS {i j:Str}:zdE K (.str i) (.str j) H Q=if ¬ i=j then Q (.bl true) H else Q (.bl false) H:=rfl
def rd_nTB {i j:Bool}:zdE K (.bl i) (.bl j) H Q=if ¬ i=j then Q (.bl true) H else Q (.bl false) H:=rfl
def rd_eTR {a b:Addr}:zdG K (.ref a) (.ref b) H Q=Vp K (.ref a) (.ref b) H Q:=rfl
def rd_nTR {a b:Addr}:zdE K (.ref a) (.ref b) H Q=zbO K (.ref a) (.ref b) H Q:=rfl
def rd_fvI {P:Str->Prop} {R:Str->Prop}:((∃ j,V.int i=V.int j/\j.natAbs.log2 < 1920/\P (toString j))\/(∃ y,V.int i=V.str y/\y.length<=sizeLine/\R y)) ↔ i.natAbs.log2 < 1920/\P (toString i) :=
 ⟨λ h=>h.elim (λ ⟨_,e,h⟩=>by cases e;exact h) (λ ⟨_,e,_⟩=>nomatch e),λ h=>.inl ⟨i,rfl,h⟩⟩
def rd_strS {y:Str} {P:Str->Prop}:(∃ z,V.str y=V.str z/\P z) ↔ P y:=⟨λ ⟨_,e,h⟩=>by cases e;exact h,λ h=>⟨y,rfl,h⟩⟩
def rd_c0:((0:Nat):Int)=0:=rfl
def rd_c1:((1:Nat):Int)=1:=rfl
def rd_c2:((2:Nat):Int)=2:=rfl
def rd_c3:((3:Nat):Int)=3:=rfl
def rd_c4:((4:Nat):Int)=4:=rfl
def rd_c5:((5:Nat):Int)=5:=rfl
def rd_c6:((6:Nat):Int)=6:=rfl
def Zd {p:Addr} {k:Int} {j:Nat} {R:Hp->Prop} (h:H p=some (.lst xs)) (e:ixN xs.length k=some j) (q:R (upd H p (.lst (xs.set j v)))):zg6 (.ref p) (.int k) v H R:=⟨p,xs,k,j,rfl,rfl,h,e,q⟩
def Xv {k:Int} (h0:0<=k) (h1:k < n):ixN n k=some k.toNat:=by unfold ixN;rw [ap h0,ap h1]
def cx_K {K:A0} {outer:List Env} {H:Hp}:(Jp CX P w K mg base N qual scope f cd A outer s H E).K=K:=rfl
def cx_mg {K:A0} {outer:List Env} {H:Hp}:(Jp CX P w K mg base N qual scope f cd A outer s H E).mg=mg:=rfl
def cx_prog {K:A0} {outer:List Env} {H:Hp}:(Jp CX P w K mg base N qual scope f cd A outer s H E).prog=P:=rfl
def cx_w {K:A0} {outer:List Env} {H:Hp}:(Jp CX P w K mg base N qual scope f cd A outer s H E).w=w:=rfl
def cx_base {K:A0} {outer:List Env} {H:Hp}:(Jp CX P w K mg base N qual scope f cd A outer s H E).base=base:=rfl
def rd_cpow {n:Int}:zi3 10 n ↔ 0<=n/\n<=1000000:=⟨λ h=>⟨h.1,h.2.1⟩,λ h=>⟨h.1,h.2,by decide⟩⟩
def rd_isiI:zdF K [.int i,.ty "int"] H Q ↔ Q (.bl true) H:=by
 refine ⟨λ h=>?_,λ q=>⟨_,_,_,_,rfl,.old (.int i),.inl ⟨_,rfl,Q3⟩,q⟩⟩;obtain ⟨x,c,t,b,e,ty,k,q⟩:=h;cases e;rcases k with ⟨u,hu,k⟩|⟨_,_,_,e,_⟩
 ·cases hu;cases ty with|old ty=>cases ty;rw [Q3] at k;cases k;exact q
 ·cases e
def rd_isiIB:zdF K [.int i,.ty "bool"] H Q ↔ Q (.bl false) H:=by
 refine ⟨λ h=>?_,λ q=>⟨_,_,_,_,rfl,.old (.int i),.inl ⟨_,rfl,Qa⟩,q⟩⟩;obtain ⟨x,c,t,b,e,ty,k,q⟩:=h;cases e;rcases k with ⟨u,hu,k⟩|⟨_,_,_,e,_⟩
 ·cases hu;cases ty with|old ty=>cases ty;rw [Qa] at k;cases k;exact q
 ·cases e
def rd_isiB {i:Bool}:zdF K [.bl i,.ty "bool"] H Q ↔ Q (.bl true) H:=by
 refine ⟨λ h=>?_,λ q=>⟨_,_,_,_,rfl,.old (.bl i),.inl ⟨_,rfl,Zs⟩,q⟩⟩;obtain ⟨x,c,t,b,e,ty,k,q⟩:=h;cases e;rcases k with ⟨u,hu,k⟩|⟨_,_,_,e,_⟩
 ·cases hu;cases ty with|old ty=>cases ty;rw [Zs] at k;cases k;exact q
 ·cases e
def rd_isiS {i:Str}:zdF K [.str i,.ty "str"] H Q ↔ Q (.bl true) H:=by
 refine ⟨λ h=>?_,λ q=>⟨_,_,_,_,rfl,.old (.str i),.inl ⟨_,rfl,Q2⟩,q⟩⟩;obtain ⟨x,c,t,b,e,ty,k,q⟩:=h;cases e;rcases k with ⟨u,hu,k⟩|⟨_,_,_,e,_⟩
 ·cases hu;cases ty with|old ty=>cases ty;rw [Q2] at k;cases k;exact q
 ·cases e
def zcQ {a C:Addr} {c:V} {u:Am} {b:Bool} (h:H a=some (zcf a (.ref C))) (f:XI K C) (hu:zgK c=some u) (k:kitOne K (.ref C) u=some b) (q:Q (.bl b) H):zdF K [.ref a,c] H Q :=
 ⟨_,_,_,_,rfl,.exc h f,.inl ⟨u,hu,k⟩,q⟩
def Vo {a b:Addr} {xs ys:Ap} (h1:SqL K H a xs) (h2:SqL K H b ys) (hl:xs.length + ys.length<=sizeLine) (q:∀ p,H p=none->Q (.ref p) (upd H p (.lst (xs ++ ys)))):zaE K (.ref a) (.ref b) H Q :=
 show zeM K _ _ H Q from ⟨a,b,xs,ys,rfl,rfl,h1,h2,hl,q⟩
def Zb (h:n<=1000):n<=sizeLine:=bM (zm h)
def qH {a:Addr} {DN:St->Hp->Prop} {B:(St->Hp->Prop)->V->St->Hp->Prop} (Pv:Nat->St->Hp->Prop) (h0:Pv 0 σ H) (hl:∀ i σ H,i<=xs.length->Pv i σ H->SqL K H a xs)
  (hs:∀ i x σ H,xs[i]?=some x->Pv i σ H->B (Pv (i + 1)) x σ H) (hd:∀ σ H,Pv xs.length σ H->DN σ H) :
  ∃ W:Nat->Nat->St->Hp->Prop,(∃ m,W 0 m σ H)/\∀ i m σ H,W i m σ H ->
   ((Itl K a).stop i H/\DN σ H)\/((Itl K a).go i H/\∃ N:St->Hp->Prop,(∀ σ' H',N σ' H'->∃ m',m' < m/\W (i + 1) m' σ' H')/\∀ x H',(Itl K a).yld i H x H'->B N x σ H'):=by
 refine ⟨λ i m σ H=>m=xs.length - i/\i<=xs.length/\Pv i σ H,⟨xs.length,by simp,cx _,h0⟩,?_⟩;rintro i m σ H ⟨rfl,hi,p⟩;have q:=hl i σ H hi p;by_cases hlt:i < xs.length
 ·refine .inr ⟨⟨xs,xs[i],q,by simp [hlt]⟩,Pv (i + 1),λ σ' H' p'=>⟨xs.length - (i + 1),by omega,rfl,hlt,p'⟩,λ x H' y=>?_⟩;obtain ⟨e,y⟩:=y;subst e;exact hs i x σ _ (y xs q) p
 ·have e:i=xs.length:=by omega
  subst e;exact .inl ⟨⟨xs,q,av _⟩,hd σ H p⟩
def vS {lo:Int} {DN:St->Hp->Prop} {B:(St->Hp->Prop)->V->St->Hp->Prop} (Pv:Nat->St->Hp->Prop) (h0:Pv 0 σ H)
  (hs:∀ i σ H,i < n->Pv i σ H->B (Pv (i + 1)) (.int (lo + i)) σ H) (hd:∀ σ H,Pv n σ H->DN σ H) :
  ∃ W:Nat->Nat->St->Hp->Prop,(∃ m,W 0 m σ H)/\∀ i m σ H,W i m σ H ->
   ((Itr lo n).stop i H/\DN σ H)\/((Itr lo n).go i H/\∃ N:St->Hp->Prop,(∀ σ' H',N σ' H'->∃ m',m' < m/\W (i + 1) m' σ' H')/\∀ x H',(Itr lo n).yld i H x H'->B N x σ H'):=by
 refine ⟨λ i m σ H=>m=n - i/\i<=n/\Pv i σ H,⟨n,by simp,cx _,h0⟩,?_⟩;rintro i m σ H ⟨rfl,hi,p⟩;by_cases hlt:i < n
 ·refine .inr ⟨hlt,Pv (i + 1),λ σ' H' p'=>⟨n - (i + 1),by omega,rfl,hlt,p'⟩,λ x H' y=>?_⟩;obtain ⟨e,y⟩:=y;subst e y;exact hs i σ _ hlt p
 ·have e:i=n:=by omega
  subst e;exact .inl ⟨av _,hd σ H p⟩
def zgI {p q:Addr} {ns:A6} (hne:p≠q) (h1:SqL K H p (ns.map V.int)) (h2:SqL K H q (ns.map V.int)):DE K H (n + 1) (.ref p) (.ref q) true:=by
 have:=DE.lists (n:=n) (e:=λ _=>true) hne h1 h2 rfl (λ j x y hx hy=>by
  rw [hx] at hy;cases hy;rw [ak,am] at hx;obtain ⟨m,_,rfl⟩:=hx;have z:DE K H n (.int m) (.int m) (eqV (.int m) (.int m)):=.flat rfl rfl;rw [show eqV (V.int m) (V.int m)=true by simp [eqV]] at z;exact z)
 rw [bS.mpr (λ _ _=>rfl)] at this;exact this
def zhu {a b:Addr} (h1:SqL K H a xs) (h2:SqL K H b xs) (hf:xs.all wK=true) (hs:xn xs xs=true) (q:Q (.bl true) H):Vp K (.ref a) (.ref b) H Q :=
 .inr (.inl ⟨a,b,xs,xs,rfl,rfl,.inl ⟨h1,h2⟩,hf,hf,by rw [hs];exact q⟩)
def zbN {a:Addr} {lo hi:A9} (h:SqL K H a xs) (q:∀ p,H p=none->Q (.ref p) (upd H p (.lst (XB xs lo hi)))):zhv K (.ref a) lo hi H Q:=⟨a,xs,rfl,h,q⟩
def upd_keep {a b:Addr} {o u:HO} (h:H b=some u) (ha:H a=none):upd H a o b=some u:=by rw [nu (nz h ha)];exact h
def nA:=@upd_keep
def zg {a:Addr} {o:HO} (ha:H a=none):Same H (upd H a o):=λ _ _ h=>nA h ha
def rd_ixT {a:Addr} (h:H a=some (.tup xs)) (e:atI xs i=some v) (q:Q v H):rIx K (.ref a) (.int i) H Q:=.inr (.inl ⟨a,xs,i,v,rfl,rfl,SqT.of h,e,q⟩)
def nB:=@rd_ixT
def zq {a:Addr} (h:SqL K H a xs) (e:atI xs i=some v) (q:Q v H):rIx K (.ref a) (.int i) H Q:=.inl ⟨a,xs,i,v,rfl,rfl,h,e,q⟩
def zix {N0:St->Hp->Prop} {B:(St->Hp->Prop)->Prop} (h:B N0):∃ N:St->Hp->Prop,(∀ σ' H',N σ' H'->N0 σ' H')/\B N:=⟨N0,λ _ _ h=>h,h⟩
end
end L2
set_option hygiene false
local macro_rules | `(tactic| walk_at "v")=>`(tactic| exact ⟨rfl,by first|exact Or.inl rfl|exact Or.inr (Or.inl rfl)|exact Or.inr (Or.inr rfl),by decide,by decide⟩)
local macro_rules | `(tactic| walk_at "f") => do
 let a ← ("L2.start L2.tDNewT L2.sDPut L2.tDIn L2.tDGet L2.tSIn L2.tSGet L2.sSPut L2.tSNew L2.tB L2.rd_mc L2.rd_mn bF fz eP List.nil_append L2.tSeq L2.tAsg L2.gName L2.tC L2.tOp L2.tUn L2.tTest L2.tIfS L2.tRet L2.tNext L2.tDrop L2.tNot L2.tAnd L2.tOr L2.tAndV L2.tOrV L2.tNotV L2.tCons L2.tNil L2.tTup L2.tLst L2.tBi L2.tBl L2.tVar ↓L2.rd_vq L2.rd_vq ↓L2.rd_iq L2.rd_iq ↓L2.rd_bq L2.rd_bq ↓L2.rd_nq L2.rd_nq ↓L2.rd_lq L2.rd_lq ↓L2.rd_itT L2.rd_itT ↓L2.rd_itF L2.rd_itF ↓L2.rd_is0 L2.rd_is0 ↓L2.rd_is1 L2.rd_is1 ↓L2.rd_is2 L2.rd_is2 ↓L2.rd_in0 L2.rd_in0 ↓L2.rd_in1 L2.rd_in1 ↓L2.rd_in2 L2.rd_in2 L2.rI L2.rI0 L2.rU L2.rT L2.ipI L2.tTru L2.rd_trB L2.rd_trI L2.rd_trR L2.rd_trS L2.tAug L2.rd_addI L2.rd_addS L2.rd_eqI L2.rd_neI L2.rd_eqS L2.rd_eqB L2.rd_eTI L2.rd_eTS L2.rd_eTB L2.rd_eTR L2.rd_nTI L2.rd_nTR L2.rd_nTS L2.rd_nTB L2.rd_fvI L2.rd_strS L2.rd_sz0 L2.rd_sz1 L2.rd_sz2 L2.rd_sz3 L2.rd_sz4 L2.rd_sz5 L2.rd_sz6 L2.rd_sz7 L2.gSub L2.tBreak L2.rd_sz8 L2.rd_sz9 L2.cx_K L2.cx_mg L2.cx_prog L2.cx_w L2.cx_base L2.gTup L2.gCons L2.gNil L2.tCl L2.tGl L2.tChain L2.tRaise L2.tTryAs L2.sFld L2.tFld L2.tMk L2.tMth L2.tBM L2.tSl L2.tNoPart L2.tPart L2.tClN L2.tMkN L2.tMthN L2.tBase L2.tYes L2.tRg1 L2.tIf L2.cxC_K L2.cxC_mg L2.cxC_prog L2.cxC_w L2.cxC_base eq_self reduceCtorEq decide_false aJ dY List.getElem?_cons_zero List.getElem?_cons_succ List.set_cons_zero List.set_cons_succ List.replicate Nat.reduceSub Nat.reduceAdd true_and and_true L2.rd_cpow Int.reduceToNat Int.reducePow Int.reduceLT Int.reduceLE Int.reduceNeg L2.fdiv_pos L2.rd_isiI L2.rd_isiIB L2.rd_isiB L2.rd_isiS eV Bool.not_false cV reduceIte decide_true cY Bool.true_eq_false Bool.not_eq_true' decide_eq_false_iff_not L2.rd_c0 L2.rd_c1 L2.rd_c2 L2.rd_c3 L2.rd_c4 L2.rd_c5 L2.rd_c6 Int.reduceEq not_true_eq_false not_false_eq_true Int.reduceMul Int.reduceAdd Int.reduceSub".splitOn " ").toArray.mapM fun s=>if s.front == '↓' then `(Lean.Parser.Tactic.simpLemma| ↓$(Lean.mkIdent (s.drop 1).toString.toName):term) else `(Lean.Parser.Tactic.simpLemma| $(Lean.mkIdent s.toName):term)
 `(tactic| (simp only [$a,*]))
local macro_rules | `(tactic| walk_at "r")=>`(tactic| try walk_at "f")
local macro_rules | `(tactic| walk_at "m")=>`(tactic| (refine L2.rd_ixT (by assumption) rfl ?_;try walk_at "f"))
local macro_rules | `(tactic| walk_at "h")=>`(tactic| first|assumption|exact L2.mul_okR (by decide) (by decide)|exact L2.mul_okL (by decide) (by decide)|exact L2.mul_okR (by omega) (by omega)|exact L2.mul_okL (by omega) (by omega)|exact L2.fd_ok (by decide) (by decide +kernel)|decide|omega|exact L2.fd_small (by omega) (by omega))
local macro_rules | `(tactic| walk_at "n")=>`(tactic| repeat (refine And.intro (by walk_at "h") ?_))
local macro_rules | `(tactic| walk_at "d")=>`(tactic| (walk_at "a";(try simp only [L2.tFor,L2.iSeq,L2.iRng1,L2.iRng3,L2.iEnum,L2.iZip]);try walk_at "f"))
local macro_rules | `(tactic| walk_at "e")=>`(tactic| (walk_at "a";(try simp only [L2.tLc,L2.iSeq,L2.stC,L2.iRng1,L2.iRng3,L2.iEnum,L2.iZip]);try walk_at "f"))
local macro_rules | `(tactic| walk_at "a")=>`(tactic| repeat (first|walk_at "f" | refine And.intro (by assumption) ?_|refine L2.nxt λ Nq_ hNq_=>?_|refine L2.useN (by assumption) ?_))
local macro_rules | `(tactic| walk_at "l")=>`(tactic| first|assumption|exact aX (by assumption)|exact L2.ne_of_none (by assumption) (by assumption)|exact aX (L2.ne_of_none (by assumption) (by assumption)))
local macro_rules | `(tactic| walk_at "g")=>`(tactic| first|assumption|exact L2.upd_same|(refine L2.upd_keep ?_ (by assumption);walk_at "g")|(rw [L2.upd_ne (by walk_at "l")];walk_at "g"))
set_option hygiene false
local macro_rules | `(tactic| walk_at "i")=>`(tactic| (intro vs H Q E h;first|(cases h;subst_vars;rfl)|repeat (first|(obtain ⟨rfl,_⟩:=h;rfl)|obtain ⟨_,h⟩:=h)))
local macro_rules | `(tactic| walk_at "j")=>`(tactic| intro cdv A outer s H vs Q EX hr h)
local macro_rules | `(tactic| walk_at "k")=>`(tactic| intro cdv A outer s H vs Q E hr h)
seal L2.PE L2.PT L2.PA L2.PS L2.PSs L2.PC L2.PG L2.PGs L2.PI L2.PO L2.PK
namespace K42
open PySem L2 Mine
variable {H:Hp} {p:A5} {bs:A1} {v:V} {i k n j:Nat} {vs:Ap} {b C l:Addr} {K:A0} {fs:Ar} {L:Int} {o:HO} {ns:A6} {ps:A8} {wd:Wd}
noncomputable def top (i:Nat):Stmt:=PySem.Challenge.pw_beltshares_k42_whole_still_for_ever.main.body.getD i (.Pass ⟨0,0,0,0⟩)
local macro_rules | `(tactic| walk_at "c")=>`(tactic| exact ⟨rfl,rfl,rfl,by decide +kernel,rfl,by decide +kernel,by decide +kernel⟩)
noncomputable abbrev wc:Stmt:=zN (top 11) 0
def Vl:FnScope ["self","room","pace"] ["self","room","pace"] (zd wc):=by walk_at "c"
noncomputable abbrev wX:Stmt:=top 16
def XW:FnScope ["pace","least"] ["pace","least"] (zd wX):=by walk_at "c"
noncomputable abbrev wY:Stmt:=top 17
def XX:FnScope ["kind"] ["kind"] (zd wY):=by walk_at "c"
noncomputable abbrev wV:Stmt:=top 18
def XU:FnScope ["belts"] ["belts"] (zd wV):=by walk_at "c"
noncomputable abbrev wz:Stmt:=top 19
def JP:FnScope ["wanted","side","step","place"] ["wanted","side"] (zd wz):=by walk_at "c"
noncomputable abbrev jN:Stmt:=top 20
def ZW:FnScope ["head","free","side"] ["head","free","side"] (zd jN):=by walk_at "c"
noncomputable abbrev ja:Stmt:=zN (top 21) 0
def Vk:FnScope ["self","ins","outs"] ["self","ins","outs"] (zd ja):=by walk_at "c"
noncomputable abbrev jT:Stmt:=zN (top 22) 0
def JS:FnScope ["self","out","pace","kinds","kind"] ["self","out","pace","kinds"] (zd jT):=by walk_at "c"
noncomputable abbrev xf:Stmt:=zN (top 22) 1
def Qt:FnScope ["self","heads","free","turn","side"] ["self","heads","free","turn","side"] (zd xf):=by walk_at "c"
noncomputable abbrev j9:Stmt:=zN (top 22) 2
def Qs:FnScope ["self"] ["self"] (zd j9):=by walk_at "c"
noncomputable abbrev xt:Stmt:=zN (top 23) 0
def X0:FnScope ["self","into","pace"] ["self","into","pace"] (zd xt):=by walk_at "c"
noncomputable abbrev xO:Stmt:=zN (top 23) 1
def Jg:FnScope ["self","heads","free","turn","side"] ["self","heads","free","turn","side"] (zd xO):=by walk_at "c"
noncomputable abbrev xM:Stmt:=zN (top 23) 2
def Jf:FnScope ["self"] ["self"] (zd xM):=by walk_at "c"
noncomputable abbrev jU:Stmt:=zN (top 24) 0
def JT:FnScope ["self","into","outs"] ["self","into","outs"] (zd jU):=by walk_at "c"
noncomputable abbrev xi:Stmt:=zN (top 24) 1
def Qv:FnScope ["self","heads","free","turn","side","place"] ["self","heads","free","turn","side"] (zd xi):=by walk_at "c"
noncomputable abbrev xh:Stmt:=zN (top 24) 2
def Qu:FnScope ["self"] ["self"] (zd xh):=by walk_at "c"
noncomputable abbrev qL:Stmt:=zN (top 25) 0
def Zn:FnScope ["self","into","outs"] ["self","into","outs"] (zd qL):=by walk_at "c"
noncomputable abbrev jc:Stmt:=zN (top 25) 1
def vt:FnScope ["self","heads","free","turn","side","place"] ["self","heads","free","turn","side"] (zd jc):=by walk_at "c"
noncomputable abbrev jb:Stmt:=zN (top 25) 2
def vp:FnScope ["self"] ["self"] (zd jb):=by walk_at "c"
noncomputable abbrev xr:Stmt:=zN (top 26) 0
def XZ:FnScope ["self","into","outs","kind"] ["self","into","outs","kind"] (zd xr):=by walk_at "c"
noncomputable abbrev xJ:Stmt:=zN (top 26) 1
def Jd:FnScope ["self","heads","free","turn","side","place"] ["self","heads","free","turn","side"] (zd xJ):=by walk_at "c"
noncomputable abbrev jG:Stmt:=zN (top 26) 2
def ZG:FnScope ["self","kind"] ["self","kind"] (zd jG):=by walk_at "c"
noncomputable abbrev xI:Stmt:=zN (top 26) 3
def Jc:FnScope ["self"] ["self"] (zd xI):=by walk_at "c"
noncomputable abbrev jV:Stmt:=zN (top 27) 0
def JU:FnScope ["self","ins","out"] ["self","ins","out"] (zd jV):=by walk_at "c"
noncomputable abbrev ju:Stmt:=zN (top 27) 1
def Qx:FnScope ["self","heads","free","turn","side","place"] ["self","heads","free","turn","side"] (zd ju):=by walk_at "c"
noncomputable abbrev xj:Stmt:=zN (top 27) 2
def Qw:FnScope ["self"] ["self"] (zd xj):=by walk_at "c"
noncomputable abbrev jm:Stmt:=zN (top 29) 0
def XY:FnScope ["self","turn","cells","sides","gone"] ["self","turn","cells","sides","gone"] (zd jm):=by walk_at "c"
noncomputable abbrev Qz:Stmt:=top 30
def zbA:FnScope ["work","ware","kinds"] ["work","ware"] (zd Qz):=by walk_at "c"
noncomputable abbrev vD:Stmt:=top 31
def Vf:FnScope ["knot"] ["knot"] (zd vD):=by walk_at "c"
noncomputable abbrev js:Stmt:=top 32
def JQ:FnScope ["work","cells","sides"] ["work"] (zd js):=by walk_at "c"
noncomputable abbrev xH:Stmt:=top 33
def Ja:FnScope ["state"] ["state"] (zd xH):=by walk_at "c"
noncomputable abbrev wT:Stmt:=top 35
def zat:FnScope ["work","cells"] ["work","cells"] (zd wT):=by walk_at "c"
noncomputable abbrev wU:Stmt:=top 36
def XT:FnScope ["work","state","number"] ["work","state","number"] (zd wU):=by walk_at "c"
noncomputable abbrev xF:Stmt:=top 37
def zap:FnScope ["work","state","beat_place","kinds","places"] ["work","state"] (zd xF):=by walk_at "c"
noncomputable abbrev xG:Stmt:=top 39
def zau:FnScope ["work","state","knot","ends"] ["work","state","knot"] (zd xG):=by walk_at "c"
noncomputable abbrev wQ:Stmt:=top 40
def XO:FnScope ["state","number","from_belt","ware"] ["state","number","from_belt"] (zd wQ):=by walk_at "c"
noncomputable abbrev QA:Stmt:=top 41
def zbB:FnScope ["belts","place"] ["belts","place"] (zd QA):=by walk_at "c"
noncomputable abbrev j7:Stmt:=top 42
def Qq:FnScope ["knot","chosen"] ["knot","chosen"] (zd j7):=by walk_at "c"
noncomputable abbrev zay:Stmt:=top 43
def zhr:FnScope ["work","state","number","knot","free","chosen","from_belt","to_belt","ware"] ["work","state","number"] (zd zay):=by walk_at "c"
noncomputable abbrev QB:Stmt:=top 44
def zbC:FnScope ["work","state","moves","number","move"] ["work","state"] (zd QB):=by walk_at "c"
noncomputable abbrev vE:Stmt:=top 45
def Vg:FnScope ["cells","place"] ["cells"] (zd vE):=by walk_at "c"
noncomputable abbrev x6:Stmt:=top 46
def Vd:FnScope ["work","state","moves","number","belt"] ["work","state"] (zd x6):=by walk_at "c"
noncomputable abbrev ZJ:Stmt:=top 47
def zar:FnScope ["work","state","after"] ["work","state"] (zd ZJ):=by walk_at "c"
noncomputable abbrev ZK:Stmt:=top 48
def zas:FnScope ["work","state"] ["work","state"] (zd ZK):=by walk_at "c"
noncomputable abbrev wR:Stmt:=top 50
def XR:FnScope ["work","limit","state","state_by_shape","turn","shape"] ["work","limit"] (zd wR):=by walk_at "c"
noncomputable abbrev jy:Stmt:=top 51
def zaq:FnScope ["work","limit","ends"] ["work","limit"] (zd jy):=by walk_at "c"
noncomputable abbrev x8:Stmt:=top 52
def Vh:FnScope ["before","after","growth","old","new"] ["before","after"] (zd x8):=by walk_at "c"
noncomputable abbrev wy:Stmt:=top 54
def JO:FnScope ["work","limit","ends","counts"] ["work","limit"] (zd wy):=by walk_at "c"
noncomputable abbrev qK:Stmt:=top 55
def XQ:FnScope ["work","limit","state"] ["work","limit"] (zd qK):=by walk_at "c"
noncomputable abbrev JV:Stmt:=top 57
def zdu:FnScope ["work","turns","state","turn"] ["work","turns"] (zd JV):=by walk_at "c"
noncomputable abbrev j8:Stmt:=top 59
def Qr:FnScope ["state","found","belt","cells","place","ware"] ["state"] (zd j8):=by walk_at "c"
noncomputable abbrev vC:Stmt:=top 60
def Ve:FnScope ["ware","lay","before"] ["ware","lay","before"] (zd vC):=by walk_at "c"
noncomputable abbrev xq:Stmt:=top 61
def XS:FnScope ["before","after","lay","origins","cells"] ["before","after"] (zd xq):=by walk_at "c"
noncomputable abbrev wZ:Stmt:=zN (top 62) 0
def zav:FnScope ["self","before","after"] ["self","before","after"] (zd wZ):=by walk_at "c"
noncomputable abbrev xK:Stmt:=zN (top 62) 1
def Je:FnScope ["self","origin","rounds","source","given"] ["self","origin","rounds"] (zd xK):=by walk_at "c"
noncomputable abbrev jO:Stmt:=zN (top 62) 2
def ZX:FnScope ["self","first","rounds","cell","left","origin"] ["self","first","rounds"] (zd jO):=by walk_at "c"
noncomputable abbrev qU:Stmt:=zN (top 62) 3
def ZI:FnScope ["self","rounds","cells","belt","old"] ["self","rounds"] (zd qU):=by walk_at "c"
noncomputable abbrev jn:Stmt:=zN (top 62) 4
def ZY:FnScope ["self","rounds","gone","old","more"] ["self","rounds"] (zd jn):=by walk_at "c"
noncomputable abbrev jH:Stmt:=zN (top 62) 5
def ZH:FnScope ["self","rounds","turn"] ["self","rounds"] (zd jH):=by walk_at "c"
noncomputable abbrev wS:Stmt:=top 63
def zeF:FnScope ["work","turns","limit","ends","lap","begin","state","turn"] ["work","turns","limit"] (zd wS):=by walk_at "c"
noncomputable abbrev Z0:Stmt:=top 65
def zdv:FnScope ["one","other","part","rest","left"] ["one","other"] (zd Z0):=by walk_at "c"
noncomputable abbrev Qy:Stmt:=top 66
def zbz:FnScope ["paces","number","pace"] ["paces"] (zd Qy):=by walk_at "c"
noncomputable abbrev qv:Stmt:=top 68
def Q9:FnScope ["work","limit","ends"] ["work","limit"] (zd qv):=by walk_at "c"
noncomputable abbrev wW:Stmt:=top 72
def XV:FnScope ["belts","knots"] ["belts","knots"] (zd wW):=by walk_at "c"
noncomputable abbrev jE:Stmt:=top 73
def ZF:FnScope ["named","size"] ["named","size"] (zd jE):=by walk_at "c"
noncomputable abbrev jC:Stmt:=zN (top 74) 0
def Vi:FnScope ["self","belts","knots","fed","taken","knot"] ["self","belts","knots"] (zd jC):=by walk_at "c"
noncomputable abbrev jS:Stmt:=zN (top 74) 3
def JR:FnScope ["self"] ["self"] (zd jS):=by walk_at "c"
noncomputable abbrev jF:Stmt:=zN (top 74) 4
def Jb:FnScope ["self"] ["self"] (zd jF):=by walk_at "c"
noncomputable abbrev x9:Stmt:=zN (top 74) 5
def Vj:FnScope ["self","paces","number","pace"] ["self"] (zd x9):=by walk_at "c"
noncomputable abbrev JZ:Stmt:=top 76
def zdz:FnScope ["_law_cells","_law_k"] ["_law_cells","_law_k"] (zd JZ):=by walk_at "c"
noncomputable abbrev JX:Stmt:=top 77
def zdx:FnScope ["_law_number","_law_prime","_law_many"] ["_law_number","_law_prime","_law_many"] (zd JX):=by walk_at "c"
noncomputable abbrev J0:Stmt:=top 78
def zdA:FnScope ["_law_number"] ["_law_number"] (zd J0):=by walk_at "c"
noncomputable abbrev QE:Stmt:=top 79
def zbF:FnScope ["_law_cells","_law_first","_law_other"] ["_law_cells"] (zd QE):=by walk_at "c"
noncomputable abbrev QD:Stmt:=top 80
def zbE:FnScope ["_law_number","_law_into","_law_outs","_law_kind","_law_pick"] ["_law_number","_law_into","_law_outs","_law_kind"] (zd QD):=by walk_at "c"
noncomputable abbrev QF:Stmt:=top 81
def zbG:FnScope ["_law_belts","_law_knots","_law_loose","_law_loop","_law_number","_law_kind","_law_at","_law_pick","_law_into","_law_outs"] ["_law_belts","_law_knots","_law_loose","_law_loop","_law_number","_law_kind"] (zd QF):=by walk_at "c"
noncomputable abbrev JW:Stmt:=top 82
def zdw:FnScope ["_law_cells","_law_top","_law_lead","_law_kinds_here","_law_belts","_law_first","_law_loose","_law_loop","_law_knots","_law_number","_law_at","_law_cut"] ["_law_cells","_law_top"] (zd JW):=by walk_at "c"
noncomputable abbrev QG:Stmt:=top 83
def zbH:FnScope ["_law_work_here","_law_limit","_law_told","_law_caught","e"] ["_law_work_here","_law_limit"] (zd QG):=by walk_at "c"
noncomputable abbrev Vm:Stmt:=top 84
def zeG:FnScope ["_law_cells","_law_far_here","_law_cell_here"] ["_law_cells"] (zd Vm):=by walk_at "c"
noncomputable abbrev JY:Stmt:=top 85
def zdy:FnScope ["_law_one","_law_other"] ["_law_one","_law_other"] (zd JY):=by walk_at "c"
noncomputable abbrev QC:Stmt:=top 86
def zbD:FnScope ["_law_work_here","_law_limit","_law_turn","_law_far_here","_law_state","_law_later","_law_knot","_law_ahead"] ["_law_work_here","_law_limit","_law_turn","_law_far_here"] (zd QC):=by walk_at "c"
noncomputable abbrev ZL:Stmt:=top 87
def zaw:FnScope ["_law_work_here","_law_limit","_law_counts","_law_far_here","_law_length","_law_one","_law_other","_law_k","_law_row","_law_j"] ["_law_work_here","_law_limit","_law_counts","_law_far_here","_law_length"] (zd ZL):=by walk_at "c"
noncomputable abbrev w6:Stmt:=top 88
def zax:FnScope ["_law_cells","_law_belts"] ["_law_cells"] (zd w6):=by walk_at "c"
noncomputable abbrev ZZ:Stmt:=top 89
def zhq:FnScope ["_law_script","_law_cells","_law_work_here","_law_limit","_law_told","_law_caught","_law_counts","_law_far_here","_law_length"] ["_law_script"] (zd ZZ):=by walk_at "c"
local macro_rules | `(tactic| walk_at "T")=>`(tactic| (have gJ:=T.gJ;have ka:=T.ka;have mC:=T.mC;have mq:=T.mq;have lY:=T.lY;have gM:=T.gM;have i6:=T.i6;have mQ:=T.mQ;have lJ:=T.lJ;have mD:=T.mD;have mR:=T.mR;have mS:=T.mS))
structure Ad where
 b:Addr
 c:Addr
 d:Addr
 e:Addr
 f:Addr
 g:Addr
 h:Addr
 i:Addr
 j:Addr
 k:Addr
 l:Addr
 m:Addr
 n:Addr
 o:Addr
 p:Addr
 q:Addr
 r:Addr
abbrev KOy (K:A0) (c d:Addr) (b:Bool):Prop:=kitOne K (.ref c) (.ref d)=some b
structure Txt (K:A0) (mg:A4) (a:Ad):Prop where
 kG:FA K mg "check_pace" wX ["pace","least"]
 kH:FA K mg "check_kind" wY ["kind"]
 kI:FA K mg "check_ways" wV ["belts"]
 kr:FA K mg "first_place" wz ["wanted","side"]
 iC:FA K mg "place_for_ware" jN ["head","free","side"]
 lZ:FA K mg "kind_of" Qz ["work","ware"]
 lj:FA K mg "no_counts" vD ["knot"]
 ku:FA K mg "empty_state" js ["work"]
 i8:FA K mg "copied_state" xH ["state"]
 lO:FA K mg "kinds_in" wT ["work","cells"]
 kJ:FA K mg "kind_place" wU ["work","state","number"]
 lP:FA K mg "shape_of" xF ["work","state"]
 lQ:FA K mg "heads_of" xG ["work","state","knot"]
 kK:FA K mg "taken_ware" wQ ["state","number","from_belt"]
 l5:FA K mg "belt_at" QA ["belts","place"]
 iN:FA K mg "counted_place" j7 ["knot","chosen"]
 mV:FA K mg "act" zay ["work","state","number"]
 l7:FA K mg "act_all" QB ["work","state"]
 ll:FA K mg "move_belt" vE ["cells"]
 ly:FA K mg "pass_turn" x6 ["work","state"]
 lS:FA K mg "one_turn" ZJ ["work","state"]
 lT:FA K mg "moves_of" ZK ["work","state"]
 kM:FA K mg "round_ends" wR ["work","limit"]
 lU:FD K mg "round_of" jy ["work","limit"] [.int 200]
 lz:FA K mg "growth_of" x8 ["before","after"]
 kx:FA K mg "still_state" wy ["work","limit"]
 kN:FD K mg "still_from" qK ["work","limit"] [.int 200]
 mr:FA K mg "played" JV ["work","turns"]
 iO:FA K mg "cells_by_ware" j8 ["state"]
 lA:FA K mg "origin_of" vC ["ware","lay","before"]
 kO:FA K mg "origins_of" xq ["before","after"]
 mJ:FD K mg "leapt" wS ["work","turns","limit"] [.int 200]
 mt:FA K mg "common" Z0 ["one","other"]
 l8:FA K mg "lasting" Qy ["paces"]
 i9:FD K mg "round_counts" qv ["work","limit"] [.int 200]
 kP:FA K mg "check_size" wW ["belts","knots"]
 ix:FA K mg "check_each_once" jE ["named","size"]
 mv:FA K mg "_law_cell" JZ ["_law_cells","_law_k"]
 mw:FA K mg "_law_some" JX ["_law_number","_law_prime","_law_many"]
 my:FA K mg "_law_belt" J0 ["_law_number"]
 l9:FA K mg "_law_kinds" QE ["_law_cells"]
 ma:FA K mg "_law_split" QD ["_law_number","_law_into","_law_outs","_law_kind"]
 me:FA K mg "_law_grown" QF ["_law_belts","_law_knots","_law_loose","_law_loop","_law_number","_law_kind"]
 mz:FA K mg "_law_work" JW ["_law_cells","_law_top"]
 mf:FA K mg "_law_asked" QG ["_law_work_here","_law_limit"]
 mK:FA K mg "_law_far" Vm ["_law_cells"]
 mB:FA K mg "_law_same" JY ["_law_one","_law_other"]
 mh:FA K mg "_law_still" QC ["_law_work_here","_law_limit","_law_turn","_law_far_here"]
 lV:FA K mg "_law_moving" ZL ["_law_work_here","_law_limit","_law_counts","_law_far_here","_law_length"]
 lW:FA K mg "_law_closed" w6 ["_law_cells"]
 gJ:mg "len"=none
 ka:mg "range"=none
 mC:mg "list"=none
 mq:mg "max"=none
 lY:mg "tuple"=none
 gM:mg "isinstance"=none
 i6:mg "enumerate"=none
 mQ:mg "zip"=none
 lJ:mg "sorted"=none
 mD:mg "bool"=none
 mR:mg "int"=none
 mS:mg "any"=none
 lB:mg "WorkError"=some (.ref a.b)
 mi:mg "BadBelt"=some (.ref a.c)
 gZ:mg "BadKnot"=some (.ref a.d)
 kR:mg "BadWork"=some (.ref a.e)
 kS:mg "TooLong"=some (.ref a.f)
 mE:mg "Moving"=some (.ref a.g)
 mT:mg "Belt"=some (.ref a.h)
 lK:mg "Source"=some (.ref a.j)
 lh:mg "Drain"=some (.ref a.k)
 mF:mg "Parter"=some (.ref a.l)
 ky:mg "FirstParter"=some (.ref a.m)
 mL:mg "Sieve"=some (.ref a.n)
 lM:mg "Joiner"=some (.ref a.o)
 mM:mg "State"=some (.ref a.p)
 mW:mg "Lap"=some (.ref a.q)
 mU:mg "Work"=some (.ref a.r)
 ip:Cls K a.h
 ij:NoAttr K a.h "room"
 gW:NoAttr K a.h "pace"
 lC:FK K a.h "Belt.__init__" wc ["self","room","pace"]
 gu:FB K mg "Knot" "__init__" "Knot.__init__" ja ["self","ins","outs"]
 gy:Cls K a.j
 gH:NoAttr K a.j "pace"
 gD:NoAttr K a.j "kinds"
 iD:NoAttr K a.j "ins"
 gX:NoAttr K a.j "outs"
 mG:WI K a.j
 kz:FK K a.j "Source.__init__" jT ["self","out","pace","kinds"]
 iP:FM K a.j "choice" "Source.choice" xf ["self","heads","free","turn","side"]
 iQ:FM K a.j "copied" "Source.copied" j9 ["self"]
 gF:Cls K a.k
 gz:NoAttr K a.k "pace"
 ik:NoAttr K a.k "ins"
 iE:NoAttr K a.k "outs"
 mO:WI K a.k
 kT:FK K a.k "Drain.__init__" xt ["self","into","pace"]
 kb:FM K a.k "choice" "Drain.choice" xO ["self","heads","free","turn","side"]
 ke:FM K a.k "copied" "Drain.copied" xM ["self"]
 gP:Cls K a.l
 hW:NoAttr K a.l "ins"
 gI:NoAttr K a.l "outs"
 mH:WI K a.l
 kA:FK K a.l "Parter.__init__" jU ["self","into","outs"]
 iR:FM K a.l "choice" "Parter.choice" xi ["self","heads","free","turn","side"]
 iS:FM K a.l "copied" "Parter.copied" xh ["self"]
 gx:Cls K a.m
 gC:NoAttr K a.m "ins"
 gA:NoAttr K a.m "outs"
 kB:WI K a.m
 ir:FK K a.m "FirstParter.__init__" qL ["self","into","outs"]
 hX:FM K a.m "choice" "FirstParter.choice" jc ["self","heads","free","turn","side"]
 ia:FM K a.m "copied" "FirstParter.copied" jb ["self"]
 gG:Cls K a.n
 ib:NoAttr K a.n "kind"
 io:NoAttr K a.n "ins"
 ic:NoAttr K a.n "outs"
 mP:WI K a.n
 kU:FK K a.n "Sieve.__init__" xr ["self","into","outs","kind"]
 kg:FM K a.n "choice" "Sieve.choice" xJ ["self","heads","free","turn","side"]
 iy:FM K a.n "place_for" "Sieve.place_for" jG ["self","kind"]
 kh:FM K a.n "copied" "Sieve.copied" xI ["self"]
 gQ:Cls K a.o
 gR:NoAttr K a.o "ins"
 gY:NoAttr K a.o "outs"
 mI:WI K a.o
 kC:FK K a.o "Joiner.__init__" jV ["self","ins","out"]
 iT:FM K a.o "choice" "Joiner.choice" ju ["self","heads","free","turn","side"]
 iU:FM K a.o "copied" "Joiner.copied" xj ["self"]
 gd:Cls K a.p
 gg:NoAttr K a.p "turn"
 gf:NoAttr K a.p "cells"
 gk:NoAttr K a.p "sides"
 gi:NoAttr K a.p "gone"
 kX:FK K a.p "State.__init__" jm ["self","turn","cells","sides","gone"]
 gq:Cls K a.q
 gw:NoAttr K a.q "before"
 gS:NoAttr K a.q "length"
 iw:NoAttr K a.q "origins"
 ie:NoAttr K a.q "growth"
 lX:FK K a.q "Lap.__init__" wZ ["self","before","after"]
 ki:FM K a.q "new_ware" "Lap.new_ware" xK ["self","origin","rounds"]
 iF:FM K a.q "ware_after" "Lap.ware_after" jO ["self","first","rounds"]
 iz:FM K a.q "cells_after" "Lap.cells_after" qU ["self","rounds"]
 iG:FM K a.q "gone_after" "Lap.gone_after" jn ["self","rounds"]
 iA:FM K a.q "state_after" "Lap.state_after" jH ["self","rounds"]
 gm:Cls K a.r
 gU:NoAttr K a.r "belts"
 gj:NoAttr K a.r "knots"
 lD:FK K a.r "Work.__init__" jC ["self","belts","knots"]
 kD:FM K a.r "drains" "Work.drains" jS ["self"]
 kj:FM K a.r "sources" "Work.sources" jF ["self"]
 lE:FM K a.r "beat" "Work.beat" x9 ["self"]
 lF:∃ t,mg "MOST_ROOM"=some (.int 6 t)
 i7:∃ t,mg "MOST_PACE"=some (.int 4 t)
 kY:∃ t,mg "MOST_KINDS"=some (.int 6 t)
 kF:∃ t,mg "FEWEST_WAYS"=some (.int 2 t)
 lH:∃ t,mg "MOST_WAYS"=some (.int 4 t)
 kZ:∃ t,mg "MOST_BELTS"=some (.int 24 t)
 k8:∃ t,mg "MOST_KNOTS"=some (.int 24 t)
 mj:XC K a.c
 g6:XC K a.d
 mn:XC K a.f
 kq:XI K a.f
 k9:XC K a.e
 lI:subIn K (.ref a.b) (.type "BaseException")=some true
 ii:kitCls K (.ref a.f) (.ref a.b)=some true
 iH:KOy K a.j a.o false
 iV:KOy K a.k a.o false
 iI:KOy K a.l a.o false
 g9:KOy K a.m a.o false
 iW:KOy K a.n a.o false
 iJ:KOy K a.o a.o true
 iX:KOy K a.j a.k false
 km:KOy K a.k a.k true
 iY:KOy K a.l a.k false
 ig:KOy K a.m a.k false
 ko:KOy K a.n a.k false
 iZ:KOy K a.o a.k false
 iK:KOy K a.j a.j true
 i0:KOy K a.k a.j false
 iL:KOy K a.l a.j false
 hJ:KOy K a.m a.j false
 i5:KOy K a.n a.j false
 iM:KOy K a.o a.j false
 iu:KOy K a.f a.f true
 iB:KOy K a.f a.g false
section
variable {P:Af} {w:World} {K:A0} {mg:A4} {base:Heap} {a:Ad} {f:Addr} {fd:FuncData}
def at0 {α:Type} {x:α} {xs:List α}:atI (x :: xs) 0=some x:=by
 have:=zD (xs:=x :: xs) (j:=0) rfl;simpa using this
noncomputable def iv (ns:A6):List V:=ns.map V.int
noncomputable def kf (l1 l2:Addr):List (Str × V):=zQ "outs" (.ref l2) (zQ "ins" (.ref l1) [])
def zhR {l1 l2:Addr}:(kf l1 l2).lookup ("ins":Str)=some (.ref l1):=by
 unfold kf;rw [zB,ao (by decide +kernel),zB,ap rfl]
def zgz {l1 l2:Addr}:(kf l1 l2).lookup ("outs":Str)=some (.ref l2):=by
 unfold kf;rw [zB,ap rfl]
def zb3 {l1 l2:Addr}:(kf l1 l2).length < 1000:=by
 unfold kf;have:=wo "outs" (V.ref l2) (zQ "ins" (.ref l1) []);have:=wo "ins" (V.ref l1) [];simp at *;omega
def ziK {l1 l2:Addr} {m:Str} (h1:m≠"ins") (h2:m≠"outs"):(kf l1 l2).lookup m=none:=by
 unfold kf;rw [zB,ao h2,zB,ao h1];rfl
def Own (H H':Hp) (y:Addr):Prop:=∀ b o,b≠y->H b=some o->H' b=some o
def Same.own {H H':Hp} {y:Addr} (s:Same H H'):Own H H' y:=λ b o _ h=>s b o h
def Own.trans {H1 H2 H3:Hp} {y:Addr} (s:Own H1 H2 y) (t:Own H2 H3 y):Own H1 H3 y:=λ b o hb h=>t b o hb (s b o hb h)
def jv {y:Addr}:Own H (upd H y o) y:=λ b u hb h=>by rw [nu hb];exact h
def Own.of_new {H H':Hp} {y dx:Addr} {o p:HO} (hy:H y=none) (hd:H dx=none) (s:Own (upd (upd H dx o) y p) H' y):Same H H':=λ b u h =>
 s b u (nz h hy) (by rw [nu (nz h hy),nu (nz h hd)];exact h)
def qf {p b:Addr} (h:upd H p o b=none):H b=none:=by
 by_cases e:b=p
 ·subst e;rw [nk] at h;cases h
 ·rw [nu e] at h;exact h
def JJ (K:A0):Sp:=λ vs H Q _=>∃ (y C dx i o:Addr) (xs ys:Ap),vs=[.ref y,.ref i,.ref o]/\H y=some (.ins C dx [])/\Cls K C/\NoAttr K C "ins"/\NoAttr K C "outs"/\SqL K H i xs/\SqL K H o ys/\i≠y/\o≠y /\
 ∀ H' l1 l2,Own H H' y->H' y=some (.ins C dx (kf l1 l2))->H' l1=some (.lst xs)->H' l2=some (.lst ys)->H l1=none->H l2=none->Q .non H'
def zct {H H':Hp} {y l:Addr} {xs:Ap} (h:SqL K H l xs) (s:Own H H' y) (hl:l≠y):SqL K H' l xs:=by
 rcases h with h|h
 ·refine .inl ?_;rcases h with h|⟨ob,h⟩
  ·exact .inl (s _ _ hl h)
  ·exact .inr ⟨ob,s _ _ hl h⟩
 ·exact .inr h
def VD (T:Txt K mg a) (F:Fun K "__init__" "Knot.__init__" ja f fd):FnOk P w K mg base (CXr P w) 1 f fd ["self","ins","outs"] (JJ K):=by
 refine F.okx Vk ?_ ?_
 ·walk_at "i"
 walk_at "k";refine oE7 h λ y C dx i o xs ys m5=>oA6 m5 λ m7 hy hC hN1 hN2 n6=>oA5 n6 λ hi ho hiy hoy k=>?_;clear m5 n6 h;subst m7;walk_at "T";refine ⟨_,(zi (qR (pq 0) (vI Zj vn (za (pq 1) zc)) rfl)  (ze (qR (pq 0) (vI Zj vn (za (pq 2) zc)) rfl))),?_⟩;walk_at "a";refine iE2 i xs (iA3 rfl (.inl hi) (λ l1 h1=>?_));walk_at "a";have y1:y≠l1:=nz hy h1;refine iE4 y C dx ([]) (iA6 rfl (nA hy h1) hC hN1 (by decide) ?_);walk_at "a";have s1:Own H (upd (upd H l1 (.lst xs)) y (.ins C dx (zQ "ins" (.ref l1) []))) y:=(Same.own (zg h1)).trans jv;refine iE2 o ys (iA3 rfl (.inl (zct ho s1 hoy)) (λ l2 h2=>?_));walk_at "a";have y2:y≠l2:=nz nk h2;have l12:l1≠l2:=λ z=>by
  rw [<- z,nu (aX y1),nk] at h2;cases h2
 refine iE4 y C dx _ (iA6 rfl (nA nk h2) hC hN2 (by show 1 < 1000;decide) ?_);refine k _ l1 l2 (s1.trans ((Same.own (zg h2)).trans jv)) nk ?_ ?_ h1 ?_
 ·rw [nu (aX y1),nu l12,nu (aX y1),nk]
 ·rw [nu (aX y2),nk]
 ·rw [nu (aX y2),nu (aX l12)] at h2;exact h2
def gu (T:Txt K mg a):BCal P w K mg base "Knot" "__init__" 1 ["self","ins","outs"] [] (JJ K):=T.gu.cal (VD T)
def zal (K:A0) (a:Ad):Sp:=λ vs H Q E=>∃ (l:Addr) (xs:Ap),vs=[.ref l]/\SqL K H l xs/\if 2<=xs.length/\xs.length<=4 then Q .non H else E (.ref a.d) none H
def vm (T:Txt K mg a):Cal P w K mg base "check_ways" 1 ["belts"] [] (zal K a):=T.kI.cal λ F=>by
 refine F.okx XU ?_ ?_
 ·walk_at "i"
 walk_at "k";refine oE2 h λ l xs m5=>oA3 m5 λ m7 hl k=>?_;clear m5 h;subst m7;walk_at "T";refine ⟨_,(ze (zL (jP (jX xS xS wg (z7 qe qd (za (pq 0) zc)) wg))  (ze (je ⟨rfl,rfl,rfl⟩ rfl (za jI zc)))  zt)),?_⟩;walk_at "a";obtain ⟨t1,g1⟩:=T.kF;obtain ⟨t2,g2⟩:=T.lH;have bad:¬ (2<=xs.length/\xs.length<=4)->∃ C,mg "BadKnot"=some (Value.ref C)/\XC K C/\E (Value.ref C) none H:=λ h=>by
  rw [ao h] at k;exact ⟨a.d,iA3 T.gZ T.g6 k⟩
 refine iE2 (.int 2) _ (iA3 g1 ⟨_,rfl⟩ ?_);walk_at "a";refine ⟨_,.inl ⟨_,hl,rfl⟩,?_⟩;walk_at "r";refine zZ (λ h1=>?_) (λ h1=>bad (by omega));refine iE2 (.int 4) _ (iA3 g2 ⟨_,rfl⟩ ?_);walk_at "r";refine zZ (λ h2=>?_) (λ h2=>bad (by omega));rw [ap (by omega)] at k;exact k
def zan (a:Ad):Sp:=λ vs H Q E=>∃ p q:Int,vs=[.int p,.int q]/\if q<=p/\p<=4 then Q .non H else E (.ref a.d) none H
def Qh (T:Txt K mg a):Cal P w K mg base "check_pace" 1 ["pace","least"] [] (zan a):=T.kG.cal λ F=>by
 refine F.okx XW ?_ ?_
 ·walk_at "i"
 walk_at "k";refine oE2 h λ p q m5=>oA2 m5 λ m7 k=>?_;clear m5 h;subst m7;walk_at "T";refine ⟨_,(ze (zL (jP (jX xS xS (pq 1) (pq 0) wg))  (ze (je ⟨rfl,rfl,rfl⟩ rfl (za jI zc)))  zt)),?_⟩;walk_at "a";obtain ⟨t1,g1⟩:=T.i7;have bad:¬ (q<=p/\p<=4)->∃ C,mg "BadKnot"=some (Value.ref C)/\XC K C/\E (Value.ref C) none H:=λ h=>by
  rw [ao h] at k;exact ⟨a.d,iA3 T.gZ T.g6 k⟩
 refine zZ (λ h1=>?_) (λ h1=>bad (by omega));refine iE2 (.int 4) _ (iA3 g1 ⟨_,rfl⟩ ?_);walk_at "a";refine zZ (λ h2=>?_) (λ h2=>bad (by omega));rw [ap (by omega)] at k;walk_at "a";exact k
noncomputable abbrev jW:Int:=1000000000000000000000000000000
def zao (a:Ad):Sp:=λ vs H Q E=>∃ n:Int,vs=[.int n]/\if 0<=n/\n < jW then Q .non H else E (.ref a.d) none H
def Qi (T:Txt K mg a):Cal P w K mg base "check_kind" 1 ["kind"] [] (zao a):=T.kH.cal λ F=>by
 refine F.okx XX ?_ ?_
 ·walk_at "i"
 walk_at "k";obtain ⟨n,rfl,k⟩:=h;walk_at "T";refine ⟨_,(ze (zL (jP (jX xS zcD zf (pq 0) Vx))  (ze (je ⟨rfl,rfl,rfl⟩ rfl (za jI zc)))  zt)),?_⟩;walk_at "a";have bad:¬ (0<=n/\n < jW)->∃ C,mg "BadKnot"=some (Value.ref C)/\XC K C/\E (Value.ref C) none H:=λ h=>by
  rw [ao h] at k;exact ⟨a.d,iA3 T.gZ T.g6 k⟩
 refine zZ (λ h1=>?_) (λ h1=>bad (by omega));walk_at "a";refine zZ (λ h2=>?_) (λ h2=>bad (by unfold jW;omega));rw [ap (by unfold jW;omega)] at k;walk_at "a";exact k
noncomputable def VO (bs:Ai) (side:Nat):Nat->Nat->Option Nat
 | 0,_=>none
 | n + 1,k=>if bs.getD ((side + k) % bs.length) false=true then some ((side + k) % bs.length) else VO bs side n (k + 1)
noncomputable def jR (bs:Ai) (side:Nat):Option Nat:=VO bs side bs.length 0
noncomputable def Zo:Option Nat->V
 | none=>.non
 | some n=>.int n
theorem zcV {bs:Ai} {side:Nat} (h:0 < bs.length):∀ {n k p:Nat},VO bs side n k=some p->p < bs.length
 | 0,_,_,e=>by simp [VO] at e
 | n + 1,k,p,e=>by
  unfold VO at e
  split at e
  ·cases e;exact cT _ h
  ·exact zcV h e
def wL {bs:Ai} {side p:Nat} (e:jR bs side=some p):p < bs.length:=by
 by_cases h:0 < bs.length
 ·exact zcV h e
 ·unfold jR at e;rw [show bs.length=0 by omega] at e;simp [VO] at e
def WZ (K:A0):Sp:=λ vs H Q _=>∃ (l:Addr) (bs:Ai) (side:Nat),vs=[.ref l,.int side]/\SqL K H l (bs.map V.bl)/\bs.length<=1000/\Q (Zo (jR bs side)) H
theorem Zw (T:Txt K mg a):Cal P w K mg base "first_place" 1 ["wanted","side"] [] (WZ K):=T.kr.cal λ F=>by
 refine F.okx JP ?_ ?_
 ·walk_at "i"
 walk_at "k";obtain ⟨l,bs,side,rfl,hl,hb,k⟩:=h;walk_at "T";refine ⟨_,(zi (qt qI rfl (xP (za (z7 qe qd (za (pq 0) zc)) zc)) (qp 2 JP.nd)  (zi (zp 3 JP.nd (zG qT (zG qm (pq 1) (pq 2)) (z7 qe qd (za (pq 0) zc))))  (ze (zL (qO (zn (pq 0) (pq 3)) (λ _=>rfl))  (ze (zl (pq 3)))  zt))))  (ze (zl zE))),?_⟩;walk_at "d";walk_at "a";refine ⟨_,.inl ⟨_,hl,rfl⟩,by omega,by rw [af];omega,?_⟩;refine vS (λ i σ H'=>∃ v2 v3,σ=[some (.ref l),some (.int side),v2,v3]/\H'=H/\Q (Zo (VO bs side (bs.length - i) i)) H) ⟨_,_,rfl,rfl,k⟩ ?_ ?_
 ·rintro i σ H' hi ⟨v2,v3,rfl,rfl,k⟩;have hi:i < bs.length:=by simpa using hi
  walk_at "a";refine ⟨_,.inl ⟨_,hl,rfl⟩,?_⟩;walk_at "r";rw [af];refine And.intro (by omega) ?_;have e:((side:Int) + (0 + (i:Int))) % (bs.length:Int)=(((side + i) % bs.length:Nat):Int):=by push_cast;rw [cc]
  rw [e];have hlt:(side + i) % bs.length < bs.length:=cT _ (by omega);refine zq hl (zD (by rw [ak,ad hlt];rfl)) ?_;walk_at "r";have em:bs.length - i=(bs.length - (i + 1)) + 1:=by omega
  rw [em,VO] at k;have eg:bs.getD ((side + i) % bs.length) false=bs[(side + i) % bs.length]:=by simp [hlt]
  rw [eg] at k;cases hbb:bs[(side + i) % bs.length] with
  | true =>
   rw [hbb,ap rfl] at k;walk_at "r";exact k
  | false =>
   rw [hbb,ao (by decide)] at k;walk_at "r"
   first|exact ⟨_,_,rfl,rfl,k⟩|exact ⟨_,_,rfl,k⟩|exact k
 ·rintro σ H' ⟨v2,v3,rfl,rfl,k⟩;walk_at "r";simpa [VO,Zo] using k
def zbs (K:A0):Sp:=λ vs H Q _=>∃ (v:V) (l:Addr) (bs:Ai) (side:Nat),vs=[v,.ref l,.int side]/\SqL K H l (bs.map V.bl)/\bs.length<=1000/\Q (if v=.non then .non else Zo (jR bs side)) H
def wO (T:Txt K mg a):Cal P w K mg base "place_for_ware" 2 ["head","free","side"] [] (zbs K):=T.iC.cal λ F=>by
 refine F.okx ZW ?_ ?_
 ·walk_at "i"
 walk_at "k";refine oE4 h λ v l bs side m5=>oA4 m5 λ m7 hl hb k=>?_;clear m5 h;subst m7;walk_at "T";refine ⟨_,(ze (zl (xQ (zx jq (pq 0) zE (zy _)) zE (zw ⟨rfl,rfl,rfl⟩ hr (za (pq 1) (za (pq 2) zc)))))),?_⟩;walk_at "a";refine zZ (λ h=>?_) (λ h=>?_)
 ·rw [ap h] at k;walk_at "r";exact k
 ·rw [ao h] at k;walk_at "r";exact iE3 _ _ _ ⟨Zw T,⟨l,bs,side,rfl,hl,hb,k⟩⟩
def qJ (K:A0) (C CB:Addr):Sp:=λ vs H Q E=>∃ (y dx o:Addr) (into:V) (ys:Ap),vs=[.ref y,into,.ref o]/\H y=some (.ins C dx [])/\SqL K H o ys/\o≠y /\
 if 2<=ys.length/\ys.length<=4 then ∀ H' l1 l2,Own H H' y->H' y=some (.ins C dx (kf l1 l2))->H' l1=some (.lst [into])->H' l2=some (.lst ys)->H l1=none->H l2=none->Q .non H' else E (.ref CB) none H
def Xf (T:Txt K mg a) (F:Fun K "__init__" "Parter.__init__" jU f fd):FnOk P w K mg base (CXr P w) 2 f fd ["self","into","outs"] (qJ K a.l a.d):=by
 refine F.okx JT ?_ ?_
 ·walk_at "i"
 walk_at "k";refine oE5 h λ y dx o into ys m5=>oA5 m5 λ m7 hy ho hoy k=>?_;clear m5 h;subst m7;walk_at "T";refine ⟨_,(zi (zF (zw ⟨rfl,rfl,rfl⟩ hr (za (pq 2) zc)))  (ze (zF (Zf ⟨rfl,rfl,rfl⟩ hr (za (pq 0) (za (zK (za (pq 1) zc)) (za (pq 2) zc))))))),?_⟩;walk_at "a";refine iE3 _ _ _ ⟨vm T,⟨o,ys,rfl,ho,zZ (λ hok=>?_) (λ hok=>?_)⟩⟩
 ·rw [ap hok] at k;walk_at "a";refine iE3 _ _ _ ⟨gu T,λ p hp=>(iE7 y a.l dx p o ([into]) ys (iA6 rfl (nA hy hp) T.gP T.hW T.gI (iA5 (SqL.of nk) ((zg hp).seq ho) ((nz hy hp).symm) hoy (λ H' l1 l2 s h1 h2 h3 h4 h5=>?_))))⟩;exact k H' l1 l2 ((Same.own (zg hp)).trans s) h1 h2 h3 (qf h4) (qf h5)
 ·rw [ao hok] at k;exact k
def Qb (T:Txt K mg a):KCal P w K mg base "Parter" a.l 2 ["self","into","outs"] [] (qJ K a.l a.d):=T.kA.cal T.mF (Xf T)
def Zp (T:Txt K mg a) (F:Fun K "__init__" "FirstParter.__init__" qL f fd):FnOk P w K mg base (CXr P w) 2 f fd ["self","into","outs"] (qJ K a.m a.d):=by
 refine F.okx Zn ?_ ?_
 ·walk_at "i"
 walk_at "k";refine oE5 h λ y dx o into ys m5=>oA5 m5 λ m7 hy ho hoy k=>?_;clear m5 h;subst m7;walk_at "T";refine ⟨_,(zi (zF (zw ⟨rfl,rfl,rfl⟩ hr (za (pq 2) zc)))  (ze (zF (Zf ⟨rfl,rfl,rfl⟩ hr (za (pq 0) (za (zK (za (pq 1) zc)) (za (pq 2) zc))))))),?_⟩;walk_at "a";refine iE3 _ _ _ ⟨vm T,⟨o,ys,rfl,ho,zZ (λ hok=>?_) (λ hok=>?_)⟩⟩
 ·rw [ap hok] at k;walk_at "a";refine iE3 _ _ _ ⟨gu T,λ p hp=>(iE7 y a.m dx p o ([into]) ys (iA6 rfl (nA hy hp) T.gx T.gC T.gA (iA5 (SqL.of nk) ((zg hp).seq ho) ((nz hy hp).symm) hoy (λ H' l1 l2 s h1 h2 h3 h4 h5=>?_))))⟩;exact k H' l1 l2 ((Same.own (zg hp)).trans s) h1 h2 h3 (qf h4) (qf h5)
 ·rw [ao hok] at k;exact k
def Zt (T:Txt K mg a):KCal P w K mg base "FirstParter" a.m 2 ["self","into","outs"] [] (qJ K a.m a.d):=T.ir.cal T.ky (Zp T)
noncomputable def vf (l1 l2:Addr) (n:Int):List (Str × V):=zQ "kind" (.int n) (kf l1 l2)
def zfZ {l1 l2:Addr} {n:Int}:(vf l1 l2 n).lookup ("kind":Str)=some (.int n):=by
 unfold vf;rw [zB,ap rfl]
def zin {l1 l2:Addr} {n:Int} {m:Str} (h1:m≠"ins") (h2:m≠"outs") (h3:m≠"kind"):(vf l1 l2 n).lookup m=none:=by
 unfold vf;rw [zB,ao h3];exact ziK h1 h2
def vB (K:A0) (C CB:Addr):Sp:=λ vs H Q E=>∃ (y dx o:Addr) (into:V) (ys:Ap) (n:Int),vs=[.ref y,into,.ref o,.int n]/\H y=some (.ins C dx [])/\SqL K H o ys/\o≠y /\
 if ys.length=2/\0<=n/\n < jW then ∀ H' l1 l2,Own H H' y->H' y=some (.ins C dx (vf l1 l2 n))->H' l1=some (.lst [into])->H' l2=some (.lst ys)->H l1=none->H l2=none->Q .non H' else E (.ref CB) none H
def X3 (T:Txt K mg a) (F:Fun K "__init__" "Sieve.__init__" xr f fd):FnOk P w K mg base (CXr P w) 2 f fd ["self","into","outs","kind"] (vB K a.n a.d):=by
 refine F.okx XZ ?_ ?_
 ·walk_at "i"
 walk_at "k";refine oE6 h λ y dx o into ys n m5=>oA5 m5 λ m7 hy ho hoy k=>?_;clear m5 h;subst m7;walk_at "T";refine ⟨_,(zi (zL (zx (zaL hr.units1) (z7 qe qd (za (pq 2) zc)) zf (zy _))  (ze (je ⟨rfl,rfl,rfl⟩ rfl (za jI zc)))  zt)  (zi (zF (zw ⟨rfl,rfl,rfl⟩ hr (za (pq 3) zc)))  (zi (zF (Zf ⟨rfl,rfl,rfl⟩ hr (za (pq 0) (za (zK (za (pq 1) zc)) (za (pq 2) zc)))))  (ze (qR (pq 0) (pq 3) rfl))))),?_⟩;walk_at "a";refine ⟨_,.inl ⟨_,ho,rfl⟩,?_⟩;walk_at "a";refine zZ (λ h1=>?_) (λ h1=>?_)
 ·rw [ao (by omega)] at k;exact ⟨a.d,iA3 T.gZ T.g6 k⟩
 ·refine iE3 _ _ _ ⟨Qi T,⟨n,rfl,zZ (λ hok=>?_) (λ hok=>?_)⟩⟩
  ·rw [ap ⟨by omega,hok⟩] at k;walk_at "a";refine iE3 _ _ _ ⟨gu T,λ p hp=>(iE7 y a.n dx p o ([into]) ys (iA6 rfl (nA hy hp) T.gG T.io T.ic (iA5 (SqL.of nk) ((zg hp).seq ho) ((nz hy hp).symm) hoy (λ H' l1 l2 s h1 h2 h3 h4 h5=>?_))))⟩;walk_at "a";refine iE4 y a.n dx _ (iA6 rfl h1 T.gG T.ib zb3 ?_);exact k _ l1 l2 (((Same.own (zg hp)).trans s).trans jv) nk (by rw [nu (Z3 h2 h1 (by intro z;cases z))];exact h2) (by rw [nu (Z3 h3 h1 (by intro z;cases z))];exact h3) (qf h4) (qf h5)
  ·rw [ao (λ z=>hok z.2)] at k;exact k
def zcK (T:Txt K mg a):KCal P w K mg base "Sieve" a.n 2 ["self","into","outs","kind"] [] (vB K a.n a.d):=T.kU.cal T.mL (X3 T)
def jD (K:A0) (C CB:Addr):Sp:=λ vs H Q E=>∃ (y dx o:Addr) (out:V) (ys:Ap),vs=[.ref y,.ref o,out]/\H y=some (.ins C dx [])/\SqL K H o ys/\o≠y /\
 if 2<=ys.length/\ys.length<=4 then ∀ H' l1 l2,Own H H' y->H' y=some (.ins C dx (kf l1 l2))->H' l1=some (.lst ys)->H' l2=some (.lst [out])->H l1=none->H l2=none->Q .non H' else E (.ref CB) none H
def Xg (T:Txt K mg a) (F:Fun K "__init__" "Joiner.__init__" jV f fd):FnOk P w K mg base (CXr P w) 2 f fd ["self","ins","out"] (jD K a.o a.d):=by
 refine F.okx JU ?_ ?_
 ·walk_at "i"
 walk_at "k";refine oE5 h λ y dx o out ys m5=>oA5 m5 λ m7 hy ho hoy k=>?_;clear m5 h;subst m7;walk_at "T";refine ⟨_,(zi (zF (zw ⟨rfl,rfl,rfl⟩ hr (za (pq 1) zc)))  (ze (zF (Zf ⟨rfl,rfl,rfl⟩ hr (za (pq 0) (za (pq 1) (za (zK (za (pq 2) zc)) zc))))))),?_⟩;walk_at "a";refine iE3 _ _ _ ⟨vm T,⟨o,ys,rfl,ho,zZ (λ hok=>?_) (λ hok=>?_)⟩⟩
 ·rw [ap hok] at k;walk_at "a";refine iE3 _ _ _ ⟨gu T,λ p hp=>(iE7 y a.o dx o p ys ([out]) (iA6 rfl (nA hy hp) T.gQ T.gR T.gY (iA5 ((zg hp).seq ho) (SqL.of nk) hoy ((nz hy hp).symm) (λ H' l1 l2 s h1 h2 h3 h4 h5=>?_))))⟩;exact k H' l1 l2 ((Same.own (zg hp)).trans s) h1 h2 h3 (qf h4) (qf h5)
 ·rw [ao hok] at k;exact k
def Qc (T:Txt K mg a):KCal P w K mg base "Joiner" a.o 2 ["self","ins","out"] [] (jD K a.o a.d):=T.kC.cal T.lM (Xg T)
noncomputable def df (l1 l2:Addr) (p:Int):List (Str × V):=zQ "pace" (.int p) (kf l1 l2)
def VP {l1 l2:Addr} {p:Int}:(df l1 l2 p).lookup ("pace":Str)=some (.int p):=by
 unfold df;rw [zB,ap rfl]
theorem Z1 (f:Str) (v:V):∀ fs:List (Str × V),(zQ f v fs).length<=fs.length + 1
 | []=>by simp [zQ]
 | (g,x) :: r=>by
  unfold zQ
  split
  ·simp
  ·have:=Z1 f v r;simp;omega
def zgA {l1 l2:Addr}:(kf l1 l2).length<=2:=by
 unfold kf;have h1:=Z1 "outs" (V.ref l2) (zQ "ins" (.ref l1) []);have h2:=Z1 "ins" (V.ref l1) [];simp only [fz] at h2;omega
def zh6 {l1 l2:Addr} {p:Int}:(df l1 l2 p).length < 1000:=by
 unfold df;have h1:=Z1 "pace" (V.int p) (kf l1 l2);have h2:=zgA (l1:=l1) (l2:=l2);omega
def xZ (C CB:Addr):Sp:=λ vs H Q E=>∃ (y dx:Addr) (into:V) (p:Int),vs=[.ref y,into,.int p]/\H y=some (.ins C dx []) /\
 if 0<=p/\p<=4 then ∀ H' l1 l2,Own H H' y->H' y=some (.ins C dx (df l1 l2 p))->H' l1=some (.lst [into])->H' l2=some (.lst [])->H l1=none->H l2=none->Q .non H' else E (.ref CB) none H
def X4 (T:Txt K mg a) (F:Fun K "__init__" "Drain.__init__" xt f fd):FnOk P w K mg base (CXr P w) 2 f fd ["self","into","pace"] (xZ a.k a.d):=by
 refine F.okx X0 ?_ ?_
 ·walk_at "i"
 walk_at "k";refine oE4 h λ y dx into p m5=>oA3 m5 λ m7 hy k=>?_;clear m5 h;subst m7;walk_at "T";refine ⟨_,(zi (zF (zw ⟨rfl,rfl,rfl⟩ hr (za (pq 2) (za zf zc))))  (zi (zF (Zf ⟨rfl,rfl,rfl⟩ hr (za (pq 0) (za (zK (za (pq 1) zc)) (za (zK zc) zc)))))  (ze (qR (pq 0) (pq 2) rfl)))),?_⟩;walk_at "a";refine iE3 _ _ _ ⟨Qh T,⟨p,0,rfl,zZ (λ hok=>?_) (λ hok=>?_)⟩⟩
 ·rw [ap hok] at k;walk_at "a";refine iE3 _ _ _ ⟨gu T,λ q1 hq1 q2 hq2=>?_⟩;have n12:q1≠q2:=nz nk hq2;have hy2:=nA (o:=.lst []) (nA (o:=.lst [into]) hy hq1) hq2;refine iE7 y a.k dx q1 q2 ([into]) ([]) (iA6 rfl hy2 T.gF T.ik T.iE (iA5 (SqL.of (nA nk hq2)) (SqL.of nk) ((nz hy hq1).symm) ((nz (nA hy hq1) hq2).symm) (λ H' l1 l2 s h1 h2 h3 h4 h5=>?_)));walk_at "a";refine iE4 y a.k dx _ (iA6 rfl h1 T.gF T.gz zb3 ?_);exact k _ l1 l2 (((Same.own ((zg hq1).trans (zg hq2))).trans s).trans jv) nk (by rw [nu (Z3 h2 h1 (by intro z;cases z))];exact h2) (by rw [nu (Z3 h3 h1 (by intro z;cases z))];exact h3) (qf (qf h4)) (qf (qf h5))
 ·rw [ao hok] at k;exact k
def zcL (T:Txt K mg a):KCal P w K mg base "Drain" a.k 2 ["self","into","pace"] [] (xZ a.k a.d):=T.kT.cal T.lh (X4 T)
noncomputable def sf (l1 l2:Addr) (p:Int) (l3:Addr):List (Str × V):=zQ "kinds" (.ref l3) (df l1 l2 p)
def zf8 {l1 l2 l3:Addr} {p:Int}:(sf l1 l2 p l3).lookup ("pace":Str)=some (.int p):=by
 unfold sf;rw [zB,ao (by decide +kernel)];exact VP
def Qm (ks:A6):Prop:=∀ n∈ks,0<=n/\n < jW
def wP (K:A0) (C CB:Addr):Sp:=λ vs H Q E=>∃ (y dx l:Addr) (out:V) (p:Int) (ks:A6),vs=[.ref y,out,.int p,.ref l]/\H y=some (.ins C dx [])/\SqL K H l (ks.map V.int)/\l≠y /\
 ((1<=p/\p<=4/\1<=ks.length/\ks.length<=6/\Qm ks->∀ H' l1 l2 l3,Own H H' y->H' y=some (.ins C dx (sf l1 l2 p l3))->H' l1=some (.lst [])->H' l2=some (.lst [out])->H' l3=some (.lst (ks.map V.int))->H l1=none->H l2=none->H l3=none->Q .non H') /\
   (¬ (1<=p/\p<=4/\1<=ks.length/\ks.length<=6/\Qm ks)->E (.ref CB) none H))
def Xe (T:Txt K mg a) (F:Fun K "__init__" "Source.__init__" jT f fd):FnOk P w K mg base (CXr P w) 2 f fd ["self","out","pace","kinds"] (wP K a.j a.d):=by
 refine F.okx JS ?_ ?_
 ·walk_at "i"
 walk_at "k";refine oE6 h λ y dx l out p ks m5=>oA6 m5 λ m7 hy hl hly kok kbad=>?_;clear m5 h;subst m7;obtain ⟨t1,g1⟩:=T.kY;walk_at "T";refine ⟨_,(zi (zF (zw ⟨rfl,rfl,rfl⟩ hr (za (pq 2) (za zf zc))))  (zi (zL (jP (jX xS xS zf (z7 qe qd (za (pq 3) zc)) wg))  (ze (je ⟨rfl,rfl,rfl⟩ rfl (za jI zc)))  zt)  (zi (qt qI rfl (ql (pq 3)) (qp 4 JS.nd)  (ze (zF (zw ⟨rfl,rfl,rfl⟩ hr (za (pq 4) zc)))))  (zi (zF (Zf ⟨rfl,rfl,rfl⟩ hr (za (pq 0) (za (zK zc) (za (zK (za (pq 1) zc)) zc)))))  (zi (qR (pq 0) (pq 2) rfl)  (ze (qR (pq 0) (vI Zj vn (za (pq 3) zc)) rfl))))))),?_⟩;walk_at "a";refine iE3 _ _ _ ⟨Qh T,⟨p,1,rfl,zZ (λ hp=>?_) (λ hp=>kbad λ z=>hp ⟨z.1,z.2.1⟩)⟩⟩;walk_at "a";refine ⟨_,.inl ⟨_,hl,rfl⟩,?_⟩;rw [af];walk_at "a";have bad:¬ (1<=ks.length/\ks.length<=6)->∃ C,mg "BadKnot"=some (Value.ref C)/\XC K C/\E (Value.ref C) none H:=λ h=>⟨a.d,T.gZ,T.g6,kbad λ z=>h ⟨z.2.2.1,z.2.2.2.1⟩⟩;refine zZ (λ h1=>?_) (λ h1=>bad (by omega));refine iE2 (.int 6) _ (iA3 g1 ⟨_,rfl⟩ ?_);walk_at "a";refine zZ (λ h2=>?_) (λ h2=>bad (by omega));walk_at "d";refine ⟨l,rfl,.inl ⟨⟨_,hl⟩,?_⟩⟩;refine qH (K:=K) (a:=l) (xs:=ks.map V.int) (λ i σ H'=>∃ v4,σ=[some (.ref y),some out,some (.int p),some (.ref l),v4]/\H'=H/\Qm (ks.take i)) ⟨_,iA3 rfl rfl (λ _ h=>nomatch h)⟩ (λ i σ H' _ ⟨_,_,e,_⟩=>e ▸ hl) ?_ ?_
 ·intro i x σ H' hi m8;refine oE1 m8 λ v4 m5=>oA3 m5 λ m7 n6 hk=>?_;clear m5 m8;subst m7 n6;rw [ak,am] at hi;obtain ⟨n,hn,rfl⟩:=hi;walk_at "a";refine iE3 _ _ _ ⟨Qi T,⟨n,rfl,zZ (λ hok=>?_) (λ hok=>kbad λ z=>hok (z.2.2.2.2 n (ah hn)))⟩⟩;walk_at "a";have:Qm (ks.take (i + 1)):=λ m hm=>by
   rw [fW,hn] at hm;rcases aE.mp hm with z|z
   ·exact hk m z
   ·have e:m=n:=by simpa using z
    rw [e];exact hok
  first|exact ⟨_,rfl,rfl,this⟩|exact ⟨_,rfl,this⟩
 ·intro σ H' m8;refine oE1 m8 λ v4 m5=>oA3 m5 λ m7 n6 hk=>?_;clear m5 m8;subst m7 n6;rw [af,aN] at hk;have kok:=kok ⟨hp.1,hp.2,by omega,by omega,hk⟩;walk_at "a";refine iE3 _ _ _ ⟨gu T,λ q1 hq1 q2 hq2=>?_⟩;have hy2:=nA (o:=.lst [out]) (nA (o:=.lst []) hy hq1) hq2;have s12:Same H' (upd (upd H' q1 (.lst [])) q2 (.lst [out])):=(zg hq1).trans (zg hq2);refine iE7 y a.j dx q1 q2 ([]) ([out]) (iA6 rfl hy2 T.gy T.iD T.gX (iA5 (SqL.of (nA nk hq2)) (SqL.of nk) ((nz hy hq1).symm) ((nz (nA hy hq1) hq2).symm) (λ H2 l1 l2 s h1 h2 h3 h4 h5=>?_)));walk_at "a";refine iE4 y a.j dx _ (iA6 rfl h1 T.gy T.gH zb3 ?_);walk_at "a";have s3:Own H' (upd H2 y (.ins a.j dx (df l1 l2 p))) y:=((Same.own s12).trans s).trans jv;have h2':upd H2 y (.ins a.j dx (df l1 l2 p)) l1=some (.lst []):=by rw [nu (Z3 h2 h1 (by intro z;cases z))];exact h2
  have h3':upd H2 y (.ins a.j dx (df l1 l2 p)) l2=some (.lst [out]):=by rw [nu (Z3 h3 h1 (by intro z;cases z))];exact h3
  refine iE2 l _ (iA3 rfl (.inl (zct hl s3 hly)) (λ l3 hl3=>?_));walk_at "a";have hy3:upd (upd H2 y (.ins a.j dx (df l1 l2 p))) l3 (.lst (ks.map V.int)) y=some (.ins a.j dx (df l1 l2 p)):=nA nk hl3;refine iE4 y a.j dx _ (iA6 rfl hy3 T.gy T.gD zh6 ?_);have n1:l1≠y:=Z3 h2 h1 (by intro z;cases z);have n2:l2≠y:=Z3 h3 h1 (by intro z;cases z);have n3:l3≠y:=(nz (nk (H:=H2)) hl3).symm;refine kok _ l1 l2 l3 ((s3.trans (Same.own (zg hl3))).trans jv) nk ?_ ?_ ?_ (qf (qf h4)) (qf (qf h5)) ?_
  ·rw [nu n1];exact nA h2' hl3
  ·rw [nu n2];exact nA h3' hl3
  ·rw [nu n3];exact nk
  ·cases e:H' l3 with
   | none=>rfl
   | some o=>exact absurd (hl3.symm.trans (s3 l3 o n3 e)) (by intro z;cases z)
def Xu (T:Txt K mg a):KCal P w K mg base "Source" a.j 2 ["self","out","pace","kinds"] [] (wP K a.j a.d):=T.kz.cal T.lK (Xe T)
noncomputable def bf (rm pc:Int):List (Str × V):=zQ "pace" (.int pc) (zQ "room" (.int rm) [])
abbrev zz (rm pc:Int):Prop:=1<=rm/\rm<=6/\1<=pc/\pc<=4
def ZC (C CB:Addr):Sp:=λ vs H Q E=>∃ (y dx:Addr) (rm pc:Int),vs=[.ref y,.int rm,.int pc]/\H y=some (.ins C dx [])/\if zz rm pc then Q .non (upd H y (.ins C dx (bf rm pc))) else E (.ref CB) none H
def VE (T:Txt K mg a) (F:Fun K "__init__" "Belt.__init__" wc f fd):FnOk P w K mg base (CXr P w) 1 f fd ["self","room","pace"] (ZC a.h a.c):=by
 refine F.okx Vl ?_ ?_
 ·walk_at "i"
 walk_at "k";refine oE4 h λ y dx rm pc m5=>oA3 m5 λ m7 hy k=>?_;clear m5 h;subst m7;obtain ⟨t1,g1⟩:=T.lF;obtain ⟨t2,g2⟩:=T.i7;walk_at "T";refine ⟨_,(zi (zL (jP (jX xS xS zf (pq 1) wg))  (ze (je ⟨rfl,rfl,rfl⟩ rfl (za jI zc)))  zt)  (zi (zL (jP (jX xS xS zf (pq 2) wg))  (ze (je ⟨rfl,rfl,rfl⟩ rfl (za jI zc)))  zt)  (zi (qR (pq 0) (pq 1) rfl)  (ze (qR (pq 0) (pq 2) rfl))))),?_⟩;walk_at "a";have bad:¬ zz rm pc->∃ C,mg "BadBelt"=some (Value.ref C)/\XC K C/\E (Value.ref C) none H:=λ h=>by
  rw [ao h] at k;exact ⟨a.c,iA3 T.mi T.mj k⟩
 refine zZ (λ h1=>?_) (λ h1=>bad (by unfold zz;omega));refine iE2 (.int 6) _ (iA3 g1 ⟨_,rfl⟩ ?_);walk_at "a";refine zZ (λ h2=>?_) (λ h2=>bad (by unfold zz;omega));walk_at "a";refine zZ (λ h3=>?_) (λ h3=>bad (by unfold zz;omega));refine iE2 (.int 4) _ (iA3 g2 ⟨_,rfl⟩ ?_);walk_at "a";refine zZ (λ h4=>?_) (λ h4=>bad (by unfold zz;omega));rw [ap (by unfold zz;omega)] at k;walk_at "a";refine iE4 y a.h dx ([]) (iA6 rfl hy T.ip T.ij (by decide) ?_);walk_at "a";refine iE4 y a.h dx _ (iA6 rfl nk T.ip T.gW (by show 1 < 1000;decide) ?_);rw [vZ];exact k
def zfl (T:Txt K mg a):KCal P w K mg base "Belt" a.h 1 ["self","room","pace"] [] (ZC a.h a.c):=T.lC.cal T.mT (VE T)
def qw {y dx b C:Addr} {u:HO} (hy:H y=none) (hdx:H dx=none) (h:H b=some u):upd (upd H dx (.own y)) y (.ins C dx []) b=some u:=by
 rw [nu (nz h hy),nu (nz h hdx)];exact h
def zM {y dx b:Addr} {o p:HO} (h:upd (upd H dx o) y p b=none):H b=none:=qf (qf h)
def zA {H H':Hp} (s:Same H H') (h:H' b=none):H b=none:=by
 cases e:H b with
 | none=>rfl
 | some o=>rw [s b o e] at h;cases h
inductive Wd|source|drain|parter|first|sieve|joiner
deriving DecidableEq
noncomputable def vj (a:Ad):Wd->Addr
 | .source=>a.j
 | .drain=>a.k
 | .parter=>a.l
 | .first=>a.m
 | .sieve=>a.n
 | .joiner=>a.o
structure Row where
 wd:Wd
 ins:List Int
 outs:List Int
 pace:Int
 kinds:List Int
abbrev At:=List Row
def Row.ok (r:Row):Prop:=match r.wd with
 | .source=>r.ins=[]/\(∃ o,r.outs=[o])/\1<=r.pace/\r.pace<=4/\1<=r.kinds.length/\r.kinds.length<=6/\Qm r.kinds
 | .drain=>(∃ i,r.ins=[i])/\r.outs=[]/\0<=r.pace/\r.pace<=4
 | .parter=>(∃ i,r.ins=[i])/\2<=r.outs.length/\r.outs.length<=4
 | .first=>(∃ i,r.ins=[i])/\2<=r.outs.length/\r.outs.length<=4
 | .sieve=>(∃ i,r.ins=[i])/\r.outs.length=2/\∃ k,r.kinds=[k]/\0<=k/\k < jW
 | .joiner=>(∃ o,r.outs=[o])/\2<=r.ins.length/\r.ins.length<=4
noncomputable def zaS (r:Row):List (Str × D):=match r.wd with
 | .source=>[("pace",.int r.pace),("kinds",.ints r.kinds)]
 | .drain=>[("pace",.int r.pace)]
 | .sieve=>[("kind",.int (r.kinds.headD 0))]
 | _=>[]
noncomputable def Xs (r:Row):List (Str × D):=("ins",.ints r.ins) :: ("outs",.ints r.outs) :: zaS r
noncomputable def Zu (a:Ad) (r:Row):D:=.ob (vj a r.wd) (Xs r)
noncomputable def wt (a:Ad) (b:Int × Int):D:=.ob a.h [("room",.int b.1),("pace",.int b.2)]
def jf {α:Type} {f:Str} {x:α} {r:List (Str × α)}:((f,x) :: r).lookup f=some x:=by simp [List.lookup]
def zT {α:Type} {f g:Str} {x:α} {r:List (Str × α)} (h:f≠g):((g,x) :: r).lookup f=r.lookup f:=by
 have hb:(f == g)=false:=aW.mpr h;simp [List.lookup,hb]
def zgy (r:Row):(Xs r).lookup ("ins":Str)=some (.ints r.ins):=jf
def zfg (r:Row):(Xs r).lookup ("outs":Str)=some (.ints r.outs):=(zT (by decide +kernel)).trans jf
def zff {r:Row} (h:r.wd=.source\/r.wd=.drain):(Xs r).lookup ("pace":Str)=some (.int r.pace):=by
 refine (zT (by decide +kernel)).trans ((zT (by decide +kernel)).trans ?_);unfold zaS;rcases h with h|h <;> (rw [h];exact jf)
def zdT {r:Row} (h:r.wd=.source):(Xs r).lookup ("kinds":Str)=some (.ints r.kinds):=by
 refine (zT (by decide +kernel)).trans ((zT (by decide +kernel)).trans ?_);unfold zaS;rw [h];exact (zT (by decide +kernel)).trans jf
def zfi {r:Row} {k:Int} (h:r.wd=.sieve) (e:r.kinds=[k]):(Xs r).lookup ("kind":Str)=some (.int k):=by
 refine (zT (by decide +kernel)).trans ((zT (by decide +kernel)).trans ?_);unfold zaS;rw [h,e];exact jf
def zfh {r:Row} {f:Str} (h1:f≠"ins") (h2:f≠"outs") (h3:f≠"pace") (h4:f≠"kinds") (h5:f≠"kind"):(Xs r).lookup f=none:=by
 refine (zT h1).trans ((zT h2).trans ?_);unfold zaS
 split
 ·exact (zT h3).trans (zT h4)
 ·exact zT h3
 ·exact zT h5
 ·rfl
def KnP (a:Ad) (H:Hp) (p:A5) (v:V) (r:Row):Prop:=Rep H p v (Zu a r)
def KnP.keep {H H':Hp} {p q:A5} {r:Row} (h:KnP a H p v r) (s:∀ b o,p b->H b=some o->q b/\H' b=some o):KnP a H' q v r:=Rep.keep s h
def KnP.inv {r:Row} (h:KnP a H p v r):∃ y dx l1 l2 l3 fs,v=.ref y/\p y/\p l1/\p l2/\(r.wd=.source->p l3)/\H y=some (.ins (vj a r.wd) dx fs)/\fs.lookup ("ins":Str)=some (.ref l1)/\fs.lookup ("outs":Str)=some (.ref l2) /\
  fs.lookup ("copied":Str)=none/\H l1=some (.lst (iv r.ins))/\H l2=some (.lst (iv r.outs))/\(r.wd=.source->fs.lookup ("kinds":Str)=some (.ref l3)/\H l3=some (.lst (iv r.kinds)))/\((r.wd=.source\/r.wd=.drain)->fs.lookup ("pace":Str)=some (.int r.pace)):=by
 refine oE3 (Rep.ob' h) λ y dx fs m5=>oA5 m5 λ m7 py hy g1 g2=>?_;clear m5;subst m7;obtain ⟨u1,e1,r1⟩:=g1 _ _ (zgy r);refine oE1 r1.ints' λ l1 m5=>oA3 m5 λ m7 p1 h1=>?_;clear m5;subst m7;obtain ⟨u2,e2,r2⟩:=g1 _ _ (zfg r);refine oE1 r2.ints' λ l2 m5=>oA3 m5 λ m7 p2 h2=>?_;clear m5;subst m7;have e3:=g2 ("copied":Str) (zfh (by decide +kernel) (by decide +kernel) (by decide +kernel) (by decide +kernel) (by decide +kernel));have pc:(r.wd=.source\/r.wd=.drain)->fs.lookup ("pace":Str)=some (.int r.pace):=λ z=>by
  obtain ⟨u,e,ru⟩:=g1 _ _ (zff z);cases ru;exact e
 by_cases hs:r.wd=.source
 ·obtain ⟨u3,e4,r3⟩:=g1 _ _ (zdT hs);refine oE1 r3.ints' λ l3 m5=>oA3 m5 λ m7 p3 h3=>?_;clear m5;subst m7;exact iE6 y dx l1 l2 l3 fs (iA9 rfl py p1 p2 (λ _=>p3) hy e1 e2 (iA5 e3 h1 h2 (λ _=>⟨e4,h3⟩) pc))
 ·exact iE6 y dx l1 l2 l1 fs (iA9 rfl py p1 p2 (λ z=>absurd z hs) hy e1 e2 (iA5 e3 h1 h2 (λ z=>absurd z hs) pc))
def Xt {l1 l2:Addr}:kf l1 l2=([(("ins":Str),V.ref l1),(("outs":Str),V.ref l2)]:Ar):=by
 unfold kf;simp only [zQ];rw [ao (by decide +kernel)]
def zfB {l1 l2:Addr} {n:Int}:df l1 l2 n=([(("ins":Str),V.ref l1),(("outs":Str),V.ref l2),(("pace":Str),V.int n)]:Ar):=by
 unfold df;rw [Xt];simp only [zQ];rw [ao (by decide +kernel),ao (by decide +kernel)]
def zg3 {l1 l2 l3:Addr} {n:Int}:sf l1 l2 n l3=([(("ins":Str),V.ref l1),(("outs":Str),V.ref l2),(("pace":Str),V.int n),(("kinds":Str),V.ref l3)]:Ar):=by
 unfold sf;rw [zfB];simp only [zQ];rw [ao (by decide +kernel),ao (by decide +kernel),ao (by decide +kernel)]
def zgZ {l1 l2:Addr} {n:Int}:vf l1 l2 n=([(("ins":Str),V.ref l1),(("outs":Str),V.ref l2),(("kind":Str),V.int n)]:Ar):=by
 unfold vf;rw [Xt];simp only [zQ];rw [ao (by decide +kernel),ao (by decide +kernel)]
def w9 {l C dx:Addr} {gs:List (Str × D)} (pl:p l) (e:H l=some (.ins C dx fs)) (n:fs.map (·.1)=gs.map (·.1)) (r:Reps H p (fs.map (·.2)) (gs.map (·.2))):Rep H p (.ref l) (.ob C gs) :=
 .ob pl e n λ i f g hf hg=>r.g i f.2 g.2 (by rw [ak,hf];rfl) (by rw [ak,hg];rfl)
section
variable {H:Hp} {p:A5} {z dz m1 m2 m3:Addr} {ins outs kinds:A6} {pace:Int}
def Wz (q0:p z) (q1:p m1) (q2:p m2) (q3:p m3) (h0:H z=some (.ins a.j dz (sf m1 m2 pace m3))) (h1:H m1=some (.lst (iv ins))) (h2:H m2=some (.lst (iv outs))) (h3:H m3=some (.lst (iv kinds))):KnP a H p (.ref z) ⟨.source,ins,outs,pace,kinds⟩:=by
 rw [zg3] at h0;exact w9 q0 h0 rfl (.cons (qi q1 h1) (.cons (qi q2 h2) (.cons .int (.cons (qi q3 h3) .nil))))
def za3 (q0:p z) (q1:p m1) (q2:p m2) (h0:H z=some (.ins a.k dz (df m1 m2 pace))) (h1:H m1=some (.lst (iv ins))) (h2:H m2=some (.lst (iv outs))):KnP a H p (.ref z) ⟨.drain,ins,outs,pace,kinds⟩:=by
 rw [zfB] at h0;exact w9 q0 h0 rfl (.cons (qi q1 h1) (.cons (qi q2 h2) (.cons .int .nil)))
def za1 {k:Int} (q0:p z) (q1:p m1) (q2:p m2) (h0:H z=some (.ins a.n dz (vf m1 m2 k))) (h1:H m1=some (.lst (iv ins))) (h2:H m2=some (.lst (iv outs))):KnP a H p (.ref z) ⟨.sieve,ins,outs,pace,[k]⟩:=by
 rw [zgZ] at h0;exact w9 q0 h0 rfl (.cons (qi q1 h1) (.cons (qi q2 h2) (.cons .int .nil)))
def WA (q0:p z) (q1:p m1) (q2:p m2) (h0:H z=some (.ins a.l dz (kf m1 m2))) (h1:H m1=some (.lst (iv ins))) (h2:H m2=some (.lst (iv outs))):KnP a H p (.ref z) ⟨.parter,ins,outs,pace,kinds⟩:=by
 rw [Xt] at h0;exact w9 q0 h0 rfl (.cons (qi q1 h1) (.cons (qi q2 h2) .nil))
def za2 (q0:p z) (q1:p m1) (q2:p m2) (h0:H z=some (.ins a.m dz (kf m1 m2))) (h1:H m1=some (.lst (iv ins))) (h2:H m2=some (.lst (iv outs))):KnP a H p (.ref z) ⟨.first,ins,outs,pace,kinds⟩:=by
 rw [Xt] at h0;exact w9 q0 h0 rfl (.cons (qi q1 h1) (.cons (qi q2 h2) .nil))
def WB (q0:p z) (q1:p m1) (q2:p m2) (h0:H z=some (.ins a.o dz (kf m1 m2))) (h1:H m1=some (.lst (iv ins))) (h2:H m2=some (.lst (iv outs))):KnP a H p (.ref z) ⟨.joiner,ins,outs,pace,kinds⟩:=by
 rw [Xt] at h0;exact w9 q0 h0 rfl (.cons (qi q1 h1) (.cons (qi q2 h2) .nil))
end
def BtP (a:Ad) (H:Hp) (p:A5) (v:V) (r:Int × Int):Prop:=Rep H p v (wt a r)
def BtP.keep {H H':Hp} {p q:A5} {r:Int × Int} (h:BtP a H p v r) (s:∀ b o,p b->H b=some o->q b/\H' b=some o):BtP a H' q v r:=Rep.keep s h
def ziZ {rm pc:Int}:bf rm pc=([(("room":Str),V.int rm),(("pace":Str),V.int pc)]:Ar):=by
 unfold bf;simp only [zQ];rw [ao (by decide +kernel)]
def zhe {y dx:Addr} {rm pc:Int} (q0:p y) (h0:H y=some (.ins a.h dx (bf rm pc))):BtP a H p (.ref y) (rm,pc):=by
 rw [ziZ] at h0;exact w9 q0 h0 rfl (.cons .int (.cons .int .nil))
def BtP.inv {r:Int × Int} (h:BtP a H p v r):∃ y dx fs,v=.ref y/\p y/\H y=some (.ins a.h dx fs)/\fs.lookup ("room":Str)=some (.int r.1)/\fs.lookup ("pace":Str)=some (.int r.2):=by
 refine oE3 (Rep.ob' h) λ y dx fs m5=>oA5 m5 λ m7 py hy g1 g2=>?_;clear m5;subst m7;obtain ⟨u1,e1,r1⟩:=g1 ("room":Str) _ jf;obtain ⟨u2,e2,r2⟩:=g1 ("pace":Str) _ ((zT (by decide +kernel)).trans jf);cases r1;cases r2;exact iE3 y dx fs (iA5 rfl py hy e1 e2)
structure Kns (a:Ad) (H:Hp) (p:A5) (vs:Ap) (rs:At):Prop where
 len:vs.length=rs.length
 g:∀ (i:Nat) v r,vs[i]?=some v->rs[i]?=some r->KnP a H p v r
def Kns.keep {H H':Hp} {p q:A5} {rs:At} (h:Kns a H p vs rs) (s:∀ b o,p b->H b=some o->q b/\H' b=some o):Kns a H' q vs rs:=⟨h.len,λ i v r e1 e2=>(h.g i v r e1 e2).keep s⟩
def Kns.nil:Kns a H p [] []:=⟨rfl,λ i v r h=>by simp at h⟩
def Kns.append {vs us:Ap} {rs qs:At} (h:Kns a H p vs rs) (k:Kns a H p us qs):Kns a H p (vs ++ us) (rs ++ qs):=by
 refine ⟨by rw [aO,aO,h.len,k.len],λ i v r e1 e2=>?_⟩;by_cases hi:i < vs.length
 ·rw [aQ hi] at e1;rw [aQ (by rw [<- h.len];exact hi)] at e2;exact h.g i v r e1 e2
 ·rw [aM (by omega)] at e1;rw [aM (by rw [<- h.len];omega),<- h.len] at e2;exact k.g _ v r e1 e2
def Kns.one {r:Row} (h:KnP a H p v r):Kns a H p [v] [r] :=
 ⟨rfl,λ i u q e1 e2=>by
  have hi:=(aa.mp e1).1;have:i=0:=by simp at hi;omega
  subst this;have e1:v=u:=by simpa using e1
  have e2:r=q:=by simpa using e2
  rw [<- e1,<- e2];exact h⟩
def Kns.at {rs:At} (h:Kns a H p vs rs) (e:vs[i]?=some v):∃ r,rs[i]?=some r/\KnP a H p v r:=by
 have hi:=(aa.mp e).1;have e2:rs[i]?=some (rs[i]'(by rw [<- h.len];exact hi)):=ad _;exact ⟨_,e2,h.g i v _ e e2⟩
structure Bts (a:Ad) (H:Hp) (p:A5) (vs:Ap) (rs:A1):Prop where
 len:vs.length=rs.length
 g:∀ (i:Nat) v r,vs[i]?=some v->rs[i]?=some r->BtP a H p v r
def Bts.keep {H H':Hp} {p q:A5} {rs:A1} (h:Bts a H p vs rs) (s:∀ b o,p b->H b=some o->q b/\H' b=some o):Bts a H' q vs rs:=⟨h.len,λ i v r e1 e2=>(h.g i v r e1 e2).keep s⟩
def Bts.nil:Bts a H p [] []:=⟨rfl,λ i v r h=>by simp at h⟩
def Bts.push {rs:A1} {r:Int × Int} (h:Bts a H p vs rs) (k:BtP a H p v r):Bts a H p (vs ++ [v]) (rs ++ [r]):=by
 refine ⟨by rw [aO,aO,h.len];rfl,λ i u q e1 e2=>?_⟩;by_cases hi:i < vs.length
 ·rw [aQ hi] at e1;rw [aQ (by rw [<- h.len];exact hi)] at e2;exact h.g i u q e1 e2
 ·rw [aM (by omega)] at e1;rw [aM (by rw [<- h.len];omega),<- h.len] at e2;have hj:=(aa.mp e1).1;have:i - vs.length=0:=by simp at hj;omega
  rw [this] at e1 e2;have e1:v=u:=by simpa using e1
  have e2:r=q:=by simpa using e2
  rw [<- e1,<- e2];exact k
def Bts.at {rs:A1} (h:Bts a H p vs rs) (e:vs[i]?=some v):∃ r,rs[i]?=some r/\BtP a H p v r:=by
 have hi:=(aa.mp e).1;have e2:rs[i]?=some (rs[i]'(by rw [<- h.len];exact hi)):=ad _;exact ⟨_,e2,h.g i v _ e e2⟩
abbrev New (H:Hp):Addr->Prop:=λ b=>H b=none
def xC (a:Ad) (wd:Wd):Sp:=λ vs H Q _=>∃ (y:Addr) (r:Row) (p:A5),vs=[.ref y]/\KnP a H p (.ref y) r/\r.wd=wd/\r.ok/\∀ v H',Same H H'->KnP a H' (New H) v r->Q v H'
def Kns.reps {rs:At} (h:Kns a H p vs rs):Reps H p vs (rs.map (Zu a)):=⟨by rw [h.len,af],λ i v d e1 e2=>by
 rw [ak,am] at e2;obtain ⟨r,e2,rfl⟩:=e2;exact h.g i v r e1 e2⟩
def Bts.reps {rs:A1} (h:Bts a H p vs rs):Reps H p vs (rs.map (wt a)):=⟨by rw [h.len,af],λ i v d e1 e2=>by
 rw [ak,am] at e2;obtain ⟨r,e2,rfl⟩:=e2;exact h.g i v r e1 e2⟩
def Kns.of {rs:At} (h:Reps H p vs (rs.map (Zu a))):Kns a H p vs rs:=⟨by rw [h.len,af],λ i v r e1 e2=>h.g i v _ e1 (by rw [ak,e2];rfl)⟩
def Bts.of {rs:A1} (h:Reps H p vs (rs.map (wt a))):Bts a H p vs rs:=⟨by rw [h.len,af],λ i v r e1 e2=>h.g i v _ e1 (by rw [ak,e2];rfl)⟩
def Ji (T:Txt K mg a):MCal P w K mg base a.j "copied" 4 ["self"] [] (xC a .source):=T.iQ.cal T.gy λ F=>by
 refine F.okx Qs ?_ ?_
 ·walk_at "i"
 walk_at "k";refine oE3 h λ y m5 p m7=>oA5 m7 λ n6 hK hw hok k=>?_;clear m7 h;obtain ⟨wd,ins,outs,pace,kinds⟩:=m5;subst n6;cases hw;have hK0:=hK;refine oE6 hK.inv λ y' dx l1 l2 l3 fs m5=>oA9 m5 λ e p0 p1 p2 p3 h0 e1 e2 m7=>oA5 m7 λ e3 h1 h2 h3 h4=>?_;clear m5 m7;cases e;obtain ⟨hk,hk'⟩:=h3 rfl;have hp:=h4 (.inl rfl);refine oA7 hok λ q1 m5 q3 q4 q5 q6 q7=>?_;clear hok;obtain ⟨ov,q2⟩:=m5;simp only at q1 q2;subst q1 q2;walk_at "T";refine ⟨_,(ze (zl (qV (x:="Source") ⟨rfl,rfl,rfl⟩ hr (za (zn (zk (pq 0) rfl) zf) (za (zk (pq 0) rfl) (za (zk (pq 0) rfl) zc)))))),?_⟩;walk_at "a";refine iE4 a.j _ _ _ ⟨(Xu T).mono,iE5 y a.j dx fs _ (iA6 rfl h0 T.gy T.gX e2 (zq (SqL.of h2) at0 ?_))⟩;refine ra h0 T.gy T.gH hp ?_;refine ra h0 T.gy T.gD hk ?_;intro z dz hz hdz hne;refine iE6 z dz l3 (.int ov) pace kinds (iA6 rfl nk (SqL.of (qw hz hdz hk')) (nz hk' hz) (λ _ H' m1 m2 m3 s' g1 g2 g3 g4 n1 n2 n3=>⟨rfl,?_⟩) (λ hbad=>absurd (iA5 q3 q4 q5 q6 q7) hbad));exact k _ _ (Own.of_new hz hdz s') (Wz (p:=New H) (ins:=[]) (outs:=[ov]) hz (zM n1) (zM n2) (zM n3) g1 g2 g3 g4)
def Xq (T:Txt K mg a):MCal P w K mg base a.k "copied" 4 ["self"] [] (xC a .drain):=T.ke.cal T.gF λ F=>by
 refine F.okx Jf ?_ ?_
 ·walk_at "i"
 walk_at "k";refine oE3 h λ y m5 p m7=>oA5 m7 λ n6 hK hw hok k=>?_;clear m7 h;obtain ⟨wd,ins,outs,pace,kinds⟩:=m5;subst n6;cases hw;have hK0:=hK;refine oE6 hK.inv λ y' dx l1 l2 l3 fs m5=>oA9 m5 λ e p0 p1 p2 p3 h0 e1 e2 m7=>oA5 m7 λ e3 h1 h2 h3 h4=>?_;clear m5 m7;cases e;have hp:=h4 (.inr rfl);refine oA4 hok λ m5 q2 q3 q4=>?_;clear hok;obtain ⟨iv',q1⟩:=m5;simp only at q1 q2;subst q1 q2;walk_at "T";refine ⟨_,(ze (zl (qV (x:="Drain") ⟨rfl,rfl,rfl⟩ hr (za (zn (zk (pq 0) rfl) zf) (za (zk (pq 0) rfl) zc))))),?_⟩;walk_at "a";refine iE4 a.k _ _ _ ⟨(zcL T).mono,iE5 y a.k dx fs _ (iA6 rfl h0 T.gF T.ik e1 (zq (SqL.of h1) at0 ?_))⟩;refine ra h0 T.gF T.gz hp ?_;intro z dz hz hdz hne;refine iE4 z dz (.int iv') pace (iA3 rfl nk ?_);rw [ap ⟨q3,q4⟩];intro H' m1 m2 s' g1 g2 g3 n1 n2;exact ⟨rfl,k _ _ (Own.of_new hz hdz s') (za3 (p:=New H) (ins:=[iv']) (outs:=[]) hz (zM n1) (zM n2) g1 g2 g3)⟩
def Jk (T:Txt K mg a):MCal P w K mg base a.l "copied" 4 ["self"] [] (xC a .parter):=T.iS.cal T.gP λ F=>by
 refine F.okx Qu ?_ ?_
 ·walk_at "i"
 walk_at "k";refine oE3 h λ y m5 p m7=>oA5 m7 λ n6 hK hw hok k=>?_;clear m7 h;obtain ⟨wd,ins,outs,pace,kinds⟩:=m5;subst n6;cases hw;have hK0:=hK;refine oE6 hK.inv λ y' dx l1 l2 l3 fs m5=>oA9 m5 λ e p0 p1 p2 p3 h0 e1 e2 m7=>oA5 m7 λ e3 h1 h2 h3 h4=>?_;clear m5 m7;cases e;obtain ⟨⟨iv',q1⟩,q3,q4⟩:=hok;simp only at q1 q3 q4;subst q1;walk_at "T";refine ⟨_,(ze (zl (qV (x:="Parter") ⟨rfl,rfl,rfl⟩ hr (za (zn (zk (pq 0) rfl) zf) (za (zk (pq 0) rfl) zc))))),?_⟩;walk_at "a";refine iE4 a.l _ _ _ ⟨(Qb T).mono,iE5 y a.l dx fs _ (iA6 rfl h0 T.gP T.hW e1 (zq (SqL.of h1) at0 ?_))⟩;refine ra h0 T.gP T.gI e2 ?_;intro z dz hz hdz hne;refine iE5 z dz l2 (.int iv') (iv outs) (iA5 rfl nk (SqL.of (qw hz hdz h2)) (nz h2 hz) ?_);rw [ap (by rw [iv,af];exact ⟨q3,q4⟩)];intro H' m1 m2 s' g1 g2 g3 n1 n2;exact ⟨rfl,k _ _ (Own.of_new hz hdz s') (WA (p:=New H) (ins:=[iv']) (outs:=outs) hz (zM n1) (zM n2) g1 g2 g3)⟩
def vO (T:Txt K mg a):MCal P w K mg base a.m "copied" 4 ["self"] [] (xC a .first):=T.ia.cal T.gx λ F=>by
 refine F.okx vp ?_ ?_
 ·walk_at "i"
 walk_at "k";refine oE3 h λ y m5 p m7=>oA5 m7 λ n6 hK hw hok k=>?_;clear m7 h;obtain ⟨wd,ins,outs,pace,kinds⟩:=m5;subst n6;cases hw;have hK0:=hK;refine oE6 hK.inv λ y' dx l1 l2 l3 fs m5=>oA9 m5 λ e p0 p1 p2 p3 h0 e1 e2 m7=>oA5 m7 λ e3 h1 h2 h3 h4=>?_;clear m5 m7;cases e;obtain ⟨⟨iv',q1⟩,q3,q4⟩:=hok;simp only at q1 q3 q4;subst q1;walk_at "T";refine ⟨_,(ze (zl (qV (x:="FirstParter") ⟨rfl,rfl,rfl⟩ hr (za (zn (zk (pq 0) rfl) zf) (za (zk (pq 0) rfl) zc))))),?_⟩;walk_at "a";refine iE4 a.m _ _ _ ⟨(Zt T).mono,iE5 y a.m dx fs _ (iA6 rfl h0 T.gx T.gC e1 (zq (SqL.of h1) at0 ?_))⟩;refine ra h0 T.gx T.gA e2 ?_;intro z dz hz hdz hne;refine iE5 z dz l2 (.int iv') (iv outs) (iA5 rfl nk (SqL.of (qw hz hdz h2)) (nz h2 hz) ?_);rw [ap (by rw [iv,af];exact ⟨q3,q4⟩)];intro H' m1 m2 s' g1 g2 g3 n1 n2;exact ⟨rfl,k _ _ (Own.of_new hz hdz s') (za2 (p:=New H) (ins:=[iv']) (outs:=outs) hz (zM n1) (zM n2) g1 g2 g3)⟩
def Xn (T:Txt K mg a):MCal P w K mg base a.n "copied" 4 ["self"] [] (xC a .sieve):=T.kh.cal T.gG λ F=>by
 refine F.okx Jc ?_ ?_
 ·walk_at "i"
 walk_at "k";refine oE3 h λ y m5 p m7=>oA5 m7 λ n6 hK hw hok k=>?_;clear m7 h;obtain ⟨wd,ins,outs,pace,kinds⟩:=m5;subst n6;cases hw;have hK0:=hK;refine oE6 hK.inv λ y' dx l1 l2 l3 fs m5=>oA9 m5 λ e p0 p1 p2 p3 h0 e1 e2 m7=>oA5 m7 λ e3 h1 h2 h3 h4=>?_;clear m5 m7;cases e;refine oA3 hok λ m5 q3 m7=>oE1 m7 λ kk n6=>oA3 n6 λ q4 q5 q6=>?_;clear m7 n6 hok;obtain ⟨iv',q1⟩:=m5;simp only at q1 q3 q4;subst q1 q4;walk_at "T";refine ⟨_,(ze (zl (qV (x:="Sieve") ⟨rfl,rfl,rfl⟩ hr (za (zn (zk (pq 0) rfl) zf) (za (zk (pq 0) rfl) (za (zk (pq 0) rfl) zc)))))),?_⟩;walk_at "a";refine iE4 a.n _ _ _ ⟨(zcK T).mono,iE5 y a.n dx fs _ (iA6 rfl h0 T.gG T.io e1 (zq (SqL.of h1) at0 ?_))⟩;refine ra h0 T.gG T.ic e2 ?_;refine zgf hK0 T.gG T.ib (zfi rfl rfl) λ u ru=>?_;cases ru;intro z dz hz hdz hne;refine iE6 z dz l2 (.int iv') (iv outs) kk (iA5 rfl nk (SqL.of (qw hz hdz h2)) (nz h2 hz) ?_);rw [ap (by rw [iv,af];exact ⟨q3,q5,q6⟩)];intro H' m1 m2 s' g1 g2 g3 n1 n2;exact ⟨rfl,k _ _ (Own.of_new hz hdz s') (za1 (p:=New H) (ins:=[iv']) (outs:=outs) hz (zM n1) (zM n2) g1 g2 g3)⟩
def Jm (T:Txt K mg a):MCal P w K mg base a.o "copied" 4 ["self"] [] (xC a .joiner):=T.iU.cal T.gQ λ F=>by
 refine F.okx Qw ?_ ?_
 ·walk_at "i"
 walk_at "k";refine oE3 h λ y m5 p m7=>oA5 m7 λ n6 hK hw hok k=>?_;clear m7 h;obtain ⟨wd,ins,outs,pace,kinds⟩:=m5;subst n6;cases hw;have hK0:=hK;refine oE6 hK.inv λ y' dx l1 l2 l3 fs m5=>oA9 m5 λ e p0 p1 p2 p3 h0 e1 e2 m7=>oA5 m7 λ e3 h1 h2 h3 h4=>?_;clear m5 m7;cases e;obtain ⟨⟨ov,q1⟩,q3,q4⟩:=hok;simp only at q1 q3 q4;subst q1;walk_at "T";refine ⟨_,(ze (zl (qV (x:="Joiner") ⟨rfl,rfl,rfl⟩ hr (za (zk (pq 0) rfl) (za (zn (zk (pq 0) rfl) zf) zc))))),?_⟩;walk_at "a";refine iE4 a.o _ _ _ ⟨(Qc T).mono,iE5 y a.o dx fs _ (iA6 rfl h0 T.gQ T.gR e1 ?_)⟩;refine ra h0 T.gQ T.gY e2 (zq (SqL.of h2) at0 ?_);intro z dz hz hdz hne;refine iE5 z dz l1 (.int ov) (iv ins) (iA5 rfl nk (SqL.of (qw hz hdz h1)) (nz h1 hz) ?_);rw [ap (by rw [iv,af];exact ⟨q3,q4⟩)];intro H' m1 m2 s' g1 g2 g3 n1 n2;exact ⟨rfl,k _ _ (Own.of_new hz hdz s') (WB (p:=New H) (ins:=ins) (outs:=[ov]) hz (zM n1) (zM n2) g1 g2 g3)⟩
def CT (T:Txt K mg a) (wd:Wd):Cls K (vj a wd):=by
 cases wd
 ·exact T.gy
 ·exact T.gF
 ·exact T.gP
 ·exact T.gx
 ·exact T.gG
 ·exact T.gQ
def NI (T:Txt K mg a) (wd:Wd):NoAttr K (vj a wd) "ins":=by
 cases wd
 ·exact T.iD
 ·exact T.ik
 ·exact T.hW
 ·exact T.gC
 ·exact T.io
 ·exact T.gR
def NO (T:Txt K mg a) (wd:Wd):NoAttr K (vj a wd) "outs":=by
 cases wd
 ·exact T.gX
 ·exact T.iE
 ·exact T.gI
 ·exact T.gA
 ·exact T.ic
 ·exact T.gY
def WT (T:Txt K mg a) (wd:Wd):WI K (vj a wd):=by
 cases wd
 ·exact T.mG
 ·exact T.mO
 ·exact T.mH
 ·exact T.kB
 ·exact T.mP
 ·exact T.mI
def zfb (T:Txt K mg a) (wd:Wd):MCal P w K mg base (vj a wd) "copied" 4 ["self"] [] (xC a wd):=by
 cases wd
 ·exact Ji T
 ·exact Xq T
 ·exact Jk T
 ·exact vO T
 ·exact Xn T
 ·exact Jm T
theorem Wk:∀ (xs ys:A6),xs.Perm ys->xs.Pairwise (·<=·)->ys.Pairwise (·<=·)->xs=ys
 | [],ys,h,_,_=>(List.nil_perm.mp h).symm
 | x :: xs,[],h,_,_=>absurd h.length_eq (by simp)
 | x :: xs,y :: ys,h,hx,hy=>by
  have e:x=y:=by
   have h1:y∈x :: xs:=h.mem_iff.mpr (by simp);have h2:x∈y :: ys:=h.mem_iff.mp (by simp);rcases ax.mp h1 with e|m1
   ·exact e.symm
   rcases ax.mp h2 with e|m2
   ·exact e
   have:=(cU.mp hx).1 y m1;have:=(cU.mp hy).1 x m2;omega
  subst e;rw [Wk xs ys h.cons_inv (cU.mp hx).2 (cU.mp hy).2]
noncomputable def rgI (n:Nat):List Int:=(List.range n).map λ (i:Nat)=>(i:Int)
def zbK (n:Nat):(rgI n).Pairwise (·<=·):=by
 unfold rgI;rw [List.pairwise_map];exact List.pairwise_lt_range.imp λ {i j} h=>by omega
def zgc (n:Nat):rgL 0 n=iv (rgI n):=by
 simp [rgL,iv,rgI,eB,dX]
theorem ZE:∀ ms ns:List Int,xn (iv ms) (iv ns)=decide (ms=ns)
 | [],[]=>rfl
 | [],_ :: _=>rfl
 | _ :: _,[]=>rfl
 | m :: ms,n :: ns=>by
  show (eqV (.int m) (.int n) && xn (iv ms) (iv ns))=_
  rw [ZE ms ns];by_cases e:m=n
  ·subst e;simp [eqV]
  ·simp [eqV,e]
def JB (ns:A6):(iv ns).all wK=true:=bS.mpr λ x hx=>by
 obtain ⟨n,_,rfl⟩:=aV.mp hx
 rfl
def zge {Q:VK} {p q:Addr} {ms ns:A6} (h1:SqL K H p (iv ms)) (h2:SqL K H q (iv ns)) (k:Q (.bl (!decide (ms=ns))) H):zbO K (.ref p) (.ref q) H Q :=
 .inr (.inl ⟨p,q,iv ms,iv ns,rfl,rfl,.inl ⟨h1,h2⟩,JB ms,JB ns,by rw [ZE];exact k⟩)
def zam (K:A0) (a:Ad):Sp:=λ vs H Q E=>∃ (bl kl:Addr) (xs ys:Ap),vs=[.ref bl,.ref kl]/\SqL K H bl xs/\SqL K H kl ys/\if (1<=xs.length/\xs.length<=24)/\1<=ys.length/\ys.length<=24 then Q .non H else E (.ref a.e) none H
def VZ (T:Txt K mg a):Cal P w K mg base "check_size" 1 ["belts","knots"] [] (zam K a):=T.kP.cal λ F=>by
 refine F.okx XV ?_ ?_
 ·walk_at "i"
 walk_at "k";refine oE4 h λ bl kl xs ys m5=>oA4 m5 λ m7 h1 h2 k=>?_;clear m5 h;subst m7;obtain ⟨t1,g1⟩:=T.kZ;obtain ⟨t2,g2⟩:=T.k8;walk_at "T";refine ⟨_,(zi (zL (jP (jX xS xS zf (z7 qe qd (za (pq 0) zc)) wg))  (ze (je ⟨rfl,rfl,rfl⟩ rfl (za jI zc)))  zt)  (ze (zL (jP (jX xS xS zf (z7 qe qd (za (pq 1) zc)) wg))  (ze (je ⟨rfl,rfl,rfl⟩ rfl (za jI zc)))  zt))),?_⟩;walk_at "a";have bad:¬ ((1<=xs.length/\xs.length<=24)/\1<=ys.length/\ys.length<=24)->∃ C,mg "BadWork"=some (Value.ref C)/\XC K C/\E (Value.ref C) none H:=λ h=>by
  rw [ao h] at k;exact ⟨a.e,iA3 T.kR T.k9 k⟩
 refine ⟨_,.inl ⟨_,h1,rfl⟩,?_⟩;walk_at "a";refine zZ (λ b1=>?_) (λ b1=>bad (by omega));refine iE2 (.int 24) _ (iA3 g1 ⟨_,rfl⟩ ?_);walk_at "a";refine zZ (λ b2=>?_) (λ b2=>bad (by omega));walk_at "a";refine ⟨_,.inl ⟨_,h2,rfl⟩,?_⟩;walk_at "a";refine zZ (λ b3=>?_) (λ b3=>bad (by omega));refine iE2 (.int 24) _ (iA3 g2 ⟨_,rfl⟩ ?_);walk_at "a";refine zZ (λ b4=>?_) (λ b4=>bad (by omega));rw [ap (by omega)] at k;walk_at "a";exact k
def zbv (K:A0) (a:Ad):Sp:=λ vs H Q E=>∃ (l:Addr) (ns:A6) (n:Nat),vs=[.ref l,.int n]/\SqL K H l (iv ns)/\ns.length < 64/\n<=1000/\(ns.Perm (rgI n)->∀ H',Same H H'->Q .non H')/\(¬ ns.Perm (rgI n)->∀ H',Same H H'->E (.ref a.e) none H')
def wv (T:Txt K mg a):Cal P w K mg base "check_each_once" 1 ["named","size"] [] (zbv K a):=T.ix.cal λ F=>by
 refine F.okx ZF ?_ ?_
 ·walk_at "i"
 walk_at "k";refine oE3 h λ l ns n m5=>oA6 m5 λ m7 hl h64 hn kok kbad=>?_;clear m5 h;subst m7;walk_at "T";refine ⟨_,(ze (zL (zx (zaL hr.units1) (z7 zej zei (za (pq 0) zc)) (vI (zfO rfl) vn (za (zhB (za (pq 1) zc)) zc)) (zy _))  (ze (je ⟨rfl,rfl,rfl⟩ rfl (za jI zc)))  zt)),?_⟩;walk_at "a";refine iE2 l ns (iA4 rfl hl h64 (λ ms q1 hp hs hq1=>?_));walk_at "a";intro q2 hq2;refine iE3 q2 0 n (iA4 rfl nk (iA5 (by omega) (by omega) (by omega) (by omega) (by omega)) (λ q3 hq3=>?_));rw [show ((n:Int) - 0).toNat=n by omega,zgc];walk_at "a";have sm:Same H (upd (upd (upd H q1 (.lst (iv ms))) q2 (.rng 0 n)) q3 (.lst (iv (rgI n)))):=(zg hq1).trans ((zg hq2).trans (zg hq3));refine zge (ms:=ms) (ns:=rgI n) (SqL.of (nA (nA nk hq2) hq3)) (SqL.of nk) ?_;walk_at "a";refine zZ (λ b1=>?_) (λ b1=>?_)
 ·refine ⟨a.e,iA3 T.kR T.k9 (kbad (λ z=>b1 (Wk _ _ (hp.trans z) hs (zbK n))) _ sm)⟩
 ·walk_at "a";refine kok ?_ _ sm;have e:ms=rgI n:=fJ b1;rw [<- e];exact hp.symm
noncomputable def xo (rs:At):List Int:=rs.flatMap Row.outs
noncomputable def qG (rs:At):List Int:=rs.flatMap Row.ins
noncomputable def wf (l1 l2:Addr):List (Str × V):=zQ "knots" (.ref l2) (zQ "belts" (.ref l1) [])
def zJ (bs:A1) (rs:At):Prop:=((1<=bs.length/\bs.length<=24)/\1<=rs.length/\rs.length<=24)/\(xo rs).Perm (rgI bs.length)/\(qG rs).Perm (rgI bs.length)
def ZB (K:A0) (a:Ad):Sp:=λ vs H Q E=>∃ (y dx bl kl:Addr) (bvs m9:Ap) (bs:A1) (rs:At) (p:A5),vs=[.ref y,.ref bl,.ref kl]/\H y=some (.ins a.r dx [])/\bl≠y/\kl≠y/\(∀ b,p b->b≠y) /\
 H bl=some (.lst bvs)/\H kl=some (.lst m9)/\Bts a H p bvs bs/\Kns a H p m9 rs/\(∀ b∈bs,zz b.1 b.2)/\(∀ r∈rs,r.ok)/\(xo rs).length < 64/\(qG rs).length < 64/\bs.length<=1000 /\
 (zJ bs rs->∀ H' l1 l2 bvs' kvs',Own H H' y->H' y=some (.ins a.r dx (wf l1 l2))->H' l1=some (.lst bvs')->H' l2=some (.lst kvs')->Bts a H' (New H) bvs' bs->Kns a H' (New H) kvs' rs->H l1=none->H l2=none->Q .non H') /\
 (¬ zJ bs rs->∀ H',Same H H'->E (.ref a.e) none H')
def zcd {rs:At} {r:Row} (h:rs[i]?=some r):xo (rs.take (i + 1))=xo (rs.take i) ++ r.outs:=by
 unfold xo;rw [aK,h,fC];simp
def WW {rs:At} {r:Row} (h:rs[i]?=some r):qG (rs.take (i + 1))=qG (rs.take i) ++ r.ins:=by
 unfold qG;rw [aK,h,fC];simp
def xw (f:Row->List Int) (rs:At) (i:Nat):((rs.take i).flatMap f).length<=(rs.flatMap f).length:=by
 conv=>rhs;rw [<- fE i rs,fC,aO]
 omega
def zb4 (xs ys:A6):iv xs ++ iv ys=iv (xs ++ ys):=by rw [iv,iv,iv,a7]
def VC (T:Txt K mg a) (F:Fun K "__init__" "Work.__init__" jC f fd):FnOk P w K mg base (CXr P w) 5 f fd ["self","belts","knots"] (ZB K a):=by
 refine F.okx Vi ?_ ?_
 ·walk_at "i"
 walk_at "k";refine oE5 h λ y dx bl kl bvs m5=>oE4 m5 λ m9 bs rs p m7=>oA9 m7 λ n6 hy nby nky hpy hb hk hB nh=>oA8 nh λ hKs hbo hro h64 h64' hlb kok kbad=>?_;clear m5 m7 nh h;subst n6;walk_at "T";refine ⟨_,(zj (zF (zw ⟨rfl,rfl,rfl⟩ hr (za (pq 1) (za (pq 2) zc))))  (zj (zp 3 Vi.nd (zK zc))  (zj (zp 4 Vi.nd (zK zc))  (zj (qt qI rfl (ql (pq 2)) (qp 5 Vi.nd)  (zj (zF (qP ar eT eR Wt (pq 3) (za (zk (pq 5) rfl) zc)))  (ze (zF (qP ar eT eR Wt (pq 4) (za (zk (pq 5) rfl) zc))))))  (zj (zF (zw ⟨rfl,rfl,rfl⟩ hr (za (pq 3) (za (z7 qe qd (za (pq 1) zc)) zc))))  (zj (zF (zw ⟨rfl,rfl,rfl⟩ hr (za (pq 4) (za (z7 qe qd (za (pq 1) zc)) zc))))  (zj (qR (pq 0) (jY (vars:=["belt"]) (caps:=[]) (N:=["belt"]) (ON:=["self","belts","knots","fed","taken","knot"]) (osc:=zd jC) rfl rfl (by first|decide +kernel|kernel_rfl) rfl rfl (ql (pq 1)) (λ s H fp m4=>(qp 0 (show (["belt"]:A8).Nodup from by decide +kernel))) (λ s H fp m4=>qo) (λ s H fp m4=>(zhD (x:="Belt") hr (za (zk (pq 0) rfl) (za (zk (pq 0) rfl) zc))))) rfl)  (ze (qR (pq 0) (jY (vars:=["knot"]) (caps:=[]) (N:=["knot"]) (ON:=["self","belts","knots","fed","taken","knot"]) (osc:=zd jC) rfl rfl (by first|decide +kernel|kernel_rfl) rfl rfl (ql (pq 2)) (λ s H fp m4=>(qp 0 (show (["knot"]:A8).Nodup from by decide +kernel))) (λ s H fp m4=>qo) (λ s H fp m4=>(zeW hr (pq 0)))) rfl))))))))),?_⟩;walk_at "a";refine uc (VZ T).mono (iE4 bl kl bvs m9 (iA4 rfl (SqL.of hb) (SqL.of hk) (zZ (λ b1=>?_) (λ b1=>?_))))
 rotate_left
 ·refine kbad (λ z=>b1 ?_) H (Same.refl _);rw [hB.len,hKs.len];exact z.1
 rw [hB.len,hKs.len] at b1;walk_at "a";intro fl hfl;walk_at "a";intro tl htl;have nft:fl≠tl:=nz nk htl;have htl0:H tl=none:=qf htl;walk_at "d";walk_at "a";have s2:Same H (upd (upd H fl (.lst [])) tl (.lst [])):=(zg hfl).trans (zg htl);refine ⟨kl,rfl,.inl ⟨⟨_,SqL.of (s2 _ _ hk)⟩,?_⟩⟩;let n9:Nat->St->Hp->Prop:=λ i σ H'=>∃ v5,σ=[some (.ref y),some (.ref bl),some (.ref kl),some (.ref fl),some (.ref tl),v5]/\Same H H'/\H' fl=some (.lst (iv (xo (rs.take i))))/\H' tl=some (.lst (iv (qG (rs.take i))));refine qH (K:=K) (a:=kl) (xs:=m9) n9 ⟨_,iA4 rfl s2 (nA nk htl) nk⟩ (λ i σ H' _ ⟨_,_,s,_⟩=>SqL.of (s _ _ hk)) ?_ ?_
 ·intro i x σ H' hi m8;refine oE1 m8 λ v5 m5=>oA4 m5 λ m7 s3 e1 e2=>?_;clear m5 m8;subst m7;obtain ⟨r,hr',hKn0⟩:=hKs.at hi;refine oE6 hKn0.inv λ y1 dx1 l1 l2 l3 fs m5=>oA9 m5 λ m7 p0 p1 p2 p3 h0 f1 f2 n6=>oA5 n6 λ f3 h1 h2 h3 h4=>?_;clear m5 n6;subst m7;have L1:=xw Row.outs rs i;have L2':=xw Row.ins rs i;have L3:=xw Row.outs rs (i + 1);have L4:=xw Row.ins rs (i + 1);have E1:=zcd hr';have E2:=WW hr';have n1:∀ {b:Addr} {o:HO},H b=some o->b≠fl:=λ h=>nz h hfl;have n2:∀ {b:Addr} {o:HO},H b=some o->b≠tl:=λ h=>nz h htl0;walk_at "a";refine ⟨.inl ⟨rfl,_,SqL.of e1⟩,iE5 y1 (vj a r.wd) dx1 fs _ (iA6 rfl (s3 _ _ h0) (CT T _) (NO T _) f2 ?_)⟩;refine iE4 fl l2 _ _ (iA6 rfl rfl e1 (s3 _ _ h2) ?_ ?_)
  ·refine bM (zm ?_);have:=bt List.length E1;rw [aO] at this;rw [iv,iv,af,af];unfold xo at this h64 ⊢;omega
  walk_at "a";have e2':upd H' fl (.lst (iv (xo (rs.take i)) ++ iv r.outs)) tl=some (.lst (iv (qG (rs.take i)))):=by rw [nu (aX nft)];exact e2
  refine ⟨.inl ⟨rfl,_,SqL.of e2'⟩,iE5 y1 (vj a r.wd) dx1 fs _ (iA6 rfl ?_ (CT T _) (NI T _) f1 ?_)⟩
  ·rw [nu (n1 h0)];exact s3 _ _ h0
  refine iE4 tl l1 _ (iv r.ins) (iA6 rfl rfl e2' ?_ ?_ ?_)
  ·rw [nu (n1 h1)];exact s3 _ _ h1
  ·refine bM (zm ?_);have:=bt List.length E2;rw [aO] at this;rw [iv,iv,af,af];unfold qG at this h64' ⊢;omega
  refine ⟨_,iA4 rfl (λ b o hb=>?_) ?_ ?_⟩
  ·rw [nu (n2 hb),nu (n1 hb)];exact s3 _ _ hb
  ·rw [nu nft,nk,E1,zb4]
  ·rw [nk,E2,zb4]
 ·intro σ H1 m8;refine oE1 m8 λ v5 m5=>oA4 m5 λ m7 s3 e1 e2=>?_;clear m5 m8;subst m7;rw [hKs.len,aN] at e1 e2;walk_at "a";refine uc (wv T).mono ⟨gJ,⟨_,⟨.inl ⟨_,SqL.of (s3 _ _ hb),rfl⟩,?_⟩⟩⟩;rw [hB.len];refine iE3 fl (xo rs) bs.length (iA6 rfl (SqL.of e1) h64 hlb (λ g1 H2 s4=>?_) (λ g1 H2 s4=>kbad (λ z=>g1 z.2.1) _ (s3.trans s4)));walk_at "a";refine uc (wv T).mono ⟨gJ,⟨_,⟨.inl ⟨_,SqL.of (s4 _ _ (s3 _ _ hb)),rfl⟩,?_⟩⟩⟩;rw [hB.len];refine iE3 tl (qG rs) bs.length (iA6 rfl (SqL.of (s4 _ _ e2)) h64' hlb (λ g2 H3 s5=>?_) (λ g2 H3 s5=>kbad (λ z=>g2 z.2.2) _ (s3.trans (s4.trans s5))));have kok:=kok ⟨b1,g1,g2⟩;have s6:=s3.trans (s4.trans s5);clear s3 s4 s5 e1 e2;clear g1 g2;walk_at "a";walk_at "e";walk_at "a";refine ⟨bl,rfl,.inl ⟨⟨_,SqL.of (s6 _ _ hb)⟩,λ _ _ _ _ mZ hacc=>?_⟩⟩;have nacc:H mZ=none:=zA s6 hacc;let ni:Nat->St->Hp->Prop:=λ i σ H'=>∃ v us,σ=[v]/\Same H3 H'/\H' mZ=some (.lst us)/\Bts a H' (λ b=>H3 b=none/\b≠mZ) us (bs.take i);refine qH (K:=K) (a:=bl) (xs:=bvs) ni (iE2 _ ([]) (iA4 rfl (zg hacc) nk (by rw [bX];exact .nil))) (λ i σ H' _ ⟨_,_,_,s,_⟩=>SqL.of (s _ _ (s6 _ _ hb))) ?_ ?_
  ·intro i x σ H' hi m8;refine oE2 m8 λ v us m5=>oA4 m5 λ m7 s7 e1 hU=>?_;clear m5 m8;subst m7;obtain ⟨⟨rm,pc⟩,hr',hBt0⟩:=hB.at hi;refine oE3 hBt0.inv λ y1 dx1 fs m5=>oA5 m5 λ m7 p0 h0 f1 f2=>?_;clear m5;subst m7;have hok:=hbo _ (ah hr');have hil:i < bs.length:=(aa.mp hr').1;have h0':=s7 _ _ (s6 _ _ h0);walk_at "a";refine iE4 a.h _ _ _ ⟨(zfl T).mono,iE5 y1 a.h dx1 fs _ (iA6 rfl h0' T.ip T.ij f1 (iE5 y1 a.h dx1 fs _ (iA6 rfl h0' T.ip T.gW f2 ?_)))⟩;intro z dz hz hdz hne;refine iE4 z dz rm pc (iA3 rfl nk ?_);rw [ap hok,vZ];have sN:Same H' (upd (upd H' dz (.own z)) z (.ins a.h dz (bf rm pc))):=λ b o h=>by rw [nu (nz h hz),nu (nz h hdz)];exact h
   have hz':upd (upd H' dz (.own z)) z (.ins a.h dz (bf rm pc)) z=some (.ins a.h dz (bf rm pc)):=nk;generalize upd (upd H' dz (.own z)) z (.ins a.h dz (bf rm pc))=H4 at sN hz' ⊢;have hzn:z≠mZ:=λ q=>by rw [q,e1] at hz;cases hz
   refine ⟨rfl,⟨_,iA3 (sN _ _ e1) (zm (by have:=hU.len;rw [aP] at this;omega)) (iE2 _ (us ++ [.ref z]) (iA4 rfl (λ b o hb=>?_) nk ?_))⟩⟩
   ·rw [nu (nz hb hacc)];exact sN _ _ (s7 _ _ hb)
   ·rw [aK,hr'];refine Bts.push (hU.keep λ b o hp hb=>⟨hp,by rw [nu hp.2];exact sN _ _ hb⟩) (zhe (p:=λ b=>H3 b=none/\b≠mZ) ⟨zA s7 hz,hzn⟩ (by rw [nu hzn];exact hz'))
  ·intro σ H4 m8;refine oE2 m8 λ v us m5=>oA4 m5 λ m7 s7 e1 hU=>?_;clear m5 m8;subst m7;rw [hB.len,aN] at hU;have s8:=s6.trans s7;have nacy:mZ≠y:=(nz hy nacc).symm;walk_at "a";refine iE4 y a.r dx ([]) (iA6 rfl (s8 _ _ hy) T.gm T.gU (by decide) ?_);have o9:Own H (upd H4 y (.ins a.r dx (zQ "belts" (.ref mZ) []))) y:=(Same.own s8).trans jv;have hy9:upd H4 y (.ins a.r dx (zQ "belts" (.ref mZ) [])) y=some (.ins a.r dx (zQ "belts" (.ref mZ) [])):=nk;have e9:upd H4 y (.ins a.r dx (zQ "belts" (.ref mZ) [])) mZ=some (.lst us):=by rw [nu nacy];exact e1
   have hU9:Bts a (upd H4 y (.ins a.r dx (zQ "belts" (.ref mZ) []))) (λ b=>H b=none/\b≠y) us bs:=hU.keep λ b o hp hb=>by
    have q1:H b=none:=zA s6 hp.1;have q2:b≠y:=(nz hy q1).symm;exact ⟨⟨q1,q2⟩,by rw [nu q2];exact hb⟩
   generalize upd H4 y (.ins a.r dx (zQ "belts" (.ref mZ) []))=H5 at o9 hy9 e9 hU9 ⊢;walk_at "a";walk_at "e";walk_at "a";refine ⟨kl,rfl,.inl ⟨⟨_,SqL.of (o9 _ _ nky hk)⟩,λ _ _ _ _ ac2 hac2=>?_⟩⟩;let nj:Nat->St->Hp->Prop:=λ i σ H'=>∃ v us2,σ=[v]/\Same H5 H'/\H' ac2=some (.lst us2)/\Kns a H' (λ b=>H5 b=none/\b≠ac2) us2 (rs.take i);refine qH (K:=K) (a:=kl) (xs:=m9) nj (iE2 _ ([]) (iA4 rfl (zg hac2) nk (by rw [bX];exact .nil))) (λ i σ H' _ ⟨_,_,_,s,_⟩=>SqL.of (s _ _ (o9 _ _ nky hk))) ?_ ?_
   ·intro i x σ H' hi m8;refine oE2 m8 λ v us2 m5=>oA4 m5 λ m7 s10 e2 hV=>?_;clear m5 m8;subst m7;obtain ⟨r,hr',hKn⟩:=hKs.at hi;have hok:=hro _ (ah hr');have hil:i < rs.length:=(aa.mp hr').1;have hKn':KnP a H' p x r:=hKn.keep λ b o hp hb=>⟨hp,s10 _ _ (o9 _ _ (hpy b hp) hb)⟩;refine oE6 hKn'.inv λ y1 dx1 l1 l2 l3 fs m5=>oA9 m5 λ m7 p0 p1 p2 p3 h0 f1 f2 n6=>oA5 n6 λ f3 h1 h2 h3 h4=>?_;clear m5 n6;subst m7;walk_at "a";refine iE7 y1 (vj a r.wd) dx1 fs _ _ _ (iA5 rfl h0 f3 ((zfb T r.wd).mono) ?_);refine iE3 y1 r p (iA5 rfl hKn' rfl hok (λ v' H6 s11 hN=>?_));refine ⟨_,iA3 (s11 _ _ e2) (zm (by have:=hV.len;rw [aP] at this;omega)) (iE2 _ (us2 ++ [v']) (iA4 rfl (λ b o hb=>?_) nk ?_))⟩
    ·rw [nu (nz hb hac2)];exact s11 _ _ (s10 _ _ hb)
    ·rw [aK,hr'];refine Kns.append (hV.keep λ b o hp hb=>⟨hp,by rw [nu hp.2];exact s11 _ _ hb⟩) (Kns.one (hN.keep λ b o hp hb=>?_));have q2:b≠ac2:=λ z=>by rw [z] at hp;rw [New,e2] at hp;cases hp
     exact ⟨⟨zA s10 hp,q2⟩,by rw [nu q2];exact hb⟩
   ·intro σ H6 m8;refine oE2 m8 λ v us2 m5=>oA4 m5 λ m7 s10 e2 hV=>?_;clear m5 m8;subst m7;rw [hKs.len,aN] at hV;have hy10:=s10 _ _ hy9;walk_at "a";refine iE4 y a.r dx _ (iA6 rfl hy10 T.gm T.gj (by show 1 < 1000;decide) ?_);have n2y:ac2≠y:=λ z=>by rw [z,hy9] at hac2;cases hac2
    have ho:∀ b,H5 b=none->b≠y->H b=none:=λ b h1 h2=>by
     cases e:H b with
     | none=>rfl
     | some o=>rw [o9 b o h2 e] at h1;cases h1
    refine kok _ mZ ac2 us us2 ((o9.trans (Same.own s10)).trans jv) nk ?_ ?_ ?_ ?_ nacc (ho _ hac2 n2y)
    ·rw [nu nacy];exact s10 _ _ e9
    ·rw [nu n2y];exact e2
    ·exact hU9.keep λ b o hp hb=>⟨hp.1,by rw [nu hp.2];exact s10 _ _ hb⟩
    ·refine hV.keep λ b o hp hb=>?_;have q:b≠y:=λ z=>by rw [z,hy9] at hp;cases hp.1
     exact ⟨ho b hp.1 q,by rw [nu q];exact hb⟩
def zfk (T:Txt K mg a):KCal P w K mg base "Work" a.r 5 ["self","belts","knots"] [] (ZB K a):=T.lD.cal T.mU (VC T)
noncomputable def ziX (b:Int × Int):D:=.tup [.int b.1,.int b.2]
def Jv (n:Nat):(rgI n).length=n:=by simp [rgI]
def zaB (n:Nat):rgI (n + 1)=rgI n ++ [(n:Int)]:=by simp [rgI,range_succ]
def zP (ns:A6):(iv ns).length=ns.length:=by rw [iv,af]
def Q4 {x:V} (h:(iv ns)[i]?=some x):∃ n,ns[i]?=some n/\x=.int n:=by
 rw [iv,ak,am] at h;obtain ⟨n,h1,h2⟩:=h;exact ⟨n,h1,h2.symm⟩
def jr {n:Int} (h:ns[i]?=some n):(iv ns)[i]?=some (.int n):=by rw [iv,ak,h];rfl
def zfo (ns:A6) (k:Nat):(iv ns).eraseIdx k=iv (ns.eraseIdx k):=by
 induction ns generalizing k with
 | nil=>simp [iv]
 | cons n ns ih =>
  cases k with
  | zero=>simp [iv]
  | succ k=>simpa [iv] using ih k
def jw (ns:A6) (n:Int):iv ns ++ [.int n]=iv (ns ++ [n]):=by simp [iv]
structure WInv (bs:A1) (rs:At) (es ks:A6):Prop where
 tk:(qG rs ++ es).Perm (rgI bs.length)
 fd:(xo rs ++ ks).Perm (rgI bs.length)
 ro:∀ r∈rs,r.ok
 bo:∀ b∈bs,zz b.1 b.2
def zce (rs:At) (r:Row):xo (rs ++ [r])=xo rs ++ r.outs:=by simp [xo]
def WX (rs:At) (r:Row):qG (rs ++ [r])=qG rs ++ r.ins:=by simp [qG]
def VS {us:Ap} (h:us.length=n + 1):∃ a vs,us=a :: vs/\vs.length=n:=by
 cases us with
 | nil=>cases h
 | cons a vs=>exact ⟨a,vs,rfl,Nat.succ.inj h⟩
def two_of {us:Ap} (h:us.length=2):∃ a b,us=[a,b]:=by
 obtain ⟨a,_,rfl,h1⟩:=VS h;obtain ⟨b,_,rfl,h2⟩:=VS h1;exact ⟨a,b,by rw [cy.mp h2]⟩
theorem zaH:∀ {es:A6} {j:Nat} {y:Int},es[j]?=some y->(y :: es.eraseIdx j).Perm es
 | [],_,_,h=>by simp at h
 | e :: es,0,y,h=>by
  have h:e=y:=by simpa using h
  subst h;simp
 | e :: es,j + 1,y,h=>by
  have ih:=zaH (es:=es) (j:=j) (y:=y) (by simpa using h);rw [List.eraseIdx_cons_succ];exact (List.Perm.swap e y _).trans (ih.cons e)
def zgw {x:Int} (h:x∈rgI n):0<=x/\x < n:=by
 unfold rgI at h;obtain ⟨i,hi,rfl⟩:=aV.mp h;have:=bu.mp hi;omega
def jJ {b:Int × Int} (h:Rep H p v (ziX b)):∃ t,v=.ref t/\H t=some (.tup [.int b.1,.int b.2]):=by
 obtain ⟨t,us,rfl,_,ht,rr⟩:=Rep.tup' h;have g:=rr.g;obtain ⟨x0,x1,rfl⟩:=two_of rr.len;have a0:=g 0 x0 _ rfl rfl;have a1:=g 1 x1 _ rfl rfl;cases a0;cases a1;exact ⟨t,rfl,ht⟩
noncomputable def qq (a:Ad) (bs:A1) (rs:At):D:=.ob a.r [("belts",.lst (bs.map (wt a))),("knots",.lst (rs.map (Zu a)))]
def zim {l1 l2:Addr}:wf l1 l2=([(("belts":Str),V.ref l1),(("knots":Str),V.ref l2)]:Ar):=by
 unfold wf;simp only [zQ];rw [ao (by decide +kernel)]
def V3 {a:Ad} {rs:At}:([("belts",.lst (bs.map (wt a))),("knots",.lst (rs.map (Zu a)))]:List (Str × D)).lookup ("belts":Str)=some (.lst (bs.map (wt a))):=jf
def zeo {a:Ad} {rs:At}:([("belts",.lst (bs.map (wt a))),("knots",.lst (rs.map (Zu a)))]:List (Str × D)).lookup ("knots":Str)=some (.lst (rs.map (Zu a))):=(zT (by decide +kernel)).trans jf
def zil {a:Ad} {rs:At} {f:Str} (h1:f≠"belts") (h2:f≠"knots"):([("belts",.lst (bs.map (wt a))),("knots",.lst (rs.map (Zu a)))]:List (Str × D)).lookup f=none:=(zT h1).trans (zT h2)
def ze4 {x b:Addr} (h:H x=some o) (hb:H b=none):b ∉ [x]:=λ z=>by rw [aw.mp z,h] at hb;cases hb
section
variable {H:Hp} {z dz:Addr} {Q:VK} {EX:XK}
def zgv {rm pc:Int} (hz:H z=none) (hdz:H dz=none) (ok:zz rm pc) (k:∀ H',Same H H'->BtP a H' (New H) (.ref z) (rm,pc)->Q .non H'):ZC a.h a.c [.ref z,.int rm,.int pc] (upd (upd H dz (.own z)) z (.ins a.h dz [])) Q EX:=by
 refine iE4 z dz rm pc (iA3 rfl nk ?_);rw [ap ok,vZ];exact k _ (λ b o h=>by rw [nu (nz h hz),nu (nz h hdz)];exact h) (zhe hz nk)
def zfa {y pc:Int} (hz:H z=none) (hdz:H dz=none) (h0:0<=pc) (h4:pc<=4) (k:∀ H',Same H H'->KnP a H' (New H) (.ref z) ⟨.drain,[y],[],pc,[]⟩->Q .non H'):xZ a.k a.d [.ref z,.int y,.int pc] (upd (upd H dz (.own z)) z (.ins a.k dz [])) Q EX:=by
 refine iE4 z dz (.int y) pc (iA3 rfl nk ?_);rw [ap ⟨h0,h4⟩];intro H' m1 m2 s' g1 g2 g3 n1 n2;exact k _ (Own.of_new hz hdz s') (za3 (p:=New H) (ins:=[y]) (outs:=[]) hz (zM n1) (zM n2) g1 g2 g3)
def Wu {y pc:Int} {kd:A6} (hz:H z=none) (hdz:H dz=none) (hl:H l=some (.lst (iv kd))) (h1:1<=pc) (h4:pc<=4) (k1:1<=kd.length) (k6:kd.length<=6) (kk:Qm kd) (k:∀ H',Same H H'->KnP a H' (New H) (.ref z) ⟨.source,[],[y],pc,kd⟩->Q .non H'):wP K a.j a.d [.ref z,.int y,.int pc,.ref l] (upd (upd H dz (.own z)) z (.ins a.j dz [])) Q EX:=by
 refine iE6 z dz l (.int y) pc kd (iA6 rfl nk (SqL.of (qw hz hdz hl)) (nz hl hz) (λ _ H' m1 m2 m3 s' g1 g2 g3 g4 n1 n2 n3=>?_) (λ hbad=>absurd (iA5 h1 h4 k1 k6 kk) hbad));exact k _ (Own.of_new hz hdz s') (Wz (p:=New H) (ins:=[]) (outs:=[y]) hz (zM n1) (zM n2) (zM n3) g1 g2 g3 g4)
def QK {y:Int} {outs:A6} (hz:H z=none) (hdz:H dz=none) (hl:H l=some (.lst (iv outs))) (h2:2<=outs.length) (h4:outs.length<=4) (k:∀ H',Same H H'->KnP a H' (New H) (.ref z) ⟨.parter,[y],outs,0,[]⟩->Q .non H'):qJ K a.l a.d [.ref z,.int y,.ref l] (upd (upd H dz (.own z)) z (.ins a.l dz [])) Q EX:=by
 refine iE5 z dz l (.int y) (iv outs) (iA5 rfl nk (SqL.of (qw hz hdz hl)) (nz hl hz) ?_);rw [ap (by rw [zP];exact ⟨h2,h4⟩)];intro H' m1 m2 s' g1 g2 g3 n1 n2;exact k _ (Own.of_new hz hdz s') (WA (p:=New H) (ins:=[y]) (outs:=outs) hz (zM n1) (zM n2) g1 g2 g3)
def ze9 {y:Int} {outs:A6} (hz:H z=none) (hdz:H dz=none) (hl:H l=some (.lst (iv outs))) (h2:2<=outs.length) (h4:outs.length<=4) (k:∀ H',Same H H'->KnP a H' (New H) (.ref z) ⟨.first,[y],outs,0,[]⟩->Q .non H'):qJ K a.m a.d [.ref z,.int y,.ref l] (upd (upd H dz (.own z)) z (.ins a.m dz [])) Q EX:=by
 refine iE5 z dz l (.int y) (iv outs) (iA5 rfl nk (SqL.of (qw hz hdz hl)) (nz hl hz) ?_);rw [ap (by rw [zP];exact ⟨h2,h4⟩)];intro H' m1 m2 s' g1 g2 g3 n1 n2;exact k _ (Own.of_new hz hdz s') (za2 (p:=New H) (ins:=[y]) (outs:=outs) hz (zM n1) (zM n2) g1 g2 g3)
def ze8 {y kk:Int} {outs:A6} (hz:H z=none) (hdz:H dz=none) (hl:H l=some (.lst (iv outs))) (h2:outs.length=2) (k0:0<=kk) (k1:kk < jW) (k:∀ H',Same H H'->KnP a H' (New H) (.ref z) ⟨.sieve,[y],outs,0,[kk]⟩->Q .non H'):vB K a.n a.d [.ref z,.int y,.ref l,.int kk] (upd (upd H dz (.own z)) z (.ins a.n dz [])) Q EX:=by
 refine iE6 z dz l (.int y) (iv outs) kk (iA5 rfl nk (SqL.of (qw hz hdz hl)) (nz hl hz) ?_);rw [ap (by rw [zP];exact ⟨h2,k0,k1⟩)];intro H' m1 m2 s' g1 g2 g3 n1 n2;exact k _ (Own.of_new hz hdz s') (za1 (p:=New H) (ins:=[y]) (outs:=outs) hz (zM n1) (zM n2) g1 g2 g3)
def QL {y:Int} {ins:A6} (hz:H z=none) (hdz:H dz=none) (hl:H l=some (.lst (iv ins))) (h2:2<=ins.length) (h4:ins.length<=4) (k:∀ H',Same H H'->KnP a H' (New H) (.ref z) ⟨.joiner,ins,[y],0,[]⟩->Q .non H'):jD K a.o a.d [.ref z,.ref l,.int y] (upd (upd H dz (.own z)) z (.ins a.o dz [])) Q EX:=by
 refine iE5 z dz l (.int y) (iv ins) (iA5 rfl nk (SqL.of (qw hz hdz hl)) (nz hl hz) ?_);rw [ap (by rw [zP];exact ⟨h2,h4⟩)];intro H' m1 m2 s' g1 g2 g3 n1 n2;exact k _ (Own.of_new hz hdz s') (WB (p:=New H) (ins:=ins) (outs:=[y]) hz (zM n1) (zM n2) g1 g2 g3)
end
def WInv.knot {rs:At} {es ks es' ks':A6} {r:Row} (h:WInv bs rs es ks) (pe:(r.ins ++ es').Perm es) (pk:(r.outs ++ ks').Perm ks) (ok:r.ok):WInv bs (rs ++ [r]) es' ks':=by
 refine ⟨?_,?_,λ x hx=>?_,h.bo⟩
 ·rw [WX,ck];exact (b5 _ pe).trans h.tk
 ·rw [zce,ck];exact (b5 _ pk).trans h.fd
 ·rcases aE.mp hx with hx|hx
  ·exact h.ro x hx
  ·rw [aw.mp hx];exact ok
def WInv.perm {rs:At} {es ks es' ks':A6} (h:WInv bs rs es ks) (pe:es'.Perm es) (pk:ks'.Perm ks):WInv bs rs es' ks':=⟨(b5 _ pe).trans h.tk,(b5 _ pk).trans h.fd,h.ro,h.bo⟩
def WInv.belt {rs:At} {es ks:A6} {b:Int × Int} (h:WInv bs rs es ks) (hb:zz b.1 b.2):WInv (bs ++ [b]) rs (es ++ [(bs.length:Int)]) (ks ++ [(bs.length:Int)]):=by
 refine ⟨?_,?_,h.ro,λ x hx=>?_⟩
 ·rw [aO,eI,zaB,<- ck];exact fk _ h.tk
 ·rw [aO,eI,zaB,<- ck];exact fk _ h.fd
 ·rcases aE.mp hx with hx|hx
  ·exact h.bo x hx
  ·rw [aw.mp hx];exact hb
noncomputable abbrev ms3 (L R E:Addr):List Addr:=[L,R,E]
structure GS (a:Ad) (H0 H:Hp) (L R E:Addr) (bs:A1) (rs:At) (es:A6):Prop where
 f:Fr (ms3 L R E) H0 H
 nLR:L≠R
 nLE:L≠E
 nRE:R≠E
 hL:∃ bvs,H L=some (.lst bvs)/\Reps H (Off (ms3 L R E)) bvs (bs.map (wt a))
 hR:∃ rvs,H R=some (.lst rvs)/\Reps H (Off (ms3 L R E)) rvs (rs.map (Zu a))
 hE:H E=some (.lst (iv es))
section
variable {H0 H H':Hp} {L R E:Addr} {bs bs':A1} {rs rs':At} {es es':A6}
def GS.same (w:GS a H0 H L R E bs rs es) (s:Same H H'):GS a H0 H' L R E bs rs es:=by
 obtain ⟨bvs,h1,r1⟩:=w.hL;obtain ⟨rvs,h2,r2⟩:=w.hR;exact { w with f:=w.f.trans s.fr,hL:=⟨bvs,s _ _ h1,r1.same s⟩,hR:=⟨rvs,s _ _ h2,r2.same s⟩,hE:=s _ _ w.hE }
def GS.off (w:GS a H0 H L R E bs rs es) {x:Addr} (h:H x=none):x ∉ ms3 L R E:=λ z=>by
 obtain ⟨bvs,h1,_⟩:=w.hL;obtain ⟨rvs,h2,_⟩:=w.hR;have h3:=w.hE;simp only [ax,bj,bQ] at z;rcases z with rfl|rfl|rfl
 ·rw [h1] at h;cases h
 ·rw [h2] at h;cases h
 ·rw [h3] at h;cases h
def GS.here (w:GS a H0 H L R E bs rs es):GS a H H L R E bs rs es:={ w with f:=Fr.refl }
def GS.trans (w:GS a H0 H L R E bs rs es) (v:GS a H H' L R E bs' rs' es'):GS a H0 H' L R E bs' rs' es':={ v with f:=w.f.trans v.f }
def GS.setE (w:GS a H0 H L R E bs rs es) (es':A6):GS a H0 (upd H E (.lst (iv es'))) L R E bs rs es':=by
 obtain ⟨bvs,h1,r1⟩:=w.hL;obtain ⟨rvs,h2,r2⟩:=w.hR;have f:Fr (ms3 L R E) H (upd H E (.lst (iv es'))):=ji (by simp);exact { w with f:=w.f.trans f,hL:=⟨bvs,by rw [nu w.nLE];exact h1,r1.fr f⟩,hR:=⟨rvs,by rw [nu w.nRE];exact h2,r2.fr f⟩,hE:=nk }
def GS.addL (w:GS a H0 H L R E bs rs es) {H1:Hp} {b:Int × Int} {bvs:Ap} (e:H L=some (.lst bvs)) (s:Same H H1) (q:BtP a H1 (New H) v b):GS a H0 (upd H1 L (.lst (bvs ++ [v]))) L R E (bs ++ [b]) rs es/\bvs.length=bs.length:=by
 have w1:=w.same s;obtain ⟨bvs',h1,r1⟩:=w1.hL;rw [s _ _ e] at h1;cases h1;obtain ⟨rvs,h2,r2⟩:=w1.hR;have f:Fr (ms3 L R E) H1 (upd H1 L (.lst (bvs ++ [v]))):=ji (by simp);refine ⟨{ w1 with f:=w1.f.trans f,hL:=⟨_,nk,?_⟩,hR:=⟨rvs,by rw [nu w.nLR.symm];exact h2,r2.fr f⟩,hE:=by rw [nu w.nLE.symm];exact w1.hE },by rw [r1.len,af]⟩;rw [a7];exact (r1.fr f).append (.one (Rep.fr (q.keep λ b o hb ho=>⟨w.off hb,ho⟩) f))
def GS.addR (w:GS a H0 H L R E bs rs es) {H1:Hp} {r:Row} {rvs:Ap} (e:H R=some (.lst rvs)) (s:Same H H1) (q:KnP a H1 (New H) v r):GS a H0 (upd H1 R (.lst (rvs ++ [v]))) L R E bs (rs ++ [r]) es/\rvs.length=rs.length:=by
 have w1:=w.same s;obtain ⟨bvs,h1,r1⟩:=w1.hL;obtain ⟨rvs',h2,r2⟩:=w1.hR;rw [s _ _ e] at h2;cases h2;have f:Fr (ms3 L R E) H1 (upd H1 R (.lst (rvs ++ [v]))):=ji (by simp);refine ⟨{ w1 with f:=w1.f.trans f,hL:=⟨bvs,by rw [nu w.nLR];exact h1,r1.fr f⟩,hR:=⟨_,nk,?_⟩,hE:=by rw [nu w.nRE.symm];exact w1.hE },by rw [r2.len,af]⟩;rw [a7];exact (r2.fr f).append (.one (Rep.fr (q.keep λ b o hb ho=>⟨w.off hb,ho⟩) f))
end
def zeI {α:Type} (xs:List α) (k:Nat):(xs.drop k ++ xs.take k).Perm xs:=by
 refine List.perm_append_comm.trans ?_;rw [fE]
def zfG (xs:Ap) (k:Nat) (h:k<=xs.length):XB xs (some (k:Int)) none=xs.drop k:=by
 unfold XB;rw [HT.sIx_nat,HT.sIx_none,Nat.min_eq_left h];exact dc (by rw [dN];omega)
def zfF (xs:Ap) (n:Nat):XB xs none (some (n:Int))=xs.take n:=by
 have h:=HT.sIx_nat xs.length xs.length n;unfold XB;rw [HT.sIx_none,h,Nat.sub_zero,List.drop_zero];by_cases e:n<=xs.length
 ·rw [Nat.min_eq_left e]
 ·rw [Nat.min_eq_right (by omega),aN,dc (by omega)]
def zcJ {z dz L R:Addr} {Q:VK} {EX:XK} {bvs rvs:Ap} {rs:At} {p q:A5} (hz:H z=none) (hdz:H dz=none) (hL:H L=some (.lst bvs)) (hR:H R=some (.lst rvs)) (rB:Reps H p bvs (bs.map (wt a))) (rK:Reps H q rvs (rs.map (Zu a))) (mX:zJ bs rs) (bo:∀ b∈bs,zz b.1 b.2) (ro:∀ r∈rs,r.ok)
  (k:∀ H',Same H H'->Rep H' (Off []) (.ref z) (qq a bs rs)->Q .non H'):ZB K a [.ref z,.ref L,.ref R] (upd (upd H dz (.own z)) z (.ins a.r dz [])) Q EX:=by
 have lb:=mX.1.1.2;refine ⟨z,dz,L,R,bvs,rvs,bs,rs,λ b=>b≠z,rfl,nk,nz hL hz,nz hR hz,λ _ h=>h,qw hz hdz hL,qw hz hdz hR,
  (Bts.of rB).keep λ b o _ hb=>⟨nz hb hz,qw hz hdz hb⟩,(Kns.of rK).keep λ b o _ hb=>⟨nz hb hz,qw hz hdz hb⟩,bo,ro,by rw [mX.2.1.length_eq,Jv];omega,by rw [mX.2.2.length_eq,Jv];omega,by omega,λ _ H4 m1 m2 bv kv o4 g0 g1 g2 gB gK n1 n2=>?_,λ y=>absurd mX y⟩
 refine k _ (Own.of_new hz hdz o4) ?_;rw [zim] at g0;exact w9 (λ z=>nomatch z) g0 rfl (.cons (gB.reps.all.mk' (λ z=>nomatch z) g1) (.cons (gK.reps.all.mk' (λ z=>nomatch z) g2) .nil))
def WInv.work {rs rs':At} (h:WInv bs rs [] []) (pm:rs'.Perm rs) (b24:bs.length<=24) (r1:1<=rs.length) (r24:rs.length<=24):zJ bs rs'/\(∀ r∈rs',r.ok):=by
 have tk:=h.tk;have fd:=h.fd;rw [cg] at tk fd;have pl:=pm.length_eq;have b1:1<=bs.length:=by
  obtain ⟨r,rs0,rfl⟩:=cO (dM (by omega:0 < rs.length));have ok:=h.ro r (by simp);have lt:=tk.length_eq;have lf:=fd.length_eq;rw [Jv] at lt lf;have e1:(qG (r :: rs0)).length=r.ins.length + (qG rs0).length:=by simp [qG]
  have e2:(xo (r :: rs0)).length=r.outs.length + (xo rs0).length:=by simp [xo]
  have:1<=r.ins.length + r.outs.length:=by
   obtain ⟨wd,ins,outs,pc,kd⟩:=r;cases wd
   ·obtain ⟨_,⟨o,q⟩,_⟩:=ok;simp only at q;subst q;simp
   ·obtain ⟨⟨o,q⟩,_⟩:=ok;simp only at q;subst q;simp
   ·obtain ⟨⟨o,q⟩,_⟩:=ok;simp only at q;subst q;simp
   ·obtain ⟨⟨o,q⟩,_⟩:=ok;simp only at q;subst q;simp
   ·obtain ⟨⟨o,q⟩,_⟩:=ok;simp only at q;subst q;simp
   ·obtain ⟨⟨o,q⟩,_⟩:=ok;simp only at q;subst q;simp
  omega
 refine ⟨⟨⟨⟨b1,b24⟩,by omega,by omega⟩,?_,?_⟩,λ r hr=>h.ro r (pm.mem_iff.mp hr)⟩
 ·exact (pm.flatMap_right _).trans fd
 ·exact (pm.flatMap_right _).trans tk
def Told (H:Hp) (v:V) (r:Option Ap):Prop:=match r with
 | none=>v=.non
 | some xs=>∃ p,v=.ref p/\H p=some (.tup xs)
def Told.same {H H':Hp} {r:Option Ap} (h:Told H v r) (s:Same H H'):Told H' v r:=by
 cases r with
 | none=>exact h
 | some xs=>exact let ⟨p,e,hp⟩:=h;⟨p,e,s _ _ hp⟩
theorem JM:∀ {xs:Ap},xs.all wK=true->xn xs xs=true
 | [],_=>rfl
 | x :: xs,h=>by
  rw [all_cons,cH] at h;show (eqV x x && xn xs xs)=true
  rw [JM h.2,dI];cases x <;> first|rfl|(simp [eqV];done)|(have:=h.1;cases this)
noncomputable def Va (side:V) (p:Int) (t:Int) (b:Bool):Option Ap:=if b=true/\t % p=0 then some [.non,.int 0,side] else none
def JF (K:A0) (C:Addr):Sp:=λ vs H Q _=>∃ (y dx l1 l2 l3 fl:Addr) (p t:Int) (hs side:V) (b:Bool) (bs:Ap),vs=[.ref y,hs,.ref fl,.int t,side]/\H y=some (.ins C dx (sf l1 l2 p l3))/\1<=p /\
 SqL K H fl (.bl b :: bs)/\∀ v H',Same H H'->Told H' v (Va side p t b)->Q v H'
theorem Jj (T:Txt K mg a):MCal P w K mg base a.j "choice" 1 ["self","heads","free","turn","side"] [] (JF K a.j):=T.iP.cal T.gy λ F=>by
 refine F.okx Qt ?_ ?_
 ·walk_at "i"
 walk_at "k";refine oE8 h λ y dx l1 l2 l3 fl p t m5=>oE4 m5 λ hs side b bs m7=>oA5 m7 λ n6 hy p1 hf k=>?_;clear m5 m7 h;subst n6;unfold Va at k;walk_at "T";refine ⟨_,(zi (zL (PW.pt (pw_or (jP (qO (zn (pq 2) zf) (λ _=>rfl))) (pw_or1 (zx (zaL hr.units1) (zG qT (pq 3) (zk (pq 0) rfl)) zf (zy _)))))  (ze (zl zE))  zt)  (ze (zl (qS (za zE (za zf (za (pq 4) zc))))))),?_⟩;walk_at "a";refine zq hf at0 ?_;walk_at "a";cases b with
 | false =>
  rw [ao (by simp)] at k;walk_at "a";exact k _ _ (Same.refl _) rfl
 | true =>
  walk_at "a";refine ra hy T.gy T.gH zf8 ?_;walk_at "a";refine zZ (λ h=>?_) (λ h=>?_)
  ·rw [ao (λ z=>h z.2)] at k;walk_at "a";exact k _ _ (Same.refl _) rfl
  ·rw [ap ⟨rfl,fJ h⟩] at k;walk_at "a";intro q hq;exact k _ _ (zg hq) ⟨q,rfl,nk⟩
noncomputable def zcg (side:V) (p:Int) (t:Int) (hd:V):Option Ap:=if p=0\/hd=.non\/t % p≠0 then none else some [.int 0,.non,side]
def XM (K:A0) (C:Addr):Sp:=λ vs H Q _=>∃ (y dx l1 l2 hl:Addr) (p t:Int) (fr side:V) (hd:V) (hs:Ap),vs=[.ref y,.ref hl,fr,.int t,side]/\H y=some (.ins C dx (df l1 l2 p))/\0<=p/\p<=4 /\
 SqL K H hl (hd :: hs)/\∀ v H',Same H H'->Told H' v (zcg side p t hd)->Q v H'
def Xr (T:Txt K mg a):MCal P w K mg base a.k "choice" 1 ["self","heads","free","turn","side"] [] (XM K a.k):=T.kb.cal T.gF λ F=>by
 refine F.okx Jg ?_ ?_
 ·walk_at "i"
 walk_at "k";refine oE8 h λ y dx l1 l2 hl p t fr m5=>oE3 m5 λ side hd hs m7=>oA6 m7 λ n6 hy p0 p4 hh k=>?_;clear m5 m7 h;subst n6;unfold zcg at k;walk_at "T";refine ⟨_,(zi (zL (zx (vJ hr.units1) (zk (pq 0) rfl) zf (zy _))  (ze (zl zE))  zt)  (zi (zL (PW.pt (pw_or (zx jq (zn (pq 1) zf) zE (zy _)) (pw_or1 (zx (zaL hr.units1) (zG qT (pq 3) (zk (pq 0) rfl)) zf (zy _)))))  (ze (zl zE))  zt)  (ze (zl (qS (za zf (za zE (za (pq 4) zc)))))))),?_⟩;walk_at "a";refine ra hy T.gF T.gz VP ?_;walk_at "a";refine zZ (λ h1=>?_) (λ h1=>?_)
 ·rw [ap (.inl h1)] at k;walk_at "a";exact k _ _ (Same.refl _) rfl
 ·walk_at "a";refine zq hh at0 ?_;walk_at "a";refine zZ (λ h2=>?_) (λ h2=>?_)
  ·rw [ap (.inr (.inl h2))] at k;walk_at "a";exact k _ _ (Same.refl _) rfl
  ·walk_at "a";refine ra hy T.gF T.gz VP ?_;walk_at "a";refine And.intro (by omega) ?_;refine zZ (λ h3=>?_) (λ h3=>?_)
   ·rw [ap (.inr (.inr h3))] at k;walk_at "a";exact k _ _ (Same.refl _) rfl
   ·rw [ao (λ z=>z.elim h1 λ z=>z.elim h2 h3)] at k;walk_at "a";intro q hq;exact k _ _ (zg hq) ⟨q,rfl,nk⟩
noncomputable def zg8 (n:Nat) (p:Option Nat):Option Ap:=p.map λ (p:Nat)=>[.int 0,.int p,.int ((p + 1) % n:Nat)]
def JI (K:A0) (C:Addr):Sp:=λ vs H Q _=>∃ (y dx l1 l2 hl fl:Addr) (turn:V) (side:Nat) (hd:V) (hs outs:Ap) (bs:Ai),vs=[.ref y,.ref hl,.ref fl,turn,.int side]/\H y=some (.ins C dx (kf l1 l2))/\H l2=some (.lst outs) /\
 SqL K H hl (hd :: hs)/\SqL K H fl (bs.map V.bl)/\bs.length=outs.length/\bs.length<=1000 /\
 ∀ v H',Same H H'->Told H' v (if hd=.non then none else zg8 bs.length (jR bs side))->Q v H'
theorem Jl (T:Txt K mg a):MCal P w K mg base a.l "choice" 3 ["self","heads","free","turn","side"] [] (JI K a.l):=T.iR.cal T.gP λ F=>by
 refine F.okx Qv ?_ ?_
 ·walk_at "i"
 walk_at "k";refine oE8 h λ y dx l1 l2 hl fl turn side m5=>oE4 m5 λ hd hs outs bs m7=>oA8 m7 λ n6 hy h2 hh hf hbl hb k=>?_;clear m5 m7 h;subst n6;walk_at "T";refine ⟨_,(zi (zp 5 Qv.nd (zw ⟨rfl,rfl,rfl⟩ hr (za (zn (pq 1) zf) (za (pq 2) (za (pq 4) zc)))))  (zi (zL (zx jq (pq 5) zE (zy _))  (ze (zl zE))  zt)  (ze (zl (qS (za zf (za (pq 5) (za (zG qT (zG qm (pq 5) zf) (z7 qe qd (za (zk (pq 0) rfl) zc))) zc)))))))),?_⟩;walk_at "a";refine iE3 _ _ _ ⟨wO T,zq hh at0 (iE4 hd fl bs side (iA4 rfl hf hb ?_))⟩;by_cases hn:hd=.non
 ·rw [ap hn] at k ⊢;walk_at "a";exact k _ _ (Same.refl _) rfl
 ·rw [ao hn] at k ⊢;cases hp:jR bs side with
  | none =>
   rw [hp] at k;simp only [Zo];walk_at "a";exact k _ _ (Same.refl _) rfl
  | some p =>
   rw [hp] at k;simp only [Zo];have hlt:=wL hp;walk_at "a";refine ra hy T.gP T.gI zgz ⟨_,.inl ⟨_,SqL.of h2,rfl⟩,?_⟩;walk_at "a";rw [<- hbl];refine And.intro (by omega) ?_;walk_at "a";intro q hq;have e:((p:Int) + 1) % (bs.length:Int)=(((p + 1) % bs.length:Nat):Int):=by push_cast;rfl
   rw [e];exact k _ _ (zg hq) ⟨q,rfl,nk⟩
noncomputable def zfy (side:V) (p:Option Nat):Option Ap:=p.map λ (p:Nat)=>[.int 0,.int p,side]
def XL (K:A0):Sp:=λ vs H Q _=>∃ (y hl fl:Addr) (turn side:V) (hd:V) (hs:Ap) (bs:Ai),vs=[.ref y,.ref hl,.ref fl,turn,side] /\
 SqL K H hl (hd :: hs)/\SqL K H fl (bs.map V.bl)/\bs.length<=1000/\∀ v H',Same H H'->Told H' v (if hd=.non then none else zfy side (jR bs 0))->Q v H'
theorem vP (T:Txt K mg a):MCal P w K mg base a.m "choice" 3 ["self","heads","free","turn","side"] [] (XL K):=T.hX.cal T.gx λ F=>by
 refine F.okx vt ?_ ?_
 ·walk_at "i"
 walk_at "k";refine oE8 h λ y hl fl turn side hd hs bs m5=>oA5 m5 λ m7 hh hf hb k=>?_;clear m5 h;subst m7;walk_at "T";refine ⟨_,(zi (zp 5 vt.nd (zw ⟨rfl,rfl,rfl⟩ hr (za (zn (pq 1) zf) (za (pq 2) (za zf zc)))))  (zi (zL (zx jq (pq 5) zE (zy _))  (ze (zl zE))  zt)  (ze (zl (qS (za zf (za (pq 5) (za (pq 4) zc)))))))),?_⟩;walk_at "a";refine iE3 _ _ _ ⟨wO T,zq hh at0 (iE4 hd fl bs 0 (iA4 rfl hf hb ?_))⟩;by_cases hn:hd=.non
 ·rw [ap hn] at k ⊢;walk_at "a";exact k _ _ (Same.refl _) rfl
 ·rw [ao hn] at k ⊢;cases hp:jR bs 0 with
  | none =>
   rw [hp] at k;simp only [Zo];walk_at "a";exact k _ _ (Same.refl _) rfl
  | some p =>
   rw [hp] at k;simp only [Zo];walk_at "a";intro q hq;exact k _ _ (zg hq) ⟨q,rfl,nk⟩
def zf3 (C:Addr):Sp:=λ vs H Q _=>∃ (y dx l1 l2:Addr) (n j:Int),vs=[.ref y,.int j]/\H y=some (.ins C dx (vf l1 l2 n))/\Q (.int (if j=n then 0 else 1)) H
def X6 (T:Txt K mg a):MCal P w K mg base a.n "place_for" 1 ["self","kind"] [] (zf3 a.n):=T.iy.cal T.gG λ F=>by
 refine F.okx ZG ?_ ?_
 ·walk_at "i"
 walk_at "k";refine oE6 h λ y dx l1 l2 n j m5=>oA3 m5 λ m7 hy k=>?_;clear m5 h;subst m7;walk_at "T";refine ⟨_,(ze (zl (xQ (zx (vJ hr.units1) (pq 1) (zk (pq 0) rfl) (zy _)) zf zf))),?_⟩;walk_at "a";refine ra hy T.gG T.ib zfZ ?_;walk_at "a";refine zZ (λ h=>?_) (λ h=>?_)
 ·rw [ap h] at k;walk_at "a";exact k
 ·rw [ao h] at k;walk_at "a";exact k
noncomputable def zby (side:V) (n:Int) (bs:Ai) (hd:V):Option Ap:=if hd=.non then none else if bs.getD (if hd=.int n then 0 else 1) false=true then some [.int 0,.int (if hd=.int n then 0 else 1),side] else none
def XJ (K:A0) (C:Addr):Sp:=λ vs H Q _=>∃ (y dx l1 l2 hl fl:Addr) (n:Int) (turn side:V) (hd:V) (hs:Ap) (bs:Ai),vs=[.ref y,.ref hl,.ref fl,turn,side]/\H y=some (.ins C dx (vf l1 l2 n)) /\
 SqL K H hl (hd :: hs)/\(hd=.non\/∃ j,hd=.int j)/\SqL K H fl (bs.map V.bl)/\bs.length=2/\∀ v H',Same H H'->Told H' v (zby side n bs hd)->Q v H'
theorem Xo (T:Txt K mg a):MCal P w K mg base a.n "choice" 2 ["self","heads","free","turn","side"] [] (XJ K a.n):=T.kg.cal T.gG λ F=>by
 refine F.okx Jd ?_ ?_
 ·walk_at "i"
 walk_at "k";refine oE8 h λ y dx l1 l2 hl fl n turn m5=>oE4 m5 λ side hd hs bs m7=>oA7 m7 λ n6 hy hh hhd hf hb k=>?_;clear m5 m7 h;subst n6;walk_at "T";refine ⟨_,(zi (zL (zx jq (zn (pq 1) zf) zE (zy _))  (ze (zl zE))  zt)  (zi (zp 5 Jd.nd (QI ⟨rfl,rfl,rfl⟩ hr (pq 0) (za (zn (pq 1) zf) zc)))  (zi (zL (jP (qO (zn (pq 2) (pq 5)) (λ _=>rfl)))  (ze (zl zE))  zt)  (ze (zl (qS (za zf (za (pq 5) (za (pq 4) zc))))))))),?_⟩;walk_at "a";refine zq hh at0 ?_;rcases hhd with rfl|⟨j,rfl⟩
 ·walk_at "a";exact k _ _ (Same.refl _) rfl
 ·walk_at "a";refine iE7 y a.n dx _ _ _ _ (iA5 rfl hy (zin (by decide +kernel) (by decide +kernel) (by decide +kernel)) (X6 T) (zq hh at0 (iE6 y dx l1 l2 n j (iA3 rfl hy ?_))));walk_at "a";obtain ⟨pp,hpp,hp2⟩:∃ pp:Nat,(if j=n then (0:Int) else 1)=pp/\pp < 2:=by split;exact ⟨0,rfl,by decide⟩;exact ⟨1,rfl,by decide⟩
  have e1:(if V.int j=V.int n then (0:Nat) else 1)=pp:=by
   by_cases h:j=n
   ·rw [ap h] at hpp;rw [ap (by rw [h])];omega
   ·rw [ao h] at hpp;rw [ao (λ z=>h (by cases z;rfl))];omega
  have e2:(if V.int j=V.int n then (0:Int) else 1)=pp:=by
   by_cases h:j=n
   ·rw [ap h] at hpp;rw [ap (by rw [h])];omega
   ·rw [ao h] at hpp;rw [ao (λ z=>h (by cases z;rfl))];omega
  rw [hpp];have hlt:pp < bs.length:=by omega
  refine zq hf (zD (by rw [ak,ad hlt];rfl)) ?_;have eg:bs.getD pp false=bs[pp]:=by simp [hlt]
  unfold zby at k;rw [ao (by intro z;cases z),e1,e2,eg] at k;walk_at "a";cases hbb:bs[pp] with
  | true =>
   rw [hbb,ap rfl] at k;walk_at "a";intro q hq;exact k _ _ (zg hq) ⟨q,rfl,nk⟩
  | false =>
   rw [hbb,ao (by decide)] at k;walk_at "a";exact k _ _ (Same.refl _) rfl
noncomputable def zhb (n:Nat) (p:Option Nat):Option Ap:=p.map λ (p:Nat)=>[.int p,.int 0,.int ((p + 1) % n:Nat)]
noncomputable def there (hs:Ap):List Bool:=hs.map λ h=>!decide (h=.non)
def JK (K:A0) (C:Addr):Sp:=λ vs H Q _=>∃ (y dx l1 l2 hl fl:Addr) (turn:V) (side:Nat) (hs ins:Ap) (b:Bool) (bs:Ap),vs=[.ref y,.ref hl,.ref fl,turn,.int side]/\H y=some (.ins C dx (kf l1 l2))/\H l1=some (.lst ins) /\
 SqL K H hl hs/\SqL K H fl (.bl b :: bs)/\hs.length=ins.length/\hs.length<=900/\∀ v H',Same H H'->Told H' v (if b=true then zhb hs.length (jR (there hs) side) else none)->Q v H'
theorem Jn (T:Txt K mg a):MCal P w K mg base a.o "choice" 2 ["self","heads","free","turn","side"] [] (JK K a.o):=T.iT.cal T.gQ λ F=>by
 refine F.okx Qx ?_ ?_
 ·walk_at "i"
 walk_at "k";refine oE8 h λ y dx l1 l2 hl fl turn side m5=>oE4 m5 λ hs ins b bs m7=>oA8 m7 λ n6 hy h1 hh hf hlen hb k=>?_;clear m5 m7 h;subst n6;walk_at "T";refine ⟨_,(zi (zL (jP (qO (zn (pq 2) zf) (λ _=>rfl)))  (ze (zl zE))  zt)  (zi (zp 5 Qx.nd (zw ⟨rfl,rfl,rfl⟩ hr (za (jY (vars:=["head"]) (caps:=[]) (N:=["head"]) (ON:=["self","heads","free","turn","side","place"]) (osc:=zd ju) rfl rfl (by first|decide +kernel|kernel_rfl) rfl rfl (ql (pq 1)) (λ s H fp m4=>(qp 0 (show (["head"]:A8).Nodup from by decide +kernel))) (λ s H fp m4=>qo) (λ s H fp m4=>(xv op_notN (pq 0) zE (zy _)))) (za (pq 4) zc))))  (zi (zL (zx jq (pq 5) zE (zy _))  (ze (zl zE))  zt)  (ze (zl (qS (za (pq 5) (za zf (za (zG qT (zG qm (pq 5) zf) (z7 qe qd (za (zk (pq 0) rfl) zc))) zc))))))))),?_⟩;walk_at "a";refine zq hf at0 ?_;walk_at "a";cases b with
 | false =>
  rw [ao (by decide)] at k;walk_at "a";exact k _ _ (Same.refl _) rfl
 | true =>
  rw [ap rfl] at k;walk_at "a";refine iE3 _ _ _ ⟨Zw T,?_⟩;walk_at "e";walk_at "a";refine ⟨hl,rfl,.inl ⟨⟨_,hh⟩,λ _ _ _ _ mZ hacc=>?_⟩⟩;refine qH (K:=K) (a:=hl) (xs:=hs) (λ i σ H'=>∃ (v:Aq),σ=[v]/\Same H H'/\H' mZ=some (.lst ((there (hs.take i)).map V.bl))) ⟨_,iA3 rfl (zg hacc) nk⟩ (λ i σ H' _ ⟨_,_,s,_⟩=>s.seq hh) ?_ ?_
  ·intro i x σ H' hi m8;refine oE1 m8 λ v m5=>oA3 m5 λ m7 s ha=>?_;clear m5 m8;subst m7;walk_at "a";refine ⟨_,iA3 ha ?_ ⟨_,iA3 rfl ?_ ?_⟩⟩
   ·simp only [there,af,aP];exact zm (by omega)
   ·intro b o hb;rw [nu (nz hb hacc)];exact s b o hb
   ·rw [nk,fW,hi];simp [there]
  ·intro σ H' m8;refine oE1 m8 λ v m5=>oA3 m5 λ m7 s ha=>?_;clear m5 m8;subst m7;rw [aN] at ha;refine iE3 mZ (there hs) side (iA4 rfl (SqL.of ha) (by simp [there];omega) ?_);have hlt:(there hs).length=hs.length:=by simp [there]
   cases hp:jR (there hs) side with
   | none =>
    rw [hp] at k;simp only [Zo];walk_at "a";exact k _ _ s rfl
   | some p =>
    rw [hp] at k;simp only [Zo];have hlt':=wL hp;walk_at "a";refine ra (s _ _ hy) T.gQ T.gR zhR ⟨_,.inl ⟨_,SqL.of (s _ _ h1),rfl⟩,?_⟩;walk_at "a";rw [<- hlen];refine And.intro (by omega) ?_;walk_at "a";intro q hq;have e:((p:Int) + 1) % (hs.length:Int)=(((p + 1) % hs.length:Nat):Int):=by push_cast;rfl
    rw [e];exact k _ _ (s.trans (zg hq)) ⟨q,rfl,nk⟩
def MCal.imp {m:Str} {dvs:Ap} {sp sp':Sp} (c:MCal P w K mg base C m k ps dvs sp) (h:∀ vs H Q E,sp' vs H Q E->sp vs H Q E):MCal P w K mg base C m k ps dvs sp' :=
 let ⟨f,fd,ds,x,y⟩:=c.ex;⟨c.cl,f,fd,ds,x.imp h,y⟩
def VN {k:Str} {ks:A8} (n:fs.map (·.1)=k :: ks):∃ v gs,fs=(k,v) :: gs/\gs.map (·.1)=ks:=by
 cases fs with
 | nil=>cases n
 | cons x gs =>
  obtain ⟨k',v⟩:=x;injection n with n1 n2
  exact iE2 v gs ⟨by rw [<- n1],n2⟩
def zh3 (n:fs.map (·.1)=[]):fs=[]:=List.map_eq_nil_iff.mp n
def fs2 {k1 k2:Str} {d1 d2:D} (n:fs.map (·.1)=[k1,k2]) (g:∀ (i:Nat) f g,fs[i]?=some f->[(k1,d1),(k2,d2)][i]?=some g->Rep H p f.2 g.2):∃ v1 v2,fs=[(k1,v1),(k2,v2)]/\Rep H p v1 d1/\Rep H p v2 d2:=by
 obtain ⟨v1,f1,rfl,n1⟩:=VN n;obtain ⟨v2,f2,rfl,n2⟩:=VN n1;obtain rfl:=zh3 n2;exact ⟨v1,v2,rfl,g 0 _ _ rfl rfl,g 1 _ _ rfl rfl⟩
section
variable {H:Hp} {p:A5} {y:Addr} {ins outs kinds:A6} {pace:Int}
def KnP.parter (h:KnP a H p (.ref y) ⟨.parter,ins,outs,pace,kinds⟩):∃ dx l1 l2,H y=some (.ins a.l dx (kf l1 l2))/\H l2=some (.lst (iv outs)):=by
 cases h with|ob _ hy n g =>
  refine oE2 (fs2 n g) λ v1 v2 m5=>oA3 m5 λ m7 r1 r2=>?_;clear m5;subst m7;refine oE1 r1.ints' λ l1 m5=>oA3 m5 λ m7 _ _=>?_;clear m5;subst m7;refine oE1 r2.ints' λ l2 m5=>oA3 m5 λ m7 _ h2=>?_;clear m5;subst m7;exact iE3 _ l1 l2 ⟨by rw [Xt];exact hy,h2⟩
end
def fs3 {k1 k2 k3:Str} {d1 d2 d3:D} (n:fs.map (·.1)=[k1,k2,k3]) (g:∀ (i:Nat) f g,fs[i]?=some f->[(k1,d1),(k2,d2),(k3,d3)][i]?=some g->Rep H p f.2 g.2):∃ v1 v2 v3,fs=[(k1,v1),(k2,v2),(k3,v3)]/\Rep H p v1 d1/\Rep H p v2 d2/\Rep H p v3 d3:=by
 obtain ⟨v1,f1,rfl,n1⟩:=VN n;obtain ⟨v2,f2,rfl,n2⟩:=VN n1;obtain ⟨v3,f3,rfl,n3⟩:=VN n2;obtain rfl:=zh3 n3;exact ⟨v1,v2,v3,rfl,g 0 _ _ rfl rfl,g 1 _ _ rfl rfl,g 2 _ _ rfl rfl⟩
def fs4 {k1 k2 k3 k4:Str} {d1 d2 d3 d4:D} (n:fs.map (·.1)=[k1,k2,k3,k4]) (g:∀ (i:Nat) f g,fs[i]?=some f->[(k1,d1),(k2,d2),(k3,d3),(k4,d4)][i]?=some g->Rep H p f.2 g.2):∃ v1 v2 v3 v4,fs=[(k1,v1),(k2,v2),(k3,v3),(k4,v4)]/\Rep H p v1 d1/\Rep H p v2 d2/\Rep H p v3 d3/\Rep H p v4 d4:=by
 obtain ⟨v1,f1,rfl,n1⟩:=VN n;obtain ⟨v2,f2,rfl,n2⟩:=VN n1;obtain ⟨v3,f3,rfl,n3⟩:=VN n2;obtain ⟨v4,f4,rfl,n4⟩:=VN n3;obtain rfl:=zh3 n4;exact ⟨v1,v2,v3,v4,rfl,g 0 _ _ rfl rfl,g 1 _ _ rfl rfl,g 2 _ _ rfl rfl,g 3 _ _ rfl rfl⟩
section
variable {H:Hp} {p:A5} {y:Addr} {ins outs kinds:A6} {pace:Int}
def KnP.source (h:KnP a H p (.ref y) ⟨.source,ins,outs,pace,kinds⟩):∃ dx l1 l2 l3,H y=some (.ins a.j dx (sf l1 l2 pace l3)):=by
 cases h with|ob _ hy n g =>
  refine oE4 (fs4 n g) λ v1 v2 v3 v4 m5=>oA5 m5 λ m7 r1 r2 r3 r4=>?_;clear m5;subst m7;refine oE1 r1.ints' λ l1 m5=>oA3 m5 λ m7 _ _=>?_;clear m5;subst m7;refine oE1 r2.ints' λ l2 m5=>oA3 m5 λ m7 _ _=>?_;clear m5;subst m7;cases r3;refine oE1 r4.ints' λ l4 m5=>oA3 m5 λ m7 _ _=>?_;clear m5;subst m7;exact iE4 _ l1 l2 l4 (by rw [zg3];exact hy)
def KnP.drain (h:KnP a H p (.ref y) ⟨.drain,ins,outs,pace,kinds⟩):∃ dx l1 l2,H y=some (.ins a.k dx (df l1 l2 pace)):=by
 cases h with|ob _ hy n g =>
  refine oE3 (fs3 n g) λ v1 v2 v3 m5=>oA4 m5 λ m7 r1 r2 r3=>?_;clear m5;subst m7;refine oE1 r1.ints' λ l1 m5=>oA3 m5 λ m7 _ _=>?_;clear m5;subst m7;refine oE1 r2.ints' λ l2 m5=>oA3 m5 λ m7 _ _=>?_;clear m5;subst m7;cases r3;exact iE3 _ l1 l2 (by rw [zfB];exact hy)
def KnP.sieve {k:Int} (h:KnP a H p (.ref y) ⟨.sieve,ins,outs,pace,[k]⟩):∃ dx l1 l2,H y=some (.ins a.n dx (vf l1 l2 k)):=by
 cases h with|ob _ hy n g =>
  refine oE3 (fs3 n g) λ v1 v2 v3 m5=>oA4 m5 λ m7 r1 r2 r3=>?_;clear m5;subst m7;refine oE1 r1.ints' λ l1 m5=>oA3 m5 λ m7 _ _=>?_;clear m5;subst m7;refine oE1 r2.ints' λ l2 m5=>oA3 m5 λ m7 _ _=>?_;clear m5;subst m7;cases r3;exact iE3 _ l1 l2 (by rw [zgZ];exact hy)
def KnP.joiner (h:KnP a H p (.ref y) ⟨.joiner,ins,outs,pace,kinds⟩):∃ dx l1 l2,H y=some (.ins a.o dx (kf l1 l2))/\H l1=some (.lst (iv ins)):=by
 cases h with|ob _ hy n g =>
  refine oE2 (fs2 n g) λ v1 v2 m5=>oA3 m5 λ m7 r1 r2=>?_;clear m5;subst m7;refine oE1 r1.ints' λ l1 m5=>oA3 m5 λ m7 _ h1=>?_;clear m5;subst m7;refine oE1 r2.ints' λ l2 m5=>oA3 m5 λ m7 _ _=>?_;clear m5;subst m7;exact iE3 _ l1 l2 ⟨by rw [Xt];exact hy,h1⟩
end
noncomputable def hdV:Option Int->V
 | none=>.non
 | some k=>.int k
noncomputable def zX (r:Row) (hs:List A9) (bs:Ai) (t:Int) (side:Nat):Option Ak:=match r.wd with
 | .source=>if bs.getD 0 false=true/\t % r.pace=0 then some (none,some 0,side) else none
 | .drain=>if r.pace=0\/hs.getD 0 none=none\/t % r.pace≠0 then none else some (some 0,none,side)
 | .parter=>if hs.getD 0 none=none then none else (jR bs side).map λ p=>(some 0,some p,(p + 1) % bs.length)
 | .first=>if hs.getD 0 none=none then none else (jR bs 0).map λ p=>(some 0,some p,side)
 | .sieve=>if hs.getD 0 none=none then none else if bs.getD (if hs.getD 0 none=some (r.kinds.headD 0) then 0 else 1) false=true then some (some 0,some (if hs.getD 0 none=some (r.kinds.headD 0) then 0 else 1),side) else none
 | .joiner=>if bs.getD 0 false=true then (jR (hs.map Option.isSome) side).map λ p=>(some p,some 0,(p + 1) % hs.length) else none
noncomputable def chV (x:Ak):List V:=[Zo x.1,Zo x.2.1,.int (x.2.2:Nat)]
def zeC (K:A0) (a:Ad) (wd:Wd):Sp:=λ vs H Q _=>∃ (y hl fl:Addr) (r:Row) (p:A5) (hs:List A9) (bs:Ai) (t:Int) (side:Nat),vs=[.ref y,.ref hl,.ref fl,.int t,.int side]/\KnP a H p (.ref y) r/\r.wd=wd/\r.ok /\
 H hl=some (.lst (hs.map hdV))/\H fl=some (.lst (bs.map V.bl))/\hs.length=r.ins.length/\bs.length=r.outs.length/\∀ v H',Same H H'->Told H' v ((zX r hs bs t side).map chV)->Q v H'
def JA {x:A9}:(hdV x=.non)=(x=none):=by
 cases x <;> simp [hdV]
def zer (hs:List A9):there (hs.map hdV)=hs.map Option.isSome:=by
 simp only [there,eB]
 congr 1
 funext x
 cases x <;> simp [hdV]
def zfc (T:Txt K mg a) (wd:Wd):MCal P w K mg base (vj a wd) "choice" 3 ["self","heads","free","turn","side"] [] (zeC K a wd):=by
 cases wd with
 | source =>
  refine MCal.imp (Jj T).mono λ vs H Q E h=>?_;refine oE5 h λ y hl fl m5 p m7=>oE4 m7 λ hs bs t side n6=>oA9 n6 λ nh hK hw ok hh hf l1 l2 k=>?_;clear m7 n6 h;obtain ⟨wd,ins,outs,pace,kinds⟩:=m5;subst nh;simp only at hw;subst hw;refine oE4 hK.source λ dx m1 m2 m3 hy=>?_;refine oA4 ok λ _ m5 p1 _=>?_;clear ok;obtain ⟨o,eo⟩:=m5;simp only at eo p1 l2;subst eo
  match bs,l2 with
  | [b],_ =>
   refine iE8 y dx m1 m2 m3 fl pace t (iE4 _ _ b ([]) (iA5 rfl hy p1 (SqL.of hf) (λ v H' s ht=>k v H' s ?_)));unfold Va at ht;simp only [zX];by_cases hc:b=true/\t % pace=0
   ·rw [ap hc] at ht;rw [ap (by simpa using hc)];exact ht
   ·rw [ao hc] at ht;rw [ao (by simpa using hc)];exact ht
 | drain =>
  refine MCal.imp (Xr T).mono λ vs H Q E h=>?_;refine oE5 h λ y hl fl m5 p m7=>oE4 m7 λ hs bs t side n6=>oA9 n6 λ nh hK hw ok hh hf l1 l2 k=>?_;clear m7 n6 h;obtain ⟨wd,ins,outs,pace,kinds⟩:=m5;subst nh;simp only at hw;subst hw;refine oE3 hK.drain λ dx m1 m2 hy=>?_;refine oA4 ok λ m5 _ p1 p4=>?_;clear ok;obtain ⟨o,eo⟩:=m5;simp only at eo p1 p4 l1;subst eo
  match hs,l1 with
  | [hd],_ =>
   refine iE8 y dx m1 m2 hl pace t _ (iE3 _ (hdV hd) ([]) (iA6 rfl hy p1 p4 (SqL.of hh) (λ v H' s ht=>k v H' s ?_)));unfold zcg at ht;simp only [JA] at ht;simp only [zX];by_cases hc:pace=0\/hd=none\/t % pace≠0
   ·rw [ap hc] at ht;rw [ap (by simpa using hc)];exact ht
   ·rw [ao hc] at ht;rw [ao (by simpa using hc)];exact ht
 | parter =>
  refine MCal.imp (Jl T).mono λ vs H Q E h=>?_;refine oE5 h λ y hl fl m5 p m7=>oE4 m7 λ hs bs t side n6=>oA9 n6 λ nh hK hw ok hh hf l1 l2 k=>?_;clear m7 n6 h;obtain ⟨wd,ins,outs,pace,kinds⟩:=m5;subst nh;simp only at hw;subst hw;refine oE3 hK.parter λ dx m1 m2 m5=>oA2 m5 λ hy h2=>?_;clear m5;obtain ⟨⟨o,eo⟩,q1,q2⟩:=ok;simp only at eo l1 l2 q1 q2;subst eo
  match hs,l1 with
  | [hd],_ =>
   refine iE8 y dx m1 m2 hl fl _ side (iE4 (hdV hd) ([]) (iv outs) bs (iA8 rfl hy h2 (SqL.of hh) (SqL.of hf) (by rw [zP];exact l2) (by omega) (λ v H' s ht=>k v H' s ?_)));simp only [JA] at ht;simp only [zX];by_cases hc:hd=none
   ·rw [ap hc] at ht;rw [ap (by simpa using hc)];exact ht
   ·rw [ao hc] at ht;rw [ao (by simpa using hc)];unfold zg8 at ht;rw [eC];exact ht
 | first =>
  refine MCal.imp (vP T).mono λ vs H Q E h=>?_;refine oE5 h λ y hl fl m5 p m7=>oE4 m7 λ hs bs t side n6=>oA9 n6 λ nh hK hw ok hh hf l1 l2 k=>?_;clear m7 n6 h;obtain ⟨wd,ins,outs,pace,kinds⟩:=m5;subst nh;simp only at hw;subst hw;obtain ⟨⟨o,eo⟩,q1,q2⟩:=ok;simp only at eo l1 l2 q1 q2;subst eo
  match hs,l1 with
  | [hd],_ =>
   refine iE8 y hl fl _ _ (hdV hd) ([]) bs (iA5 rfl (SqL.of hh) (SqL.of hf) (by omega) (λ v H' s ht=>k v H' s ?_));simp only [JA] at ht;simp only [zX];by_cases hc:hd=none
   ·rw [ap hc] at ht;rw [ap (by simpa using hc)];exact ht
   ·rw [ao hc] at ht;rw [ao (by simpa using hc)];unfold zfy at ht;rw [eC];exact ht
 | sieve =>
  refine MCal.imp (Xo T).mono λ vs H Q E h=>?_;refine oE5 h λ y hl fl m5 p m7=>oE4 m7 λ hs bs t side n6=>oA9 n6 λ nh hK hw ok hh hf l1 l2 k=>?_;clear m7 n6 h;obtain ⟨wd,ins,outs,pace,kinds⟩:=m5;subst nh;simp only at hw;subst hw;refine oA3 ok λ m5 q1 m7=>oE1 m7 λ kk n6=>oA2 n6 λ q2 _=>?_;clear m7 n6 ok;obtain ⟨o,eo⟩:=m5;simp only at eo l1 l2 q1 q2;subst eo q2;refine oE3 hK.sieve λ dx m1 m2 hy=>?_
  match hs,l1 with
  | [hd],_ =>
   refine iE8 y dx m1 m2 hl fl kk _ (iE4 _ (hdV hd) ([]) bs (iA7 rfl hy (SqL.of hh) (by cases hd;exact .inl rfl;exact .inr ⟨_,rfl⟩) (SqL.of hf) (by omega) (λ v H' s ht=>k v H' s ?_)));unfold zby at ht;simp only [JA] at ht;simp only [zX];by_cases hc:hd=none
   ·rw [ap hc] at ht;rw [ap (by simpa using hc)];exact ht
   ·rw [ao hc] at ht;rw [ao (by simpa using hc)];have e:(hdV hd=.int kk)=([hd].getD 0 none=some (List.headD [kk] 0)):=by
     cases hd with
     | none=>exact absurd rfl hc
     | some x=>simp [hdV]
    have e1:(if hdV hd=V.int kk then (0:Nat) else 1)=(if [hd].getD 0 none=some (List.headD [kk] 0) then 0 else 1):=by simp only [e]
    have e2:(if hdV hd=V.int kk then (0:Int) else 1)=((if [hd].getD 0 none=some (List.headD [kk] 0) then 0 else 1:Nat):Int):=by simp only [e];split <;> rfl
    rw [e1,e2] at ht;generalize (if [hd].getD 0 none=some (List.headD [kk] 0) then 0 else 1)=q at ht ⊢;by_cases hb:bs.getD q false=true
    ·rw [ap hb] at ht ⊢;exact ht
    ·rw [ao hb] at ht ⊢;exact ht
 | joiner =>
  refine MCal.imp (Jn T).mono λ vs H Q E h=>?_;refine oE5 h λ y hl fl m5 p m7=>oE4 m7 λ hs bs t side n6=>oA9 n6 λ nh hK hw ok hh hf l1 l2 k=>?_;clear m7 n6 h;obtain ⟨wd,ins,outs,pace,kinds⟩:=m5;subst nh;simp only at hw;subst hw;obtain ⟨⟨o,eo⟩,q1,q2⟩:=ok;simp only at eo l1 l2 q1 q2;subst eo;refine oE3 hK.joiner λ dx m1 m2 m5=>oA2 m5 λ hy h1=>?_;clear m5
  match bs,l2 with
  | [b],_ =>
   refine iE8 y dx m1 m2 hl fl _ side (iE4 (hs.map hdV) (iv ins) b ([]) (iA8 rfl hy h1 (SqL.of hh) (SqL.of hf) (by rw [af,zP];exact l1) (by rw [af];omega) (λ v H' s ht=>k v H' s ?_)));rw [zer,af] at ht;simp only [zX];by_cases hc:b=true
   ·rw [ap hc] at ht;rw [ap (by simpa using hc)];unfold zhb at ht;rw [eC];exact ht
   ·rw [ao hc] at ht;rw [ao (by simpa using hc)];exact ht
abbrev zC:=Option (Int × Int)
abbrev Av:=List zC
abbrev Au:=List Av
noncomputable def zS:zC->D
 | none=>.non
 | some (s,n)=>.tup [.int s,.int n]
def zd0 (x:zC):Hard (zS x):=by
 cases x with
 | none=>exact .non
 | some x =>
  refine .tup λ i d h=>?_;have:d∈[D.int x.1,D.int x.2]:=ah h;simp at this;rcases this with rfl|rfl <;> exact .int
structure PSt where
 turn:Int
 cells:List Av
 sides:List Int
 gone:List A6
noncomputable abbrev zH (cs:Au):List (List D):=cs.map λ c=>c.map zS
noncomputable abbrev z8 (gs:List A6):List (List D):=gs.map λ g=>g.map D.int
noncomputable def stF (st:PSt):List (Str × D):=[("turn",.int st.turn),("cells",.lst ((zH st.cells).map D.lst)),("sides",.ints st.sides),("gone",.lst ((z8 st.gone).map D.lst))]
noncomputable def QU (a:Ad) (st:PSt):D:=.ob a.p (stF st)
def zad (st:PSt):(stF st).lookup ("turn":Str)=some (.int st.turn):=jf
def Wi (st:PSt):(stF st).lookup ("cells":Str)=some (.lst ((zH st.cells).map D.lst)):=(zT (by decide +kernel)).trans jf
def Wh (st:PSt):(stF st).lookup ("sides":Str)=some (.ints st.sides):=(zT (by decide +kernel)).trans ((zT (by decide +kernel)).trans jf)
def zae (st:PSt):(stF st).lookup ("gone":Str)=some (.lst ((z8 st.gone).map D.lst)):=(zT (by decide +kernel)).trans ((zT (by decide +kernel)).trans ((zT (by decide +kernel)).trans jf))
noncomputable def sff (t:Int) (lc ls lg:Addr):List (Str × V):=[(("turn":Str),V.int t),(("cells":Str),V.ref lc),(("sides":Str),V.ref ls),(("gone":Str),V.ref lg)]
def zi7 {t:Int}:zQ "turn" (.int t) []=([(("turn":Str),V.int t)]:Ar):=rfl
def zi6 {t:Int} {lc:Addr}:zQ "cells" (.ref lc) [(("turn":Str),V.int t)]=([(("turn":Str),V.int t),(("cells":Str),V.ref lc)]:Ar):=by
 simp only [zQ];rw [ao (by decide +kernel)]
def zi5 {t:Int} {lc ls:Addr}:zQ "sides" (.ref ls) [(("turn":Str),V.int t),(("cells":Str),V.ref lc)]=([(("turn":Str),V.int t),(("cells":Str),V.ref lc),(("sides":Str),V.ref ls)]:Ar):=by
 simp only [zQ];rw [ao (by decide +kernel),ao (by decide +kernel)]
def zi4 {t:Int} {lc ls lg:Addr}:zQ "gone" (.ref lg) [(("turn":Str),V.int t),(("cells":Str),V.ref lc),(("sides":Str),V.ref ls)]=sff t lc ls lg:=by
 unfold sff;simp only [zQ];rw [ao (by decide +kernel),ao (by decide +kernel),ao (by decide +kernel)]
structure SN where
 dx:Addr
 lc:Addr
 ls:Addr
 lg:Addr
 acs:List Addr
 ags:List Addr
noncomputable def SN.all (n:SN):List Addr:=n.ls :: n.lc :: n.lg :: (n.acs ++ n.ags)
structure StO (a:Ad) (H:Hp) (y:Addr) (n:SN) (st:PSt):Prop where
 hy:H y=some (.ins a.p n.dx (sff st.turn n.lc n.ls n.lg))
 hc:NL H (zV H) n.lc n.acs (zH st.cells)
 hs:H n.ls=some (.lst (iv st.sides))
 hg:NL H (zV H) n.lg n.ags (z8 st.gone)
 nd:n.all.Nodup
def StO.rep {y:Addr} {n:SN} {st:PSt} (h:StO a H y n st):Rep H (Off []) (.ref y) (QU a st) :=
 w9 (λ z=>nomatch z) h.hy rfl (.cons .int (.cons h.hc.rep (.cons (qi (λ z=>nomatch z) h.hs) (.cons h.hg.rep .nil))))
def StO.same {H H':Hp} {y:Addr} {n:SN} {st:PSt} (h:StO a H y n st) (s:Same H H'):StO a H' y n st :=
 ⟨s _ _ h.hy,h.hc.keep (λ b o _ hb=>s b o hb) (λ b ⟨xs,hx⟩ _=>⟨xs,s _ _ hx⟩),s _ _ h.hs,h.hg.keep (λ b o _ hb=>s b o hb) (λ b ⟨xs,hx⟩ _=>⟨xs,s _ _ hx⟩),h.nd⟩
def vA (a:Ad):Sp:=λ vs H Q _=>∃ (y dx:Addr) (vc vs' vg:V) (st:PSt) (p:A5),vs=[.ref y,.int st.turn,vc,vs',vg]/\H y=some (.ins a.p dx [])/\(∀ b,p b->b≠y) /\
 Rep H p vc (.lst ((zH st.cells).map D.lst))/\Rep H p vs' (.ints st.sides)/\Rep H p vg (.lst ((z8 st.gone).map D.lst))/\st.cells.length<=100/\st.gone.length<=100 /\
 ∀ H' n,n.dx=dx->Own H H' y->StO a H' y n st->(∀ b∈n.all,H b=none)->Q .non H'
def zaC {ds:List D} (h:Reps H p vs ds) (hd:∀ d∈ds,Hard d):Reps H (zV H) vs ds :=
 ⟨h.len,λ i v d e1 e2=>(h.g i v d e1 e2).hard (hd d (ah e2)) λ b xs _ hb=>⟨xs,hb⟩⟩
def zb9 (c:Av):∀ d∈c.map zS,Hard d:=λ d hd=>by
 obtain ⟨x,_,rfl⟩:=aV.mp hd;exact zd0 x
def zd1 (c:A6):∀ d∈c.map D.int,Hard d:=λ d hd=>by
 obtain ⟨x,_,rfl⟩:=aV.mp hd;exact .int
def X2 (T:Txt K mg a) (F:Fun K "__init__" "State.__init__" jm f fd):FnOk P w K mg base (CXr P w) 1 f fd ["self","turn","cells","sides","gone"] (vA a):=by
 refine F.okx XY ?_ ?_
 ·walk_at "i"
 walk_at "j";refine oE7 h λ y dx vc vs' vg st p m5=>oA9 m5 λ m7 hy hp rc rs rg lc lg k=>?_;clear m5 h;subst m7;refine oE2 rc.lst' λ c0 ucs m5=>oA4 m5 λ m7 pc0 hc0 rcs=>?_;clear m5;subst m7;refine oE1 rs.ints' λ s0 m5=>oA3 m5 λ m7 ps0 hs0=>?_;clear m5;subst m7;have hs0:H s0=some (.lst (iv st.sides)):=hs0;refine oE2 rg.lst' λ g0 ugs m5=>oA4 m5 λ m7 pg0 hg0 rgs=>?_;clear m5;subst m7;have lcs:ucs.length=st.cells.length:=by rw [rcs.len,af,af]
 have lgs:ugs.length=st.gone.length:=by rw [rgs.len,af,af]
 walk_at "T";refine ⟨_,(zj (qR (pq 0) (pq 1) rfl)  (zj (qR (pq 0) (jY (vars:=["belt_cells"]) (caps:=[]) (N:=["belt_cells"]) (ON:=["self","turn","cells","sides","gone"]) (osc:=zd jm) rfl rfl (by first|decide +kernel|kernel_rfl) rfl rfl (ql (pq 2)) (λ s H fp m4=>(qp 0 (show (["belt_cells"]:A8).Nodup from by decide +kernel))) (λ s H fp m4=>qo) (λ s H fp m4=>(vI Zj vn (za (pq 0) zc)))) rfl)  (zj (qR (pq 0) (vI Zj vn (za (pq 3) zc)) rfl)  (ze (qR (pq 0) (jY (vars:=["counts"]) (caps:=[]) (N:=["counts"]) (ON:=["self","turn","cells","sides","gone"]) (osc:=zd jm) rfl rfl (by first|decide +kernel|kernel_rfl) rfl rfl (ql (pq 4)) (λ s H fp m4=>(qp 0 (show (["counts"]:A8).Nodup from by decide +kernel))) (λ s H fp m4=>qo) (λ s H fp m4=>(vI Zj vn (za (pq 0) zc)))) rfl))))),?_⟩;walk_at "a";refine iE4 y a.p dx ([]) (iA6 rfl hy T.gd T.gg (by decide) ?_);rw [zi7];have o1:Own H (upd H y (.ins a.p dx [(("turn":Str),V.int st.turn)])) y:=jv;have y1:upd H y (.ins a.p dx [(("turn":Str),V.int st.turn)]) y=some (.ins a.p dx [(("turn":Str),V.int st.turn)]):=nk;generalize upd H y (.ins a.p dx [(("turn":Str),V.int st.turn)])=H1 at o1 y1 ⊢;have kp:∀ b,zV H b->H b≠none->b≠y:=λ b ⟨xs,hx⟩ _ z=>by rw [z,hy] at hx;cases hx
 walk_at "e";walk_at "a";refine ⟨c0,rfl,.inl ⟨⟨_,SqL.of (o1 _ _ (hp _ pc0) hc0)⟩,λ _ _ _ _ mZ hacc=>?_⟩⟩;let n9:Nat->St->Hp->Prop:=λ i σ H'=>∃ (v0:Aq) (as:Ab),σ=[v0]/\Same H1 H'/\NL H' (zV H) mZ as (zH (st.cells.take i))/\∀ b∈as,H1 b=none;refine qH (K:=K) (a:=c0) (xs:=ucs) n9 (iE2 _ ([]) (iA4 rfl (zg hacc) (by rw [bX];exact zbU nk) (by simp))) (λ i σ H' _ h=>by obtain ⟨_,_,_,s,_⟩:=h;exact SqL.of (s _ _ (o1 _ _ (hp _ pc0) hc0))) ?_ ?_
 ·intro i x σ H2 hi m8;refine oE2 m8 λ v0 as m5=>oA4 m5 λ m7 s2 nl fr=>?_;clear m5 m8;subst m7;obtain ⟨d,hd,rx⟩:=rcs.at hi;rw [ak,ak] at hd;obtain ⟨c,hc⟩:∃ c,st.cells[i]?=some c:=by
   cases e:st.cells[i]? with
   | none=>rw [e] at hd;cases hd
   | some c=>exact ⟨c,rfl⟩
  rw [hc] at hd;cases hd;refine oE2 (Rep.lst' rx) λ li vi m5=>oA4 m5 λ m7 pli hli ri=>?_;clear m5;subst m7;have hil:=(aa.mp hc).1;have hli2:=s2 _ _ (o1 _ _ (hp _ pli) hli);walk_at "a";refine iE2 li _ (iA3 rfl (.inl (SqL.of hli2)) (λ b hb=>?_));have nb:b ∉ as:=λ z=>by
   obtain ⟨j,hj⟩:=br z;obtain ⟨vs,h1,_⟩:=nl.g j b _ hj (ad (by rw [<- nl.len];exact (aa.mp hj).1));rw [h1] at hb;cases hb
  have nG:b≠mZ:=λ z=>by rw [z,nl.out] at hb;cases hb
  have s3:Same H2 (upd H2 b (.lst vi)):=zg hb;have ac3:=nA (o:=.lst vi) nl.out hb;refine ⟨_,iA3 ac3 (zm (by rw [af,nl.len,af,aP];omega)) ?_⟩;have ri3:Reps (upd H2 b (.lst vi)) (zV H) vi (c.map zS):=(zaC ri (zb9 c)).keep λ z o pz hz=>⟨pz,s3 _ _ (s2 _ _ (o1 _ _ (kp z pz (by rw [hz];intro q;cases q)) hz))⟩;have nl3:=(nl.same s3).push (b:=b) (vs:=vi) (ys:=c.map zS) nk nb nG (λ ⟨xs,hx⟩=>by
   have:=o1 _ _ (kp mZ ⟨xs,hx⟩ (by rw [hx];intro q;cases q)) hx;rw [hacc] at this;cases this) ri3
  refine iE2 _ (as ++ [b]) (iA4 rfl ?_ ?_ ?_)
  ·exact λ z o hz=>by rw [nu (nz hz hacc)];exact s3 _ _ (s2 _ _ hz)
  ·rw [aK,hc];rw [show zH (st.cells.take i ++ (some c).toList)=zH (st.cells.take i) ++ [c.map zS] by simp [zH]];exact nl3
  ·intro z hz;rcases aE.mp hz with hz|hz
   ·exact fr z hz
   ·rw [aw.mp hz];exact zA s2 hb
 intro σ H2 m8;refine oE2 m8 λ v0 acs m5=>oA4 m5 λ m7 s2 nlc frc=>?_;clear m5 m8;subst m7;rw [lcs,aN] at nlc;have y2:=s2 _ _ y1;walk_at "a";refine iE4 y a.p dx _ (iA6 rfl y2 T.gd T.gf (by simp) ?_);rw [zi6];have nay:mZ≠y:=λ z=>by rw [z,y1] at hacc;cases hacc
 have hx0:∀ {z:Addr},H1 z=none->z≠y/\H z=none:=λ {z} hz=>by
  have n1:z≠y:=λ q=>by rw [q,y1] at hz;cases hz
  refine ⟨n1,?_⟩;cases e:H z with
  | none=>rfl
  | some o=>rw [o1 z o n1 e] at hz;cases hz
 have o3:Own H (upd H2 y (.ins a.p dx [(("turn":Str),V.int st.turn),(("cells":Str),V.ref mZ)])) y:=(o1.trans (Same.own s2)).trans jv;have y3:upd H2 y (.ins a.p dx [(("turn":Str),V.int st.turn),(("cells":Str),V.ref mZ)]) y=some (.ins a.p dx [(("turn":Str),V.int st.turn),(("cells":Str),V.ref mZ)]):=nk;have nl3:NL (upd H2 y (.ins a.p dx [(("turn":Str),V.int st.turn),(("cells":Str),V.ref mZ)])) (zV H) mZ acs (zH st.cells):=nlc.keep (λ z o hz ho=>by
  refine (nu (λ q=>?_)).trans ho;rcases hz with h|h|h
  ·exact nay (h.symm.trans q)
  ·exact (hx0 (frc z h)).1 q
  ·obtain ⟨xs,hx⟩:=h;rw [q,hy] at hx;cases hx) λ _ hp _=>hp
 generalize upd H2 y (.ins a.p dx [(("turn":Str),V.int st.turn),(("cells":Str),V.ref mZ)])=H3 at o3 y3 nl3 ⊢;walk_at "a";refine iE2 s0 _ (iA3 rfl (.inl (SqL.of (o3 _ _ (hp _ ps0) hs0))) (λ ls hls=>?_));walk_at "a";have y4:=nA (o:=.lst (iv st.sides)) y3 hls;refine iE4 y a.p dx _ (iA6 rfl y4 T.gd T.gk (by simp) ?_);rw [zi5];have nlsy:ls≠y:=λ z=>by rw [z,y3] at hls;cases hls
 have hls0:H ls=none:=by
  cases e:H ls with
  | none=>rfl
  | some o=>rw [o3 ls o nlsy e] at hls;cases hls
 have o5:Own H (upd (upd H3 ls (.lst (iv st.sides))) y (.ins a.p dx [(("turn":Str),V.int st.turn),(("cells":Str),V.ref mZ),(("sides":Str),V.ref ls)])) y:=(o3.trans (Same.own (zg hls))).trans jv;have y5:upd (upd H3 ls (.lst (iv st.sides))) y (.ins a.p dx [(("turn":Str),V.int st.turn),(("cells":Str),V.ref mZ),(("sides":Str),V.ref ls)]) y=some (.ins a.p dx [(("turn":Str),V.int st.turn),(("cells":Str),V.ref mZ),(("sides":Str),V.ref ls)]):=nk;have nl5:NL (upd (upd H3 ls (.lst (iv st.sides))) y (.ins a.p dx [(("turn":Str),V.int st.turn),(("cells":Str),V.ref mZ),(("sides":Str),V.ref ls)])) (zV H) mZ acs (zH st.cells):=nl3.keep (λ z o hz ho=>by
  refine (nu (λ q=>?_)).trans (nA ho hls);rcases hz with h|h|h
  ·exact nay (h.symm.trans q)
  ·exact (hx0 (frc z h)).1 q
  ·obtain ⟨xs,hx⟩:=h;rw [q,hy] at hx;cases hx) λ _ hp _=>hp
 have ls5:upd (upd H3 ls (.lst (iv st.sides))) y (.ins a.p dx [(("turn":Str),V.int st.turn),(("cells":Str),V.ref mZ),(("sides":Str),V.ref ls)]) ls=some (.lst (iv st.sides)):=by rw [nu nlsy];exact nk
 have nlsa:ls ∉ mZ :: acs:=λ z=>by
  rcases ax.mp z with h|h
  ·rw [h,nl3.out] at hls;cases hls
  ·obtain ⟨j,hj⟩:=br h;obtain ⟨vs,h1,_⟩:=nl3.g j ls _ hj (ad (by rw [<- nl3.len];exact (aa.mp hj).1));rw [h1] at hls;cases hls
 generalize upd (upd H3 ls (.lst (iv st.sides))) y (.ins a.p dx [(("turn":Str),V.int st.turn),(("cells":Str),V.ref mZ),(("sides":Str),V.ref ls)])=H5 at o5 y5 nl5 ls5 ⊢;clear nl3 o3 y3 hls y4;walk_at "e";walk_at "a";refine ⟨g0,rfl,.inl ⟨⟨_,SqL.of (o5 _ _ (hp _ pg0) hg0)⟩,λ _ _ _ _ ag hag=>?_⟩⟩;let ni:Nat->St->Hp->Prop:=λ i σ H'=>∃ (v0:Aq) (as:Ab),σ=[v0]/\Same H5 H'/\NL H' (zV H) ag as (z8 (st.gone.take i))/\∀ b∈as,H5 b=none;refine qH (K:=K) (a:=g0) (xs:=ugs) ni (iE2 _ ([]) (iA4 rfl (zg hag) (by rw [bX];exact zbU nk) (by simp))) (λ i σ H' _ h=>by obtain ⟨_,_,_,s,_⟩:=h;exact SqL.of (s _ _ (o5 _ _ (hp _ pg0) hg0))) ?_ ?_
 ·intro i x σ H2 hi m8;refine oE2 m8 λ v0 as m5=>oA4 m5 λ m7 s2 nl fr=>?_;clear m5 m8;subst m7;obtain ⟨d,hd,rx⟩:=rgs.at hi;rw [ak,ak] at hd;obtain ⟨c,hc⟩:∃ c,st.gone[i]?=some c:=by
   cases e:st.gone[i]? with
   | none=>rw [e] at hd;cases hd
   | some c=>exact ⟨c,rfl⟩
  rw [hc] at hd;cases hd;refine oE2 (Rep.lst' rx) λ li vi m5=>oA4 m5 λ m7 pli hli ri=>?_;clear m5;subst m7;have hil:=(aa.mp hc).1;have hli2:=s2 _ _ (o5 _ _ (hp _ pli) hli);walk_at "a";refine iE2 li _ (iA3 rfl (.inl (SqL.of hli2)) (λ b hb=>?_));have nb:b ∉ as:=λ z=>by
   obtain ⟨j,hj⟩:=br z;obtain ⟨vs,h1,_⟩:=nl.g j b _ hj (ad (by rw [<- nl.len];exact (aa.mp hj).1));rw [h1] at hb;cases hb
  have nG:b≠ag:=λ z=>by rw [z,nl.out] at hb;cases hb
  have s3:Same H2 (upd H2 b (.lst vi)):=zg hb;have ac3:=nA (o:=.lst vi) nl.out hb;refine ⟨_,iA3 ac3 (zm (by rw [af,nl.len,af,aP];omega)) ?_⟩;have ri3:Reps (upd H2 b (.lst vi)) (zV H) vi (c.map D.int):=(zaC ri (zd1 c)).keep λ z o pz hz=>⟨pz,s3 _ _ (s2 _ _ (o5 _ _ (kp z pz (by rw [hz];intro q;cases q)) hz))⟩;have nl3:=(nl.same s3).push (b:=b) (vs:=vi) (ys:=c.map D.int) nk nb nG (λ ⟨xs,hx⟩=>by
   have:=o5 _ _ (kp ag ⟨xs,hx⟩ (by rw [hx];intro q;cases q)) hx;rw [hag] at this;cases this) ri3
  refine iE2 _ (as ++ [b]) (iA4 rfl ?_ ?_ ?_)
  ·exact λ z o hz=>by rw [nu (nz hz hag)];exact s3 _ _ (s2 _ _ hz)
  ·rw [aK,hc];rw [show z8 (st.gone.take i ++ (some c).toList)=z8 (st.gone.take i) ++ [c.map D.int] by simp [z8]];exact nl3
  ·intro z hz;rcases aE.mp hz with hz|hz
   ·exact fr z hz
   ·rw [aw.mp hz];exact zA s2 hb
 intro σ H6 m8;refine oE2 m8 λ v0' ags m5=>oA4 m5 λ m7 s6 nlg frg=>?_;clear m5 m8;subst m7;rw [lgs,aN] at nlg;have y6:=s6 _ _ y5;walk_at "a";refine iE4 y a.p dx _ (iA6 rfl y6 T.gd T.gi (by simp) ?_);rw [zi4];have hx5:∀ {z:Addr},H5 z=none->z≠y/\H z=none:=λ {z} hz=>by
  have n1:z≠y:=λ q=>by rw [q,y5] at hz;cases hz
  refine ⟨n1,?_⟩;cases e:H z with
  | none=>rfl
  | some o=>rw [o5 z o n1 e] at hz;cases hz
 have ngy:=(hx5 hag).1;have o7:Own H (upd H6 y (.ins a.p dx (sff st.turn mZ ls ag))) y:=(o5.trans (Same.own s6)).trans jv;have tp:∀ b,zV H b->H b≠none->zV (upd H6 y (.ins a.p dx (sff st.turn mZ ls ag))) b:=λ b ⟨xs,hx⟩ hn=>⟨xs,o7 _ _ (kp b ⟨xs,hx⟩ hn) hx⟩;have inA:∀ z,z∈mZ :: acs->∃ o,H5 z=some o:=λ z hz=>by
  rcases ax.mp hz with h|h
  ·exact ⟨_,h ▸ nl5.out⟩
  ·obtain ⟨j,hj⟩:=br h;obtain ⟨vs,h1,_⟩:=nl5.g j z _ hj (ad (by rw [<- nl5.len];exact (aa.mp hj).1));exact ⟨_,h1⟩
 refine k _ ⟨dx,mZ,ls,ag,acs,ags⟩ rfl o7 ⟨nk,?_,?_,?_,?_⟩ ?_
 ·exact (nl5.same s6).keep (λ z o hz ho=>by
   refine (nu (λ q=>?_)).trans ho;rcases hz with h|h|h
   ·exact nay (h.symm.trans q)
   ·exact (hx0 (frc z h)).1 q
   ·obtain ⟨xs,hx⟩:=h;rw [q,hy] at hx;cases hx) λ b hb hn=>by
    obtain ⟨xs,hx⟩:=hb;exact tp b ⟨xs,hx⟩ (by rw [hx];intro q;cases q)
 ·show upd H6 y _ ls=_
  rw [nu nlsy];exact s6 _ _ ls5
 ·exact nlg.keep (λ z o hz ho=>by
   refine (nu (λ q=>?_)).trans ho;rcases hz with h|h|h
   ·exact ngy (h.symm.trans q)
   ·exact (hx5 (frg z h)).1 q
   ·obtain ⟨xs,hx⟩:=h;rw [q,hy] at hx;cases hx) λ b hb hn=>by
    obtain ⟨xs,hx⟩:=hb;exact tp b ⟨xs,hx⟩ (by rw [hx];intro q;cases q)
 ·show (ls :: mZ :: ag :: (acs ++ ags)).Nodup
  have ls5':∀ z,H5 z=none->z≠ls:=λ z hz q=>by rw [q,ls5] at hz;cases hz
  rw [dn,dn,dn];refine iA4 (λ z=>?_) (λ z=>?_) (λ z=>?_) ?_
  ·rcases ax.mp z with h|z
   ·exact nlsa (h ▸ bT ..)
   rcases ax.mp z with h|z
   ·exact ls5' ag hag h.symm
   rcases aE.mp z with z|z
   ·exact nlsa (aF _ z)
   ·exact ls5' ls (frg ls z) rfl
  ·rcases ax.mp z with h|z
   ·rw [<- h,nl5.out] at hag;cases hag
   rcases aE.mp z with z|z
   ·exact nl5.nG z
   ·have:=frg mZ z;rw [nl5.out] at this;cases this
  ·rcases aE.mp z with z|z
   ·obtain ⟨o,ho⟩:=inA ag (aF _ z);rw [hag] at ho;cases ho
   ·exact nlg.nG z
  ·rw [nodup_append];refine ⟨nl5.nd,nlg.nd,λ u hu v hv q=>?_⟩;subst q;obtain ⟨o,ho⟩:=inA u (aF _ hu);rw [frg u hv] at ho;cases ho
 ·intro b hb;rcases ax.mp hb with rfl|hb
  ·exact hls0
  rcases ax.mp hb with rfl|hb
  ·exact (hx0 hacc).2
  rcases ax.mp hb with rfl|hb
  ·exact (hx5 hag).2
  rcases aE.mp hb with hb|hb
  ·exact (hx0 (frc b hb)).2
  ·exact (hx5 (frg b hb)).2
def VI (T:Txt K mg a):KCal P w K mg base "State" a.p 1 ["self","turn","cells","sides","gone"] [] (vA a):=T.kX.cal T.mM (X2 T)
def qX {rs:At} (h:Rep H p v (qq a bs rs)):∃ y dx fs l1 l2 bvs m9,v=.ref y/\H y=some (.ins a.r dx fs)/\fs.lookup ("belts":Str)=some (.ref l1)/\fs.lookup ("knots":Str)=some (.ref l2) /\
  H l1=some (.lst bvs)/\H l2=some (.lst m9)/\Bts a H p bvs bs/\Kns a H p m9 rs/\∀ f:Str,f≠"belts"->f≠"knots"->fs.lookup f=none:=by
 refine oE3 (Rep.ob' h) λ y dx fs m5=>oA5 m5 λ m7 py hy g1 g2=>?_;clear m5;subst m7;obtain ⟨u1,e1,r1⟩:=g1 _ _ V3;obtain ⟨u2,e2,r2⟩:=g1 _ _ zeo;refine oE2 r1.lst' λ l1 bvs m5=>oA4 m5 λ m7 _ h1 b1=>?_;clear m5;subst m7;refine oE2 r2.lst' λ l2 m9 m5=>oA4 m5 λ m7 _ h2 b2=>?_;clear m5;subst m7;exact iE7 y dx fs l1 l2 bvs m9 (iA9 rfl hy e1 e2 h1 h2 (.of b1) (.of b2) (λ f n1 n2=>g2 f (zil n1 n2)))
noncomputable def wB (ks:A6) (n:Int):Int:=ks.getD (n % (ks.length:Int)).toNat 0
def zdV {ks:A6} (n:Int) (h:0 < ks.length):atI (iv ks) (n % (ks.length:Int))=some (.int (wB ks n)):=by
 have h0:=bJ n (show (ks.length:Int)≠0 by omega);have h1:=bW n (show (0:Int) < ks.length by omega);unfold wB;generalize n % (ks.length:Int)=m at h0 h1 ⊢;have hlt:m.toNat < ks.length:=by omega
 have e:m=(m.toNat:Int):=by omega
 have:=zD (jr (ad hlt));rw [<- e] at this;rw [this];simp [hlt]
def V5 {s n:Int} (h:Rep H p v (.tup [.int s,.int n])):∃ t,v=.ref t/\H t=some (.tup [.int s,.int n]):=jJ (b:=(s,n)) h
def VG {m9:Ap} {rs:At} {r:Row} (hK:Kns a H p m9 rs) (h:rs[j]?=some r):∃ kv,m9[j]?=some kv/\KnP a H p kv r:=by
 have hj:=(aa.mp h).1;have e:m9[j]?=some (m9[j]'(by rw [hK.len];exact hj)):=ad _;exact ⟨_,e,hK.g j _ r e h⟩
def zez (a:Ad):Sp:=λ vs H Q _=>∃ (v vwr:V) (bs:A1) (rs:At) (p q:A5) (s:Nat) (n:Int) (r:Row),vs=[v,vwr]/\Rep H p v (qq a bs rs)/\Rep H q vwr (.tup [.int s,.int n])/\rs[s]?=some r/\r.wd=.source/\0 < r.kinds.length/\Q (.int (wB r.kinds n)) H
def WL (T:Txt K mg a):Cal P w K mg base "kind_of" 1 ["work","ware"] [] (zez a):=T.lZ.cal λ F=>by
 refine F.okx zbA ?_ ?_
 ·walk_at "i"
 walk_at "j";refine oE5 h λ v vwr bs rs p m5=>oE4 m5 λ q sc n r m7=>oA7 m7 λ n6 hv hw hr' hs hk k=>?_;clear m5 m7 h;subst n6;refine oE7 (qX hv) λ y dx fs l1 l2 bvs m9 m5=>oA9 m5 λ m7 hy e1 e2 h1 h2 hB hK no=>?_;clear m5;subst m7;obtain ⟨t,rfl,ht⟩:=V5 hw;obtain ⟨kv,hkv,hKn⟩:=VG hK hr';refine oE6 hKn.inv λ y1 dx1 m1 m2 m3 fs1 m5=>oA9 m5 λ m7 _ _ _ _ g0 _ _ n6=>oA5 n6 λ _ _ _ g3 _=>?_;clear m5 n6;subst m7;obtain ⟨g3a,g3b⟩:=g3 hs;walk_at "T";refine ⟨_,(zi (zp 2 zbA.nd (zk (zn (zk (pq 0) rfl) (zn (pq 1) zf)) rfl))  (ze (zl (zn (pq 2) (zG qT (zn (pq 1) zf) (z7 qe qd (za (pq 2) zc))))))),?_⟩;walk_at "a";refine ra hy T.gm T.gj e2 (nB ht at0 (zq (SqL.of h2) (zD hkv) ?_));refine iE5 y1 (vj a r.wd) dx1 fs1 _ (iA6 rfl g0 (CT T _) (by rw [hs];exact T.gD) g3a ?_);walk_at "a";refine nB ht rfl ?_;walk_at "a";refine ⟨_,.inl ⟨_,SqL.of g3b,rfl⟩,?_⟩;rw [zP];walk_at "a";exact ⟨by omega,zq (SqL.of g3b) (zdV n hk) k⟩
noncomputable def qr (r:Row):List Int:=List.replicate (max r.ins.length r.outs.length) 0
def zhs {α:Type} (n:Nat) (x:α):(List.replicate n [x]).flatten=List.replicate n x:=by
 induction n with
 | zero=>rfl
 | succ n ih=>rw [cI,dF,ih];rfl
def zfn (n:Nat) (x:Int):List.replicate n (V.int x)=iv (List.replicate n x):=by simp [iv]
def zhN (m n:Nat):(if (n:Int) > (m:Int) then (n:Int) else (m:Int))=((max m n:Nat):Int):=by
 by_cases h:(n:Int) > (m:Int)
 ·rw [ap h];omega
 ·rw [ao h];omega
def wH {r:Row} (h:r.ok):r.ins.length<=4/\r.outs.length<=4:=by
 obtain ⟨wd,ins,outs,pc,ks⟩:=r;cases wd
 ·obtain ⟨h1,⟨o,h2⟩,_⟩:=h;simp only at h1 h2;subst h1 h2;simp
 ·obtain ⟨⟨o,h1⟩,h2,_⟩:=h;simp only at h1 h2;subst h1 h2;simp
 ·obtain ⟨⟨o,h1⟩,_,h2⟩:=h;simp only at h1 h2;subst h1;exact ⟨by simp,h2⟩
 ·obtain ⟨⟨o,h1⟩,_,h2⟩:=h;simp only at h1 h2;subst h1;exact ⟨by simp,h2⟩
 ·obtain ⟨⟨o,h1⟩,h2,_⟩:=h;simp only at h1 h2;subst h1;exact ⟨by simp,by show outs.length<=4;omega⟩
 ·obtain ⟨⟨o,h1⟩,_,h2⟩:=h;simp only at h1 h2;subst h1;exact ⟨h2,by simp⟩
def Q8 (a:Ad) (H H':Hp) (v:V) (st:PSt):Prop:=∃ y n,v=.ref y/\StO a H' y n st/\H y=none/\H n.dx=none/\∀ b∈n.all,H b=none
def Xm (T:Txt K mg a) {st:PSt} {vc vs' vg:V} {Q:Addr->Hp->Prop} {E:XK} (rc:Rep H p vc (.lst ((zH st.cells).map D.lst))) (rs:Rep H p vs' (.ints st.sides)) (rg:Rep H p vg (.lst ((z8 st.gone).map D.lst))) (lc:st.cells.length<=100) (lg:st.gone.length<=100)
  (k:∀ y H',Same H H'->Q8 a H H' (.ref y) st->Q y H'):∀ (x dx:Addr),H x=none->H dx=none->dx≠x->vA a [.ref x,.int st.turn,vc,vs',vg] (upd (upd H dx (.own x)) x (.ins a.p dx [])) (λ v H2=>v=.non/\Q x H2) E:=by
 intro y dy hy hdy hne;have kp:∀ b o,p b->H b=some o->b≠y/\upd (upd H dy (.own y)) y (.ins a.p dy []) b=some o:=λ b o _ hb=>⟨nz hb hy,qw hy hdy hb⟩;refine iE7 y dy vc vs' vg st (λ b=>b≠y) (iA9 rfl nk (λ _ h=>h) (rc.keep kp) (rs.keep kp) (rg.keep kp) lc lg (λ H' n en o so fr=>⟨rfl,?_⟩));exact k _ _ (Own.of_new hy hdy o) (iE2 y n (iA5 rfl so hy (by rw [en];exact hdy) (λ b hb=>zM (fr b hb))))
def zbt (a:Ad):Sp:=λ vs H Q _=>∃ (v:V) (r:Row) (p:A5),vs=[v]/\KnP a H p v r/\r.ins.length<=100/\r.outs.length<=100/\∀ q H',Same H H'->H q=none->H' q=some (.lst (iv (qr r)))->Q (.ref q) H'
def zbg (T:Txt K mg a):Cal P w K mg base "no_counts" 1 ["knot"] [] (zbt a):=T.lj.cal λ F=>by
 refine F.okx Vf ?_ ?_
 ·walk_at "i"
 walk_at "j";refine oE3 h λ v r p m5=>oA5 m5 λ m7 hKn l1 l2 k=>?_;clear m5 h;subst m7;refine oE6 hKn.inv λ y1 dx1 m1 m2 m3 fs1 m5=>oA9 m5 λ m7 _ _ _ _ g0 f1 f2 n6=>oA5 n6 λ _ g1 g2 g3 _=>?_;clear m5 n6;subst m7;walk_at "T";refine ⟨_,(ze (zl (zG zbR (zK (za zf zc)) (z7 (zeb rfl) zcp (za (z7 qe qd (za (zk (pq 0) rfl) zc)) (za (z7 qe qd (za (zk (pq 0) rfl) zc)) zc)))))),?_⟩;walk_at "a";intro q hq;have sq:=zg (o:=.lst [V.int 0]) hq;refine ⟨mq,gJ,?_⟩;refine ra (sq _ _ g0) (CT T _) (NI T _) f1 ⟨_,.inl ⟨_,SqL.of (sq _ _ g1),rfl⟩,?_⟩;refine ⟨gJ,?_⟩;refine ra (sq _ _ g0) (CT T _) (NO T _) f2 ⟨_,.inl ⟨_,SqL.of (sq _ _ g2),rfl⟩,?_⟩;rw [zP,zP];refine iE2 _ _ ⟨rfl,?_⟩;rw [zhN];refine iE3 q _ _ (iA7 rfl rfl nk (by omega) (by omega) ?_ (λ q2 hq2=>?_))
 ·refine Zb ?_;simp;omega
 ·rw [zhs,aA,zfn];exact k q2 _ (sq.trans (zg hq2)) (zA sq hq2) nk
noncomputable def qN (bs:A1) (rs:At):PSt:=⟨0,bs.map λ b=>List.replicate b.1.toNat none,List.replicate rs.length 0,rs.map qr⟩
def zf6 (a:Ad):Sp:=λ vs H Q _=>∃ (v:V) (bs:A1) (rs:At) (p:A5),vs=[v]/\Rep H p v (qq a bs rs)/\bs.length<=24/\rs.length<=24/\(∀ b∈bs,zz b.1 b.2)/\(∀ r∈rs,r.ok)/\∀ v' H',Same H H'->Q8 a H H' v' (qN bs rs)->Q v' H'
def Zx (T:Txt K mg a):Cal P w K mg base "empty_state" 3 ["work"] [] (zf6 a):=T.ku.cal λ F=>by
 refine F.okx JQ ?_ ?_
 ·walk_at "i"
 walk_at "j";refine oE4 h λ v bs rs p m5=>oA7 m5 λ m7 hv lb lr bo ro k=>?_;clear m5 h;subst m7;refine oE7 (qX hv) λ y dx fs l1 l2 bvs m9 m5=>oA9 m5 λ m7 hy e1 e2 h1 h2 hB hK no=>?_;clear m5;subst m7;walk_at "T";refine ⟨_,(zj (Wn (i:=1) JQ.nd rfl (Or.inl rfl) (vars:=["belt"]) (caps:=[]) (N:=["belt"]) (ON:=["work","cells","sides"]) (osc:=zd js) rfl rfl (by first|decide +kernel|kernel_rfl) rfl rfl (ql (zk (pq 0) rfl)) (λ s H fp m4=>(qp 0 (show (["belt"]:A8).Nodup from by decide +kernel))) (λ s H fp m4=>qo) (λ s H fp m4=>(zG zbR (zK (za zE zc)) (zk (pq 0) rfl))))  (zj (zp 2 JQ.nd (zG zbR (zK (za zf zc)) (z7 qe qd (za (zk (pq 0) rfl) zc))))  (ze (zl (qV (x:="State") ⟨rfl,rfl,rfl⟩ hr (za zf (za (pq 1) (za (pq 2) (za (jY (vars:=["knot"]) (caps:=[]) (N:=["knot"]) (ON:=["work","cells","sides"]) (osc:=zd js) rfl rfl (by first|decide +kernel|kernel_rfl) rfl rfl (ql (zk (pq 0) rfl)) (λ s H fp m4=>(qp 0 (show (["knot"]:A8).Nodup from by decide +kernel))) (λ s H fp m4=>qo) (λ s H fp m4=>(vH hr (za (pq 0) zc)))) zc))))))))),?_⟩;walk_at "a";walk_at "e";walk_at "a";refine ra hy T.gm T.gU e1 ⟨l1,rfl,.inl ⟨⟨_,SqL.of h1⟩,λ _ _ _ _ mZ hacc=>?_⟩⟩;let n9:Nat->St->Hp->Prop:=λ i σ H'=>∃ (v0:Aq) (us:Ap),σ=[v0]/\Same H H'/\H' mZ=some (.lst us)/\Reps H' (Off [mZ]) us ((bs.take i).map λ b=>D.lst (List.replicate b.1.toNat .non));refine qH (K:=K) (a:=l1) (xs:=bvs) n9 (iE2 _ ([]) (iA4 rfl (zg hacc) nk (by rw [bX];exact .nil))) (λ i σ H' _ h=>by obtain ⟨_,_,_,s,_⟩:=h;exact SqL.of (s _ _ h1)) ?_ ?_
 ·intro i x σ H2 hi m8;refine oE2 m8 λ v0 us m5=>oA4 m5 λ m7 s2 ha ru=>?_;clear m5 m8;subst m7;obtain ⟨b,hb',hBt⟩:=hB.at hi;refine oE3 hBt.inv λ y1 dx1 fs1 m5=>oA5 m5 λ m7 _ g0 f1 f2=>?_;clear m5;subst m7;have hil:=(aa.mp hb').1;have bk:=bo b (ah hb');walk_at "a";intro q hq;have sq:=zg (o:=.lst [V.non]) hq;refine ra (sq _ _ (s2 _ _ g0)) T.ip T.ij f1 ?_;have b1:=bk.1;have b2:=bk.2.1;refine iE3 q _ _ (iA7 rfl rfl nk (by omega) (by omega) (Zb (by simp;omega)) (λ q2 hq2=>?_));rw [zhs];have s3:=sq.trans (zg (o:=.lst (List.replicate b.1.toNat V.non)) hq2);have h3:upd (upd H2 q (.lst [V.non])) q2 (.lst (List.replicate b.1.toNat V.non)) q2=some (.lst (List.replicate b.1.toNat V.non)):=nk;have n2:H2 q2=none:=zA sq hq2;generalize upd (upd H2 q (.lst [V.non])) q2 (.lst (List.replicate b.1.toNat V.non))=H3 at s3 h3 ⊢;have f5:Fr [mZ] H3 (upd H3 mZ (.lst (us ++ [.ref q2]))):=ji (by simp);have nq:=ze4 ha n2;refine ⟨_,iA3 (s3 _ _ ha) (zm (by rw [ru.len,af,aP];omega)) (iE2 _ (us ++ [.ref q2]) (iA4 rfl (((s2.trans s3).fr.trans f5).same (by intro m hm;rw [aw.mp hm];exact hacc)) nk ?_))⟩;rw [aK,hb',a7];refine ((ru.same s3).fr f5).append (.one ?_);refine Reps.mk' ⟨by simp,λ j u d a1 a2=>?_⟩ nq (f5 _ _ nq h3);have a1:=ah a1;have a2:=ah a2;rw [(cu.mp a1).2,(cu.mp a2).2];exact .non
 intro σ H2 m8;refine oE2 m8 λ v0 us m5=>oA4 m5 λ m7 s2 ha ru=>?_;clear m5 m8;subst m7;rw [hB.len,aN] at ru;walk_at "a";intro q hq;have sq:=zg (o:=.lst [V.int 0]) hq;walk_at "a";refine ra (sq _ _ (s2 _ _ hy)) T.gm T.gj e2 ⟨_,.inl ⟨_,SqL.of (sq _ _ (s2 _ _ h2)),rfl⟩,?_⟩;rw [hK.len];refine iE3 q _ _ (iA7 rfl rfl nk (by omega) (by omega) (Zb (by simp;omega)) (λ ls hls=>?_));rw [zhs,aA,zfn];have s3:Same H (upd (upd H2 q (.lst [V.int 0])) ls (.lst (iv (List.replicate rs.length 0)))):=(s2.trans sq).trans (zg hls);have ha3:=nA (o:=.lst (iv (List.replicate rs.length 0))) (sq _ _ ha) hls;have ru3:=(ru.same sq).same (zg (o:=.lst (iv (List.replicate rs.length 0))) hls);have h3:upd (upd H2 q (.lst [V.int 0])) ls (.lst (iv (List.replicate rs.length 0))) ls=some (.lst (iv (List.replicate rs.length 0))):=nk;generalize upd (upd H2 q (.lst [V.int 0])) ls (.lst (iv (List.replicate rs.length 0)))=H3 at s3 ha3 ru3 h3 ⊢;walk_at "a";refine iE4 a.p _ _ _ ⟨(VI T).mono,?_⟩;walk_at "e";walk_at "a";refine ra (s3 _ _ hy) T.gm T.gj e2 ⟨l2,rfl,.inl ⟨⟨_,SqL.of (s3 _ _ h2)⟩,λ _ _ _ _ ac2 hac2=>?_⟩⟩;let ni:Nat->St->Hp->Prop:=λ i σ H'=>∃ (v0:Aq) (us:Ap),σ=[v0]/\Same H3 H'/\H' ac2=some (.lst us)/\Reps H' (Off [ac2]) us ((rs.take i).map λ r=>D.ints (qr r));refine qH (K:=K) (a:=l2) (xs:=m9) ni (iE2 _ ([]) (iA4 rfl (zg hac2) nk (by rw [bX];exact .nil))) (λ i σ H' _ h=>by obtain ⟨_,_,_,s,_⟩:=h;exact SqL.of (s _ _ (s3 _ _ h2))) ?_ ?_
 ·intro i x σ H4 hi m8;refine oE2 m8 λ v0 us m5=>oA4 m5 λ m7 s4 ha4 ru4=>?_;clear m5 m8;subst m7;obtain ⟨r,hr',hKn⟩:=hK.at hi;have hil:=(aa.mp hr').1;have rl:=wH (ro r (ah hr'));walk_at "a";refine uc (zbg T).mono (iE3 x r p (iA5 rfl (hKn.keep (λ b o pb hb=>⟨pb,s4 _ _ (s3 _ _ hb)⟩)) (by omega) (by omega) (λ q2 H5 s5 n2 h5=>?_)));have f5:Fr [ac2] H5 (upd H5 ac2 (.lst (us ++ [.ref q2]))):=ji (by simp);have nq:=ze4 ha4 n2;refine ⟨_,iA3 (s5 _ _ ha4) (zm (by rw [ru4.len,af,aP];omega)) (iE2 _ (us ++ [.ref q2]) (iA4 rfl (((s4.trans s5).fr.trans f5).same (by intro m hm;rw [aw.mp hm];exact hac2)) nk ?_))⟩;rw [aK,hr',a7];exact ((ru4.same s5).fr f5).append (.one (qi nq (f5 _ _ nq h5)))
 intro σ H4 m8;refine oE2 m8 λ v0' us4 m5=>oA4 m5 λ m7 s4 ha4 ru4=>?_;clear m5 m8;subst m7;rw [hK.len,aN] at ru4;have s34:=s3.trans s4;refine Xm T (st:=qN bs rs) (p:=Off []) ?_ ?_ ?_ (by simp [qN];omega) (by simp [qN];omega) (λ v' H5 s5 so=>k _ _ (s34.trans s5) ?_)
 ·have:=(ru3.same s4).all;rw [show (bs.map λ b=>D.lst (List.replicate b.1.toNat .non))=(zH (qN bs rs).cells).map D.lst by simp [qN,zH,zS,dX]] at this;exact this.mk' (λ z=>nomatch z) (s4 _ _ ha3)
 ·exact qi (λ z=>nomatch z) (s4 _ _ h3)
 ·have:=ru4.all;rw [show (rs.map λ r=>D.ints (qr r))=(z8 (qN bs rs).gone).map D.lst by simp [qN,z8,dX]] at this;exact this.mk' (λ z=>nomatch z) ha4
 ·refine oE2 so λ y5 n5 m5=>oA5 m5 λ e5 o5 f1 f2 f3=>?_;clear m5 so;exact iE2 y5 n5 (iA5 e5 o5 (zA s34 f1) (zA s34 f2) (λ b hb=>zA s34 (f3 b hb)))
def zbc {r:Row} (h:r.ok) (hw:r.wd=.joiner):qr r=List.replicate r.ins.length 0:=by
 obtain ⟨wd,ins,outs,pc,ks⟩:=r;simp only at hw;subst hw;obtain ⟨⟨o,h1⟩,h2,_⟩:=h;simp only at h1 h2;subst h1;unfold qr;rw [Nat.max_eq_left (by simp;omega)]
def zch {r:Row} (h:r.ok) (hw:r.wd≠.joiner):qr r=List.replicate (max 1 r.outs.length) 0:=by
 obtain ⟨wd,ins,outs,pc,ks⟩:=r;unfold qr;cases wd
 ·obtain ⟨h1,⟨o,h2⟩,_⟩:=h;simp only at h1 h2;subst h1 h2;rfl
 ·obtain ⟨⟨o,h1⟩,h2,_⟩:=h;simp only at h1 h2;subst h1 h2;rfl
 ·obtain ⟨⟨o,h1⟩,h2,_⟩:=h;simp only at h1 h2;subst h1;rfl
 ·obtain ⟨⟨o,h1⟩,h2,_⟩:=h;simp only at h1 h2;subst h1;rfl
 ·obtain ⟨⟨o,h1⟩,h2,_⟩:=h;simp only at h1 h2;subst h1;rfl
 ·exact absurd rfl hw
def xW {r:Row} (h:r.ok):1<=(qr r).length/\(qr r).length<=4:=by
 have:=wH h;by_cases hw:r.wd=.joiner
 ·rw [zbc h hw,a9];obtain ⟨wd,ins,outs,pc,ks⟩:=r;simp only at hw;subst hw;have:=h.2.1;simp only at this;constructor
  ·show 1<=ins.length;omega
  ·exact h.2.2
 ·rw [zch h hw,a9];omega
def vx (rs:At) (x:zC):Prop:=∀ s n,x=some (s,n)->∃ (j:Nat) (r:Row),s=j/\rs[j]?=some r/\r.wd=.source/\0<=n
def zca (rs:At) (gss:List A6):Prop:=gss.length=rs.length/\∀ (i:Nat) r g,rs[i]?=some r->gss[i]?=some g->g.length=(qr r).length/\∀ n∈g,0<=n
def xy (bs:A1) (rs:At) (css:Au):Prop:=css.length=bs.length/\∀ (i:Nat) b c,bs[i]?=some b->css[i]?=some c->c.length=b.1.toNat/\∀ x∈c,vx rs x
def zft {rs:At} {gss:List A6} (h:zca rs gss) {g g':A6} (e:gss[j]?=some g) (l:g'.length=g.length) (n:∀ x∈g',0<=x):zca rs (gss.set j g'):=by
 refine ⟨by rw [bI];exact h.1,λ i r x h1 h2=>?_⟩;by_cases hj:i=j
 ·subst hj;rw [aS (aa.mp e).1] at h2;cases h2;exact ⟨by rw [l];exact (h.2 i r g h1 e).1,n⟩
 ·rw [be (aX hj)] at h2;exact h.2 i r x h1 h2
def wx (r:Row) (s:Int):Prop:=0<=s/\(r.wd=.parter->s < r.outs.length)/\(r.wd=.joiner->s < r.ins.length)/\(r.wd≠.parter->r.wd≠.joiner->s=0)
def Vc (rs:At) (sds:A6):Prop:=sds.length=rs.length/\∀ (i:Nat) r s,rs[i]?=some r->sds[i]?=some s->wx r s
noncomputable def zI (cs:Au) (b:Int):List zC:=cs.getD b.toNat []
noncomputable def xm (c:Av):zC:=c.getLastD none
noncomputable def zgP (c:Av):zC:=c.headD none
noncomputable def jK (rs:At):zC->Option Int:=Option.map λ x=>wB ((rs[x.1.toNat]?.map Row.kinds).getD []) x.2
noncomputable def qc (rs:At) (cs:Au) (r:Row):List A9:=r.ins.map λ b=>jK rs (xm (zI cs b))
noncomputable def qA (cs:Au) (r:Row):List Bool:=r.outs.map λ b=>decide (zgP (zI cs b)=none)
def VF {α:Type} {xs:List α} {d:α} (h:xs≠[]):atI xs (-1)=some (xs.getLastD d):=by
 have hl:0 < xs.length:=cR.mpr h;unfold atI ixN;rw [ao (by decide),ap (by omega)];have e:((-1:Int) + xs.length).toNat=xs.length - 1:=by omega
 simp only [Option.bind_some,e];rw [ad (by omega),bb,cf,ad (by omega)]
 rfl
def zaV {c:Av}:(c.map zS).getLastD .non=zS (xm c):=by
 unfold xm;rw [bb,bb,List.getLast?_map];cases c.getLast? <;> rfl
structure stWf (bs:A1) (rs:At) (st:PSt):Prop where
 co:xy bs rs st.cells
 so:Vc rs st.sides
 go:zca rs st.gone
def wu {rs:At} {cs:Au} (h:xy bs rs cs) (bo:∀ b∈bs,zz b.1 b.2) {b:Int} (hb:b∈rgI bs.length):∃ (i:Nat),b=i/\i < cs.length/\cs[i]?=some (zI cs b)/\zI cs b≠[]/\∀ x∈zI cs b,vx rs x:=by
 obtain ⟨h0,h1⟩:=zgw hb;obtain ⟨i,rfl⟩:∃ i:Nat,b=i:=⟨b.toNat,by omega⟩;have hi:i < cs.length:=by rw [h.1];omega
 have e:cs[i]?=some (zI cs i):=by
  unfold zI;rw [aA,ad hi];simp [hi]
 have hib:i < bs.length:=by omega
 obtain ⟨q1,q2⟩:=h.2 i bs[i] _ (ad hib) e;refine ⟨i,iA5 rfl hi e ?_ q2⟩;intro z;rw [z] at q1;have:=(bo _ (de hib)).1;simp at q1;omega
def Qe {rs:At} {r:Row} {b:Int} (w:zJ bs rs) (h:rs[k]?=some r) (hb:b∈r.ins):b∈rgI bs.length :=
 w.2.2.mem_iff.mp (List.mem_flatMap.mpr ⟨r,ah h,hb⟩)
def Xd {rs:At} {r:Row} {b:Int} (w:zJ bs rs) (h:rs[k]?=some r) (hb:b∈r.outs):b∈rgI bs.length :=
 w.2.1.mem_iff.mp (List.mem_flatMap.mpr ⟨r,ah h,hb⟩)
def zcY {c:Av} (h:c≠[]):xm c∈c:=by
 unfold xm;rw [bb,List.getLast?_eq_some_getLast h];exact List.getLast_mem h
def zdl {st:PSt} (h:Rep H p v (QU a st)):∃ y dx fs lc ls lg ucs ugs,v=.ref y/\H y=some (.ins a.p dx fs)/\fs.lookup ("turn":Str)=some (.int st.turn)/\fs.lookup ("cells":Str)=some (.ref lc)/\fs.lookup ("sides":Str)=some (.ref ls)/\fs.lookup ("gone":Str)=some (.ref lg) /\
  H lc=some (.lst ucs)/\Reps H p ucs ((zH st.cells).map D.lst)/\H ls=some (.lst (iv st.sides))/\H lg=some (.lst ugs)/\Reps H p ugs ((z8 st.gone).map D.lst):=by
 refine oE3 (Rep.ob' h) λ y dx fs m5=>oA5 m5 λ m7 py hy g1 g2=>?_;clear m5;subst m7;obtain ⟨u1,e1,r1⟩:=g1 _ _ (zad st);obtain ⟨u2,e2,r2⟩:=g1 _ _ (Wi st);obtain ⟨u3,e3,r3⟩:=g1 _ _ (Wh st);obtain ⟨u4,e4,r4⟩:=g1 _ _ (zae st);cases r1;refine oE2 r2.lst' λ lc ucs m5=>oA4 m5 λ m7 _ hc rc=>?_;clear m5;subst m7;refine oE1 r3.ints' λ ls m5=>oA3 m5 λ m7 _ hs=>?_;clear m5;subst m7;refine oE2 r4.lst' λ lg ugs m5=>oA4 m5 λ m7 _ hg rg=>?_;clear m5;subst m7;exact iE8 y dx fs lc ls lg ucs ugs (iA9 rfl hy e1 e2 e3 e4 hc rc (iA3 hs hg rg))
def zfr {us:Ap} {dss:List (List D)} (h:Reps H p us (dss.map D.lst)) {ds:List D} (e:dss[i]?=some ds):∃ l vs,us[i]?=some (.ref l)/\H l=some (.lst vs)/\Reps H p vs ds:=by
 obtain ⟨v,h1,h2⟩:=h.of (i:=i) (d:=.lst ds) (by rw [ak,e];rfl);refine oE2 h2.lst' λ l vs m5=>oA4 m5 λ m7 _ h3 h4=>?_;clear m5;subst m7;exact iE2 l vs (iA3 h1 h3 h4)
inductive spHeads (a:Ad) (vs:Ap) (H:Hp) (Q:VK) (E:XK):Prop
 | i (vw vs' vk:V) (bs:A1) (rs:At) (st:PSt) (k:Nat) (r:Row) (p q:A5):vs=[vw,vs',vk]->Rep H p vw (qq a bs rs)->Rep H q vs' (QU a st)->KnP a H p vk r->rs[k]?=some r->zJ bs rs->(∀ b∈bs,zz b.1 b.2)->(∀ r∈rs,r.ok)->xy bs rs st.cells->(∀ l H',Same H H'->H l=none->H' l=some (.lst ((qc rs st.cells r).map hdV))->Q (.ref l) H')->spHeads a vs H Q E
theorem zcm (T:Txt K mg a):Cal P w K mg base "heads_of" 2 ["work","state","knot"] [] (spHeads a):=T.lQ.cal λ F=>by
 refine F.okx zau ?_ ?_
 ·walk_at "i"
 walk_at "j";rcases h with ⟨vw,vs',vk,bs,rs,st,kn,r,p,q,rfl,hw,hs,hk,hr',mX,bo,ro,co,k⟩;refine oE8 (zdl hs) λ y dx fs lc ls lg ucs ugs m5=>oA9 m5 λ m7 hy e1 e2 e3 e4 hc rc n6=>oA3 n6 λ hsd hg rg=>?_;clear m5 n6;subst m7;refine oE6 hk.inv λ y1 dx1 m1 m2 m3 fs1 m5=>oA9 m5 λ m7 _ _ _ _ g0 f1 f2 n6=>oA5 n6 λ _ g1 g2 _ _=>?_;clear m5 n6;subst m7;have rl:=wH (ro r (ah hr'));walk_at "T";refine ⟨_,(zj (Wn (i:=3) zau.nd rfl (Or.inl rfl) (vars:=["belt"]) (caps:=[1]) (N:=["belt","state"]) (ON:=["work","state","knot","ends"]) (osc:=zd xG) rfl rfl (by first|decide +kernel|kernel_rfl) rfl rfl (ql (zk (pq 2) rfl)) (λ s H fp m4=>(qp 0 (show (["belt","state"]:A8).Nodup from by decide +kernel))) (λ s H fp m4=>qo) (λ s H fp m4=>(zn (zn (zk (pq 1) rfl) (pq 0)) (Wp Qo zf))))  (ze (zl (jY (vars:=["ware"]) (caps:=[0]) (N:=["ware","work"]) (ON:=["work","state","knot","ends"]) (osc:=zd xG) rfl rfl (by first|decide +kernel|kernel_rfl) rfl rfl (ql (pq 3)) (λ s H fp m4=>(qp 0 (show (["ware","work"]:A8).Nodup from by decide +kernel))) (λ s H fp m4=>qo) (λ s H fp m4=>(xQ (zx jq (pq 0) zE (zy _)) zE (vH hr (za (pq 1) (za (pq 0) zc))))))))),?_⟩;walk_at "a";walk_at "e";walk_at "a";refine ra g0 (CT T _) (NI T _) f1 ⟨m1,rfl,.inl ⟨⟨_,SqL.of g1⟩,λ _ _ _ _ mZ hacc=>?_⟩⟩;let n9:Nat->St->Hp->Prop:=λ i σ H'=>∃ (v0:Aq) (us:Ap),σ=[v0,some (.ref y)]/\Same H H'/\H' mZ=some (.lst us)/\Reps H q us ((r.ins.take i).map λ b=>zS (xm (zI st.cells b)));refine qH (K:=K) (a:=m1) (xs:=iv r.ins) n9 (iE2 _ ([]) (iA4 rfl (zg hacc) nk (by rw [bX];exact .nil))) (λ i σ H' _ h=>by obtain ⟨_,_,_,s,_⟩:=h;exact SqL.of (s _ _ g1)) ?_ ?_
 ·intro i x σ H2 hi m8;refine oE2 m8 λ v0 us m5=>oA4 m5 λ m7 s2 ha ru=>?_;clear m5 m8;subst m7;obtain ⟨b,hb,rfl⟩:=Q4 hi;have hil:=(aa.mp hb).1;refine oE1 (wu co bo (Qe mX hr' (ah hb))) λ j m5=>oA5 m5 λ m7 hj ej nej _=>?_;clear m5;subst m7;obtain ⟨li,vi,hu,hli,ri⟩:=zfr rc (i:=j) (ds:=(zI st.cells j).map zS) (by rw [zH,ak,ej];rfl);obtain ⟨ve,he,re⟩:=zhf ri (VF (d:=.non) (by simpa using nej));rw [zaV] at re;walk_at "a";refine ra (s2 _ _ hy) T.gd T.gf e2 (zq (SqL.of (s2 _ _ hc)) (zD hu) ?_);walk_at "a";refine zq (SqL.of (s2 _ _ hli)) he ?_;refine ⟨_,iA3 ha (zm (by rw [ru.len,af,aP];omega)) (iE2 _ (us ++ [ve]) (iA4 rfl (λ b o hb=>by rw [nu (nz hb hacc)];exact s2 b o hb) nk ?_))⟩;rw [aK,hb,a7];exact ru.append (.one re)
 intro σ H2 m8;refine oE2 m8 λ v0 us m5=>oA4 m5 λ m7 s2 ha ru=>?_;clear m5 m8;subst m7;rw [zP,aN] at ru;have lu:us.length=r.ins.length:=by rw [ru.len,af]
 walk_at "a";walk_at "e";walk_at "a";refine ⟨mZ,rfl,.inl ⟨⟨_,SqL.of ha⟩,λ _ _ _ _ ac2 hac2=>?_⟩⟩;let ni:Nat->St->Hp->Prop:=λ i σ H'=>∃ (v0:Aq),σ=[v0,some vw]/\Same H2 H'/\H' ac2=some (.lst ((((qc rs st.cells r).take i).map hdV)));refine qH (K:=K) (a:=mZ) (xs:=us) ni ⟨_,iA3 rfl (zg hac2) (by rw [bX];exact nk)⟩ (λ i σ H' _ h=>by obtain ⟨_,_,s,_⟩:=h;exact SqL.of (s _ _ ha)) ?_ ?_
 ·intro i x σ H3 hi m8;refine oE1 m8 λ v0 m5=>oA3 m5 λ m7 s3 ha3=>?_;clear m5 m8;subst m7;obtain ⟨d,hd,rx⟩:=ru.at hi;rw [ak,am] at hd;obtain ⟨b,hb,rfl⟩:=hd;have hil:=(aa.mp hb).1;refine oE1 (wu co bo (Qe mX hr' (ah hb))) λ j m5=>oA5 m5 λ m7 hj ej nej wk=>?_;clear m5;subst m7;have hwk:=wk _ (zcY nej);have hh:(qc rs st.cells r)[i]?=some (jK rs (xm (zI st.cells j))):=by rw [qc,ak,hb];rfl
  have s23:=s2.trans s3;have fin:∀ u:V,u=hdV (jK rs (xm (zI st.cells j)))->∃ ys,H3 ac2=some (.lst ys)/\ys.length < sizeLine/\∃ (v0:Aq),([some x,some vw]:St)=[v0,some vw]/\Same H2 (upd H3 ac2 (.lst (ys ++ [u])))/\upd H3 ac2 (.lst (ys ++ [u])) ac2=some (.lst ((((qc rs st.cells r).take (i + 1)).map hdV))):=by
   rintro u rfl;refine ⟨_,iA3 ha3 (zm (by rw [af,aP];omega)) ⟨_,iA3 rfl (λ b o hb=>by rw [nu (nz hb hac2)];exact s3 b o hb) ?_⟩⟩;rw [nk,aK,hh,a7]
   rfl
  walk_at "a";cases hE:xm (zI st.cells j) with
  | none =>
   rw [hE] at rx fin;cases rx;rw [ap rfl];exact fin _ rfl
  | some wr =>
   obtain ⟨sr,nr⟩:=wr;rw [hE] at rx fin hwk;refine oE2 (hwk _ _ rfl) λ j0 r0 m5=>oA4 m5 λ m7 hr0 hw0 _=>?_;clear m5;subst m7;have ok0:=ro r0 (ah hr0);have kp:0 < r0.kinds.length:=by
    obtain ⟨wd,ins,outs,pc,ks⟩:=r0;simp only at hw0;subst hw0;exact ok0.2.2.2.2.1
   obtain ⟨tw,rfl,htw⟩:=V5 rx;rw [ao (by intro z;cases z)];refine uc (WL T).mono (iE5 vw _ bs rs p (iE4 q j0 nr r0 (iA7 rfl (jd hw s23) (jd rx s23) hr0 hw0 kp ?_)));exact fin _ (by simp [jK,hr0,hdV])
 ·intro σ H3 m8;refine oE1 m8 λ v0 m5=>oA3 m5 λ m7 s3 ha3=>?_;clear m5 m8;subst m7;rw [lu,dc (by simp [qc])] at ha3;walk_at "a";exact k _ _ (s2.trans s3) (zA s2 hac2) ha3
def zeD (K:A0):Sp:=λ vs H Q _=>∃ (l:Addr) (ns:A6) (o:Option Nat),vs=[.ref l,Zo o]/\H l=some (.lst (iv ns))/\(∀ j,o=some j->j < ns.length)/\Q (hdV (o.bind λ j=>ns[j]?)) H
theorem WM (T:Txt K mg a):Cal P w K mg base "belt_at" 1 ["belts","place"] [] (zeD K):=T.l5.cal λ F=>by
 refine F.okx zbB ?_ ?_
 ·walk_at "i"
 walk_at "j";refine oE3 h λ l ns o m5=>oA4 m5 λ m7 hl ho k=>?_;clear m5 h;subst m7;walk_at "T";refine ⟨_,(ze (zl (xQ (zx jq (pq 1) zE (zy _)) zE (zn (pq 0) (pq 1))))),?_⟩;walk_at "a";cases o with
 | none=>exact zZ (λ _=>k) (λ b=>absurd rfl b)
 | some j =>
  have hj:=ho j rfl;refine zZ (λ b=>by cases b) (λ _=>?_);refine zq (SqL.of hl) (zD (jr (ad hj))) ?_;have e:hdV ((some j).bind λ j=>ns[j]?)=.int ns[j]:=by simp [hj,hdV]
  rw [e] at k;exact k
def zjd (T:Txt K mg a) (wd:Wd):kitOne K (.ref (vj a wd)) (.ref a.o)=some (decide (wd=.joiner)):=by
 cases wd
 ·exact T.iH
 ·exact T.iV
 ·exact T.iI
 ·exact T.g9
 ·exact T.iW
 ·exact T.iJ
noncomputable def jM (r:Row) (ch:Ak):Nat:=if r.wd=.joiner then ch.1.getD 0 else ch.2.1.getD 0
inductive spCounted (a:Ad) (vs:Ap) (H:Hp) (Q:VK) (E:XK):Prop
 | i (vk:V) (t:Addr) (r:Row) (ch:Ak) (p:A5):vs=[vk,.ref t]->KnP a H p vk r->H t=some (.tup (chV ch))->(r.wd=.joiner->∃ j,ch.1=some j)->Q (.int (jM r ch)) H->spCounted a vs H Q E
theorem Jq (T:Txt K mg a):Cal P w K mg base "counted_place" 1 ["knot","chosen"] [] (spCounted a):=T.iN.cal λ F=>by
 refine F.okx Qq ?_ ?_
 ·walk_at "i"
 walk_at "j";rcases h with ⟨vk,t,r,ch,p,rfl,hk,ht,hj,k⟩;refine oE6 hk.inv λ y1 dx1 m1 m2 m3 fs1 m5=>oA9 m5 λ m7 _ _ _ _ g0 f1 f2 n6=>oA5 n6 λ _ g1 g2 _ _=>?_;clear m5 n6;subst m7;walk_at "T";refine ⟨_,(zi (zL (qO (z7 vY qu (za (pq 0) (za wg zc))) (λ _=>rfl))  (ze (zl (zn (pq 1) zf)))  zt)  (ze (zl (xQ (zx jq (zn (pq 1) zf) zE (zy _)) zf (zn (pq 1) zf))))),?_⟩;walk_at "a";refine iE2 (.ref a.o) _ (iA3 T.lM rfl (iE4 _ _ _ _ (iA4 rfl ((WT T r.wd).ty (CT T r.wd) g0) (.inl ⟨_,rfl,zjd T r.wd⟩) ?_)));walk_at "a";unfold jM at k;refine zZ (λ b=>?_) (λ b=>?_)
 ·rw [ap b] at k;obtain ⟨j,ej⟩:=hj b;walk_at "a";refine nB ht at0 ?_;rw [ej] at k ⊢;exact k
 ·rw [ao b] at k;walk_at "a";refine nB ht (show atI (chV ch) 1=some (Zo ch.2.1) from rfl) ?_;walk_at "a";cases e:ch.2.1 with
  | none =>
   rw [e] at k;exact zZ (λ _=>k) (λ b=>absurd rfl b)
  | some j =>
   rw [e] at k;refine zZ (λ b=>by cases b) (λ _=>?_);refine nB ht (show atI (chV ch) 1=some (Zo ch.2.1) from rfl) ?_;rw [e];exact k
section
variable {H:Hp} {y:Addr} {n:SN} {st:PSt}
def StO.nds (h:StO a H y n st):n.ls ∉ n.lc :: n.lg :: (n.acs ++ n.ags)/\n.lc ∉ n.lg :: (n.acs ++ n.ags)/\n.lg ∉ n.acs ++ n.ags/\∀ x∈n.acs,x ∉ n.ags:=by
 have nd:=h.nd;unfold SN.all at nd;rw [dn,dn,dn,nodup_append] at nd;exact iA4 nd.1 nd.2.1 nd.2.2.1 (λ x hx hy=>nd.2.2.2.2.2 x hx x hy rfl)
def Js {x:Addr} {us vs:Ap} (hx:H x=some (.lst us)) (h:zV H b):zV (upd H x (.lst vs)) b:=by
 obtain ⟨xs,hb⟩:=h;exact ⟨xs,by rw [nu (λ z=>by rw [z,hx] at hb;cases hb)];exact hb⟩
def StO.putC {c':Av} (h:StO a H y n st) (e:n.acs[i]?=some b) (r:Reps H (zV H) vs (c'.map zS)):StO a (upd H b (.lst vs)) y n { st with cells:=st.cells.set i c' }:=by
 have hb:=ah e;obtain ⟨us,hu⟩:=h.hc.isl (aF _ hb);refine oA4 h.nds λ n1 n2 n3 n4=>?_;have k:∀ c o,c≠b->H c=some o->upd H b (.lst vs) c=some o:=λ c o nc hc=>by rw [nu nc];exact hc
 have ntb:¬ zV H b:=λ ⟨xs,hx⟩=>by rw [hu] at hx;cases hx
 refine ⟨k _ _ (λ z=>by rw [<- z,h.hy] at hu;cases hu) h.hy,?_,k _ _ (λ z=>n1 (by rw [z];simp [hb])) h.hs,h.hg.tup λ c o hz hc=>k c o (λ z=>?_) hc,h.nd⟩
 ·have:=h.hc.put (vs:=vs) (ys:=c'.map zS) e ntb r;rw [show zH (st.cells.set i c')=(zH st.cells).set i (c'.map zS) by simp [zH,dE]];exact this.keep (λ _ _ _ hc=>hc) λ c hc _=>Js hu hc
 ·subst z;rcases hz with rfl|hz|hz
  ·exact n3 (bp _ hb)
  ·exact n4 c hb hz
  ·exact ntb hz
def StO.putG {g':A6} (h:StO a H y n st) (e:n.ags[i]?=some b):StO a (upd H b (.lst (iv g'))) y n { st with gone:=st.gone.set i g' }:=by
 have hb:=ah e;obtain ⟨us,hu⟩:=h.hg.isl (aF _ hb);refine oA4 h.nds λ n1 n2 n3 n4=>?_;have k:∀ c o,c≠b->H c=some o->upd H b (.lst (iv g')) c=some o:=λ c o nc hc=>by rw [nu nc];exact hc
 have ntb:¬ zV H b:=λ ⟨xs,hx⟩=>by rw [hu] at hx;cases hx
 refine ⟨k _ _ (λ z=>by rw [<- z,h.hy] at hu;cases hu) h.hy,h.hc.tup λ c o hz hc=>k c o (λ z=>?_) hc,k _ _ (λ z=>n1 (by rw [z];simp [hb])) h.hs,?_,h.nd⟩
 ·subst z;rcases hz with rfl|hz|hz
  ·exact n2 (aF _ (aT _ hb))
  ·exact n4 c hz hb
  ·exact ntb hz
 ·have:=h.hg.put (vs:=iv g') (ys:=g'.map D.int) e ntb reps_ints;rw [show z8 (st.gone.set i g')=(z8 st.gone).set i (g'.map D.int) by simp [z8,dE]];exact this.keep (λ _ _ _ hc=>hc) λ c hc _=>Js hu hc
def StO.putS {s':A6} (h:StO a H y n st):StO a (upd H n.ls (.lst (iv s'))) y n { st with sides:=s' }:=by
 refine oA4 h.nds λ n1 n2 n3 n4=>?_;have k:∀ c o,c≠n.ls->H c=some o->upd H n.ls (.lst (iv s')) c=some o:=λ c o nc hc=>by rw [nu nc];exact hc
 have kt:∀ c,zV H c->c≠n.ls:=λ c ⟨xs,hx⟩ z=>by rw [z,h.hs] at hx;cases hx
 refine ⟨k _ _ (λ z=>by have:=h.hy;rw [z,h.hs] at this;cases this) h.hy,h.hc.tup λ c o hz hc=>k c o (λ z=>?_) hc,nk,h.hg.tup λ c o hz hc=>k c o (λ z=>?_) hc,h.nd⟩
 ·rcases hz with rfl|hz|hz
  ·exact n1 (by rw [<- z];simp)
  ·exact n1 (by rw [<- z];simp [hz])
  ·exact kt c hz z
 ·rcases hz with rfl|hz|hz
  ·exact n1 (by rw [<- z];simp)
  ·exact n1 (by rw [<- z];simp [hz])
  ·exact kt c hz z
def StO.cell {c:Av} (h:StO a H y n st) (e:st.cells[i]?=some c):∃ b vs,n.acs[i]?=some b/\H b=some (.lst vs)/\Reps H (zV H) vs (c.map zS):=h.hc.at (by rw [zH,ak,e];rfl)
def StO.goneL {g:A6} (h:StO a H y n st) (e:st.gone[i]?=some g):∃ b,n.ags[i]?=some b/\H b=some (.lst (iv g)):=by
 obtain ⟨b,vs,h1,h2,h3⟩:=h.hg.at (i:=i) (xs:=g.map D.int) (by rw [z8,ak,e];rfl);rw [Jy h3] at h2;exact ⟨b,h1,h2⟩
def sff_l {t:Int} {lc ls lg:Addr}:(sff t lc ls lg).lookup ("cells":Str)=some (.ref lc)/\(sff t lc ls lg).lookup ("sides":Str)=some (.ref ls)/\(sff t lc ls lg).lookup ("gone":Str)=some (.ref lg)/\(sff t lc ls lg).lookup ("turn":Str)=some (.int t):=by
 unfold sff;refine iA4 ((zT (by decide +kernel)).trans jf) ((zT (by decide +kernel)).trans ((zT (by decide +kernel)).trans jf)) ((zT (by decide +kernel)).trans ((zT (by decide +kernel)).trans ((zT (by decide +kernel)).trans jf))) jf
def Zl (e:n.acs[i]?=some b):(n.acs.map V.ref)[i]?=some (.ref b):=by rw [ak,e];rfl
def JD (e:n.ags[i]?=some b):(n.ags.map V.ref)[i]?=some (.ref b):=by rw [ak,e];rfl
def V1 (e:n.acs[i]?=some b):b∈y :: n.all:=by simp [SN.all,ah e]
def zgU (e:n.ags[i]?=some b):b∈y :: n.all:=by simp [SN.all,ah e]
end
noncomputable def xD (c:Av):List zC:=c.set (c.length - 1) none
noncomputable def z6 (st:PSt) (k:Nat):Option Int->zC × PSt
 | none=>(some ((k:Int),(st.gone.getD k []).headD 0),st)
 | some b=>(xm (zI st.cells b),{ st with cells:=st.cells.set b.toNat (xD (zI st.cells b)) })
def Reps.set {ds:List D} {d:D} (h:Reps H p vs ds) (i:Nat) (r:Rep H p v d):Reps H p (vs.set i v) (ds.set i d):=by
 refine ⟨by rw [bI,bI,h.len],λ j u e h1 h2=>?_⟩;by_cases hj:j=i
 ·subst hj;have hl:j < vs.length:=by have:=(aa.mp h1).1;rw [bI] at this;exact this
  rw [aS hl] at h1;rw [aS (by rw [<- h.len];exact hl)] at h2;cases h1;cases h2;exact r
 ·rw [be (aX hj)] at h1 h2;exact h.g j u e h1 h2
inductive spTaken (a:Ad) (vs:Ap) (H:Hp) (Q:VK) (E:XK):Prop
 | i (y:Addr) (n:SN) (st:PSt) (k:Nat) (fb:A9) (g0:Int) (gs:A6):vs=[.ref y,.int k,hdV fb]->StO a H y n st->st.gone[k]?=some (g0 :: gs)->(∀ b,fb=some b->∃ i:Nat,b=i/\st.cells[i]?=some (zI st.cells b)/\zI st.cells b≠[])->(∀ v H',Fr (y :: n.all) H H'->StO a H' y n (z6 st k fb).2->Rep H' (zV H') v (zS (z6 st k fb).1)->Q v H')->spTaken a vs H Q E
theorem VU (T:Txt K mg a):Cal P w K mg base "taken_ware" 1 ["state","number","from_belt"] [] (spTaken a):=T.kK.cal λ F=>by
 refine F.okx XO ?_ ?_
 ·walk_at "i"
 walk_at "j";rcases h with ⟨y,n,st,kn,fb,g0,gs,rfl,so,hg,hf,k⟩;refine oA4 (sff_l (t:=st.turn) (lc:=n.lc) (ls:=n.ls) (lg:=n.lg)) λ lk1 lk2 lk3 lk4=>?_;walk_at "T";refine ⟨_,(zi (zL (zx jq (pq 2) zE (zy _))  (ze (zl (qS (za (pq 1) (za (zn (zn (zk (pq 0) rfl) (pq 1)) zf) zc)))))  zt)  (zi (zp 3 XO.nd (zn (zn (zk (pq 0) rfl) (pq 2)) (Wp Qo zf)))  (zi (QH zE (Xa (zn (zk (pq 0) rfl) (pq 2)) (Wp Qo zf) wE))  (ze (zl (pq 3)))))),?_⟩;walk_at "a";cases fb with
 | none =>
  refine zZ (λ _=>?_) (λ b=>absurd rfl b);obtain ⟨bG,hbG,hgG⟩:=so.goneL hg;walk_at "a";refine ra so.hy T.gd T.gi lk3 (zq (SqL.of so.hg.out) (zD (JD hbG)) (zq (SqL.of hgG) at0 ?_));walk_at "a";intro t ht;refine k _ _ (zcb ht) (so.same (zg ht)) ?_;have e:(st.gone.getD kn []).headD 0=g0:=by simp [List.getD,hg]
  show Rep _ _ _ (D.tup [.int kn,.int ((st.gone.getD kn []).headD 0)])
  rw [e];exact Reps.mkT (vs:=[.int kn,.int g0]) (.cons .int (.cons .int .nil)) ⟨_,nk⟩ nk
 | some b =>
  refine oE1 (hf b rfl) λ i m5=>oA3 m5 λ m7 hc nc=>?_;clear m5;subst m7;refine oE2 (so.cell hc) λ bC vs m5=>oA3 m5 λ hbC hvC rvC=>?_;clear m5;have lv:vs.length=(zI st.cells i).length:=by rw [rvC.len,af]
  have lp:0 < vs.length:=by rw [lv];exact cR.mpr nc
  obtain ⟨ve,he,re⟩:=zhf rvC (VF (d:=.non) (by simpa using nc));rw [zaV] at re;refine zZ (λ b=>by cases b) (λ _=>?_);walk_at "a";refine ra so.hy T.gd T.gf lk1 (zq (SqL.of so.hc.out) (zD (Zl hbC)) ?_);walk_at "a";refine zq (SqL.of hvC) he ?_;walk_at "a";refine ra so.hy T.gd T.gf lk1 (zq (SqL.of so.hc.out) (zD (Zl hbC)) ?_);walk_at "a";refine Zd (j:=vs.length - 1) hvC ?_ ?_
  ·unfold ixN;rw [ao (by decide),ap (by omega)]
   congr 1
   omega
  have e2:(xD (zI st.cells i)).map zS=((zI st.cells i).map zS).set (vs.length - 1) .non:=by
   unfold xD;rw [dE,lv]
   rfl
  have r2:Reps H (zV H) (vs.set (vs.length - 1) .non) ((xD (zI st.cells i)).map zS):=by rw [e2];exact Reps.set rvC _ .non
  refine k _ _ (ji (V1 hbC)) ?_ ?_
  ·have:=so.putC hbC r2;simpa [z6] using this
  ·refine Rep.keep (λ c o pc hc=>⟨Js hvC pc,?_⟩) re;obtain ⟨xs,hx⟩:=pc;rw [nu (λ z=>by rw [z,hvC] at hx;cases hx)];exact hc
structure Move where
 k:Nat
 ware:zC
 fr:Option Int
 to:Option Int
noncomputable def zh7:Option Int->D
 | none=>.non
 | some b=>.int b
def zcw (o:A9):Rep H p (hdV o) (zh7 o):=by
 cases o
 ·exact .non
 ·exact .int
noncomputable def XA (m:Move):D:=.tup [.int m.k,zS m.ware,zh7 m.fr,zh7 m.to]
noncomputable def zh8:Option Move->D
 | none=>.non
 | some m=>XA m
noncomputable def vG (st:PSt) (x:zC):Option Int->PSt
 | none=>st
 | some b=>{ st with cells:=st.cells.set b.toNat ((zI st.cells b).set 0 x) }
noncomputable def ZR (g:A6) (j:Nat):List Int:=g.set j (g.getD j 0 + 1)
noncomputable def qF (r:Row) (ch:Ak):Option Int:=ch.1.bind λ j=>r.ins[j]?
noncomputable def Zz (r:Row) (ch:Ak):Option Int:=ch.2.1.bind λ j=>r.outs[j]?
noncomputable def movedF (r:Row) (st:PSt) (k:Nat) (ch:Ak):PSt:=vG (z6 st k (qF r ch)).2 (z6 st k (qF r ch)).1 (Zz r ch)
noncomputable def vT (r:Row) (st:PSt) (k:Nat) (ch:Ak):PSt × Move :=
 ({ movedF r st k ch with sides:=(movedF r st k ch).sides.set k ch.2.2,gone:=(movedF r st k ch).gone.set k (ZR ((movedF r st k ch).gone.getD k []) (jM r ch)) },⟨k,(z6 st k (qF r ch)).1,qF r ch,Zz r ch⟩)
noncomputable def qg (rs:At) (st:PSt) (k:Nat):PSt × Option Move:=match rs[k]? with
 | none=>(st,none)
 | some r=>match zX r (qc rs st.cells r) (qA st.cells r) st.turn (st.sides.getD k 0).toNat with
  | none=>(st,none)
  | some ch=>((vT r st k ch).1,some (vT r st k ch).2)
def QV {rs:At} {cs:Au} (h:xy bs rs cs) {c c':Av} (e:cs[i]?=some c) (l:c'.length=c.length) (k:∀ x∈c',vx rs x):xy bs rs (cs.set i c'):=by
 refine ⟨by rw [bI];exact h.1,λ j b d h1 h2=>?_⟩;by_cases hj:j=i
 ·subst hj;rw [aS (aa.mp e).1] at h2;cases h2;exact ⟨by rw [l];exact (h.2 j b c h1 e).1,k⟩
 ·rw [be (aX hj)] at h2;exact h.2 j b d h1 h2
def Qn {rs:At}:vx rs none:=λ _ _ z=>nomatch z
def vM {α:Type} {xs:List α} {x y:α} (h:y∈xs.set i x):y∈xs\/y=x:=List.mem_or_eq_of_mem_set h
theorem xB {r:Row} {hs:List A9} {bs:Ai} {t:Int} {side:Nat} {ch:Ak} (ok:r.ok) (hl:hs.length=r.ins.length) (bl:bs.length=r.outs.length) (sd:wx r side) (h:zX r hs bs t side=some ch) :
  (∀ j,ch.1=some j->j < r.ins.length)/\(∀ j,ch.2.1=some j->j < r.outs.length)/\(r.wd=.joiner->∃ j,ch.1=some j)/\(ch.1=none->r.wd=.source)/\wx r ch.2.2/\jM r ch < (qr r).length:=by
 obtain ⟨wd,ins,outs,pace,kinds⟩:=r;have cp:=xW ok;unfold zX at h;cases wd with
 | source =>
  simp only at h;obtain ⟨h1,⟨o,h2⟩,_⟩:=ok;simp only at h1 h2;subst h1 h2
  split at h
  ·cases h;exact ⟨(λ j z=>nomatch z),λ j z=>by cases z;simp,(λ z=>nomatch z),λ _=>rfl,sd,by simp [jM];omega⟩
  ·cases h
 | drain =>
  simp only at h;obtain ⟨⟨o,h1⟩,h2,_⟩:=ok;simp only at h1 h2;subst h1 h2
  split at h
  ·cases h
  ·cases h;exact ⟨λ j z=>by cases z;simp,(λ j z=>nomatch z),(λ z=>nomatch z),(λ z=>nomatch z),sd,by simp [jM];omega⟩
 | parter =>
  simp only at h;obtain ⟨⟨o,h1⟩,h2,h3⟩:=ok;simp only at h1 h2 h3 bl;subst h1
  split at h
  ·cases h
  ·rw [am] at h;obtain ⟨q,hq,rfl⟩:=h;have hlt:=wL hq;refine ⟨λ j z=>by cases z;simp,λ j z=>by cases z;show q < outs.length;omega,(λ z=>nomatch z),(λ z=>nomatch z),⟨bV _,λ _=>?_,(λ z=>nomatch z),λ z=>absurd rfl z⟩,?_⟩
   ·have:=cT (q + 1) (show 0 < bs.length by omega);show (((q + 1) % bs.length:Nat):Int) < outs.length
    omega
   ·simp only [jM,aJ];rw [ao (by decide)];show q < (List.replicate (max 1 outs.length) 0).length
    rw [a9];omega
 | first =>
  simp only at h;obtain ⟨⟨o,h1⟩,h2,h3⟩:=ok;simp only at h1 h2 h3 bl;subst h1
  split at h
  ·cases h
  ·rw [am] at h;obtain ⟨q,hq,rfl⟩:=h;have hlt:=wL hq;refine ⟨λ j z=>by cases z;simp,λ j z=>by cases z;show q < outs.length;omega,(λ z=>nomatch z),(λ z=>nomatch z),sd,?_⟩;simp only [jM,aJ];rw [ao (by decide)];show q < (List.replicate (max 1 outs.length) 0).length
   rw [a9];omega
 | sieve =>
  simp only at h;obtain ⟨⟨o,h1⟩,h2,_⟩:=ok;simp only at h1 h2 bl;subst h1
  split at h
  ·cases h
  ·generalize (if hs.getD 0 none=some (kinds.headD 0) then 0 else 1)=q at h;have q2:q=q:=rfl
   split at h
   ·rename_i hb;cases h;have hlt:q < outs.length:=by
     rcases Nat.lt_or_ge q bs.length with z|z
     ·omega
     ·rw [ae,bZ z] at hb;cases hb
    refine ⟨λ j z=>by cases z;simp,λ j z=>by cases z;exact hlt,(λ z=>nomatch z),(λ z=>nomatch z),sd,?_⟩;simp only [jM,aJ];rw [ao (by decide)];show q < (List.replicate (max 1 outs.length) 0).length
    rw [a9];omega
   ·cases h
 | joiner =>
  simp only at h;obtain ⟨⟨o,h1⟩,h2,h3⟩:=ok;simp only at h1 h2 h3 hl;subst h1
  split at h
  ·rw [am] at h;obtain ⟨q,hq,rfl⟩:=h;have hlt:=wL hq;rw [af] at hlt;refine ⟨λ j z=>by cases z;show q < ins.length;omega,λ j z=>by cases z;simp,λ _=>⟨q,rfl⟩,(λ z=>nomatch z),⟨bV _,(λ z=>nomatch z),λ _=>?_,λ _ z=>absurd rfl z⟩,?_⟩
   ·have:=cT (q + 1) (show 0 < hs.length by omega);show (((q + 1) % hs.length:Nat):Int) < ins.length
    omega
   ·simp only [jM,aJ];rw [ap trivial];show q < (List.replicate (max ins.length 1) 0).length
    rw [a9];omega
  ·cases h
theorem V8 {rs:At} {st:PSt} {r:Row} {fb:A9} (wf:stWf bs rs st) (mX:zJ bs rs) (bo:∀ b∈bs,zz b.1 b.2) (ro:∀ r∈rs,r.ok) (hr:rs[k]?=some r) (hf:∀ b,fb=some b->b∈rgI bs.length) (hn:fb=none->r.wd=.source) :
  stWf bs rs (z6 st k fb).2/\vx rs (z6 st k fb).1:=by
 cases fb with
 | none =>
  refine ⟨wf,λ s n z=>?_⟩;have z:((k:Int),(st.gone.getD k []).headD 0)=(s,n):=aI z;cases z;refine iE2 k r (iA4 rfl hr (hn rfl) ?_);have hk:=(aa.mp hr).1;have hg:st.gone[k]?=some (st.gone.getD k []):=by
   rw [ae,ad (by rw [wf.go.1];exact hk)]
   rfl
  obtain ⟨q1,q2⟩:=wf.go.2 k r _ hr hg;have cp:=xW (ro r (ah hr));cases e:st.gone.getD k [] with
  | nil=>rw [e] at q1;simp at q1;omega
  | cons x xs=>exact q2 x (by rw [e];simp)
 | some b =>
  refine oE1 (wu wf.co bo (hf b rfl)) λ i m5=>oA5 m5 λ m7 hi ei ne wk=>?_;clear m5;subst m7;refine ⟨⟨?_,wf.so,wf.go⟩,wk _ (zcY ne)⟩;show xy bs rs (st.cells.set _ _)
  rw [aA];refine QV wf.co ei (by simp [xD]) λ x hx=>?_;rcases vM hx with h|h
  ·exact wk x h
  ·rw [h];exact Qn
def zaJ {rs:At} {st:PSt} {x:zC} {tb:A9} (wf:stWf bs rs st) (bo:∀ b∈bs,zz b.1 b.2) (hf:∀ b,tb=some b->b∈rgI bs.length) (hx:vx rs x):stWf bs rs (vG st x tb):=by
 cases tb with
 | none=>exact wf
 | some b =>
  refine oE1 (wu wf.co bo (hf b rfl)) λ i m5=>oA5 m5 λ m7 hi ei ne wk=>?_;clear m5;subst m7;refine ⟨?_,wf.so,wf.go⟩;show xy bs rs (st.cells.set _ _)
  rw [aA];refine QV wf.co ei (by simp) λ z hz=>?_;rcases vM hz with h|h
  ·exact wk z h
  ·rw [h];exact hx
def zeE {rs:At} {sds:A6} {r:Row} {s:Int} (h:Vc rs sds) (hr:rs[k]?=some r) (hs:wx r s):Vc rs (sds.set k s):=by
 refine ⟨by rw [bI];exact h.1,λ j r2 s2 h1 h2=>?_⟩;by_cases hj:j=k
 ·subst hj;rw [aS (by rw [h.1];exact (aa.mp h1).1)] at h2;cases h2;rw [hr] at h1;cases h1;exact hs
 ·rw [be (aX hj)] at h2;exact h.2 j r2 s2 h1 h2
def qh {α:Type} {xs:List α} {d:α} (h:k < xs.length):xs[k]?=some (xs.getD k d):=by
 rw [ae,ad h];rfl
def zda {g:A6} (h:∀ x∈g,0<=x):(ZR g j).length=g.length/\∀ x∈ZR g j,0<=x:=by
 refine ⟨by simp [ZR],λ x hx=>?_⟩;rcases vM hx with z|z
 ·exact h x z
 ·rw [z];have:0<=g.getD j 0:=by
   rw [ae];cases e:g[j]? with
   | none=>simp
   | some v=>exact h v (ah e)
  omega
def zgW {rs:At} {st:PSt} (wf:stWf bs rs st) (mX:zJ bs rs) (bo:∀ b∈bs,zz b.1 b.2) (ro:∀ r∈rs,r.ok):stWf bs rs (qg rs st k).1:=by
 unfold qg;cases hr:rs[k]? with
 | none=>exact wf
 | some r =>
  simp only;have hk:=(aa.mp hr).1;have ok:=ro r (ah hr);have hsd:=wf.so.2 k r _ hr (qh (d:=0) (by rw [wf.so.1];exact hk));have hsd':wx r ((st.sides.getD k 0).toNat:Int):=by rw [bP hsd.1];exact hsd
  cases hc:zX r (qc rs st.cells r) (qA st.cells r) st.turn (st.sides.getD k 0).toNat with
  | none=>exact wf
  | some ch =>
   refine oA6 (xB ok (by simp [qc]) (by simp [qA]) hsd' hc) λ c1 c2 c3 c4 c5 c6=>?_;have hfb:∀ b,qF r ch=some b->b∈rgI bs.length:=λ b hb=>by
    unfold qF at hb;obtain ⟨j,hj1,hj2⟩:=bR.mp hb;exact Qe mX hr (ah hj2)
   have htb:∀ b,Zz r ch=some b->b∈rgI bs.length:=λ b hb=>by
    unfold Zz at hb;obtain ⟨j,hj1,hj2⟩:=bR.mp hb;exact Xd mX hr (ah hj2)
   have hfn:qF r ch=none->r.wd=.source:=λ hb=>by
    cases e:ch.1 with
    | none=>exact c4 e
    | some j =>
     unfold qF at hb;rw [e] at hb;simp at hb;have:=c1 j e;omega
   obtain ⟨w1,w2⟩:=V8 wf mX bo ro hr hfb hfn;have w3:=zaJ w1 bo htb w2;refine ⟨w3.co,zeE w3.so hr c5,?_⟩;have hg:=qh (xs:=(movedF r st k ch).gone) (k:=k) (d:=[]) (by rw [show (movedF r st k ch).gone.length=rs.length from w3.go.1];exact hk);obtain ⟨q1,q2⟩:=w3.go.2 k r _ hr hg;exact zft w3.go hg (zda q2).1 (zda q2).2
def KnP.no {y C dx:Addr} {r:Row} {f:Str} (h:KnP a H p (.ref y) r) (hy:H y=some (.ins C dx fs)) (h1:f≠"ins") (h2:f≠"outs") (h3:f≠"pace") (h4:f≠"kinds") (h5:f≠"kind"):fs.lookup f=none:=by
 refine oE3 (Rep.ob' h) λ y' dx' fs' m5=>oA5 m5 λ e _ hy' _ g=>?_;clear m5;cases e;rw [hy] at hy';cases hy';exact g f (zfh h1 h2 h3 h4 h5)
def StO.offT {y:Addr} {n:SN} {st:PSt} (h:StO a H y n st) (t:zV H b):b ∉ y :: n.all:=by
 obtain ⟨xs,hx⟩:=t;intro hb;have no:∀ us,H b≠some (.lst us):=λ us e=>by rw [hx] at e;cases e
 unfold SN.all at hb;rcases ax.mp hb with rfl|hb
 ·rw [h.hy] at hx;cases hx
 rcases ax.mp hb with rfl|hb
 ·exact no _ h.hs
 rcases ax.mp hb with rfl|hb
 ·exact no _ h.hc.out
 rcases ax.mp hb with rfl|hb
 ·exact no _ h.hg.out
 rcases aE.mp hb with hb|hb
 ·obtain ⟨us,e⟩:=h.hc.isl (aF _ hb);exact no _ e
 ·obtain ⟨us,e⟩:=h.hg.isl (aF _ hb);exact no _ e
def StO.repT {H H':Hp} {y:Addr} {n:SN} {st:PSt} (h:StO a H y n st) (s:Fr (y :: n.all) H H') {d:D} (r:Rep H (zV H) v d):Rep H' (zV H') v d :=
 Rep.keep (λ b o hp hb=>⟨by obtain ⟨xs,hx⟩:=hp;exact ⟨xs,s _ _ (h.offT ⟨xs,hx⟩) hx⟩,s _ _ (h.offT hp) hb⟩) r
def zfm (ns:A6) (k:Nat) (x:Int):(iv ns).set k (.int x)=iv (ns.set k x):=by simp [iv]
def zdD {H H':Hp} {d:D} (r:Rep H (zV H) v d) (s:Same H H'):Rep H' (zV H') v d:=Rep.keep (λ b o ⟨xs,hx⟩ hb=>⟨⟨xs,s _ _ hx⟩,s _ _ hb⟩) r
inductive spAct (a:Ad) (vs:Ap) (H:Hp) (Q:VK) (E:XK):Prop
 | i (vw:V) (y:Addr) (n:SN) (st:PSt) (k:Nat) (bs:A1) (rs:At):vs=[vw,.ref y,.int k]->Rep H (Off (y :: n.all)) vw (qq a bs rs)->StO a H y n st->stWf bs rs st->zJ bs rs->(∀ b∈bs,zz b.1 b.2)->(∀ r∈rs,r.ok)->k < rs.length->(∀ v H',Fr (y :: n.all) H H'->StO a H' y n (qg rs st k).1->Rep H' (zV H') v (zh8 (qg rs st k).2)->Q v H')->spAct a vs H Q E
def zhJ (T:Txt K mg a) (F:Fun K "act" "act" zay f fd):FnOk P w K mg base (CXr P w) 4 f fd ["work","state","number"] (spAct a):=by
 refine F.okx zhr ?_ ?_
 ·walk_at "i"
 walk_at "j";rcases h with ⟨vw,y,n,st,kn,bs,rs,rfl,hw,so,wf,mX,bo,ro,hk,k⟩;refine oE7 (qX hw) λ yw dw fw l1 l2 bvs m9 m5=>oA9 m5 λ m7 hyw ew1 ew2 hl1 hl2 hB hK no=>?_;clear m5;subst m7;obtain ⟨r,hr'⟩:∃ r,rs[kn]?=some r:=⟨rs[kn],ad hk⟩;have ok:=ro r (ah hr');have rl:=wH ok;obtain ⟨kv,hkv,hKn⟩:=VG hK hr';refine oE6 hKn.inv λ y1 dx1 m1 m2 m3 fs1 m5=>oA9 m5 λ m7 _ _ _ _ g0 f1 f2 n6=>oA5 n6 λ _ g1 g2 _ _=>?_;clear m5 n6;subst m7;have fno:=hKn.no (f:="choice") g0 (by decide +kernel) (by decide +kernel) (by decide +kernel) (by decide +kernel) (by decide +kernel);have hsd:=wf.so.2 kn r _ hr' (qh (d:=0) (by rw [wf.so.1];exact hk));obtain ⟨side,esd⟩:∃ sd:Nat,st.sides.getD kn 0=sd:=⟨(st.sides.getD kn 0).toNat,(bP hsd.1).symm⟩;have hside:st.sides[kn]?=some (side:Int):=by rw [<- esd];exact qh (by rw [wf.so.1];exact hk)
 have hsd':wx r (side:Int):=by rw [<- esd];exact hsd
 have esd':(st.sides.getD kn 0).toNat=side:=by rw [esd];rfl
 refine oA4 (sff_l (t:=st.turn) (lc:=n.lc) (ls:=n.ls) (lg:=n.lg)) λ lk1 lk2 lk3 lk4=>?_;have hAct:∀ x,zX r (qc rs st.cells r) (qA st.cells r) st.turn side=x->qg rs st kn=match x with|none=>(st,none)|some ch=>((vT r st kn ch).1,some (vT r st kn ch).2):=λ x e=>by
  unfold qg;rw [hr'];simp only;rw [esd',e]
  all_goals (cases x <;> rfl)
 walk_at "T";refine ⟨_,(zj (zp 3 zhr.nd (zn (zk (pq 0) rfl) (pq 2)))  (zj (Wn (i:=4) zhr.nd rfl (Or.inl rfl) (vars:=["belt"]) (caps:=[1]) (N:=["belt","state"]) (ON:=["work","state","number","knot","free","chosen","from_belt","to_belt","ware"]) (osc:=zd zay) rfl rfl (by first|decide +kernel|kernel_rfl) rfl rfl (ql (zk (pq 3) rfl)) (λ s H fp m4=>(qp 0 (show (["belt","state"]:A8).Nodup from by decide +kernel))) (λ s H fp m4=>qo) (λ s H fp m4=>(xv op_isN (zn (zn (zk (pq 1) rfl) (pq 0)) zf) zE (zy _))))  (zj (zp 5 zhr.nd (QI ⟨rfl,rfl,rfl⟩ hr (pq 3) (za (zw ⟨rfl,rfl,rfl⟩ hr (za (pq 0) (za (pq 1) (za (pq 3) zc)))) (za (pq 4) (za (zk (pq 1) rfl) (za (zn (zk (pq 1) rfl) (pq 2)) zc))))))  (zj (zL (zx jq (pq 5) zE (zy _))  (ze (zl zE))  zt)  (zj (zp 6 zhr.nd (zw ⟨rfl,rfl,rfl⟩ hr (za (zk (pq 3) rfl) (za (zn (pq 5) zf) zc))))  (zj (zp 7 zhr.nd (zw ⟨rfl,rfl,rfl⟩ hr (za (zk (pq 3) rfl) (za (zn (pq 5) zf) zc))))  (zj (zp 8 zhr.nd (zw ⟨rfl,rfl,rfl⟩ hr (za (pq 1) (za (pq 2) (za (pq 6) zc)))))  (qM (zL (zx wl (pq 7) zE (zy _))  (ze (QH (pq 8) (Xa (zn (zk (pq 1) rfl) (pq 7)) zf wE)))  zt)  (zj (QH (zn (pq 5) zf) (Xa (zk (pq 1) rfl) (pq 2) wE))  (zj (zgm (zn (zk (pq 1) rfl) (pq 2)) (zw ⟨rfl,rfl,rfl⟩ hr (za (pq 3) (za (pq 5) zc))) zfv zf zh1 wE)  (ze (zl (qS (za (pq 2) (za (pq 8) (za (pq 6) (za (pq 7) zc))))))))))))))))),?_⟩;walk_at "a";refine ra hyw T.gm T.gj ew2 (zq (SqL.of hl2) (zD hkv) ?_);walk_at "a";walk_at "e";walk_at "a";refine ra g0 (CT T _) (NO T _) f2 ⟨m2,rfl,.inl ⟨⟨_,SqL.of g2⟩,λ _ _ _ _ mZ hacc=>?_⟩⟩;refine qH (K:=K) (a:=m2) (xs:=iv r.outs) (λ i σ H'=>∃ (v0:Aq),σ=[v0,some (.ref y)]/\Same H H'/\H' mZ=some (.lst (((qA st.cells r).take i).map V.bl))) ⟨_,iA3 rfl (zg hacc) (by rw [bX];exact nk)⟩ (λ i σ H' _ h=>by obtain ⟨_,_,s,_⟩:=h;exact SqL.of (s _ _ g2)) ?_ ?_
 ·intro i x σ H2 hi m8;refine oE1 m8 λ v0 m5=>oA3 m5 λ m7 s2 ha=>?_;clear m5 m8;subst m7;obtain ⟨b,hb,rfl⟩:=Q4 hi;have hil:=(aa.mp hb).1;refine oE1 (wu wf.co bo (Xd mX hr' (ah hb))) λ j m5=>oA5 m5 λ m7 hj ej nej _=>?_;clear m5;subst m7;refine oE2 (so.cell ej) λ bC vs m5=>oA3 m5 λ hbC hvC rvC=>?_;clear m5;obtain ⟨c0,cs,ec⟩:∃ c0 cs,zI st.cells j=c0 :: cs:=cO nej;have hfr:(qA st.cells r)[i]?=some (decide (c0=none)):=by rw [qA,ak,hb];simp [ec,zgP]
  rw [ec] at rvC;obtain ⟨v1,hv1,rv1⟩:=rvC.of (i:=0) (d:=zS c0) rfl;walk_at "a";refine ra (s2 _ _ so.hy) T.gd T.gf lk1 (zq (SqL.of (s2 _ _ so.hc.out)) (zD (Zl hbC)) (zq (SqL.of (s2 _ _ hvC)) (zD (j:=0) hv1) ?_));walk_at "a";have ev:decide (v1=V.non)=decide (c0=none):=by
   cases c0 with
   | none=>cases rv1;rfl
   | some x=>obtain ⟨t,us,rfl,_⟩:=Rep.tup' rv1;rfl
  rw [ev];refine ⟨_,iA3 ha (zm (by rw [af,aP];omega)) ⟨_,iA3 rfl (λ b o hb=>by rw [nu (nz hb hacc)];exact s2 b o hb) ?_⟩⟩;rw [nk,aK,hfr,a7]
  rfl
 intro σ H2 m8;refine oE1 m8 λ v0 m5=>oA3 m5 λ m7 s2 ha=>?_;clear m5 m8;subst m7;rw [zP,dc (by simp [qA])] at ha;walk_at "a";refine iE7 y1 (vj a r.wd) dx1 fs1 _ _ _ (iA5 rfl (s2 _ _ g0) fno ((zfc T r.wd).mono) ?_);refine uc (zcm T).mono (spHeads.i _ _ _ bs rs st kn r _ _ rfl (jd hw s2) ((so.same s2).rep) (jd hKn s2) hr' mX bo ro wf.co (λ hl H3 s3 nhl hhl=>?_));have s23:=s2.trans s3;refine ra (s23 _ _ so.hy) T.gd T.gg lk4 ?_;refine ra (s23 _ _ so.hy) T.gd T.gk lk2 (zq (SqL.of (s23 _ _ so.hs)) (zD (jr hside)) ?_);refine iE5 y1 hl mZ r _ (iE4 (qc rs st.cells r) (qA st.cells r) st.turn side (iA9 rfl (jd hKn s23) rfl ok hhl (s3 _ _ ha) (by simp [qc]) (by simp [qA]) (λ vc H4 s4 tc=>?_)));have s24:=s23.trans s4;have so4:=so.same s24;have hKn4:=jd hKn s24;walk_at "a";cases hc:zX r (qc rs st.cells r) (qA st.cells r) st.turn side with
 | none =>
  rw [hc] at tc;have tc:vc=.non:=tc;subst tc;have e:=hAct _ hc;refine zZ (λ _=>?_) (λ b=>absurd rfl b);walk_at "a";refine k _ _ s24.fr ?_ ?_
  ·rw [e];exact so4
  ·rw [e];exact .non
 | some ch =>
  rw [hc] at tc;obtain ⟨ct,rfl,hct⟩:=tc;have e:=hAct _ hc;refine oA6 (xB ok (by simp [qc]) (by simp [qA]) hsd' hc) λ c1 c2 c3 c4 c5 c6=>?_;have hfb:∀ b,qF r ch=some b->b∈rgI bs.length:=λ b hb=>by
   unfold qF at hb;obtain ⟨j,hj1,hj2⟩:=bR.mp hb;exact Qe mX hr' (ah hj2)
  have htb:∀ b,Zz r ch=some b->b∈rgI bs.length:=λ b hb=>by
   unfold Zz at hb;obtain ⟨j,hj1,hj2⟩:=bR.mp hb;exact Xd mX hr' (ah hj2)
  have hfn:qF r ch=none->r.wd=.source:=λ hb=>by
   cases e:ch.1 with
   | none=>exact c4 e
   | some j =>
    unfold qF at hb;rw [e] at hb;simp at hb;have:=c1 j e;omega
  obtain ⟨w1,w2⟩:=V8 wf mX bo ro hr' hfb hfn;have w3:=zaJ w1 bo htb w2;have hg0:=qh (xs:=st.gone) (k:=kn) (d:=[]) (by rw [wf.go.1];exact hk);obtain ⟨q1,q2⟩:=wf.go.2 kn r _ hr' hg0;have cp:=xW ok;obtain ⟨g0',gs,eg⟩:∃ g0 gs,st.gone.getD kn []=g0 :: gs:=cO λ z=>by rw [z] at q1;simp at q1;omega
  rw [eg] at hg0;refine zZ (λ b=>by cases b) (λ _=>?_);walk_at "a";refine uc (WM T).mono (ra (s24 _ _ g0) (CT T _) (NI T _) f1 (nB hct at0 ?_));refine iE3 m1 r.ins ch.1 (iA4 rfl (s24 _ _ g1) c1 ?_);walk_at "a";refine uc (WM T).mono (ra (s24 _ _ g0) (CT T _) (NO T _) f2 (nB hct (show atI (chV ch) 1=some (Zo ch.2.1) from rfl) ?_));refine iE3 m2 r.outs ch.2.1 (iA4 rfl (s24 _ _ g2) c2 ?_);walk_at "a";refine uc (VU T).mono (spTaken.i y n st kn (qF r ch) g0' gs rfl so4 hg0 (λ b hb=>?_) (λ v5 H5 f5 so5 rv5=>?_))
  ·refine oE1 (wu wf.co bo (hfb b hb)) λ i m5=>oA5 m5 λ e1 _ e2 e3 _=>?_;clear m5;exact ⟨i,iA3 e1 e2 e3⟩
  have hct5:=f5 _ _ (so4.offT ⟨_,hct⟩) hct;have hKn5:=hKn4.fr f5;have fr5:=(s24.fr (ms:=y :: n.all)).trans f5;rw [show (ch.1.bind λ j=>r.ins[j]?)=qF r ch from rfl,show (ch.2.1.bind λ j=>r.outs[j]?)=Zz r ch from rfl];walk_at "a";refine cut (λ σ' H'=>σ'=[some (.ref yw),some (.ref y),some (.int kn),some (.ref y1),some (.ref mZ),some (.ref ct),some (hdV (qF r ch)),some (hdV (Zz r ch)),some v5]/\Fr (y :: n.all) H5 H'/\StO a H' y n (movedF r st kn ch)) ?_ ?_
  ·have w4:=λ b (hb:Zz r ch=some b)=>wu w1.co bo (htb b hb);unfold movedF;generalize Zz r ch=tb at w4 ⊢;walk_at "a";cases tb with
   | none =>
    refine zZ (λ b=>absurd rfl b) (λ _=>?_);walk_at "a";exact ⟨.refl,so5⟩
   | some b =>
    refine oE1 (w4 b rfl) λ i m5=>oA5 m5 λ m7 _ e2 e3 _=>?_;clear m5;subst m7;refine oE2 (so5.cell e2) λ bC vs m5=>oA3 m5 λ hbC hvC rvC=>?_;clear m5;have lv:vs.length=(zI (z6 st kn (qF r ch)).2.cells i).length:=by rw [rvC.len,af]
    have lp:0 < vs.length:=by rw [lv];exact cR.mpr e3
    refine zZ (λ _=>?_) (λ b=>absurd (λ z=>by cases z) b);walk_at "a";refine ra so5.hy T.gd T.gf sff_l.1 (zq (SqL.of so5.hc.out) (zD (Zl hbC)) ?_);walk_at "a";refine Zd (j:=0) hvC (Xv (by decide) (by simpa using lp)) ?_;refine ⟨ji (V1 hbC),?_⟩;have:=so5.putC hbC (c':=(zI (z6 st kn (qF r ch)).2.cells i).set 0 (z6 st kn (qF r ch)).1) (by rw [dE];exact Reps.set rvC 0 rv5);simpa [vG] using this
  rintro σ H6 ⟨rfl,f6,so6⟩;have hct6:=f6 _ _ (so5.offT ⟨_,hct5⟩) hct5;have hKn6:=hKn5.fr f6;have rv6:=so5.repT f6 rv5;have fr6:=fr5.trans f6;walk_at "a";refine nB hct6 (show atI (chV ch) 2=some (.int ch.2.2) from rfl) ?_;walk_at "a";refine ra so6.hy T.gd T.gk sff_l.2.1 (Zd so6.hs (Xv (bV _) (by rw [zP,show (movedF r st kn ch).sides.length=rs.length from w3.so.1];exact Int.ofNat_lt.mpr hk)) ?_);rw [aA,zfm];have so7:=so6.putS (s':=(movedF r st kn ch).sides.set kn ch.2.2);have f7:Fr (y :: n.all) H6 (upd H6 n.ls (.lst (iv ((movedF r st kn ch).sides.set kn ch.2.2)))):=ji (by simp [SN.all]);have hct7:=f7 _ _ (so6.offT ⟨_,hct6⟩) hct6;have hKn7:=hKn6.fr f7;have rv7:=so6.repT f7 rv6;have fr7:=fr6.trans f7;generalize upd H6 n.ls (.lst (iv ((movedF r st kn ch).sides.set kn ch.2.2)))=H7 at so7 hct7 hKn7 rv7 fr7 ⊢;have hg7:=qh (xs:=(movedF r st kn ch).gone) (k:=kn) (d:=[]) (by rw [show (movedF r st kn ch).gone.length=rs.length from w3.go.1];exact hk);obtain ⟨p1,p2⟩:=w3.go.2 kn r _ hr' hg7;obtain ⟨bG,hbG,hgG⟩:=so7.goneL hg7;have e0:vT r st kn ch=({ movedF r st kn ch with sides:=(movedF r st kn ch).sides.set kn ch.2.2,gone:=(movedF r st kn ch).gone.set kn (ZR ((movedF r st kn ch).gone.getD kn []) (jM r ch)) },⟨kn,(z6 st kn (qF r ch)).1,qF r ch,Zz r ch⟩):=rfl;have so8:=so7.putG (g':=ZR ((movedF r st kn ch).gone.getD kn []) (jM r ch)) hbG;generalize (movedF r st kn ch).gone.getD kn []=g at *;have hcp:jM r ch < g.length:=by rw [p1];exact c6
  walk_at "a";unfold zg2;walk_at "a";refine ra so7.hy T.gd T.gi sff_l.2.2.1 (zq (SqL.of so7.hg.out) (zD (JD hbG)) ?_);walk_at "a";refine uc (Jq T).mono (spCounted.i _ ct r ch _ rfl hKn7 hct7 c3 ?_);refine iE4 bG _ (jM r ch) _ (iA6 rfl rfl (SqL.of hgG) (bV _) (zD (jr (qh (d:=0) hcp))) ?_);walk_at "a";refine Zd hgG (Xv (bV _) (by rw [zP];exact Int.ofNat_lt.mpr hcp)) ?_;rw [aA,zfm];have f8:Fr (y :: n.all) H7 (upd H7 bG (.lst (iv (g.set (jM r ch) (g.getD (jM r ch) 0 + 1))))):=ji (zgU hbG);have rv8:=so7.repT f8 rv7;change StO a (upd H7 bG (.lst (iv (g.set (jM r ch) (g.getD (jM r ch) 0 + 1))))) y n _ at so8;have fr8:=fr7.trans f8;generalize e8:upd H7 bG (.lst (iv (g.set (jM r ch) (g.getD (jM r ch) 0 + 1))))=H8 at so8 f8 rv8 fr8 ⊢;walk_at "a";intro t ht;refine k _ _ (fr8.trans (zcb ht)) ?_ ?_
  ·rw [e];simp only;rw [e0];exact so8.same (zg ht)
  ·rw [e];simp only;rw [e0];exact Reps.mkT (vs:=[.int kn,v5,hdV (qF r ch),hdV (Zz r ch)]) (.cons .int (.cons (zdD rv8 (zg ht)) (.cons (zcw _) (.cons (zcw _) .nil)))) ⟨_,nk⟩ nk
def ziY (T:Txt K mg a):Cal P w K mg base "act" 4 ["work","state","number"] [] (spAct a):=T.mV.cal (zhJ T)
noncomputable def zo (rs:At) (st:PSt):Nat->PSt × List Move
 | 0=>(st,[])
 | i + 1=>((qg rs (zo rs st i).1 i).1,(zo rs st i).2 ++ (qg rs (zo rs st i).1 i).2.toList)
theorem qQ {bs:A1} {rs:At} {st:PSt} (wf:stWf bs rs st) (mX:zJ bs rs) (bo:∀ b∈bs,zz b.1 b.2) (ro:∀ r∈rs,r.ok):∀ i,stWf bs rs (zo rs st i).1
 | 0=>wf
 | i + 1=>zgW (qQ wf mX bo ro i) mX bo ro
theorem XH (rs:At) (st:PSt):∀ i,(zo rs st i).2.length<=i
 | 0=>av _
 | i + 1=>by
  have:=XH rs st i;show ((zo rs st i).2 ++ (qg rs (zo rs st i).1 i).2.toList).length<=i + 1
  rw [aO];cases (qg rs (zo rs st i).1 i).2 with
  | none=>exact Nat.le_succ_of_le this
  | some _=>exact Nat.succ_le_succ this
section
variable {H H':Hp} {y:Addr} {n:SN} {st:PSt}
def StO.offN (h:StO a H y n st) (e:H b=none):b ∉ y :: n.all:=by
 have no:∀ o,H b≠some o:=λ o z=>by rw [e] at z;cases z
 intro hb;unfold SN.all at hb;rcases ax.mp hb with rfl|hb
 ·exact no _ h.hy
 rcases ax.mp hb with rfl|hb
 ·exact no _ h.hs
 rcases ax.mp hb with rfl|hb
 ·exact no _ h.hc.out
 rcases ax.mp hb with rfl|hb
 ·exact no _ h.hg.out
 rcases aE.mp hb with hb|hb
 ·obtain ⟨us,z⟩:=h.hc.isl (aF _ hb);exact no _ z
 ·obtain ⟨us,z⟩:=h.hg.isl (aF _ hb);exact no _ z
def StO.out {M:Addr} {us vs:Ap} (h:StO a H y n st) (e:H M=some (.lst us)) (nM:M ∉ y :: n.all):StO a (upd H M (.lst vs)) y n st:=by
 have k:∀ c o,c≠M->H c=some o->upd H M (.lst vs) c=some o:=λ c o nc hc=>by rw [nu nc];exact hc
 have kt:∀ c,zV H c->c≠M:=λ c ⟨xs,hx⟩ z=>by rw [z,e] at hx;cases hx
 refine ⟨k _ _ (λ z=>nM (by rw [<- z];simp)) h.hy,h.hc.tup λ c o hz hc=>k c o (λ z=>?_) hc,k _ _ (λ z=>nM (by rw [<- z];simp [SN.all])) h.hs,h.hg.tup λ c o hz hc=>k c o (λ z=>?_) hc,h.nd⟩
 ·rcases hz with rfl|hz|hz
  ·exact nM (by rw [<- z];simp [SN.all])
  ·exact nM (by rw [<- z];simp [SN.all,hz])
  ·exact kt c hz z
 ·rcases hz with rfl|hz|hz
  ·exact nM (by rw [<- z];simp [SN.all])
  ·exact nM (by rw [<- z];simp [SN.all,hz])
  ·exact kt c hz z
def StO.repsT (h:StO a H y n st) (s:Fr (y :: n.all) H H') {ds:List D} (r:Reps H (zV H) vs ds):Reps H' (zV H') vs ds :=
 ⟨r.len,λ i v d h1 h2=>h.repT s (r.g i v d h1 h2)⟩
def zaD {M:Addr} {us vs:Ap} (e:H M=some (.lst us)) {d:D} (r:Rep H (zV H) v d):Rep (upd H M (.lst vs)) (zV (upd H M (.lst vs))) v d :=
 Rep.keep (λ b o hp hb=>⟨Js e hp,by obtain ⟨xs,hx⟩:=hp;rw [nu (λ z=>by rw [z,e] at hx;cases hx)];exact hb⟩) r
def zdC {M:Addr} {us vs:Ap} (e:H M=some (.lst us)) {ws:Ap} {ds:List D} (r:Reps H (zV H) ws ds):Reps (upd H M (.lst vs)) (zV (upd H M (.lst vs))) ws ds :=
 ⟨r.len,λ i v d h1 h2=>zaD e (r.g i v d h1 h2)⟩
end
inductive spActAll (a:Ad) (vs:Ap) (H:Hp) (Q:VK) (E:XK):Prop
 | i (vw:V) (y:Addr) (n:SN) (st:PSt) (bs:A1) (rs:At):vs=[vw,.ref y]->Rep H (Off (y :: n.all)) vw (qq a bs rs)->StO a H y n st->stWf bs rs st->zJ bs rs->(∀ b∈bs,zz b.1 b.2)->(∀ r∈rs,r.ok)->(∀ l us H',Fr (y :: n.all) H H'->StO a H' y n (zo rs st rs.length).1->H l=none->l ∉ y :: n.all->H' l=some (.lst us)->Reps H' (zV H') us ((zo rs st rs.length).2.map XA)->Q (.ref l) H')->spActAll a vs H Q E
theorem WN (T:Txt K mg a):Cal P w K mg base "act_all" 5 ["work","state"] [] (spActAll a):=T.l7.cal λ F=>by
 refine F.okx zbC ?_ ?_
 ·walk_at "i"
 walk_at "j";rcases h with ⟨vw,y,n,st,bs,rs,rfl,hw,so,wf,mX,bo,ro,k⟩;refine oE7 (qX hw) λ yw dw fw l1 l2 bvs m9 m5=>oA9 m5 λ m7 hyw ew1 ew2 hl1 hl2 hB hK no=>?_;clear m5;subst m7;have lk:m9.length=rs.length:=hK.len;have r24:=mX.1.2.2;walk_at "T";refine ⟨_,(zi (zp 2 zbC.nd (zK zc))  (qM (qt qI rfl (xP (za (z7 qe qd (za (zk (pq 0) rfl) zc)) zc)) (qp 3 zbC.nd)  (zi (zp 4 zbC.nd (zw ⟨rfl,rfl,rfl⟩ hr (za (pq 0) (za (pq 1) (za (pq 3) zc)))))  (ze (zL (zx wl (pq 4) zE (zy _))  (ze (zF (qP ar az ay zU (pq 2) (za (pq 4) zc))))  zt))))  (ze (zl (pq 2))))),?_⟩;walk_at "a";intro M hM;have nM:=so.offN hM;have s1:=zg (o:=.lst []) hM;have hM1:upd H M (.lst []) M=some (.lst []):=nk;generalize upd H M (.lst [])=H1 at s1 hM1 ⊢;walk_at "a";refine cut (λ σ' H'=>∃ (v3 v4:Aq) (us:Ap),σ'=[some (.ref yw),some (.ref y),some (.ref M),v3,v4]/\Fr (y :: n.all) H H'/\StO a H' y n (zo rs st rs.length).1/\H' M=some (.lst us)/\Reps H' (zV H') us ((zo rs st rs.length).2.map XA)) ?_ ?_
 ·walk_at "d";walk_at "a";refine ra (s1 _ _ hyw) T.gm T.gj ew2 ?_;refine ⟨_,.inl ⟨_,SqL.of (s1 _ _ hl2),rfl⟩,?_⟩;rw [lk];walk_at "a";refine ⟨by omega,by omega,?_⟩;refine vS (n:=(rs.length:Int).toNat) (λ i σ H'=>∃ (v3 v4:Aq) (us:Ap),σ=[some (.ref yw),some (.ref y),some (.ref M),v3,v4]/\Fr (y :: n.all) H H'/\StO a H' y n (zo rs st i).1/\H' M=some (.lst us)/\Reps H' (zV H') us ((zo rs st i).2.map XA)) (iE3 _ _ _ (iA5 rfl s1.fr (so.same s1) hM1 (.nil))) ?_ (λ σ H' h=>?_)
  ·intro i σ H2 hi m8;refine oE3 m8 λ v3 v4 us m5=>oA5 m5 λ m7 f2 so2 hM2 r2=>?_;clear m5 m8;subst m7;have hi:i < rs.length:=by simpa using hi
   have al:=XH rs st i;have lu:us.length=(zo rs st i).2.length:=by rw [r2.len,af]
   walk_at "a";simp only [cc];refine uc (ziY T).mono (spAct.i (.ref yw) y n _ i bs rs rfl (hw.fr f2) so2 (qQ wf mX bo ro i) mX bo ro hi (λ v H3 f3 so3 rv=>?_));have f23:=f2.trans f3;have hM3:=f3 _ _ nM hM2;have r3:=so2.repsT f3 r2;have eA:zo rs st (i + 1)=((qg rs (zo rs st i).1 i).1,(zo rs st i).2 ++ (qg rs (zo rs st i).1 i).2.toList):=rfl;walk_at "a";cases e:(qg rs (zo rs st i).1 i).2 with
   | none =>
    rw [e] at rv eA;cases rv;refine zZ (λ b=>absurd rfl b) (λ _=>?_);rw [eA];exact iE3 _ _ _ (iA5 rfl f23 so3 hM3 (by rw [show (none:Option Move).toList=[] from rfl,cg];exact r3))
   | some m =>
    rw [e] at rv eA;refine zZ (λ _=>?_) (λ b=>?_)
    ·walk_at "a";refine ⟨.inl ⟨rfl,_,SqL.of hM3⟩,iE3 M _ _ (iA5 rfl rfl hM3 (zm (by omega)) (iE3 _ _ _ (iA5 rfl (λ b o nb hb=>by rw [nu (nz hb hM)];exact f23 b o nb hb) ?_ nk ?_)))⟩
     ·rw [eA];exact so3.out hM3 nM
     ·rw [eA];show Reps _ _ _ (List.map XA ((zo rs st i).2 ++ [m]))
      rw [a7];exact (zdC hM3 r3).append (Reps.one (zaD hM3 rv))
    ·exfalso;refine b λ z=>?_;subst z;cases rv
  ·have e:((rs.length:Int)).toNat=rs.length:=by simp
   rw [e] at h;exact h
 intro σ' H2 m8;refine oE3 m8 λ v3 v4 us m5=>oA5 m5 λ m7 f2 so2 hM2 r2=>?_;clear m5 m8;subst m7;walk_at "a";exact k _ _ _ f2 so2 hM nM hM2 r2
noncomputable def qE (c:Av) (p:Nat):List zC:=if c.getD (p + 1) none=none then (c.set (p + 1) (c.getD p none)).set p none else c
noncomputable def xU (c:Av):Nat->List zC
 | 0=>c
 | k + 1=>qE (xU c k) (c.length - 2 - k)
noncomputable def Xl (c:Av):List zC:=xU c (c.length - 1)
def zbW {c:Av} {p:Nat}:(qE c p).length=c.length:=by
 unfold qE
 split <;> simp
theorem Z4 {c:Av}:∀ k,(xU c k).length=c.length
 | 0=>rfl
 | k + 1=>by rw [xU,zbW,Z4 k]
def zbV {c:Av} {p:Nat} {x:zC} (h:x∈qE c p):x∈c\/x=none:=by
 unfold qE at h
 split at h
 ·rcases vM h with h|h
  ·rcases vM h with h|h
   ·exact .inl h
   ·rw [ae] at h;cases e:c[p]? with
    | none=>rw [e] at h;exact .inr h
    | some y=>rw [e] at h;exact .inl (by rw [h];exact ah e)
  ·exact .inr h
 ·exact .inl h
theorem zaR {c:Av} {x:zC}:∀ k,x∈xU c k->x∈c\/x=none
 | 0=>λ h=>.inl h
 | k + 1=>λ h=>by
  rcases zbV h with h|h
  ·exact zaR k h
  ·exact .inr h
def zep (h:H b=some o):upd H b o=H:=by
 funext x
 by_cases e:x=b
 ·rw [e,nk,h]
 ·rw [nu e]
def V4 {x:zC} (r:Rep H p v (zS x)):v=.non ↔ x=none:=by
 cases x with
 | none=>cases r;simp
 | some x=>obtain ⟨t,us,rfl,_⟩:=Rep.tup' r;simp
def atD {xs:Av} {p:Nat} (h:p < xs.length):xs[p]?=some (xs.getD p none):=qh h
def zbu:Sp:=λ vs H Q _=>∃ (b:Addr) (us:Ap) (c:Av),vs=[.ref b]/\H b=some (.lst us)/\Reps H (zV H) us (c.map zS)/\c.length<=100/\∀ us',Reps H (zV H) us' ((Xl c).map zS)->Q .non (upd H b (.lst us'))
def zbh (T:Txt K mg a):Cal P w K mg base "move_belt" 1 ["cells"] [] zbu:=T.ll.cal λ F=>by
 refine F.okx Vg ?_ ?_
 ·walk_at "i"
 walk_at "j";refine oE3 h λ b us c m5=>oA5 m5 λ m7 hb rb lc k=>?_;clear m5 h;subst m7;have lu:us.length=c.length:=by rw [rb.len,af]
 walk_at "T";refine ⟨_,(ze (qt qI rfl (zhz (za (zG xl (z7 qe qd (za (pq 0) zc)) zf) (za (Wp Qo zf) (za (Wp Qo zf) zc)))) (qp 1 Vg.nd)  (ze (zL (zx jq (zn (pq 0) (zG qm (pq 1) zf)) zE (zy _))  (zi (QH (zn (pq 0) (pq 1)) (Xa (pq 0) (zG qm (pq 1) zf) wE))  (ze (QH zE (Xa (pq 0) (pq 1) wE))))  zt)))),?_⟩;walk_at "a";walk_at "d";walk_at "a";refine ⟨_,.inl ⟨_,SqL.of hb,rfl⟩,?_⟩;rw [lu];walk_at "a";refine iE2 _ _ (iA3 rfl (iA4 (by omega) (by omega) (by omega) (by omega)) ?_);rw [show ((c.length:Int) - 2 - -1).toNat=c.length - 1 by omega];refine ziO (K:=K) (λ i σ H'=>∃ (v1:Aq) (us':Ap),σ=[some (.ref b),v1]/\H'=upd H b (.lst us')/\Reps H (zV H) us' ((xU c i).map zS)) (iE2 _ us (iA3 rfl ((zep hb).symm) rb)) ?_ ?_
 ·intro i σ H' hi m8;refine oE2 m8 λ v1 us' m5=>oA3 m5 λ m7 n6 r1=>?_;clear m5 m8;subst m7 n6;have lm:=Z4 (c:=c) i;have l1:us'.length=c.length:=by rw [r1.len,af,lm]
  obtain ⟨p,hp⟩:∃ p,c.length - 2 - i=p:=⟨_,rfl⟩;have ep:(c.length:Int) - 2 - i=p:=by omega
  have hp1:p + 1 < c.length:=by omega
  rw [ep];have eS:xU c (i + 1)=qE (xU c i) p:=by rw [xU,hp]
  rw [eS];generalize xU c i=m at r1 lm ⊢;have m0:m[p]?=some (m.getD p none):=atD (by omega);have m1:m[p + 1]?=some (m.getD (p + 1) none):=atD (by omega);obtain ⟨u0,hu0,ru0⟩:=r1.of (i:=p) (d:=zS (m.getD p none)) (by rw [ak,m0];rfl);obtain ⟨u1,hu1,ru1⟩:=r1.of (i:=p + 1) (d:=zS (m.getD (p + 1) none)) (by rw [ak,m1];rfl);have e1:((p:Int) + 1)=((p + 1:Nat):Int):=by omega
  walk_at "a";rw [e1];refine zq (SqL.of nk) (zD hu1) ?_;walk_at "a";refine zZ (λ z=>?_) (λ z=>?_)
  ·have z:=(V4 ru1).mp z;walk_at "a";refine zq (SqL.of nk) (zD hu0) ?_;walk_at "a";refine Zd nk (Xv (by omega) (by omega)) ?_;walk_at "a";refine Zd nk (Xv (by omega) (by simp;omega)) ?_;rw [vZ,vZ];refine iE2 _ _ (iA3 rfl rfl ?_);unfold qE;rw [ap z,dE,dE,aA,aA];exact Reps.set (Reps.set r1 _ ru0) _ .non
  ·have z:m.getD (p + 1) none≠none:=λ y=>z ((V4 ru1).mpr y);walk_at "a";refine iE2 _ us' (iA3 rfl rfl ?_);unfold qE;rw [ao z];exact r1
 ·intro σ H' m8;refine oE2 m8 λ v1 us' m5=>oA3 m5 λ m7 n6 r1=>?_;clear m5 m8;subst m7 n6;exact k _ r1
noncomputable def zY (bs:A1) (t:Int) (cs:Au):Nat->List Av
 | 0=>cs
 | i + 1=>if t % (bs.getD i (0,1)).2=0 then (zY bs t cs i).set i (Xl ((zY bs t cs i).getD i [])) else zY bs t cs i
theorem ZS {bs:A1} {rs:At} {t:Int} {cs:Au} (h:xy bs rs cs):∀ i,xy bs rs (zY bs t cs i)
 | 0=>h
 | i + 1=>by
  have ih:=ZS h i (t:=t);rw [zY]
  split
  ·generalize zY bs t cs i=ds at ih ⊢;cases e:ds[i]? with
   | none=>rw [cv (cX.mp e)];exact ih
   | some c =>
    have ec:ds.getD i []=c:=by rw [ae,e];rfl
    rw [ec];have hi:i < bs.length:=by rw [<- ih.1];exact (aa.mp e).1
    refine QV ih e (Z4 _) λ x hx=>?_;rcases zaR _ hx with hx|hx
    ·exact (ih.2 i _ c (ad hi) e).2 x hx
    ·rw [hx];exact Qn
  ·exact ih
noncomputable def passF (bs:A1) (rs:At) (st:PSt):PSt × List Move:=({ (zo rs st rs.length).1 with turn:=(zo rs st rs.length).1.turn + 1,cells:=zY bs (zo rs st rs.length).1.turn (zo rs st rs.length).1.cells bs.length },(zo rs st rs.length).2)
def ze1 {rs:At} {st:PSt} (wf:stWf bs rs st) (mX:zJ bs rs) (bo:∀ b∈bs,zz b.1 b.2) (ro:∀ r∈rs,r.ok):stWf bs rs (passF bs rs st).1:=by
 have w:=qQ wf mX bo ro rs.length;exact ⟨ZS w.co _,w.so,w.go⟩
def StO.ney {y:Addr} {n:SN} {st:PSt} (h:StO a H y n st):y ∉ n.all:=λ z=>by
 have hy:=h.hy;have c:∀ vs,H y≠some (.lst vs):=λ vs z=>by rw [hy] at z;cases z
 simp only [SN.all,ax,aE] at z;rcases z with z|z|z|z|z
 ·exact c _ (by rw [z];exact h.hs)
 ·exact c _ (by rw [z];exact h.hc.out)
 ·exact c _ (by rw [z];exact h.hg.out)
 ·obtain ⟨vs,hv⟩:=h.hc.isl (aF _ z);exact c _ hv
 ·obtain ⟨vs,hv⟩:=h.hg.isl (aF _ z);exact c _ hv
def StO.putT {y:Addr} {n:SN} {st:PSt} {t:Int} (h:StO a H y n st):StO a (upd H y (.ins a.p n.dx (sff t n.lc n.ls n.lg))) y n { st with turn:=t }:=by
 have ny:=h.ney;have tn:∀ b,zV H b->b≠y:=λ b ⟨xs,hx⟩ z=>by rw [z,h.hy] at hx;cases hx
 simp only [SN.all,ax,aE,not_or] at ny;refine oA5 ny λ n1 n2 n3 n4 n5=>?_;clear ny;refine ⟨nk,h.hc.tup λ b o c hb=>?_,?_,h.hg.tup λ b o c hb=>?_,h.nd⟩
 ·rw [nu ?_]
  ·exact hb
  ·rcases c with rfl|c|c
   ·exact aX n2
   ·exact λ z=>n4 (by rw [<- z];exact c)
   ·exact tn b c
 ·rw [nu (aX n1)];exact h.hs
 ·rw [nu ?_]
  ·exact hb
  ·rcases c with rfl|c|c
   ·exact aX n3
   ·exact λ z=>n5 (by rw [<- z];exact c)
   ·exact tn b c
def zbn {rs:At} (h:Rep H p v (qq a bs rs)):∃ y dx fs l1 bvs,v=.ref y/\p y/\H y=some (.ins a.r dx fs)/\fs.lookup ("belts":Str)=some (.ref l1)/\p l1/\H l1=some (.lst bvs)/\Bts a H p bvs bs:=by
 refine oE3 (Rep.ob' h) λ y dx fs m5=>oA5 m5 λ m7 py hy g1 g2=>?_;clear m5;subst m7;obtain ⟨u1,e1,r1⟩:=g1 _ _ V3;refine oE2 r1.lst' λ l1 bvs m5=>oA4 m5 λ m7 pl h1 b1=>?_;clear m5;subst m7;exact iE5 y dx fs l1 bvs (iA7 rfl py hy e1 pl h1 (.of b1))
def zis {t u:Int} {lc ls lg:Addr}:zQ "turn" (.int u) (sff t lc ls lg)=sff u lc ls lg:=rfl
def zew (a:Ad):Sp:=λ vs H Q _=>∃ (vw:V) (y:Addr) (n:SN) (st:PSt) (bs:A1) (rs:At),vs=[vw,.ref y]/\Rep H (Off (y :: n.all)) vw (qq a bs rs)/\StO a H y n st/\stWf bs rs st/\zJ bs rs/\(∀ b∈bs,zz b.1 b.2)/\(∀ r∈rs,r.ok) /\
 ∀ l us H',Fr (y :: n.all) H H'->StO a H' y n (passF bs rs st).1->H l=none->l ∉ y :: n.all->H' l=some (.lst us)->Reps H' (zV H') us ((passF bs rs st).2.map XA)->Q (.ref l) H'
def VB (T:Txt K mg a) (F:Fun K "pass_turn" "pass_turn" x6 f fd):FnOk P w K mg base (CXr P w) 6 f fd ["work","state"] (zew a):=by
 refine F.okx Vd ?_ ?_
 ·walk_at "i"
 walk_at "j";refine oE6 h λ vw y n st bs rs m5=>oA8 m5 λ m7 hw so wf mX bo ro k=>?_;clear m5 h;subst m7;have b24:=mX.1.1.2;walk_at "T";refine ⟨_,(zj (zp 2 Vd.nd (zw ⟨rfl,rfl,rfl⟩ hr (za (pq 0) (za (pq 1) zc))))  (qM (qt qI rfl (jo (za (zk (pq 0) rfl) zc)) (va (n:=2) rfl (qj (qp 3 Vd.nd) (qj (qp 4 Vd.nd) xu)))  (ze (zL (zx (vJ hr.units1) (zG qT (zk (pq 1) rfl) (zk (pq 4) rfl)) zf (zy _))  (ze (zF (zw ⟨rfl,rfl,rfl⟩ hr (za (zn (zk (pq 1) rfl) (pq 3)) zc))))  zt)))  (zj (zdJ (pq 1) zf zh2)  (ze (zl (pq 2)))))),?_⟩;walk_at "a";refine uc (WN T).mono (spActAll.i vw y n st bs rs rfl hw so wf mX bo ro (λ l us H1 f1 so1 nl nl' hl rl=>?_));have wA:=qQ wf mX bo ro rs.length;have hw1:=hw.fr f1;refine oE5 (zbn hw1) λ yw dw fw l1 bvs m5=>oA7 m5 λ m7 _ hyw ew1 pl1 hl1 hB=>?_;clear m5;subst m7;have lb:bvs.length=bs.length:=hB.len;generalize hA:zo rs st rs.length=A at so1 rl wA;refine oA4 (sff_l (t:=A.1.turn) (lc:=n.lc) (ls:=n.ls) (lg:=n.lg)) λ lk1 lk2 lk3 lk4=>?_;walk_at "a";let n9:St->Hp->Prop:=λ σ' H'=>∃ (v3 v4:Aq),σ'=[some (.ref yw),some (.ref y),some (.ref l),v3,v4]/\Fr (y :: n.all) H1 H'/\StO a H' y n { A.1 with cells:=zY bs A.1.turn A.1.cells bs.length };refine cut n9 ?_ ?_
 ·walk_at "d";walk_at "a";refine ra hyw T.gm T.gU ew1 (iE2 l1 _ (iA3 rfl hl1 ?_));let ni:Nat->St->Hp->Prop:=λ i σ H'=>∃ (v3 v4:Aq),σ=[some (.ref yw),some (.ref y),some (.ref l),v3,v4]/\Fr (y :: n.all) H1 H'/\StO a H' y n { A.1 with cells:=zY bs A.1.turn A.1.cells i };refine WG (K:=K) (a:=l1) (xs:=bvs) ni (iE2 _ _ (iA3 rfl Fr.refl so1)) (λ i σ H' _ h=>by obtain ⟨_,_,_,f,_⟩:=h;exact SqL.of (f _ _ pl1 hl1)) ?_ ?_
  ·intro i x t σ H2 hi ht m8;refine oE2 m8 λ v3 v4 m5=>oA3 m5 λ m7 f2 so2=>?_;clear m5 m8;subst m7;obtain ⟨b,hb',hBt⟩:=hB.at hi;refine oE3 hBt.inv λ y1 dx1 fs1 m5=>oA5 m5 λ m7 py1 g0 _ e2=>?_;clear m5;subst m7;have g02:=f2 _ _ py1 g0;have hil:=(aa.mp hb').1;have bk:=bo b (ah hb');have f3:=f2.trans (zcb (ms:=y :: n.all) (o:=.tup [.int i,.ref y1]) ht);have so3:=so2.same (zg (o:=.tup [.int i,.ref y1]) ht);have g03:=nA (o:=.tup [.int i,.ref y1]) g02 ht;refine un2 nk ?_;generalize upd H2 t (.tup [.int i,.ref y1])=H3 at f3 so3 g03 ⊢;have eb:bs.getD i (0,1)=b:=by rw [ae,hb'];rfl
   have co:=ZS (t:=A.1.turn) wA.co i;have hc:=qh (xs:=zY bs A.1.turn A.1.cells i) (d:=[]) (show i < _ by rw [co.1];exact hil);refine oE2 (so3.cell hc) λ bC vs m5=>oA3 m5 λ hbC hvC rvC=>?_;clear m5;have lc:=(co.2 i b _ hb' hc).1;have b1:=bk.1;have b2:=bk.2.1;have b3:=bk.2.2.1;walk_at "a";refine ra so3.hy T.gd T.gg lk4 ?_;refine ra g03 T.ip T.gW e2 ?_;walk_at "a";refine zZ (λ z=>?_) (λ z=>?_)
   ·walk_at "a";refine uc (zbh T).mono ?_;refine ra so3.hy T.gd T.gf lk1 (zq (SqL.of so3.hc.out) (zD (Zl hbC)) ?_);refine iE3 bC vs _ (iA5 rfl hvC rvC (by omega) (λ us' r'=>?_));refine iE2 _ _ (iA3 rfl (f3.trans (ji (V1 hbC))) ?_);have:=so3.putC hbC r';rw [zY,eb,ap z];exact this
   ·refine iE2 _ _ (iA3 rfl f3 ?_);rw [zY,eb,ao z];exact so3
  ·intro σ H2 m8;refine oE2 m8 λ v3 v4 m5=>oA3 m5 λ m7 f2 so2=>?_;clear m5 m8;subst m7;rw [lb] at so2;exact iE2 _ _ (iA3 rfl f2 so2)
 intro σ' H2 m8;refine oE2 m8 λ v3 v4 m5=>oA3 m5 λ m7 f2 so2=>?_;clear m5 m8;subst m7;walk_at "a";refine ⟨y,?_⟩;refine iE4 a.p n.dx _ _ (iA6 rfl so2.hy T.gd T.gg lk4 ?_);refine iE2 _ 1 (iA3 rfl rfl (iE2 n.dx _ (iA3 so2.hy (show 4 < 1000 by decide) ?_)));rw [zis];have f3:=f2.trans (ji (x:=y) (o:=.ins a.p n.dx (sff (A.1.turn + 1) n.lc n.ls n.lg)) (by simp));walk_at "a";refine k l us _ (f1.trans f3) (by rw [passF,hA];exact so2.putT) nl nl' (f3 _ _ nl' hl) (by rw [passF,hA];exact so1.repsT f3 rl)
def vV (T:Txt K mg a):Cal P w K mg base "pass_turn" 6 ["work","state"] [] (zew a):=T.ly.cal (VB T)
def zeB (a:Ad):Sp:=λ vs H Q _=>∃ (v:V) (st:PSt) (p:A5),vs=[v]/\Rep H p v (QU a st)/\st.cells.length<=100/\st.gone.length<=100/\∀ v' H',Same H H'->Q8 a H H' v' st->Q v' H'
def vX (T:Txt K mg a):Cal P w K mg base "copied_state" 3 ["state"] [] (zeB a):=T.i8.cal λ F=>by
 refine F.okx Ja ?_ ?_
 ·walk_at "i"
 walk_at "j";refine oE3 h λ v st p m5=>oA5 m5 λ m7 hs lc lg k=>?_;clear m5 h;subst m7;refine oE3 (Rep.ob' hs) λ y dx fs m5=>oA5 m5 λ m7 py hy g1 g2=>?_;clear m5;subst m7;obtain ⟨u1,e1,r1⟩:=g1 _ _ (zad st);obtain ⟨u2,e2,r2⟩:=g1 _ _ (Wi st);obtain ⟨u3,e3,r3⟩:=g1 _ _ (Wh st);obtain ⟨u4,e4,r4⟩:=g1 _ _ (zae st);cases r1;walk_at "T";refine ⟨_,(ze (zl (qV (x:="State") ⟨rfl,rfl,rfl⟩ hr (za (zk (pq 0) rfl) (za (zk (pq 0) rfl) (za (zk (pq 0) rfl) (za (zk (pq 0) rfl) zc))))))),?_⟩;walk_at "a";refine iE4 a.p _ _ _ ⟨(VI T).mono,iE5 y a.p dx fs _ (iA6 rfl hy T.gd T.gg e1 ?_)⟩;refine ra hy T.gd T.gf e2 ?_;refine ra hy T.gd T.gk e3 ?_;refine ra hy T.gd T.gi e4 ?_;exact Xm T (st:=st) r2 r3 r4 lc lg λ y' H' s' sn=>k _ _ s' sn
def zdn (a:Ad):Sp:=λ vs H Q _=>∃ (vw v:V) (st:PSt) (bs:A1) (rs:At) (p:A5),vs=[vw,v]/\Rep H (Off []) vw (qq a bs rs)/\Rep H p v (QU a st)/\stWf bs rs st/\zJ bs rs/\(∀ b∈bs,zz b.1 b.2)/\(∀ r∈rs,r.ok) /\
 ∀ v' H',Same H H'->Q8 a H H' v' (passF bs rs st).1->Q v' H'
def zck (T:Txt K mg a):Cal P w K mg base "one_turn" 7 ["work","state"] [] (zdn a):=T.lS.cal λ F=>by
 refine F.okx zar ?_ ?_
 ·walk_at "i"
 walk_at "j";refine oE6 h λ vw v st bs rs p m5=>oA8 m5 λ m7 hw hv wf mX bo ro k=>?_;clear m5 h;subst m7;have b24:=mX.1.1.2;have r24:=mX.1.2.2;walk_at "T";refine ⟨_,(zi (zp 2 zar.nd (zw ⟨rfl,rfl,rfl⟩ hr (za (pq 1) zc)))  (zi (zF (zw ⟨rfl,rfl,rfl⟩ hr (za (pq 0) (za (pq 2) zc))))  (ze (zl (pq 2))))),?_⟩;walk_at "a";refine uc (vX T).mono (iE3 v st p (iA5 rfl hv (by rw [wf.co.1];omega) (by rw [wf.go.1];omega) (λ v' H1 s1 sn=>?_)));refine oE2 sn λ y n m5=>oA5 m5 λ m7 so1 ny nd nn=>?_;clear m5 sn;subst m7;have na:∀ b∈y :: n.all,H b=none:=λ b hb=>by
  rcases ax.mp hb with rfl|hb
  ·exact ny
  ·exact nn b hb
 have hw1:Rep H1 (Off (y :: n.all)) vw (qq a bs rs):=jd (hw.more (ns:=y :: n.all) λ b hb=>.inr (na b hb)) s1;walk_at "a";refine uc (vV T).mono (iE6 vw y n st bs rs (iA8 rfl hw1 so1 wf mX bo ro (λ l us H2 f2 so2 _ _ _ _=>?_)));walk_at "a";exact k _ _ (λ b o hb=>f2 b o (λ z=>by rw [na b z] at hb;cases hb) (s1 b o hb)) (iE2 y n (iA5 rfl so2 ny nd nn))
def zdp (a:Ad):Sp:=λ vs H Q _=>∃ (vw v:V) (st:PSt) (bs:A1) (rs:At) (p:A5),vs=[vw,v]/\Rep H (Off []) vw (qq a bs rs)/\Rep H p v (QU a st)/\stWf bs rs st/\zJ bs rs/\(∀ b∈bs,zz b.1 b.2)/\(∀ r∈rs,r.ok) /\
 ∀ l us H',Same H H'->H l=none->H' l=some (.lst us)->Reps H' (zV H') us ((zo rs st rs.length).2.map XA)->Q (.ref l) H'
theorem XG (T:Txt K mg a):Cal P w K mg base "moves_of" 6 ["work","state"] [] (zdp a):=T.lT.cal λ F=>by
 refine F.okx zas ?_ ?_
 ·walk_at "i"
 walk_at "j";obtain ⟨vw,v,st,bs,rs,p,rfl,hw,hv,wf,mX,bo,ro,k⟩:=h;have b24:=mX.1.1.2;have r24:=mX.1.2.2;walk_at "T";refine ⟨_,(ze (zl (zw ⟨rfl,rfl,rfl⟩ hr (za (pq 0) (za (zw ⟨rfl,rfl,rfl⟩ hr (za (pq 1) zc)) zc))))),?_⟩;walk_at "a";refine uc (WN T).mono (uc (vX T).mono (iE3 v st p (iA5 rfl hv (by rw [wf.co.1];omega) (by rw [wf.go.1];omega) (λ v' H1 s1 sn=>?_))));refine oE2 sn λ y n m5=>oA5 m5 λ m7 so1 ny _ nn=>?_;clear m5 sn;subst m7;have na:∀ b∈y :: n.all,H b=none:=λ b hb=>by
  rcases ax.mp hb with rfl|hb
  ·exact ny
  ·exact nn b hb
 have hw1:Rep H1 (Off (y :: n.all)) vw (qq a bs rs):=jd (hw.more (ns:=y :: n.all) λ b hb=>.inr (na b hb)) s1;refine ⟨vw,y,n,st,bs,rs,rfl,hw1,so1,wf,mX,bo,ro,λ l us H2 f2 _ nl _ hl r2=>?_⟩;refine k l us H2 (λ b o hb=>f2 b o (λ z=>by rw [na b z] at hb;cases hb) (s1 b o hb)) ?_ hl r2;cases e:H l with
 | none=>rfl
 | some o=>rw [s1 _ _ e] at nl;cases nl
noncomputable def zh (bs:A1) (rs:At):Nat->PSt
 | 0=>qN bs rs
 | n + 1=>(passF bs rs (zh bs rs n)).1
def zfz {rs:At} (ro:∀ r∈rs,r.ok):stWf bs rs (qN bs rs):=by
 refine ⟨⟨by simp [qN],λ i b c h1 h2=>?_⟩,⟨by simp [qN],λ i r s h1 h2=>?_⟩,⟨by simp [qN],λ i r g h1 h2=>?_⟩⟩
 ·simp only [qN,ak,h1,cm,cA] at h2;subst h2;refine ⟨by simp,λ x hx=>?_⟩;rw [(cu.mp hx).2];exact Qn
 ·have hs:=ah h2;have e:s=0:=(cu.mp hs).2;subst e;have ok:=ro r (ah h1);obtain ⟨wd,ins,outs,pc,ks⟩:=r;refine iA4 (by decide) (λ hw=>?_) (λ hw=>?_) (λ _ _=>rfl)
  ·simp only at hw;subst hw;have:=ok.2.1;simp only at this ⊢;omega
  ·simp only at hw;subst hw;have:=ok.2.1;simp only at this ⊢;omega
 ·simp only [qN,ak,h1,cm,cA] at h2;subst h2;refine ⟨rfl,λ n hn=>?_⟩;rw [(cu.mp hn).2];decide
theorem zu {bs:A1} {rs:At} (mX:zJ bs rs) (bo:∀ b∈bs,zz b.1 b.2) (ro:∀ r∈rs,r.ok):∀ n,stWf bs rs (zh bs rs n)
 | 0=>zfz ro
 | n + 1=>ze1 (zu mX bo ro n) mX bo ro
def zev (a:Ad):Sp:=λ vs H Q _=>∃ (vw:V) (n:Nat) (bs:A1) (rs:At),vs=[vw,.int n]/\Rep H (Off []) vw (qq a bs rs)/\zJ bs rs/\(∀ b∈bs,zz b.1 b.2)/\(∀ r∈rs,r.ok)/\n<=1000/\∀ v' H',Same H H'->Q8 a H H' v' (zh bs rs n)->Q v' H'
def XF (T:Txt K mg a):Cal P w K mg base "played" 7 ["work","turns"] [] (zev a):=T.mr.cal λ F=>by
 refine F.okx zdu ?_ ?_
 ·walk_at "i"
 walk_at "j";refine oE4 h λ vw m bs rs m5=>oA7 m5 λ m7 hw mX bo ro hm k=>?_;clear m5 h;subst m7;have b24:=mX.1.1.2;have r24:=mX.1.2.2;walk_at "T";refine ⟨_,(zi (zp 2 zdu.nd (zw ⟨rfl,rfl,rfl⟩ hr (za (pq 0) zc)))  (qM (qt qI rfl (xP (za (pq 1) zc)) (qp 3 zdu.nd)  (ze (zF (zw ⟨rfl,rfl,rfl⟩ hr (za (pq 0) (za (pq 2) zc))))))  (ze (zl (pq 2))))),?_⟩;walk_at "a";refine uc (Zx T).mono (iE4 vw bs rs _ (iA7 rfl hw b24 r24 bo ro (λ v' H1 s1 sn=>?_)));refine oE2 sn λ y n m5=>oA5 m5 λ m7 so1 ny nd nn=>?_;clear m5 sn;subst m7;have na:∀ b∈y :: n.all,H b=none:=λ b hb=>by
  rcases ax.mp hb with rfl|hb
  ·exact ny
  ·exact nn b hb
 have hw1:Rep H1 (Off (y :: n.all)) vw (qq a bs rs):=jd (hw.more (ns:=y :: n.all) λ b hb=>.inr (na b hb)) s1;walk_at "a";refine cut (λ σ' H'=>∃ (v3:Aq),σ'=[some vw,some (.int m),some (.ref y),v3]/\Fr (y :: n.all) H1 H'/\StO a H' y n (zh bs rs m)) ?_ ?_
 ·walk_at "d";walk_at "a";refine ⟨by omega,by omega,?_⟩;refine vS (n:=(m:Int).toNat) (λ i σ H'=>∃ (v3:Aq),σ=[some vw,some (.int m),some (.ref y),v3]/\Fr (y :: n.all) H1 H'/\StO a H' y n (zh bs rs i)) ⟨_,iA3 rfl Fr.refl so1⟩ ?_ (λ σ H' h=>?_)
  ·intro i σ H2 hi m8;refine oE1 m8 λ v3 m5=>oA3 m5 λ m7 f2 so2=>?_;clear m5 m8;subst m7;walk_at "a";refine uc (vV T).mono (iE6 vw y n _ bs rs (iA8 rfl (hw1.fr f2) so2 (zu mX bo ro i) mX bo ro (λ l us H3 f3 so3 _ _ _ _=>?_)));exact ⟨_,iA3 rfl (f2.trans f3) so3⟩
  ·rw [show ((m:Int)).toNat=m by simp] at h;exact h
 intro σ' H2 m8;refine oE1 m8 λ v3 m5=>oA3 m5 λ m7 f2 so2=>?_;clear m5 m8;subst m7;walk_at "a";exact k _ _ (λ b o hb=>f2 b o (λ z=>by rw [na b z] at hb;cases hb) (s1 b o hb)) (iE2 y n (iA5 rfl so2 ny nd nn))
def zak:Sp:=λ vs H Q _=>∃ a b:Int,vs=[.int a,.int b]/\0<=a/\0<=b/\Q (.int (Int.gcd a b:Int)) H
def zdO (F:Fun K "common" "common" Z0 f fd):FnOk P w K mg base (CXr P w) 1 f fd ["one","other"] zak:=by
 refine F.okx zdv ?_ ?_
 ·walk_at "i"
 walk_at "k";obtain ⟨a,b,rfl,ha,hb,k⟩:=h;refine ⟨_,(zi (zp 2 zdv.nd (pq 0))  (zi (zp 3 zdv.nd (pq 1))  (zi (zaF qI (zx Zq (pq 3) zf (zy _))  (zi (zp 4 zdv.nd (zG qT (pq 2) (pq 3)))  (zi (zp 2 zdv.nd (pq 3))  (ze (zp 3 zdv.nd (pq 4))))))  (ze (zl (pq 2)))))),?_⟩;walk_at "r";refine ⟨λ m σ H'=>∃ p r v,σ=[some (.int a),some (.int b),some (.int p),some (.int r),v]/\H'=H/\0<=p/\0<=r/\Int.gcd p r=Int.gcd a b/\m=r.toNat,⟨_,a,b,none,rfl,rfl,ha,hb,rfl,rfl⟩,?_⟩;rintro m σ H' ⟨p,r,v,rfl,rfl,hp,hr',hg,rfl⟩;walk_at "r";refine zZ (λ h=>?_) (λ h=>?_)
 ·refine zix ?_;have h1:=bJ p (show r≠0 by omega);have h2:=bW p h;exact ⟨h,_,by omega,r,p % r,_,rfl,rfl,hr',h1,(zfw hp h).trans hg,rfl⟩
 ·have e:r=0:=by omega
  subst e;have e2:=zgD hp;rw [hg] at e2;rw [<- e2];exact k
def Pac (ns:A6):Prop:=∀ n∈ns,0 < n/\n<=1000000000000
def Pac.nil:Pac []:=λ _ h=>nomatch h
def Pac.snoc {n:Int} (h:Pac ns) (h1:0 < n) (h2:n<=1000000000000):Pac (ns ++ [n]):=λ k hk=>by
 rcases aE.mp hk with z|z
 ·exact h k z
 ·rw [aw.mp z];exact ⟨h1,h2⟩
def Pac.at (h:Pac ns) {x:V} (e:(ns.map V.int)[i]?=some x):∃ n,x=.int n/\0 < n/\n<=1000000000000/\n∈ns/\ns.take (i + 1)=ns.take i ++ [n]:=by
 rw [ak,am] at e;obtain ⟨n,hn,rfl⟩:=e;have hm:=ah hn;refine ⟨n,iA5 rfl ((h n hm).1) ((h n hm).2) hm ?_⟩;rw [fW,hn]
 rfl
def zdq (K:A0):Sp:=λ vs H Q _=>∃ (l:Addr) (ns:A6),vs=[.ref l]/\SqL K H l (ns.map V.int)/\Pac ns/\∀ L,IsLcm ns L->Q (.int L) H
def zfL (T:Txt K mg a):Cal P w K mg base "common" 1 ["one","other"] [] zak:=T.mt.cal zdO
def zec (T:Txt K mg a):Cal P w K mg base "lasting" 2 ["paces"] [] (zdq K):=T.l8.cal λ F=>by
 refine F.okx zbz ?_ ?_
 ·walk_at "i"
 walk_at "k";refine oE2 h λ l ns m5=>oA4 m5 λ m7 hl hn k=>?_;clear m5 h;subst m7;refine ⟨_,(zi (zp 1 zbz.nd zf)  (zi (qt qI rfl (ql (pq 0)) (qp 2 zbz.nd)  (ze (zp 1 zbz.nd (zG vK (zG zcF (pq 1) (zw ⟨rfl,rfl,rfl⟩ hr (za (pq 1) (za (pq 2) zc)))) (pq 2)))))  (ze (zl (pq 1))))),?_⟩;walk_at "a";walk_at "d";refine ⟨l,rfl,.inl ⟨⟨_,hl⟩,?_⟩⟩;refine qH (K:=K) (a:=l) (xs:=ns.map V.int) (λ i σ H'=>∃ (m:Int) (v:Aq),σ=[some (V.ref l),some (V.int m),v]/\H'=H/\IsLcm (ns.take i) m) (iE2 1 none (iA3 rfl rfl IsLcm.nil)) (λ i σ H' _ ⟨_,_,_,e,_⟩=>e ▸ hl) ?_ ?_
 ·intro i x σ H1 hi m8;refine oE2 m8 λ m v m5=>oA3 m5 λ m7 n6 hm=>?_;clear m5 m8;subst m7 n6;refine oE1 (hn.at hi) λ p m5=>oA5 m5 λ m7 p0 p1 _ ht=>?_;clear m5;subst m7;walk_at "r";have g0:(0:Int) < (Int.gcd m p:Int):=by have:=zcT (a:=m) (b:=p) (by omega);omega
  have g1:(Int.gcd m p:Int)<=p:=VM p0;refine iE3 _ _ _ ⟨zfL T,⟨m,p,rfl,cB hm.pos,cB p0,?_⟩⟩;walk_at "r";refine ⟨fd_ok g0 ?_,mul_okR (by omega) (by omega),?_⟩
  ·have:(1000000000000:Nat) < 2 ^ 8999:=by decide +kernel
   omega
  ·rw [fdiv_pos g0,ht];exact iE2 _ _ ⟨rfl,hm.step p0⟩
 ·intro σ H1 m8;refine oE2 m8 λ m v m5=>oA3 m5 λ m7 n6 hm=>?_;clear m5 m8;subst m7 n6;rw [af,aN] at hm;walk_at "r";exact k m hm
theorem IsLcm.ex:∀ {ns:A6},Pac ns->∃ L,IsLcm ns L:=λ {ns} h=>by
 have:∀ k,k<=ns.length->∃ L,IsLcm (ns.take k) L:=λ k=>by
  induction k with
  | zero=>exact λ _=>⟨1,IsLcm.nil⟩
  | succ k ih =>
   intro hk;obtain ⟨L,hL⟩:=ih (by omega);have e:ns.take (k + 1)=ns.take k ++ [ns[k]]:=by rw [fW,ad (by omega)];rfl
   rw [e];exact ⟨_,hL.step (h _ (de _)).1⟩
 have:=this ns.length (av _)
 rwa [aN] at this
def ziJ (T:Txt K mg a) (wd:Wd):kitOne K (.ref (vj a wd)) (.ref a.k)=some (decide (wd=.drain)):=by
 cases wd
 ·exact T.iX
 ·exact T.km
 ·exact T.iY
 ·exact T.ig
 ·exact T.ko
 ·exact T.iZ
def zjc (T:Txt K mg a) (wd:Wd):kitOne K (.ref (vj a wd)) (.ref a.j)=some (decide (wd=.source)):=by
 cases wd
 ·exact T.iK
 ·exact T.i0
 ·exact T.iL
 ·exact T.hJ
 ·exact T.i5
 ·exact T.iM
noncomputable def jz (wd:Wd) (rs:At) (n:Nat):List Int:=((List.range n).filter λ i=>decide (rs[i]?.map Row.wd=some wd)).map λ (i:Nat)=>(i:Int)
def wm {rs:At} {r:Row} (h:rs[n]?=some r):jz wd rs (n + 1)=jz wd rs n ++ if r.wd=wd then [(n:Int)] else []:=by
 unfold jz;rw [range_succ,List.filter_append,a7]
 congr 1
 by_cases e:r.wd=wd <;> simp [h,e]
noncomputable def zR (wd:Wd) (rs:At):List Int:=jz wd rs rs.length
def xT (wd:Wd) (rs:At) (n:Nat):(jz wd rs n).length<=n:=by
 unfold jz;rw [af];exact a8 (List.length_filter_le _ _) (by simp)
def Z5 {rs:At} {m:Int} (h:m∈zR wd rs):∃ (i:Nat) (r:Row),m=i/\rs[i]?=some r/\r.wd=wd:=by
 unfold zR jz at h;obtain ⟨i,hi,rfl⟩:=aV.mp h;rw [cn] at hi;have h2:=bL hi.2;rw [am] at h2;obtain ⟨r,h3,h4⟩:=h2;exact iE2 i r (iA3 rfl h3 h4)
def Xh {rs:At} {r:Row} (h:rs[i]?=some r) (hw:r.wd=wd):(i:Int)∈zR wd rs:=by
 unfold zR jz;refine aV.mpr ⟨i,cn.mpr ⟨bu.mpr (aa.mp h).1,?_⟩,rfl⟩;rw [h];exact aY (by rw [<- hw];rfl)
def zey (a:Ad) (wd:Wd):Sp:=λ vs H Q _=>∃ (v:V) (bs:A1) (rs:At) (p:A5),vs=[v]/\Rep H p v (qq a bs rs)/\rs.length<=100/\∀ q H',Same H H'->H q=none->H' q=some (.lst (iv (zR wd rs)))->Q (.ref q) H'
def X5 (T:Txt K mg a):MCal P w K mg base a.r "drains" 1 ["self"] [] (zey a .drain):=T.kD.cal T.gm λ F=>by
 refine F.okx JR ?_ ?_
 ·walk_at "i"
 walk_at "j";refine oE4 h λ v bs rs p m5=>oA4 m5 λ m7 hv l100 k=>?_;clear m5 h;subst m7;refine oE7 (qX hv) λ y dx fs l1 l2 bvs m9 m5=>oA9 m5 λ m7 hy e1 e2 h1 h2 hB hK no=>?_;clear m5;subst m7;walk_at "T";refine ⟨_,(ze (zl (jY (vars:=["number","knot"]) (caps:=[]) (N:=["number","knot"]) (ON:=["self"]) (osc:=zd jS) rfl rfl (by first|decide +kernel|kernel_rfl) rfl rfl (jo (za (zk (pq 0) rfl) zc)) (λ s H fp m4=>(va (n:=2) rfl (qj (qp 0 (show (["number","knot"]:A8).Nodup from by decide +kernel)) (qj (qp 1 (show (["number","knot"]:A8).Nodup from by decide +kernel)) xu)))) (λ s H fp m4=>(zcz (qO (z7 vY qu (za (pq 1) (za wg zc))) (λ _=>rfl)))) (λ s H fp m4=>(pq 0))))),?_⟩;walk_at "a";walk_at "e";walk_at "a";refine ra hy T.gm T.gj e2 (iE2 l2 _ (iA3 rfl h2 (λ _ _ _ _ mZ hacc=>?_)));refine WG (K:=K) (a:=l2) (xs:=m9) (λ i σ H'=>∃ (v0 v1:Aq),σ=[v0,v1]/\Same H H'/\H' mZ=some (.lst (iv (jz .drain rs i)))) (iE2 _ _ (iA3 rfl (zg hacc) nk)) (λ i σ H' _ h=>by obtain ⟨_,_,_,s,_⟩:=h;exact SqL.of (s _ _ h2)) ?_ ?_
 ·intro i x t σ H' hi ht m8;refine oE2 m8 λ v0 v1 m5=>oA3 m5 λ m7 s7 e1'=>?_;clear m5 m8;subst m7;obtain ⟨r,hr',hKn⟩:=hK.at hi;refine oE6 hKn.inv λ y1 dx1 m1 m2 m3 fs1 m5=>oA9 m5 λ m7 _ _ _ _ g0 f1 f2 n6=>oA5 n6 λ _ g1 g2 _ _=>?_;clear m5 n6;subst m7;have hil:=(aa.mp hr').1;have s8:=s7.trans (zg (o:=.tup [.int i,.ref y1]) ht);have e8:=nA (o:=.tup [.int i,.ref y1]) e1' ht;refine un2 nk ?_;generalize upd H' t (.tup [.int i,.ref y1])=H8 at s8 e8 ⊢;walk_at "a";refine iE2 (.ref a.k) _ (iA3 T.lh rfl (iE4 _ _ _ _ (iA4 rfl ((WT T r.wd).ty (CT T r.wd) (s8 _ _ g0)) (.inl ⟨_,rfl,ziJ T r.wd⟩) ?_)));walk_at "a";refine zZ (λ b=>?_) (λ b=>?_)
  ·refine ⟨_,iA3 e8 (zm (by have:=xT .drain rs i;rw [zP];omega)) (iE2 _ _ (iA3 rfl (λ b o hb=>by rw [nu (nz hb hacc)];exact s8 b o hb) ?_))⟩;rw [nk,wm hr',ap b,jw]
  ·exact iE2 _ _ (iA3 rfl s8 (by rw [wm hr',ao b,cg];exact e8))
 intro σ H2 m8;refine oE2 m8 λ v0 v1 m5=>oA3 m5 λ m7 s2 ha=>?_;clear m5 m8;subst m7;rw [hK.len] at ha;exact k _ _ s2 hacc ha
def vN (T:Txt K mg a):MCal P w K mg base a.r "sources" 1 ["self"] [] (zey a .source):=T.kj.cal T.gm λ F=>by
 refine F.okx Jb ?_ ?_
 ·walk_at "i"
 walk_at "j";refine oE4 h λ v bs rs p m5=>oA4 m5 λ m7 hv l100 k=>?_;clear m5 h;subst m7;refine oE7 (qX hv) λ y dx fs l1 l2 bvs m9 m5=>oA9 m5 λ m7 hy e1 e2 h1 h2 hB hK no=>?_;clear m5;subst m7;walk_at "T";refine ⟨_,(ze (zl (jY (vars:=["number","knot"]) (caps:=[]) (N:=["number","knot"]) (ON:=["self"]) (osc:=zd jF) rfl rfl (by first|decide +kernel|kernel_rfl) rfl rfl (jo (za (zk (pq 0) rfl) zc)) (λ s H fp m4=>(va (n:=2) rfl (qj (qp 0 (show (["number","knot"]:A8).Nodup from by decide +kernel)) (qj (qp 1 (show (["number","knot"]:A8).Nodup from by decide +kernel)) xu)))) (λ s H fp m4=>(zcz (qO (z7 vY qu (za (pq 1) (za wg zc))) (λ _=>rfl)))) (λ s H fp m4=>(pq 0))))),?_⟩;walk_at "a";walk_at "e";walk_at "a";refine ra hy T.gm T.gj e2 (iE2 l2 _ (iA3 rfl h2 (λ _ _ _ _ mZ hacc=>?_)));refine WG (K:=K) (a:=l2) (xs:=m9) (λ i σ H'=>∃ (v0 v1:Aq),σ=[v0,v1]/\Same H H'/\H' mZ=some (.lst (iv (jz .source rs i)))) (iE2 _ _ (iA3 rfl (zg hacc) nk)) (λ i σ H' _ h=>by obtain ⟨_,_,_,s,_⟩:=h;exact SqL.of (s _ _ h2)) ?_ ?_
 ·intro i x t σ H' hi ht m8;refine oE2 m8 λ v0 v1 m5=>oA3 m5 λ m7 s7 e1'=>?_;clear m5 m8;subst m7;obtain ⟨r,hr',hKn⟩:=hK.at hi;refine oE6 hKn.inv λ y1 dx1 m1 m2 m3 fs1 m5=>oA9 m5 λ m7 _ _ _ _ g0 f1 f2 n6=>oA5 n6 λ _ g1 g2 _ _=>?_;clear m5 n6;subst m7;have hil:=(aa.mp hr').1;have s8:=s7.trans (zg (o:=.tup [.int i,.ref y1]) ht);have e8:=nA (o:=.tup [.int i,.ref y1]) e1' ht;refine un2 nk ?_;generalize upd H' t (.tup [.int i,.ref y1])=H8 at s8 e8 ⊢;walk_at "a";refine iE2 (.ref a.j) _ (iA3 T.lK rfl (iE4 _ _ _ _ (iA4 rfl ((WT T r.wd).ty (CT T r.wd) (s8 _ _ g0)) (.inl ⟨_,rfl,zjc T r.wd⟩) ?_)));walk_at "a";refine zZ (λ b=>?_) (λ b=>?_)
  ·refine ⟨_,iA3 e8 (zm (by have:=xT .source rs i;rw [zP];omega)) (iE2 _ _ (iA3 rfl (λ b o hb=>by rw [nu (nz hb hacc)];exact s8 b o hb) ?_))⟩;rw [nk,wm hr',ap b,jw]
  ·exact iE2 _ _ (iA3 rfl s8 (by rw [wm hr',ao b,cg];exact e8))
 intro σ H2 m8;refine oE2 m8 λ v0 v1 m5=>oA3 m5 λ m7 s2 ha=>?_;clear m5 m8;subst m7;rw [hK.len] at ha;exact k _ _ s2 hacc ha
def ww (bs:A1) (rs:At) (n:Int):Prop:=(∃ b∈bs,b.2=n)\/∃ r∈rs,(r.wd=.source\/r.wd=.drain)/\r.pace=n/\0 < n
def zaz {r:Row} (h:r.ok) (hw:r.wd=.source\/r.wd=.drain):0<=r.pace/\r.pace<=4:=by
 obtain ⟨wd,ins,outs,pc,ks⟩:=r;rcases hw with hw|hw
 ·simp only at hw;subst hw;have h1:=h.2.2.1;have h2:=h.2.2.2.1;simp only at h1 h2;exact ⟨by show 0<=pc;omega,h2⟩
 ·simp only at hw;subst hw;exact ⟨h.2.2.1,h.2.2.2⟩
def zho (a:Ad):Sp:=λ vs H Q _=>∃ (v:V) (bs:A1) (rs:At) (p:A5),vs=[v]/\Rep H p v (qq a bs rs)/\bs.length<=100/\rs.length<=100/\(∀ b∈bs,zz b.1 b.2)/\(∀ r∈rs,r.ok) /\
 ∀ L ns H',IsLcm ns L->(∀ n,n∈ns ↔ ww bs rs n)->Same H H'->Q (.int L) H'
def zaX (T:Txt K mg a):MCal P w K mg base a.r "beat" 3 ["self"] [] (zho a):=T.lE.cal T.gm λ F=>by
 refine F.okx Vj ?_ ?_
 ·walk_at "i"
 walk_at "j";refine oE4 h λ v bs rs p m5=>oA7 m5 λ m7 hv lb lr bo ro k=>?_;clear m5 h;subst m7;have hv0:=hv;refine oE7 (qX hv) λ y dx fs l1 l2 bvs m9 m5=>oA9 m5 λ m7 hy e1 e2 h1 h2 hB hK no=>?_;clear m5;subst m7;walk_at "T";refine ⟨_,(zi (Wn (i:=1) Vj.nd rfl (Or.inl rfl) (vars:=["belt"]) (caps:=[]) (N:=["belt"]) (ON:=["self","paces","number","pace"]) (osc:=zd x9) rfl rfl (by first|decide +kernel|kernel_rfl) rfl rfl (ql (zk (pq 0) rfl)) (λ s H fp m4=>(qp 0 (show (["belt"]:A8).Nodup from by decide +kernel))) (λ s H fp m4=>qo) (λ s H fp m4=>(zk (pq 0) rfl)))  (zi (qt qI rfl (ql (zG qm (Jw ⟨rfl,rfl,rfl⟩ hr (pq 0)) (Jw ⟨rfl,rfl,rfl⟩ hr (pq 0)))) (qp 2 Vj.nd)  (zi (zp 3 Vj.nd (zk (zn (zk (pq 0) rfl) (pq 2)) rfl))  (ze (zL (zx Zq (pq 3) zf (zy _))  (ze (zF (qP ar az ay zU (pq 1) (za (pq 3) zc))))  zt))))  (ze (zl (zw ⟨rfl,rfl,rfl⟩ hr (za (pq 1) zc)))))),?_⟩;walk_at "a";walk_at "e";walk_at "a";refine ra hy T.gm T.gU e1 ⟨l1,rfl,.inl ⟨⟨_,SqL.of h1⟩,λ _ _ _ _ mZ hacc=>?_⟩⟩;let n9:Nat->St->Hp->Prop:=λ i σ H'=>∃ (v0:Aq),σ=[v0]/\Same H H'/\H' mZ=some (.lst (iv ((bs.take i).map (·.2))));refine qH (K:=K) (a:=l1) (xs:=bvs) n9 ⟨_,iA3 rfl (zg hacc) (by rw [bX];exact nk)⟩ (λ i σ H' _ h=>by obtain ⟨_,_,s,_⟩:=h;exact SqL.of (s _ _ h1)) ?_ ?_
 ·intro i x σ H' hi m8;refine oE1 m8 λ v0 m5=>oA3 m5 λ m7 s7 e7=>?_;clear m5 m8;subst m7;obtain ⟨b,hr',hBt⟩:=hB.at hi;refine oE3 hBt.inv λ y1 dx1 fs1 m5=>oA5 m5 λ m7 _ g0 f1 f2=>?_;clear m5;subst m7;have hil:=(aa.mp hr').1;walk_at "a";refine ra (s7 _ _ g0) T.ip T.gW f2 ?_;refine ⟨_,iA3 e7 (zm (by rw [zP,af,aP];omega)) ⟨_,iA3 rfl (λ b o hb=>by rw [nu (nz hb hacc)];exact s7 b o hb) ?_⟩⟩;rw [nk,aK,hr',a7,jw]
  rfl
 intro σ H2 m8;refine oE1 m8 λ v0 m5=>oA3 m5 λ m7 s2 ha=>?_;clear m5 m8;subst m7;rw [hB.len,aN] at ha;walk_at "a";walk_at "d";walk_at "a";refine iE7 y a.r dx fs _ _ _ (iA5 rfl (s2 _ _ hy) (no _ (by decide +kernel) (by decide +kernel)) ((vN T).mono) ?_);refine iE4 _ bs rs p (iA4 rfl (hv0.keep λ b o pb hb=>⟨pb,s2 _ _ hb⟩) lr (λ q1 H3 s3 n1 hq1=>?_));refine iE7 y a.r dx fs _ _ _ (iA5 rfl (s3 _ _ (s2 _ _ hy)) (no _ (by decide +kernel) (by decide +kernel)) ((X5 T).mono) ?_);refine iE4 _ bs rs p (iA4 rfl (hv0.keep λ b o pb hb=>⟨pb,s3 _ _ (s2 _ _ hb)⟩) lr (λ q2 H4 s4 n2 hq2=>?_));have l3:=xT .source rs rs.length;have l4:=xT .drain rs rs.length;refine Vo (SqL.of (s4 _ _ hq1)) (SqL.of hq2) (Zb (by rw [zP,zP];show (jz _ _ _).length + (jz _ _ _).length<=_;omega)) λ q3 hq3=>?_;rw [zb4];have s5:Same H (upd H4 q3 (.lst (iv (zR .source rs ++ zR .drain rs)))):=((s2.trans s3).trans s4).trans (zg hq3);have ha5:upd H4 q3 (.lst (iv (zR .source rs ++ zR .drain rs))) mZ=some (.lst (iv (bs.map (·.2)))):=nA (s4 _ _ (s3 _ _ ha)) hq3;have hq5:upd H4 q3 (.lst (iv (zR .source rs ++ zR .drain rs))) q3=some (.lst (iv (zR .source rs ++ zR .drain rs))):=nk;have nq:q3≠mZ:=(nz (s4 _ _ (s3 _ _ ha)) hq3).symm;have hq0:H q3=none:=zA ((s2.trans s3).trans s4) hq3;generalize upd H4 q3 (.lst (iv (zR .source rs ++ zR .drain rs)))=H5 at s5 ha5 hq5 ⊢;refine ⟨q3,rfl,.inl ⟨⟨_,SqL.of hq5⟩,?_⟩⟩;let ni:Nat->St->Hp->Prop:=λ i σ H'=>∃ (v2 v3:Aq) (ns:A6),σ=[some (.ref y),some (.ref mZ),v2,v3]/\Same H H'/\H' q3=some (.lst (iv (zR .source rs ++ zR .drain rs)))/\H' mZ=some (.lst (iv ns))/\Pac ns/\ns.length<=bs.length + i/\∀ n,n∈ns ↔ n∈bs.map (·.2)\/∃ (m:Nat) (r:Row),(m:Int)∈(zR .source rs ++ zR .drain rs).take i/\rs[m]?=some r/\r.pace=n/\0 < n;refine qH (K:=K) (a:=q3) (xs:=iv (zR .source rs ++ zR .drain rs)) ni
  ⟨_,_,bs.map (·.2),rfl,s5,hq5,ha5,?_,by simp,?_⟩ (λ i σ H' _ h=>by obtain ⟨_,_,_,_,_,h,_⟩:=h;exact SqL.of h) ?_ ?_
 ·intro n hn;obtain ⟨b,hb,rfl⟩:=aV.mp hn;have:=bo b hb;exact ⟨by have:=this.2.2.1;omega,by have:=this.2.2.2;omega⟩
 ·intro n;simp
 ·intro i x σ H6 hi m8;refine oE3 m8 λ v2 v3 ns m5=>oA7 m5 λ m7 s6 hq6 ha6 pn ln mem=>?_;clear m5 m8;subst m7;obtain ⟨m,hm,rfl⟩:=Q4 hi;have hmm:=ah hm;have hil:=(aa.mp hm).1;have hlen:(zR .source rs ++ zR .drain rs).length<=200:=by
   rw [aO];show (jz _ _ _).length + (jz _ _ _).length<=_
   omega
  obtain ⟨j,r,rfl,hr',hw⟩:∃ (j:Nat) (r:Row),m=j/\rs[j]?=some r/\(r.wd=.source\/r.wd=.drain):=by
   rcases aE.mp hmm with z|z
   ·obtain ⟨j,r,q1,q2,q3⟩:=Z5 z;exact ⟨j,r,q1,q2,.inl q3⟩
   ·obtain ⟨j,r,q1,q2,q3⟩:=Z5 z;exact ⟨j,r,q1,q2,.inr q3⟩
  have hp:=zaz (ro r (ah hr')) hw;obtain ⟨kv,hkv,hKn⟩:∃ kv,m9[j]?=some kv/\KnP a H p kv r:=by
   have hj:=(aa.mp hr').1;have e:m9[j]?=some (m9[j]'(by rw [hK.len];exact hj)):=ad _;exact ⟨_,e,hK.g j _ r e hr'⟩
  refine oE6 hKn.inv λ y1 dx1 m1 m2 m3 fs1 m5=>oA9 m5 λ m7 _ _ _ _ g0 _ _ n6=>oA5 n6 λ _ _ _ _ fp=>?_;clear m5 n6;subst m7;walk_at "a";refine ra (s6 _ _ hy) T.gm T.gj e2 (zq (SqL.of (s6 _ _ h2)) (zD hkv) ?_);have NP:NoAttr K (vj a r.wd) "pace":=by
   rcases hw with z|z
   ·rw [z];exact T.gH
   ·rw [z];exact T.gz
  refine iE5 y1 (vj a r.wd) dx1 fs1 _ (iA6 rfl (s6 _ _ g0) (CT T _) NP (fp hw) ?_);walk_at "a";have tk:(zR .source rs ++ zR .drain rs).take (i + 1)=(zR .source rs ++ zR .drain rs).take i ++ [(j:Int)]:=by rw [aK,hm];rfl
  refine zZ (λ b=>?_) (λ b=>?_)
  ·walk_at "a";refine ⟨.inl ⟨rfl,_,SqL.of ha6⟩,iE3 mZ _ _ (iA5 rfl rfl ha6 (zm (by rw [zP];omega)) ?_)⟩;rw [jw];refine iE3 _ _ (ns ++ [r.pace]) (iA7 rfl (λ b o hb=>by rw [nu (nz hb hacc)];exact s6 b o hb) (by rw [nu nq];exact hq6) nk (pn.snoc b (by omega)) (by simp;omega) (λ n=>?_));rw [aE,mem n,aw,tk];constructor
   ·rintro ((h|⟨m',r',h1,h2,h3,h4⟩)|h)
    ·exact .inl h
    ·exact .inr (iE2 m' r' (iA4 (bp _ h1) h2 h3 h4))
    ·subst h;exact .inr (iE2 j r (iA4 (aT _ (aw.mpr rfl)) hr' rfl b))
   ·rintro (h|⟨m',r',h1,h2,h3,h4⟩)
    ·exact .inl (.inl h)
    ·rcases aE.mp h1 with h1|h1
     ·exact .inl (.inr (iE2 m' r' (iA4 h1 h2 h3 h4)))
     ·have e:m'=j:=by have:=aw.mp h1;omega
      subst e;rw [hr'] at h2;cases h2;exact .inr h3.symm
  ·refine iE3 _ _ ns (iA7 rfl s6 hq6 ha6 pn (by omega) (λ n=>?_));rw [mem n,tk];constructor
   ·rintro (h|⟨m',r',h1,h2,h3,h4⟩)
    ·exact .inl h
    ·exact .inr (iE2 m' r' (iA4 (bp _ h1) h2 h3 h4))
   ·rintro (h|⟨m',r',h1,h2,h3,h4⟩)
    ·exact .inl h
    ·rcases aE.mp h1 with h1|h1
     ·exact .inr (iE2 m' r' (iA4 h1 h2 h3 h4))
     ·have e:m'=j:=by have:=aw.mp h1;omega
      subst e;rw [hr'] at h2;cases h2;omega
 ·intro σ H6 m8;refine oE3 m8 λ v2 v3 ns m5=>oA7 m5 λ m7 s6 hq6 ha6 pn ln mem=>?_;clear m5 m8;subst m7;rw [zP,aN] at mem;walk_at "a";refine uc (zec T).mono (iE2 mZ ns (iA4 rfl (SqL.of ha6) pn (λ L hL=>k L ns _ hL (λ n=>?_) s6)));rw [mem n];unfold ww;constructor
  ·rintro (h|⟨m',r',h1,h2,h3,h4⟩)
   ·obtain ⟨b,hb,e⟩:=aV.mp h;exact .inl ⟨b,hb,e⟩
   ·refine .inr ⟨r',iA4 (ah h2) ?_ h3 h4⟩;rcases aE.mp h1 with z|z
    ·refine oE2 (Z5 z) λ j r m5=>oA3 m5 λ q1 q2 q3=>?_;clear m5;have e:m'=j:=by omega
     subst e;rw [h2] at q2;cases q2;exact .inl q3
    ·refine oE2 (Z5 z) λ j r m5=>oA3 m5 λ q1 q2 q3=>?_;clear m5;have e:m'=j:=by omega
     subst e;rw [h2] at q2;cases q2;exact .inr q3
  ·rintro (⟨b,hb,e⟩|⟨r,hr',hw,h3,h4⟩)
   ·exact .inl (aV.mpr ⟨b,hb,e⟩)
   ·obtain ⟨m',hm'⟩:=br hr';refine .inr (iE2 m' r (iA4 ?_ hm' h3 h4));rcases hw with hw|hw
    ·exact bp _ (Xh hm' hw)
    ·exact aT _ (Xh hm' hw)
def jA {G:Addr} {ags:Ab} {gss:List A6} {g:A6} (h:NL H p G ags (z8 gss)) (e:gss[i]?=some g):∃ b,ags[i]?=some b/\H b=some (.lst (iv g)):=by
 obtain ⟨b,vs,h1,h2,h3⟩:=h.at (i:=i) (xs:=g.map D.int) (by rw [z8,ak,e];rfl);rw [Jy h3] at h2;exact ⟨b,h1,h2⟩
noncomputable def kdW (rs:At) (x:Int × Int):Int:=wB ((rs[x.1.toNat]?.map Row.kinds).getD []) x.2
noncomputable def zr (rs:At) (c:Av):List A9:=c.map λ wr=>wr.map (kdW rs)
def zdr (a:Ad):Sp:=λ vs H Q _=>∃ (vw:V) (cb:Addr) (us:Ap) (bs:A1) (rs:At) (c:Av) (p q:A5),vs=[vw,.ref cb]/\Rep H p vw (qq a bs rs)/\H cb=some (.lst us)/\Reps H q us (c.map zS)/\(∀ wr∈c,vx rs wr)/\(∀ r∈rs,r.ok)/\c.length<=6/\∀ t H',Same H H'->H t=none->H' t=some (.tup ((zr rs c).map oiV))->Q (.ref t) H'
theorem zcl (T:Txt K mg a):Cal P w K mg base "kinds_in" 2 ["work","cells"] [] (zdr a):=T.lO.cal λ F=>by
 refine F.okx zat ?_ ?_
 ·walk_at "i"
 walk_at "j";refine oE8 h λ vw cb us bs rs c p q m5=>oA8 m5 λ m7 hw hcb rus wk ro c6 k=>?_;clear m5 h;subst m7;have lu:us.length=c.length:=by rw [rus.len,af]
 walk_at "T";refine ⟨_,(ze (zl (vI Qj Qk (za (jY (vars:=["ware"]) (caps:=[0]) (N:=["ware","work"]) (ON:=["work","cells"]) (osc:=zd wT) rfl rfl (by first|decide +kernel|kernel_rfl) rfl rfl (ql (pq 1)) (λ s H fp m4=>(qp 0 (show (["ware","work"]:A8).Nodup from by decide +kernel))) (λ s H fp m4=>qo) (λ s H fp m4=>(xQ (zx jq (pq 0) zE (zy _)) zE (vH hr (za (pq 1) (za (pq 0) zc)))))) zc)))),?_⟩;walk_at "e";walk_at "a";refine ⟨cb,rfl,.inl ⟨⟨_,SqL.of hcb⟩,λ _ _ _ _ mZ hacc=>?_⟩⟩;let n9:Nat->St->Hp->Prop:=λ j σ H'=>∃ (v0:Aq),σ=[v0,some vw]/\Same H H'/\H' mZ=some (.lst ((zr rs (c.take j)).map oiV));refine qH (K:=K) (a:=cb) (xs:=us) n9 ⟨_,iA3 rfl (zg hacc) nk⟩ (λ i σ H' _ h=>by obtain ⟨_,_,s,_⟩:=h;exact SqL.of (s _ _ hcb)) ?_ ?_
 ·intro j v σ H1 hj m8;refine oE1 m8 λ v0 m5=>oA3 m5 λ m7 s1 ha=>?_;clear m5 m8;subst m7;obtain ⟨d,hd,rv⟩:=rus.at hj;rw [ak,am] at hd;obtain ⟨wr,hwr,rfl⟩:=hd;have hjl:=(aa.mp hwr).1;have e:(zr rs (c.take (j + 1))).map oiV=(zr rs (c.take j)).map oiV ++ [oiV (wr.map (kdW rs))]:=by
   rw [aK,hwr];simp [zr]
  have lk:((zr rs (c.take j)).map oiV).length<=6:=by simp [zr];omega
  have sn:∀ (x:V),Same H (upd H1 mZ (.lst ((zr rs (c.take j)).map oiV ++ [x]))):=λ x b o hb=>by rw [nu (nz hb hacc)];exact s1 b o hb
  cases wr with
  | none =>
   have rv:Rep H q v .non:=rv;cases rv;walk_at "a";exact ⟨_,iA3 ha (zm (by omega)) ⟨_,iA3 rfl (sn _) (by rw [nk,e];rfl)⟩⟩
  | some x =>
   obtain ⟨tx,rfl,htx⟩:=jJ (b:=x) rv;refine oE2 (wk _ (ah hwr) x.1 x.2 rfl) λ jj r m5=>oA4 m5 λ e1 hr' hs _=>?_;clear m5;have kp:0 < r.kinds.length:=by
    have ok:=ro r (ah hr');unfold Row.ok at ok;rw [hs] at ok;have:=ok.2.2.2.2.1;omega
   have hw1:Rep H1 p vw (qq a bs rs):=hw.keep λ b o hb ho=>⟨hb,s1 _ _ ho⟩;have rx:Rep H1 q (.ref tx) (.tup [.int jj,.int x.2]):=by
    have:=rv.keep (H':=H1) (q:=q) λ b o hb ho=>⟨hb,s1 _ _ ho⟩;have e2:zS (some x)=.tup [.int x.1,.int x.2]:=rfl;rw [e2,e1] at this;exact this
   walk_at "a";refine uc (WL T).mono (iE5 vw (.ref tx) bs rs p (iE4 q jj x.2 r (iA7 rfl hw1 rx hr' hs kp ?_)));refine ⟨_,iA3 ha (zm (by omega)) ⟨_,iA3 rfl (sn _) ?_⟩⟩;rw [nk,e];show _=some (HO.lst (_ ++ [V.int (kdW rs x)]))
   unfold kdW;rw [e1,aA,hr']
   rfl
 intro σ H1 m8;refine oE1 m8 λ v0 m5=>oA3 m5 λ m7 s1 ha=>?_;clear m5 m8;subst m7;rw [lu,aN] at ha;refine iE2 mZ _ ⟨rfl,.inl ⟨SqL.of ha,λ t ht=>?_⟩⟩;exact k t _ (s1.trans (zg ht)) (zA s1 ht) nk
def QX (bs:A1) (rs:At) (L:Int):Prop:=∃ ns,IsLcm ns L/\∀ n,n∈ns ↔ ww bs rs n
def zfQ {rs:At} {L L':Int} (h:QX bs rs L) (h':QX bs rs L'):L=L':=by
 obtain ⟨ns,i,m⟩:=h;obtain ⟨ns',i',m'⟩:=h';have d:L ∣ L':=i.least _ λ n hn=>i'.dv n ((m' n).mpr ((m n).mp hn));have d':L' ∣ L:=i'.least _ λ n hn=>i.dv n ((m n).mpr ((m' n).mp hn));exact Int.dvd_antisymm (cB i.pos) (cB i'.pos) d d'
open Classical in
noncomputable def xp (bs:A1) (rs:At):Int:=if h:∃ L,QX bs rs L then Classical.choose h else 1
def zbk {rs:At} (h:QX bs rs L):L=xp bs rs:=by
 unfold xp;rw [dif_pos ⟨L,h⟩];exact zfQ h (Classical.choose_spec (⟨L,h⟩:∃ L,QX bs rs L))
noncomputable def jQ (rs:At) (st:PSt) (j:Int):Int:=match rs[j.toNat]? with
 | some r=>(st.gone.getD j.toNat []).headD 0 % (r.kinds.length:Int)
 | none=>0
noncomputable def Qp (bs:A1) (rs:At) (st:PSt):ShK:=(some (st.turn % xp bs rs),st.cells.map (zr rs),st.sides.map some,(zR .source rs).map λ j=>some (jQ rs st j))
def zai (a:Ad):Sp:=λ vs H Q _=>∃ (vw:V) (y:Addr) (n:SN) (j:Nat) (bs:A1) (rs:At) (st:PSt) (r:Row) (p:A5),vs=[vw,.ref y,.int j]/\Rep H p vw (qq a bs rs)/\StO a H y n st/\rs[j]?=some r/\r.wd=.source/\r.ok/\stWf bs rs st/\Q (.int (jQ rs st j)) H
def VY (T:Txt K mg a):Cal P w K mg base "kind_place" 1 ["work","state","number"] [] (zai a):=T.kJ.cal λ F=>by
 refine F.okx XT ?_ ?_
 ·walk_at "i"
 walk_at "j";refine oE5 h λ vw y n j bs m5=>oE4 m5 λ rs st r p m7=>oA8 m7 λ n6 hv so hr' hs ok wf k=>?_;clear m5 m7 h;subst n6;refine oE7 (qX hv) λ yw dx fs l1 l2 bvs m9 m5=>oA9 m5 λ m7 hy e1 e2 h1 h2 hB hK no=>?_;clear m5;subst m7;obtain ⟨kv,hkv,hKn⟩:=VG hK hr';refine oE6 hKn.inv λ y1 dx1 m1 m2 m3 fs1 m5=>oA9 m5 λ m7 _ _ _ _ g0 _ _ n6=>oA5 n6 λ _ _ _ g3 _=>?_;clear m5 n6;subst m7;obtain ⟨g3a,g3b⟩:=g3 hs;have kp:0 < r.kinds.length:=by
  unfold Row.ok at ok;rw [hs] at ok;have:=ok.2.2.2.2.1;omega
 have hj:=(aa.mp hr').1;obtain ⟨g,hg⟩:∃ g,st.gone[j]?=some g:=⟨_,ad (by rw [wf.go.1];exact hj)⟩;have q1:=(wf.go.2 j r g hr' hg).1;have cp:=xW ok;obtain ⟨gh,gs,rfl⟩:=cO (dM (by omega:0 < g.length));obtain ⟨bG,hbG,hgG⟩:=jA so.hg hg;have hmap:(n.ags.map V.ref)[j]?=some (.ref bG):=by rw [ak,hbG];rfl
 have ek:jQ rs st j=gh % (r.kinds.length:Int):=by
  unfold jQ;rw [aA,hr',ae,hg]
  rfl
 rw [ek] at k;walk_at "T";refine ⟨_,(ze (zl (zG qT (zn (zn (zk (pq 1) rfl) (pq 2)) zf) (z7 qe qd (za (zk (zn (zk (pq 0) rfl) (pq 2)) rfl) zc))))),?_⟩;walk_at "a";refine ra so.hy T.gd T.gi rfl (zq (SqL.of so.hg.out) (zD hmap) (zq (SqL.of hgG) at0 ?_));walk_at "a";refine ra hy T.gm T.gj e2 (zq (SqL.of h2) (zD hkv) ?_);refine iE5 y1 (vj a r.wd) dx1 fs1 _ (iA6 rfl g0 (CT T _) (by rw [hs];exact T.gD) g3a ?_);refine ⟨_,.inl ⟨_,SqL.of g3b,rfl⟩,?_⟩;rw [zP];walk_at "a";exact ⟨by omega,k⟩
theorem Vn {H:Hp} {p:A5}:∀ c:List A9,Reps H p (c.map oiV) (c.map oiD)
 | []=>.nil
 | none :: c=>.cons .non (Vn c)
 | some n :: c=>.cons .int (Vn c)
def zbL {t:Addr} {c:List A9} (h:H t=some (.tup (c.map oiV))):Rep H (zV H) (.ref t) (.tup (c.map oiD)):=(Vn c).mkT ⟨_,h⟩ h
def JE {H H':Hp} {d:D} (r:Rep H (zV H) v d) (s:Same H H'):Rep H' (zV H') v d:=r.keep λ b o ⟨xs,hx⟩ hb=>⟨⟨xs,s _ _ hx⟩,s _ _ hb⟩
def Wc {H H':Hp} {ds:List D} (r:Reps H (zV H) vs ds) (s:Same H H'):Reps H' (zV H') vs ds:=r.keep λ b o ⟨xs,hx⟩ hb=>⟨⟨xs,s _ _ hx⟩,s _ _ hb⟩
def ze5 {rs:At} {m:Int} (h:m∈zR wd rs):∃ (j:Nat) (r:Row),m=j/\rs[j]?=some r/\r.wd=wd:=by
 unfold zR jz at h;obtain ⟨j,hj,rfl⟩:=aV.mp h;obtain ⟨h1,h2⟩:=cn.mp hj;have h2:=bL h2;obtain ⟨r,hr,e⟩:=am.mp h2;exact iE2 j r (iA3 rfl hr e)
def zf2 (a:Ad):Sp:=λ vs H Q _=>∃ (vw:V) (y:Addr) (n:SN) (bs:A1) (rs:At) (st:PSt) (p:A5),vs=[vw,.ref y]/\Rep H p vw (qq a bs rs)/\StO a H y n st/\stWf bs rs st/\bs.length<=24/\rs.length<=24/\(∀ b∈bs,zz b.1 b.2)/\(∀ r∈rs,r.ok)/\∀ t H',Same H H'->Rep H' (zV H') (.ref t) (shD (Qp bs rs st))->Q (.ref t) H'
def zci (T:Txt K mg a):Cal P w K mg base "shape_of" 4 ["work","state"] [] (zf2 a):=T.lP.cal λ F=>by
 refine F.okx zap ?_ ?_
 ·walk_at "i"
 walk_at "j";refine oE7 h λ vw y n bs rs st p m5=>oA9 m5 λ m7 hv so wf b24 r24 bo ro k=>?_;clear m5 h;subst m7;refine oE7 (qX hv) λ yw dx fs l1 l2 bvs m9 m5=>oA9 m5 λ m7 hy e1 e2 h1 h2 hB hK no=>?_;clear m5;subst m7;walk_at "T";refine ⟨_,(zi (zp 2 zap.nd (zG qT (zk (pq 1) rfl) (Jw ⟨rfl,rfl,rfl⟩ hr (pq 0))))  (zi (zp 3 zap.nd (vI Qj Qk (za (jY (vars:=["cells"]) (caps:=[0]) (N:=["cells","work"]) (ON:=["work","state","beat_place","kinds","places"]) (osc:=zd xF) rfl rfl (by first|decide +kernel|kernel_rfl) rfl rfl (ql (zk (pq 1) rfl)) (λ s H fp m4=>(qp 0 (show (["cells","work"]:A8).Nodup from by decide +kernel))) (λ s H fp m4=>qo) (λ s H fp m4=>(vH hr (za (pq 1) (za (pq 0) zc))))) zc)))  (zi (zp 4 zap.nd (vI Qj Qk (za (jY (vars:=["number"]) (caps:=[0,1]) (N:=["number","work","state"]) (ON:=["work","state","beat_place","kinds","places"]) (osc:=zd xF) rfl rfl (by first|decide +kernel|kernel_rfl) rfl rfl (ql (Jw ⟨rfl,rfl,rfl⟩ hr (pq 0))) (λ s H fp m4=>(qp 0 (show (["number","work","state"]:A8).Nodup from by decide +kernel))) (λ s H fp m4=>qo) (λ s H fp m4=>(vH hr (za (pq 1) (za (pq 2) (za (pq 0) zc)))))) zc)))  (ze (zl (qS (za (pq 2) (za (pq 3) (za (vI Qj Qk (za (zk (pq 1) rfl) zc)) (za (pq 4) zc)))))))))),?_⟩;walk_at "a";refine ra so.hy T.gd T.gg rfl ?_;refine iE7 yw a.r dx fs _ _ _ (iA5 rfl hy (no _ (by decide +kernel) (by decide +kernel)) ((zaX T).mono) ?_);refine iE4 (.ref yw) bs rs p (iA7 rfl hv (by omega) (by omega) bo ro (λ L ns H1 il im s1=>?_));have lp:=il.pos;have eL:=zbk ⟨ns,il,im⟩;walk_at "a";rw [eL];clear il im lp eL;have so1:=so.same s1;have hv1:Rep H1 p (.ref yw) (qq a bs rs):=hv.keep λ b o hb ho=>⟨hb,s1 _ _ ho⟩;have lc:n.acs.length=st.cells.length:=by rw [so.hc.len,zH,af]
 have lcb:st.cells.length=bs.length:=wf.co.1;walk_at "e";walk_at "a";refine ra so1.hy T.gd T.gf rfl ⟨n.lc,rfl,.inl ⟨⟨_,SqL.of so1.hc.out⟩,λ _ _ _ _ mZ hacc=>?_⟩⟩;let n9:Nat->St->Hp->Prop:=λ i σ H'=>∃ (v0:Aq) (us:Ap),σ=[v0,some (.ref yw)]/\Same H1 H'/\H' mZ=some (.lst us)/\us.length=i/\Reps H' (zV H') us ((st.cells.take i).map λ c=>.tup ((zr rs c).map oiD));refine qH (K:=K) (a:=n.lc) (xs:=n.acs.map V.ref) n9 (iE2 _ ([]) (iA5 rfl (zg hacc) nk rfl (.nil))) (λ i σ H' _ h=>by obtain ⟨_,_,_,s,_⟩:=h;exact SqL.of (s _ _ so1.hc.out)) ?_ ?_
 ·intro i x σ H2 hi m8;refine oE2 m8 λ v0 us m5=>oA5 m5 λ m7 s2 ha lu ru=>?_;clear m5 m8;subst m7;rw [ak,am] at hi;obtain ⟨cb,hcb,rfl⟩:=hi;have hil:i < st.cells.length:=by rw [<- lc];exact (aa.mp hcb).1
  obtain ⟨c,ec⟩:∃ c,st.cells[i]?=some c:=⟨_,ad hil⟩;obtain ⟨vs,hvs,rvs⟩:=so1.hc.g i cb _ hcb (show (zH st.cells)[i]?=some (c.map zS) by rw [zH,ak,ec];rfl);obtain ⟨b,hb⟩:∃ b,bs[i]?=some b:=⟨_,ad (by rw [<- wf.co.1];exact hil)⟩;obtain ⟨lc6,wk⟩:=wf.co.2 i b c hb ec;have bk:=(bo b (ah hb)).2.1;walk_at "a";refine uc (zcl T).mono (iE8 (.ref yw) cb vs bs rs c p _ (iA8 rfl (hv1.keep (λ b o hb ho=>⟨hb,s2 _ _ ho⟩)) (s2 _ _ hvs) (rvs.keep (λ b o hb ho=>⟨hb,s2 _ _ ho⟩)) wk ro (by omega) (λ t H3 s3 nt ht=>?_)));have nta:∀ b,zV H3 b->b≠mZ:=λ b ⟨xs,hx⟩ z=>by rw [z,s3 _ _ ha] at hx;cases hx
  refine ⟨_,iA3 (s3 _ _ ha) (zm (by omega)) (iE2 _ (us ++ [.ref t]) (iA5 rfl (λ b o hb=>by rw [nu (nz hb hacc)];exact s3 _ _ (s2 b o hb)) nk (by simp [lu]) ?_))⟩;rw [aK,ec,a7];refine ((Wc ru s3).append (.one (zbL ht))).keep λ b o tb hb=>?_;have ne:=nta b tb;obtain ⟨xs,hx⟩:=tb;exact ⟨⟨xs,by rw [nu ne];exact hx⟩,by rw [nu ne];exact hb⟩
 intro σ H2 m8;refine oE2 m8 λ v0 us m5=>oA5 m5 λ m7 s2 ha lu ru=>?_;clear m5 m8;subst m7;rw [af,lc,aN] at ru;refine iE2 mZ _ ⟨rfl,.inl ⟨SqL.of ha,λ t1 ht1=>?_⟩⟩;have s3:=zg (o:=.tup us) ht1;have ru3:=Wc ru s3;have hT1:upd H2 t1 (.tup us) t1=some (.tup us):=nk;have s13:=s2.trans s3;generalize upd H2 t1 (.tup us)=H3 at s3 ru3 hT1 s13 ⊢;have r1:Rep H3 (zV H3) (.ref t1) (.tup ((st.cells.map (zr rs)).map λ r=>.tup (r.map oiD))):=by
  rw [eB];exact ru3.mkT ⟨_,hT1⟩ hT1
 clear ru ru3 ha hT1 s2 s3;have so3:=so1.same s13;have hv3:Rep H3 p (.ref yw) (qq a bs rs):=hv1.keep λ b o hb ho=>⟨hb,s13 _ _ ho⟩;walk_at "a";refine iE7 yw a.r dx fs _ _ _ (iA5 rfl (s13 _ _ (s1 _ _ hy)) (no _ (by decide +kernel) (by decide +kernel)) ((vN T).mono) ?_);refine iE4 (.ref yw) bs rs p (iA4 rfl hv3 (by omega) (λ q H4 s4 nq hq=>?_));have ln:=xT .source rs rs.length;have so4:=so3.same s4;have hv4:Rep H4 p (.ref yw) (qq a bs rs):=hv3.keep λ b o hb ho=>⟨hb,s4 _ _ ho⟩;refine ⟨q,rfl,.inl ⟨⟨_,SqL.of hq⟩,λ _ _ _ _ ac2 hac2=>?_⟩⟩;let ni:Nat->St->Hp->Prop:=λ i σ H'=>∃ (v0:Aq),σ=[v0,some (.ref yw),some (.ref y)]/\Same H4 H'/\H' ac2=some (.lst ((((zR .source rs).take i).map λ j=>some (jQ rs st j)).map oiV));refine qH (K:=K) (a:=q) (xs:=iv (zR .source rs)) ni ⟨_,iA3 rfl (zg hac2) nk⟩ (λ i σ H' _ h=>by obtain ⟨_,_,s,_⟩:=h;exact SqL.of (s _ _ hq)) ?_ ?_
 ·intro i x σ H5 hi m8;refine oE1 m8 λ v0 m5=>oA3 m5 λ m7 s5 ha=>?_;clear m5 m8;subst m7;obtain ⟨m,hm,rfl⟩:=Q4 hi;have hil:=(aa.mp hm).1;refine oE2 (ze5 (ah hm)) λ jj r m5=>oA3 m5 λ m7 hr' hs=>?_;clear m5;subst m7;have ln:(zR .source rs).length<=rs.length:=ln;walk_at "a";refine uc (VY T).mono (iE5 (.ref yw) y n jj bs (iE4 rs st r p (iA8 rfl (hv4.keep (λ b o hb ho=>⟨hb,s5 _ _ ho⟩)) (so4.same s5) hr' hs (ro r (ah hr')) wf ?_)));refine ⟨_,iA3 ha (zm (by rw [af,af,aP];omega)) ⟨_,iA3 rfl (λ b o hb=>by rw [nu (nz hb hac2)];exact s5 b o hb) ?_⟩⟩;rw [nk,aK,hm];simp [oiV]
 intro σ H5 m8;refine oE1 m8 λ v0 m5=>oA3 m5 λ m7 s5 ha=>?_;clear m5 m8;subst m7;rw [zP,aN] at ha;refine iE2 ac2 _ ⟨rfl,.inl ⟨SqL.of ha,λ t2 ht2=>?_⟩⟩;have s6:=zg (o:=.tup (((zR .source rs).map λ j=>some (jQ rs st j)).map oiV)) ht2;have hT2:upd H5 t2 (.tup (((zR .source rs).map λ j=>some (jQ rs st j)).map oiV)) t2=some (.tup (((zR .source rs).map λ j=>some (jQ rs st j)).map oiV)):=nk;have s36:=(s4.trans s5).trans s6;generalize upd H5 t2 (.tup (((zR .source rs).map λ j=>some (jQ rs st j)).map oiV))=H6 at s36 hT2 ⊢;have so6:=so3.same s36;walk_at "a";refine ra so6.hy T.gd T.gk rfl (iE2 n.ls _ ⟨rfl,.inl ⟨SqL.of so6.hs,λ t3 ht3=>?_⟩⟩);intro t4 ht4;have s7:=zg (o:=.tup (iv st.sides)) ht3;have hT3:upd H6 t3 (.tup (iv st.sides)) t3=some (.tup ((st.sides.map some).map oiV)):=by rw [nk,eB];rfl
 generalize upd H6 t3 (.tup (iv st.sides))=H7 at s7 hT3 ht4 ⊢;have s8:=zg (o:=.tup [.int (st.turn % xp bs rs),.ref t1,.ref t3,.ref t2]) ht4;have hT4:upd H7 t4 (.tup [.int (st.turn % xp bs rs),.ref t1,.ref t3,.ref t2]) t4=some (.tup [.int (st.turn % xp bs rs),.ref t1,.ref t3,.ref t2]):=nk;generalize upd H7 t4 (.tup [.int (st.turn % xp bs rs),.ref t1,.ref t3,.ref t2])=H8 at s8 hT4 ⊢;refine k t4 H8 ((s1.trans s13).trans (s36.trans (s7.trans s8))) ?_;exact Reps.mkT (vs:=[.int (st.turn % xp bs rs),.ref t1,.ref t3,.ref t2]) (.cons .int (.cons (JE r1 (s36.trans (s7.trans s8))) (.cons (JE (zbL hT3) s8) (.cons (JE (zbL hT2) (s7.trans s8)) .nil)))) ⟨_,hT4⟩ hT4
noncomputable abbrev qD (bs:A1) (rs:At) (i:Nat):ShK:=Qp bs rs (zh bs rs i)
structure RoundAt (bs:A1) (rs:At) (lim i j:Nat):Prop where
 lt:i < j
 le:j<=lim
 eq:qD bs rs i=qD bs rs j
 fst:∀ x y,x < y->y < j->qD bs rs x≠qD bs rs y
def Zm (bs:A1) (rs:At) (lim:Nat):Prop:=∀ x y,x < y->y<=lim->qD bs rs x≠qD bs rs y
def RoundAt.one {rs:At} {lim lim' i j i' j':Nat} (h:RoundAt bs rs lim i j) (h':RoundAt bs rs lim' i' j'):i=i'/\j=j':=by
 have ej:j=j':=by
  rcases dS j j' with z|z|z
  ·exact absurd h.eq (h'.fst i j h.lt z)
  ·exact z
  ·exact absurd h'.eq (h.fst i' j' h'.lt z)
 subst ej;refine ⟨?_,rfl⟩;rcases dS i i' with z|z|z
 ·exact absurd (h.eq.trans h'.eq.symm) (h.fst i i' z h'.lt)
 ·exact z
 ·exact absurd (h'.eq.trans h.eq.symm) (h.fst i' i z h.lt)
def RoundAt.no {rs:At} {lim i j:Nat} (h:RoundAt bs rs lim i j):¬ Zm bs rs lim:=λ z=>z i j h.lt h.le h.eq
def Nxt (H H':Hp):Prop:=∀ b u,H b=some u->(∀ φ,u≠.ext φ)->H' b=some u
def Same.nxt {H H':Hp} (s:Same H H'):Nxt H H':=λ b u hb _=>s b u hb
def Nxt.trans {H H' H2:Hp} (a:Nxt H H') (b:Nxt H' H2):Nxt H H2:=λ c u hc n=>b c u (a c u hc n) n
def zgu {D:Addr} {φ:Heap->Prop} (h:H D=some (.ext φ)):Nxt H (upd H D o):=λ b u hb n=>by
 rw [nu (λ z=>by rw [z,h] at hb;cases hb;exact n φ rfl)];exact hb
def ze7 {H H':Hp} {G:Addr} {as:Ab} {xss:List (List D)} (h:NL H (zV H) G as xss) (s:Nxt H H'):NL H' (zV H') G as xss:=by
 refine h.tup λ b o c hb=>s b o hb λ φ z=>?_;subst z;rcases c with c|c|⟨xs,c⟩
 ·rw [c,h.out] at hb;cases hb
 ·obtain ⟨vs,hv⟩:=h.isl (aF _ c);rw [hv] at hb;cases hb
 ·rw [c] at hb;cases hb
def StO.nxt {H H':Hp} {y:Addr} {n:SN} {st:PSt} (h:StO a H y n st) (s:Nxt H H'):StO a H' y n st:=⟨s _ _ h.hy (λ φ z=>by cases z),ze7 h.hc s,s _ _ h.hs (λ φ z=>by cases z),ze7 h.hg s,h.nd⟩
def zf0 {H H':Hp} {d:D} (r:Rep H (zV H) v d) (s:Nxt H H'):Rep H' (zV H') v d:=r.keep λ b o ⟨xs,hx⟩ hb=>by
 have e:=s b _ hx (λ φ z=>by cases z);rw [hx] at hb;cases hb;exact ⟨⟨xs,e⟩,e⟩
structure SD (a:Ad) (H:Hp) (bs:A1) (rs:At) (xs:List (ShK × Addr × Addr)) (t:Nat):Prop where
 len:xs.length=t
 at':∀ (i:Nat) x,xs[i]?=some x->x.1=qD bs rs i/\Rep H (zV H) (.ref x.2.1) (shD x.1)/\∃ n,StO a H x.2.2 n (zh bs rs i)
 fst:∀ x y,x < y->y < t->qD bs rs x≠qD bs rs y
def SD.nxt {H H':Hp} {rs:At} {xs:List (ShK × Addr × Addr)} {t:Nat} (h:SD a H bs rs xs t) (s:Nxt H H'):SD a H' bs rs xs t:=⟨h.len,λ i x e=>by
 refine oA3 (h.at' i x e) λ e1 r m5=>oE1 m5 λ n so=>?_;clear m5;exact (iA3 e1 (zf0 r s) ⟨n,so.nxt s⟩),h.fst⟩
def SD.keys {rs:At} {xs:List (ShK × Addr × Addr)} {t:Nat} (h:SD a H bs rs xs t):keysOk H xs:=λ x hx=>by
 obtain ⟨i,hi⟩:=br hx;exact ⟨_,(h.at' i x hi).2.1⟩
def SD.look {rs:At} {xs:List (ShK × Addr × Addr)} {t:Nat} {k:ShK} {y:Addr} (h:SD a H bs rs xs t) (e:wn xs k=some y):∃ i n,i < t/\qD bs rs i=k/\StO a H y n (zh bs rs i):=by
 unfold wn at e;obtain ⟨x,hx,rfl⟩:=am.mp e;have hk:x.1=k:=by
  have:=List.find?_some hx;simpa using this
 obtain ⟨i,hi⟩:=br (List.mem_of_find?_eq_some hx);refine oA3 (h.at' i x hi) λ e1 _ m5=>oE1 m5 λ n so=>?_;clear m5;exact iE2 i n (iA3 (by rw [<- h.len];exact (aa.mp hi).1) (e1.symm.trans hk) so)
def SD.new {rs:At} {xs:List (ShK × Addr × Addr)} {t:Nat} {k:ShK} (h:SD a H bs rs xs t) (e:wn xs k=none):∀ i,i < t->qD bs rs i≠k:=λ i hi z=>by
 obtain ⟨x,hx⟩:∃ x,xs[i]?=some x:=⟨_,ad (by rw [h.len];exact hi)⟩;unfold wn at e;rw [Option.map_eq_none_iff,List.find?_eq_none] at e;exact e x (ah hx) (aY ((h.at' i x hx).1.trans z))
def SD.add {rs:At} {xs:List (ShK × Addr × Addr)} {t:Nat} {b y:Addr} {n:SN} (h:SD a H bs rs xs t) (e:wn xs (qD bs rs t)=none) (r:Rep H (zV H) (.ref b) (shD (qD bs rs t))) (so:StO a H y n (zh bs rs t)):SD a H bs rs (xs ++ [(qD bs rs t,b,y)]) (t + 1):=by
 refine ⟨by simp [h.len],λ i x hx=>?_,λ u v huv hv=>?_⟩
 ·by_cases hi:i < xs.length
  ·rw [aQ hi] at hx;exact h.at' i x hx
  ·rw [aM (by omega)] at hx;have hz:=(aa.mp hx).1;have:i=t:=by simp at hz;have:=h.len;omega
   subst this;rw [h.len,ff] at hx;cases hx;exact iA3 rfl r ⟨n,so⟩
 ·rcases Nat.lt_or_ge v t with z|z
  ·exact h.fst u v huv z
  ·have:v=t:=by omega
   subst this;exact h.new e u huv
def zag (a:Ad):Sp:=λ vs H Q E=>∃ (vw:V) (lim:Nat) (bs:A1) (rs:At),vs=[vw,.int lim]/\Rep H (Off []) vw (qq a bs rs)/\zJ bs rs/\(∀ b∈bs,zz b.1 b.2)/\(∀ r∈rs,r.ok)/\lim<=1000 /\
 (∀ i j t y0 y1 n0 n1 H',RoundAt bs rs lim i j->Same H H'->H' t=some (.tup [.ref y0,.ref y1])->StO a H' y0 n0 (zh bs rs i)->StO a H' y1 n1 (zh bs rs j)->Q (.ref t) H') /\
 (Zm bs rs lim->∀ H',Same H H'->E (.ref a.f) none H')
theorem xz (T:Txt K mg a):Cal P w K mg base "round_ends" 8 ["work","limit"] [] (zag a):=T.kM.cal λ F=>by
 refine F.okx XR ?_ ?_
 ·walk_at "i"
 walk_at "j";refine oE4 h λ vw lim bs rs m5=>oA8 m5 λ m7 hv mX bo ro l1000 kQ kE=>?_;clear m5 h;subst m7;have b24:=mX.1.1.2;have r24:=mX.1.2.2;walk_at "T";refine ⟨_,(zj (zp 2 XR.nd (zw ⟨rfl,rfl,rfl⟩ hr (za (pq 0) zc)))  (zj (zp 3 XR.nd zgn)  (qM (qt qI rfl (xP (za (zG qm (pq 1) zf) zc)) (qp 4 XR.nd)  (zj (zp 5 XR.nd (zw ⟨rfl,rfl,rfl⟩ hr (za (pq 0) (za (pq 2) zc))))  (zj (zL (zeO (zhE hr.units1 (pq 5) (pq 3)) (by with_unfolding_all rfl))  (ze (zl (qS (za (zgo hr.units1 (pq 3) (pq 5) (λ _ _=>rfl)) (za (pq 2) zc)))))  zt)  (zj (zgk hr.units1 (pq 3) (pq 5) (pq 2) rfl)  (ze (zp 2 XR.nd (zw ⟨rfl,rfl,rfl⟩ hr (za (pq 0) (za (pq 2) zc)))))))))  (ze (je ⟨rfl,rfl,rfl⟩ rfl (za jI zc)))))),?_⟩;walk_at "a";refine uc (Zx T).mono (iE4 vw bs rs _ (iA7 rfl hv b24 r24 bo ro (λ v' H1 s1 sn=>?_)));refine oE2 sn λ y nn m5=>oA5 m5 λ m7 so _ _ _=>?_;clear m5 sn;subst m7;walk_at "a";intro D hD;have sD:=zg (o:=sdO P w D []) hD;have nD:H D=none:=zA s1 hD;have s2:=s1.trans sD;have so2:=so.same sD;have hD2:upd H1 D (sdO P w D []) D=some (sdO P w D []):=nk;generalize upd H1 D (sdO P w D [])=H2 at s2 so2 hD2 ⊢;clear so s1 sD hD;walk_at "a";let n9:St->Hp->Prop:=λ σ' H'=>∃ (v2 v4 v5:Aq),σ'=[some vw,some (.int lim),v2,some (.ref D),v4,v5]/\Same H H'/\Zm bs rs lim;refine cut n9 ?_ ?_
 ·walk_at "d";walk_at "a";refine ⟨by omega,by omega,?_⟩;refine vS (n:=((lim:Int) + 1).toNat) (λ t σ H'=>∃ (v4 v5:Aq) (y:Addr) (n:SN) (xs:List (ShK × Addr × Addr)),σ=[some vw,some (.int lim),some (.ref y),some (.ref D),v4,v5]/\Same H H'/\H' D=some (sdO P w D xs)/\StO a H' y n (zh bs rs t)/\SD a H' bs rs xs t) (iE5 _ _ y nn ([]) (iA5 rfl s2 hD2 so2 ⟨rfl,λ i x e=>by simp at e,λ x y _ z=>absurd z (ee _)⟩)) ?_ ?_
  ·clear so2 hD2 s2;intro t σ H3 ht m8;refine oE5 m8 λ v4 v5 y n xs m5=>oA5 m5 λ m7 s3 hD3 so3 sd3=>?_;clear m5 m8;subst m7;have ht':t<=lim:=by omega
   have lx:=sd3.len;walk_at "a";refine uc (zci T).mono (iE7 vw y n bs rs (zh bs rs t) _ (iA9 rfl (hv.same s3) so3 (zu mX bo ro t) b24 r24 bo ro (λ b H4 s4 r4=>?_)));have hD4:=s4 _ _ hD3;have so4:=so3.same s4;have sd4:=sd3.nxt (Same.nxt s4);have s04:=s3.trans s4;clear hD3 so3 sd3 s3 s4;walk_at "a";refine iE5 D b xs _ _ (iA6 rfl rfl hD4 sd4.keys r4 ?_);cases el:wn xs (qD bs rs t) with
   | some y0 =>
    refine oE2 (sd4.look el) λ i n0 m5=>oA3 m5 λ hi ei so0=>?_;clear m5;walk_at "a";refine iE6 D b xs _ _ y0 (iA7 rfl rfl hD4 sd4.keys r4 el (λ q hq=>?_));have sq:=zg (o:=.tup [.ref y0,.ref y]) hq;exact kQ i t q y0 y n0 n _ ⟨hi,ht',ei,sd4.fst⟩ (s04.trans sq) nk (so0.same sq) (so4.same sq)
   | none =>
    walk_at "a";refine iE6 D b xs _ _ y (iA9 rfl rfl rfl hD4 sd4.keys r4 el (zm (by omega)) ?_);have nx:Nxt H4 (upd H4 D (sdO P w D (xs ++ [(qD bs rs t,b,y)]))):=zgu hD4;have so5:=so4.nxt nx;have sd5:=(sd4.add el r4 so4).nxt nx;have hD5:upd H4 D (sdO P w D (xs ++ [(qD bs rs t,b,y)])) D=some (sdO P w D (xs ++ [(qD bs rs t,b,y)])):=nk;have s5:Same H (upd H4 D (sdO P w D (xs ++ [(qD bs rs t,b,y)]))):=λ c u hc=>by rw [nu (nz hc nD)];exact s04 c u hc
    generalize upd H4 D (sdO P w D (xs ++ [(qD bs rs t,b,y)]))=H5 at so5 sd5 hD5 s5 ⊢;walk_at "a";refine uc (zck T).mono (iE6 vw (.ref y) (zh bs rs t) bs rs _ (iA8 rfl (hv.same s5) so5.rep (zu mX bo ro t) mX bo ro (λ v' H6 s6 sn=>?_)));refine oE2 sn λ y2 n2 m5=>oA3 m5 λ m7 so6 _=>?_;clear m5 sn;subst m7;exact iE5 _ _ y2 n2 _ (iA5 rfl (s5.trans s6) (s6 _ _ hD5) so6 (sd5.nxt (Same.nxt s6)))
  ·intro σ H3 m8;refine oE5 m8 λ v4 v5 y n xs m5=>oA5 m5 λ m7 s3 hD3 so3 sd3=>?_;clear m5 m8;subst m7;exact iE3 _ _ _ (iA3 rfl s3 (λ x y hxy hy=>sd3.fst x y hxy (by omega)))
 intro σ' H3 m8;refine oE3 m8 λ v2 v4 v5 m5=>oA3 m5 λ m7 s3 nr=>?_;clear m5 m8;subst m7;walk_at "a";exact ⟨a.f,iA3 T.kS T.mn (kE nr H3 s3)⟩
noncomputable def jp (old new:A6):List Int:=(List.range old.length).map λ p=>new.getD p 0 - old.getD p 0
noncomputable def jg (gs0 gs1:List A6):List A6:=List.zipWith jp gs0 gs1
def zd3 {gs0 gs1:List A6} {g0 g1:A6} (h0:gs0[i]?=some g0) (h1:gs1[i]?=some g1):jg (gs0.take (i + 1)) (gs1.take (i + 1))=jg (gs0.take i) (gs1.take i) ++ [jp g0 g1]:=by
 unfold jg;rw [aK,aK,h0,h1];have l0:=(aa.mp h0).1;have l1:=(aa.mp h1).1;rw [List.zipWith_append (by rw [aP,aP];omega)]
 rfl
def zeA (a:Ad):Sp:=λ vs H Q _=>∃ (y0 y1:Addr) (n0 n1:SN) (s0 s1:PSt),vs=[.ref y0,.ref y1]/\StO a H y0 n0 s0/\StO a H y1 n1 s1/\s0.gone.length=s1.gone.length/\s0.gone.length<=24/\(∀ (i:Nat) g0 g1,s0.gone[i]?=some g0->s1.gone[i]?=some g1->g0.length=g1.length/\g0.length<=4) /\
 ∀ l as H',Same H H'->NL H' (zV H') l as (z8 (jg s0.gone s1.gone))->(∀ b∈l :: as,H b=none)->Q (.ref l) H'
def vW (T:Txt K mg a):Cal P w K mg base "growth_of" 1 ["before","after"] [] (zeA a):=T.lz.cal λ F=>by
 refine F.okx Vh ?_ ?_
 ·walk_at "i"
 walk_at "j";refine oE6 h λ y0 y1 n0 n1 s0 s1 m5=>oA7 m5 λ m7 so0 so1 le l24 lg k=>?_;clear m5 h;subst m7;have la0:n0.ags.length=s0.gone.length:=by rw [so0.hg.len,z8,af]
 have la1:n1.ags.length=s0.gone.length:=by rw [so1.hg.len,z8,af,le]
 walk_at "T";refine ⟨_,(zi (zp 2 Vh.nd (zK zc))  (zi (qt qI rfl (zeV (za (zk (pq 0) rfl) (za (zk (pq 1) rfl) zc))) (va (n:=2) rfl (qj (Ze (i:=3) Vh.nd rfl (Or.inr rfl)) (qj (Ze (i:=4) Vh.nd rfl (Or.inr rfl)) xu)))  (ze (zF (qP ar az ay zU (pq 2) (za (jY (vars:=["place"]) (caps:=[4,3]) (N:=["place","new","old"]) (ON:=["before","after","growth","old","new"]) (osc:=zd x8) rfl rfl (by first|decide +kernel|kernel_rfl) rfl rfl (xP (za (z7 qe qd (za (pq 3) zc)) zc)) (λ s H fp m4=>(qp 0 (show (["place","new","old"]:A8).Nodup from by decide +kernel))) (λ s H fp m4=>qo) (λ s H fp m4=>(zG xl (zn (pq 1) (pq 0)) (zn (pq 2) (pq 0))))) zc)))))  (ze (zl (pq 2))))),?_⟩;walk_at "a";intro l hl;have sl:=zg (o:=.lst []) hl;have nl0:NL (upd H l (.lst [])) (zV (upd H l (.lst []))) l [] (z8 (jg (s0.gone.take 0) (s1.gone.take 0))):=zbU nk;generalize upd H l (.lst [])=H1 at sl nl0 ⊢;have so10:=so0.same sl;have so11:=so1.same sl;walk_at "d";walk_at "a";refine ra so10.hy T.gd T.gi rfl (ra so11.hy T.gd T.gi rfl (iE6 true true n0.lg n1.lg _ _ (iA4 rfl (SqL.of so10.hg.out) (SqL.of so11.hg.out) ?_)));let n9:Nat->St->Hp->Prop:=λ i σ H'=>∃ (v3 v4:Aq) (as:Ab),σ=[some (.ref y0),some (.ref y1),some (.ref l),v3,v4]/\Same H H'/\NL H' (zV H') l as (z8 (jg (s0.gone.take i) (s1.gone.take i)))/\∀ b∈as,H b=none;refine zhc (K:=K) (xs:=n0.ags.map V.ref) (ys:=n1.ags.map V.ref) n9 (iE3 _ _ ([]) (iA4 rfl sl nl0 (by simp))) (λ i σ H' _ h=>by obtain ⟨_,_,_,_,s,_⟩:=h;exact ⟨SqL.of (s _ _ so0.hg.out),SqL.of (s _ _ so1.hg.out)⟩) ?_ ?_
 ·intro i x z t σ H2 hi hj ht m8;refine oE3 m8 λ v3 v4 as m5=>oA4 m5 λ m7 s2 nl2 fa=>?_;clear m5 m8;subst m7;rw [ak,am] at hi hj;obtain ⟨b0,hb0,rfl⟩:=hi;obtain ⟨b1,hb1,rfl⟩:=hj;have hil:i < s0.gone.length:=by rw [<- la0];exact (aa.mp hb0).1
  obtain ⟨g0,e0⟩:∃ g,s0.gone[i]?=some g:=⟨_,ad hil⟩;obtain ⟨g1,e1⟩:∃ g,s1.gone[i]?=some g:=⟨_,ad (by rw [<- le];exact hil)⟩;obtain ⟨lg1,lg4⟩:=lg i g0 g1 e0 e1;obtain ⟨c0,q0,h0⟩:=jA so0.hg e0;obtain ⟨c1,q1,h1⟩:=jA so1.hg e1;rw [hb0] at q0;cases q0;rw [hb1] at q1;cases q1;have st:=zg (o:=.tup [.ref b0,.ref b1]) ht;have s3:=s2.trans st;have nl3:=nl2.tup (H':=upd H2 t (.tup [.ref b0,.ref b1])) λ b o _ hb=>st b o hb;refine un2 nk ?_;generalize upd H2 t (.tup [.ref b0,.ref b1])=H3 at s3 nl3 ⊢;have las:as.length<=24:=by rw [nl3.len,z8,af,jg,fu,aP,aP];omega
  walk_at "a";refine ⟨.inl ⟨rfl,_,SqL.of nl3.out⟩,?_⟩;walk_at "e";walk_at "a";refine ⟨_,.inl ⟨_,SqL.of (s3 _ _ h0),rfl⟩,?_⟩;rw [zP];walk_at "a";refine ⟨by omega,by omega,λ _ _ _ _ mZ hacc=>?_⟩;let ni:Nat->St->Hp->Prop:=λ j σ H'=>∃ (v0:Aq),σ=[v0,some (.ref b1),some (.ref b0)]/\Same H3 H'/\H' mZ=some (.lst (iv ((List.range j).map λ p=>g1.getD p 0 - g0.getD p 0)));refine vS (n:=((g0.length:Int)).toNat) ni ⟨_,iA3 rfl (zg hacc) nk⟩ ?_ ?_
  ·intro j σ H4 hj m8;refine oE1 m8 λ v0 m5=>oA3 m5 λ m7 s4 ha=>?_;clear m5 m8;subst m7;have hjl:j < g0.length:=by omega
   walk_at "a";simp only [cc];refine zq (SqL.of (s4 _ _ (s3 _ _ h1))) (zD (jr (qh (d:=0) (by omega:j < g1.length)))) (zq (SqL.of (s4 _ _ (s3 _ _ h0))) (zD (jr (qh (d:=0) hjl))) ?_);walk_at "a";refine ⟨_,iA3 ha (zm (by rw [zP,af,List.length_range];omega)) ⟨_,iA3 rfl (λ b o hb=>by rw [nu (nz hb hacc)];exact s4 b o hb) ?_⟩⟩;rw [nk,jw,range_succ,a7]
   rfl
  intro σ H4 m8;refine oE1 m8 λ v0 m5=>oA3 m5 λ m7 s4 ha=>?_;clear m5 m8;subst m7;rw [show ((g0.length:Int)).toNat=g0.length by omega] at ha;have nl4:=nl3.tup (H':=H4) λ b o _ hb=>s4 b o hb;have nb:mZ ∉ as:=λ z=>by
   obtain ⟨vs,h⟩:=nl3.isl (aF _ z);rw [hacc] at h;cases h
  have nG:mZ≠l:=λ z=>by rw [z,nl3.out] at hacc;cases hacc
  have ntG:¬ zV H4 l:=λ ⟨xs,hx⟩=>by rw [nl4.out] at hx;cases hx
  refine iE3 l _ _ (iA5 rfl rfl nl4.out (zm (by rw [af];omega)) ?_);have np:=nl4.push (b:=mZ) (vs:=iv (jp g0 g1)) (ys:=(jp g0 g1).map D.int) ha nb nG ntG reps_ints;refine iE3 _ _ (as ++ [mZ]) (iA4 rfl (λ b o hb=>by rw [nu (nz hb hl)];exact s4 _ _ (s3 _ _ hb)) ?_ (λ b hb=>?_))
  ·rw [zd3 e0 e1,show z8 (jg (s0.gone.take i) (s1.gone.take i) ++ [jp g0 g1])=z8 (jg (s0.gone.take i) (s1.gone.take i)) ++ [(jp g0 g1).map D.int] by simp [z8]];refine np.keep (λ _ _ _ hc=>hc) λ c hc _=>?_;obtain ⟨xs,hx⟩:=hc;exact ⟨xs,by rw [nu (λ z=>by rw [z,nl4.out] at hx;cases hx)];exact hx⟩
  ·rcases aE.mp hb with hb|hb
   ·exact fa b hb
   ·rw [aw.mp hb];exact zA s3 hacc
 ·intro σ H2 m8;refine oE3 m8 λ v3 v4 as m5=>oA4 m5 λ m7 s2 nl2 fa=>?_;clear m5 m8;subst m7;rw [af,af,la0,la1,di,aN,show List.take s0.gone.length s1.gone=s1.gone by rw [le];exact aN] at nl2;walk_at "a";refine k l as _ s2 nl2 λ b hb=>?_;rcases ax.mp hb with rfl|hb
  ·exact hl
  ·exact fa b hb
def V9 {st:PSt} {fb:A9}:(z6 st k fb).2.turn=st.turn/\(z6 st k fb).2.sides=st.sides/\(z6 st k fb).2.gone=st.gone:=by
 cases fb <;> exact ⟨rfl,rfl,rfl⟩
def zaK {st:PSt} {x:zC} {tb:A9}:(vG st x tb).turn=st.turn/\(vG st x tb).sides=st.sides/\(vG st x tb).gone=st.gone:=by
 cases tb <;> exact ⟨rfl,rfl,rfl⟩
def movedF_keep {r:Row} {st:PSt} {ch:Ak}:(movedF r st k ch).turn=st.turn/\(movedF r st k ch).sides=st.sides/\(movedF r st k ch).gone=st.gone:=by
 obtain ⟨a1,a2,a3⟩:=V9 (st:=st) (k:=k) (fb:=qF r ch);obtain ⟨b1,b2,b3⟩:=zaK (st:=(z6 st k (qF r ch)).2) (x:=(z6 st k (qF r ch)).1) (tb:=Zz r ch);exact ⟨b1.trans a1,b2.trans a2,b3.trans a3⟩
def jh {α:Type} {xs:List α} {k j:Nat} {x d:α} (h:k≠j):(xs.set k x).getD j d=xs.getD j d:=by
 rw [ae,ae,be h]
def zel (rs:At) (st:PSt) (k:Nat):(qg rs st k).1.turn=st.turn/\∀ j,k < j->(qg rs st k).1.sides.getD j 0=st.sides.getD j 0/\(qg rs st k).1.gone.getD j []=st.gone.getD j []:=by
 unfold qg;cases rs[k]? with
 | none=>exact ⟨rfl,λ _ _=>⟨rfl,rfl⟩⟩
 | some r =>
  simp only;cases zX r (qc rs st.cells r) (qA st.cells r) st.turn (st.sides.getD k 0).toNat with
  | none=>exact ⟨rfl,λ _ _=>⟨rfl,rfl⟩⟩
  | some ch =>
   obtain ⟨c1,c2,c3⟩:=movedF_keep (r:=r) (st:=st) (k:=k) (ch:=ch);refine ⟨c1,λ j hj=>⟨?_,?_⟩⟩
   ·show ((movedF r st k ch).sides.set k _).getD j 0=_
    rw [jh (by omega),c2]
   ·show ((movedF r st k ch).gone.set k _).getD j []=_
    rw [jh (by omega),c3]
theorem Q7 (rs:At) (st:PSt):∀ i,(zo rs st i).1.turn=st.turn/\∀ j,i<=j->(zo rs st i).1.sides.getD j 0=st.sides.getD j 0/\(zo rs st i).1.gone.getD j []=st.gone.getD j []
 | 0=>⟨rfl,λ _ _=>⟨rfl,rfl⟩⟩
 | i + 1=>by
  obtain ⟨h1,h2⟩:=Q7 rs st i;obtain ⟨g1,g2⟩:=zel rs (zo rs st i).1 i;refine ⟨g1.trans h1,λ j hj=>?_⟩;obtain ⟨a1,a2⟩:=h2 j (by omega);obtain ⟨b1,b2⟩:=g2 j (by omega);exact ⟨b1.trans a1,b2.trans a2⟩
theorem qk (bs:A1) (rs:At):∀ n,(zh bs rs n).turn=n
 | 0=>rfl
 | n + 1=>by
  show (zo rs (zh bs rs n) rs.length).1.turn + 1=_
  rw [(Q7 rs (zh bs rs n) rs.length).1,qk bs rs n]
  rfl
def zgN (g:A6) (j p:Nat):g.getD p 0<=(ZR g j).getD p 0:=by
 unfold ZR;by_cases e:j=p
 ·subst e;by_cases h:j < g.length
  ·rw [ae (l:=g.set _ _),aS h];show _<=g.getD j 0 + 1
   omega
  ·rw [cv (by omega)];exact bB _
 ·rw [jh e];exact bB _
def Ql (rs:At) (st:PSt) (k i p:Nat):(st.gone.getD i []).getD p 0<=((qg rs st k).1.gone.getD i []).getD p 0:=by
 unfold qg;cases rs[k]? with
 | none=>exact bB _
 | some r =>
  simp only;cases zX r (qc rs st.cells r) (qA st.cells r) st.turn (st.sides.getD k 0).toNat with
  | none=>exact bB _
  | some ch =>
   obtain ⟨c1,c2,c3⟩:=movedF_keep (r:=r) (st:=st) (k:=k) (ch:=ch);show _<=(((movedF r st k ch).gone.set k _).getD i []).getD p 0
   rw [c3];by_cases e:k=i
   ·subst e;by_cases h:k < st.gone.length
    ·rw [ae (l:=st.gone.set _ _),aS h];exact zgN _ _ _
    ·rw [cv (by omega)];exact bB _
   ·rw [jh e];exact bB _
theorem QW (rs:At) (st:PSt) (i p:Nat):∀ m,(st.gone.getD i []).getD p 0<=((zo rs st m).1.gone.getD i []).getD p 0
 | 0=>bB _
 | m + 1=>fo (QW rs st i p m) (Ql rs _ m i p)
theorem wI (bs:A1) (rs:At) (n i p:Nat):∀ m,((zh bs rs n).gone.getD i []).getD p 0<=((zh bs rs (n + m)).gone.getD i []).getD p 0
 | 0=>bB _
 | m + 1=>fo (wI bs rs n i p m) (QW rs (zh bs rs (n + m)) i p rs.length)
noncomputable def jt (bs:A1) (rs:At) (i j:Nat):List A6:=jg (zh bs rs i).gone (zh bs rs j).gone
def QS {rs:At} {s0 s1:PSt} (ro:∀ r∈rs,r.ok) (w0:stWf bs rs s0) (w1:stWf bs rs s1):s0.gone.length=s1.gone.length/\∀ (i:Nat) g0 g1,s0.gone[i]?=some g0->s1.gone[i]?=some g1->g0.length=g1.length/\g0.length<=4:=by
 refine ⟨by rw [w0.go.1,w1.go.1],λ i g0 g1 e0 e1=>?_⟩;have hi:=(aa.mp e0).1;obtain ⟨r,hr⟩:∃ r,rs[i]?=some r:=⟨_,ad (by rw [<- w0.go.1];exact hi)⟩;have q0:=(w0.go.2 i r g0 hr e0).1;have q1:=(w1.go.2 i r g1 hr e1).1;have rl:=wH (ro r (ah hr));refine ⟨by omega,?_⟩;rw [q0];have:=a9 (n:=max r.ins.length r.outs.length) (a:=(0:Int));show (qr r).length<=4
 unfold qr;rw [a9];omega
def JH (a:Ad) (R:List (Int × Int)->List Row->Nat->Nat->Hp->V->Hp->Prop):Sp:=λ vs H Q E=>∃ (vw:V) (lim:Nat) (bs:A1) (rs:At),vs=[vw,.int lim]/\Rep H (Off []) vw (qq a bs rs)/\zJ bs rs/\(∀ b∈bs,zz b.1 b.2)/\(∀ r∈rs,r.ok)/\lim<=1000 /\
 (∀ i j v H',RoundAt bs rs lim i j->Same H H'->R bs rs i j H v H'->Q v H')/\(Zm bs rs lim->∀ H',Same H H'->E (.ref a.f) none H')
def rOf (_:A1) (_:At) (i j:Nat) (_:Hp) (v:V) (H':Hp):Prop:=∃ t,v=.ref t/\H' t=some (.tup [.int i,.int ((j:Int) - i)])
def zaM (T:Txt K mg a) (F:FunD K "round_of" "round_of" jy f fd):FnOk P w K mg base (CXr P w) 9 f fd ["work","limit"] (JH a rOf):=by
 refine F.okx zaq ?_ ?_
 ·walk_at "i"
 walk_at "j";refine oE4 h λ vw lim bs rs m5=>oA8 m5 λ m7 hv mX bo ro l1000 kQ kE=>?_;clear m5 h;subst m7;walk_at "T";refine ⟨_,(zi (zp 2 zaq.nd (zw ⟨rfl,rfl,rfl⟩ hr (za (pq 0) (za (pq 1) zc))))  (ze (zl (qS (za (zk (zn (pq 2) zf) rfl) (za (zG xl (zk (zn (pq 2) zf) rfl) (zk (zn (pq 2) zf) rfl)) zc)))))),?_⟩;walk_at "a";refine uc (xz T).mono (iE4 vw lim bs rs (iA8 rfl hv mX bo ro l1000 (λ i j t y0 y1 n0 n1 H1 rnd s1 ht so0 so1=>?_) kE));walk_at "a";refine nB ht at0 (ra so0.hy T.gd T.gg rfl ?_);refine nB ht (show atI _ 1=some (.ref y1) from rfl) (ra so1.hy T.gd T.gg rfl ?_);refine nB ht at0 (ra so0.hy T.gd T.gg rfl ?_);walk_at "a";intro t2 ht2;rw [qk,qk];exact kQ i j _ _ rnd (s1.trans (zg ht2)) ⟨t2,rfl,nk⟩
def zcj (T:Txt K mg a):Cal P w K mg base "round_of" 9 ["work","limit"] [] (JH a rOf):=T.lU.cal (zaM T)
def ziD (bs:A1) (rs:At) (i j:Nat) (_:Hp) (v:V) (H':Hp):Prop:=∃ l as,v=.ref l/\NL H' (zV H') l as (z8 (jt bs rs i j))
def Jh (T:Txt K mg a) (F:FunD K "round_counts" "round_counts" qv f fd):FnOk P w K mg base (CXr P w) 9 f fd ["work","limit"] (JH a ziD):=by
 refine F.okx Q9 ?_ ?_
 ·walk_at "i"
 walk_at "j";refine oE4 h λ vw lim bs rs m5=>oA8 m5 λ m7 hv mX bo ro l1000 kQ kE=>?_;clear m5 h;subst m7;walk_at "T";refine ⟨_,(zi (zp 2 Q9.nd (zw ⟨rfl,rfl,rfl⟩ hr (za (pq 0) (za (pq 1) zc))))  (ze (zl (zw ⟨rfl,rfl,rfl⟩ hr (za (zn (pq 2) zf) (za (zn (pq 2) zf) zc)))))),?_⟩;walk_at "a";refine uc (xz T).mono (iE4 vw lim bs rs (iA8 rfl hv mX bo ro l1000 (λ i j t y0 y1 n0 n1 H1 rnd s1 ht so0 so1=>?_) kE));obtain ⟨le,lg⟩:=QS ro (zu mX bo ro i) (zu mX bo ro j);walk_at "a";refine uc (vW T).mono (nB ht at0 (nB ht (show atI _ 1=some (.ref y1) from rfl) ?_));exact iE6 y0 y1 n0 n1 _ _ (iA7 rfl so0 so1 le (by rw [(zu mX bo ro i).go.1];exact mX.1.2.2) lg (λ l as H2 s2 nl _=>kQ i j _ _ rnd (s1.trans s2) (iE2 l as ⟨rfl,nl⟩)))
def XE (T:Txt K mg a):Cal P w K mg base "round_counts" 9 ["work","limit"] [] (JH a ziD):=T.i9.cal (Jh T)
noncomputable def wM (ns:A6) (k:Nat):Int:=ns.getD k 0
inductive spCell (K:A0) (vs:Ap) (H:Hp) (Q:VK) (E:XK):Prop
 | i (l:Addr) (ns:A6) (k:Nat):vs=[.ref l,.int k]->SqL K H l (iv ns)->Q (.int (wM ns k)) H->spCell K vs H Q E
def xX (T:Txt K mg a):Cal P w K mg base "_law_cell" 1 ["_law_cells","_law_k"] [] (spCell K):=T.mv.cal λ F=>by
 refine F.okx zdz ?_ ?_
 ·walk_at "i"
 walk_at "k";rcases h with ⟨l,ns,n,rfl,hl,k⟩;walk_at "T";refine ⟨_,(zi (zL (zx zcD (pq 1) (z7 qe qd (za (pq 0) zc)) (zy _))  (ze (zl (zn (pq 0) (pq 1))))  zt)  (ze (zl zf))),?_⟩;walk_at "a";refine ⟨_,.inl ⟨_,hl,rfl⟩,?_⟩;walk_at "r";rw [zP];refine zZ (λ h=>?_) (λ h=>?_)
 ·have h:n < ns.length:=by omega
  refine zq hl (zD (jr (ad h))) ?_;have e:ns[n]=wM ns n:=by simp [wM,h]
  rw [e];exact k
 ·have e:wM ns n=0:=by
   have h:ns.length<=n:=by omega
   simp [wM,h]
  rw [e] at k;walk_at "r";exact k
def zhl:Sp:=λ vs H Q _=>∃ n p m:Int,vs=[.int n,.int p,.int m]/\0 < p/\0 < m/\∀ r,0<=r->r < m->Q (.int r) H
def qB (T:Txt K mg a):Cal P w K mg base "_law_some" 1 ["_law_number","_law_prime","_law_many"] [] zhl:=T.mw.cal λ F=>by
 refine F.okx zdx ?_ ?_
 ·walk_at "i"
 walk_at "k";refine oE3 h λ n p m m5=>oA4 m5 λ m7 p0 m0 k=>?_;clear m5 h;subst m7;walk_at "T";refine ⟨_,(ze (zl (zG qT (zG qT (zG vK (zeX (zG qm (pq 0) zf)) zf) (pq 1)) (pq 2)))),?_⟩;walk_at "r";exact iA4 (mul_okR (by decide) (by decide)) p0 m0 (k _ (bJ _ (by omega)) (bW _ m0))
def Vw {r:Int} (h0:0<=r) (h1:r < ns.length):∃ x∈ns,atI (iv ns) r=some (.int x):=by
 obtain ⟨j,rfl⟩:∃ j:Nat,r=j:=⟨r.toNat,by omega⟩;have hj:j < ns.length:=by omega
 exact ⟨_,de hj,zD (jr (ad hj))⟩
def zhn (a:Ad):Sp:=λ vs H Q _=>∃ n:Int,vs=[.int n]/\∀ z H' b,Same H H'->zz b.1 b.2->BtP a H' (New H) (.ref z) b->Q (.ref z) H'
def xY (T:Txt K mg a):Cal P w K mg base "_law_belt" 3 ["_law_number"] [] (zhn a):=T.my.cal λ F=>by
 refine F.okx zdA ?_ ?_
 ·walk_at "i"
 walk_at "j";obtain ⟨n,rfl,k⟩:=h;walk_at "T";refine ⟨_,(ze (zl (qV (x:="Belt") ⟨rfl,rfl,rfl⟩ hr (za (zn (zK (za zf (za zf (za zf (za zf zc))))) (zw ⟨rfl,rfl,rfl⟩ hr (za (pq 0) (za zf (za zf zc))))) (za (zn (zK (za zf (za zf (za zf (za zf (za zf zc)))))) (zw ⟨rfl,rfl,rfl⟩ hr (za (pq 0) (za zf (za zf zc))))) zc))))),?_⟩;walk_at "a";refine iE4 a.h _ _ _ ⟨(zfl T).mono,λ p hp=>(uc (qB T).mono (iE3 n 10007 4 (iA4 rfl (by decide) (by decide) (λ r r0 r1=>?_))))⟩;obtain ⟨x,hx,ex⟩:=Vw (ns:=[1,1,2,3]) r0 r1;have s1:=zg (o:=.lst (iv [1,1,2,3])) hp;refine zq (SqL.of nk) ex λ q hq=>(uc (qB T).mono (iE3 n 10009 5 (iA4 rfl (by decide) (by decide) (λ r' r0' r1'=>?_))));obtain ⟨y,hy,ey⟩:=Vw (ns:=[1,1,1,2,3]) r0' r1';have s2:=s1.trans (zg (o:=.lst (iv [1,1,1,2,3])) hq);refine zq (SqL.of nk) ey ?_;have bo:zz x y:=by
  simp only [ax,bj,bQ] at hx hy;exact iA4 (by omega) (by omega) (by omega) (by omega)
 clear ex ey hx hy;intro z dz hz hdz _;exact zgv hz hdz bo λ H3 s3 q3=>⟨rfl,k z H3 (x,y) (s2.trans s3) bo (q3.keep λ b o hb ho=>⟨zA s2 hb,ho⟩)⟩
def zf4 (K:A0):Sp:=λ vs H Q _=>∃ (l:Addr) (ns:A6),vs=[.ref l]/\SqL K H l (iv ns)/\∀ kl ks H',Same H H'->H' kl=some (.lst (iv ks))->1<=ks.length->ks.length<=3->Qm ks->Q (.ref kl) H'
def zef (T:Txt K mg a):Cal P w K mg base "_law_kinds" 2 ["_law_cells"] [] (zf4 K):=T.l9.cal λ F=>by
 refine F.okx zbF ?_ ?_
 ·walk_at "i"
 walk_at "j";refine oE2 h λ l ns m5=>oA3 m5 λ m7 hl k=>?_;clear m5 h;subst m7;walk_at "T";refine ⟨_,(zi (zp 1 zbF.nd (Vz (zw ⟨rfl,rfl,rfl⟩ hr (za (pq 0) (za zf zc)))))  (zi (zp 2 zbF.nd (Vz (zw ⟨rfl,rfl,rfl⟩ hr (za (pq 0) (za zf zc)))))  (ze (zl (zn (zK (za (zK (za (pq 1) zc)) (za (zK (za (pq 1) (za (pq 2) zc))) (za (zK (za (pq 1) (za (pq 2) (za (pq 1) zc)))) zc)))) (zw ⟨rfl,rfl,rfl⟩ hr (za (zw ⟨rfl,rfl,rfl⟩ hr (za (pq 0) (za zf zc))) (za zf (za zf zc))))))))),?_⟩;walk_at "a";refine uc (xX T).mono (spCell.i l ns 2 rfl hl ?_);walk_at "a";refine uc (xX T).mono (spCell.i l ns 3 rfl hl ?_);walk_at "a";have x0:=bJ (wM ns 2) (show (1000000000000000000000000000000:Int)≠0 by decide);have x1:=bW (wM ns 2) (show (0:Int) < 1000000000000000000000000000000 by decide);have y0:=bJ (wM ns 3) (show (1000000000000000000000000000000:Int)≠0 by decide);have y1:=bW (wM ns 3) (show (0:Int) < 1000000000000000000000000000000 by decide);generalize wM ns 2 % 1000000000000000000000000000000=x at x0 x1 ⊢;generalize wM ns 3 % 1000000000000000000000000000000=y at y0 y1 ⊢;intro p1 h1 p2 h2 p3 h3 p4 h4;have s1:=zg (o:=.lst [.int x]) h1;have s2:=zg (o:=.lst [.int x,.int y]) h2;have s3:=zg (o:=.lst [.int x,.int y,.int x]) h3;have s4:=zg (o:=.lst [.ref p1,.ref p2,.ref p3]) h4;have g1:=s4 _ _ (s3 _ _ (s2 _ _ nk));have g2:=s4 _ _ (s3 _ _ nk);have g3:=s4 _ _ nk;have g4:upd (upd (upd (upd H p1 (.lst [.int x])) p2 (.lst [.int x,.int y])) p3 (.lst [.int x,.int y,.int x])) p4 (.lst [.ref p1,.ref p2,.ref p3]) p4=some (.lst [.ref p1,.ref p2,.ref p3]):=nk;have sA:=((s1.trans s2).trans s3).trans s4;generalize upd (upd (upd (upd H p1 (.lst [.int x])) p2 (.lst [.int x,.int y])) p3 (.lst [.int x,.int y,.int x])) p4 (.lst [.ref p1,.ref p2,.ref p3])=H4 at sA g1 g2 g3 g4 ⊢;clear s1 s2 s3 s4 h1 h2 h3 h4;refine uc (qB T).mono (uc (xX T).mono (spCell.i l ns 1 rfl (vz sA hl) (iE3 _ 10037 3 (iA4 rfl (by decide) (by decide) (λ r r0 r3=>?_)))));have kk:Qm [x,y,x]:=λ z hz=>by
  simp only [ax,bj,bQ] at hz;rcases hz with rfl|rfl|rfl
  ·exact ⟨x0,x1⟩
  ·exact ⟨y0,y1⟩
  ·exact ⟨x0,x1⟩
 rcases (by omega:r=0\/r=1\/r=2) with rfl|rfl|rfl
 ·exact zq (SqL.of g4) at0 (k p1 [x] H4 sA g1 (by simp) (by simp) λ z hz=>kk z (by simp at hz;simp [hz]))
 ·exact zq (SqL.of g4) (show atI _ 1=some (.ref p2) from rfl) (k p2 [x,y] H4 sA g2 (by simp) (by simp) λ z hz=>kk z (by simp at hz;rcases hz with rfl|rfl <;> simp))
 ·exact zq (SqL.of g4) (show atI _ 2=some (.ref p3) from rfl) (k p3 [x,y,x] H4 sA g3 (by simp) (by simp) kk)
def zf1 (a:Ad):Sp:=λ vs H Q _=>∃ (n y kk o1 o2:Int) (O:Addr),vs=[.int n,.int y,.ref O,.int kk]/\H O=some (.lst (iv [o1,o2]))/\0<=kk/\kk < jW/\∀ z H' r,Same H H'->r.ins=[y]->r.outs=[o1,o2]->r.ok->KnP a H' (New H) (.ref z) r->Q (.ref z) H'
def zee (T:Txt K mg a):Cal P w K mg base "_law_split" 4 ["_law_number","_law_into","_law_outs","_law_kind"] [] (zf1 a):=T.ma.cal λ F=>by
 refine F.okx zbE ?_ ?_
 ·walk_at "i"
 walk_at "j";refine oE6 h λ n y kk o1 o2 O m5=>oA5 m5 λ m7 hO k0 k1 k=>?_;clear m5 h;subst m7;walk_at "T";refine ⟨_,(zi (zp 4 zbE.nd (zw ⟨rfl,rfl,rfl⟩ hr (za (pq 0) (za zf (za zf zc)))))  (zi (zL (zx (vJ hr.units1) (pq 4) zf (zy _))  (ze (zl (qV (x:="Parter") ⟨rfl,rfl,rfl⟩ hr (za (pq 1) (za (pq 2) zc)))))  zt)  (zi (zL (zx (vJ hr.units1) (pq 4) zf (zy _))  (ze (zl (qV (x:="FirstParter") ⟨rfl,rfl,rfl⟩ hr (za (pq 1) (za (pq 2) zc)))))  zt)  (ze (zl (qV (x:="Sieve") ⟨rfl,rfl,rfl⟩ hr (za (pq 1) (za (pq 2) (za (pq 3) zc))))))))),?_⟩;walk_at "a";refine uc (qB T).mono (iE3 n 10039 3 (iA4 rfl (by decide) (by decide) (λ pk _ _=>?_)));walk_at "a";refine zZ (λ _=>?_) (λ _=>?_)
 ·walk_at "a";refine iE4 a.l _ _ _ ⟨(Qb T).mono,?_⟩;intro z dz hz hdz hne;exact QK hz hdz hO (by simp) (by simp) λ H1 s1 q1=>⟨rfl,k _ _ ⟨.parter,[y],[o1,o2],0,[]⟩ s1 rfl rfl ⟨⟨_,rfl⟩,by simp,by simp⟩ q1⟩
 walk_at "a";refine zZ (λ _=>?_) (λ _=>?_)
 ·walk_at "a";refine iE4 a.m _ _ _ ⟨(Zt T).mono,?_⟩;intro z dz hz hdz hne;exact ze9 hz hdz hO (by simp) (by simp) λ H1 s1 q1=>⟨rfl,k _ _ ⟨.first,[y],[o1,o2],0,[]⟩ s1 rfl rfl ⟨⟨_,rfl⟩,by simp,by simp⟩ q1⟩
 walk_at "a";refine iE4 a.n _ _ _ ⟨(zcK T).mono,?_⟩;intro z dz hz hdz hne;exact ze8 hz hdz hO rfl k0 k1 λ H1 s1 q1=>⟨rfl,k _ _ ⟨.sieve,[y],[o1,o2],0,[kk]⟩ s1 rfl rfl (iA3 ⟨_,rfl⟩ rfl ⟨kk,iA3 rfl k0 k1⟩) q1⟩
def zfp {A C X Y:Prop} [Decidable A] [Decidable C] (x:A->C->X) (y:Y):if A then (if C then X else Y) else Y:=by
 split
 ·split
  ·rename_i a c;exact x a c
  ·exact y
 ·exact y
def zgB {A W Z:Prop} [Decidable A] (z:Z) (w:A->Z->W):if A then W else Z:=by
 by_cases h:A
 ·rw [ap h];exact w h z
 ·rw [ao h];exact z
noncomputable abbrev stG (L R E:Addr) (v3:V) (c kk:Int) (v6 v7 v8 v9:Aq):St:=[some (.ref L),some (.ref R),some (.ref E),some v3,some (.int c),some (.int kk),v6,v7,v8,v9]
def zf5 (a:Ad):Sp:=λ vs H Q _=>∃ (L R E:Addr) (bs:A1) (rs:At) (es:A6) (lp:A9) (c kk:Int),vs=[.ref L,.ref R,.ref E,oiV lp,.int c,.int kk]/\GS a H H L R E bs rs es/\WInv bs rs es lp.toList/\0<=kk/\kk < jW/\bs.length<=20/\rs.length<=20/\es.length<=20/\1<=es.length /\
 ∀ H' bs' rs' es' lp',GS a H H' L R E bs' rs' es'->WInv bs' rs' es' lp'.toList->1<=es'.length->bs.length + 1<=bs'.length->bs'.length<=bs.length + 2->rs'.length=rs.length + 1->Q (oiV lp') H'
def zeg (T:Txt K mg a):Cal P w K mg base "_law_grown" 5 ["_law_belts","_law_knots","_law_loose","_law_loop","_law_number","_law_kind"] [] (zf5 a):=T.me.cal λ F=>by
 refine F.okx zbG ?_ ?_
 ·walk_at "i"
 walk_at "j";refine oE5 h λ L R E bs rs m5=>oE4 m5 λ es lp c kk m7=>oA6 m7 λ n6 W I k0 k1 nh=>oA5 nh λ lb lr le le1 k=>?_;clear m5 m7 nh h;subst n6;obtain ⟨bv,hL,rL⟩:=W.hL;have lL:bv.length=bs.length:=by rw [rL.len,af]
 walk_at "T";refine ⟨_,(zj (zp 6 zbG.nd (z7 qe qd (za (pq 0) zc)))  (zj (zF (qP ar az ay zU (pq 0) (za (zw ⟨rfl,rfl,rfl⟩ hr (za (pq 4) zc)) zc)))  (zj (zp 7 zbG.nd (zw ⟨rfl,rfl,rfl⟩ hr (za (pq 4) (za zf (za zf zc)))))  (zj (zL (zx (vJ hr.units1) (pq 7) zf (zy _))  (zj (zF (qP ar az ay zU (pq 1) (za (qV (x:="Source") ⟨rfl,rfl,rfl⟩ hr (za (pq 6) (za (zG qm zf (zw ⟨rfl,rfl,rfl⟩ hr (za (pq 4) (za zf (za zf zc))))) (za (zK (za (pq 5) (za (Vz (pq 4)) zc))) zc)))) zc)))  (zj (zF (qP ar az ay zU (pq 2) (za (pq 6) zc)))  (ze (zl (pq 3)))))  zt)  (zj (zp 8 zbG.nd (qP ar du dr Xk (pq 2) (za (zw ⟨rfl,rfl,rfl⟩ hr (za (pq 4) (za zf (za (z7 qe qd (za (pq 2) zc)) zc)))) zc)))  (zj (zL (PW.pt (pw_and (zx (vJ hr.units1) (pq 7) zf (zy _)) (pw_and1 (zx Zq (z7 qe qd (za (pq 2) zc)) zf (zy _)))))  (zj (zF (qP ar az ay zU (pq 1) (za (qV (x:="Joiner") ⟨rfl,rfl,rfl⟩ hr (za (zK (za (pq 8) (za (qP ar du dr Xk (pq 2) (za zf zc)) zc))) (za (pq 6) zc))) zc)))  (zj (zF (qP ar az ay zU (pq 2) (za (pq 6) zc)))  (ze (zl (pq 3)))))  zt)  (zj (zp 9 zbG.nd (zK (za (pq 6) (za (zG qm (pq 6) zf) zc))))  (qM (zL (PW.pt (pw_and (zx wl (pq 3) zE (zy _)) (pw_and1 (zx Zq (pq 7) zf (zy _)))))  (zj (zp 9 zbG.nd (zK (za (pq 3) (za (pq 6) zc))))  (ze (zp 3 zbG.nd zE)))  (zj (zF (qP ar az ay zU (pq 0) (za (zw ⟨rfl,rfl,rfl⟩ hr (za (Xc (pq 4)) zc)) zc)))  (ze (zF (qP ar az ay zU (pq 2) (za (zG qm (pq 6) zf) zc))))))  (zj (zF (qP ar az ay zU (pq 2) (za (pq 6) zc)))  (qM (zL (zx (vJ hr.units1) (zw ⟨rfl,rfl,rfl⟩ hr (za (pq 4) (za zf (za zf zc)))) zf (zy _))  (ze (zp 9 zbG.nd (zK (za (zn (pq 9) zf) (za (zn (pq 9) zf) zc)))))  zt)  (zj (zF (qP ar az ay zU (pq 1) (za (zw ⟨rfl,rfl,rfl⟩ hr (za (pq 4) (za (pq 8) (za (pq 9) (za (pq 5) zc))))) zc)))  (ze (zl (pq 3)))))))))))))),?_⟩;walk_at "a";refine ⟨_,.inl ⟨_,SqL.of hL,rfl⟩,?_⟩;rw [lL];walk_at "a";refine ⟨.inl ⟨rfl,_,SqL.of hL⟩,iE3 _ _ _ ⟨(xY T).mono,⟨c,rfl,λ zb H1 b s1 ob q1=>?_⟩⟩⟩;obtain ⟨W1,_⟩:=W.addL hL s1 q1;have I1:=I.belt ob;refine iE3 L _ _ (iA5 rfl rfl (s1 _ _ hL) (zm (by omega)) ?_);generalize upd H1 L _=H2 at W1 ⊢;have lb1:(bs ++ [b]).length=bs.length + 1:=by simp
 clear W I hL rL q1 s1;walk_at "a";refine uc (qB T).mono (iE3 c 10061 7 (iA4 rfl (by decide) (by decide) (λ pk p0 p7=>?_)));obtain ⟨rv,hR,rR⟩:=W1.hR;have lR:rv.length=rs.length:=by rw [rR.len,af]
 walk_at "a";refine zZ (λ _=>?_) (λ _=>?_)
 ·walk_at "a";refine ⟨.inl ⟨rfl,_,SqL.of hR⟩,?_⟩;refine iE4 a.j _ _ _ ⟨(Xu T).mono,iE3 _ _ _ ⟨(qB T).mono,⟨c,10069,4,rfl,by decide,by decide,λ r r0 r4=>?_⟩⟩⟩;walk_at "a";intro p hp;have x0:=bJ c (show (1000000000000000000000000000000:Int)≠0 by decide);have x1:=bW c (show (0:Int) < 1000000000000000000000000000000 by decide);generalize c % 1000000000000000000000000000000=x at x0 x1 ⊢;have s3:=zg (o:=.lst [.int kk,.int x]) hp;have g3:upd H2 p (.lst [.int kk,.int x]) p=some (.lst (iv [kk,x])):=nk;generalize upd H2 p (.lst [.int kk,.int x])=H3 at s3 g3 ⊢;have kd:Qm [kk,x]:=λ z hz=>by
   simp only [ax,bj,bQ] at hz;rcases hz with rfl|rfl
   ·exact ⟨k0,k1⟩
   ·exact ⟨x0,x1⟩
  intro z dz hz hdz _;refine Wu hz hdz g3 (by omega) (by omega) (by simp) (by simp) kd λ H4 s4 q4=>⟨rfl,?_⟩;obtain ⟨W4,_⟩:=(W1.same s3).addR (s3 _ _ hR) s4 q4;refine iE3 R _ _ (iA5 rfl rfl (s4 _ _ (s3 _ _ hR)) (zm (by omega)) ?_);generalize upd H4 R _=H5 at W4 ⊢;walk_at "a";refine ⟨.inl ⟨rfl,_,SqL.of W4.hE⟩,iE3 E _ _ (iA5 rfl rfl W4.hE (zm (by rw [zP];omega)) ?_)⟩;rw [jw];have W5:=W4.setE (es ++ [(bs.length:Int)]);generalize upd H5 E _=H6 at W5 ⊢;walk_at "a";refine k _ _ _ _ lp W5 (I1.knot (r:=⟨.source,[],[(bs.length:Int)],1 + r,[kk,x]⟩) (aZ _) eE (iA7 rfl ⟨_,rfl⟩ (show (1:Int)<=1 + r by omega) (show 1 + r<=4 by omega) (by simp) (by simp) kd)) (by simp) (by omega) (by omega) (by simp)
 walk_at "a";refine ⟨.inl ⟨rfl,_,SqL.of W1.hE⟩,iE3 _ _ _ (iA3 ((qB T).mono) gJ ⟨_,⟨.inl ⟨_,SqL.of W1.hE,rfl⟩,⟨c,10067,_,rfl,by decide,by rw [zP];omega,λ jj v0 v1=>?_⟩⟩⟩)⟩;rw [zP] at v1;obtain ⟨y,hy⟩:∃ y,es[jj.toNat]?=some y:=⟨es[jj.toNat]'(by omega),ad _⟩;refine iE5 E (iv es) jj jj.toNat (.int y) (iA8 rfl rfl W1.hE (by omega) (by omega) (J3 v0 (by rw [zP];exact v1)) (jr hy) ?_);rw [zfo];have W2:=W1.setE (es.eraseIdx jj.toNat);have pp:=zaH hy;have pl:=pp.length_eq;rw [bF] at pl;have I2:=I1.perm (pp.append_right [(bs.length:Int)]) (aZ _);generalize upd H2 E (.lst (iv (es.eraseIdx jj.toNat)))=H3 at W2 ⊢;generalize es.eraseIdx jj.toNat=es1 at pp pl W2 I2 ⊢;clear W1 I1 pp hR rR lR hy v0 v1;obtain ⟨rv,hR,rR⟩:=W2.hR;have lR:rv.length=rs.length:=by rw [rR.len,af]
 walk_at "a";refine zgB ?_ (λ _ z=>⟨gJ,⟨_,⟨.inl ⟨_,SqL.of W2.hE,rfl⟩,zZ (λ w1=>?_) (λ _=>z)⟩⟩⟩)
 rotate_left
 ·rw [zP] at w1;obtain ⟨x,es2,rfl⟩:∃ x es2,es1=x :: es2:=by cases es1 with|nil=>simp at w1|cons x es2=>exact ⟨x,es2,rfl⟩
  walk_at "a";refine ⟨.inl ⟨rfl,_,SqL.of hR⟩,iE4 a.o _ _ _ (iA3 ((Qc T).mono) (.inl ⟨rfl,_,SqL.of W2.hE⟩) (iE5 E (iv (x :: es2)) 0 0 (.int x) (iA8 rfl rfl W2.hE (by decide) (by decide) (J3 (by decide) (by simp [iv])) rfl ?_)))⟩;show ∀ p:Addr,upd H3 E (.lst (iv es2)) p=none->∀ z dz:Addr,upd (upd H3 E (.lst (iv es2))) p (.lst [.int y,.int x]) z=none->upd (upd H3 E (.lst (iv es2))) p (.lst [.int y,.int x]) dz=none->dz≠z->jD K a.o a.d [.ref z,.ref p,.int bs.length] (upd (upd (upd (upd H3 E (.lst (iv es2))) p (.lst [.int y,.int x])) dz (.own z)) z (.ins a.o dz [])) _ _
  have W3:=W2.setE es2;have hR3:upd H3 E (.lst (iv es2)) R=some (.lst rv):=by rw [nu W2.nRE];exact hR
  generalize upd H3 E (.lst (iv es2))=H4 at W3 hR3 ⊢;intro p hp;have s5:=zg (o:=.lst [.int y,.int x]) hp;have g5:upd H4 p (.lst [.int y,.int x]) p=some (.lst (iv [y,x])):=nk;generalize upd H4 p (.lst [.int y,.int x])=H5 at s5 g5 ⊢;intro z dz hz hdz _;refine QL hz hdz g5 (by simp) (by simp) λ H6 s6 q6=>⟨rfl,?_⟩;obtain ⟨W6,_⟩:=(W3.same s5).addR (s5 _ _ hR3) s6 q6;refine iE3 R _ _ (iA5 rfl rfl (s6 _ _ (s5 _ _ hR3)) (zm (by omega)) ?_);generalize upd H6 R _=H7 at W6 ⊢;walk_at "a";simp only [bF] at pl;refine ⟨.inl ⟨rfl,_,SqL.of W6.hE⟩,iE3 E _ _ (iA5 rfl rfl W6.hE (zm (by rw [zP];omega)) ?_)⟩;rw [jw];have W7:=W6.setE (es2 ++ [(bs.length:Int)]);generalize upd H7 E _=H8 at W7 ⊢;walk_at "a";exact k _ _ _ _ lp W7 (I2.knot (r:=⟨.joiner,[y,x],[(bs.length:Int)],0,[]⟩) (aZ _) eE ⟨⟨_,rfl⟩,by simp,by simp⟩) (by simp) (by omega) (by omega) (by simp)
 walk_at "a";intro O hO;have W3:=W2.same (zg (o:=.lst [V.int bs.length,.int (bs.length + 1)]) hO);have nO:=W2.off hO;have gO:upd H3 O (.lst [V.int bs.length,.int (bs.length + 1)]) O=some (.lst (iv [(bs.length:Int),bs.length + 1])):=nk;generalize upd H3 O (.lst [V.int bs.length,.int (bs.length + 1)])=H4 at W3 gO ⊢;clear W2 hR rR;walk_at "a";refine cut (λ σ' H'=>∃ (lp':A9) (bs':A1) (es':A6) (o1 o2:Int) (O':Addr),σ'=stG L R E (oiV lp') c kk (some (.int bs.length)) (some (.int pk)) (some (.int y)) (some (.ref O'))/\GS a H H' L R E bs' rs es'/\O' ∉ ms3 L R E/\H' O'=some (.lst (iv [o1,o2]))/\WInv bs' rs ([y] ++ (es' ++ [(bs.length:Int)])) ([o1,o2] ++ lp'.toList)/\bs.length + 1<=bs'.length/\bs'.length<=bs.length + 2/\es'.length<=30) ?_ ?_
 ·walk_at "a";refine zfp (λ x1 _=>?_) ?_
  ·obtain ⟨x,rfl⟩:∃ x,lp=some x:=by cases lp with|none=>exact absurd rfl x1|some x=>exact ⟨x,rfl⟩
   walk_at "a";intro O2 hO2;walk_at "a";exact iE6 none _ es1 x _ O2 (iA8 rfl (W3.same (zg hO2)) (W3.off hO2) nk I2 (by omega) (by omega) (by omega))
  obtain ⟨bv,hL,rL⟩:=W3.hL;have lL:bv.length=(bs ++ [b]).length:=by rw [rL.len,af]
  walk_at "a";refine ⟨.inl ⟨rfl,_,SqL.of hL⟩,iE3 _ _ _ ⟨(xY T).mono,⟨_,rfl,λ zb2 H5 b2 s5 ob2 q5=>?_⟩⟩⟩;obtain ⟨W5,_⟩:=W3.addL hL s5 q5;have I5:=I2.belt ob2;refine iE3 L _ _ (iA5 rfl rfl (s5 _ _ hL) (zm (by omega)) ?_);have g5:=s5 _ _ gO;have nOL:O≠L:=λ z=>nO (by simp [z]);have nOE:O≠E:=λ z=>nO (by simp [z]);have g5:upd H5 L (.lst (bv ++ [.ref zb2])) O=some (.lst (iv [(bs.length:Int),bs.length + 1])):=by rw [nu nOL];exact g5
  generalize upd H5 L _=H6 at W5 g5 ⊢;walk_at "a";refine ⟨.inl ⟨rfl,_,SqL.of W5.hE⟩,iE3 E _ _ (iA5 rfl rfl W5.hE (zm (by rw [zP];omega)) ?_)⟩;rw [jw];have W6:=W5.setE (es1 ++ [(bs.length:Int) + 1]);refine iE6 lp _ _ _ _ O (iA8 rfl W6 nO (by rw [nu nOE];exact g5) ?_ (by simp) (by simp) (by simp;omega));refine I5.perm ?_ ?_
  ·rw [lb1];show (y :: (es1 ++ [((bs.length:Int) + 1)] ++ [(bs.length:Int)])).Perm (y :: es1 ++ [(bs.length:Int)] ++ [((bs.length + 1:Nat):Int)])
   rw [show ((bs.length + 1:Nat):Int)=(bs.length:Int) + 1 from rfl,eP,eP,ck,ck];exact List.Perm.cons _ (b5 _ (List.Perm.swap ..))
  ·rw [lb1,ck];exact eE (l₁:=[(bs.length:Int),(bs.length:Int) + 1]) (l₂:=lp.toList)
 clear W3 I2 gO nO;intro σ' H5 m8;refine oE6 m8 λ lp' bs' es' o1 o2 O' m5=>oA8 m5 λ m7 W5 nO gO I5 b1 b2 le'=>?_;clear m5 m8;subst m7;walk_at "a";refine ⟨.inl ⟨rfl,_,SqL.of W5.hE⟩,iE3 E _ _ (iA5 rfl rfl W5.hE (zm (by rw [zP];omega)) ?_)⟩;rw [jw];have W6:=W5.setE (es' ++ [(bs.length:Int)]);have nOE:O'≠E:=λ z=>nO (by simp [z]);have gO:upd H5 E (.lst (iv (es' ++ [(bs.length:Int)]))) O'=some (.lst (iv [o1,o2])):=by rw [nu nOE];exact gO
 generalize upd H5 E _=H6 at W6 gO ⊢;walk_at "a";refine cut (λ σ' H'=>∃ (p1 p2:Int) (O2:Addr),σ'=stG L R E (oiV lp') c kk (some (.int bs.length)) (some (.int pk)) (some (.int y)) (some (.ref O2))/\Same H6 H'/\H' O2=some (.lst (iv [p1,p2]))/\[p1,p2].Perm [o1,o2]) ?_ ?_
 ·walk_at "a";refine uc (qB T).mono (iE3 c 10069 2 (iA4 rfl (by decide) (by decide) (λ r _ _=>?_)));walk_at "a";refine zZ (λ _=>?_) (λ _=>(iE3 o1 o2 O' (iA4 rfl (Same.refl _) gO (aZ _))));walk_at "a";refine zq (SqL.of gO) (show atI _ 1=some (.int o2) from rfl) (zq (SqL.of gO) at0 λ O2 hO2=>?_);exact iE3 o2 o1 O2 (iA4 rfl (zg hO2) nk (List.Perm.swap ..))
 intro σ' H7 m8;refine oE3 m8 λ p1 p2 O2 m5=>oA4 m5 λ m7 s7 g7 pm=>?_;clear m5 m8;subst m7;have W7:=W6.same s7;obtain ⟨rv,hR,rR⟩:=W7.hR;walk_at "a";refine ⟨.inl ⟨rfl,_,SqL.of hR⟩,iE3 _ _ _ ⟨(zee T).mono,⟨c,y,kk,p1,p2,O2,rfl,g7,k0,k1,λ z H8 r s8 r1 r2 r3 q8=>?_⟩⟩⟩;obtain ⟨W8,lR⟩:=W7.addR hR s8 q8;refine iE3 R _ _ (iA5 rfl rfl (s8 _ _ hR) (zm (by omega)) ?_);generalize upd H8 R _=H9 at W8 ⊢;walk_at "a";exact k _ _ _ _ lp' W8 (I5.knot (r:=r) (by rw [r1]) (by rw [r2];exact pm.append_right _) r3) (by simp) (by omega) (by omega) (by simp)
noncomputable abbrev stK (l:Addr) (tp c:Int) (kl:Addr) (v4 v5 v6 v7 v8 v9 v10 v11:Aq):St:=[some (.ref l),some (.int tp),some (.int c),some (.ref kl),v4,v5,v6,v7,v8,v9,v10,v11]
inductive spWorkOf (K:A0) (a:Ad) (vs:Ap) (H:Hp) (Q:VK) (E:XK):Prop
 | i (l:Addr) (ns:A6):vs=[.ref l,.int 8]->SqL K H l (iv ns)->(∀ vw H' bs rs,Same H H'->Rep H' (Off []) vw (qq a bs rs)->zJ bs rs->(∀ b∈bs,zz b.1 b.2)->(∀ r∈rs,r.ok)->Q vw H')->spWorkOf K a vs H Q E
def WInv.el {rs:At} {es ks:A6} (h:WInv bs rs es ks):es.length<=bs.length:=by
 have:=h.tk.length_eq;rw [aO,Jv] at this;omega
def WInv.em {rs:At} {es ks:A6} (h:WInv bs rs es ks) {x:Int} (hx:x∈es):0<=x/\x < bs.length:=by
 obtain ⟨i,hi,rfl⟩:=aV.mp (h.tk.mem_iff.mp (aT _ hx));have:=bu.mp hi;exact ⟨bV _,by show (i:Int) < _;omega⟩
def zgJ (ns:A6):∃ cs:List Int,XB (iv ns) (some 1) none=iv cs:=by
 unfold XB;rw [show (some (1:Int))=some ((1:Nat):Int) from rfl,HT.sIx_nat,HT.sIx_none,zP];exact ⟨(ns.drop (min 1 ns.length)).take (ns.length - min 1 ns.length),by simp [iv]⟩
def winv0:WInv [] [] [] []:=⟨aZ _,aZ _,(λ _ z=>nomatch z),(λ _ z=>nomatch z)⟩
theorem zfM (T:Txt K mg a):Cal P w K mg base "_law_work" 7 ["_law_cells","_law_top"] [] (spWorkOf K a):=T.mz.cal λ F=>by
 refine F.okx zdw ?_ ?_
 ·walk_at "i"
 walk_at "j";rcases h with ⟨l,ns,rfl,hl,k⟩;walk_at "T";refine ⟨_,(zj (zp 2 zdw.nd (zw ⟨rfl,rfl,rfl⟩ hr (za (pq 0) (za zf zc))))  (zj (zp 3 zdw.nd (zw ⟨rfl,rfl,rfl⟩ hr (za (pq 0) zc)))  (zj (zp 4 zdw.nd (zK (za (zw ⟨rfl,rfl,rfl⟩ hr (za (pq 2) zc)) zc)))  (zj (zp 5 zdw.nd zf)  (zj (zp 6 zdw.nd (zK (za zf zc)))  (zj (zp 7 zdw.nd zE)  (qM (zL (zx Zq (zw ⟨rfl,rfl,rfl⟩ hr (za (pq 2) (za zf (za zf zc)))) zf (zy _))  (zj (zp 5 zdw.nd (zw ⟨rfl,rfl,rfl⟩ hr (za (pq 2) (za zf (za zf zc)))))  (zj (zp 4 zdw.nd (zG qm (pq 4) (zK (za (zw ⟨rfl,rfl,rfl⟩ hr (za (Xc (pq 2)) zc)) (za (zw ⟨rfl,rfl,rfl⟩ hr (za (Xc (pq 2)) zc)) zc)))))  (zj (zp 6 zdw.nd (zK (za zf zc)))  (ze (zp 7 zdw.nd (zG xl zf (pq 5)))))))  zt)  (zj (zp 8 zdw.nd (zK (za (qV (x:="Source") ⟨rfl,rfl,rfl⟩ hr (za (pq 5) (za (zG qm zf (zw ⟨rfl,rfl,rfl⟩ hr (za (pq 2) (za zf (za zf zc))))) (za (pq 3) zc)))) zc)))  (qM (zL (zx wl (pq 7) zE (zy _))  (ze (zF (qP ar az ay zU (pq 8) (za (qV (x:="Joiner") ⟨rfl,rfl,rfl⟩ hr (za (zK (za (pq 5) (za (pq 7) zc))) (za zf zc))) zc))))  zt)  (qM (qt qI rfl (ql (Xb zbx (pq 0) (Vs zf) Vt)) (qp 9 zdw.nd)  (zj (zL (zx Zq (zG qm (z7 qe qd (za (pq 4) zc)) zf) (pq 1) (zy _))  (ze zeQ)  zt)  (ze (zp 7 zdw.nd (zw ⟨rfl,rfl,rfl⟩ hr (za (pq 4) (za (pq 8) (za (pq 6) (za (pq 7) (za (pq 9) (za (zn (pq 3) zf) zc)))))))))))  (qM (zL (zx wl (pq 7) zE (zy _))  (zj (zF (qP ar az ay zU (pq 8) (za (qV (x:="Parter") ⟨rfl,rfl,rfl⟩ hr (za (qP ar du dr Xk (pq 6) (za zf zc)) (za (zK (za (pq 7) (za (z7 qe qd (za (pq 4) zc)) zc))) zc))) zc)))  (zj (zF (qP ar az ay zU (pq 6) (za (z7 qe qd (za (pq 4) zc)) zc)))  (ze (zF (qP ar az ay zU (pq 4) (za (zw ⟨rfl,rfl,rfl⟩ hr (za (Xc (pq 2)) zc)) zc))))))  zt)  (qM (qt qI rfl (ql (pq 6)) (qp 10 zdw.nd)  (ze (zF (qP ar az ay zU (pq 8) (za (qV (x:="Drain") ⟨rfl,rfl,rfl⟩ hr (za (pq 10) (za (zn (zK (za zf (za zf (za zf (za zf (za zf (za zf zc))))))) (zw ⟨rfl,rfl,rfl⟩ hr (za (zG qm (pq 2) (zG vK (zG vK (pq 10) (pq 10)) zf)) (za zf (za zf zc))))) zc))) zc)))))  (zj (zp 11 zdw.nd (zw ⟨rfl,rfl,rfl⟩ hr (za (pq 2) (za zf (za (z7 qe qd (za (pq 8) zc)) zc)))))  (ze (zl (qV (x:="Work") ⟨rfl,rfl,rfl⟩ hr (za (pq 4) (za (zG qm (Xb zbx (pq 8) (Vs (pq 11)) Vt) (Xb zbx (pq 8) Vt (Vs (pq 11)))) zc)))))))))))))))))),?_⟩;walk_at "a";refine uc (xX T).mono (spCell.i l ns 0 rfl hl ?_);generalize wM ns 0=c;walk_at "a";refine uc (zef T).mono (iE2 l ns (iA3 rfl hl (λ kl ks H1 s1 g1 k1 k3 kk=>?_)));have hl1:=vz s1 hl;clear hl;walk_at "a";refine uc (xY T).mono ⟨c,rfl,λ z0 H2 b0 s2 o0 q0=>?_⟩;intro L hL;have s3:=zg (o:=.lst [.ref z0]) hL;have gL:upd H2 L (.lst [.ref z0]) L=some (.lst [.ref z0]):=nk;have r2:Reps H2 (Off []) [.ref z0] ([b0].map (wt a)):=.one (q0.keep λ b o _ ho=>⟨(λ z=>nomatch z),ho⟩);have w0:WInv [b0] [] [0] [0]:=winv0.belt o0;generalize upd H2 L (.lst [.ref z0])=H3 at s3 gL ⊢;walk_at "a";walk_at "a";intro E hE;have s4:=zg (o:=.lst [.int 0]) hE;have gE:upd H3 E (.lst [.int 0]) E=some (.lst (iv [0])):=nk;have gL4:=s4 _ _ gL;have s24:=s3.trans s4;have hE2:=zA s3 hE;have nLE:L≠E:=λ z=>by rw [<- z,gL] at hE;cases hE
 generalize upd H3 E (.lst [.int 0])=H4 at gE gL4 s24 ⊢;clear s4 s3;walk_at "a";walk_at "a";refine cut (λ σ' H'=>∃ (L E:Addr) (Hx:Hp) (bvs:Ap) (bs:A1) (es:A6) (fi:Int) (lp:A9),σ'=stK l 8 c kl (some (.ref L)) (some (.int fi)) (some (.ref E)) (some (oiV lp)) none none none none/\Same H1 Hx/\Reps Hx (Off []) bvs (bs.map (wt a))/\Same Hx H'/\Hx L=none/\Hx E=none/\L≠E/\H' L=some (.lst bvs)/\H' E=some (.lst (iv es)) /\
  ((bs.length=1/\WInv bs [] [0] [0]/\fi=0/\lp=none/\es=[0])\/(bs.length=3/\WInv bs [] [0,1,2] [0,1,2]/\(fi=0\/fi=1)/\lp=some (1 - fi)/\es=[2]))) ?_ ?_
 ·walk_at "a";refine uc (qB T).mono (iE3 c 10091 3 (iA4 rfl (by decide) (by decide) (λ r _ _=>?_)));walk_at "a";refine zZ (λ _=>?_) (λ _=>(iE8 L E H2 _ ([b0]) ([0]) 0 none (iA6 rfl s2 r2 s24 hL (iA5 hE2 nLE gL4 gE (.inl (iA5 rfl w0 rfl rfl rfl))))));walk_at "a";refine uc (qB T).mono (iE3 c 10133 2 (iA4 rfl (by decide) (by decide) (λ fi f0 f1=>?_)));walk_at "a";refine uc (xY T).mono ⟨_,rfl,λ z1 H5 b1 s5 o1 q1=>(uc (xY T).mono ⟨_,rfl,λ z2 H6 b2 s6 o2 q2=>λ p hp=>?_⟩)⟩;have s7:=zg (o:=.lst [.ref z1,.ref z2]) hp;have gp:upd H6 p (.lst [.ref z1,.ref z2]) p=some (.lst [.ref z1,.ref z2]):=nk;generalize upd H6 p (.lst [.ref z1,.ref z2])=H7 at s7 gp ⊢;have s57:=s6.trans s7;have s47:=s5.trans s57;have r7:Reps H7 (Off []) [.ref z0,.ref z1,.ref z2] ([b0,b1,b2].map (wt a)):=(r2.same (s24.trans s47)).append (.cons (q1.keep λ b o _ ho=>⟨(λ z=>nomatch z),s57 _ _ ho⟩) (.one (q2.keep λ b o _ ho=>⟨(λ z=>nomatch z),s7 _ _ ho⟩)));refine Vo (SqL.of (s47 _ _ gL4)) (SqL.of gp) (Zb (by simp)) λ Lw hL2=>?_;rw [show [V.ref z0] ++ [V.ref z1,.ref z2]=[.ref z0,.ref z1,.ref z2] from rfl];have s8:=zg (o:=.lst [.ref z0,.ref z1,.ref z2]) hL2;have g8:upd H7 Lw (.lst [.ref z0,.ref z1,.ref z2]) Lw=some (.lst [.ref z0,.ref z1,.ref z2]):=nk;generalize upd H7 Lw (.lst [.ref z0,.ref z1,.ref z2])=H8 at s8 g8 ⊢;walk_at "a";intro E2 hE2;have s9:=zg (o:=.lst [.int 2]) hE2;walk_at "a";exact iE8 Lw E2 H7 _ ([b0,b1,b2]) ([2]) fi (some (1 - fi)) (iA6 rfl ((s2.trans s24).trans s47) r7 (s8.trans s9) hL2 (iA5 (zA s8 hE2) (λ z=>by rw [<- z,g8] at hE2;cases hE2) (s9 _ _ g8) nk (.inr (iA5 rfl ((w0.belt o1).belt o2) (by omega) rfl rfl))))
 clear r2 s24 hL hE2 nLE gL4 gE w0 s2 gL q0 o0 hE;intro σ' H5 m8;refine oE8 m8 λ L E Hx bvs bs es fi lp m5=>oA6 m5 λ m7 s1x rx sx xL n6=>oA5 n6 λ xE nLE gL gE st=>?_;clear m5 n6 m8;subst m7;walk_at "a";refine iE4 a.j _ _ _ ⟨(Xu T).mono,iE3 _ _ _ ⟨(qB T).mono,⟨c,10079,2,rfl,by decide,by decide,λ r r0 r2=>?_⟩⟩⟩;walk_at "a";intro z dz hz hdz _;refine Wu hz hdz (sx _ _ (s1x _ _ g1)) (by omega) (by omega) k1 (by omega) kk λ H6 s6 q6=>⟨rfl,λ R hR=>?_⟩;have s7:=zg (o:=.lst [.ref z]) hR;have xR:Hx R=none:=zA (sx.trans s6) hR;have sx7:=(sx.trans s6).trans s7;have W:GS a (upd H6 R (.lst [.ref z])) (upd H6 R (.lst [.ref z])) L R E bs [⟨.source,[],[fi],1 + r,ks⟩] es:=by
  have n1:R≠L:=λ e=>by rw [e,s6 _ _ gL] at hR;cases hR
  have n2:R≠E:=λ e=>by rw [e,s6 _ _ gE] at hR;cases hR
  refine ⟨Fr.refl,n1.symm,nLE,n2,⟨bvs,s7 _ _ (s6 _ _ gL),?_⟩,⟨_,nk,.one (q6.keep λ b o hb ho=>⟨λ e=>?_,s7 _ _ ho⟩)⟩,s7 _ _ (s6 _ _ gE)⟩
  ·refine (rx.more (ns:=ms3 L R E) λ b hb=>.inr ?_).same sx7;simp only [ax,bj,bQ] at hb;rcases hb with rfl|rfl|rfl
   ·exact xL
   ·exact xR
   ·exact xE
  ·have hb:H5 b=none:=hb;simp only [ax,bj,bQ] at e;rcases e with rfl|rfl|rfl
   ·rw [gL] at hb;cases hb
   ·rw [hR] at ho;cases ho
   ·rw [gE] at hb;cases hb
 have n1:∀ b∈ms3 L R E,H1 b=none:=λ b hb=>by
  simp only [ax,bj,bQ] at hb;rcases hb with rfl|rfl|rfl
  ·exact zA s1x xL
  ·exact zA s1x xR
  ·exact zA s1x xE
 have s17:=s1x.trans sx7;generalize upd H6 R (.lst [.ref z])=H7 at W s17 ⊢;clear rx sx xL xE nLE gL gE q6 s6 s7 xR sx7 hR hz hdz;walk_at "a";let n9:St->Hp->Prop:=λ σ' H'=>∃ rs,σ'=stK l 8 c kl (some (.ref L)) (some (.int fi)) (some (.ref E)) (some (oiV lp)) (some (.ref R)) none none none/\GS a H7 H' L R E bs rs es/\WInv bs rs es lp.toList/\rs.length<=bs.length/\bs.length<=3/\es.length=1;refine cut n9 ?_ ?_
 ·have ok:Row.ok ⟨.source,[],[fi],1 + r,ks⟩:=⟨rfl,⟨_,rfl⟩,show (1:Int)<=1 + r by omega,show 1 + r<=4 by omega,k1,show ks.length<=6 by omega,kk⟩;rcases st with ⟨l1,I,rfl,rfl,rfl⟩|⟨l3,I,hf,rfl,rfl⟩
  ·walk_at "a";exact ⟨_,iA6 rfl W (I.knot (r:=⟨.source,[],[0],1 + r,ks⟩) (aZ _) (aZ _) ok) (by simp [l1]) (by omega) rfl⟩
  ·walk_at "a";refine zZ (λ _=>?_) (λ z=>absurd (λ q=>nomatch q) z);obtain ⟨rv,hR,rR⟩:=W.hR;have lR:rv.length=1:=by rw [rR.len];rfl
   refine ⟨.inl ⟨rfl,_,SqL.of hR⟩,iE4 a.o _ _ _ ⟨(Qc T).mono,λ p hp=>?_⟩⟩;have s8:=zg (o:=.lst [.int fi,.int (1 - fi)]) hp;have g8:upd H7 p (.lst [.int fi,.int (1 - fi)]) p=some (.lst (iv [fi,1 - fi])):=nk;show ∀ z dz:Addr,upd H7 p (.lst [.int fi,.int (1 - fi)]) z=none->upd H7 p (.lst [.int fi,.int (1 - fi)]) dz=none->dz≠z->jD K a.o a.d [.ref z,.ref p,.int 2] (upd (upd (upd H7 p (.lst [.int fi,.int (1 - fi)])) dz (.own z)) z (.ins a.o dz [])) _ _
   generalize upd H7 p (.lst [.int fi,.int (1 - fi)])=H8 at s8 g8 ⊢;intro z dz hz hdz _;refine QL hz hdz g8 (by simp) (by simp) λ H9 s9 q9=>⟨rfl,?_⟩;obtain ⟨W9,_⟩:=(W.same s8).addR (s8 _ _ hR) s9 q9;have pf:[fi,1 - fi,2].Perm [0,1,2]:=by rcases hf with rfl|rfl <;> decide
   have I2:WInv bs [⟨.source,[],[fi],1 + r,ks⟩] [0,1,2] [1 - fi,2]:=I.knot (r:=⟨.source,[],[fi],1 + r,ks⟩) (aZ _) pf ok;exact iE3 R _ _ (iA5 rfl rfl (s9 _ _ (s8 _ _ hR)) (zm (by omega)) ⟨_,iA6 rfl W9 (I2.knot (r:=⟨.joiner,[fi,1 - fi],[2],0,[]⟩) pf (List.Perm.swap ..) ⟨⟨_,rfl⟩,by simp,by simp⟩) (by simp [l3]) (by omega) rfl⟩)
 clear W st;intro σ' H8 m8;refine oE1 m8 λ rs m5=>oA6 m5 λ m7 W I lr lb le=>?_;clear m5 m8;subst m7;have s8:Same H1 H8:=(s17.fr.trans W.f).same n1;walk_at "a";let ni:St->Hp->Prop:=λ σ' H'=>∃ (v9:Aq) (lp:A9) (bs:A1) (rs:At) (es:A6),σ'=stK l 8 c kl (some (.ref L)) (some (.int fi)) (some (.ref E)) (some (oiV lp)) (some (.ref R)) v9 none none/\GS a H7 H' L R E bs rs es/\WInv bs rs es lp.toList/\rs.length<=bs.length/\bs.length<=7/\1<=es.length;refine cut ni ?_ ?_
 ·walk_at "d";walk_at "a";refine zbN (vz s8 hl1) λ p hp=>?_;obtain ⟨cs,ecs⟩:=zgJ ns;rw [ecs];have W1:=W.same (zg (o:=.lst (iv cs)) hp);have np:=W.off hp;have gp:upd H8 p (.lst (iv cs)) p=some (.lst (iv cs)):=nk;generalize upd H8 p (.lst (iv cs))=H9 at W1 gp ⊢;refine ⟨p,rfl,.inl ⟨⟨_,SqL.of gp⟩,?_⟩⟩;let nj:Nat->St->Hp->Prop:=λ i σ' H'=>∃ (v9:Aq) (lp:A9) (bs:A1) (rs:At) (es:A6),σ'=stK l 8 c kl (some (.ref L)) (some (.int fi)) (some (.ref E)) (some (oiV lp)) (some (.ref R)) v9 none none/\GS a H7 H' L R E bs rs es/\WInv bs rs es lp.toList/\rs.length<=bs.length/\bs.length<=7/\1<=es.length/\H' p=some (.lst (iv cs));refine qH (K:=K) (a:=p) (xs:=iv cs) nj (iE5 _ lp bs rs es (iA7 rfl W1 I lr (by omega) (by omega) gp)) (λ i σ H' _ h=>by obtain ⟨_,_,_,_,_,_,_,_,_,_,_,g⟩:=h;exact SqL.of g) ?_ ?_
  ·clear W1 gp W I lr lb le s8;intro i x σ' H10 hi m8;refine oE5 m8 λ v9 lp bs rs es m5=>oA7 m5 λ m7 W I lr lb le gp=>?_;clear m5 m8;subst m7;obtain ⟨y,hy,rfl⟩:=Q4 hi;obtain ⟨bv,hL,rL⟩:=W.hL;have lL:bv.length=bs.length:=by rw [rL.len,af]
   have el:=I.el;have s10:Same H1 H10:=(s17.fr.trans W.f).same n1;obtain ⟨k0,hk0⟩:∃ k0,ks[0]?=some k0:=⟨ks[0]'(by omega),ad _⟩;have hk:=kk k0 (ah hk0);walk_at "a";refine ⟨_,.inl ⟨_,SqL.of hL,rfl⟩,?_⟩;rw [lL];walk_at "a";refine zZ (λ _=>(iE5 _ lp bs rs es (iA6 rfl W I lr lb le))) (λ lt=>?_);walk_at "a";refine uc (zeg T).mono (zq (SqL.of (s10 _ _ g1)) (show atI (iv ks) ((0:Nat):Int)=some (.int k0) from zD (jr hk0)) ?_);refine iE5 L R E bs rs (iE4 es lp y k0 (iA6 rfl W.here I hk.1 hk.2 (iA5 (by omega) (by omega) (by omega) le (λ H11 bs2 rs2 es2 lp2 W2 I2 a1 a2 a3 a4=>?_))));exact iE5 _ lp2 bs2 rs2 es2 (iA7 rfl (W.trans W2) I2 (by omega) (by omega) a1 (W2.f _ _ np gp))
  ·intro σ' H10 m8;refine oE5 m8 λ v9 lp bs rs es m5=>oA7 m5 λ m7 W I lr lb le gp=>?_;clear m5 m8;subst m7;exact iE5 _ lp bs rs es (iA6 rfl W I lr lb le)
 clear W I lr lb le s8;intro σ' H8 m8;refine oE5 m8 λ v9 lp bs rs es m5=>oA6 m5 λ m7 W I lr lb le=>?_;clear m5 m8;subst m7;walk_at "a";let M4_:St->Hp->Prop:=λ σ' H'=>∃ (bs:A1) (rs:At) (es:A6),σ'=stK l 8 c kl (some (.ref L)) (some (.int fi)) (some (.ref E)) (some (oiV lp)) (some (.ref R)) v9 none none/\GS a H7 H' L R E bs rs es/\WInv bs rs es []/\rs.length<=8/\bs.length<=8/\1<=es.length;refine cut M4_ ?_ ?_
 ·walk_at "a";cases lp with
  | none=>exact zZ (λ z=>absurd rfl z) (λ _=>⟨bs,rs,es,rfl,W,I,by omega,by omega,le⟩)
  | some x =>
   refine zZ (λ _=>?_) (λ z=>absurd (λ q=>nomatch q) z);obtain ⟨y,es2,rfl⟩:∃ y es2,es=y :: es2:=by cases es with|nil=>simp at le|cons x es2=>exact ⟨x,es2,rfl⟩
   obtain ⟨rv,hR,rR⟩:=W.hR;have lR:rv.length=rs.length:=by rw [rR.len,af]
   have el:=I.el;rw [bF] at el;walk_at "a";refine ⟨.inl ⟨rfl,_,SqL.of hR⟩,iE4 a.l _ _ _ (iA3 ((Qb T).mono) (.inl ⟨rfl,_,SqL.of W.hE⟩) (iE5 E (iv (y :: es2)) 0 0 (.int y) (iA8 rfl rfl W.hE (by decide) (by decide) (J3 (by decide) (by simp [iv])) rfl ?_)))⟩;have W2:=W.setE es2;obtain ⟨bv,hL,rL⟩:=W2.hL;have lL:bv.length=bs.length:=by rw [rL.len,af]
   have hR2:upd H8 E (.lst (iv es2)) R=some (.lst rv):=by rw [nu W.nRE];exact hR
   refine ⟨gJ,⟨_,⟨.inl ⟨_,SqL.of hL,rfl⟩,?_⟩⟩⟩;rw [lL];show ∀ p:Addr,upd H8 E (.lst (iv es2)) p=none->∀ z dz:Addr,upd (upd H8 E (.lst (iv es2))) p (.lst [.int x,.int bs.length]) z=none->upd (upd H8 E (.lst (iv es2))) p (.lst [.int x,.int bs.length]) dz=none->dz≠z->qJ K a.l a.d [.ref z,.int y,.ref p] (upd (upd (upd (upd H8 E (.lst (iv es2))) p (.lst [.int x,.int bs.length])) dz (.own z)) z (.ins a.l dz [])) _ _
   generalize upd H8 E (.lst (iv es2))=H9 at W2 hR2 hL ⊢;intro p hp;have s3:=zg (o:=.lst [.int x,.int bs.length]) hp;have g3:upd H9 p (.lst [.int x,.int bs.length]) p=some (.lst (iv [x,bs.length])):=nk;generalize upd H9 p (.lst [.int x,.int bs.length])=H10 at s3 g3 ⊢;intro z dz hz hdz _;refine QK hz hdz g3 (by simp) (by simp) λ H11 s4 q4=>⟨rfl,?_⟩;obtain ⟨W4,_⟩:=(W2.same s3).addR (s3 _ _ hR2) s4 q4;refine iE3 R _ _ (iA5 rfl rfl (s4 _ _ (s3 _ _ hR2)) (zm (by omega)) ?_);generalize upd H11 R _=H12 at W4 ⊢;obtain ⟨bv,hL,rL⟩:=W4.hL;have lL:bv.length=bs.length:=by rw [rL.len,af]
   walk_at "a";refine iA3 (.inl ⟨rfl,_,SqL.of W4.hE⟩) gJ ⟨_,⟨.inl ⟨_,SqL.of hL,rfl⟩,iE3 E _ _ (iA5 rfl rfl W4.hE (zm (by rw [zP];omega)) ?_)⟩⟩;rw [lL,jw];have W5:=W4.setE (es2 ++ [(bs.length:Int)]);have hL5:upd H12 E (.lst (iv (es2 ++ [(bs.length:Int)]))) L=some (.lst bv):=by rw [nu W4.nLE];exact hL
   generalize upd H12 E _=H13 at W5 hL5 ⊢;walk_at "a";refine ⟨.inl ⟨rfl,_,SqL.of hL5⟩,iE3 _ _ _ ⟨(xY T).mono,⟨_,rfl,λ zb H14 b s6 ob q6=>?_⟩⟩⟩;obtain ⟨W6,_⟩:=W5.addL hL5 s6 q6;exact iE3 L _ _ (iA5 rfl rfl (s6 _ _ hL5) (zm (by omega)) (iE3 _ _ _ (iA6 rfl W6 ((I.belt ob).knot (r:=⟨.parter,[y],[x,bs.length],0,[]⟩) (aZ _) (aZ _) ⟨⟨_,rfl⟩,by simp,by simp⟩) (by simp;omega) (by simp;omega) (by simp))))
 clear W I lr lb le;intro σ' H8 m8;refine oE3 m8 λ bs rs es m5=>oA6 m5 λ m7 W I lr lb le=>?_;clear m5 m8;subst m7;have el:=I.el;have em:∀ x∈es,0<=x/\x < 8:=λ x hx=>by have:=I.em hx;omega
 walk_at "a";let M5_:St->Hp->Prop:=λ σ' H'=>∃ (v10:Aq) (rs:At),σ'=stK l 8 c kl (some (.ref L)) (some (.int fi)) (some (.ref E)) (some (oiV lp)) (some (.ref R)) v9 v10 none/\GS a H7 H' L R E bs rs es/\WInv bs rs [] []/\rs.length<=16/\1<=rs.length;refine cut M5_ ?_ ?_
 ·walk_at "d";walk_at "a";refine ⟨E,rfl,.inl ⟨⟨_,SqL.of W.hE⟩,?_⟩⟩;let M6_:Nat->St->Hp->Prop:=λ i σ' H'=>∃ (v10:Aq) (rs':At),σ'=stK l 8 c kl (some (.ref L)) (some (.int fi)) (some (.ref E)) (some (oiV lp)) (some (.ref R)) v9 v10 none/\GS a H7 H' L R E bs rs' es/\WInv bs rs' (es.drop i) []/\rs'.length=rs.length + i;refine qH (K:=K) (a:=E) (xs:=iv es) M6_ (iE2 _ rs (iA4 rfl W I rfl)) (λ i σ H' _ h=>by obtain ⟨_,_,_,W,_⟩:=h;exact SqL.of W.hE) ?_ ?_
  ·clear W I;intro i x σ' H9 hi m8;refine oE2 m8 λ v10 rs' m5=>oA4 m5 λ m7 W I lr'=>?_;clear m5 m8;subst m7;obtain ⟨y,hy,rfl⟩:=Q4 hi;have hil:=(aa.mp hy).1;obtain ⟨y0,y8⟩:=em y (ah hy);obtain ⟨rv,hR,rR⟩:=W.hR;have lR:rv.length=rs'.length:=by rw [rR.len,af]
   walk_at "a";refine ⟨.inl ⟨rfl,_,SqL.of hR⟩,iE4 a.k _ _ _ ⟨(zcL T).mono,λ p hp=>(uc (qB T).mono (iA3 (mul_okR (by omega) (by omega)) (mul_okR (by decide) (by decide)) (iE3 _ 10093 6 (iA4 rfl (by decide) (by decide) (λ r r0 r6=>?_)))))⟩⟩;obtain ⟨pc,hpc,ep⟩:=Vw (ns:=[1,0,2,0,3,0]) r0 r6;have s2:=zg (o:=.lst (iv [1,0,2,0,3,0])) hp;refine zq (SqL.of nk) ep ?_;have pb:0<=pc/\pc<=4:=by
    simp only [ax,bj,bQ] at hpc;omega
   clear ep hpc;show ∀ z dz:Addr,upd H9 p (.lst (iv [1,0,2,0,3,0])) z=none->upd H9 p (.lst (iv [1,0,2,0,3,0])) dz=none->dz≠z->xZ a.k a.d [.ref z,.int y,.int pc] (upd (upd (upd H9 p (.lst (iv [1,0,2,0,3,0]))) dz (.own z)) z (.ins a.k dz [])) _ _
   generalize upd H9 p (.lst (iv [1,0,2,0,3,0]))=H10 at s2 ⊢;intro z dz hz hdz _;refine zfa hz hdz pb.1 pb.2 λ H11 s3 q3=>⟨rfl,?_⟩;obtain ⟨W3,_⟩:=(W.same s2).addR (s2 _ _ hR) s3 q3;refine iE3 R _ _ (iA5 rfl rfl (s3 _ _ (s2 _ _ hR)) (zm (by omega)) (iE2 _ _ (iA4 rfl W3 (I.knot (r:=⟨.drain,[y],[],pc,[]⟩) ?_ (aZ _) ⟨⟨_,rfl⟩,rfl,pb⟩) (by simp;omega))));rw [List.drop_eq_getElem_cons hil,(aa.mp hy).2];exact aZ _
  ·intro σ' H9 m8;refine oE2 m8 λ v10 rs' m5=>oA4 m5 λ m7 W I lr'=>?_;clear m5 m8;subst m7;rw [zP] at lr' I;rw [List.drop_length] at I;exact iE2 _ rs' (iA5 rfl W I (by omega) (by omega))
 clear W I lr le el em;intro σ' H8 m8;refine oE2 m8 λ v10 rs m5=>oA5 m5 λ m7 W I lr lr1=>?_;clear m5 m8;subst m7;have s8:Same H1 H8:=(s17.fr.trans W.f).same n1;obtain ⟨bv,hL,rL⟩:=W.hL;obtain ⟨rv,hR,rR⟩:=W.hR;have lR:rv.length=rs.length:=by rw [rR.len,af]
 walk_at "a";refine uc (qB T).mono ⟨gJ,⟨_,⟨.inl ⟨_,SqL.of hR,rfl⟩,iE3 c 10099 _ (iA4 rfl (by decide) (by omega) (λ ctI ct0 ct1=>?_))⟩⟩⟩;obtain ⟨ct,rfl⟩:∃ m:Nat,ctI=m:=⟨ctI.toNat,by omega⟩;walk_at "a";refine iE4 a.r _ _ _ ⟨(zfk T).mono,zbN (SqL.of hR) λ q1 hq1=>?_⟩;rw [zfG rv ct (by omega)];have a1:=zg (o:=.lst (rv.drop ct)) hq1;refine zbN (SqL.of (a1 _ _ hR)) λ q2 hq2=>?_;rw [zfF rv ct];have a2:=zg (o:=.lst (rv.take ct)) hq2;refine Vo (SqL.of (a2 _ _ nk)) (SqL.of nk) (Zb (by rw [dN,aP];omega)) λ q3 hq3=>?_;have a3:=zg (o:=.lst (rv.drop ct ++ rv.take ct)) hq3;have sA:=(a1.trans a2).trans a3;have g3:upd (upd (upd H8 q1 (.lst (rv.drop ct))) q2 (.lst (rv.take ct))) q3 (.lst (rv.drop ct ++ rv.take ct)) q3=some (.lst (rv.drop ct ++ rv.take ct)):=nk;generalize upd (upd (upd H8 q1 (.lst (rv.drop ct))) q2 (.lst (rv.take ct))) q3 _=H9 at sA g3 ⊢;clear a1 a2 a3 hq1 hq2 hq3;have tr:∀ {H1 H2:Hp} {p:A5} {vs:Ap} {ds:List D},Reps H1 p vs ds->Same H1 H2->Reps H2 (λ _=>True) vs ds:=λ r s=>r.keep λ b o _ hb=>⟨trivial,s b o hb⟩;have b2:=tr ((rR.drop ct).append (rR.take ct)) sA;rw [<- List.map_drop,<- List.map_take,<- a7] at b2;have pm:=zeI rs ct;generalize rs.drop ct ++ rs.take ct=rs3 at b2 pm;generalize rv.drop ct ++ rv.take ct=rv3 at b2 g3;obtain ⟨mX,ro⟩:=I.work pm (by omega) (by omega) (by omega);intro z dz hz hdz _;exact zcJ hz hdz (sA _ _ hL) g3 (tr rL sA) b2 mX I.bo ro λ H11 s11 r11=>⟨rfl,k _ _ _ _ (((s1.trans s8).trans sA).trans s11) r11 mX I.bo ro⟩
def zgd {H1 H2:Hp} {ds:List D} (r:Reps H1 p vs ds) (s:Same H1 H2):Reps H2 (λ _=>True) vs ds:=r.keep λ b o _ hb=>⟨trivial,s b o hb⟩
def zeJ {H1 H2:Hp} {d:D} (r:Rep H1 p v d) (s:Same H1 H2):Rep H2 (λ _=>True) v d:=r.keep λ b o _ hb=>⟨trivial,s b o hb⟩
def zgb (h:bs.length=3):zJ bs [⟨.parter,[0],[1,2],0,[]⟩,⟨.joiner,[1,2],[0],0,[]⟩]/\∀ r∈([⟨.parter,[0],[1,2],0,[]⟩,⟨.joiner,[1,2],[0],0,[]⟩]:At),r.ok:=by
 refine ⟨⟨⟨⟨by omega,by omega⟩,by simp,by simp⟩,?_,?_⟩,λ r hr=>?_⟩
 ·rw [h];show List.Perm [1,2,0] [0,1,2]
  decide
 ·rw [h];exact aZ _
 ·simp only [ax,bj,bQ] at hr;rcases hr with rfl|rfl
  ·exact ⟨⟨_,rfl⟩,by simp,by simp⟩
  ·exact ⟨⟨_,rfl⟩,by simp,by simp⟩
inductive spWk (K:A0) (a:Ad) (vs:Ap) (H:Hp) (Q:VK) (E:XK):Prop
 | i (l:Addr) (ns:A6):vs=[.ref l]->SqL K H l (iv ns)->(∀ vw H' bs rs,Same H H'->Rep H' (Off []) vw (qq a bs rs)->zJ bs rs->(∀ b∈bs,zz b.1 b.2)->(∀ r∈rs,r.ok)->Q vw H')->spWk K a vs H Q E
def zco (T:Txt K mg a):Cal P w K mg base "_law_closed" 7 ["_law_cells"] [] (spWk K a):=T.lW.cal λ F=>by
 refine F.okx zax ?_ ?_
 ·walk_at "i"
 walk_at "j";rcases h with ⟨l,ns,rfl,hl,k⟩;walk_at "T";refine ⟨_,(zi (Wn (i:=1) zax.nd rfl (Or.inl rfl) (vars:=["_law_k"]) (caps:=[0]) (N:=["_law_k","_law_cells"]) (ON:=["_law_cells","_law_belts"]) (osc:=zd w6) rfl rfl (by first|decide +kernel|kernel_rfl) rfl rfl (xP (za zf zc)) (λ s H fp m4=>(qp 0 (show (["_law_k","_law_cells"]:A8).Nodup from by decide +kernel))) (λ s H fp m4=>qo) (λ s H fp m4=>(vH hr (za (vH hr (za (pq 1) (za (pq 0) zc))) zc))))  (ze (zl (qV (x:="Work") ⟨rfl,rfl,rfl⟩ hr (za (pq 1) (za (zK (za (qV (x:="Parter") ⟨rfl,rfl,rfl⟩ hr (za zf (za (zK (za zf (za zf zc))) zc))) (za (qV (x:="Joiner") ⟨rfl,rfl,rfl⟩ hr (za (zK (za zf (za zf zc))) (za zf zc))) zc))) zc)))))),?_⟩;walk_at "e";walk_at "a";refine λ _ _ _ _ mZ hacc=>?_;let n9:Nat->St->Hp->Prop:=λ j σ H'=>∃ (v:Aq) (ws:Ap) (bs:A1),σ=[v,some (.ref l)]/\Same H H'/\H' mZ=some (.lst ws)/\Reps H' (Off [mZ]) ws (bs.map (wt a))/\bs.length=j/\∀ b∈bs,zz b.1 b.2;refine vS (n:=(3:Int).toNat) n9 (iE3 _ ([]) ([]) (iA6 rfl (zg hacc) nk (.nil) rfl (λ _ z=>nomatch z))) ?_ ?_
 ·intro j σ H2 hj m8;refine oE3 m8 λ v ws bs m5=>oA6 m5 λ m7 s2 ha rw2 lb bo=>?_;clear m5 m8;subst m7;have lw:ws.length=bs.length:=by rw [rw2.len,af]
  have hj:j < 3:=hj;walk_at "a";simp only [cc];refine uc (xY T).mono (uc (xX T).mono (spCell.i l ns j rfl (vz s2 hl) ⟨_,rfl,λ z H3 b s3 ob q3=>?_⟩));have f3:Fr [mZ] H3 (upd H3 mZ (.lst (ws ++ [.ref z]))):=ji (by simp);refine ⟨ws,iA3 (s3 _ _ ha) (zm (by omega)) (iE3 _ (ws ++ [.ref z]) (bs ++ [b]) (iA6 rfl (λ b o hb=>by rw [nu (nz hb hacc)];exact s3 _ _ (s2 b o hb)) nk ?_ (by simp [lb]) (λ x hx=>?_)))⟩
  ·rw [a7];exact ((rw2.same s3).fr f3).append (.one (Rep.fr (q3.keep λ b o hb ho=>⟨(λ e=>by have hb:H2 b=none:=hb;rw [aw.mp e,ha] at hb;cases hb),ho⟩) f3))
  ·rcases aE.mp hx with hx|hx
   ·exact bo x hx
   ·rw [aw.mp hx];exact ob
 intro σ H2 m8;refine oE3 m8 λ v ws bs m5=>oA6 m5 λ m7 s2 ha rw2 lb bo=>?_;clear m5 m8;subst m7;walk_at "a";refine iE4 a.r _ _ _ ⟨(zfk T).mono,iE4 a.l _ _ _ ⟨(Qb T).mono,λ p hp=>?_⟩⟩;have s3:=zg (o:=.lst [.int 1,.int 2]) hp;have g3:upd H2 p (.lst [.int 1,.int 2]) p=some (.lst (iv [1,2])):=nk;generalize upd H2 p (.lst [.int 1,.int 2])=H3 at s3 g3 ⊢;intro k1 e1 hk1 he1 _;refine QK hk1 he1 g3 (by simp) (by simp) λ H4 s4 q4=>⟨rfl,iE4 a.o _ _ _ ⟨(Qc T).mono,λ p2 hp2=>?_⟩⟩;have s5:=zg (o:=.lst [.int 1,.int 2]) hp2;have g5:upd H4 p2 (.lst [.int 1,.int 2]) p2=some (.lst (iv [1,2])):=nk;generalize upd H4 p2 (.lst [.int 1,.int 2])=H5 at s5 g5 ⊢;intro k2 e2 hk2 he2 _;refine QL hk2 he2 g5 (by simp) (by simp) λ H6 s6 q6=>⟨rfl,λ R hR=>?_⟩;have s7:=zg (o:=.lst [.ref k1,.ref k2]) hR;have g7:upd H6 R (.lst [.ref k1,.ref k2]) R=some (.lst [.ref k1,.ref k2]):=nk;generalize upd H6 R (.lst [.ref k1,.ref k2])=H7 at s7 g7 ⊢;have t47:=(s5.trans s6).trans s7;have t27:=(s3.trans s4).trans t47;obtain ⟨mX,ro⟩:=zgb (bs:=bs) lb;intro z dz hz hdz _;exact zcJ hz hdz (t27 _ _ ha) g7 (zgd rw2 t27) (.cons (zeJ q4 t47) (.one (zeJ q6 s7))) mX bo ro λ H8 s8 r8=>⟨rfl,k _ _ _ _ ((s2.trans t27).trans s8) r8 mX bo ro⟩
def zaA {rs:At} (mX:zJ bs rs) (bo:∀ b∈bs,zz b.1 b.2) (ro:∀ r∈rs,r.ok) (i j:Nat):(jt bs rs i j).length=rs.length/\∀ (k:Nat) r g,rs[k]?=some r->(jt bs rs i j)[k]?=some g->g.length=(qr r).length:=by
 have w0:=zu mX bo ro i;have w1:=zu mX bo ro j;refine ⟨by unfold jt jg;rw [fu,w0.go.1,w1.go.1,di],λ k r g hr hg=>?_⟩;have hk:=(aa.mp hr).1;have a0:=ad (l:=(zh bs rs i).gone) (i:=k) (by rw [w0.go.1];exact hk);have a1:=ad (l:=(zh bs rs j).gone) (i:=k) (by rw [w1.go.1];exact hk);unfold jt jg at hg;rw [bY,a0,a1] at hg;cases hg;unfold jp;rw [af,List.length_range];exact (w0.go.2 k r _ hr a0).1
def zc7 {r:Row} (ok:r.ok):0 < (qr r).length:=by
 have:1<=r.ins.length\/1<=r.outs.length:=by
  obtain ⟨wd,ins,outs,pc,kd⟩:=r;cases wd
  ·obtain ⟨_,⟨o,q⟩,_⟩:=ok;simp only at q;subst q;simp
  ·obtain ⟨⟨o,q⟩,_⟩:=ok;simp only at q;subst q;simp
  ·obtain ⟨⟨o,q⟩,_⟩:=ok;simp only at q;subst q;simp
  ·obtain ⟨⟨o,q⟩,_⟩:=ok;simp only at q;subst q;simp
  ·obtain ⟨⟨o,q⟩,_⟩:=ok;simp only at q;subst q;simp
  ·obtain ⟨⟨o,q⟩,_⟩:=ok;simp only at q;subst q;simp
 unfold qr;rw [a9];omega
def j6 (G:List A6):Prop:=∀ g∈G,∀ n∈g,n<=0
def ziy (a:Ad) (bs:A1) (rs:At) (i j:Nat) (_:Hp) (v:V) (H':Hp):Prop:=(j6 (jt bs rs i j)/\∃ y n,v=.ref y/\StO a H' y n (zh bs rs i))\/(¬ j6 (jt bs rs i j)/\v=.non)
def X9 (T:Txt K mg a):Cal P w K mg base "still_state" 9 ["work","limit"] [] (JH a (ziy a)):=T.kx.cal λ F=>by
 refine F.okx JO ?_ ?_
 ·walk_at "i"
 walk_at "j";refine oE4 h λ vw lim bs rs m5=>oA8 m5 λ m7 hv mX bo ro l1000 kQ kE=>?_;clear m5 h;subst m7;walk_at "T";refine ⟨_,(zi (zp 2 JO.nd (zw ⟨rfl,rfl,rfl⟩ hr (za (pq 0) (za (pq 1) zc))))  (zi (qt qI rfl (ql (zw ⟨rfl,rfl,rfl⟩ hr (za (zn (pq 2) zf) (za (zn (pq 2) zf) zc)))) (qp 3 JO.nd)  (ze (zL (zx Zq (z7 (zdb rfl) zcp (za (pq 3) zc)) zf (zy _))  (ze (zl zE))  zt)))  (ze (zl (zn (pq 2) zf))))),?_⟩;walk_at "a";refine uc (xz T).mono (iE4 vw lim bs rs (iA8 rfl hv mX bo ro l1000 (λ i j t y0 y1 n0 n1 H1 rnd s1 ht so0 so1=>?_) kE));obtain ⟨le,lg⟩:=QS ro (zu mX bo ro i) (zu mX bo ro j);have l24:(zh bs rs i).gone.length<=24:=by rw [(zu mX bo ro i).go.1];exact mX.1.2.2
 obtain ⟨lG,lr⟩:=zaA mX bo ro i j;walk_at "d";walk_at "a";refine uc (vW T).mono (nB ht at0 (nB ht (show atI _ 1=some (.ref y1) from rfl) ?_));refine iE6 y0 y1 n0 n1 _ _ (iA7 rfl so0 so1 le l24 lg (λ gl gs H2 s2 ng _=>?_));have ng:NL H2 (zV H2) gl gs (z8 (jt bs rs i j)):=ng;have lgs:gs.length=(jt bs rs i j).length:=by rw [ng.len,z8,af]
 have kQ:∀ v,ziy a bs rs i j H v H2->Q v H2:=λ v r=>kQ i j v H2 rnd (s1.trans s2) r;refine ⟨gl,rfl,.inl ⟨⟨_,SqL.of ng.out⟩,?_⟩⟩;refine qH (K:=K) (a:=gl) (xs:=gs.map V.ref) (λ m σ H'=>∃ (v3:Aq),σ=[some vw,some (.int lim),some (.ref t),v3]/\H'=H2/\∀ g∈(jt bs rs i j).take m,∀ n∈g,n<=0) ⟨_,iA3 rfl rfl (by simp)⟩ (λ m σ H' _ h=>by obtain ⟨_,_,rfl,_⟩:=h;exact SqL.of ng.out) ?_ ?_
 ·intro m x σ H3 hm m8;refine oE1 m8 λ v3 m5=>oA3 m5 λ m7 n6 hs=>?_;clear m5 m8;subst m7 n6;rw [ak,am] at hm;obtain ⟨b,hb,rfl⟩:=hm;have hml:m < (jt bs rs i j).length:=by rw [<- lgs];exact (aa.mp hb).1
  obtain ⟨g,eg⟩:∃ g,(jt bs rs i j)[m]?=some g:=⟨_,ad hml⟩;obtain ⟨b',hb',hg⟩:=jA ng eg;rw [hb] at hb';cases hb';obtain ⟨r,hr'⟩:∃ r,rs[m]?=some r:=⟨_,ad (by rw [<- lG];exact hml)⟩;have gp:0 < g.length:=by rw [lr m r g hr' eg];exact zc7 (ro r (ah hr'))
  walk_at "a";refine iE2 b g (iA4 rfl (SqL.of hg) gp (λ mx hx hmx=>?_));walk_at "a";refine zZ (λ z=>kQ _ (.inr ⟨λ st=>?_,rfl⟩)) (λ z=>⟨_,rfl,λ g' hg' n hn=>?_⟩)
  ·have:=st g (ah eg) mx hx;omega
  ·rw [aK,eg] at hg';rcases aE.mp hg' with h|h
   ·exact hs g' h n hn
   ·have e:g'=g:=by simpa using h
    subst e;have:=hmx n hn;omega
 ·intro σ H3 m8;refine oE1 m8 λ v3 m5=>oA3 m5 λ m7 n6 hs=>?_;clear m5 m8;subst m7 n6;rw [af,lgs,aN] at hs;walk_at "a";exact nB (s2 _ _ ht) at0 (kQ _ (.inl ⟨hs,iE2 y0 n0 ⟨rfl,so0.same s2⟩⟩))
def zhx (bs:A1) (rs:At) (i j:Nat) (_:Hp) (v:V) (_:Hp):Prop:=(j6 (jt bs rs i j)/\v=.int i)\/(¬ j6 (jt bs rs i j)/\v=.non)
def X1 (T:Txt K mg a) (F:FunD K "still_from" "still_from" qK f fd):FnOk P w K mg base (CXr P w) 10 f fd ["work","limit"] (JH a zhx):=by
 refine F.okx XQ ?_ ?_
 ·walk_at "i"
 walk_at "j";refine oE4 h λ vw lim bs rs m5=>oA8 m5 λ m7 hv mX bo ro l1000 kQ kE=>?_;clear m5 h;subst m7;walk_at "T";refine ⟨_,(zi (zp 2 XQ.nd (zw ⟨rfl,rfl,rfl⟩ hr (za (pq 0) (za (pq 1) zc))))  (ze (zl (xQ (zx jq (pq 2) zE (zy _)) zE (zk (pq 2) rfl))))),?_⟩;walk_at "a";refine uc (X9 T).mono (iE4 vw lim bs rs (iA8 rfl hv mX bo ro l1000 (λ i j v H1 rnd s1 r=>?_) kE));rcases r with ⟨st,y,n,rfl,so⟩|⟨st,rfl⟩
 ·walk_at "a";refine ra so.hy T.gd T.gg rfl ?_;rw [qk];exact kQ i j _ _ rnd s1 (.inl ⟨st,rfl⟩)
 ·walk_at "a";exact kQ i j _ _ rnd s1 (.inr ⟨st,rfl⟩)
def VV (T:Txt K mg a):Cal P w K mg base "still_from" 10 ["work","limit"] [] (JH a zhx):=T.kN.cal (X1 T)
section
variable {bs:A1} {rs:At}
def zbj {n:Int} (bo:∀ b∈bs,zz b.1 b.2) (ro:∀ r∈rs,r.ok) (h:ww bs rs n):0 < n/\n<=4:=by
 rcases h with ⟨b,hb,rfl⟩|⟨r,hr,hw,rfl,hp⟩
 ·have h:=bo b hb;exact ⟨by have:=h.2.2.1;omega,h.2.2.2⟩
 ·exact ⟨hp,(zaz (ro r hr) hw).2⟩
def zgQ (bo:∀ b∈bs,zz b.1 b.2) (ro:∀ r∈rs,r.ok):∃ L,QX bs rs L:=by
 have hm:∀ n,n∈(bs.map (·.2) ++ (rs.filter λ r=>decide ((r.wd=.source\/r.wd=.drain)/\0 < r.pace)).map Row.pace) ↔ ww bs rs n:=λ n=>by
  simp only [aE,aV,cn,cY,ww];constructor
  ·rintro (⟨b,hb,e⟩|⟨r,⟨hr,hw,hp⟩,e⟩)
   ·exact .inl ⟨b,hb,e⟩
   ·exact .inr ⟨r,iA4 hr hw e (by rw [<- e];exact hp)⟩
  ·rintro (⟨b,hb,e⟩|⟨r,hr,hw,e,hp⟩)
   ·exact .inl ⟨b,hb,e⟩
   ·exact .inr ⟨r,⟨hr,hw,by rw [e];exact hp⟩,e⟩
 obtain ⟨L,hL⟩:=IsLcm.ex (ns:=bs.map (·.2) ++ (rs.filter λ r=>decide ((r.wd=.source\/r.wd=.drain)/\0 < r.pace)).map Row.pace) λ n hn=>by
  have b4:=zbj bo ro ((hm n).mp hn);omega
 exact iE2 L _ ⟨hL,hm⟩
def zgR {n:Int} (bo:∀ b∈bs,zz b.1 b.2) (ro:∀ r∈rs,r.ok) (h:ww bs rs n):n ∣ xp bs rs:=by
 obtain ⟨L,hL⟩:=zgQ bo ro;rw [<- zbk hL];obtain ⟨ns,il,im⟩:=hL;exact il.dv n ((im n).mpr h)
end
structure Alk (bs:A1) (rs:At) (s s':PSt):Prop where
 ce:s.cells.map (zr rs)=s'.cells.map (zr rs)
 si:s.sides=s'.sides
 so:∀ (j:Nat) r,rs[j]?=some r->r.wd=.source->(s.gone.getD j []).headD 0 % (r.kinds.length:Int)=(s'.gone.getD j []).headD 0 % (r.kinds.length:Int)
 tu:∀ n,ww bs rs n->s.turn % n=s'.turn % n
noncomputable def gAt (gs:List A6) (i j:Nat):Int:=(gs.getD i []).getD j 0
section
variable {bs:A1} {rs:At}
theorem Z6:∀ {xs ys:A6},xs.map some=ys.map some->xs=ys
 | [],[],_=>rfl
 | [],_ :: _,h=>by cases h
 | _ :: _,[],h=>by cases h
 | x :: xs,y :: ys,h=>by
  simp only [bz,dq,cA] at h;rw [h.1,Z6 h.2]
def zif {s s':PSt} (bo:∀ b∈bs,zz b.1 b.2) (ro:∀ r∈rs,r.ok) (h:Qp bs rs s=Qp bs rs s'):Alk bs rs s s':=by
 unfold Qp at h;obtain ⟨h1,h2,h3,h4⟩:some (s.turn % xp bs rs)=some (s'.turn % xp bs rs)/\s.cells.map (zr rs)=s'.cells.map (zr rs)/\s.sides.map some=s'.sides.map some/\(zR .source rs).map (λ j=>some (jQ rs s j))=(zR .source rs).map (λ j=>some (jQ rs s' j)):=by
  simpa only [Prod.mk.injEq] using h
 refine ⟨h2,Z6 h3,λ j r hr hs=>?_,λ n hn=>?_⟩
 ·have hm:=Xh hr hs;have:=List.map_inj_left.mp h4 _ hm;simp only [cA] at this;unfold jQ at this;rw [aA,hr] at this;exact this
 ·have d:=zgR bo ro hn;have h1:=aI h1;rw [<- dD s.turn d,h1,dD s'.turn d]
def Q5 {cs cs':Au} (h:cs.map (zr rs)=cs'.map (zr rs)) (b:Nat):zr rs (cs.getD b [])=zr rs (cs'.getD b []):=by
 have:=bt (λ l=>l.getD b (zr rs [])) h;simpa only [ae,ak,Option.getD_map] using this
def Jx (c:Av):jK rs (xm c)=(zr rs c).getLastD none:=by
 unfold xm zr;rw [bb,bb,List.getLast?_map];cases c.getLast? <;> rfl
def zcN (c:Av):jK rs (zgP c)=(zr rs c).headD none:=by cases c <;> rfl
def WD (c:Av) (p:Nat):jK rs (c.getD p none)=(zr rs c).getD p none:=by
 unfold zr;rw [ae,ae,ak];cases c[p]? <;> rfl
def Zh (x:zC):jK rs x=none ↔ x=none:=by cases x <;> simp [jK]
def vR (c:Av) (i:Nat) (x:zC):zr rs (c.set i x)=(zr rs c).set i (jK rs x):=by
 unfold zr;rw [dE]
 rfl
def VJ {c c':Av} (h:zr rs c=zr rs c'):c.length=c'.length:=by
 have:=bt List.length h;simpa [zr] using this
def zcq {cs cs':Au} (h:cs.map (zr rs)=cs'.map (zr rs)) (i:Nat) {c c':Av} (hc:zr rs c=zr rs c'):(cs.set i c).map (zr rs)=(cs'.set i c').map (zr rs):=by
 rw [dE,dE,h,hc]
def za5 {cs cs':Au} (h:cs.map (zr rs)=cs'.map (zr rs)) (r:Row):qc rs cs r=qc rs cs' r:=by
 unfold qc zI;refine ft λ b _=>?_;rw [Jx,Jx,Q5 h]
def zcU {cs cs':Au} (h:cs.map (zr rs)=cs'.map (zr rs)) (r:Row):qA cs r=qA cs' r:=by
 unfold qA zI;refine ft λ b _=>?_;rw [decide_eq_decide,<- Zh (rs:=rs),<- Zh (rs:=rs) (zgP (cs'.getD _ _)),zcN,zcN,Q5 h]
def WK {r:Row} {hs:List A9} {fs:Ai} {t t':Int} {side:Nat} (ok:r.ok) (h:(r.wd=.source\/r.wd=.drain)->0 < r.pace->t % r.pace=t' % r.pace):zX r hs fs t side=zX r hs fs t' side:=by
 obtain ⟨wd,ins,outs,pc,ks⟩:=r;cases wd
 ·have p1:1<=pc:=ok.2.2.1;have e:t % pc=t' % pc:=h (.inl rfl) (show 0 < pc by omega);unfold zX;simp only [e]
 ·have p0:0<=pc:=ok.2.2.1;unfold zX;by_cases z:pc=0
  ·simp [z]
  ·have e:t % pc=t' % pc:=h (.inr rfl) (show 0 < pc by omega);simp only [e]
 all_goals rfl
def zes {s s':PSt} {r:Row} {fb:A9} (h:Alk bs rs s s') (hr:rs[k]?=some r) (hs:fb=none->r.wd=.source):jK rs (z6 s k fb).1=jK rs (z6 s' k fb).1/\(z6 s k fb).2.cells.map (zr rs)=(z6 s' k fb).2.cells.map (zr rs):=by
 cases fb with
 | none =>
  refine ⟨?_,h.ce⟩;show some (wB _ _)=some (wB _ _)
  rw [aA,hr];show some (wB r.kinds _)=some (wB r.kinds _)
  unfold wB;rw [h.so k r hr (hs rfl)]
 | some b =>
  have e:=Q5 h.ce b.toNat;refine ⟨?_,zcq h.ce _ ?_⟩
  ·show jK rs (xm (s.cells.getD b.toNat []))=jK rs (xm (s'.cells.getD b.toNat []))
   rw [Jx,Jx,e]
  ·unfold xD zI;rw [vR,vR,e,VJ e]
def zeU {s s':PSt} {x x':zC} {tb:A9} (h:s.cells.map (zr rs)=s'.cells.map (zr rs)) (hx:jK rs x=jK rs x'):(vG s x tb).cells.map (zr rs)=(vG s' x' tb).cells.map (zr rs):=by
 cases tb with
 | none=>exact h
 | some b =>
  refine zcq h _ ?_;rw [vR,vR,hx];unfold zI;rw [Q5 h]
def Qf {gs:List A6} {k p i j:Nat} (hk:k < gs.length) (hp:p < (gs.getD k []).length):gAt (gs.set k (ZR (gs.getD k []) p)) i j=gAt gs i j + if i=k/\j=p then 1 else 0:=by
 unfold gAt;by_cases e:k=i
 ·subst e;rw [ae (l:=gs.set _ _),aS hk,aJ];unfold ZR;by_cases z:p=j
  ·subst z;rw [ae (l:=List.set _ _ _),aS hp,ap ⟨rfl,rfl⟩]
   rfl
  ·rw [jh z,ao (λ q=>z q.2.symm)];omega
 ·rw [jh e,ao (λ q=>e q.1.symm)];omega
def xV {gs:List A6}:(gs.getD j []).headD 0=gAt gs j 0:=by
 unfold gAt;cases gs.getD j [] <;> rfl
def zfV {s s':PSt} (h:Alk bs rs s s') (w:stWf bs rs s) (w':stWf bs rs s') (ro:∀ r∈rs,r.ok) (k:Nat):Alk bs rs (qg rs s k).1 (qg rs s' k).1/\∀ i j,gAt (qg rs s k).1.gone i j - gAt s.gone i j=gAt (qg rs s' k).1.gone i j - gAt s'.gone i j:=by
 unfold qg;cases hr:rs[k]? with
 | none=>exact ⟨h,λ i j=>by show gAt s.gone i j - _=gAt s'.gone i j - _;rw [dU,dU]⟩
 | some r =>
  have ok:=ro r (ah hr);have hk:=(aa.mp hr).1;simp only;rw [<- za5 h.ce,<- zcU h.ce,<- h.si,<- WK (t:=s.turn) (t':=s'.turn) ok λ hw hp=>h.tu _ (.inr ⟨r,ah hr,hw,rfl,hp⟩)];cases hc:zX r (qc rs s.cells r) (qA s.cells r) s.turn (s.sides.getD k 0).toNat with
  | none=>exact ⟨h,λ i j=>by show gAt s.gone i j - _=gAt s'.gone i j - _;rw [dU,dU]⟩
  | some ch =>
   have hsd:=qh (xs:=s.sides) (k:=k) (d:=0) (by rw [w.so.1];exact hk);have sd:=w.so.2 k r _ hr hsd;have sd:wx r (((s.sides.getD k 0).toNat:Nat):Int):=by rw [bP sd.1];exact sd
   refine oA6 (xB ok (by simp [qc]) (by simp [qA]) sd hc) λ c1 c2 c3 c4 c5 c6=>?_;have fs:qF r ch=none->r.wd=.source:=λ z=>by
    cases e:ch.1 with
    | none=>exact c4 e
    | some j =>
     unfold qF at z;rw [e] at z;have:r.ins[j]?=none:=z;rw [ad (c1 j e)] at this;cases this
   obtain ⟨t1,t2⟩:=zes h hr fs;obtain ⟨k1,k2,k3⟩:=movedF_keep (r:=r) (st:=s) (k:=k) (ch:=ch);obtain ⟨k1',k2',k3'⟩:=movedF_keep (r:=r) (st:=s') (k:=k) (ch:=ch);have hg0:=qh (xs:=s.gone) (k:=k) (d:=[]) (by rw [w.go.1];exact hk);have hg0':=qh (xs:=s'.gone) (k:=k) (d:=[]) (by rw [w'.go.1];exact hk);have q:=(w.go.2 k r _ hr hg0).1;have q':=(w'.go.2 k r _ hr hg0').1;have G:∀ i j,gAt (vT r s k ch).1.gone i j=gAt s.gone i j + if i=k/\j=jM r ch then 1 else 0:=λ i j=>by
    show gAt ((movedF r s k ch).gone.set k (ZR ((movedF r s k ch).gone.getD k []) (jM r ch))) i j=_
    rw [k3];exact Qf (by rw [w.go.1];exact hk) (by rw [q];exact c6)
   have G':∀ i j,gAt (vT r s' k ch).1.gone i j=gAt s'.gone i j + if i=k/\j=jM r ch then 1 else 0:=λ i j=>by
    show gAt ((movedF r s' k ch).gone.set k (ZR ((movedF r s' k ch).gone.getD k []) (jM r ch))) i j=_
    rw [k3'];exact Qf (by rw [w'.go.1];exact hk) (by rw [q'];exact c6)
   refine ⟨⟨zeU t2 t1,?_,λ j r2 h2 hs=>?_,λ n hn=>?_⟩,λ i j=>by rw [G,G'];omega⟩
   ·show (movedF r s k ch).sides.set k _=(movedF r s' k ch).sides.set k _
    rw [k2,k2',h.si]
   ·have e:=h.so j r2 h2 hs;rw [xV,xV] at e ⊢;rw [G,G',dW,e,<- dW]
   ·show (movedF r s k ch).turn % n=(movedF r s' k ch).turn % n
    rw [k1,k1'];exact h.tu n hn
theorem zdf {s s':PSt} (h:Alk bs rs s s') (w:stWf bs rs s) (w':stWf bs rs s') (mX:zJ bs rs) (bo:∀ b∈bs,zz b.1 b.2) (ro:∀ r∈rs,r.ok):∀ m,Alk bs rs (zo rs s m).1 (zo rs s' m).1/\∀ i j,gAt (zo rs s m).1.gone i j - gAt s.gone i j=gAt (zo rs s' m).1.gone i j - gAt s'.gone i j
 | 0=>⟨h,λ i j=>by show gAt s.gone i j - _=gAt s'.gone i j - _;omega⟩
 | m + 1=>by
  obtain ⟨a1,a2⟩:=zdf h w w' mX bo ro m;obtain ⟨b1,b2⟩:=zfV a1 (qQ w mX bo ro m) (qQ w' mX bo ro m) ro m;refine ⟨b1,λ i j=>?_⟩;have x:=a2 i j;have y:=b2 i j;show gAt (qg rs (zo rs s m).1 m).1.gone i j - _=gAt (qg rs (zo rs s' m).1 m).1.gone i j - _
  omega
def zdQ {c c':Av} (h:zr rs c=zr rs c') (p:Nat):zr rs (qE c p)=zr rs (qE c' p):=by
 unfold qE;have e:c.getD (p + 1) none=none ↔ c'.getD (p + 1) none=none:=by rw [<- Zh (rs:=rs),<- Zh (rs:=rs) (c'.getD _ _),WD,WD,h]
 by_cases z:c.getD (p + 1) none=none
 ·rw [ap z,ap (e.mp z),vR,vR,vR,vR,WD,WD,h]
 ·rw [ao z,ao (λ q=>z (e.mpr q)),h]
theorem zcI {c c':Av} (h:zr rs c=zr rs c'):∀ m,zr rs (xU c m)=zr rs (xU c' m)
 | 0=>h
 | m + 1=>by
  show zr rs (qE (xU c m) (c.length - 2 - m))=zr rs (qE (xU c' m) (c'.length - 2 - m))
  rw [VJ h];exact zdQ (zcI h m) _
theorem zbi {cs cs':Au} {t t':Int} (h:cs.map (zr rs)=cs'.map (zr rs)) (ht:∀ b∈bs,t % b.2=t' % b.2):∀ i,i<=bs.length->(zY bs t cs i).map (zr rs)=(zY bs t' cs' i).map (zr rs)
 | 0,_=>h
 | i + 1,hi=>by
  have ih:=zbi h ht i (by omega);have e:t % (bs.getD i (0,1)).2=t' % (bs.getD i (0,1)).2:=ht _ (by rw [ae,ad (by omega)];exact de _);unfold zY;rw [<- e];by_cases z:t % (bs.getD i (0,1)).2=0
  ·rw [ap z,ap z];refine zcq ih i ?_;unfold Xl;rw [VJ (Q5 ih i)];exact zcI (Q5 ih i) _
  ·rw [ao z,ao z];exact ih
def zcB {s s':PSt} (h:Alk bs rs s s') (w:stWf bs rs s) (w':stWf bs rs s') (mX:zJ bs rs) (bo:∀ b∈bs,zz b.1 b.2) (ro:∀ r∈rs,r.ok):Alk bs rs (passF bs rs s).1 (passF bs rs s').1/\∀ i j,gAt (passF bs rs s).1.gone i j - gAt s.gone i j=gAt (passF bs rs s').1.gone i j - gAt s'.gone i j:=by
 obtain ⟨a1,a2⟩:=zdf h w w' mX bo ro rs.length;refine ⟨⟨zbi a1.ce (λ b hb=>a1.tu _ (.inl ⟨b,hb,rfl⟩)) bs.length (av _),a1.si,a1.so,λ n hn=>?_⟩,a2⟩;show ((zo rs s rs.length).1.turn + 1) % n=((zo rs s' rs.length).1.turn + 1) % n
 rw [dW,a1.tu n hn,<- dW]
theorem Vv {p q:Nat} (h:Alk bs rs (zh bs rs p) (zh bs rs q)) (mX:zJ bs rs) (bo:∀ b∈bs,zz b.1 b.2) (ro:∀ r∈rs,r.ok):∀ m,Alk bs rs (zh bs rs (p + m)) (zh bs rs (q + m))/\∀ i j,gAt (zh bs rs (p + m)).gone i j - gAt (zh bs rs p).gone i j=gAt (zh bs rs (q + m)).gone i j - gAt (zh bs rs q).gone i j
 | 0=>⟨h,λ i j=>by show gAt (zh bs rs p).gone i j - _=gAt (zh bs rs q).gone i j - _;omega⟩
 | m + 1=>by
  obtain ⟨a1,a2⟩:=Vv h mX bo ro m;obtain ⟨b1,b2⟩:=zcB a1 (zu mX bo ro _) (zu mX bo ro _) mX bo ro;refine ⟨b1,λ i j=>?_⟩;have x:=a2 i j;have y:=b2 i j;show gAt (passF bs rs (zh bs rs (p + m))).1.gone i j - _=gAt (passF bs rs (zh bs rs (q + m))).1.gone i j - _
  omega
end
noncomputable def xk:Nat->List zC->Int
 | _,[]=>0
 | p,x :: xs=>(if x=none then 0 else (p:Int)) + xk (p + 1) xs
theorem Vq {x:zC}:∀ {c:Av} {p i:Nat},i < c.length->xk p (c.set i x)=xk p c + (if x=none then 0 else ((p + i:Nat):Int)) - (if c.getD i none=none then 0 else ((p + i:Nat):Int))
 | [],_,_,h=>by simp at h
 | y :: ys,p,0,_=>by
  show (if x=none then 0 else (p:Int)) + xk (p + 1) ys=(if y=none then 0 else (p:Int)) + xk (p + 1) ys + (if x=none then 0 else ((p + 0:Nat):Int)) - (if y=none then 0 else ((p + 0:Nat):Int))
  rw [fh];generalize (if x=none then (0:Int) else (p:Int))=u;generalize (if y=none then (0:Int) else (p:Int))=z;omega
 | y :: ys,p,i + 1,h=>by
  have ih:=Vq (x:=x) (c:=ys) (p:=p + 1) (i:=i) (by simpa using h);rw [show p + 1 + i=p + (i + 1) by omega] at ih;show (if y=none then 0 else (p:Int)) + xk (p + 1) (ys.set i x)=(if y=none then 0 else (p:Int)) + xk (p + 1) ys + _ - (if ys.getD i none=none then 0 else ((p + (i + 1):Nat):Int))
  rw [ih];generalize (if x=none then (0:Int) else ((p + (i + 1):Nat):Int))=u;generalize (if ys.getD i none=none then (0:Int) else ((p + (i + 1):Nat):Int))=v;generalize (if y=none then (0:Int) else (p:Int))=z;omega
def zeR {c:Av} {p:Nat} (h:p + 1 < c.length):qE c p=c\/xk 0 c < xk 0 (qE c p):=by
 unfold qE
 split
 ·rename_i e;by_cases z:c.getD p none=none
  ·have self:∀ {c:Av} {i:Nat},i < c.length->c.getD i none=none->c.set i none=c:=λ {c i} hi e=>by
    rw [ae,ad hi] at e;have e:c[i]=none:=e;rw [<- e];exact List.set_getElem_self hi
   rw [z,self h e,self (by omega) z];exact .inl rfl
  ·refine .inr ?_;have e2:(c.set (p + 1) (c.getD p none)).getD p none=c.getD p none:=by
    rw [ae,be (by omega),<- ae]
   rw [Vq (by simp;omega),Vq h,e2,e,ap rfl,ap rfl,ao z,ao z];omega
 ·exact .inl rfl
theorem zeT {c:Av}:∀ k,k + 1<=c.length->xU c k=c\/xk 0 c < xk 0 (xU c k)
 | 0,_=>.inl rfl
 | k + 1,h=>by
  have ih:=zeT (c:=c) k (by omega);have st:=zeR (c:=xU c k) (p:=c.length - 2 - k) (by rw [Z4];omega);rw [xU];rcases ih with e|l
  ·rw [e] at st ⊢;exact st
  ·rcases st with e|l2
   ·rw [e];exact .inr l
   ·exact .inr (Int.lt_trans l l2)
def zaG (c:Av):Xl c=c\/xk 0 c < xk 0 (Xl c):=by
 unfold Xl;cases c with
 | nil=>exact .inl rfl
 | cons x xs=>exact zeT _ (by simp)
theorem zeS {bs:A1} {t:Int} {cs:Au} (b:Nat):∀ i,(zY bs t cs i).getD b []=cs.getD b []\/xk 0 (cs.getD b []) < xk 0 ((zY bs t cs i).getD b [])
 | 0=>.inl rfl
 | i + 1=>by
  have ih:=zeS (bs:=bs) (t:=t) (cs:=cs) b i;rw [zY]
  split
  ·generalize zY bs t cs i=ds at ih ⊢;by_cases e:i=b
   ·subst e;by_cases h:i < ds.length
    ·rw [ae (l:=ds.set _ _),aS h,aJ];rcases ih with e|l
     ·rw [e];rcases zaG (cs.getD i []) with q|q
      ·exact .inl q
      ·exact .inr q
     ·rcases zaG (ds.getD i []) with q|q
      ·rw [q];exact .inr l
      ·exact .inr (Int.lt_trans l q)
    ·rw [cv (by omega)];exact ih
   ·rw [jh e];exact ih
  ·exact ih
theorem Wo {rs:At}:∀ {c d:Av} (p:Nat),zr rs c=zr rs d->xk p c=xk p d
 | [],[],_,_=>rfl
 | [],_ :: _,_,h=>by simp [zr] at h
 | _ :: _,[],_,h=>by simp [zr] at h
 | x :: xs,y :: ys,p,h=>by
  unfold zr at h;rw [bz,bz,dq] at h;rw [xk,xk,Wo (p + 1) h.2];have:x=none ↔ y=none:=by
   have:=h.1;cases x <;> cases y <;> simp at this ⊢
  simp only [this]
def zfU {rs:At} {st:PSt} (h:(qg rs st k).2=none):(qg rs st k).1=st:=by
 unfold qg at h ⊢;cases e:rs[k]? with
 | none=>rfl
 | some r =>
  rw [e] at h;simp only at h ⊢;cases e2:zX r (qc rs st.cells r) (qA st.cells r) st.turn (st.sides.getD k 0).toNat with
  | none=>rfl
  | some ch=>rw [e2] at h;cases h
theorem Zk {rs:At} {st:PSt}:∀ m,(zo rs st m).2=[]->(zo rs st m).1=st
 | 0,_=>rfl
 | m + 1,h=>by
  obtain ⟨h1,h2⟩:=fj.mp (show (zo rs st m).2 ++ (qg rs (zo rs st m).1 m).2.toList=[] from h);show (qg rs (zo rs st m).1 m).1=st
  rw [zfU (by cases e:(qg rs (zo rs st m).1 m).2 with|none=>rfl|some x=>rw [e] at h2;cases h2)];exact Zk m h1
def zfT {rs:At} {st:PSt} (w:stWf bs rs st) (ro:∀ r∈rs,r.ok) (h:(qg rs st k).2≠none):∃ p r,rs[k]?=some r/\p < (qr r).length/\gAt st.gone k p < gAt (qg rs st k).1.gone k p:=by
 unfold qg at h ⊢;cases hr:rs[k]? with
 | none=>rw [hr] at h;exact absurd rfl h
 | some r =>
  rw [hr] at h;simp only at h ⊢;cases hc:zX r (qc rs st.cells r) (qA st.cells r) st.turn (st.sides.getD k 0).toNat with
  | none=>rw [hc] at h;exact absurd rfl h
  | some ch =>
   have ok:=ro r (ah hr);have hk:=(aa.mp hr).1;have sd:=w.so.2 k r _ hr (qh (d:=0) (by rw [w.so.1];exact hk));have sd':wx r ((st.sides.getD k 0).toNat:Int):=by rw [bP sd.1];exact sd
   refine oA6 (xB ok (by simp [qc]) (by simp [qA]) sd' hc) λ _ _ _ _ _ c6=>?_;have hg:=w.go.2 k r _ hr (qh (xs:=st.gone) (d:=[]) (by rw [w.go.1];exact hk));refine iE2 (jM r ch) r (iA3 rfl c6 ?_);show _ < gAt ((movedF r st k ch).gone.set k _) k _
   rw [movedF_keep.2.2,Qf (by rw [w.go.1];exact hk) (by rw [hg.1];exact c6),ap ⟨rfl,rfl⟩];omega
section
variable {bs:A1} {rs:At} (mX:zJ bs rs) (bo:∀ b∈bs,zz b.1 b.2) (ro:∀ r∈rs,r.ok)
include mX bo ro
theorem WS {st:PSt} (w:stWf bs rs st):∀ m,(zo rs st m).2≠[]->∃ k p r,rs[k]?=some r/\p < (qr r).length/\gAt st.gone k p < gAt (zo rs st m).1.gone k p
 | 0,h=>absurd rfl h
 | m + 1,h=>by
  by_cases e:(zo rs st m).2=[]
  ·have h2:(qg rs (zo rs st m).1 m).2≠none:=λ z=>h (by show (zo rs st m).2 ++ (qg rs (zo rs st m).1 m).2.toList=[];rw [e,z];rfl);refine oE2 (zfT (qQ w mX bo ro m) ro h2) λ p r m5=>oA3 m5 λ hr hp hl=>?_;clear m5;refine iE3 m p r (iA3 hr hp (Int.lt_of_le_of_lt (QW rs st m p m) hl))
  ·refine oE3 (WS w m e) λ k p r m5=>oA3 m5 λ hr hp hl=>?_;clear m5;exact iE3 k p r (iA3 hr hp (dL hl (Ql rs _ m k p)))
noncomputable def mvd (bs:A1) (rs:At) (n:Nat):Bool:=!((zo rs (zh bs rs n) rs.length).2.isEmpty) || decide ((zh bs rs (n + 1)).cells≠(zh bs rs n).cells)
omit mX bo ro in
theorem zhM (h:mvd bs rs n=false):(zo rs (zh bs rs n) rs.length).1=zh bs rs n/\(zh bs rs (n + 1)).cells=(zh bs rs n).cells:=by
 unfold mvd at h;rw [cM] at h;exact ⟨Zk _ (by simpa using h.1),by simpa using h.2⟩
omit mX bo ro in
theorem stay (h:mvd bs rs n=false):(zh bs rs (n + 1)).cells=(zh bs rs n).cells/\(zh bs rs (n + 1)).sides=(zh bs rs n).sides/\(zh bs rs (n + 1)).gone=(zh bs rs n).gone:=by
 obtain ⟨h1,h2⟩:=zhM h;refine ⟨h2,?_,?_⟩
 ·show (zo rs (zh bs rs n) rs.length).1.sides=_
  rw [h1]
 ·show (zo rs (zh bs rs n) rs.length).1.gone=_
  rw [h1]
omit mX bo ro in
theorem zeu {i:Nat}:∀ m,(∀ n,i<=n->n < i + m->mvd bs rs n=false)->(zh bs rs (i + m)).cells=(zh bs rs i).cells/\(zh bs rs (i + m)).sides=(zh bs rs i).sides/\(zh bs rs (i + m)).gone=(zh bs rs i).gone
 | 0,_=>⟨rfl,rfl,rfl⟩
 | m + 1,h=>by
  obtain ⟨a1,a2,a3⟩:=zeu (i:=i) m λ n h1 h2=>h n h1 (by omega);obtain ⟨b1,b2,b3⟩:=stay (h (i + m) (by omega) (by omega));exact ⟨b1.trans a1,b2.trans a2,b3.trans a3⟩
theorem Wf {i j:Nat} (ce:(zh bs rs i).cells.map (zr rs)=(zh bs rs j).cells.map (zr rs)) (h:j6 (jt bs rs i j)) (n:Nat) (h1:i<=n) (h2:n < j):mvd bs rs n=false:=by
 have hg:∀ k p r,rs[k]?=some r->p < (qr r).length->gAt (zh bs rs j).gone k p<=gAt (zh bs rs i).gone k p:=λ k p r hr hp=>by
  have w0:=zu mX bo ro i;have w1:=zu mX bo ro j;have hk:=(aa.mp hr).1;obtain ⟨g0,a0⟩:∃ g,(zh bs rs i).gone[k]?=some g:=⟨_,ad (by rw [w0.go.1];exact hk)⟩;obtain ⟨g1,a1⟩:∃ g,(zh bs rs j).gone[k]?=some g:=⟨_,ad (by rw [w1.go.1];exact hk)⟩;have l0:=(w0.go.2 k r _ hr a0).1;have m:jp g0 g1∈jt bs rs i j:=by
   refine ah (i:=k) ?_;unfold jt jg;rw [bY,a0,a1]
  have:=h _ m (g1.getD p 0 - g0.getD p 0) (aV.mpr ⟨p,bu.mpr (by rw [l0];exact hp),rfl⟩);unfold gAt;rw [ae (l:=(zh bs rs j).gone),ae (l:=(zh bs rs i).gone),a0,a1];show g1.getD p 0<=g0.getD p 0
  omega
 have nm:∀ n,i<=n->n < j->(zo rs (zh bs rs n) rs.length).2=[]:=λ n h1 h2=>by
  refine bH λ no=>?_;refine oE3 (WS mX bo ro (zu mX bo ro n) rs.length no) λ k p r m5=>oA3 m5 λ hr hp hl=>?_;clear m5;have m1:=wI bs rs i k p (n - i);have m2:=wI bs rs (n + 1) k p (j - (n + 1));rw [show i + (n - i)=n by omega] at m1;rw [show n + 1 + (j - (n + 1))=j by omega] at m2;have m3:=hg k p r hr hp;have hl:gAt (zh bs rs n).gone k p < gAt (zh bs rs (n + 1)).gone k p:=hl;unfold gAt at hl m3;omega
 have on:∀ n,i<=n->n < j->∀ b,(zh bs rs (n + 1)).cells.getD b []=(zh bs rs n).cells.getD b []\/xk 0 ((zh bs rs n).cells.getD b []) < xk 0 ((zh bs rs (n + 1)).cells.getD b []):=λ n h1 h2 b=>by
  have e:=Zk _ (nm n h1 h2);have:(zh bs rs (n + 1)).cells=zY bs (zh bs rs n).turn (zh bs rs n).cells bs.length:=by
   show zY bs (zo rs (zh bs rs n) rs.length).1.turn (zo rs (zh bs rs n) rs.length).1.cells bs.length=_
   rw [e]
  rw [this];rcases zeS (bs:=bs) (t:=(zh bs rs n).turn) (cs:=(zh bs rs n).cells) b bs.length with q|q
  ·exact .inl q
  ·exact .inr q
 have up:∀ b i' m,i<=i'->i' + m<=j->xk 0 ((zh bs rs i').cells.getD b [])<=xk 0 ((zh bs rs (i' + m)).cells.getD b []):=λ b i' m=>by
  induction m with
  | zero=>exact λ _ _=>bB _
  | succ m ih =>
   intro h1 h2;have:=ih h1 (by omega);rcases on (i' + m) (by omega) (by omega) b with q|q
   ·rw [show i' + (m + 1)=i' + m + 1 from rfl,q];exact this
   ·exact fo this (cB q)
 have ends:∀ b,xk 0 ((zh bs rs i).cells.getD b [])=xk 0 ((zh bs rs j).cells.getD b []):=λ b=>by
  have e:=ce;have hh:∀ cs:List Av,zr rs (cs.getD b [])=(cs.map (zr rs)).getD b []:=λ cs=>by
   rw [ae,ae,ak];cases cs[b]? <;> rfl
  exact Wo 0 (by rw [hh,hh,e])
 have same:∀ b,(zh bs rs (n + 1)).cells.getD b []=(zh bs rs n).cells.getD b []:=λ b=>by
  rcases on n h1 h2 b with q|q
  ·exact q
  ·have u1:=up b i (n - i) (av _) (by omega);have u2:=up b (n + 1) (j - (n + 1)) (by omega) (by omega);rw [show i + (n - i)=n by omega] at u1;rw [show n + 1 + (j - (n + 1))=j by omega] at u2;have:=ends b;omega
 have ce:(zh bs rs (n + 1)).cells=(zh bs rs n).cells:=by
  have l1:=(zu mX bo ro (n + 1)).co.1;have l2:=(zu mX bo ro n).co.1;refine List.ext_getElem (by rw [l1,l2]) λ b hb1 hb2=>?_;have:=same b;rw [ae,ae,ad hb1,ad hb2] at this;exact this
 unfold mvd;rw [nm n h1 h2,ce];simp
theorem zaa {lim i j:Nat} (rd:RoundAt bs rs lim i j) (h:j6 (jt bs rs i j)) (n:Nat) (h1:i<=n) (h2:n < j):mvd bs rs n=false:=Wf mX bo ro (bt (λ z:ShK=>z.2.1) rd.eq) h n h1 h2
theorem zab {lim i j:Nat} (rd:RoundAt bs rs lim (i + 1) j) (h:j6 (jt bs rs (i + 1) j)):mvd bs rs i=true:=by
 cases z:mvd bs rs i with
 | true=>rfl
 | false =>
  have lt:=rd.lt;obtain ⟨m,rfl⟩:∃ m,j=i + m + 1:=⟨j - i - 1,by omega⟩;have st:=λ n h1 h2=>zaa mX bo ro rd h n h1 h2;obtain ⟨a1,a2,a3⟩:=zeu (bs:=bs) (rs:=rs) (i:=i) m λ n h1 h2=>by
   rcases Nat.eq_or_lt_of_le h1 with e|e
   ·rw [<- e];exact z
   ·exact st n e (by omega)
  refine absurd ?_ (rd.fst i (i + m) (by omega) (by omega));have et:(zh bs rs (i + 1)).turn % xp bs rs=(zh bs rs (i + m + 1)).turn % xp bs rs:=aI (bt (λ z:ShK=>z.1) rd.eq);rw [qk,qk] at et;have e1:(zh bs rs i).turn % xp bs rs=(zh bs rs (i + m)).turn % xp bs rs:=by
   rw [qk,qk];have:=dD;have d:=Int.emod_sub_cancel_right (m:=(((i + 1:Nat):Int))) (n:=xp bs rs) (k:=(((i + m + 1:Nat):Int))) 1;have:=d.mpr et;rw [show ((i + 1:Nat):Int) - 1=i by omega,show ((i + m + 1:Nat):Int) - 1=((i + m:Nat):Int) by omega] at this;exact this
  unfold qD Qp;rw [e1,a1,a2]
  congr 3
  refine ft λ q _=>?_;unfold jQ;rw [a3]
end
def we (c:Av):List (Int × Int):=c.reverse.filterMap id
def atC (cs:Au) (b p:Nat):zC:=(cs.getD b []).getD p none
def qx {α:Type} {l:List α} {i j:Nat} {x d:α}:(l.set i x).getD j d=if i=j/\i < l.length then x else l.getD j d:=by
 rw [ae,ae];by_cases e:i=j
 ·subst e;by_cases h:i < l.length
  ·rw [aS h,ap ⟨rfl,h⟩];rfl
  ·rw [ao (λ z=>h z.2),cv (by omega)]
 ·rw [be e,ao (λ z=>e z.1)]
def Xz (c:Av):xm c=c.getD (c.length - 1) none:=by
 unfold xm;rw [bb,cf,ae]
def Uq (cs:Au):Prop:=∀ b p b' p' x,atC cs b p=some x->atC cs b' p'=some x->b=b'/\p=p'
def GvL (cs:Au) (gs:List A6):Prop:=∀ b p x,atC cs b p=some x->x.2 < gAt gs x.1.toNat 0
def RowM (c c':Av):Prop:=∃ φ:Nat->Nat,(∀ q y,c'.getD q none=some y->c.getD (φ q) none=some y)/\∀ q q' y y',c'.getD q none=some y->c'.getD q' none=some y'->φ q=φ q'->q=q'
section
variable {cs:Au} {gs:List A6} {c c' d:Av}
def RowM.refl:RowM c c:=⟨id,λ _ _ h=>h,λ _ _ _ _ _ _ h=>h⟩
def RowM.trans (h:RowM c c') (h':RowM c' d):RowM c d:=by
 obtain ⟨f,f1,f2⟩:=h;obtain ⟨g,g1,g2⟩:=h';exact ⟨λ q=>f (g q),λ q y e=>f1 _ _ (g1 q y e),λ q q' y y' e e' z=>g2 q q' y y' e e' (f2 _ _ y y' (g1 q y e) (g1 q' y' e') z)⟩
def RowM.take (p:Nat):RowM c (c.set p none):=⟨id,λ q y e=>by
 rw [qx] at e
 split at e
 ·cases e
 ·exact e,λ _ _ _ _ _ _ h=>h⟩
def RowM.mvS (p:Nat):RowM c (qE c p):=by
 unfold qE
 split
 ·have key:∀ q y,((c.set (p + 1) (c.getD p none)).set p none).getD q none=some y->q≠p/\c.getD (if q=p + 1 then p else q) none=some y:=λ q y e=>by
   rw [qx] at e
   split at e
   ·cases e
   ·rename_i h1;rw [qx] at e
    split at e
    ·rename_i h2;rw [ap h2.1.symm];exact ⟨by omega,e⟩
    ·rename_i h2;by_cases e1:q=p + 1
     ·refine absurd e ?_;rw [ae,bZ (by have:¬ p + 1 < c.length:=λ z=>h2 ⟨e1.symm,z⟩;omega)];exact λ z=>nomatch z
     ·rw [ao e1];refine ⟨λ e2=>h1 ⟨e2.symm,?_⟩,e⟩;rw [bI];refine bH λ z=>?_;rw [ae,bZ (by omega)] at e;cases e
  exact ⟨λ q=>if q=p + 1 then p else q,λ q y e=>(key q y e).2,λ q q' y y' e e' z=>by
   have n1:=(key q y e).1;have n2:=(key q' y' e').1;have z:(if q=p + 1 then p else q)=if q'=p + 1 then p else q':=z
   split at z <;> split at z <;> omega⟩
 ·exact .refl
theorem RowM.mvG:∀ k,RowM c (xU c k)
 | 0=>.refl
 | k + 1=>(RowM.mvG k).trans (.mvS _)
def vo {b b' p:Nat}:atC (cs.set b c) b' p=if b=b'/\b < cs.length then c.getD p none else atC cs b' p:=by
 unfold atC;rw [qx]
 split <;> rfl
def Uq.row (h:Uq cs) {b:Nat} (m:RowM (cs.getD b []) c'):Uq (cs.set b c'):=by
 obtain ⟨f,f1,f2⟩:=m;intro b1 p1 b2 p2 x e1 e2;rw [vo] at e1 e2
 split at e1 <;> split at e2
 ·rename_i h1 h2;obtain ⟨rfl,_⟩:=h1;obtain ⟨rfl,_⟩:=h2;exact ⟨rfl,f2 _ _ x x e1 e2 (h b _ b _ x (f1 _ _ e1) (f1 _ _ e2)).2⟩
 ·rename_i h1 h2;obtain ⟨rfl,l⟩:=h1;obtain ⟨e3,_⟩:=h b _ b2 p2 x (f1 _ _ e1) e2;exact absurd ⟨e3,l⟩ h2
 ·rename_i h1 h2;obtain ⟨rfl,l⟩:=h2;obtain ⟨e3,_⟩:=h b1 p1 b _ x e1 (f1 _ _ e2);exact absurd ⟨e3.symm,l⟩ h1
 ·exact h _ _ _ _ x e1 e2
def GvL.row (h:GvL cs gs) {b:Nat} (m:RowM (cs.getD b []) c'):GvL (cs.set b c') gs:=by
 obtain ⟨f,f1,_⟩:=m;intro b1 p1 x e1;rw [vo] at e1
 split at e1
 ·exact h b _ x (f1 _ _ e1)
 ·exact h _ _ x e1
def Uq.put (h:Uq cs) {x:Int × Int} (no:∀ b p,atC cs b p≠some x) (b:Nat):Uq (cs.set b ((cs.getD b []).set 0 (some x))):=by
 have key:∀ b1 p1 y,atC (cs.set b ((cs.getD b []).set 0 (some x))) b1 p1=some y->(y=x/\b1=b/\p1=0)\/atC cs b1 p1=some y:=λ b1 p1 y e=>by
  rw [vo] at e
  split at e
  ·rename_i h1;obtain ⟨rfl,_⟩:=h1;rw [qx] at e
   split at e
   ·rename_i h2;exact .inl ⟨(aI e).symm,rfl,h2.1.symm⟩
   ·exact .inr e
  ·exact .inr e
 intro b1 p1 b2 p2 y e1 e2;rcases key _ _ _ e1 with ⟨z1,z2,z3⟩|e1 <;> rcases key _ _ _ e2 with ⟨y1,y2,y3⟩|e2
 ·exact ⟨by omega,by omega⟩
 ·exact absurd (z1 ▸ e2) (no _ _)
 ·exact absurd (y1 ▸ e1) (no _ _)
 ·exact h _ _ _ _ y e1 e2
theorem zg9 {bs:A1} {t:Int} (h:Uq cs) (g:GvL cs gs):∀ i,Uq (zY bs t cs i)/\GvL (zY bs t cs i) gs
 | 0=>⟨h,g⟩
 | i + 1=>by
  obtain ⟨h1,h2⟩:=zg9 (bs:=bs) (t:=t) h g i;rw [zY]
  split
  ·exact ⟨h1.row (RowM.mvG _),h2.row (RowM.mvG _)⟩
  ·exact ⟨h1,h2⟩
end
section
variable {bs:A1} {rs:At} {s:PSt}
def zig (w:stWf bs rs s) (ro:∀ r∈rs,r.ok) (h:Uq s.cells) (g:GvL s.cells s.gone) (k:Nat):Uq (qg rs s k).1.cells/\GvL (qg rs s k).1.cells (qg rs s k).1.gone:=by
 have mono:=Ql rs s k;unfold qg at mono ⊢;cases hr:rs[k]? with
 | none=>exact ⟨h,g⟩
 | some r =>
  rw [hr] at mono;have ok:=ro r (ah hr);have hk:=(aa.mp hr).1;simp only at mono ⊢;cases hc:zX r (qc rs s.cells r) (qA s.cells r) s.turn (s.sides.getD k 0).toNat with
  | none=>exact ⟨h,g⟩
  | some ch =>
   rw [hc] at mono;simp only at mono ⊢;have sd:=w.so.2 k r _ hr (qh (d:=0) (by rw [w.so.1];exact hk));have sd':wx r ((s.sides.getD k 0).toNat:Int):=by rw [bP sd.1];exact sd
   refine oA6 (xB ok (by simp [qc]) (by simp [qA]) sd' hc) λ c1 _ _ c4 _ c6=>?_;have hgk:k < s.gone.length:=by rw [w.go.1];exact hk
   have gl:=(w.go.2 k r _ hr (qh (xs:=s.gone) (d:=[]) hgk)).1;have gN:(vT r s k ch).1.gone=s.gone.set k (ZR (s.gone.getD k []) (jM r ch)):=by
    show (movedF r s k ch).gone.set k (ZR ((movedF r s k ch).gone.getD k []) (jM r ch))=_
    rw [movedF_keep.2.2]
   have tk:Uq (z6 s k (qF r ch)).2.cells/\(∀ b p x,atC (z6 s k (qF r ch)).2.cells b p=some x->atC s.cells b p=some x)/\∀ x,(z6 s k (qF r ch)).1=some x->(∀ b p,atC (z6 s k (qF r ch)).2.cells b p≠some x)/\x.2 < gAt (vT r s k ch).1.gone x.1.toNat 0:=by
    cases e:qF r ch with
    | none =>
     have hs:r.wd=.source:=by
      cases e1:ch.1 with
      | none=>exact c4 e1
      | some j =>
       unfold qF at e;rw [e1] at e;simp at e;have:=c1 j e1;omega
     refine ⟨h,λ _ _ _ z=>z,λ x ex=>?_⟩;have ex:((k:Int),(s.gone.getD k []).headD 0)=x:=aI ex;subst ex;refine ⟨λ b p z=>?_,?_⟩
     ·have:=g b p _ z;rw [xV] at this;simp only [aA] at this;omega
     ·rw [gN,xV];simp only [aA];have cp:jM r ch=0:=by
       have:(qr r).length=1:=by
        have l:=wH ok;unfold Row.ok at ok;rw [hs] at ok;unfold qr;rw [a9,ok.1];obtain ⟨o,ho⟩:=ok.2.1;rw [ho]
        rfl
       omega
      rw [cp,Qf hgk (by rw [gl];omega),ap ⟨rfl,rfl⟩];omega
    | some b =>
     have inn:∀ b1 p1 x,atC (s.cells.set b.toNat (xD (zI s.cells b))) b1 p1=some x->atC s.cells b1 p1=some x:=λ b1 p1 x z=>by
      rw [vo] at z
      split at z
      ·rename_i h1;obtain ⟨rfl,_⟩:=h1;unfold xD at z;rw [qx] at z
       split at z
       ·cases z
       ·exact z
      ·exact z
     refine ⟨h.row (RowM.take _),inn,λ x ex=>?_⟩;have ex:xm (zI s.cells b)=some x:=ex;rw [Xz] at ex;have at0:atC s.cells b.toNat ((zI s.cells b).length - 1)=some x:=ex;refine ⟨λ b1 p1 z=>?_,dL (g _ _ x at0) (mono _ _)⟩;obtain ⟨e1,e2⟩:=h _ _ _ _ x (inn _ _ _ z) at0;subst e1 e2;have hb:b.toNat < s.cells.length:=bH λ y=>by
      unfold atC at at0;rw [ae (l:=s.cells),bZ (by omega)] at at0;simp at at0
     have hl:(zI s.cells b).length - 1 < (zI s.cells b).length:=bH λ y=>by
      have:(zI s.cells b).length=0:=by omega
      rw [ae,bZ (by omega)] at ex;cases ex
     have z:atC (s.cells.set b.toNat (xD (zI s.cells b))) b.toNat ((zI s.cells b).length - 1)=some x:=z;rw [vo,ap ⟨rfl,hb⟩] at z;unfold xD at z;rw [qx,ap ⟨rfl,hl⟩] at z;cases z
   obtain ⟨u1,u2,u3⟩:=tk;have up:∀ b p x,atC s.cells b p=some x->x.2 < gAt (vT r s k ch).1.gone x.1.toNat 0:=λ b p x z=>dL (g b p x z) (mono _ _);show Uq (movedF r s k ch).cells/\GvL (movedF r s k ch).cells (vT r s k ch).1.gone
   unfold movedF;cases Zz r ch with
   | none=>exact ⟨u1,λ b p x z=>up b p x (u2 b p x z)⟩
   | some b =>
    cases ex:(z6 s k (qF r ch)).1 with
    | none=>exact ⟨u1.row (RowM.take 0),λ b1 p1 x z=>by
      change atC ((z6 s k (qF r ch)).2.cells.set b.toNat ((zI (z6 s k (qF r ch)).2.cells b).set 0 none)) b1 p1=some x at z;rw [vo] at z
      split at z
      ·rw [qx] at z
       split at z
       ·cases z
       ·exact up _ _ x (u2 _ _ x z)
      ·exact up _ _ x (u2 _ _ x z)⟩
    | some x =>
     obtain ⟨no,lx⟩:=u3 x ex;refine ⟨u1.put no b.toNat,λ b1 p1 y z=>?_⟩;change atC ((z6 s k (qF r ch)).2.cells.set b.toNat ((zI (z6 s k (qF r ch)).2.cells b).set 0 (some x))) b1 p1=some y at z;rw [vo] at z
     split at z
     ·rw [qx] at z
      split at z
      ·cases z;exact lx
      ·exact up _ _ y (u2 _ _ y z)
     ·exact up _ _ y (u2 _ _ y z)
theorem zdd (w:stWf bs rs s) (mX:zJ bs rs) (bo:∀ b∈bs,zz b.1 b.2) (ro:∀ r∈rs,r.ok) (h:Uq s.cells) (g:GvL s.cells s.gone):∀ m,Uq (zo rs s m).1.cells/\GvL (zo rs s m).1.cells (zo rs s m).1.gone
 | 0=>⟨h,g⟩
 | m + 1=>by
  obtain ⟨h1,g1⟩:=zdd w mX bo ro h g m;exact zig (qQ w mX bo ro m) ro h1 g1 m
theorem zcy (mX:zJ bs rs) (bo:∀ b∈bs,zz b.1 b.2) (ro:∀ r∈rs,r.ok):∀ n,Uq (zh bs rs n).cells/\GvL (zh bs rs n).cells (zh bs rs n).gone
 | 0=>by
  have no:∀ b p,atC (zh bs rs 0).cells b p=none:=λ b p=>by
   show ((bs.map λ b=>List.replicate b.1.toNat (none:zC)).getD b []).getD p none=none
   rw [ae,ae,ak];cases bs[b]? with
   | none=>rfl
   | some y =>
    show ((List.replicate y.1.toNat (none:zC))[p]?).getD none=none
    rw [c8]
    split <;> rfl
  exact ⟨λ b p _ _ x e=>absurd ((no b p).symm.trans e) (λ z=>nomatch z),λ b p x e=>absurd ((no b p).symm.trans e) (λ z=>nomatch z)⟩
 | n + 1=>by
  obtain ⟨h,g⟩:=zcy mX bo ro n;obtain ⟨h1,g1⟩:=zdd (zu mX bo ro n) mX bo ro h g rs.length;exact zg9 h1 g1 _
end
def zfP (h:n<=30000):n < sizeLine:=cr h (by decide)
def kW (x:Int × Int):List Key:=[.inl x.1,.inl x.2]
def zhW {x y:Int × Int} (h:kW x=kW y):x=y:=by
 obtain ⟨a,b⟩:=x;obtain ⟨c,d⟩:=y;simp only [kW,dq,Sum.inl.injEq,and_true] at h;rw [h.1,h.2]
def queue_mem {c:Av} {x:Int × Int}:x∈we c ↔ some x∈c:=by
 unfold we;rw [dJ];constructor
 ·rintro ⟨y,h1,h2⟩;have h2:y=some x:=h2;rw [<- h2];exact List.mem_reverse.mp h1
 ·exact λ h=>⟨some x,List.mem_reverse.mpr h,rfl⟩
def flat_mem {cs:Au} {x:Int × Int}:x∈(cs.map we).flatten ↔ ∃ c∈cs,some x∈c:=by
 rw [List.mem_flatten];constructor
 ·rintro ⟨l,h1,h2⟩;obtain ⟨c,h3,rfl⟩:=aV.mp h1;exact ⟨c,h3,queue_mem.mp h2⟩
 ·rintro ⟨c,h1,h2⟩;exact ⟨we c,aV.mpr ⟨c,h1,rfl⟩,queue_mem.mpr h2⟩
def zdH (m9:As) (k:List Key) (v:V):(vv m9 k v).length<=m9.length + 1:=by
 unfold vv
 split <;> simp
structure LayD (H:Hp) (m9:As) (seen:Int × Int->Prop) (full:Au):Prop where
 n:∀ x,j5 m9 (kW x)=none->¬ seen x
 s:∀ x v,j5 m9 (kW x)=some v->∃ (t:Addr) (b p:Nat) (c:Av),v=.ref t/\H t=some (.tup [.int b,.int p])/\full[b]?=some c/\c[p]?=some (some x)
section
variable {H H':Hp} {m9:As} {seen seen':Int × Int->Prop} {full:Au}
def LayD.same (h:LayD H m9 seen full) (s:Same H H'):LayD H' m9 seen full:=⟨h.n,λ x v e=>by
 refine oE4 (h.s x v e) λ t b p c m5=>oA3 m5 λ e1 e2 e3=>?_;clear m5;exact (iE4 t b p c (iA3 e1 (s _ _ e2) e3))⟩
def LayD.less (h:LayD H m9 seen full) (s:∀ x,seen' x->seen x):LayD H m9 seen' full:=⟨λ x e z=>h.n x e (s x z),h.s⟩
def LayD.put (h:LayD H m9 seen full) {D t:Addr} {b p:Nat} {c:Av} {x:Int × Int} (hD:H D=some (.dT m9)) (ht:H t=some (.tup [.int b,.int p])) (hc:full[b]?=some c) (hx:c[p]?=some (some x)):LayD (upd H D (.dT (vv m9 (kW x) (.ref t)))) (vv m9 (kW x) (.ref t)) (λ y=>seen y\/y=x) full:=by
 have ne:∀ u xs,H u=some (.tup xs)->u≠D:=λ u xs hu z=>by rw [z,hD] at hu;cases hu
 refine ⟨λ y e z=>?_,λ y v e=>?_⟩
 ·rw [V6] at e
  split at e
  ·cases e
  ·rename_i hn;rcases z with z|z
   ·exact h.n y e z
   ·exact hn (by rw [z])
 ·rw [V6] at e
  split at e
  ·rename_i hn;cases e;rw [zhW hn];exact iE4 t b p c (iA4 rfl (by rw [nu (ne t _ ht)];exact ht) hc hx)
  ·refine oE4 (h.s y v e) λ t' b' p' c' m5=>oA3 m5 λ e1 e2 e3=>?_;clear m5;exact iE4 t' b' p' c' (iA3 e1 (by rw [nu (ne t' _ e2)];exact e2) e3)
end
def JN (cs:Au) (i j:Nat) (x:Int × Int):Prop:=x∈((cs.take i).map we).flatten\/∃ c,cs[i]?=some c/\some x∈c.take j
def zds {cs:Au} {c:Av} {x:Int × Int} (h:cs[i]?=some c) (z:x∈((cs.take (i + 1)).map we).flatten):JN cs i c.length x:=by
 rw [aK,h,a7,List.flatten_append] at z;rcases aE.mp z with z|z
 ·exact .inl z
 ·refine .inr ⟨c,h,?_⟩;rw [aN];have z:x∈(we c ++ []):=z;rw [cg] at z;exact queue_mem.mp z
def zir (a:Ad):Sp:=λ vs H Q _=>∃ (y:Addr) (n:SN) (st:PSt),vs=[.ref y]/\StO a H y n st/\st.cells.length<=24/\(∀ c∈st.cells,c.length<=6)/\∀ D m9 H',Same H H'->H D=none->H' D=some (.dT m9)->LayD H' m9 (λ x=>x∈(st.cells.map we).flatten) st.cells->Q (.ref D) H'
theorem Jr (T:Txt K mg a):Cal P w K mg base "cells_by_ware" 1 ["state"] [] (zir a):=T.iO.cal λ F=>by
 refine F.okx Qr ?_ ?_
 ·walk_at "i"
 walk_at "j";refine oE3 h λ y n st m5=>oA5 m5 λ m7 so l24 l6 k=>?_;clear m5 h;subst m7;have hc:=so.hc;have lc:n.acs.length=st.cells.length:=by rw [hc.len,zH,af]
 walk_at "T";refine ⟨_,(zi (zp 1 Qr.nd zeY)  (qM (qt qI rfl (jo (za (zk (pq 0) rfl) zc)) (va (n:=2) rfl (qj (qp 2 Qr.nd) (qj (qp 3 Qr.nd) xu)))  (ze (qt qI rfl (jo (za (pq 3) zc)) (va (n:=2) rfl (qj (qp 4 Qr.nd) (qj (qp 5 Qr.nd) xu)))  (ze (zL (zx wl (pq 5) zE (zy _))  (ze (zgl (zcR hr) (pq 1) (pq 5) (qS (za (pq 2) (za (pq 4) zc))) rfl))  zt)))))  (ze (zl (pq 1))))),?_⟩;walk_at "a";intro D hD;have s1:=zg (o:=.dT []) hD;have hD1:upd H D (.dT []) D=some (.dT []):=nk;generalize upd H D (.dT [])=H1 at s1 hD1 ⊢;have ld0:LayD H1 [] (JN st.cells 0 0) st.cells:=⟨λ x _ z=>by
  rcases z with z|⟨c,_,z⟩
  ·simp at z
  ·simp at z,λ x v e=>by simp [j5] at e⟩
 have keep:∀ {H':Hp} {m9:As} {o:HO},Same H H'->Same H (upd H' D o):=λ s b u hb=>by
  rw [nu (nz hb hD)];exact s b u hb
 refine cut (λ σ' H'=>∃ (v2 v3 v4 v5:Aq) (m9:As),σ'=[some (.ref y),some (.ref D),v2,v3,v4,v5]/\Same H H'/\H' D=some (.dT m9)/\LayD H' m9 (λ x=>x∈(st.cells.map we).flatten) st.cells) ?_ ?_
 ·walk_at "d";walk_at "a";refine ra (s1 _ _ so.hy) T.gd T.gf rfl ?_;refine iE2 n.lc _ (iA3 rfl (s1 _ _ hc.out) ?_);refine WG (K:=K) (a:=n.lc) (xs:=n.acs.map V.ref) (λ i σ H'=>∃ (v2 v3 v4 v5:Aq) (m9:As),σ=[some (.ref y),some (.ref D),v2,v3,v4,v5]/\Same H H'/\H' D=some (.dT m9)/\LayD H' m9 (λ x=>x∈((st.cells.take i).map we).flatten) st.cells/\m9.length<=6 * i) (iE5 _ _ _ _ ([]) (iA5 rfl s1 hD1 (ld0.less λ x z=>by simp at z) (av _))) (λ i σ H' _ h=>by obtain ⟨_,_,_,_,_,_,s,_⟩:=h;exact SqL.of (s _ _ hc.out)) ?_ ?_
  ·intro i x t σ H2 hi ht m8;refine oE5 m8 λ v2 v3 v4 v5 m9 m5=>oA5 m5 λ m7 s2 hD2 ld2 lk2=>?_;clear m5 m8;subst m7;rw [ak,am] at hi;obtain ⟨cb,hcb,rfl⟩:=hi;have hil:i < st.cells.length:=by rw [<- lc];exact (aa.mp hcb).1
   obtain ⟨c,ec⟩:∃ c,st.cells[i]?=some c:=⟨_,ad hil⟩;obtain ⟨vs,hvs,rvs⟩:=hc.g i cb _ hcb (show (zH st.cells)[i]?=some (c.map zS) by rw [zH,ak,ec];rfl);have lv:vs.length=c.length:=by rw [rvs.len,af]
   have c6:=l6 c (ah ec);have st2:=zg (o:=.tup [.int i,.ref cb]) ht;refine un2 nk ?_;have s3:=s2.trans st2;have hD3:=st2 _ _ hD2;have ld3:=ld2.same st2;generalize upd H2 t (.tup [.int i,.ref cb])=H3 at s3 hD3 ld3 ⊢;clear ld2 hD2 s2 st2 ht;walk_at "d";walk_at "a";refine iE2 cb _ (iA3 rfl (s3 _ _ hvs) ?_);refine WG (K:=K) (a:=cb) (xs:=vs) (λ j σ H'=>∃ (v4 v5:Aq) (m9:As),σ=[some (.ref y),some (.ref D),some (.int i),some (.ref cb),v4,v5]/\Same H H'/\H' D=some (.dT m9)/\LayD H' m9 (JN st.cells i j) st.cells/\m9.length<=6 * i + j) ⟨_,_,m9,rfl,s3,hD3,ld3.less λ x z=>by
    rcases z with z|⟨_,_,z⟩
    ·exact z
    ·simp at z,lk2⟩ (λ i σ H' _ h=>by obtain ⟨_,_,_,_,s,_⟩:=h;exact SqL.of (s _ _ hvs)) ?_ ?_
   ·clear ld3 hD3 s3 lk2;intro j v t σ H4 hj ht m8;refine oE3 m8 λ v4 v5 m9 m5=>oA5 m5 λ m7 s4 hD4 ld4 lk4=>?_;clear m5 m8;subst m7;obtain ⟨d,hd,rv⟩:=rvs.at hj;rw [ak,am] at hd;obtain ⟨wr,hwr,rfl⟩:=hd;have hjl:j < c.length:=(aa.mp hwr).1;have sn:∀ x,JN st.cells i (j + 1) x->JN st.cells i j x\/wr=some x:=λ x z=>by
     rcases z with z|⟨c',e,z⟩
     ·exact .inl (.inl z)
     ·rw [ec] at e;cases e;rw [aK,hwr] at z;rcases aE.mp z with z|z
      ·exact .inl (.inr ⟨c,ec,z⟩)
      ·exact .inr (aw.mp z).symm
    have st4:=zg (o:=.tup [.int j,v]) ht;refine un2 nk ?_;have s5:=s4.trans st4;have hD5:=st4 _ _ hD4;have ld5:=ld4.same st4;generalize upd H4 t (.tup [.int j,v])=H5 at s5 hD5 ld5 ⊢;clear ld4 hD4 s4 st4 ht;cases wr with
    | none =>
     have rv:Rep H (zV H) v .non:=rv;cases rv;walk_at "a";exact iE3 _ _ m9 (iA5 rfl s5 hD5 (ld5.less λ x z=>(sn x z).elim id (λ z=>nomatch z)) (by omega))
    | some x =>
     obtain ⟨tx,rfl,htx⟩:=jJ (b:=x) rv;walk_at "a";intro t6 ht6;have st6:=zg (o:=.tup [.int i,.int j]) ht6;have s6:=s5.trans st6;have hD6:=st6 _ _ hD5;have ld6:=ld5.same st6;have ht6':upd H5 t6 (.tup [.int i,.int j]) t6=some (.tup [.int i,.int j]):=nk;generalize upd H5 t6 (.tup [.int i,.int j])=H6 at s6 hD6 ld6 ht6' ⊢;refine iE2 D _ (iA3 rfl (DPut.t (k:=kW x) hD6 (s6 _ _ htx) (zfP (by omega))) ?_);have pl:=zdH m9 (kW x) (.ref t6);refine iE3 _ _ _ (iA5 rfl (keep (m9:=m9) s6) nk ((ld6.put hD6 ht6' ec hwr).less λ z hz=>(sn z hz).imp id (λ e=>by cases e;rfl)) (by omega))
   ·intro σ H4 m8;refine oE3 m8 λ v4 v5 m9 m5=>oA5 m5 λ m7 s4 hD4 ld4 lk4=>?_;clear m5 m8;subst m7;rw [lv] at ld4 lk4;exact iE5 _ _ _ _ m9 (iA5 rfl s4 hD4 (ld4.less λ x z=>zds ec z) (by omega))
  ·intro σ H2 m8;refine oE5 m8 λ v2 v3 v4 v5 m9 m5=>oA5 m5 λ m7 s2 hD2 ld2 lk2=>?_;clear m5 m8;subst m7;rw [af,lc,aN] at ld2;exact iE5 _ _ _ _ m9 (iA4 rfl s2 hD2 ld2)
 intro σ' H2 m8;refine oE5 m8 λ v2 v3 v4 v5 m9 m5=>oA4 m5 λ m7 s2 hD2 ld2=>?_;clear m5 m8;subst m7;walk_at "a";exact k D m9 _ s2 hD hD2 ld2
inductive Org|no|kept (b p:Nat)|new (k:Nat) (m:Int)
def zbQ:Org->D
 | .no=>.non
 | .kept b p=>.tup [.str "kept",.int b,.int p]
 | .new k m=>.tup [.str "new",.int k,.int m]
def WV (s0:PSt):zC->Org->Prop
 | none,.no=>True
 | some x,.kept b p=>∃ c,s0.cells[b]?=some c/\c[p]?=some (some x)
 | some x,.new k m=>x.1=k/\x ∉ (s0.cells.map we).flatten/\m=x.2 - (s0.gone.getD k []).headD 0/\∃ g0 gs,s0.gone[k]?=some (g0 :: gs)
 | _,_=>False
def zfH (s0:PSt) (wr:zC):Prop:=∀ x,wr=some x->∃ (k:Nat) (g0:Int) (gs:A6),x.1=k/\s0.gone[k]?=some (g0 :: gs)
def zex (a:Ad):Sp:=λ vs H Q _=>∃ (vw:V) (D y:Addr) (n:SN) (s0:PSt) (wr:zC) (m9:As) (p:A5),vs=[vw,.ref D,.ref y]/\Rep H p vw (zS wr)/\H D=some (.dT m9)/\LayD H m9 (λ x=>x∈(s0.cells.map we).flatten) s0.cells/\StO a H y n s0/\zfH s0 wr/\∀ v H' o,Same H H'->Rep H' (New H) v (zbQ o)->WV s0 wr o->Q v H'
theorem zbf (T:Txt K mg a):Cal P w K mg base "origin_of" 1 ["ware","lay","before"] [] (zex a):=T.lA.cal λ F=>by
 refine F.okx Ve ?_ ?_
 ·walk_at "i"
 walk_at "j";refine oE8 h λ vw D y n s0 wr m9 p m5=>oA7 m5 λ m7 rv hD ld so ca k=>?_;clear m5 h;subst m7;walk_at "T";refine ⟨_,(zi (zL (zx jq (pq 0) zE (zy _))  (ze (zl zE))  zt)  (zi (zL (zeO (zhF (zcR hr) (pq 0) (pq 1)) (by with_unfolding_all rfl))  (ze (zl (qS (za jI (za (zn (zcA (zcR hr) (pq 1) (pq 0) (λ _ _=>rfl)) zf) (za (zn (zcA (zcR hr) (pq 1) (pq 0) (λ _ _=>rfl)) zf) zc))))))  zt)  (ze (zl (qS (za jI (za (zn (pq 0) zf) (za (zG xl (zn (pq 0) zf) (zn (zn (zk (pq 2) rfl) (zn (pq 0) zf)) zf)) zc)))))))),?_⟩;walk_at "a";cases wr with
 | none =>
  have rv:Rep H p vw .non:=rv;cases rv;walk_at "a";exact k _ _ .no (Same.refl _) .non trivial
 | some x =>
  obtain ⟨tx,rfl,htx⟩:=jJ (b:=x) rv;walk_at "a";refine iE2 D _ (iA3 rfl (DGet.t (k:=kW x) hD htx) ?_);cases ev:j5 m9 (kW x) with
  | some v =>
   refine oE4 (ld.s x v ev) λ t b q c m5=>oA4 m5 λ m7 ht e1 e2=>?_;clear m5;subst m7;walk_at "a";refine iE2 D (.ref t) (iA3 rfl (by rw [<- ev];exact DGet.t (k:=kW x) hD htx) (nB ht at0 ?_));refine iE2 D (.ref t) (iA3 rfl (by rw [<- ev];exact DGet.t (k:=kW x) hD htx) (nB ht (show atI _ 1=some (.int q) from rfl) ?_));intro t2 ht2;exact k _ _ (.kept b q) (zg ht2) (Reps.mkT (vs:=[.str "kept",.int b,.int q]) (.cons .str (.cons .int (.cons .int .nil))) ht2 nk) ⟨c,e1,e2⟩
  | none =>
   refine oE3 (ca x rfl) λ kk g0 gs m5=>oA2 m5 λ ek eg=>?_;clear m5;obtain ⟨bG,hbG,hgG⟩:=jA so.hg eg;have hmap:(n.ags.map V.ref)[kk]?=some (.ref bG):=by rw [ak,hbG];rfl
   walk_at "a";refine nB htx at0 (nB htx (show atI _ 1=some (.int x.2) from rfl) ?_);refine ra so.hy T.gd T.gi rfl ?_;refine nB htx at0 ?_;rw [ek];refine zq (SqL.of so.hg.out) (zD hmap) (zq (SqL.of hgG) at0 ?_);walk_at "a";intro t2 ht2;refine k _ _ (.new kk (x.2 - g0)) (zg ht2) (Reps.mkT (vs:=[.str "new",.int kk,.int (x.2 - g0)]) (.cons .str (.cons .int (.cons .int .nil))) ht2 nk) (iA4 ek (ld.n x ev) ?_ (iE2 g0 gs eg));rw [ae,eg]
   rfl
def V2 (s0 s1:PSt) (oss:List (List Org)):Prop:=oss.length=s1.cells.length/\∀ (i:Nat) os c,oss[i]?=some os->s1.cells[i]?=some c->os.length=c.length/\∀ (j:Nat) o wr,os[j]?=some o->c[j]?=some wr->WV s0 wr o
def zcE (oss:List (List Org)):D:=.lst (oss.map λ os=>.lst (os.map zbQ))
def zdm (a:Ad):Sp:=λ vs H Q _=>∃ (y0 y1:Addr) (n0 n1:SN) (s0 s1:PSt),vs=[.ref y0,.ref y1]/\StO a H y0 n0 s0/\StO a H y1 n1 s1/\s0.cells.length<=24/\(∀ c∈s0.cells,c.length<=6)/\s1.cells.length<=24/\(∀ c∈s1.cells,c.length<=6/\∀ wr∈c,zfH s0 wr)/\∀ l H' oss,Same H H'->Rep H' (New H) (.ref l) (zcE oss)->V2 s0 s1 oss->Q (.ref l) H'
def VW (T:Txt K mg a):Cal P w K mg base "origins_of" 2 ["before","after"] [] (zdm a):=T.kO.cal λ F=>by
 refine F.okx XS ?_ ?_
 ·walk_at "i"
 walk_at "j";refine oE6 h λ y0 y1 n0 n1 s0 s1 m5=>oA8 m5 λ m7 so0 so1 l24 l6 m24 m6 k=>?_;clear m5 h;subst m7;walk_at "T";refine ⟨_,(zi (zeP (i:=2) XS.nd rfl (Or.inr rfl) (zw ⟨rfl,rfl,rfl⟩ hr (za (pq 0) zc)))  (zi (zp 3 XS.nd (zK zc))  (qM (qt qI rfl (ql (zk (pq 1) rfl)) (qp 4 XS.nd)  (ze (zF (qP ar az ay zU (pq 3) (za (jY (vars:=["ware"]) (caps:=[2,0]) (N:=["ware","lay","before"]) (ON:=["before","after","lay","origins","cells"]) (osc:=zd xq) rfl rfl (by first|decide +kernel|kernel_rfl) rfl rfl (ql (pq 4)) (λ s H fp m4=>(qp 0 (show (["ware","lay","before"]:A8).Nodup from by decide +kernel))) (λ s H fp m4=>qo) (λ s H fp m4=>(vH hr (za (pq 0) (za (pq 1) (za (pq 2) zc)))))) zc)))))  (ze (zl (pq 3)))))),?_⟩;walk_at "a";refine uc (Jr T).mono (iE3 y0 n0 s0 (iA5 rfl so0 l24 l6 (λ D m9 H1 s1' nD hD ld=>?_)));walk_at "a";intro l hl;have sl:=zg (o:=.lst []) hl;have s2:=s1'.trans sl;have nl0:=zA s1' hl;have hD2:=sl _ _ hD;have ld2:=ld.same sl;have hl2:upd H1 l (.lst []) l=some (.lst []):=nk;generalize upd H1 l (.lst [])=H2 at s2 hD2 ld2 hl2 ⊢;have hc:=so1.hc;have lc:n1.acs.length=s1.cells.length:=by rw [hc.len,zH,af]
 clear ld hD s1' sl;walk_at "a";refine cut (λ σ' H'=>∃ (v4:Aq) (us:Ap) (oss:List (List Org)),σ'=[some (.ref y0),some (.ref y1),some (.ref D),some (.ref l),v4]/\Same H H'/\H' l=some (.lst us)/\Reps H' (λ b=>H b=none/\b≠l) us (oss.map λ os=>.lst (os.map zbQ))/\V2 s0 s1 oss) ?_ ?_
 ·walk_at "d";walk_at "a";refine ra (s2 _ _ so1.hy) T.gd T.gf rfl ?_;refine ⟨n1.lc,rfl,.inl ⟨⟨_,SqL.of (s2 _ _ hc.out)⟩,?_⟩⟩;refine qH (K:=K) (a:=n1.lc) (xs:=n1.acs.map V.ref) (λ i σ H'=>∃ (v4:Aq) (us:Ap) (oss:List (List Org)),σ=[some (.ref y0),some (.ref y1),some (.ref D),some (.ref l),v4]/\Same H H'/\H' D=some (.dT m9)/\LayD H' m9 (λ x=>x∈(s0.cells.map we).flatten) s0.cells/\H' l=some (.lst us)/\Reps H' (λ b=>H b=none/\b≠l) us (oss.map λ os=>.lst (os.map zbQ))/\oss.length=i/\∀ (i':Nat) os c,oss[i']?=some os->s1.cells[i']?=some c->os.length=c.length/\∀ (j:Nat) o wr,os[j]?=some o->c[j]?=some wr->WV s0 wr o)
   ⟨_,[],[],rfl,s2,hD2,ld2,hl2,.nil,rfl,λ i' os c e=>by simp at e⟩ (λ i σ H' _ h=>by obtain ⟨_,_,_,_,s,_⟩:=h;exact SqL.of (s _ _ hc.out)) ?_ ?_
  ·intro i x σ H3 hi m8;refine oE3 m8 λ v4 us oss m5=>oA8 m5 λ m7 s3 hD3 ld3 hl3 r3 lo ok3=>?_;clear m5 m8;subst m7;rw [ak,am] at hi;obtain ⟨cb,hcb,rfl⟩:=hi;have hil:i < s1.cells.length:=by rw [<- lc];exact (aa.mp hcb).1
   obtain ⟨c,ec⟩:∃ c,s1.cells[i]?=some c:=⟨_,ad hil⟩;obtain ⟨vs,hvs,rvs⟩:=hc.g i cb _ hcb (show (zH s1.cells)[i]?=some (c.map zS) by rw [zH,ak,ec];rfl);have lv:vs.length=c.length:=by rw [rvs.len,af]
   obtain ⟨c6,cw⟩:=m6 c (ah ec);have lu:us.length=i:=by rw [r3.len,af,lo]
   walk_at "a";refine ⟨.inl ⟨rfl,_,SqL.of hl3⟩,?_⟩;walk_at "e";walk_at "a";refine ⟨cb,rfl,.inl ⟨⟨_,SqL.of (s3 _ _ hvs)⟩,λ _ _ _ _ mZ hacc=>?_⟩⟩;refine qH (K:=K) (a:=cb) (xs:=vs) (λ j σ H'=>∃ (v0:Aq) (ws:Ap) (os:List Org),σ=[v0,some (.ref D),some (.ref y0)]/\Same H3 H'/\H' mZ=some (.lst ws)/\Reps H' (λ b=>H3 b=none/\b≠mZ) ws (os.map zbQ)/\os.length=j/\∀ (j':Nat) o wr,os[j']?=some o->c[j']?=some wr->WV s0 wr o) (iE3 _ ([]) ([]) (iA6 rfl (zg hacc) nk (.nil) rfl (λ j' o wr e=>by simp at e))) (λ i σ H' _ h=>by obtain ⟨_,_,_,_,s,_⟩:=h;exact SqL.of (s _ _ (s3 _ _ hvs))) ?_ ?_
   ·intro j v σ H4 hj m8;refine oE3 m8 λ v0 ws os m5=>oA6 m5 λ m7 s4 ha4 r4 lo4 ok4=>?_;clear m5 m8;subst m7;obtain ⟨d,hd,rv⟩:=rvs.at hj;rw [ak,am] at hd;obtain ⟨wr,hwr,rfl⟩:=hd;have hjl:j < c.length:=(aa.mp hwr).1;have s04:=s3.trans s4;have lw:ws.length=j:=by rw [r4.len,af,lo4]
    walk_at "a";refine uc (zbf T).mono (iE8 v D y0 n0 s0 wr m9 _ (iA7 rfl (rv.keep (λ b o hb ho=>⟨hb,s04 _ _ ho⟩)) (s4 _ _ hD3) (ld3.same s4) (so0.same s04) (cw wr (ah hwr)) (λ v' H5 o s5 r5 ok5=>?_)));have f6:Fr [mZ] H5 (upd H5 mZ (.lst (ws ++ [v']))):=ji (by simp);refine ⟨_,iA3 (s5 _ _ ha4) (zm (by omega)) (iE3 _ (ws ++ [v']) (os ++ [o]) (iA6 rfl (((s4.trans s5).fr.trans f6).same (by intro m hm;rw [aw.mp hm];exact hacc)) nk ?_ (by simp [lo4]) (λ j' o' wr' e1 e2=>?_)))⟩
    ·rw [a7];refine (r4.keep λ b u hb ho=>⟨hb,f6 _ _ (λ z=>hb.2 (aw.mp z)) (s5 _ _ ho)⟩).append (.one (r5.keep λ b u hb ho=>?_));have hb:H4 b=none:=hb;have nb:b≠mZ:=λ z=>by rw [z,ha4] at hb;cases hb
     exact ⟨⟨zA s4 hb,nb⟩,f6 _ _ (λ z=>nb (aw.mp z)) ho⟩
    ·by_cases hj':j' < os.length
     ·rw [aQ hj'] at e1;exact ok4 j' o' wr' e1 e2
     ·rw [aM (by omega)] at e1;have hz:=(aa.mp e1).1;have:j'=j:=by simp at hz;omega
      subst this;rw [lo4,ff] at e1;cases e1;rw [hwr] at e2;cases e2;exact ok5
   ·intro σ H4 m8;refine oE3 m8 λ v0 ws os m5=>oA6 m5 λ m7 s4 ha4 r4 lo4 ok4=>?_;clear m5 m8;subst m7;rw [lv] at lo4;have s04:=s3.trans s4;have f6:Fr [l] H4 (upd H4 l (.lst (us ++ [.ref mZ]))):=ji (by simp);have nacl:mZ≠l:=λ z=>by rw [z,hl3] at hacc;cases hacc
    have nac0:H mZ=none:=zA s3 hacc;refine iE3 l _ _ (iA5 rfl rfl (s4 _ _ hl3) (zm (by omega)) ?_);have nDl:D≠l:=λ z=>by rw [z,hl3] at hD3;cases hD3
    have ld6:LayD (upd H4 l (.lst (us ++ [.ref mZ]))) m9 (λ x=>x∈(s0.cells.map we).flatten) s0.cells:=⟨ld3.n,λ x v e=>by
     refine oE4 (ld3.s x v e) λ t b p c m5=>oA3 m5 λ e1 e2 e3=>?_;clear m5;have nt:t≠l:=λ z=>by rw [z,hl3] at e2;cases e2
     exact (iE4 t b p c (iA3 e1 (by rw [nu nt];exact s4 _ _ e2) e3))⟩
    refine iE3 _ (us ++ [.ref mZ]) (oss ++ [os]) (iA8 rfl ((s04.fr.trans f6).same (by intro m hm;rw [aw.mp hm];exact nl0)) (by rw [nu nDl];exact s4 _ _ hD3) ld6 nk ?_ (by simp [lo]) (λ i' os' c' e1 e2=>?_))
    ·rw [a7];refine (r3.keep λ b u hb ho=>⟨hb,f6 _ _ (λ z=>hb.2 (aw.mp z)) (s4 _ _ ho)⟩).append (.one ?_);have r6:Reps (upd H4 l (.lst (us ++ [.ref mZ]))) (λ b=>H b=none/\b≠l) ws (os.map zbQ):=r4.keep λ b u hb ho=>by
      have nb:b≠l:=λ z=>by rw [z,hl3] at hb;cases hb.1
      exact ⟨⟨zA s3 hb.1,nb⟩,f6 _ _ (λ z=>nb (aw.mp z)) ho⟩
     exact r6.mk' ⟨nac0,nacl⟩ (by rw [nu nacl];exact ha4)
    ·by_cases hi':i' < oss.length
     ·rw [aQ hi'] at e1;exact ok3 i' os' c' e1 e2
     ·rw [aM (by omega)] at e1;have hz:=(aa.mp e1).1;have:i'=i:=by simp at hz;omega
      subst this;rw [lo,ff] at e1;cases e1;rw [ec] at e2;cases e2;exact ⟨lo4,ok4⟩
  ·intro σ H3 m8;refine oE3 m8 λ v4 us oss m5=>oA8 m5 λ m7 s3 hD3 ld3 hl3 r3 lo ok3=>?_;clear m5 m8;subst m7;rw [af,lc] at lo;exact iE3 _ us oss (iA6 rfl s3 hl3 r3 lo ok3)
 intro σ' H3 m8;refine oE3 m8 λ v4 us oss m5=>oA5 m5 λ m7 s3 hl3 r3 ok3=>?_;clear m5 m8;subst m7;walk_at "a";exact k l _ oss s3 (Reps.mk' (r3.keep λ b u hb ho=>⟨hb.1,ho⟩) nl0 hl3) ok3
def OR (ρ:Ah):zC->zC->Prop
 | none,none=>True
 | some x,some y=>ρ x y
 | _,_=>False
def OR.none_iff {ρ:Ah} {x y:zC} (h:OR ρ x y):x=none ↔ y=none:=by
 cases x <;> cases y <;> simp [OR] at h ⊢
def RowR (ρ:Ah) (c c':Av):Prop:=c.length=c'.length/\∀ p,OR ρ (c.getD p none) (c'.getD p none)
def RelC (ρ:Ah) (cs cs':Au):Prop:=cs.length=cs'.length/\∀ b,RowR ρ (cs.getD b []) (cs'.getD b [])
section
variable {ρ:Ah} {c c':Av} {cs cs':Au}
def RowR.set (h:RowR ρ c c') (p:Nat) {x x':zC} (hx:OR ρ x x'):RowR ρ (c.set p x) (c'.set p x'):=by
 refine ⟨by rw [bI,bI];exact h.1,λ q=>?_⟩;rw [qx,qx,h.1]
 split
 ·exact hx
 ·exact h.2 q
def RowR.fin (h:RowR ρ c c'):OR ρ (xm c) (xm c'):=by
 rw [Xz,Xz,h.1];exact h.2 _
def RelC.set (h:RelC ρ cs cs') (b:Nat) (hc:RowR ρ c c'):RelC ρ (cs.set b c) (cs'.set b c'):=by
 refine ⟨by rw [bI,bI];exact h.1,λ q=>?_⟩;rw [qx,qx,h.1]
 split
 ·exact hc
 ·exact h.2 q
def RelC.cell (h:RelC ρ cs cs') (b:Int):RowR ρ (zI cs b) (zI cs' b):=h.2 _
def RowR.mvS (h:RowR ρ c c') (p:Nat):RowR ρ (qE c p) (qE c' p):=by
 unfold qE;by_cases e:c.getD (p + 1) none=none
 ·rw [ap e,ap ((h.2 (p + 1)).none_iff.mp e)];exact (h.set (p + 1) (h.2 p)).set p trivial
 ·rw [ao e,ao (λ z=>e ((h.2 (p + 1)).none_iff.mpr z))];exact h
theorem RowR.mvG (h:RowR ρ c c'):∀ k,RowR ρ (xU c k) (xU c' k)
 | 0=>h
 | k + 1=>by rw [xU,xU,h.1];exact (RowR.mvG h k).mvS _
theorem RelC.on {bs:A1} {t t':Int} (h:RelC ρ cs cs') (ht:∀ b∈bs,t % b.2=t' % b.2):∀ i,RelC ρ (zY bs t cs i) (zY bs t' cs' i)
 | 0=>h
 | i + 1=>by
  have e:t % (bs.getD i (0,1)).2=t' % (bs.getD i (0,1)).2:=by
   rw [ae];cases z:bs[i]? with
   | none=>show t % 1=t' % 1;omega
   | some b=>exact ht b (ah z)
  have ih:=RelC.on h ht i;rw [zY,zY,e]
  split
  ·refine ih.set i ?_;unfold Xl;rw [(ih.2 i).1];exact (ih.2 i).mvG _
  ·exact ih
end
structure Sim (bs:A1) (rs:At) (ρ:Ah) (s s':PSt):Prop where
 al:Alk bs rs s s'
 ce:RelC ρ s.cells s'.cells
 nw:∀ (k:Nat) r (d:Nat),rs[k]?=some r->r.wd=.source->ρ ((k:Int),gAt s.gone k 0 + d) ((k:Int),gAt s'.gone k 0 + d)
section
variable {bs:A1} {rs:At} {ρ:Ah} {s s':PSt}
def zgV (h:Sim bs rs ρ s s') (w:stWf bs rs s) (w':stWf bs rs s') (ro:∀ r∈rs,r.ok) (k:Nat):Sim bs rs ρ (qg rs s k).1 (qg rs s' k).1:=by
 obtain ⟨a1,a2⟩:=zfV h.al w w' ro k;refine ⟨a1,?_,λ j r d hr hs=>?_⟩
 ·unfold qg;cases hr:rs[k]? with
  | none=>exact h.ce
  | some r =>
   have ok:=ro r (ah hr);have hk:=(aa.mp hr).1;simp only;rw [<- za5 h.al.ce,<- zcU h.al.ce,<- h.al.si,<- WK (t:=s.turn) ok (λ z p=>h.al.tu _ (.inr ⟨r,ah hr,z,rfl,p⟩))];cases hc:zX r (qc rs s.cells r) (qA s.cells r) s.turn (s.sides.getD k 0).toNat with
   | none=>exact h.ce
   | some ch =>
    have sd:=w.so.2 k r _ hr (qh (d:=0) (by rw [w.so.1];exact hk));have sd':wx r ((s.sides.getD k 0).toNat:Int):=by rw [bP sd.1];exact sd
    refine oA5 (xB ok (by simp [qc]) (by simp [qA]) sd' hc) λ c1 _ _ c4 _=>?_;have tk:OR ρ (z6 s k (qF r ch)).1 (z6 s' k (qF r ch)).1/\RelC ρ (z6 s k (qF r ch)).2.cells (z6 s' k (qF r ch)).2.cells:=by
     cases e:qF r ch with
     | none =>
      refine ⟨?_,h.ce⟩;have hs:r.wd=.source:=by
       cases e1:ch.1 with
       | none=>exact c4 e1
       | some j =>
        unfold qF at e;rw [e1] at e;simp at e;have:=c1 j e1;omega
      show ρ ((k:Int),(s.gone.getD k []).headD 0) ((k:Int),(s'.gone.getD k []).headD 0)
      have:=h.nw k r 0 hr hs;rw [xV,xV];simpa using this
     | some b =>
      refine ⟨(h.ce.cell b).fin,?_⟩;refine h.ce.set b.toNat ?_;unfold xD;rw [(h.ce.cell b).1];exact (h.ce.cell b).set _ trivial
    show RelC ρ (movedF r s k ch).cells (movedF r s' k ch).cells
    unfold movedF;cases Zz r ch with
    | none=>exact tk.2
    | some b=>exact tk.2.set b.toNat ((tk.2.cell b).set 0 tk.1)
 ·have m:=Ql rs s k j 0;have e:=a2 j 0;have m:gAt s.gone j 0<=gAt (qg rs s k).1.gone j 0:=m;have:=h.nw j r ((gAt (qg rs s k).1.gone j 0 - gAt s.gone j 0).toNat + d) hr hs;rw [show gAt s.gone j 0 + (((gAt (qg rs s k).1.gone j 0 - gAt s.gone j 0).toNat + d:Nat):Int)=gAt (qg rs s k).1.gone j 0 + d by omega,show gAt s'.gone j 0 + (((gAt (qg rs s k).1.gone j 0 - gAt s.gone j 0).toNat + d:Nat):Int)=gAt (qg rs s' k).1.gone j 0 + d by omega] at this;exact this
theorem zbl (h:Sim bs rs ρ s s') (w:stWf bs rs s) (w':stWf bs rs s') (mX:zJ bs rs) (bo:∀ b∈bs,zz b.1 b.2) (ro:∀ r∈rs,r.ok):∀ m,Sim bs rs ρ (zo rs s m).1 (zo rs s' m).1
 | 0=>h
 | m + 1=>zgV (zbl h w w' mX bo ro m) (qQ w mX bo ro m) (qQ w' mX bo ro m) ro m
def ze0 (h:Sim bs rs ρ s s') (w:stWf bs rs s) (w':stWf bs rs s') (mX:zJ bs rs) (bo:∀ b∈bs,zz b.1 b.2) (ro:∀ r∈rs,r.ok):Sim bs rs ρ (passF bs rs s).1 (passF bs rs s').1:=by
 have i:=zbl h w w' mX bo ro rs.length;exact ⟨(zcB h.al w w' mX bo ro).1,i.ce.on (λ b hb=>i.al.tu _ (.inl ⟨b,hb,rfl⟩)) _,i.nw⟩
theorem zaI (mX:zJ bs rs) (bo:∀ b∈bs,zz b.1 b.2) (ro:∀ r∈rs,r.ok) {p q:Nat} (h:Sim bs rs ρ (zh bs rs p) (zh bs rs q)):∀ m,Sim bs rs ρ (zh bs rs (p + m)) (zh bs rs (q + m))
 | 0=>h
 | m + 1=>ze0 (zaI mX bo ro h m) (zu mX bo ro _) (zu mX bo ro _) mX bo ro
end
def ziw (rs:At) (s t:PSt) (x y:Int × Int):Prop:=(∃ b p,atC s.cells b p=some x/\atC t.cells b p=some y)\/∃ (k:Nat) (r:Row) (d:Nat),rs[k]?=some r/\r.wd=.source/\x=((k:Int),gAt s.gone k 0 + d)/\y=((k:Int),gAt t.gone k 0 + d)
noncomputable def ziG (s0 s1 t:PSt) (n:Nat):Org->zC
 | .no=>none
 | .kept b p=>atC t.cells b p
 | .new k m=>some ((k:Int),gAt s0.gone k 0 + n * (gAt s1.gone k 0 - gAt s0.gone k 0) + m)
section
variable {bs:A1} {rs:At}
def zhp {s t:PSt} (h:Alk bs rs s t):Sim bs rs (ziw rs s t) s t:=by
 refine ⟨h,⟨by have:=bt List.length h.ce;rw [af,af] at this;exact this,λ b=>⟨VJ (Q5 h.ce b),λ p=>?_⟩⟩,λ k r d hr hs=>.inr (iE3 k r d (iA4 hr hs rfl rfl))⟩;have e:jK rs ((s.cells.getD b []).getD p none)=jK rs ((t.cells.getD b []).getD p none):=by rw [WD,WD,Q5 h.ce b]
 cases e1:(s.cells.getD b []).getD p none with
 | none =>
  rw [e1] at e;rw [(Zh _).mp e.symm]
  trivial
 | some x =>
  cases e2:(t.cells.getD b []).getD p none with
  | none=>rw [e1,e2] at e;exact absurd ((Zh _).mp e) (λ z=>nomatch z)
  | some y=>exact .inl ⟨b,p,e1,e2⟩
def Alk.refl (s:PSt):Alk bs rs s s:=⟨rfl,rfl,λ _ _ _ _=>rfl,λ _ _=>rfl⟩
def Alk.trans {s t u:PSt} (h:Alk bs rs s t) (h':Alk bs rs t u):Alk bs rs s u:=⟨h.ce.trans h'.ce,h.si.trans h'.si,λ j r a b=>(h.so j r a b).trans (h'.so j r a b),λ n a=>(h.tu n a).trans (h'.tu n a)⟩
variable (mX:zJ bs rs) (bo:∀ b∈bs,zz b.1 b.2) (ro:∀ r∈rs,r.ok) {lim i j:Nat} (rd:RoundAt bs rs lim i j)
include mX bo ro rd
theorem zb1:∀ n,Alk bs rs (zh bs rs i) (zh bs rs (i + n * (j - i)))/\∀ k p,gAt (zh bs rs (i + n * (j - i))).gone k p=gAt (zh bs rs i).gone k p + n * (gAt (zh bs rs j).gone k p - gAt (zh bs rs i).gone k p)
 | 0=>by
  rw [Nat.zero_mul,fh];exact ⟨.refl _,λ k p=>by rw [show ((0:Nat):Int)=0 from rfl,Int.zero_mul,Int.add_zero]⟩
 | n + 1=>by
  obtain ⟨h1,h2⟩:=zb1 n;obtain ⟨g1,g2⟩:=Vv h1 mX bo ro (j - i);have lt:=rd.lt;rw [show i + (j - i)=j by omega] at g1 g2;rw [show i + (n + 1) * (j - i)=i + n * (j - i) + (j - i) by rw [dR];omega];refine ⟨(zif bo ro rd.eq).trans g1,λ k p=>?_⟩;have:=g2 k p;have e:=h2 k p;rw [show ((n + 1:Nat):Int)=(n:Int) + 1 by omega,Int.add_mul,Int.one_mul];generalize (n:Int) * (gAt (zh bs rs j).gone k p - gAt (zh bs rs i).gone k p)=z at e ⊢;omega
theorem za0 (n b p:Nat) {o:Org} (h:WV (zh bs rs i) (atC (zh bs rs j).cells b p) o):atC (zh bs rs (i + (n + 1) * (j - i))).cells b p=ziG (zh bs rs i) (zh bs rs j) (zh bs rs (i + n * (j - i))) n o:=by
 obtain ⟨h1,h2⟩:=zb1 mX bo ro rd n;have lt:=rd.lt;have sm:=zaI mX bo ro (zhp h1) (j - i);rw [show i + (j - i)=j by omega] at sm;rw [show i + (n + 1) * (j - i)=i + n * (j - i) + (j - i) by rw [dR];omega];have orr:OR (ziw rs (zh bs rs i) (zh bs rs (i + n * (j - i)))) (atC (zh bs rs j).cells b p) (atC (zh bs rs (i + n * (j - i) + (j - i))).cells b p):=(sm.ce.2 b).2 p;generalize atC (zh bs rs (i + n * (j - i) + (j - i))).cells b p=w at orr ⊢;obtain ⟨uq,gv⟩:=zcy mX bo ro i;have inq:∀ {b p:Nat} {x:Int × Int},atC (zh bs rs i).cells b p=some x->∃ c,(zh bs rs i).cells[b]?=some c/\c[p]?=some (some x):=λ {b p x} e=>by
  unfold atC at e;rw [ae,ae] at e;cases e1:(zh bs rs i).cells[b]? with
  | none=>rw [e1] at e;simp at e
  | some c =>
   rw [e1] at e;cases e2:c[p]? with
   | none=>rw [aJ,e2] at e;cases e
   | some y=>rw [aJ,e2] at e;cases e;exact ⟨c,rfl,e2⟩
 have old:∀ {b p:Nat} {x:Int × Int} {d:Nat} {k:Nat},atC (zh bs rs i).cells b p=some x->x≠((k:Int),gAt (zh bs rs i).gone k 0 + d):=λ {b p x d k} e z=>by
  have:=gv b p x e;rw [z,aA] at this;simp only at this;omega
 cases o with
 | no =>
  cases e:atC (zh bs rs j).cells b p with
  | none=>rw [e] at orr;exact orr.none_iff.mp rfl
  | some x=>rw [e] at h;exact h.elim
 | kept b' p' =>
  cases e:atC (zh bs rs j).cells b p with
  | none=>rw [e] at h;exact h.elim
  | some x =>
   rw [e] at h orr;obtain ⟨c,g1,g2⟩:=h;have at1:atC (zh bs rs i).cells b' p'=some x:=by
    unfold atC;rw [ae,ae,g1,aJ,g2]
    rfl
   cases w with
   | none=>exact orr.elim
   | some y =>
    rcases orr with ⟨b2,p2,q1,q2⟩|⟨k,r,d,_,_,q,_⟩
    ·obtain ⟨rfl,rfl⟩:=uq _ _ _ _ x at1 q1;exact q2.symm
    ·exact absurd q (old at1)
 | new k m =>
  cases e:atC (zh bs rs j).cells b p with
  | none=>rw [e] at h;exact h.elim
  | some x =>
   rw [e] at h orr;refine oA4 h λ g1 g2 g3 _=>?_;clear h;cases w with
   | none=>exact orr.elim
   | some y =>
    rcases orr with ⟨b2,p2,q1,_⟩|⟨k',r,d,hr,hs,rfl,rfl⟩
    ·obtain ⟨c,q3,q4⟩:=inq q1;exact absurd (flat_mem.mpr ⟨c,ah q3,ah q4⟩) g2
    ·have ek:k'=k:=by simp only at g1;omega
     subst ek;rw [xV] at g3;simp only at g3;show some ((k':Int),gAt (zh bs rs (i + n * (j - i))).gone k' 0 + (d:Int))=some ((k':Int),_)
     rw [h2 k' 0,show m=(d:Int) by omega]
end
noncomputable def lf (y0 lo lg:Addr) (L:Int):List (Str × V):=zQ "growth" (.ref lg) (zQ "origins" (.ref lo) (zQ "length" (.int L) (zQ "before" (.ref y0) [])))
def Wv {y0 lo lg:Addr}:(lf y0 lo lg L).lookup ("growth":Str)=some (.ref lg):=by unfold lf;rw [zB,ap rfl]
def zb0 {y0 lo lg:Addr}:(lf y0 lo lg L).lookup ("origins":Str)=some (.ref lo):=by unfold lf;rw [zB,ao (by decide +kernel),zB,ap rfl]
def QO {y0 lo lg:Addr}:(lf y0 lo lg L).lookup ("length":Str)=some (.int L):=by unfold lf;rw [zB,ao (by decide +kernel),zB,ao (by decide +kernel),zB,ap rfl]
def xA {y0 lo lg:Addr}:(lf y0 lo lg L).lookup ("before":Str)=some (.ref y0):=by unfold lf;rw [zB,ao (by decide +kernel),zB,ao (by decide +kernel),zB,ao (by decide +kernel),zB,ap rfl]
def Wj (a:Ad):Sp:=λ vs H Q _=>∃ (z dx y0 y1:Addr) (n0 n1:SN) (s0 s1:PSt) (H0:Hp),vs=[.ref z,.ref y0,.ref y1]/\H z=some (.ins a.q dx [])/\Same H0 H/\H0 z=none/\StO a H0 y0 n0 s0/\StO a H0 y1 n1 s1/\s0.cells.length<=24/\(∀ c∈s0.cells,c.length<=6)/\s1.cells.length<=24/\(∀ c∈s1.cells,c.length<=6/\∀ wr∈c,zfH s0 wr)/\s0.gone.length=s1.gone.length/\s0.gone.length<=24/\(∀ (i:Nat) g0 g1,s0.gone[i]?=some g0->s1.gone[i]?=some g1->g0.length=g1.length/\g0.length<=4) /\
 ∀ lo lg gs oss H',Same H0 H'->H' z=some (.ins a.q dx (lf y0 lo lg (s1.turn - s0.turn)))->Rep H' (Off [z]) (.ref lo) (zcE oss)->V2 s0 s1 oss->NL H' (zV H') lg gs (z8 (jg s0.gone s1.gone))->Q .non H'
def zaN (T:Txt K mg a) (F:Fun K "__init__" "Lap.__init__" wZ f fd):FnOk P w K mg base (CXr P w) 3 f fd ["self","before","after"] (Wj a):=by
 refine F.okx zav ?_ ?_
 ·walk_at "i"
 walk_at "j";refine oE5 h λ z dx y0 y1 n0 m5=>oE4 m5 λ n1 s0 s1 H0 m7=>oA9 m7 λ n6 hz sH z0 so0 so1 l0 c0 nh=>oA6 nh λ l1 c1 gl g24 gr k=>?_;clear m5 m7 nh h;subst n6;walk_at "T";refine ⟨_,(zi (qR (pq 0) (pq 1) rfl)  (zi (qR (pq 0) (zG xl (zk (pq 2) rfl) (zk (pq 1) rfl)) rfl)  (zi (qR (pq 0) (zw ⟨rfl,rfl,rfl⟩ hr (za (pq 1) (za (pq 2) zc))) rfl)  (ze (qR (pq 0) (zw ⟨rfl,rfl,rfl⟩ hr (za (pq 1) (za (pq 2) zc))) rfl))))),?_⟩;walk_at "a";have sz:∀ {H':Hp} {o:HO},Same H0 H'->Same H0 (upd H' z o):=λ s b o hb=>by rw [nu (nz hb z0)];exact s b o hb
 refine iE4 z a.q dx ([]) (iA6 rfl hz T.gq T.gw (by decide) ?_);have s1':=sz (o:=.ins a.q dx (zQ "before" (.ref y0) [])) sH;walk_at "a";refine ra ((so1.same s1').hy) T.gd T.gg rfl (ra ((so0.same s1').hy) T.gd T.gg rfl ?_);walk_at "a";refine iE4 z a.q dx _ (iA6 rfl nk T.gq T.gS (by show 1 < 1000;decide) ?_);rw [vZ];have s2:=sz (o:=.ins a.q dx (zQ "length" (.int (s1.turn - s0.turn)) (zQ "before" (.ref y0) []))) sH;have hz2:upd H z (.ins a.q dx (zQ "length" (.int (s1.turn - s0.turn)) (zQ "before" (.ref y0) []))) z=some (.ins a.q dx (zQ "length" (.int (s1.turn - s0.turn)) (zQ "before" (.ref y0) []))):=nk;generalize upd H z (.ins a.q dx (zQ "length" (.int (s1.turn - s0.turn)) (zQ "before" (.ref y0) [])))=H2 at s2 hz2 ⊢;walk_at "a";refine uc (VW T).mono (iE6 y0 y1 n0 n1 s0 s1 (iA8 rfl (so0.same s2) (so1.same s2) l0 c0 l1 c1 (λ lo H3 oss s3 ro3 ok3=>?_)));have s03:=s2.trans s3;have hz3:=s3 _ _ hz2;refine iE4 z a.q dx _ (iA6 rfl hz3 T.gq T.iw (by show 2 < 1000;decide) ?_);have s4:=sz (o:=.ins a.q dx (zQ "origins" (.ref lo) (zQ "length" (.int (s1.turn - s0.turn)) (zQ "before" (.ref y0) [])))) s03;have r4:Rep (upd H3 z (.ins a.q dx (zQ "origins" (.ref lo) (zQ "length" (.int (s1.turn - s0.turn)) (zQ "before" (.ref y0) []))))) (Off [z]) (.ref lo) (zcE oss):=ro3.keep λ b o hb ho=>by
  have nb:b≠z:=λ e=>by have hb:H2 b=none:=hb;rw [e,hz2] at hb;cases hb
  exact ⟨by simp [Off,nb],by rw [nu nb];exact ho⟩
 have hz4:upd H3 z (.ins a.q dx (zQ "origins" (.ref lo) (zQ "length" (.int (s1.turn - s0.turn)) (zQ "before" (.ref y0) [])))) z=some (.ins a.q dx (zQ "origins" (.ref lo) (zQ "length" (.int (s1.turn - s0.turn)) (zQ "before" (.ref y0) [])))):=nk;generalize upd H3 z (.ins a.q dx (zQ "origins" (.ref lo) (zQ "length" (.int (s1.turn - s0.turn)) (zQ "before" (.ref y0) []))))=H4 at s4 r4 hz4 ⊢;refine uc (vW T).mono (iE6 y0 y1 n0 n1 s0 s1 (iA7 rfl (so0.same s4) (so1.same s4) gl g24 gr (λ lg gs H5 s5 ng fr=>?_)));have hz5:=s5 _ _ hz4;refine iE4 z a.q dx _ (iA6 rfl hz5 T.gq T.ie (by show 3 < 1000;decide) ?_);refine k lo lg gs oss _ (sz (s4.trans s5)) nk (r4.keep λ b o hb ho=>?_) ok3 (ng.tup λ b o hb ho=>?_)
 ·have nb:b≠z:=λ e=>hb (by rw [e];simp);exact ⟨hb,by rw [nu nb];exact s5 _ _ ho⟩
 ·have nb:b≠z:=λ e=>by
   subst e;rcases hb with hb|hb|⟨xs,hb⟩
   ·have:=fr lg (bT ..);rw [<- hb,hz4] at this;cases this
   ·have:=fr b (aF _ hb);rw [hz4] at this;cases this
   ·rw [hz5] at hb;cases hb
  rw [nu nb];exact ho
def ziL (T:Txt K mg a):KCal P w K mg base "Lap" a.q 3 ["self","before","after"] [] (Wj a):=T.lX.cal T.mW (zaN T)
structure LapO (a:Ad) (H:Hp) (z y0:Addr) (n0:SN) (s0 s1:PSt) (oss:List (List Org)):Prop where
 ex:∃ dx lo lg gs,H z=some (.ins a.q dx (lf y0 lo lg (s1.turn - s0.turn)))/\Rep H (λ _=>True) (.ref lo) (zcE oss)/\NL H (zV H) lg gs (z8 (jg s0.gone s1.gone))
 so:StO a H y0 n0 s0
 ok:V2 s0 s1 oss
def LapO.same {H H':Hp} {z y0:Addr} {n0:SN} {s0 s1:PSt} {oss:List (List Org)} (h:LapO a H z y0 n0 s0 s1 oss) (s:Same H H'):LapO a H' z y0 n0 s0 s1 oss:=by
 refine oE4 h.ex λ dx lo lg gs m5=>oA3 m5 λ h1 h2 h3=>?_;clear m5;exact ⟨(iE4 dx lo lg gs (iA3 (s _ _ h1) (jd h2 s) (h3.tup λ b o _ hb=>s b o hb))),h.so.same s,h.ok⟩
def zdo (a:Ad):Sp:=λ vs H Q _=>∃ (z y0 t:Addr) (n0:SN) (s0 s1:PSt) (oss:List (List Org)) (k:Nat) (m:Int) (n:Nat) (x:Int) (xs:A6),vs=[.ref z,.ref t,.int n]/\LapO a H z y0 n0 s0 s1 oss/\H t=some (.tup [.str "new",.int k,.int m])/\s0.gone[k]?=some (x :: xs)/\s0.gone.length=s1.gone.length/\0<=gAt s1.gone k 0 - x/\gAt s1.gone k 0 - x<=1000/\∀ t' H',Same H H'->H' t'=some (.tup [.int k,.int (x + n * (gAt s1.gone k 0 - x) + m)])->Q (.ref t') H'
def Xp (T:Txt K mg a):MCal P w K mg base a.q "new_ware" 1 ["self","origin","rounds"] [] (zdo a):=T.ki.cal T.gq λ F=>by
 refine F.okx Je ?_ ?_
 ·walk_at "i"
 walk_at "j";refine oE8 h λ z y0 t n0 s0 s1 oss kk m5=>oE4 m5 λ m n x xs m7=>oA8 m7 λ n6 lo ht hg le d0 d1 k=>?_;clear m5 m7 h;subst n6;refine oE4 lo.ex λ dx l1 lg gs m5=>oA3 m5 λ hz _ ng=>?_;clear m5;have hk:=(aa.mp hg).1;obtain ⟨g1,e1⟩:∃ g,s1.gone[kk]?=some g:=⟨_,ad (by rw [<- le];exact hk)⟩;have eg:(jg s0.gone s1.gone)[kk]?=some (jp (x :: xs) g1):=by unfold jg;rw [bY,hg,e1]
 have eG:gAt s1.gone kk 0=g1.getD 0 0:=by unfold gAt;rw [ae (l:=s1.gone),e1];rfl
 obtain ⟨b0,hb0,h0⟩:=jA lo.so.hg hg;obtain ⟨b1,hb1,h1⟩:=jA ng eg;have eF:(jp (x :: xs) g1)[0]?=some (g1.getD 0 0 - x):=by unfold jp;rw [ak,fA (by simp)];rfl
 rw [eG] at d0 d1 k;walk_at "T";refine ⟨_,(zi (zp 3 Je.nd (zn (pq 1) zf))  (zi (zp 4 Je.nd (zG qm (zn (zn (zk (zk (pq 0) rfl) rfl) (pq 3)) zf) (zG vK (pq 2) (zn (zn (zk (pq 0) rfl) (pq 3)) zf))))  (ze (zl (qS (za (pq 3) (za (zG qm (pq 4) (zn (pq 1) zf)) zc))))))),?_⟩;walk_at "a";refine nB ht (show atI _ 1=some (.int kk) from rfl) ?_;walk_at "a";refine ra hz T.gq T.gw xA (ra lo.so.hy T.gd T.gi rfl (zq (SqL.of lo.so.hg.out) (zD (by rw [ak,hb0];rfl)) (zq (SqL.of h0) at0 ?_)));refine ra hz T.gq T.ie Wv (zq (SqL.of ng.out) (zD (by rw [ak,hb1];rfl)) (zq (SqL.of h1) (show atI _ ((0:Nat):Int)=some (.int (g1.getD 0 0 - x)) from zD (jr eF)) ?_));refine ⟨mul_okR (by omega) (by omega),?_⟩;walk_at "a";refine nB ht (show atI _ 2=some (.int m) from rfl) ?_;walk_at "a";exact λ p hp=>k p _ (zg hp) nk
noncomputable def za4 (O:Nat × Nat->Org) (q:Nat × Nat):Option (Nat × Nat):=match O q with
 | .kept b p=>some (b,p)
 | _=>none
noncomputable def chn (O:Nat × Nat->Org) (q0:Nat × Nat):Nat->Option (Nat × Nat)
 | 0=>some q0
 | t + 1=>(chn O q0 t).bind (za4 O)
def zgX (C:Nat->Nat × Nat->zC) (O:Nat × Nat->Org) (q0:Nat × Nat) (N left:Nat) (q:Nat × Nat):Prop:=∃ t,chn O q0 t=some q/\C N q0=C left q/\((t + left=N/\∀ u,0 < u->u<=t->chn O q0 u≠some q0)\/∃ d,t + left < d/\∀ u,0 < u->u < d->chn O q0 u≠some q0)
section
variable {C:Nat->Nat × Nat->zC} {O:Nat × Nat->Org} {ok:Nat × Nat->Prop} (hC:∀ n q b p,ok q->O q=.kept b p->C (n + 1) q=C n (b,p)) (hk:∀ q b p,ok q->O q=.kept b p->ok (b,p)) {q0:Nat × Nat} (h0:ok q0)
include hC hk h0
theorem zfI:∀ t q,chn O q0 t=some q->ok q/\∀ m,C (m + t) q0=C m q
 | 0,q,h=>by cases h;exact ⟨h0,λ _=>rfl⟩
 | t + 1,q,h=>by
  obtain ⟨q1,h1,h2⟩:=bR.mp h;obtain ⟨o1,c1⟩:=zfI t q1 h1;unfold za4 at h2
  split at h2
  ·rename_i b p e;cases h2;exact ⟨hk q1 b p o1 e,λ m=>by rw [show m + (t + 1)=m + 1 + t by omega,c1 (m + 1),hC m q1 b p o1 e]⟩
  ·cases h2
theorem zgL {d:Nat} (hd:chn O q0 d=some q0) (d0:0 < d) (m:Nat):C m q0=C (m % d) q0:=by
 have:=(zfI hC hk h0 d q0 hd).2
 induction m using Nat.strongRecOn with
 | _ m ih =>
  by_cases h:m < d
  ·rw [Nat.mod_eq_of_lt h]
  ·rw [Nat.mod_eq_sub_mod (by omega),<- ih (m - d) (by omega),<- this (m - d),show m - d + d=m by omega]
theorem zek {N l:Nat} {q:Nat × Nat} (h:zgX C O q0 N (l + 1) q) {b p:Nat} (e:O q=.kept b p):((b,p)≠q0->zgX C O q0 N l (b,p))/\((b,p)=q0->0 < N - l/\zgX C O q0 N (l % (N - l)) q0):=by
 refine oE1 h λ t m5=>oA3 m5 λ h1 h2 h3=>?_;clear m5 h;have nx:chn O q0 (t + 1)=some (b,p):=by
  show (chn O q0 t).bind (za4 O)=_
  rw [h1];show za4 O q=_
  unfold za4;rw [e]
 have cq:C N q0=C l (b,p):=by rw [h2,hC l q b p (zfI hC hk h0 t q h1).1 e]
 refine ⟨λ ne=>⟨t + 1,iA3 nx cq ?_⟩,λ eq=>?_⟩
 ·rcases h3 with ⟨a1,a2⟩|⟨d,a1,a2⟩
  ·refine .inl ⟨by omega,λ u u0 ul=>?_⟩;by_cases z:u=t + 1
   ·rw [z,nx];exact λ y=>ne (aI y)
   ·exact a2 u u0 (by omega)
  ·exact .inr ⟨d,by omega,a2⟩
 ·rcases h3 with ⟨a1,a2⟩|⟨d,a1,a2⟩
  ·refine ⟨by omega,⟨0,iA3 rfl ?_ (.inr ⟨t + 1,?_,λ u u0 ul=>a2 u u0 (by omega)⟩)⟩⟩
   ·rw [cq,eq,show N - l=t + 1 by omega];exact zgL hC hk h0 (by rw [nx,eq]) (by omega) l
   ·rw [show N - l=t + 1 by omega,Nat.zero_add];exact cT _ (by omega)
  ·exact absurd (nx.trans (by rw [eq])) (a2 (t + 1) (by omega) (by omega))
end
def zaY {y0 lo lg:Addr} {x:Str} (h1:x≠"before") (h2:x≠"length") (h3:x≠"origins") (h4:x≠"growth"):(lf y0 lo lg L).lookup x=none:=by
 unfold lf;rw [zB,ao h4,zB,ao h3,zB,ao h2,zB,ao h1]
 rfl
def LapO.org {z y0:Addr} {n0:SN} {s0 s1:PSt} {oss:List (List Org)} (h:LapO a H z y0 n0 s0 s1 oss) {b p:Nat} {os:List Org} {o:Org} (e1:oss[b]?=some os) (e2:os[p]?=some o):∃ dx lo lg us bl vs v,H z=some (.ins a.q dx (lf y0 lo lg (s1.turn - s0.turn)))/\H lo=some (.lst us)/\us[b]?=some (.ref bl)/\H bl=some (.lst vs)/\vs[p]?=some v/\Rep H (λ _=>True) v (zbQ o):=by
 refine oE4 h.ex λ dx lo lg gs m5=>oA3 m5 λ hz r _=>?_;clear m5;refine oE2 (Rep.lst' r) λ l0 us m5=>oA4 m5 λ e _ hl ru=>?_;clear m5;cases e;have hb:b < us.length:=by rw [ru.len,af];exact (aa.mp e1).1
 obtain ⟨d,hd,rb⟩:=ru.at (ad hb);rw [ak,e1] at hd;cases hd;refine oE2 (Rep.lst' rb) λ bl vs m5=>oA4 m5 λ e _ hbl rv=>?_;clear m5;have hp:p < vs.length:=by rw [rv.len,af];exact (aa.mp e2).1
 obtain ⟨d,hd,rp⟩:=rv.at (ad hp);rw [ak,e2] at hd;cases hd;exact iE7 dx lo lg us bl vs (vs[p]) (iA6 hz hl (by rw [<- e];exact ad hb) hbl (ad hp) rp)
def zio {x:Str} {m:Int} (h:Rep H p v (.tup [.str x,.int k,.int m])):∃ t,v=.ref t/\H t=some (.tup [.str x,.int k,.int m]):=by
 refine oE2 (Rep.tup' h) λ t us m5=>oA4 m5 λ m7 _ ht rr=>?_;clear m5;subst m7;have g:=rr.g;refine oE2 (VS rr.len) λ x0 _ m5=>oA2 m5 λ m7 h1=>?_;clear m5;subst m7;obtain ⟨x1,x2,rfl⟩:=two_of h1;have a0:=g 0 x0 _ rfl rfl;have a1:=g 1 x1 _ rfl rfl;have a2:=g 2 x2 _ rfl rfl;cases a0;cases a1;cases a2;exact ⟨t,rfl,ht⟩
def zih (rs:At) (st:PSt) (k i p:Nat):gAt (qg rs st k).1.gone i p<=gAt st.gone i p + if i=k then 1 else 0:=by
 unfold qg;have z:gAt st.gone i p<=gAt st.gone i p + if i=k then 1 else 0:=by split <;> omega
 cases rs[k]? with
 | none=>exact z
 | some r =>
  simp only;cases zX r (qc rs st.cells r) (qA st.cells r) st.turn (st.sides.getD k 0).toNat with
  | none=>exact z
  | some ch =>
   obtain ⟨_,_,c3⟩:=movedF_keep (r:=r) (st:=st) (k:=k) (ch:=ch);show gAt ((movedF r st k ch).gone.set k _) i p<=_
   rw [c3];unfold gAt;rw [qx]
   split
   ·rename_i h;obtain ⟨rfl,_⟩:=h;rw [ap rfl];unfold ZR;rw [qx]
    split
    ·rename_i h;rw [h.1];exact bB _
    ·omega
   ·exact z
theorem zde (rs:At) (st:PSt) (i p:Nat):∀ m,gAt (zo rs st m).1.gone i p<=gAt st.gone i p + if i < m then 1 else 0
 | 0=>by rw [ao (ee _)];exact Int.le_of_eq (Int.add_zero _).symm
 | m + 1=>by
  have h1:=zde rs st i p m;have h2:=zih rs (zo rs st m).1 m i p;show gAt (qg rs (zo rs st m).1 m).1.gone i p<=_
  by_cases e:i=m
  ·rw [ap e] at h2;rw [ao (by omega)] at h1;rw [ap (by omega)];omega
  ·rw [ao e] at h2;by_cases h:i < m
   ·rw [ap h] at h1;rw [ap (by omega)];omega
   ·rw [ao h] at h1;rw [ao (by omega)];omega
theorem Vu (bs:A1) (rs:At) (k p:Nat):∀ n:Nat,gAt (zh bs rs n).gone k p<=n
 | 0=>by
  show gAt (rs.map qr) k p<=0
  unfold gAt;rw [ae,ae,ak];cases rs[k]? with
  | none=>exact bB _
  | some r =>
   show ((qr r)[p]?).getD 0<=0
   unfold qr;rw [c8]
   split <;> exact bB _
 | n + 1=>by
  have h1:=Vu bs rs k p n;have h2:=zde rs (zh bs rs n) k p rs.length;show gAt (zo rs (zh bs rs n) rs.length).1.gone k p<=_
  split at h2 <;> omega
def zaf (a:Ad):Sp:=λ vs H Q _=>∃ (z y0 t:Addr) (n0:SN) (oss:List (List Org)) (bs:A1) (rs:At) (lim i j N b p:Nat) (c:Av),vs=[.ref z,.ref t,.int N]/\LapO a H z y0 n0 (zh bs rs i) (zh bs rs j) oss/\zJ bs rs/\(∀ b∈bs,zz b.1 b.2)/\(∀ r∈rs,r.ok)/\RoundAt bs rs lim i j/\lim<=1000/\H t=some (.tup [.int b,.int p])/\(zh bs rs i).cells[b]?=some c/\p < c.length/\∀ v H',Same H H'->Rep H' (zV H') v (zS (atC (zh bs rs (i + N * (j - i))).cells b p))->Q v H'
theorem QM (T:Txt K mg a):MCal P w K mg base a.q "ware_after" 2 ["self","first","rounds"] [] (zaf a):=T.iF.cal T.gq λ F=>by
 refine F.okx ZX ?_ ?_
 ·walk_at "i"
 walk_at "j";refine oE8 h λ z y0 t n0 oss bs rs lim m5=>oE6 m5 λ i j N b p c m7=>oA9 m7 λ n6 lo mX bo ro rd l1000 ht nh=>oA3 nh λ hc hp k=>?_;clear m5 m7 nh h;subst n6;have w0:=zu mX bo ro i;have w1:=zu mX bo ro j;let C:Nat->Nat × Nat->zC:=λ n q=>atC (zh bs rs (i + n * (j - i))).cells q.1 q.2;let O:Nat × Nat->Org:=λ q=>(oss.getD q.1 []).getD q.2 .no;let ok:Nat × Nat->Prop:=λ q=>∃ c,(zh bs rs i).cells[q.1]?=some c/\q.2 < c.length;have hO:∀ q,ok q->∃ os,oss[q.1]?=some os/\os[q.2]?=some (O q)/\WV (zh bs rs i) (atC (zh bs rs j).cells q.1 q.2) (O q):=λ q ⟨c,h1,h2⟩=>by
  have hq:=(aa.mp h1).1;have eb:=ad (l:=bs) (i:=q.1) (by rw [<- w0.co.1];exact hq);obtain ⟨c1,e1⟩:∃ c1,(zh bs rs j).cells[q.1]?=some c1:=⟨_,ad (by rw [w1.co.1,<- w0.co.1];exact hq)⟩;have l1:c1.length=c.length:=by rw [(w1.co.2 q.1 _ c1 eb e1).1,(w0.co.2 q.1 _ c eb h1).1]
  obtain ⟨os,e2⟩:∃ os,oss[q.1]?=some os:=⟨_,ad (by rw [lo.ok.1];exact (aa.mp e1).1)⟩;obtain ⟨l2,g⟩:=lo.ok.2 q.1 os c1 e2 e1;obtain ⟨o,e3⟩:∃ o,os[q.2]?=some o:=⟨_,ad (by omega)⟩;obtain ⟨wr,e4⟩:∃ wr,c1[q.2]?=some wr:=⟨_,ad (by omega)⟩;have eO:O q=o:=by
   show (oss.getD q.1 []).getD q.2 .no=o
   rw [ae,ae,e2,aJ,e3]
   rfl
  have eW:atC (zh bs rs j).cells q.1 q.2=wr:=by
   unfold atC;rw [ae,ae,e1,aJ,e4]
   rfl
  rw [eO,eW];exact ⟨os,iA3 e2 e3 (g q.2 o wr e3 e4)⟩
 have hC:∀ n q b p,ok q->O q=.kept b p->C (n + 1) q=C n (b,p):=λ n q b p hq e=>by
  refine oE1 (hO q hq) λ _ m5=>oA3 m5 λ _ _ g=>?_;clear m5;rw [e] at g;exact za0 mX bo ro rd n q.1 q.2 g
 have hk:∀ q b p,ok q->O q=.kept b p->ok (b,p):=λ q b p hq e=>by
  refine oE1 (hO q hq) λ _ m5=>oA3 m5 λ _ _ g=>?_;clear m5;rw [e] at g;cases e1:atC (zh bs rs j).cells q.1 q.2 with
  | none=>rw [e1] at g;exact g.elim
  | some x =>
   rw [e1] at g;obtain ⟨c,g1,g2⟩:=g;exact ⟨c,g1,(aa.mp g2).1⟩
 walk_at "T";refine ⟨_,(zi (zp 3 ZX.nd (pq 1))  (zi (zp 4 ZX.nd (pq 2))  (zi (zaF qI (zx Zq (pq 4) zf (zy _))  (zi (zp 5 ZX.nd (zn (zn (zk (pq 0) rfl) (zn (pq 3) zf)) (zn (pq 3) zf)))  (zi (zL (zx jq (pq 5) zE (zy _))  (ze (zl zE))  zt)  (zi (zhy (i:=4) ZX.nd rfl (Or.inl rfl) zf zh0)  (zi (zL (zx (vJ hr.units1) (zn (pq 5) zf) jI (zy _))  (ze (zl (QI ⟨rfl,rfl,rfl⟩ hr (pq 0) (za (pq 5) (za (pq 4) zc)))))  zt)  (zi (zp 3 ZX.nd (qS (za (zn (pq 5) zf) (za (zn (pq 5) zf) zc))))  (ze (zL (zx (vJ hr.units1) (pq 3) (pq 1) (zy _))  (ze (zp 4 ZX.nd (zG qT (pq 4) (zG xl (pq 2) (pq 4)))))  zt))))))))  (ze (zl (zn (zn (zk (zk (pq 0) rfl) rfl) (zn (pq 3) zf)) (zn (pq 3) zf))))))),?_⟩;walk_at "a";have ok0:ok (b,p):=⟨c,hc,hp⟩;have k:∀ v H',Same H H'->Rep H' (zV H') v (zS (C N (b,p)))->Q v H':=k;refine ⟨λ l σ H'=>∃ (tc:Addr) (q:Nat × Nat) (v5:Aq),σ=[some (.ref z),some (.ref t),some (.int N),some (.ref tc),some (.int l),v5]/\Same H H'/\H' tc=some (.tup [.int q.1,.int q.2])/\zgX C O (b,p) N l q/\ok q,(iE4 N t (b,p) none (iA5 rfl (Same.refl _) ht ⟨0,iA3 rfl rfl (.inl ⟨by omega,λ u u0 ul=>absurd u0 (by omega)⟩)⟩ ok0)),?_⟩;intro l σ H1 m8;refine oE3 m8 λ tc q v5 m5=>oA5 m5 λ m7 s1 htc bk okq=>?_;clear m5 m8;subst m7;have lo1:=lo.same s1;have ceq:C N (b,p)=C l q:=bk.choose_spec.2.1;walk_at "a";refine zZ (λ hl=>?_) (λ hl=>?_)
 ·obtain ⟨l,rfl⟩:∃ l',l=l' + 1:=⟨l - 1,by omega⟩;refine zix ?_;refine oE1 (hO q okq) λ os m5=>oA3 m5 λ e1 e2 og=>?_;clear m5;refine oE7 (lo1.org e1 e2) λ dx lo' lg us bl vs v m5=>oA6 m5 λ hz hlo hus hbl hvs rv=>?_;clear m5;have lc:=za0 mX bo ro rd l q.1 q.2 og;walk_at "a";refine ra hz T.gq T.iw zb0 (nB htc at0 (zq (SqL.of hlo) (zD hus) (nB htc (show atI _ 1=some (.int q.2) from rfl) (zq (SqL.of hbl) (zD hvs) ?_))));cases eo:O q with
  | no =>
   rw [eo] at rv lc;have rv:Rep H1 (λ _=>True) v .non:=rv;cases rv;walk_at "a";exact k _ H1 s1 (by rw [ceq];show Rep H1 _ _ (zS (atC _ _ _));rw [lc];exact .non)
  | new kk m =>
   rw [eo] at rv lc;obtain ⟨to,rfl,hto⟩:=zio rv;rw [eo] at og;obtain ⟨x,xs,hg⟩:∃ x xs,(zh bs rs i).gone[kk]?=some (x :: xs):=by
    cases e3:atC (zh bs rs j).cells q.1 q.2 with
    | none=>rw [e3] at og;exact og.elim
    | some w2=>rw [e3] at og;obtain ⟨_,_,_,g0,gs,h⟩:=og;exact ⟨g0,gs,h⟩
   have ex:gAt (zh bs rs i).gone kk 0=x:=by unfold gAt;rw [ae (l:=(zh bs rs i).gone),hg];rfl
   have mo:gAt (zh bs rs i).gone kk 0<=gAt (zh bs rs j).gone kk 0:=by
    have:=wI bs rs i kk 0 (j - i);have lt:=rd.lt;rw [show i + (j - i)=j by omega] at this;exact this
   have up:=Vu bs rs kk 0 j;have x0:0<=gAt (zh bs rs i).gone kk 0:=by
    have hkk:=(aa.mp hg).1;have er:=ad (l:=rs) (i:=kk) (by rw [<- w0.go.1];exact hkk);rw [ex];exact (w0.go.2 kk _ _ er hg).2 x (bT ..)
   have jl:=rd.le;change _=some ((kk:Int),gAt (zh bs rs i).gone kk 0 + (l:Int) * (gAt (zh bs rs j).gone kk 0 - gAt (zh bs rs i).gone kk 0) + m) at lc;rw [ex] at mo x0 lc;walk_at "a";refine nB hto at0 ?_;walk_at "a";rw [show ((l + 1:Nat):Int) - 1=(l:Int) by omega];refine iE7 z a.q dx _ _ _ _ (iA5 rfl hz (zaY (by decide +kernel) (by decide +kernel) (by decide +kernel) (by decide +kernel)) ((Xp T).mono) ⟨z,y0,to,n0,_,_,oss,kk,m,l,x,xs,rfl,lo1,hto,hg,by rw [w0.go.1,w1.go.1],by omega,by omega,λ t' H' s' ht'=>k _ _ (s1.trans s') ?_⟩);rw [ceq];show Rep H' _ _ (zS (atC _ _ _))
   rw [lc];exact Reps.mkT (vs:=[.int kk,.int (x + l * (gAt (zh bs rs j).gone kk 0 - x) + m)]) (.cons .int (.cons .int .nil)) ⟨_,ht'⟩ ht'
  | kept b' p' =>
   rw [eo] at rv lc;obtain ⟨to,rfl,hto⟩:=zio (m:=(p':Int)) rv;obtain ⟨n1,n2⟩:=zek hC hk ok0 bk eo;have okn:=hk q b' p' okq eo;walk_at "a";refine nB hto at0 ?_;walk_at "a";refine zZ (λ z=>absurd z (by decide +kernel)) λ _=>nB hto (show atI _ 1=some (.int b') from rfl) (nB hto (show atI _ 2=some (.int p') from rfl) λ p1 hp1=>?_);have s2:=zg (o:=.tup [.int b',.int p']) hp1;have h2:upd H1 p1 (.tup [.int b',.int p']) p1=some (.tup (iv [(b':Int),(p':Int)])):=nk;have ht2:upd H1 p1 (.tup [.int b',.int p']) t=some (.tup (iv [(b:Int),(p:Int)])):=s2 _ _ (s1 _ _ ht);refine .inr (.inl (iE4 p1 t _ _ (iA6 rfl rfl (.inr ⟨SqT.of h2,SqT.of ht2⟩) rfl rfl ?_)));rw [show ((l + 1:Nat):Int) - 1=(l:Int) by omega,ZE];by_cases e3:(b',p')=(b,p)
   ·obtain ⟨d0,bk2⟩:=n2 e3;rw [aY (by cases e3;rfl)];refine ⟨by omega,⟨l % (N - l),⟨?_,iE3 p1 (b,p) (some (.ref to)) (iA5 ?_ (s1.trans s2) ?_ bk2 ok0)⟩⟩⟩
    ·exact Nat.lt_succ_of_le (Nat.mod_le _ _)
    ·rw [show (l:Int) % ((N:Int) - l)=((l % (N - l):Nat):Int) by rw [dZ,Int.natCast_sub (by omega)]]
    ·cases e3;exact nk
   ·rw [aR (λ z=>e3 (by simp at z;exact Prod.ext (by show b'=b;omega) (by show p'=p;omega)))];exact ⟨l,⟨by omega,iE3 p1 (b',p') _ (iA5 rfl (s1.trans s2) nk (n1 e3) okn)⟩⟩
 ·have l0:l=0:=by omega
  subst l0;obtain ⟨c1,g1,g2⟩:=okq;refine oE4 lo1.ex λ dx lo' lg gs m5=>oA3 m5 λ hz _ _=>?_;clear m5;obtain ⟨bq,us,hb,hu,ru⟩:=lo1.so.hc.at (i:=q.1) (xs:=c1.map zS) (by rw [zH,ak,g1];rfl);have lu:us.length=c1.length:=by rw [ru.len,af]
  obtain ⟨v,hv⟩:∃ v,us[q.2]?=some v:=⟨_,ad (by omega)⟩;obtain ⟨d,hd,rv⟩:=ru.at hv;rw [ak,am] at hd;obtain ⟨wr,hwr,rfl⟩:=hd;walk_at "a";refine ra hz T.gq T.gw xA (ra lo1.so.hy T.gd T.gf rfl (nB htc at0 (zq (SqL.of lo1.so.hc.out) (zD (by rw [ak,hb];rfl)) (nB htc (show atI _ 1=some (.int q.2) from rfl) (zq (SqL.of hu) (zD hv) (k _ H1 s1 ?_))))));have e0:C 0 q=wr:=by
   show atC (zh bs rs (i + 0 * (j - i))).cells q.1 q.2=wr
   rw [Nat.zero_mul,fh];unfold atC;rw [ae,ae,g1,aJ,hwr]
   rfl
  rw [ceq,e0];exact rv
def W0 (a:Ad):Sp:=λ vs H Q _=>∃ (z y0:Addr) (n0:SN) (oss:List (List Org)) (bs:A1) (rs:At) (lim i j N:Nat),vs=[.ref z,.int N]/\LapO a H z y0 n0 (zh bs rs i) (zh bs rs j) oss/\zJ bs rs/\(∀ b∈bs,zz b.1 b.2)/\(∀ r∈rs,r.ok)/\RoundAt bs rs lim i j/\lim<=1000/\∀ l H',Same H H'->Rep H' (Off []) (.ref l) (.lst ((zH (zh bs rs (i + N * (j - i))).cells).map D.lst))->Q (.ref l) H'
def Z8 (T:Txt K mg a):MCal P w K mg base a.q "cells_after" 3 ["self","rounds"] [] (W0 a):=T.iz.cal T.gq λ F=>by
 refine F.okx ZI ?_ ?_
 ·walk_at "i"
 walk_at "j";refine oE8 h λ z y0 n0 oss bs rs lim i m5=>oE2 m5 λ j N m7=>oA8 m7 λ n6 lo mX bo ro rd l1000 k=>?_;clear m5 m7 h;subst n6;have w0:=zu mX bo ro i;have wN:=zu mX bo ro (i + N * (j - i));have lc:n0.acs.length=bs.length:=by rw [lo.so.hc.len,zH,af,w0.co.1]
 have b24:=mX.1.1.2;walk_at "T";refine ⟨_,(zi (zp 2 ZI.nd (zK zc))  (zi (qt qI rfl (jo (za (zk (zk (pq 0) rfl) rfl) zc)) (va (n:=2) rfl (qj (Ze (i:=3) ZI.nd rfl (Or.inr rfl)) (qj (qp 4 ZI.nd) xu)))  (ze (zF (qP ar az ay zU (pq 2) (za (jY (vars:=["place"]) (caps:=[1,0,3]) (N:=["place","rounds","self","belt"]) (ON:=["self","rounds","cells","belt","old"]) (osc:=zd qU) rfl rfl (by first|decide +kernel|kernel_rfl) rfl rfl (xP (za (z7 qe qd (za (pq 4) zc)) zc)) (λ s H fp m4=>(qp 0 (show (["place","rounds","self","belt"]:A8).Nodup from by decide +kernel))) (λ s H fp m4=>qo) (λ s H fp m4=>(zgp hr (pq 2) (za (qS (za (pq 3) (za (pq 0) zc))) (za (pq 1) zc))))) zc)))))  (ze (zl (pq 2))))),?_⟩;walk_at "a";intro C hC;have sC:=zg (o:=.lst []) hC;have hC1:upd H C (.lst []) C=some (.lst []):=nk;generalize upd H C (.lst [])=H1 at sC hC1 ⊢;refine oE4 lo.ex λ dx lo' lg gs m5=>oA3 m5 λ hz _ _=>?_;clear m5;walk_at "d";walk_at "a";refine ra (sC _ _ hz) T.gq T.gw xA (ra ((lo.so.same sC).hy) T.gd T.gf rfl (iE2 n0.lc _ (iA3 rfl (sC _ _ lo.so.hc.out) ?_)));refine WG (K:=K) (a:=n0.lc) (xs:=n0.acs.map V.ref) (λ b σ H'=>∃ (v3 v4:Aq) (us:Ap),σ=[some (.ref z),some (.int N),some (.ref C),v3,v4]/\Same H H'/\H' C=some (.lst us)/\Reps H' (Off [C]) us ((zH ((zh bs rs (i + N * (j - i))).cells.take b)).map D.lst)) (iE3 _ _ ([]) (iA4 rfl sC hC1 (by rw [bX];exact .nil))) (λ b σ H' _ h=>by obtain ⟨_,_,_,_,s,_⟩:=h;exact SqL.of (s _ _ lo.so.hc.out)) ?_ ?_
 ·intro b x t σ H2 hb ht m8;refine oE3 m8 λ v3 v4 us m5=>oA4 m5 λ m7 s2 hC2 ru=>?_;clear m5 m8;subst m7;rw [ak,am] at hb;obtain ⟨cb,hcb,rfl⟩:=hb;have hbl:b < bs.length:=by rw [<- lc];exact (aa.mp hcb).1
  have eb:=ad hbl;obtain ⟨c,ec⟩:∃ c,(zh bs rs i).cells[b]?=some c:=⟨_,ad (by rw [w0.co.1];exact hbl)⟩;obtain ⟨cN,eN⟩:∃ c,(zh bs rs (i + N * (j - i))).cells[b]?=some c:=⟨_,ad (by rw [wN.co.1];exact hbl)⟩;have l1:=(w0.co.2 b _ c eb ec).1;have l2:=(wN.co.2 b _ cN eb eN).1;have bk:=(bo _ (ah eb)).2.1;obtain ⟨vs,hvs,rvs⟩:=lo.so.hc.g b cb _ hcb (show (zH (zh bs rs i).cells)[b]?=some (c.map zS) by rw [zH,ak,ec];rfl);have lv:vs.length=c.length:=by rw [rvs.len,af]
  have lus:us.length<=b:=by rw [ru.len,af,af,aP];exact ef _ _
  have st:=zg (o:=.tup [.int b,.ref cb]) ht;have s3:=s2.trans st;have hC3:=st _ _ hC2;have ru3:=ru.same st;refine un2 nk ?_;generalize upd H2 t (.tup [.int b,.ref cb])=H3 at s3 hC3 ru3 ⊢;walk_at "a";walk_at "e";walk_at "a";refine iA4 (.inl ⟨rfl,_,SqL.of hC3⟩) ka gJ ⟨_,⟨.inl ⟨_,SqL.of (s3 _ _ hvs),rfl⟩,?_⟩⟩;rw [lv];refine ⟨by omega,by omega,λ _ _ _ _ Z hZ=>?_⟩;have nZC:Z≠C:=(nz hC3 hZ).symm;refine vS (n:=((c.length:Nat):Int).toNat) (λ q σ H'=>∃ (v0:Aq) (ws:Ap),σ=[v0,some (.int N),some (.ref z),some (.int b)]/\Same H3 H'/\H' Z=some (.lst ws)/\Reps H' (Off [C,Z]) ws ((cN.take q).map zS)) (iE2 _ ([]) (iA4 rfl (zg hZ) nk (by rw [bX];exact .nil))) ?_ ?_
  ·intro q σ H4 hq m8;refine oE2 m8 λ v0 ws m5=>oA4 m5 λ m7 s4 hZ4 rw4=>?_;clear m5 m8;subst m7;rw [aA] at hq;have s34:=s3.trans s4;have lo4:=lo.same s34;obtain ⟨wr,hwr⟩:∃ wr,cN[q]?=some wr:=⟨_,ad (by rw [l2,<- l1];exact hq)⟩;have lw:ws.length<=q:=by rw [rw4.len,af,aP];exact ef _ _
   walk_at "a";simp only [cc];refine iE7 z a.q dx _ _ _ _ (iA5 rfl (s34 _ _ hz) (zaY (by decide +kernel) (by decide +kernel) (by decide +kernel) (by decide +kernel)) ((QM T).mono) (λ t2 ht2=>?_));have s5:=zg (o:=.tup [.int b,.int q]) ht2;refine iE8 z y0 t2 n0 oss bs rs lim (iE6 i j N b q c (iA9 rfl (lo4.same s5) mX bo ro rd l1000 nk (iA3 ec hq (λ v H6 s6 rv=>?_))));have atN:atC (zh bs rs (i + N * (j - i))).cells b q=wr:=by
    unfold atC;rw [ae,ae,eN,aJ,hwr]
    rfl
   rw [atN] at rv;have s46:=s5.trans s6;have hZ6:=s46 _ _ hZ4;have hC6:=s46 _ _ (s4 _ _ hC3);have fm:Fr [C,Z] H6 (upd H6 Z (.lst (ws ++ [v]))):=ji (by simp);refine ⟨_,iA3 hZ6 (zm (by omega)) (iE2 _ (ws ++ [v]) (iA4 rfl (λ b o hb=>by rw [nu (nz hb hZ)];exact s46 _ _ (s4 b o hb)) nk ?_))⟩;rw [aK,hwr,a7];refine ((rw4.same s46).fr fm).append (.one (Rep.fr (rv.keep λ b o hb ho=>⟨λ e=>?_,ho⟩) fm));obtain ⟨xs,hx⟩:=hb;simp only [ax,bj,bQ] at e;rcases e with rfl|rfl
   ·rw [hC6] at hx;cases hx
   ·rw [hZ6] at hx;cases hx
  intro σ H4 m8;refine oE2 m8 λ v0 ws m5=>oA4 m5 λ m7 s4 hZ4 rw4=>?_;clear m5 m8;subst m7;rw [aA,show c.length=cN.length from l1.trans l2.symm,aN] at rw4;have fm:Fr [C] H4 (upd H4 C (.lst (us ++ [.ref Z]))):=ji (by simp);have lo':∀ b∈[C],b∈[C,Z]\/H4 b=none:=λ b hb=>.inl (by simp [aw.mp hb]);refine iE3 C _ _ (iA5 rfl rfl (s4 _ _ hC3) (zm (by omega)) ?_);refine iE3 _ _ (us ++ [.ref Z]) (iA4 rfl (λ b o hb=>by rw [nu (nz hb hC)];exact s4 _ _ (s3 b o hb)) nk ?_);rw [aK,eN,fZ,show (zH ((zh bs rs (i + N * (j - i))).cells.take b ++ [cN])).map D.lst=(zH ((zh bs rs (i + N * (j - i))).cells.take b)).map D.lst ++ [.lst (cN.map zS)] by simp [zH]];exact ((ru3.same s4).append (.one ((rw4.more lo').mk' (by simp [Off,nZC]) hZ4))).fr fm
 ·intro σ H2 m8;refine oE3 m8 λ v3 v4 us m5=>oA4 m5 λ m7 s2 hC2 ru=>?_;clear m5 m8;subst m7;rw [af,lc,<- wN.co.1,aN] at ru;walk_at "a";exact k C H2 s2 (ru.all.mk' (λ z=>nomatch z) hC2)
def zaj (a:Ad):Sp:=λ vs H Q _=>∃ (z y0:Addr) (n0:SN) (oss:List (List Org)) (bs:A1) (rs:At) (lim i j N:Nat),vs=[.ref z,.int N]/\LapO a H z y0 n0 (zh bs rs i) (zh bs rs j) oss/\zJ bs rs/\(∀ b∈bs,zz b.1 b.2)/\(∀ r∈rs,r.ok)/\RoundAt bs rs lim i j/\lim<=1000/\∀ l H',Same H H'->Rep H' (Off []) (.ref l) (.lst ((z8 (zh bs rs (i + N * (j - i))).gone).map D.lst))->Q (.ref l) H'
def QN (T:Txt K mg a):MCal P w K mg base a.q "gone_after" 1 ["self","rounds"] [] (zaj a):=T.iG.cal T.gq λ F=>by
 refine F.okx ZY ?_ ?_
 ·walk_at "i"
 walk_at "j";refine oE8 h λ z y0 n0 oss bs rs lim i m5=>oE2 m5 λ j N m7=>oA8 m7 λ n6 lo mX bo ro rd l1000 k=>?_;clear m5 m7 h;subst n6;have w0:=zu mX bo ro i;have w1:=zu mX bo ro j;have wN:=zu mX bo ro (i + N * (j - i));refine oE4 lo.ex λ dx lo' lg gs m5=>oA3 m5 λ hz _ ng=>?_;clear m5;have la:n0.ags.length=rs.length:=by rw [lo.so.hg.len,z8,af,w0.go.1]
 have lb:gs.length=rs.length:=by rw [ng.len,z8,af,jg,fu,w0.go.1,w1.go.1,di]
 have r24:=mX.1.2.2;walk_at "T";refine ⟨_,(zi (zp 2 ZY.nd (zK zc))  (zi (qt qI rfl (zeV (za (zk (zk (pq 0) rfl) rfl) (za (zk (pq 0) rfl) zc))) (va (n:=2) rfl (qj (Ze (i:=3) ZY.nd rfl (Or.inr rfl)) (qj (Ze (i:=4) ZY.nd rfl (Or.inr rfl)) xu)))  (ze (zF (qP ar az ay zU (pq 2) (za (jY (vars:=["place"]) (caps:=[3,1,4]) (N:=["place","old","rounds","more"]) (ON:=["self","rounds","gone","old","more"]) (osc:=zd jn) rfl rfl (by first|decide +kernel|kernel_rfl) rfl rfl (xP (za (z7 qe qd (za (pq 3) zc)) zc)) (λ s H fp m4=>(qp 0 (show (["place","old","rounds","more"]:A8).Nodup from by decide +kernel))) (λ s H fp m4=>qo) (λ s H fp m4=>(zG qm (zn (pq 1) (pq 0)) (zG vK (pq 2) (zn (pq 3) (pq 0)))))) zc)))))  (ze (zl (pq 2))))),?_⟩;walk_at "a";intro C hC;have sC:=zg (o:=.lst []) hC;have hC1:upd H C (.lst []) C=some (.lst []):=nk;generalize upd H C (.lst [])=H1 at sC hC1 ⊢;walk_at "d";walk_at "a";refine ra (sC _ _ hz) T.gq T.gw xA (ra ((lo.so.same sC).hy) T.gd T.gi rfl (ra (sC _ _ hz) T.gq T.ie Wv (iE6 true true n0.lg lg _ _ (iA4 rfl (SqL.of (sC _ _ lo.so.hg.out)) (SqL.of (sC _ _ ng.out)) ?_))));refine zhc (K:=K) (xs:=n0.ags.map V.ref) (ys:=gs.map V.ref) (λ q σ H'=>∃ (v3 v4:Aq) (us:Ap),σ=[some (.ref z),some (.int N),some (.ref C),v3,v4]/\Same H H'/\H' C=some (.lst us)/\Reps H' (Off [C]) us ((z8 ((zh bs rs (i + N * (j - i))).gone.take q)).map D.lst)) (iE3 _ _ ([]) (iA4 rfl sC hC1 (by rw [bX];exact .nil))) (λ q σ H' _ h=>by obtain ⟨_,_,_,_,s,_⟩:=h;exact ⟨SqL.of (s _ _ lo.so.hg.out),SqL.of (s _ _ ng.out)⟩) ?_ ?_
 ·intro q x x' t σ H2 hq hq' ht m8;refine oE3 m8 λ v3 v4 us m5=>oA4 m5 λ m7 s2 hC2 ru=>?_;clear m5 m8;subst m7;rw [ak,am] at hq hq';obtain ⟨b0,hb0,rfl⟩:=hq;obtain ⟨b1,hb1,rfl⟩:=hq';have hql:q < rs.length:=by rw [<- la];exact (aa.mp hb0).1
  have er:=ad hql;obtain ⟨g0,e0⟩:∃ g,(zh bs rs i).gone[q]?=some g:=⟨_,ad (by rw [w0.go.1];exact hql)⟩;obtain ⟨g1,e1⟩:∃ g,(zh bs rs j).gone[q]?=some g:=⟨_,ad (by rw [w1.go.1];exact hql)⟩;obtain ⟨gN,eN⟩:∃ g,(zh bs rs (i + N * (j - i))).gone[q]?=some g:=⟨_,ad (by rw [wN.go.1];exact hql)⟩;have l0:=(w0.go.2 q _ g0 er e0).1;have l1:=(w1.go.2 q _ g1 er e1).1;have lN:=(wN.go.2 q _ gN er eN).1;have cp:=xW (ro _ (ah er));have eg:(jg (zh bs rs i).gone (zh bs rs j).gone)[q]?=some (jp g0 g1):=by unfold jg;rw [bY,e0,e1]
  obtain ⟨c0,q0,h0⟩:=jA lo.so.hg e0;obtain ⟨c1,q1,h1⟩:=jA ng eg;rw [hb0] at q0;cases q0;rw [hb1] at q1;cases q1;have lus:us.length<=q:=by rw [ru.len,af,af,aP];exact ef _ _
  have st:=zg (o:=.tup [.ref b0,.ref b1]) ht;have s3:=s2.trans st;have hC3:=st _ _ hC2;have ru3:=ru.same st;refine un2 nk ?_;generalize upd H2 t (.tup [.ref b0,.ref b1])=H3 at s3 hC3 ru3 ⊢;walk_at "a";walk_at "e";walk_at "a";refine iA4 (.inl ⟨rfl,_,SqL.of hC3⟩) ka gJ ⟨_,⟨.inl ⟨_,SqL.of (s3 _ _ h0),rfl⟩,?_⟩⟩;rw [zP];refine ⟨by omega,by omega,λ _ _ _ _ Z hZ=>?_⟩;have nZC:Z≠C:=(nz hC3 hZ).symm;refine vS (n:=((g0.length:Nat):Int).toNat) (λ p σ H'=>∃ (v0:Aq),σ=[v0,some (.ref b0),some (.int N),some (.ref b1)]/\Same H3 H'/\H' Z=some (.lst (iv (gN.take p)))) ⟨_,iA3 rfl (zg hZ) nk⟩ ?_ ?_
  ·intro p σ H4 hp m8;refine oE1 m8 λ v0 m5=>oA3 m5 λ m7 s4 hZ4=>?_;clear m5 m8;subst m7;rw [aA] at hp;have s34:=s3.trans s4;have lp:=(zb1 mX bo ro rd N).2 q p;have m0:=wI bs rs i q p (j - i);have up:=Vu bs rs q p j;have lt:=rd.lt;have le:=rd.le;rw [Nat.add_sub_of_le (bM lt)] at m0;have m0:gAt (zh bs rs i).gone q p<=gAt (zh bs rs j).gone q p:=m0;have x0:g0[p]?=some (gAt (zh bs rs i).gone q p):=by
    unfold gAt;rw [ae (l:=(zh bs rs i).gone),e0,aJ];exact qh hp
   have x1:(jp g0 g1)[p]?=some (gAt (zh bs rs j).gone q p - gAt (zh bs rs i).gone q p):=by
    unfold jp gAt;rw [ak,fA hp,ae (l:=(zh bs rs i).gone),ae (l:=(zh bs rs j).gone),e0,e1]
    rfl
   have xN:gN[p]?=some (gAt (zh bs rs (i + N * (j - i))).gone q p):=by
    unfold gAt;rw [ae (l:=(zh bs rs (i + N * (j - i))).gone),eN,aJ];exact qh (by omega)
   have p0:0<=gAt (zh bs rs i).gone q p:=(w0.go.2 q _ g0 er e0).2 _ (ah x0);walk_at "a";simp only [cc];refine zq (SqL.of (s34 _ _ h0)) (zD (jr x0)) (zq (SqL.of (s34 _ _ h1)) (zD (jr x1)) ?_);walk_at "a";refine ⟨mul_okR (by omega) (by omega),?_⟩;walk_at "a";refine ⟨_,iA3 hZ4 (zm (by rw [zP,aP];omega)) ⟨_,iA3 rfl (λ b o hb=>by rw [nu (nz hb hZ)];exact s4 b o hb) ?_⟩⟩;rw [nk,jw,aK,xN,lp]
   rfl
  intro σ H4 m8;refine oE1 m8 λ v0 m5=>oA3 m5 λ m7 s4 hZ4=>?_;clear m5 m8;subst m7;rw [show ((g0.length:Nat):Int).toNat=gN.length by omega,aN] at hZ4;have fm:Fr [C] H4 (upd H4 C (.lst (us ++ [.ref Z]))):=ji (by simp);refine iE3 C _ _ (iA5 rfl rfl (s4 _ _ hC3) (zm (by omega)) ?_);refine iE3 _ _ (us ++ [.ref Z]) (iA4 rfl (λ b o hb=>by rw [nu (nz hb hC)];exact s4 _ _ (s3 b o hb)) nk ?_);rw [aK,eN,fZ,show (z8 ((zh bs rs (i + N * (j - i))).gone.take q ++ [gN])).map D.lst=(z8 ((zh bs rs (i + N * (j - i))).gone.take q)).map D.lst ++ [.ints gN] by simp [z8]];exact ((ru3.same s4).append (.one (qi (by simp [Off,nZC]) hZ4))).fr fm
 ·intro σ H2 m8;refine oE3 m8 λ v3 v4 us m5=>oA4 m5 λ m7 s2 hC2 ru=>?_;clear m5 m8;subst m7;rw [af,af,la,lb,di,<- wN.go.1,aN] at ru;walk_at "a";exact k C H2 s2 (ru.all.mk' (λ z=>nomatch z) hC2)
def WY (a:Ad):Sp:=λ vs H Q _=>∃ (z y0:Addr) (n0:SN) (oss:List (List Org)) (bs:A1) (rs:At) (lim i j N:Nat),vs=[.ref z,.int N]/\LapO a H z y0 n0 (zh bs rs i) (zh bs rs j) oss/\zJ bs rs/\(∀ b∈bs,zz b.1 b.2)/\(∀ r∈rs,r.ok)/\RoundAt bs rs lim i j/\lim<=1000/\∀ v H',Same H H'->Q8 a H H' v (zh bs rs (i + N * (j - i)))->Q v H'
def Z7 (T:Txt K mg a):MCal P w K mg base a.q "state_after" 4 ["self","rounds"] [] (WY a):=T.iA.cal T.gq λ F=>by
 refine F.okx ZH ?_ ?_
 ·walk_at "i"
 walk_at "j";refine oE8 h λ z y0 n0 oss bs rs lim i m5=>oE2 m5 λ j N m7=>oA8 m7 λ n6 lo mX bo ro rd l1000 k=>?_;clear m5 m7 h;subst n6;refine oE4 lo.ex λ dx lo' lg gs m5=>oA3 m5 λ hz _ _=>?_;clear m5;have lt:=rd.lt;have le:=rd.le;have wN:=zu mX bo ro (i + N * (j - i));have b24:=mX.1.1.2;have r24:=mX.1.2.2;walk_at "T";refine ⟨_,(zi (zp 2 ZH.nd (zG qm (zk (zk (pq 0) rfl) rfl) (zG vK (pq 1) (zk (pq 0) rfl))))  (ze (zl (qV (x:="State") ⟨rfl,rfl,rfl⟩ hr (za (pq 2) (za (QI ⟨rfl,rfl,rfl⟩ hr (pq 0) (za (pq 1) zc)) (za (zk (zk (pq 0) rfl) rfl) (za (QI ⟨rfl,rfl,rfl⟩ hr (pq 0) (za (pq 1) zc)) zc)))))))),?_⟩;walk_at "a";refine ra hz T.gq T.gw xA (ra lo.so.hy T.gd T.gg rfl (ra hz T.gq T.gS QO ?_));walk_at "a";rw [qk,qk];refine ⟨mul_okR (by omega) (by omega),?_⟩;walk_at "a";have et:(i:Int) + (N:Int) * ((j:Int) - i)=(zh bs rs (i + N * (j - i))).turn:=by
  rw [qk,Int.natCast_add,eu,Int.natCast_sub (by omega)]
 rw [et];refine iE4 a.p _ _ _ ⟨(VI T).mono,iE7 z a.q dx _ _ _ _ (iA5 rfl hz (zaY (by decide +kernel) (by decide +kernel) (by decide +kernel) (by decide +kernel)) ((Z8 T).mono) ⟨z,y0,n0,oss,bs,rs,lim,i,j,N,rfl,lo,mX,bo,ro,rd,l1000,λ lc H1 s1 rc=>?_⟩)⟩;have lo1:=lo.same s1;refine ra (s1 _ _ hz) T.gq T.gw xA (ra lo1.so.hy T.gd T.gk rfl (iE7 z a.q dx _ _ _ _ (iA5 rfl (s1 _ _ hz) (zaY (by decide +kernel) (by decide +kernel) (by decide +kernel) (by decide +kernel)) ((QN T).mono) ⟨z,y0,n0,oss,bs,rs,lim,i,j,N,rfl,lo1,mX,bo,ro,rd,l1000,λ lg2 H2 s2 rg=>?_⟩)));have lo2:=lo1.same s2;have hs:=lo2.so.hs;rw [(zb1 mX bo ro rd N).1.si] at hs;refine Xm T (st:=zh bs rs (i + N * (j - i))) (rc.same s2) (qi (p:=Off []) (λ z=>nomatch z) hs) rg (by rw [wN.co.1];omega) (by rw [wN.go.1];omega) λ y H3 s3 sn=>?_;refine oE2 sn λ y' n m5=>oA5 m5 λ e so ny nd nn=>?_;clear m5 sn;have s12:=s1.trans s2;exact k _ H3 (s12.trans s3) (iE2 y' n (iA5 e so (zA s12 ny) (zA s12 nd) (λ b hb=>zA s12 (nn b hb))))
def zcu (a:Ad):Sp:=λ vs H Q E=>∃ (vw:V) (n lim:Nat) (bs:A1) (rs:At),vs=[vw,.int n,.int lim]/\Rep H (Off []) vw (qq a bs rs)/\zJ bs rs/\(∀ b∈bs,zz b.1 b.2)/\(∀ r∈rs,r.ok)/\lim<=1000 /\
 (∀ i j v H',RoundAt bs rs lim i j->Same H H'->Q8 a H H' v (zh bs rs n)->Q v H')/\(Zm bs rs lim->∀ H',Same H H'->E (.ref a.f) none H')
def ze2 (T:Txt K mg a) (F:FunD K "leapt" "leapt" wS f fd):FnOk P w K mg base (CXr P w) 9 f fd ["work","turns","limit"] (zcu a):=by
 refine F.okx zeF ?_ ?_
 ·walk_at "i"
 walk_at "j";refine oE5 h λ vw n lim bs rs m5=>oA8 m5 λ m7 hv mX bo ro l1000 kQ kE=>?_;clear m5 h;subst m7;walk_at "T";refine ⟨_,(zi (zp 3 zeF.nd (zw ⟨rfl,rfl,rfl⟩ hr (za (pq 0) (za (pq 2) zc))))  (zi (zp 4 zeF.nd (qV (x:="Lap") ⟨rfl,rfl,rfl⟩ hr (za (zn (pq 3) zf) (za (zn (pq 3) zf) zc))))  (zi (zp 5 zeF.nd (zk (zn (pq 3) zf) rfl))  (zi (zL (zx zcD (pq 1) (pq 5) (zy _))  (ze (zl (zw ⟨rfl,rfl,rfl⟩ hr (za (pq 0) (za (pq 1) zc)))))  zt)  (zi (zp 6 zeF.nd (QI ⟨rfl,rfl,rfl⟩ hr (pq 4) (za (zG zcF (zG xl (pq 1) (pq 5)) (zk (pq 4) rfl)) zc)))  (zi (qt qI rfl (xP (za (zG qT (zG xl (pq 1) (pq 5)) (zk (pq 4) rfl)) zc)) (qp 7 zeF.nd)  (ze (zF (zw ⟨rfl,rfl,rfl⟩ hr (za (pq 0) (za (pq 6) zc))))))  (ze (zl (pq 6))))))))),?_⟩;walk_at "a";refine uc (xz T).mono (iE4 vw lim bs rs (iA8 rfl hv mX bo ro l1000 (λ i j t y0 y1 n0 n1 H1 rd s1 ht so0 so1=>?_) kE));have w0:=zu mX bo ro i;have w1:=zu mX bo ro j;have b24:=mX.1.1.2;have r24:=mX.1.2.2;walk_at "a";refine iE4 a.q _ _ _ ⟨(ziL T).mono,nB ht at0 (nB ht (show atI _ 1=some (.ref y1) from rfl) ?_)⟩;intro z dz hz hdz hne;have sN:Same H1 (upd (upd H1 dz (.own z)) z (.ins a.q dz [])):=(zg hdz).trans (zg (by rw [nu (aX hne)];exact hz));obtain ⟨gl,gr⟩:=QS ro w0 w1;have c6:∀ {s:PSt},stWf bs rs s->∀ c∈s.cells,c.length<=6/\∀ wr∈c,vx rs wr:=λ w c hc=>by
  obtain ⟨q,hq⟩:=br hc;have eb:=ad (l:=bs) (i:=q) (by rw [<- w.co.1];exact (aa.mp hq).1);obtain ⟨l,wk⟩:=w.co.2 q _ c eb hq;have:=(bo _ (ah eb)).2.1;exact ⟨by omega,wk⟩
 refine iE5 z dz y0 y1 n0 (iE4 n1 _ _ H1 (iA9 rfl nk sN hz so0 so1 (by rw [w0.co.1];exact b24) (λ c hc=>(c6 w0 c hc).1) (iA6 (by rw [w1.co.1];exact b24) (λ c hc=>⟨(c6 w1 c hc).1,λ wr hw x ex=>?_⟩) gl (by rw [w0.go.1];exact r24) gr (λ lo lg gs oss H2 s2 hz2 ro2 ok2 ng2=>⟨rfl,?_⟩))))
 ·refine oE2 ((c6 w1 c hc).2 wr hw x.1 x.2 (by rw [ex])) λ q r m5=>oA3 m5 λ e1 hr' _=>?_;clear m5;obtain ⟨g,eg⟩:∃ g,(zh bs rs i).gone[q]?=some g:=⟨_,ad (by rw [w0.go.1];exact (aa.mp hr').1)⟩;have:=(w0.go.2 q r g hr' eg).1;have:=xW (ro r (ah hr'));cases g with
  | nil=>simp at *;omega
  | cons g0 gs=>exact ⟨q,g0,gs,e1,eg⟩
 have lo2:LapO a H2 z y0 n0 (zh bs rs i) (zh bs rs j) oss:=⟨⟨dz,lo,lg,gs,hz2,ro2.keep λ b o _ ho=>⟨trivial,ho⟩,ng2⟩,so0.same s2,ok2⟩;have s02:=s1.trans s2;have lt:=rd.lt;have le:=rd.le;have kQ:∀ v H3 H',Same H H3->Same H3 H'->Q8 a H3 H' v (zh bs rs n)->Q v H':=λ v H3 H' sA sB sn=>by
  refine oE2 sn λ y' n' m5=>oA5 m5 λ e so ny nd nn=>?_;clear m5 sn;exact kQ i j v H' rd (sA.trans sB) (iE2 y' n' (iA5 e so (zA sA ny) (zA sA nd) (λ b hb=>zA sA (nn b hb))))
 refine nB (s2 _ _ ht) at0 (ra lo2.so.hy T.gd T.gg rfl ?_);rw [qk];walk_at "a";refine zZ (λ hn=>?_) (λ hn=>?_)
 ·exact uc (XF T).mono (iE4 vw n bs rs (iA7 rfl (hv.same s02) mX bo ro (by omega) (λ v' H' s' sn=>kQ v' H2 H' s02 s' sn)))
 walk_at "a";have tl:(zh bs rs j).turn - (zh bs rs i).turn=((j - i:Nat):Int):=by rw [qk,qk];omega
 have d0:(0:Int) < ((j - i:Nat):Int):=by omega
 refine iE7 z a.q dz _ _ _ _ (iA5 rfl hz2 (zaY (by decide +kernel) (by decide +kernel) (by decide +kernel) (by decide +kernel)) ((Z7 T).mono) (iE5 z a.q dz _ _ (iA6 rfl hz2 T.gq T.gS QO ?_)));rw [tl];walk_at "a";refine ⟨fd_small d0 (by omega),?_⟩;have ed:(n:Int) - i=((n - i:Nat):Int):=by omega
 rw [fdiv_pos d0,ed,<- Int.natCast_ediv];refine iE8 z y0 n0 oss bs rs lim i (iE2 j ((n - i) / (j - i)) (iA8 rfl lo2 mX bo ro rd l1000 (λ v H3 s3 sn=>?_)));refine oE2 sn λ y ny m5=>oA5 m5 λ m7 so3 fy fd' fn=>?_;clear m5 sn;subst m7;have s03:=s02.trans s3;have na:∀ b∈y :: ny.all,H2 b=none:=λ b hb=>by
  rcases ax.mp hb with rfl|hb
  ·exact fy
  ·exact fn b hb
 have na0:∀ b∈y :: ny.all,H b=none:=λ b hb=>zA s02 (na b hb);have hw3:Rep H3 (Off (y :: ny.all)) vw (qq a bs rs):=jd (hv.more (ns:=y :: ny.all) λ b hb=>.inr (na0 b hb)) s03;have hz3:=s3 _ _ hz2;walk_at "d";walk_at "a";refine ra hz3 T.gq T.gS QO ?_;rw [tl];walk_at "a";rw [ed,<- dZ];have rl:(n - i) % (j - i) < j - i:=cT _ (by omega);refine ⟨by omega,by omega,?_⟩;refine vS (n:=(((n - i) % (j - i):Nat):Int).toNat) (λ q σ H'=>∃ (v7:Aq),σ=[some vw,some (.int n),some (.int lim),some (.ref t),some (.ref z),some (.int i),some (.ref y),v7]/\Fr (y :: ny.all) H3 H'/\StO a H' y ny (zh bs rs (i + (n - i) / (j - i) * (j - i) + q))) ⟨_,iA3 rfl Fr.refl so3⟩ ?_ ?_
 ·intro q σ H4 hq m8;refine oE1 m8 λ v7 m5=>oA3 m5 λ m7 f4 so4=>?_;clear m5 m8;subst m7;walk_at "a";refine uc (vV T).mono (iE6 vw y ny _ bs rs (iA8 rfl (hw3.fr f4) so4 (zu mX bo ro _) mX bo ro (λ l us H5 f5 so5 _ _ _ _=>?_)));exact ⟨_,iA3 rfl (f4.trans f5) so5⟩
 ·intro σ H4 m8;refine oE1 m8 λ v7 m5=>oA3 m5 λ m7 f4 so4=>?_;clear m5 m8;subst m7;have en:i + (n - i) / (j - i) * (j - i) + (n - i) % (j - i)=n:=by
   have:=Nat.div_add_mod (n - i) (j - i);rw [fg] at this;omega
  rw [aA,en] at so4;walk_at "a";exact kQ _ H2 H4 s02 (λ b o hb=>f4 b o (λ z=>by rw [na b z] at hb;cases hb) (s3 b o hb)) (iE2 y ny (iA5 rfl so4 fy fd' fn))
def VX (T:Txt K mg a):Cal P w K mg base "leapt" 9 ["work","turns","limit"] [] (zcu a):=T.mJ.cal (ze2 T)
section
variable {bs:A1} {rs:At} (mX:zJ bs rs) (bo:∀ b∈bs,zz b.1 b.2) (ro:∀ r∈rs,r.ok) {lim i j:Nat} (rd:RoundAt bs rs lim i j) (st:j6 (jt bs rs i j))
include mX bo ro rd st
theorem ZA (n:Nat) (h:i<=n):mvd bs rs n=false:=by
 have lt:=rd.lt;have L0:0 < j - i:=by omega
 obtain ⟨a1,g1⟩:=zb1 mX bo ro rd ((n - i) / (j - i));obtain ⟨a2,g2⟩:=zb1 mX bo ro rd ((n - i) / (j - i) + 1);have dm:=Nat.div_add_mod (n - i) (j - i);have md:=cT (n - i) L0;rw [fg] at dm;refine Wf mX bo ro (i:=i + (n - i) / (j - i) * (j - i)) (j:=i + ((n - i) / (j - i) + 1) * (j - i)) (a1.ce.symm.trans a2.ce) (λ g hg x hx=>?_) n (by omega) (by rw [dR];omega);have w1:=zu mX bo ro (i + (n - i) / (j - i) * (j - i));have w2:=zu mX bo ro (i + ((n - i) / (j - i) + 1) * (j - i));have wi:=zu mX bo ro i;have wj:=zu mX bo ro j;obtain ⟨k,hk⟩:=br hg;unfold jt jg at hk;rw [bY] at hk;cases e1:(zh bs rs (i + (n - i) / (j - i) * (j - i))).gone[k]? with
 | none=>rw [e1] at hk;simp at hk
 | some u1 =>
  cases e2:(zh bs rs (i + ((n - i) / (j - i) + 1) * (j - i))).gone[k]? with
  | none=>rw [e1,e2] at hk;simp at hk
  | some u2 =>
   rw [e1,e2] at hk;have hk:jp u1 u2=g:=by simpa using hk
   subst hk;unfold jp at hx;obtain ⟨p,hp,rfl⟩:=aV.mp hx;have hp:=bu.mp hp;have kl:=(aa.mp e1).1;have er:=ad (l:=rs) (i:=k) (by rw [<- w1.go.1];exact kl);obtain ⟨v1,f1⟩:∃ v,(zh bs rs i).gone[k]?=some v:=⟨_,ad (by rw [wi.go.1,<- w1.go.1];exact kl)⟩;obtain ⟨v2,f2⟩:∃ v,(zh bs rs j).gone[k]?=some v:=⟨_,ad (by rw [wj.go.1,<- w1.go.1];exact kl)⟩;have q1:=g1 k p;have q2:=g2 k p;have l1:=(w1.go.2 k _ u1 er e1).1;have l2:=(wi.go.2 k _ v1 er f1).1;have s1:=st (jp v1 v2) (ah (i:=k) (by unfold jt jg;rw [bY,f1,f2])) (v2.getD p 0 - v1.getD p 0) (aV.mpr ⟨p,bu.mpr (by omega),rfl⟩);have t1:gAt (zh bs rs (i + (n - i) / (j - i) * (j - i))).gone k p=u1.getD p 0:=by unfold gAt;rw [ae (l:=(zh bs rs _).gone),e1];rfl
   have t2:gAt (zh bs rs (i + ((n - i) / (j - i) + 1) * (j - i))).gone k p=u2.getD p 0:=by unfold gAt;rw [ae (l:=(zh bs rs _).gone),e2];rfl
   have t3:gAt (zh bs rs i).gone k p=v1.getD p 0:=by unfold gAt;rw [ae (l:=(zh bs rs i).gone),f1];rfl
   have t4:gAt (zh bs rs j).gone k p=v2.getD p 0:=by unfold gAt;rw [ae (l:=(zh bs rs j).gone),f2];rfl
   rw [<- t1,<- t2,q1,q2,t3,t4,show (((n - i) / (j - i) + 1:Nat):Int)=(((n - i) / (j - i):Nat):Int) + 1 by omega,Int.add_mul,Int.one_mul];generalize (((n - i) / (j - i):Nat):Int) * (v2.getD p 0 - v1.getD p 0)=z;omega
theorem Wg (m:Nat):(zh bs rs (i + m)).cells=(zh bs rs i).cells/\(zh bs rs (i + m)).sides=(zh bs rs i).sides/\(zh bs rs (i + m)).gone=(zh bs rs i).gone:=zeu m λ n h _=>ZA mX bo ro rd st n h
end
def VQ {x:V} (h:wK x=true) (e:eqV x x=true):DE K H n x x true:=e ▸ .flat h h
def zgG {t1 t2:Addr} {x:Int × Int} (h1:H t1=some (.tup [.int x.1,.int x.2])) (h2:H t2=some (.tup [.int x.1,.int x.2])):DE K H 1 (.ref t1) (.ref t2) true:=by
 by_cases e:t1=t2
 ·rw [e];exact .same
 ·refine DE.tuples (n:=0) (e:=λ _=>true) e (SqT.of h1) (SqT.of h2) λ j u v hu hv=>?_;rw [hu] at hv;cases hv;have:u∈[V.int x.1,V.int x.2]:=ah hu;simp only [ax,bj,bQ] at this;rcases this with rfl|rfl
  ·exact VQ rfl (by simp [eqV])
  ·exact VQ rfl (by simp [eqV])
def zfE {p q:Addr} {xs ys:Ap} (h1:H p=some (.lst xs)) (h2:H q=some (.lst ys)) (hl:xs.length=ys.length) (hd:∀ (j:Nat) x y,xs[j]?=some x->ys[j]?=some y->DE K H n x y true):DE K H (n + 1) (.ref p) (.ref q) true:=by
 by_cases e:p=q
 ·subst e;exact .same
 ·have:=DE.lists (n:=n) (e:=λ _=>true) e (SqL.of h1) (SqL.of h2) hl hd;rw [bS.mpr (λ _ _=>rfl)] at this;exact this
def zfD {p q:A5} {vs ws:Ap} {c:Av} (h1:Reps H p vs (c.map zS)) (h2:Reps H q ws (c.map zS)) (j:Nat) (x y:V) (e1:vs[j]?=some x) (e2:ws[j]?=some y):DE K H 1 x y true:=by
 obtain ⟨d,hd,r1⟩:=h1.at e1;have r2:=h2.g j y d e2 hd;rw [ak,am] at hd;obtain ⟨wr,_,rfl⟩:=hd;cases wr with
 | none =>
  have r1:Rep H p x .non:=r1;have r2:Rep H q y .non:=r2;cases r1;cases r2;exact VQ rfl rfl
 | some z =>
  obtain ⟨t1,rfl,h1⟩:=jJ (b:=z) r1;obtain ⟨t2,rfl,h2⟩:=jJ (b:=z) r2;exact zgG h1 h2
def zgH {p q:A5} {G G':Addr} {as as':Ab} {cs:Au} {x y:V} (h1:NL H p G as (zH cs)) (h2:NL H q G' as' (zH cs)) (e1:(as.map V.ref)[j]?=some x) (e2:(as'.map V.ref)[j]?=some y):DE K H 2 x y true:=by
 rw [ak,am] at e1 e2;obtain ⟨b1,e1,rfl⟩:=e1;obtain ⟨b2,e2,rfl⟩:=e2;have hj:j < cs.length:=by have:=(aa.mp e1).1;rw [h1.len,zH,af] at this;exact this
 have ec:(zH cs)[j]?=some (cs[j].map zS):=by rw [zH,ak,ad hj];rfl
 obtain ⟨vs,g1,r1⟩:=h1.g j b1 _ e1 ec;obtain ⟨ws,g2,r2⟩:=h2.g j b2 _ e2 ec;exact zfE g1 g2 (by rw [r1.len,r2.len]) (zfD r1 r2)
inductive spFar (K:A0) (vs:Ap) (H:Hp) (Q:VK) (E:XK):Prop
 | i (l:Addr) (ns:A6):vs=[.ref l]->SqL K H l (iv ns)->(∀ n:Nat,Q (.int n) H)->spFar K vs H Q E
def zgM (T:Txt K mg a):Cal P w K mg base "_law_far" 1 ["_law_cells"] [] (spFar K):=T.mK.cal λ F=>by
 refine F.okx zeG ?_ ?_
 ·walk_at "i"
 walk_at "j";rcases h with ⟨l,ns,rfl,hl,k⟩;walk_at "T";refine ⟨_,(zi (zp 1 zeG.nd zf)  (zi (qt qI rfl (ql (pq 0)) (qp 2 zeG.nd)  (ze (zp 1 zeG.nd (zG qT (zG qm (zG vK (pq 1) zf) (pq 2)) (zG xl Vx zf)))))  (ze (zl (pq 1))))),?_⟩;walk_at "a";walk_at "d";refine ⟨l,rfl,.inl ⟨⟨_,hl⟩,?_⟩⟩;refine qH (K:=K) (a:=l) (xs:=iv ns) (λ i σ H'=>∃ (n:Nat) (v2:Aq),σ=[some (.ref l),some (.int n),v2]/\H'=H) (iE2 0 _ ⟨rfl,rfl⟩) (λ i σ H' _ h=>by obtain ⟨_,_,_,rfl⟩:=h;exact hl) ?_ ?_
 ·intro i x σ H1 hi m8;refine oE2 m8 λ n v2 m5=>oA2 m5 λ m7 n6=>?_;clear m5 m8;subst m7 n6;obtain ⟨c,hc,rfl⟩:=Q4 hi;walk_at "a";refine ⟨mul_okR (by decide) (by decide),?_⟩;have m0:=bJ ((n:Int) * 1000003 + c) (show (999999999999999999999999999999999999999999999999999999999900:Int)≠0 by decide);generalize ((n:Int) * 1000003 + c) % 999999999999999999999999999999999999999999999999999999999900=z at m0 ⊢;obtain ⟨z',rfl⟩:∃ z':Nat,z=z':=⟨z.toNat,by omega⟩;exact ⟨z',_,rfl⟩
 ·intro σ H1 m8;refine oE2 m8 λ n v2 m5=>oA2 m5 λ m7 n6=>?_;clear m5 m8;subst m7 n6;walk_at "a";exact k n
inductive spAsked (a:Ad) (vs:Ap) (H:Hp) (Q:VK) (E:XK):Prop
 | i (vw:V) (lim:Nat) (bs:A1) (rs:At):vs=[vw,.int lim]->Rep H (Off []) vw (qq a bs rs)->zJ bs rs->(∀ b∈bs,zz b.1 b.2)->(∀ r∈rs,r.ok)->lim<=1000->(∀ t x y H',Same H H'->H' t=some (.tup [x,y])->((∃ i j,RoundAt bs rs lim i j/\zhx bs rs i j H x H'/\y=.non)\/(Zm bs rs lim/\x=.non/\∃ e,y=.ref e/\H' e=some (zcf e (Value.ref a.f))))->Q (.ref t) H')->spAsked a vs H Q E
def zeh (T:Txt K mg a):Cal P w K mg base "_law_asked" 11 ["_law_work_here","_law_limit"] [] (spAsked a):=T.mf.cal λ F=>by
 refine F.okx zbH ?_ ?_
 ·walk_at "i"
 walk_at "j";rcases h with ⟨vw,lim,bs,rs,rfl,hv,mX,bo,ro,l1000,k⟩;walk_at "T";refine ⟨_,(zi (zp 2 zbH.nd zE)  (zi (zp 3 zbH.nd zE)  (zi (zdI (i:=4) ⟨rfl,rfl,rfl⟩ rfl zbH.nd rfl rfl (λ pn G=>(ze (zp 2 zbH.nd (zw ⟨rfl,rfl,rfl⟩ hr (za (pq 0) (za (pq 1) zc)))))) (λ pn a=>(ze (zp 3 zbH.nd (pq 4)))))  (ze (zl (qS (za (pq 2) (za (pq 3) zc)))))))),?_⟩;walk_at "a";refine ⟨a.b,iA3 T.lB T.lI (λ pn=>?_)⟩;refine uc (VV T).mono (iE4 vw lim bs rs (iA8 rfl hv mX bo ro l1000 (λ i j v H1 rnd s1 r t ht=>k t _ _ _ (s1.trans (zg ht)) nk (.inl (iE2 i j (iA3 rnd r rfl)))) (λ nr H1 s1=>⟨a.f,iA3 rfl T.ii (λ e he t ht=>?_)⟩)));exact k t _ _ _ ((s1.trans (zg he)).trans (zg ht)) nk (.inr (iA3 nr rfl ⟨e,⟨rfl,nA nk ht⟩⟩))
def zcx {Q:VK} {p q:Addr} {xs ys:Ap} (hn:n<=8) (h1:SqL K H p xs) (h2:SqL K H q ys) (hl:xs.length=ys.length) (hde:∀ (j:Nat) (x y:V),xs[j]?=some x->ys[j]?=some y->DE K H n x y true) (k:Q (.bl true) H):Vp K (.ref p) (.ref q) H Q :=
 .inr (.inr ⟨p,q,xs,ys,n,λ _=>true,rfl,rfl,hn,hde,.inl ⟨h1,h2,hl,by rw [bS.mpr (λ _ _=>rfl)];exact k⟩⟩)
def zhm (a:Ad):Sp:=λ vs H Q _=>∃ (y y':Addr) (n n':SN) (s s':PSt),vs=[.ref y,.ref y']/\StO a H y n s/\StO a H y' n' s'/\s'.cells=s.cells/\s'.sides=s.sides/\s'.gone=s.gone/\Q (.bl true) H
def zfN (T:Txt K mg a):Cal P w K mg base "_law_same" 1 ["_law_one","_law_other"] [] (zhm a):=T.mB.cal λ F=>by
 refine F.okx zdy ?_ ?_
 ·walk_at "i"
 walk_at "j";refine oE6 h λ y y' n n' st st' m5=>oA7 m5 λ m7 so so' e1 e2 e3 k=>?_;clear m5 h;subst m7;have hc:=so'.hc;have hs:=so'.hs;have hg:=so'.hg;rw [e1] at hc;rw [e2] at hs;rw [e3] at hg;walk_at "T";refine ⟨_,(ze (zl (VA (xv (zcG hr.units1) (zk (pq 0) rfl) (zk (pq 1) rfl) (zy _)) (VA (xv (zcG hr.units1) (zk (pq 0) rfl) (zk (pq 1) rfl) (zy _)) (Vy (xv (zcG hr.units1) (zk (pq 0) rfl) (zk (pq 1) rfl) (zy _))))))),?_⟩;walk_at "a";refine ra so.hy T.gd T.gf rfl (ra so'.hy T.gd T.gf rfl ?_);refine zcx (n:=2) (by decide) (SqL.of so.hc.out) (SqL.of hc.out) (by rw [af,af,so.hc.len,hc.len]) (λ j u v hu hv=>zgH so.hc hc hu hv) ?_;walk_at "a";refine ra so.hy T.gd T.gk rfl (ra so'.hy T.gd T.gk rfl ?_);refine zhu (SqL.of so.hs) (SqL.of hs) (JB _) (JM (JB _)) ?_;walk_at "a";refine ra so.hy T.gd T.gi rfl (ra so'.hy T.gd T.gi rfl ?_);refine zcx (n:=1) (by decide) (SqL.of so.hg.out) (SqL.of hg.out) (by rw [af,af,so.hg.len,hg.len]) (λ j u v hu hv=>?_) k;rw [ak,am] at hu hv;obtain ⟨b,hb,rfl⟩:=hu;obtain ⟨b',hb',rfl⟩:=hv;obtain ⟨g,eg⟩:∃ g,st.gone[j]?=some g:=⟨_,ad (by have:=(aa.mp hb).1;rw [so.hg.len,z8,af] at this;exact this)⟩;obtain ⟨c,q1,h1⟩:=jA so.hg eg;obtain ⟨c',q2,h2⟩:=jA hg eg;rw [hb] at q1;cases q1;rw [hb'] at q2;cases q2;by_cases e:b=b'
 ·rw [e];exact .same
 ·exact zgI e (SqL.of h1) (SqL.of h2)
theorem WU {rs:At} {st:PSt}:∀ m,(zo rs st m).2=[]->∀ k,k < m->(qg rs st k).2=none
 | 0,_,_,hk=>absurd hk (ee _)
 | m + 1,h,k,hk=>by
  obtain ⟨h1,h2⟩:=fj.mp (show (zo rs st m).2 ++ (qg rs (zo rs st m).1 m).2.toList=[] from h);by_cases e:k=m
  ·subst e;rw [Zk k h1] at h2;cases e:(qg rs st k).2 with
   | none=>rfl
   | some x=>rw [e] at h2;cases h2
  ·exact WU m h1 k (by omega)
def zea {rs:At} {st:PSt} {r:Row} (hr:rs[k]?=some r) (h:(qg rs st k).2=none):zX r (qc rs st.cells r) (qA st.cells r) st.turn (st.sides.getD k 0).toNat=none:=by
 unfold qg at h;rw [hr] at h;simp only at h;cases e:zX r (qc rs st.cells r) (qA st.cells r) st.turn (st.sides.getD k 0).toNat with
 | none=>rfl
 | some ch=>rw [e] at h;cases h
def zh4 {y:Addr} {n:SN} {st:PSt} (so:StO a H y n st) (hi:i < st.cells.length) (c0:0 < (st.cells.getD i []).length):∃ b us z,n.acs[i]?=some b/\H b=some (.lst us)/\Reps H (zV H) us ((st.cells.getD i []).map zS)/\atI us (-1)=some z/\Rep H (zV H) z (zS (xm (st.cells.getD i []))):=by
 have ec:=ad hi;have eg:st.cells.getD i []=st.cells[i]:=by rw [ae,ec];rfl
 rw [eg] at c0 ⊢;obtain ⟨b,us,hb,hu,ru⟩:=so.hc.at (i:=i) (xs:=st.cells[i].map zS) (by rw [zH,ak,ec];rfl);have lu:us.length=st.cells[i].length:=by rw [ru.len,af]
 obtain ⟨z,hz⟩:∃ z,us[us.length - 1]?=some z:=⟨us[us.length - 1]'(by omega),ad _⟩;obtain ⟨d,hd,rz⟩:=ru.at hz;rw [ak,am] at hd;obtain ⟨wr,hwr,rfl⟩:=hd;have ew:xm st.cells[i]=wr:=by
  unfold xm;rw [bb,cf,<- lu,hwr]
  rfl
 refine iE3 b us z (iA5 hb hu ru ?_ (by rw [ew];exact rz));rw [VF (d:=z) (dM (by omega)),bb,cf,hz]
 rfl
def zac {rs:At} (mX:zJ bs rs) (bo:∀ b∈bs,zz b.1 b.2) (ro:∀ r∈rs,r.ok) {lim i j:Nat} (rd:RoundAt bs rs lim i j) (st:j6 (jt bs rs i j)) {b pace:Int} {outs kinds:A6} (hr:rs[k]?=some ⟨.drain,[b],outs,pace,kinds⟩) (hp:0 < pace):xm (zI (zh bs rs i).cells b)=none:=by
 have hk:=(aa.mp hr).1;obtain ⟨q,rfl⟩:∃ q:Nat,pace=q:=⟨pace.toNat,by omega⟩;have le:i<=i * q:=Nat.le_mul_of_pos_right _ (by omega);have e:=ZA mX bo ro rd st (i * q) le;have c:=(Wg mX bo ro rd st (i * q - i)).1;rw [show i + (i * q - i)=i * q by omega] at c;unfold mvd at e;rw [cM] at e;have n:=zea hr (WU _ (by simpa using e.1) k hk);rw [c,qk] at n;refine bH λ ne=>?_;unfold zX at n;simp only at n;rw [ao (λ z=>?_)] at n
 ·cases n
 ·rcases z with z|z|z
  ·omega
  ·cases e:xm (zI (zh bs rs i).cells b) with
   | none=>exact ne e
   | some x =>
    have z:jK rs (xm (zI (zh bs rs i).cells b))=none:=z;rw [e] at z;cases z
  ·exact z (by rw [eu];exact Int.mul_emod_left _ _)
def zie {a b i j:Int} (h:a - i=b - j):a + (j - i)=b:=by omega
inductive spMoving (a:Ad) (vs:Ap) (H:Hp) (Q:VK) (E:XK):Prop
 | i (vw:V) (lim far i j:Nat) (cl:Addr) (cs:Ab) (bs:A1) (rs:At):vs=[vw,.int lim,.ref cl,.int far,.int ((j:Int) - i)]->Rep H (Off []) vw (qq a bs rs)->zJ bs rs->(∀ b∈bs,zz b.1 b.2)->(∀ r∈rs,r.ok)->lim<=60->RoundAt bs rs lim i j->NL H (zV H) cl cs (z8 (jt bs rs i j))->(∀ H',Q (.bl true) H')->spMoving a vs H Q E
def zcn (T:Txt K mg a):Cal P w K mg base "_law_moving" 10 ["_law_work_here","_law_limit","_law_counts","_law_far_here","_law_length"] [] (spMoving a):=T.lV.cal λ F=>by
 refine F.okx zaw ?_ ?_
 ·walk_at "i"
 walk_at "j";rcases h with ⟨vw,lim,far,i,j,cl,cs,bs,rs,rfl,hv,mX,bo,ro,l60,rd,nc,k⟩;have lt:=rd.lt;have le:=rd.le;have n1:i + (60 + far - i)=60 + far:=by omega
 have n2:j + (60 + far - i)=60 + far + (j - i):=by omega
 walk_at "T";refine ⟨_,(zj (zp 5 zaw.nd (zw ⟨rfl,rfl,rfl⟩ hr (za (pq 0) (za (zG qm zf (pq 3)) (za (pq 1) zc)))))  (zj (zp 6 zaw.nd (zw ⟨rfl,rfl,rfl⟩ hr (za (pq 0) (za (zG qm (zG qm zf (pq 3)) (pq 4)) (za (pq 1) zc)))))  (zj (qt qI rfl (xP (za (z7 qe qd (za (zk (pq 0) rfl) zc)) zc)) (qp 7 zaw.nd)  (zj (zp 8 zaw.nd (zn (pq 2) (pq 7)))  (ze (qt qI rfl (xP (za (z7 qe qd (za (pq 8) zc)) zc)) (qp 9 zaw.nd)  (ze (zL (zx (zaL hr.units1) (zG qm (zn (zn (zk (pq 5) rfl) (pq 7)) (pq 9)) (zn (pq 8) (pq 9))) (zn (zn (zk (pq 6) rfl) (pq 7)) (pq 9)) (zy _))  (ze (zl Wq))  zt))))))  (ze (zl Wq))))),?_⟩;walk_at "a";refine uc (VX T).mono (iE5 vw (60 + far) lim bs rs (iA8 (by simp) hv mX bo ro (by omega) (λ i1 j1 v1 H1 _ s1 sn1=>?_) (λ nr=>absurd nr rd.no)));refine oE2 sn1 λ y n m5=>oA3 m5 λ m7 so _=>?_;clear m5 sn1;subst m7;walk_at "a";refine uc (VX T).mono (iE5 vw (60 + far + (j - i)) lim bs rs (iA8 (by simp;omega) (hv.same s1) mX bo ro (by omega) (λ i2 j2 v2 H2 _ s2 sn2=>?_) (λ nr=>absurd nr rd.no)));refine oE2 sn2 λ y' n' m5=>oA3 m5 λ m7 so' _=>?_;clear m5 sn2;subst m7;have so2:=so.same s2;have nc2:=nc.tup (H':=H2) λ b o _ hb=>(s1.trans s2) b o hb;have hv2:=hv.same (s1.trans s2);refine oE7 (qX hv2) λ yw dx fs l1 l2 bvs m9 m5=>oA9 m5 λ m7 hy e1 e2 h1 h2 B Kn _=>?_;clear m5;subst m7;have w0:=zu mX bo ro i;have w1:=zu mX bo ro j;have wa:=zu mX bo ro (60 + far);have wb:=zu mX bo ro (60 + far + (j - i));have r24:=mX.1.2.2;walk_at "d";walk_at "a";refine ra hy T.gm T.gj e2 ⟨_,.inl ⟨_,SqL.of h2,rfl⟩,?_⟩;rw [Kn.len];refine ⟨by omega,by omega,?_⟩;let n9:Nat->St->Hp->Prop:=λ n σ H'=>∃ v7 v8 v9:Option V,σ=[some (.ref yw),some (.int lim),some (.ref cl),some (.int far),some (.int ((j:Int) - i)),some (.ref y),some (.ref y'),v7,v8,v9]/\H'=H2;refine vS (n:=((rs.length:Nat):Int).toNat) n9 (iE3 _ _ _ ⟨rfl,rfl⟩) ?_ ?_
 ·intro k σ H3 hk m8;refine oE3 m8 λ v7 v8 v9 m5=>oA2 m5 λ m7 n6=>?_;clear m5 m8;subst m7 n6;rw [aA] at hk;have er:=ad hk;obtain ⟨g0,e0⟩:∃ g,(zh bs rs i).gone[k]?=some g:=⟨_,ad (by rw [w0.go.1];exact hk)⟩;obtain ⟨g1,e1⟩:∃ g,(zh bs rs j).gone[k]?=some g:=⟨_,ad (by rw [w1.go.1];exact hk)⟩;obtain ⟨ga,ea⟩:∃ g,(zh bs rs (60 + far)).gone[k]?=some g:=⟨_,ad (by rw [wa.go.1];exact hk)⟩;obtain ⟨gb,eb⟩:∃ g,(zh bs rs (60 + far + (j - i))).gone[k]?=some g:=⟨_,ad (by rw [wb.go.1];exact hk)⟩;have l0:=(w0.go.2 k _ g0 er e0).1;have la:=(wa.go.2 k _ ga er ea).1;have lb:=(wb.go.2 k _ gb er eb).1;have cp:=xW (ro _ (ah er));have eg:(jt bs rs i j)[k]?=some (jp g0 g1):=by unfold jt jg;rw [bY,e0,e1]
  obtain ⟨c,q0,hc⟩:=jA nc2 eg;obtain ⟨ca,qa,ha⟩:=jA so2.hg ea;obtain ⟨cb,qb,hb⟩:=jA so'.hg eb;have lg:(jp g0 g1).length=g0.length:=by simp [jp]
  simp only [cc];walk_at "a";refine zq (SqL.of nc2.out) (zD (by rw [ak,q0];rfl)) ?_;walk_at "d";walk_at "a";refine ⟨_,.inl ⟨_,SqL.of hc,rfl⟩,?_⟩;rw [zP,lg];refine ⟨by omega,by omega,?_⟩;let ni:Nat->St->Hp->Prop:=λ n σ H'=>∃ v9:Option V,σ=[some (.ref yw),some (.int lim),some (.ref cl),some (.int far),some (.int ((j:Int) - i)),some (.ref y),some (.ref y'),some (.int k),some (.ref c),v9]/\H'=H3;refine vS (n:=((g0.length:Nat):Int).toNat) ni ⟨_,rfl,rfl⟩ ?_ (λ σ H4 h=>by obtain ⟨v9,rfl,rfl⟩:=h;exact (iE3 _ _ _ ⟨rfl,rfl⟩));rintro p σ H4 hp ⟨v9,rfl,rfl⟩;rw [aA] at hp;have x0:(jp g0 g1)[p]?=some (gAt (zh bs rs j).gone k p - gAt (zh bs rs i).gone k p):=by
   unfold jp gAt;rw [ak,fA hp,ae (l:=(zh bs rs i).gone),ae (l:=(zh bs rs j).gone),e0,e1]
   rfl
  have xg:∀ {n:Nat} {g:A6},(zh bs rs n).gone[k]?=some g->p < g.length->g[p]?=some (gAt (zh bs rs n).gone k p):=λ {n g} e h=>by
   unfold gAt;rw [ae (l:=(zh bs rs n).gone),e,aJ];exact qh h
  have xa:=xg ea (by rw [la,<- l0];exact hp);have xb:=xg eb (by rw [lb,<- l0];exact hp);have al:=(Vv (zb1 mX bo ro rd 1).1 mX bo ro (60 + far - i)).2 k p;rw [Nat.one_mul,Nat.add_sub_of_le (bM lt),n1,n2] at al;simp only [cc];walk_at "a";refine ra so2.hy T.gd T.gi rfl (zq (SqL.of so2.hg.out) (zD (JD qa)) (zq (SqL.of ha) (zD (jr xa)) (zq (SqL.of hc) (zD (jr x0)) ?_)));walk_at "a";refine ra so'.hy T.gd T.gi rfl (zq (SqL.of so'.hg.out) (zD (JD qb)) (zq (SqL.of hb) (zD (jr xb)) ?_));walk_at "a";rw [ao (λ z=>z (zie al))];exact ⟨_,rfl,rfl⟩
 ·intro σ H3 m8;refine oE3 m8 λ v7 v8 v9 m5=>oA2 m5 λ m7 n6=>?_;clear m5 m8;subst m7 n6;walk_at "a";exact k _
def ziW {p q:A5} {x y:zC} {u v:V} (h1:Rep H p u (zS x)) (h2:Rep H q v (zS y)):DE K H 1 u v (decide (x=y)):=by
 cases x with
 | none =>
  cases h1;cases y with
  | none=>cases h2;exact .flat rfl rfl
  | some y =>
   obtain ⟨t,rfl,ht⟩:=jJ (b:=y) h2;exact .nt (SqT.of ht)
 | some x =>
  obtain ⟨t,rfl,ht⟩:=jJ (b:=x) h1;cases y with
  | none=>cases h2;exact .tn (SqT.of ht)
  | some y =>
   obtain ⟨t2,rfl,ht2⟩:=jJ (b:=y) h2;by_cases e:t=t2
   ·subst e;rw [ht] at ht2;simp only [cA,HO.tup.injEq,dq,V.int.injEq,and_true] at ht2;rw [aY (bt some (Prod.ext ht2.1 ht2.2))];exact .same
   ·have:=DE.tuples (K:=K) (n:=0) (e:=λ j=>match j with|0=>decide (x.1=y.1)|_=>decide (x.2=y.2)) e (SqT.of ht) (SqT.of ht2) λ j a b ha hb=>by
     match j,ha,hb with
     | 0,ha,hb =>
      cases ha;cases hb;have:DE K H 0 (.int x.1) (.int y.1) (eqV (.int x.1) (.int y.1)):=.flat rfl rfl;rw [show eqV (.int x.1) (.int y.1)=decide (x.1=y.1) by simp [eqV];rfl] at this;exact this
     | 1,ha,hb =>
      cases ha;cases hb;have:DE K H 0 (.int x.2) (.int y.2) (eqV (.int x.2) (.int y.2)):=.flat rfl rfl;rw [show eqV (.int x.2) (.int y.2)=decide (x.2=y.2) by simp [eqV];rfl] at this;exact this
    have e2:((decide (x.1=y.1) && (decide (x.2=y.2) && true)) && true)=decide (some x=some y):=by
     obtain ⟨x1,x2⟩:=x;obtain ⟨y1,y2⟩:=y;simp
    rw [<- e2];exact this
def zdc {α:Type} [DecidableEq α] {xs ys:List α} (h:xs.length=ys.length):(List.range xs.length).all (λ j=>decide (xs[j]?=ys[j]?))=decide (xs=ys):=by
 have:=zfR (xs:=xs) (ys:=ys);rw [<- h,di] at this;simpa using this
def zht {Q:VK} {p q:A5} {G G':Addr} {as as':Ab} {cs cs':Au} (h1:NL H p G as (zH cs)) (h2:NL H q G' as' (zH cs')) (dj:∀ b∈G :: as,b ∉ G' :: as') (hl:cs.length=cs'.length) (hc:∀ (j:Nat) c c',cs[j]?=some c->cs'[j]?=some c'->c.length=c'.length) (k:Q (.bl (decide (cs≠cs'))) H):zbO K (.ref G) (.ref G') H Q:=by
 have la:as.length=cs.length:=by rw [h1.len,zH,af]
 have lb:as'.length=cs'.length:=by rw [h2.len,zH,af]
 refine .inr (.inr (iE6 G G' _ _ 2 (λ j=>decide (cs[j]?=cs'[j]?)) (iA5 rfl rfl (by decide) (λ j x y hx hy=>?_) (.inl (iA4 (SqL.of h1.out) (SqL.of h2.out) (by simp;omega) ?_)))))
 ·rw [ak,am] at hx hy;obtain ⟨b,hb,rfl⟩:=hx;obtain ⟨b',hb',rfl⟩:=hy;have j1:j < cs.length:=by rw [<- la];exact (aa.mp hb).1
  have e1:=ad j1;have e2:=ad (l:=cs') (i:=j) (by omega);obtain ⟨us,hu,ru⟩:=h1.g j b _ hb (show (zH cs)[j]?=some (cs[j].map zS) by rw [zH,ak,e1];rfl);obtain ⟨vs,hv,rv⟩:=h2.g j b' _ hb' (show (zH cs')[j]?=some (cs'[j].map zS) by rw [zH,ak,e2];rfl);have lu:us.length=cs[j].length:=by rw [ru.len,af]
  have lv:vs.length=cs'[j].length:=by rw [rv.len,af]
  have cl:=hc j _ _ e1 e2;have:=DE.lists (K:=K) (n:=1) (e:=λ i=>decide (cs[j][i]?=cs'[j][i]?)) (λ z=>dj b (aF _ (ah hb)) (by rw [z];exact aF _ (ah hb'))) (SqL.of hu) (SqL.of hv) (by omega) λ i x y hx hy=>by
   obtain ⟨d,hd,r1⟩:=ru.at hx;obtain ⟨d',hd',r2⟩:=rv.at hy;rw [ak,am] at hd hd';obtain ⟨w1,q1,rfl⟩:=hd;obtain ⟨w2,q2,rfl⟩:=hd';show DE K H 1 x y (decide (cs[j][i]?=cs'[j][i]?))
   rw [q1,q2,show decide (some w1=some w2)=decide (w1=w2) by simp];exact ziW r1 r2
  rw [lu,zdc cl] at this;show DE K H 2 _ _ (decide (cs[j]?=cs'[j]?))
  rw [e1,e2,show decide (some cs[j]=some cs'[j])=decide (cs[j]=cs'[j]) by simp];exact this
 ·rw [af,la,zdc hl,ap rfl];rw [show decide (cs≠cs')=!decide (cs=cs') by simp] at k;exact k
inductive spStill (a:Ad) (vs:Ap) (H:Hp) (Q:VK) (E:XK):Prop
 | i (vw:V) (lim far i j:Nat) (bs:A1) (rs:At):vs=[vw,.int lim,.int i,.int far]->Rep H (Off []) vw (qq a bs rs)->zJ bs rs->(∀ b∈bs,zz b.1 b.2)->(∀ r∈rs,r.ok)->lim<=60->RoundAt bs rs lim i j->j6 (jt bs rs i j)->(∀ H',Q (.bl true) H')->spStill a vs H Q E
def zed (T:Txt K mg a):Cal P w K mg base "_law_still" 10 ["_law_work_here","_law_limit","_law_turn","_law_far_here"] [] (spStill a):=T.mh.cal λ F=>by
 refine F.okx zbD ?_ ?_
 ·walk_at "i"
 walk_at "j";rcases h with ⟨vw,lim,far,i,j,bs,rs,rfl,hv,mX,bo,ro,l60,rd,st,k⟩;have lt:=rd.lt;have le:=rd.le;walk_at "T";refine ⟨_,(zj (zL (PW.pt (pw_or (jP (qO (z7 vY qu (za (pq 2) (za (zg7 zia) zc))) (λ _=>rfl))) (pw_or (qO (z7 vY qu (za (pq 2) (za (zg7 zgO) zc))) (λ _=>rfl)) (pw_or1 (zx zcD (pq 2) zf (zy _))))))  (ze (zl Wq))  zt)  (zj (zp 4 zbD.nd (zw ⟨rfl,rfl,rfl⟩ hr (za (pq 0) (za (pq 2) zc))))  (zj (zp 5 zbD.nd (zw ⟨rfl,rfl,rfl⟩ hr (za (pq 0) (za (zG qm (pq 2) (zG qT (pq 3) (zG xl Vx zf))) (za (pq 1) zc)))))  (zj (zL (PW.pt (pw_or (jP (qO (zw ⟨rfl,rfl,rfl⟩ hr (za (pq 4) (za (pq 5) zc))) (λ _=>rfl))) (pw_or1 (zx (ze3 hr.units1) (zw ⟨rfl,rfl,rfl⟩ hr (za (pq 0) (za (pq 5) zc))) (zK zc) (zy _)))))  (ze (zl Wq))  zt)  (zj (qt qI rfl (ql (zk (pq 0) rfl)) (qp 6 zbD.nd)  (ze (zL (PW.pt (pw_and (qO (z7 vY qu (za (pq 6) (za wg zc))) (λ _=>rfl)) (pw_and (zx Zq (zk (pq 6) rfl) zf (zy _)) (pw_and1 (zx wl (zn (zn (zk (pq 5) rfl) (zn (zk (pq 6) rfl) zf)) (Wp Qo zf)) zE (zy _))))))  (ze (zl Wq))  zt)))  (zj (zL (zx Zq (pq 2) zf (zy _))  (zj (zp 7 zbD.nd (zw ⟨rfl,rfl,rfl⟩ hr (za (pq 0) (za (zG xl (pq 2) zf) zc))))  (ze (zl (ziE (xv (ze3 hr.units1) (zw ⟨rfl,rfl,rfl⟩ hr (za (pq 0) (za (pq 7) zc))) (zK zc) (zy _)) (Vy (xv (zha hr.units1) (zk (pq 7) rfl) (zk (pq 4) rfl) (zy _)))))))  zt)  (ze (zl Wq)))))))),?_⟩;walk_at "a";refine uc (XF T).mono (iE4 vw i bs rs (iA7 rfl hv mX bo ro (by omega) (λ v1 H1 s1 sn1=>?_)));refine oE2 sn1 λ y n m5=>oA3 m5 λ m7 so _=>?_;clear m5 sn1;subst m7;walk_at "a";have m0:=bJ (far:Int) (show (999999999999999999999999999999999999999999999999999999999900:Int)≠0 by decide);generalize (far:Int) % 999999999999999999999999999999999999999999999999999999999900=z at m0 ⊢;obtain ⟨m,rfl⟩:∃ m:Nat,z=m:=⟨z.toNat,by omega⟩;refine uc (VX T).mono (iE5 vw (i + m) lim bs rs (iA8 (by simp) (hv.same s1) mX bo ro (by omega) (λ i2 j2 v2 H2 _ s2 sn2=>?_) (λ nr=>absurd nr rd.no)));refine oE2 sn2 λ y' n' m5=>oA3 m5 λ m7 so' _=>?_;clear m5 sn2;subst m7;have so2:=so.same s2;have s02:=s1.trans s2;obtain ⟨fc1,fc2,fc3⟩:=Wg mX bo ro rd st m;walk_at "a";refine uc (zfN T).mono (iE6 y y' n n' _ _ (iA7 rfl so2 so' fc1 fc2 fc3 ?_));have ev:=ZA mX bo ro rd st (i + m) (by omega);unfold mvd at ev;rw [cM] at ev;have ne:(zo rs (zh bs rs (i + m)) rs.length).2=[]:=by simpa using ev.1
 walk_at "a";refine uc (XG T).mono (iE6 vw _ _ bs rs _ (iA8 rfl (hv.same s02) so'.rep (zu mX bo ro (i + m)) mX bo ro (λ ml us H3 s3 _ gl ru e he=>?_)));have lu:us.length=0:=by rw [ru.len,af,ne];rfl
 refine iE3 ml e us (iA5 rfl rfl (SqL.of (zg he _ _ gl)) (SqL.of nk) ?_);rw [aR (λ z=>z lu)];have so3:=(so2.same s3).same (zg (o:=.lst []) he);have so3':=(so'.same s3).same (zg (o:=.lst []) he);have s03:=(s02.trans s3).trans (zg (o:=.lst []) he);generalize upd H3 e (.lst [])=H4 at so3 so3' s03 ⊢;walk_at "a";refine oE7 (qX (hv.same s03)) λ yw dx fs l1 l2 bvs m9 m5=>oA9 m5 λ m7 hy e1 e2 h1 h2 B Kn _=>?_;clear m5;subst m7;have wp:=zu mX bo ro (i + m);walk_at "d";walk_at "a";refine ra hy T.gm T.gj e2 ⟨l2,rfl,.inl ⟨⟨_,SqL.of h2⟩,?_⟩⟩;let n9:Nat->St->Hp->Prop:=λ n σ H'=>∃ v6:Option V,σ=[some (.ref yw),some (.int lim),some (.int i),some (.int far),some (.ref y),some (.ref y'),v6,none]/\H'=H4;refine qH (K:=K) (a:=l2) (xs:=m9) n9 ⟨_,rfl,rfl⟩ (λ _ σ H' _ h=>by obtain ⟨_,_,rfl⟩:=h;exact SqL.of h2) ?_ ?_
 ·rintro q x σ H5 hq ⟨v6,rfl,rfl⟩;obtain ⟨r0,hr0,hKn⟩:=Kn.at hq;refine oE6 hKn.inv λ y1 dx1 m1 m2 m3 fs1 m5=>oA9 m5 λ m7 _ _ _ _ g0 f1 f2 n6=>oA5 n6 λ _ g1 g2 _ _=>?_;clear m5 n6;subst m7;walk_at "a";refine iE2 (.ref a.k) _ (iA3 T.lh rfl (iE4 _ _ _ _ (iA4 rfl ((WT T r0.wd).ty (CT T r0.wd) g0) (.inl ⟨_,rfl,ziJ T r0.wd⟩) ?_)));by_cases hwd:r0.wd=.drain
  ·rw [aY hwd];obtain ⟨wd,ins,outs,pace,kinds⟩:=r0;simp only at hwd;subst hwd;refine oA4 (ro _ (ah hr0)) λ m5 _ p0 _=>?_;obtain ⟨b,rfl⟩:=m5;refine oE3 hKn.drain λ dxs n1 n2 hyd=>?_;walk_at "a";refine ra hyd T.gF T.gz rfl (zZ (λ z=>?_) (λ _=>?_))
   ·refine oE1 (wu wp.co bo (Qe mX hr0 (aw.mpr rfl))) λ b' m5=>oA5 m5 λ m7 hb eb nb _=>?_;clear m5;subst m7;have n0:=zac mX bo ro rd st hr0 z;rw [<- fc1,zI,aA] at n0;have ec:(zh bs rs (i + m)).cells.getD b' []=zI (zh bs rs (i + m)).cells b':=by rw [zI,aA]
    obtain ⟨ba,us1,z1,hb1,hu1,_,at1,rz⟩:=zh4 so3' hb (by rw [ec];exact cR.mpr nb);rw [n0] at rz;cases rz;refine ra so3'.hy T.gd T.gf rfl (ra g0 (CT T _) (NI T _) f1 ?_);refine zq (SqL.of g1) (show atI _ 0=some (.int b') from rfl) (zq (SqL.of so3'.hc.out) (zD (Zl hb1)) (zq (SqL.of hu1) at1 ?_));exact ⟨_,rfl,rfl⟩
   ·exact ⟨_,rfl,rfl⟩
  ·rw [aR hwd];exact ⟨_,rfl,rfl⟩
 ·rintro σ H5 ⟨v6,rfl,rfl⟩;walk_at "a";refine zZ (λ z=>?_) (λ _=>by walk_at "a";exact k _);walk_at "a";obtain ⟨i,rfl⟩:∃ i',i=i' + 1:=⟨i - 1,by omega⟩;refine uc (XF T).mono (iE4 (.ref yw) i bs rs (iA7 (by simp) (hv.same s03) mX bo ro (by omega) (λ v5 H6 s6 sn=>?_)));refine oE2 sn λ y5 n5 m5=>oA5 m5 λ m7 so5 ny5 _ nn5=>?_;clear m5 sn;subst m7;have wf:=zu mX bo ro i;have wf4:=zu mX bo ro (i + 1);have sf:=zab mX bo ro rd st;walk_at "a";refine uc (XG T).mono (iE6 (.ref yw) _ _ bs rs _ (iA8 rfl ((hv.same s03).same s6) so5.rep wf mX bo ro (λ ml us H7 s7 _ gl ru e he=>?_)));refine iE3 ml e us (iA5 rfl rfl (SqL.of (zg he _ _ gl)) (SqL.of nk) ?_);refine zZ (λ _=>k _) (λ z=>?_);have so6:=(so3.same s6).same (s7.trans (zg (o:=.lst []) he));have so6':=so5.same (s7.trans (zg (o:=.lst []) he));refine ra so6'.hy T.gd T.gf rfl (ra so6.hy T.gd T.gf rfl ?_);refine zht so6'.hc so6.hc (λ b hb z=>?_) (by rw [wf4.co.1,wf.co.1]) (λ q c c' h1 h2=>?_) ?_
  ·have hn:=nn5 b (by
    rcases ax.mp hb with e|hb
    ·rw [e];simp [SN.all]
    ·simp [SN.all,hb])
   obtain ⟨vs,hb3⟩:=so3.hc.isl z;rw [hn] at hb3;cases hb3
  ·have hq:=(aa.mp h1).1;have hb:=ad (l:=bs) (i:=q) (by rw [<- wf.co.1];exact hq);rw [(wf4.co.2 q _ c' hb h2).1,(wf.co.2 q _ c hb h1).1]
  ·have h:=ru.len;have h0:us.length=0:=by simpa using z
   rw [af,h0] at h;have e:(zh bs rs i).cells≠(zh bs rs (i + 1)).cells:=λ ec=>by
    unfold mvd at sf;rw [List.isEmpty_iff.mpr (cy.mp h.symm),aR (λ h=>h ec.symm)] at sf;cases sf
   rw [aY e];exact k _
def zah (K:A0):Sp:=λ vs H Q _=>∃ (l:Addr) (ns:A6),vs=[.ref l]/\SqL K H l (ns.map V.int)/\ns.length<=63/\∀ H',Q (.bl true) H'
def zhI (T:Txt K mg a) (F:Fun K "law" "law" ZZ f fd):FnOk P w K mg base (CXr P w) 12 f fd ["_law_script"] (zah K):=by
 refine F.okx zhq ?_ ?_
 ·walk_at "i"
 walk_at "j";refine oE2 h λ l ns m5=>oA4 m5 λ m7 hl hn k=>?_;clear m5 h;subst m7;walk_at "T";refine ⟨_,(zj (Wn (i:=1) zhq.nd rfl (Or.inl rfl) (vars:=["_law_cell_here"]) (caps:=[]) (N:=["_law_cell_here"]) (ON:=["_law_script","_law_cells","_law_work_here","_law_limit","_law_told","_law_caught","_law_counts","_law_far_here","_law_length"]) (osc:=zd ZZ) rfl rfl (by first|decide +kernel|kernel_rfl) rfl rfl (ql (pq 0)) (λ s H fp m4=>(qp 0 (show (["_law_cell_here"]:A8).Nodup from by decide +kernel))) (λ s H fp m4=>qo) (λ s H fp m4=>(Vz (pq 0))))  (zj (zp 2 zhq.nd (zw ⟨rfl,rfl,rfl⟩ hr (za (pq 1) (za zf zc))))  (qM (zL (zx (vJ hr.units1) (zeX (zw ⟨rfl,rfl,rfl⟩ hr (za (pq 1) (za zf zc)))) zf (zy _))  (ze (zp 2 zhq.nd (zw ⟨rfl,rfl,rfl⟩ hr (za (pq 1) zc))))  zt)  (zj (zp 3 zhq.nd (zG qm zf (zw ⟨rfl,rfl,rfl⟩ hr (za (zw ⟨rfl,rfl,rfl⟩ hr (za (pq 1) (za zf zc))) (za zf (za zf zc))))))  (zj (QH (zw ⟨rfl,rfl,rfl⟩ hr (za (pq 2) (za (pq 3) zc))) (va (n:=2) rfl (qj (qp 4 zhq.nd) (qj (qp 5 zhq.nd) xu))))  (zj (zL (zx wl (pq 5) zE (zy _))  (ze (zl (VA (z7 vY qu (za (pq 5) (za wg zc))) (Vy (zhC (z7 vY qu (za (pq 5) (za wg zc))))))))  zt)  (zj (zp 6 zhq.nd (zw ⟨rfl,rfl,rfl⟩ hr (za (pq 2) (za (pq 3) zc))))  (zj (zp 7 zhq.nd (zw ⟨rfl,rfl,rfl⟩ hr (za (pq 1) zc)))  (zj (zL (qO (z7 (zid rfl) zib (za (jY (vars:=["_law_row"]) (caps:=[]) (N:=["_law_row"]) (ON:=["_law_script","_law_cells","_law_work_here","_law_limit","_law_told","_law_caught","_law_counts","_law_far_here","_law_length"]) (osc:=zd ZZ) rfl rfl (by first|decide +kernel|kernel_rfl) rfl rfl (ql (pq 6)) (λ s H fp m4=>(qp 0 (show (["_law_row"]:A8).Nodup from by decide +kernel))) (λ s H fp m4=>qo) (λ s H fp m4=>(xv ziI (z7 (zdb rfl) zcp (za (pq 0) zc)) zf (zy _)))) zc)) (λ _=>rfl))  (zj (zp 8 zhq.nd (zn (zw ⟨rfl,rfl,rfl⟩ hr (za (pq 2) (za (pq 3) zc))) zf))  (ze (zl (VA (xv op_isN (pq 4) zE (zy _)) (Vy (zw ⟨rfl,rfl,rfl⟩ hr (za (pq 2) (za (pq 3) (za (pq 6) (za (Xc (pq 7)) (za (pq 8) zc)))))))))))  zt)  (ze (zl (zw ⟨rfl,rfl,rfl⟩ hr (za (pq 2) (za (pq 3) (za (pq 4) (za (pq 7) zc)))))))))))))))),?_⟩;walk_at "a";walk_at "e";walk_at "a";refine ⟨l,rfl,.inl ⟨⟨_,hl⟩,λ _ _ _ _ mZ hacc=>?_⟩⟩;refine qH (K:=K) (a:=l) (xs:=iv ns) (λ q σ H'=>∃ (v0:Aq) (cs:A6),σ=[v0]/\Same H H'/\H' mZ=some (.lst (iv cs))/\cs.length=q) (iE2 _ ([]) (iA4 rfl (zg hacc) nk rfl)) (λ q σ H' _ h=>by obtain ⟨_,_,_,s,_⟩:=h;exact vz s hl) ?_ ?_
 ·intro q x σ H1 hq m8;refine oE2 m8 λ v0 cs m5=>oA4 m5 λ m7 s1 ha lc=>?_;clear m5 m8;subst m7;obtain ⟨c,hc,rfl⟩:=Q4 hq;have hql:=(aa.mp hc).1;walk_at "a";exact ⟨_,iA3 ha (zm (by rw [zP];omega)) (iE2 _ (cs ++ [_]) (iA4 rfl (λ b o hb=>by rw [nu (nz hb hacc)];exact s1 b o hb) (by rw [nk,jw]) (by simp [lc])))⟩
 intro σ H1 m8;refine oE2 m8 λ v0 cs m5=>oA4 m5 λ m7 s1 ha _=>?_;clear m5 m8;subst m7;clear s1 hl hacc;walk_at "a";refine uc (zfM T).mono (spWorkOf.i mZ cs rfl (SqL.of ha) (λ vw H2 bs rs s2 r2 mX bo ro=>?_));have ha2:=s2 _ _ ha;walk_at "a";let n9:St->Hp->Prop:=λ σ' H'=>∃ (vw:V) (bs:A1) (rs:At),σ'=[some (.ref l),some (.ref mZ),some vw,none,none,none,none,none,none]/\H' mZ=some (.lst (iv cs))/\Rep H' (Off []) vw (qq a bs rs)/\zJ bs rs/\(∀ b∈bs,zz b.1 b.2)/\∀ r∈rs,r.ok;refine cut n9 ?_ ?_
 ·refine uc (xX T).mono (spCell.i mZ cs 1 rfl (SqL.of ha2) ?_);generalize wM cs 1 % 9=pk;walk_at "a";refine zZ (λ _=>?_) (λ _=>?_)
  ·exact uc (zco T).mono (spWk.i mZ cs rfl (SqL.of ha2) (λ vw H3 bs rs s3 r3 mX bo ro=>(iE3 vw bs rs (iA6 rfl (s3 _ _ ha2) r3 mX bo ro))))
  ·exact iE3 vw bs rs (iA6 rfl ha2 r2 mX bo ro)
 clear r2 mX bo ro ha s2 ha2;intro σ' H3 m8;refine oE3 m8 λ vw bs rs m5=>oA6 m5 λ m7 ha r3 mX bo ro=>?_;clear m5 m8;subst m7;walk_at "a";refine uc (qB T).mono (uc (xX T).mono (spCell.i mZ cs 1 rfl (SqL.of ha) (iE3 _ 10103 28 (iA4 rfl (by decide) (by decide) (λ r r0 r1=>?_)))));obtain ⟨m,rfl⟩:∃ m:Nat,r=m:=⟨r.toNat,by omega⟩;have eL:(12:Int) + m=((12 + m:Nat):Int):=by omega
 have l40:12 + m<=40:=by omega
 rw [rd_addI];rw [eL];clear eL;generalize 12 + m=lim at l40;walk_at "a";refine uc (zeh T).mono (spAsked.i vw lim bs rs rfl r3 mX bo ro (by omega) (λ t x y H4 s4 ht hx=>?_));have ha4:=s4 _ _ ha;have r4:=r3.same s4;clear r3 ha s4 r0 r1;walk_at "a";refine un2 ht ?_;clear ht;walk_at "a";rcases hx with ⟨i,j,rd,rf,rfl⟩|⟨nr,rfl,e,rfl,he⟩
 ·rw [ao (λ z=>z rfl)];walk_at "a";refine uc (XE T).mono (iE4 vw lim bs rs (iA8 rfl r4 mX bo ro (by omega) (λ i' j' v H5 rd' s5 rc=>?_) (λ nr=>absurd nr rd.no)));obtain ⟨ei,ej⟩:=rd.one rd';subst ei ej;refine oE2 rc λ cl cas m5=>oA2 m5 λ m7 nc=>?_;clear m5 rc;subst m7;have ha5:=s5 _ _ ha4;have r5:=r4.same s5;clear rd' r4 ha4;walk_at "a";refine uc (zgM T).mono (spFar.i mZ cs rfl (SqL.of ha5) (λ far=>?_));clear ha5;walk_at "a";walk_at "e";walk_at "a";obtain ⟨lG,lr⟩:=zaA mX bo ro i j;have lgs:cas.length=(jt bs rs i j).length:=by rw [nc.len,z8,af]
  have r24:=mX.1.2.2;refine ⟨cl,rfl,.inl ⟨⟨_,SqL.of nc.out⟩,λ _ _ _ _ ac ha=>?_⟩⟩;have nc0:∀ H',Same H5 H'->NL H' (zV H') cl cas (z8 (jt bs rs i j)):=λ H' s=>nc.tup λ b o _ hb=>s b o hb;refine qH (K:=K) (a:=cl) (xs:=cas.map V.ref) (λ q σ H'=>∃ (v0:Aq) (us:Ai),σ=[v0]/\Same H5 H'/\H' ac=some (.lst (us.map V.bl))/\us.length=q/\(us.any id=false ↔ j6 ((jt bs rs i j).take q))) (iE2 _ ([]) (iA5 rfl (zg ha) nk rfl (by simp [j6]))) (λ q σ H' _ h=>by obtain ⟨_,_,_,s,_⟩:=h;exact SqL.of (nc0 _ s).out) ?_ ?_
  ·intro q x σ H6 hq m8;refine oE2 m8 λ v0 us m5=>oA5 m5 λ m7 s6 ha6 lu hs=>?_;clear m5 m8;subst m7;rw [ak,am] at hq;obtain ⟨b,hb,rfl⟩:=hq;have hml:q < (jt bs rs i j).length:=by rw [<- lgs];exact (aa.mp hb).1
   obtain ⟨g,eg⟩:∃ g,(jt bs rs i j)[q]?=some g:=⟨_,ad hml⟩;obtain ⟨b',hb',hg⟩:=jA (nc0 _ s6) eg;rw [hb] at hb';cases hb';obtain ⟨r,hr'⟩:∃ r,rs[q]?=some r:=⟨_,ad (by rw [<- lG];exact hml)⟩;have gp:0 < g.length:=by rw [lr q r g hr' eg];exact zc7 (ro r (ah hr'))
   walk_at "a";refine iE2 b g (iA4 rfl (SqL.of hg) gp (λ mx hx hmx=>?_));walk_at "a";refine ⟨_,iA3 ha6 (zm (by rw [af];omega)) (iE2 _ (us ++ [decide (0 < mx)]) (iA5 rfl (λ b o hb=>by rw [nu (nz hb ha)];exact s6 b o hb) (by rw [nk,a7];rfl) (by simp [lu]) ?_))⟩;rw [List.any_append,cM,hs,aK,eg];refine ⟨λ h g' hg' n hn=>?_,λ h=>⟨λ g' hg'=>h g' (bp _ hg'),?_⟩⟩
   ·rcases aE.mp hg' with z|z
    ·exact h.1 g' z n hn
    ·have e:g'=g:=by simpa using z
     subst e;have h1:=h.2;have h2:=hmx n hn;simp at h1;omega
   ·have:=h g (by simp) mx hx;simp;omega
  intro σ H6 m8;refine oE2 m8 λ v0 us m5=>oA5 m5 λ m7 s6 ha6 lu hs=>?_;clear m5 m8;subst m7;rw [af,lgs,aN] at hs;refine iE2 ac us (iA3 rfl ha6 ?_);have r6:=r5.same s6;have nc6:=nc0 _ s6;clear nc0 nc r5 s5 s6 ha ha6 lu lgs lG lr;rcases rf with ⟨st,rfl⟩|⟨st,rfl⟩
  ·rw [ao (by rw [hs.mpr st];simp)];exact uc (zed T).mono (spStill.i vw lim far i j bs rs rfl r6 mX bo ro (by omega) rd st k)
  ·rw [ap (by cases e:us.any id with|true=>rfl|false=>exact absurd (hs.mp e) st)];walk_at "a";refine uc (zcj T).mono (iE4 vw lim bs rs (iA8 rfl r6 mX bo ro (by omega) (λ i' j' v H7 rd' s7 ro'=>?_) (λ nr=>absurd nr rd.no)));obtain ⟨ei,ej⟩:=rd.one rd';subst ei ej;obtain ⟨tf,rfl,htf⟩:=ro';have r7:=r6.same s7;have nc7:=nc6.tup (H':=H7) λ b o _ hb=>s7 b o hb;refine nB htf (show atI _ 1=some (.int ((j:Int) - i)) from rfl) ?_;walk_at "a";exact uc (zcn T).mono (spMoving.i vw lim (far / 2) i j cl cas bs rs (by simp) r7 mX bo ro (by omega) rd nc7 k)
 ·rw [ap (λ z=>by cases z)];exact ⟨gM,iE2 (.ref a.f) _ (iA3 T.kS rfl (zcQ he T.kq rfl T.iu ⟨gM,iE2 (.ref a.g) _ (iA3 T.mE rfl (zcQ he T.kq rfl T.iB (k _)))⟩))⟩
theorem top_ok (T:Txt K mg a) (F:Fun K "law" "law" ZZ f fd):FnOk P w K mg base (CXr P w) 12 f fd ["_law_script"] (zah K):=zhI T F
end
local macro_rules | `(tactic| walk_at "b")=>`(tactic| first|((repeat intro _);rfl))
def zfS:Nat->(List Value->Prop)->Prop
 | 0,P=>P []
 | n + 1,P=>∀ x,zfS n λ l=>P (x :: l)
def jx:∀ {P:List Value->Prop},zfS n P->∀ us:List Value,us.length=n->P us:=by
 induction n with
 | zero =>
  intro P h us e;cases us with
  | nil=>exact h
  | cons=>cases e
 | succ n ih =>
  intro P h us e;cases us with
  | nil=>cases e
  | cons x r=>exact ih (h x) r (Nat.succ.inj e)
abbrev NNy (K:A0) (x:Str):Prop:=nsIn K mainGlobals x=some none
abbrev NRy (K:A0) (x:Str) (f:Addr):Prop:=nsIn K mainGlobals x=some (some (.ref f))
abbrev FHy (K:A0) (x:Str) (st:Stmt):Prop:=∃ (f:Addr) (oc:Am) (od an:Aa) (osl:Ae) (kV doc pm cdv ct:Am),nsIn K mainGlobals x=some (some (.ref f))/\K.lookup f=some ⟨oc,od,.func (fnOf x x (zW st) (zO st) (zd st) .none kV doc pm an cdv ct),osl⟩/\codeIn K cdv x=true/\keepIn K (.ref f)=true
def fhy {x:Str} {st:Stmt} {f:Addr} {oc:Am} {od an:Aa} {osl:Ae} {kV doc pm cdv ct:Am} (a:nsIn K mainGlobals x=some (some (.ref f))) (l:K.lookup f=some ⟨oc,od,.func (fnOf x x (zW st) (zO st) (zd st) .none kV doc pm an cdv ct),osl⟩) (c:codeIn K cdv x=true) (k:keepIn K (.ref f)=true):FHy K x st:=⟨_,_,_,_,_,_,_,_,_,_,a,l,c,k⟩
def qy {mg:A4} {h:Heap} {x:Str} {st:Stmt} (X:K.In h) (G:h.Ns mainGlobals mg) (y:FHy K x st) (hb:∀ (kV doc pm:Am) (an:Aa) (cdv ct:Am),zfS ps.length λ us=>bindArgs (fnOf x x (zW st) (zO st) (zd st) .none kV doc pm an cdv ct) ⟨us,[]⟩=pure (ps.zip us):=by walk_at "b"):FA K mg x st ps:=by
 obtain ⟨_,_,_,_,_,_,_,_,_,_,a,l,c,k⟩:=y;exact ziT X G a l c k λ _ _ _ _ _ _=>jx (hb _ _ _ _ _ _)
abbrev CHy (K:A0) (C:Addr):Prop:=plainGet K C Str.empty=true/\hasDictIn K C=true/\plainOver K C=true/\findIn K (.ref C) "__setattr__"=some (some (.builtin "object.__setattr__"))/\makesIn K C=true/\keepIn K (.ref C)=true/\findIn K (.ref C) "__class__"=some (some (.builtin "object.__class__"))/\mroIn K C (.type "object")=some true
def CHy.c (h:CHy K C):Cls K C:=⟨h.1,h.2.1,h.2.2.1,h.2.2.2.1⟩
def CHy.w (h:CHy K C) (g:specialIn K (.builtin "object.__class__") "__get__"=some (some (.builtin "getset_descriptor.__get__"))) (t:takesIn K (.builtin "object.__class__")=some true):WI K C:=⟨h.2.2.2.2.2.2.1,h.2.2.2.2.2.2.2,g,t⟩
abbrev MHy (K:A0) (C:Addr) (m q:Str) (st:Stmt):Prop:=∃ (f:Addr) (oc:Am) (od an:Aa) (osl:Ae) (kV doc pm cdv ct:Am),findIn K (.ref C) m=some (some (.ref f))/\isFn K (.ref f)=true/\K.lookup f=some ⟨oc,od,.func (fnOf m q (zW st) (zO st) (zd st) .none kV doc pm an cdv ct),osl⟩/\codeIn K cdv q=true/\keepIn K (.ref f)=true
def mhy {m q:Str} {st:Stmt} {f:Addr} {oc:Am} {od an:Aa} {osl:Ae} {kV doc pm cdv ct:Am} (a:findIn K (.ref C) m=some (some (.ref f))) (i:isFn K (.ref f)=true) (l:K.lookup f=some ⟨oc,od,.func (fnOf m q (zW st) (zO st) (zd st) .none kV doc pm an cdv ct),osl⟩) (c:codeIn K cdv q=true) (k:keepIn K (.ref f)=true):MHy K C m q st:=⟨_,_,_,_,_,_,_,_,_,_,a,i,l,c,k⟩
def wC {m q:Str} {st:Stmt} (y:MHy K C m q st) (hb:∀ (kV doc pm:Am) (an:Aa) (cdv ct:Am),zfS ps.length λ us=>bindArgs (fnOf m q (zW st) (zO st) (zd st) .none kV doc pm an cdv ct) ⟨us,[]⟩=pure (ps.zip us):=by walk_at "b"):FM K C m q st ps:=by
 obtain ⟨_,_,_,_,_,_,_,_,_,_,a,i,l,c,k⟩:=y;exact ziP a i l c k λ _ _ _ _ _ _=>jx (hb _ _ _ _ _ _)
def X7 {q:Str} {st:Stmt} (z:CHy K C) (y:MHy K C "__init__" q st) (hb:∀ (kV doc pm:Am) (an:Aa) (cdv ct:Am),zfS ps.length λ us=>bindArgs (fnOf "__init__" q (zW st) (zO st) (zd st) .none kV doc pm an cdv ct) ⟨us,[]⟩=pure (ps.zip us):=by walk_at "b"):FK K C q st ps:=by
 obtain ⟨_,_,_,_,_,_,_,_,_,_,a,i,l,c,k⟩:=y;exact ziQ z.2.2.2.2.1 z.2.2.2.2.2.1 a i l c k λ _ _ _ _ _ _=>jx (hb _ _ _ _ _ _)
theorem all_mk {l:PySem.W.OpenLaw} {w:World} {h:Heap} {mg:A4} {fa fL f24 ya f27 yb f32 yc f35 yd ye yf yg yh yi yj yk yl ym yn yo yp yq yr yt yu yv yx:Addr} (X:K.In h) (G:h.Ns mainGlobals mg) (hfa:mg "law"=some (.ref fa))
  {yy yz yA yB yC yD yE yF odL anL yG yH:Aa} {yI yJ yK yL slL yM:Ae} {yN yO yP yQ yR yS yT yU yV yW yX yY yZ y9 yaa yba yca yda yea yfa yga yha yia yja ocL kVL dcL pmL cdL ctL yka yla yma yna yoa ypa:Am}
  {yqa yra ysa yta:Am} {yua yva ywa yxa:Aa} {yya yza yAa yBa:Nat} {yCa yDa yEa yFa:Ae} {yGa yHa yIa yJa:Tok}
  {yKa yLa yMa yNa yOa yPa yQa:Tok}
  (h1:FHy K "check_pace" wX)
  (h2:FHy K "check_kind" wY)
  (h3:FHy K "check_ways" wV)
  (h4:FHy K "first_place" wz)
  (h5:FHy K "place_for_ware" jN)
  (h6:FHy K "kind_of" Qz)
  (h7:FHy K "no_counts" vD)
  (h8:FHy K "empty_state" js)
  (h9:FHy K "copied_state" xH)
  (h10:FHy K "kinds_in" wT)
  (h11:FHy K "kind_place" wU)
  (h12:FHy K "shape_of" xF)
  (h13:FHy K "heads_of" xG)
  (h14:FHy K "taken_ware" wQ)
  (h15:FHy K "belt_at" QA)
  (h16:FHy K "counted_place" j7)
  (h17:FHy K "act" zay)
  (h18:FHy K "act_all" QB)
  (h19:FHy K "move_belt" vE)
  (h20:FHy K "pass_turn" x6)
  (h21:FHy K "one_turn" ZJ)
  (h22:FHy K "moves_of" ZK)
  (h23:FHy K "round_ends" wR)
  (a24:nsIn K mainGlobals "round_of"=some (some (.ref f24))) (l24:K.lookup f24=some ⟨yN,yy,.func (fnOf "round_of" "round_of" (zW jy) (zO jy) (zd jy) (.ref ya) yO yP yQ yz yR yS),yI⟩) (c24:codeIn K yR "round_of"=true) (k24:keepIn K (.ref f24)=true)
  (yRa:K.lookup ya=some ⟨yqa,yua,.seq #[.int 200 yGa] yya,yCa⟩)
  (h25:FHy K "growth_of" x8)
  (h26:FHy K "still_state" wy)
  (a27:nsIn K mainGlobals "still_from"=some (some (.ref f27))) (l27:K.lookup f27=some ⟨yT,yA,.func (fnOf "still_from" "still_from" (zW qK) (zO qK) (zd qK) (.ref yb) yU yV yW yB yX yY),yJ⟩) (c27:codeIn K yX "still_from"=true) (k27:keepIn K (.ref f27)=true)
  (ySa:K.lookup yb=some ⟨yra,yva,.seq #[.int 200 yHa] yza,yDa⟩)
  (h28:FHy K "played" JV)
  (h29:FHy K "cells_by_ware" j8)
  (h30:FHy K "origin_of" vC)
  (h31:FHy K "origins_of" xq)
  (a32:nsIn K mainGlobals "leapt"=some (some (.ref f32))) (l32:K.lookup f32=some ⟨yZ,yC,.func (fnOf "leapt" "leapt" (zW wS) (zO wS) (zd wS) (.ref yc) y9 yaa yba yD yca yda),yK⟩) (c32:codeIn K yca "leapt"=true) (k32:keepIn K (.ref f32)=true)
  (yTa:K.lookup yc=some ⟨ysa,ywa,.seq #[.int 200 yIa] yAa,yEa⟩)
  (h33:FHy K "common" Z0)
  (h34:FHy K "lasting" Qy)
  (a35:nsIn K mainGlobals "round_counts"=some (some (.ref f35))) (l35:K.lookup f35=some ⟨yea,yE,.func (fnOf "round_counts" "round_counts" (zW qv) (zO qv) (zd qv) (.ref yd) yfa yga yha yF yia yja),yL⟩) (c35:codeIn K yia "round_counts"=true) (k35:keepIn K (.ref f35)=true)
  (yUa:K.lookup yd=some ⟨yta,yxa,.seq #[.int 200 yJa] yBa,yFa⟩)
  (h36:FHy K "check_size" wW)
  (h37:FHy K "check_each_once" jE)
  (h38:FHy K "_law_cell" JZ)
  (h39:FHy K "_law_some" JX)
  (h40:FHy K "_law_belt" J0)
  (h41:FHy K "_law_kinds" QE)
  (h42:FHy K "_law_split" QD)
  (h43:FHy K "_law_grown" QF)
  (h44:FHy K "_law_work" JW)
  (h45:FHy K "_law_asked" QG)
  (h46:FHy K "_law_far" Vm)
  (h47:FHy K "_law_same" JY)
  (h48:FHy K "_law_still" QC)
  (h49:FHy K "_law_moving" ZL)
  (h50:FHy K "_law_closed" w6)
  (aL:nsIn K mainGlobals "law"=some (some (.ref fL))) (lL:K.lookup fL=some ⟨ocL,odL,.func (fnOf "law" "law" (zW ZZ) (zO ZZ) (zd ZZ) .none kVL dcL pmL anL cdL ctL),slL⟩) (cL:codeIn K cdL "law"=true) (kL:keepIn K (.ref fL)=true)
  (yVa:NNy K "len")
  (yWa:NNy K "range")
  (yXa:NNy K "list")
  (yYa:NNy K "max")
  (yZa:NNy K "tuple")
  (y0a:NNy K "isinstance")
  (y1a:NNy K "enumerate")
  (y2a:NNy K "zip")
  (y3a:NNy K "sorted")
  (y4a:NNy K "bool")
  (y5a:NNy K "int")
  (y6a:NNy K "any")
  (y7a:NRy K "WorkError" ye)
  (y8a:NRy K "BadBelt" yf)
  (y9a:NRy K "BadKnot" yg)
  (yab:NRy K "BadWork" yh)
  (ybb:NRy K "TooLong" yi)
  (ycb:NRy K "Moving" yj)
  (ydb:NRy K "Belt" yk)
  (yeb:NRy K "Knot" yl)
  (yfb:NRy K "Source" ym)
  (ygb:NRy K "Drain" yn)
  (yhb:NRy K "Parter" yo)
  (yib:NRy K "FirstParter" yp)
  (yjb:NRy K "Sieve" yq)
  (ykb:NRy K "Joiner" yr)
  (ylb:NRy K "State" yt)
  (ymb:NRy K "Lap" yu)
  (ynb:NRy K "Work" yv)
  (yob:CHy K yk)
  (ypb:NoAttr K yk "room")
  (yqb:NoAttr K yk "pace")
  (yrb:MHy K yk "__init__" "Belt.__init__" wc)
  (ysb:findIn K (.ref yl) "__init__"=some (some (.ref yx))) (ytb:isFn K (.ref yx)=true) (yub:K.lookup yx=some ⟨yka,yG,.func (fnOf "__init__" "Knot.__init__" (zW ja) (zO ja) (zd ja) .none yla yma yna yH yoa ypa),yM⟩) (yvb:codeIn K yoa "Knot.__init__"=true) (ywb:keepIn K (.ref yx)=true)
  (yxb:specialIn K (.ref yl) "__getattribute__"=some (some (.builtin "type.__getattribute__")))
  (yyb:readsIn K yl (.type "type")=true)
  (yzb:findCls K (.ref yl) (.type "type") "__init__"=some (.val (.ref yx)))
  (yAb:CHy K ym)
  (yBb:NoAttr K ym "pace")
  (yCb:NoAttr K ym "kinds")
  (yDb:NoAttr K ym "ins")
  (yEb:NoAttr K ym "outs")
  (yFb:MHy K ym "__init__" "Source.__init__" jT)
  (yGb:MHy K ym "choice" "Source.choice" xf)
  (yHb:MHy K ym "copied" "Source.copied" j9)
  (yIb:CHy K yn)
  (yJb:NoAttr K yn "pace")
  (yKb:NoAttr K yn "ins")
  (yLb:NoAttr K yn "outs")
  (yMb:MHy K yn "__init__" "Drain.__init__" xt)
  (yNb:MHy K yn "choice" "Drain.choice" xO)
  (yOb:MHy K yn "copied" "Drain.copied" xM)
  (yPb:CHy K yo)
  (yQb:NoAttr K yo "ins")
  (yRb:NoAttr K yo "outs")
  (ySb:MHy K yo "__init__" "Parter.__init__" jU)
  (yTb:MHy K yo "choice" "Parter.choice" xi)
  (yUb:MHy K yo "copied" "Parter.copied" xh)
  (yVb:CHy K yp)
  (yWb:NoAttr K yp "ins")
  (yXb:NoAttr K yp "outs")
  (yYb:MHy K yp "__init__" "FirstParter.__init__" qL)
  (yZb:MHy K yp "choice" "FirstParter.choice" jc)
  (y0b:MHy K yp "copied" "FirstParter.copied" jb)
  (y1b:CHy K yq)
  (y2b:NoAttr K yq "kind")
  (y3b:NoAttr K yq "ins")
  (y4b:NoAttr K yq "outs")
  (y5b:MHy K yq "__init__" "Sieve.__init__" xr)
  (y6b:MHy K yq "choice" "Sieve.choice" xJ)
  (y7b:MHy K yq "place_for" "Sieve.place_for" jG)
  (y8b:MHy K yq "copied" "Sieve.copied" xI)
  (y9b:CHy K yr)
  (yac:NoAttr K yr "ins")
  (ybc:NoAttr K yr "outs")
  (ycc:MHy K yr "__init__" "Joiner.__init__" jV)
  (ydc:MHy K yr "choice" "Joiner.choice" ju)
  (yec:MHy K yr "copied" "Joiner.copied" xj)
  (yfc:CHy K yt)
  (ygc:NoAttr K yt "turn")
  (yhc:NoAttr K yt "cells")
  (yic:NoAttr K yt "sides")
  (yjc:NoAttr K yt "gone")
  (ykc:MHy K yt "__init__" "State.__init__" jm)
  (ylc:CHy K yu)
  (ymc:NoAttr K yu "before")
  (ync:NoAttr K yu "length")
  (yoc:NoAttr K yu "origins")
  (ypc:NoAttr K yu "growth")
  (yqc:MHy K yu "__init__" "Lap.__init__" wZ)
  (yrc:MHy K yu "new_ware" "Lap.new_ware" xK)
  (ysc:MHy K yu "ware_after" "Lap.ware_after" jO)
  (ytc:MHy K yu "cells_after" "Lap.cells_after" qU)
  (yuc:MHy K yu "gone_after" "Lap.gone_after" jn)
  (yvc:MHy K yu "state_after" "Lap.state_after" jH)
  (ywc:CHy K yv)
  (yxc:NoAttr K yv "belts")
  (yyc:NoAttr K yv "knots")
  (yzc:MHy K yv "__init__" "Work.__init__" jC)
  (yAc:MHy K yv "drains" "Work.drains" jS)
  (yBc:MHy K yv "sources" "Work.sources" jF)
  (yCc:MHy K yv "beat" "Work.beat" x9)
  (wgn:specialIn K (.builtin "object.__class__") "__get__"=some (some (.builtin "getset_descriptor.__get__"))) (wtk:takesIn K (.builtin "object.__class__")=some true)
  (yDc:nsIn K mainGlobals "MOST_ROOM"=some (some (.int 6 yKa)))
  (yEc:nsIn K mainGlobals "MOST_PACE"=some (some (.int 4 yLa)))
  (yFc:nsIn K mainGlobals "MOST_KINDS"=some (some (.int 6 yMa)))
  (yGc:nsIn K mainGlobals "FEWEST_WAYS"=some (some (.int 2 yNa)))
  (yHc:nsIn K mainGlobals "MOST_WAYS"=some (some (.int 4 yOa)))
  (yIc:nsIn K mainGlobals "MOST_BELTS"=some (some (.int 24 yPa)))
  (yJc:nsIn K mainGlobals "MOST_KNOTS"=some (some (.int 24 yQa)))
  (yKc:excIn K yf bmV "ValueError.__new__"=true)
  (yLc:excIn K yg bmV "ValueError.__new__"=true)
  (yMc:excIn K yi bmV "ValueError.__new__"=true)
  (yNc:findIn K (.ref yi) "__getattribute__"=some (some (.builtin "BaseException.__getattribute__")))
  (yOc:findIn K (.ref yi) "__getattr__"=some none)
  (yPc:findIn K (.ref yi) "__class__"=some (some (.builtin "object.__class__")))
  (yQc:hasDictIn K yi=true)
  (yRc:mroIn K yi (.type "object")=some true)
  (ySc:subIn K (.ref yi) (.type "BaseException")=some true)
  (yTc:excIn K yh bmV "ValueError.__new__"=true)
  (xgn:specialIn K (.builtin "object.__class__") "__get__"=some (some (.builtin "getset_descriptor.__get__")))
  (xtk:takesIn K (.builtin "object.__class__")=some true)
  (yUc:subIn K (.ref ye) (.type "BaseException")=some true)
  (yVc:hasDictIn K ye=true)
  (yWc:typeIn K (.ref ye)=some (.type "type"))
  (yXc:subIn K (.ref yi) (.ref ye)=some true)
  (yYc:KOy K ym yr false)
  (yZc:KOy K yn yr false)
  (y0c:KOy K yo yr false)
  (y1c:KOy K yp yr false)
  (y2c:KOy K yq yr false)
  (y3c:KOy K yr yr true)
  (y4c:KOy K ym yn false)
  (y5c:KOy K yn yn true)
  (y6c:KOy K yo yn false)
  (y7c:KOy K yp yn false)
  (y8c:KOy K yq yn false)
  (y9c:KOy K yr yn false)
  (yad:KOy K ym ym true)
  (ybd:KOy K yn ym false)
  (ycd:KOy K yo ym false)
  (ydd:KOy K yp ym false)
  (yed:KOy K yq ym false)
  (yfd:KOy K yr ym false)
  (ygd:KOy K yi yi true)
  (yhd:KOy K yi yj false)
  : ∃ fd:FuncData,(∀ (s:An) (v:Am),BindsTo s fd ⟨[v],[]⟩ [("_law_script",v)])/\∀ base:Heap,K.In base->base.Ns mainGlobals mg->FnOk l.prog w K mg base (CXr l.prog w) 12 fa fd ["_law_script"] (zah K):=by
 have e:=hfa.symm.trans (b8 X G aL);cases e;have T:Txt K mg ⟨ye,yf,yg,yh,yi,yj,yk,yl,ym,yn,yo,yp,yq,yr,yt,yu,yv⟩:={
  kG:=qy X G h1
  kH:=qy X G h2
  kI:=qy X G h3
  kr:=qy X G h4
  iC:=qy X G h5
  lZ:=qy X G h6
  lj:=qy X G h7
  ku:=qy X G h8
  i8:=qy X G h9
  lO:=qy X G h10
  kJ:=qy X G h11
  lP:=qy X G h12
  lQ:=qy X G h13
  kK:=qy X G h14
  l5:=qy X G h15
  iN:=qy X G h16
  mV:=qy X G h17
  l7:=qy X G h18
  ll:=qy X G h19
  ly:=qy X G h20
  lS:=qy X G h21
  lT:=qy X G h22
  kM:=qy X G h23
  lU:=zcW (st:=jy) (ps:=["work","limit"]) X G a24 l24 c24 k24 yRa (.cons ⟨_,rfl⟩ (.nil)) (λ s us hK hl=>by refine jx (n:=2) (P:=λ z=>BindsTo s _ ⟨z,[]⟩ (List.zip ["work","limit"] z)) ?_ us hl;intro _ _;exact d7 hK rfl yRa rfl rfl rfl) (λ s us hK hl=>by refine jx (n:=1) (P:=λ z=>BindsTo s _ ⟨z,[]⟩ (List.zip ["work","limit"] (z ++ _))) ?_ us (by simp at hl;omega);intro _;exact d7 hK rfl yRa rfl rfl rfl)
  lz:=qy X G h25
  kx:=qy X G h26
  kN:=zcW (st:=qK) (ps:=["work","limit"]) X G a27 l27 c27 k27 ySa (.cons ⟨_,rfl⟩ (.nil)) (λ s us hK hl=>by refine jx (n:=2) (P:=λ z=>BindsTo s _ ⟨z,[]⟩ (List.zip ["work","limit"] z)) ?_ us hl;intro _ _;exact d7 hK rfl ySa rfl rfl rfl) (λ s us hK hl=>by refine jx (n:=1) (P:=λ z=>BindsTo s _ ⟨z,[]⟩ (List.zip ["work","limit"] (z ++ _))) ?_ us (by simp at hl;omega);intro _;exact d7 hK rfl ySa rfl rfl rfl)
  mr:=qy X G h28
  iO:=qy X G h29
  lA:=qy X G h30
  kO:=qy X G h31
  mJ:=zcW (st:=wS) (ps:=["work","turns","limit"]) X G a32 l32 c32 k32 yTa (.cons ⟨_,rfl⟩ (.nil)) (λ s us hK hl=>by refine jx (n:=3) (P:=λ z=>BindsTo s _ ⟨z,[]⟩ (List.zip ["work","turns","limit"] z)) ?_ us hl;intro _ _ _;exact d7 hK rfl yTa rfl rfl rfl) (λ s us hK hl=>by refine jx (n:=2) (P:=λ z=>BindsTo s _ ⟨z,[]⟩ (List.zip ["work","turns","limit"] (z ++ _))) ?_ us (by simp at hl;omega);intro _ _;exact d7 hK rfl yTa rfl rfl rfl)
  mt:=qy X G h33
  l8:=qy X G h34
  i9:=zcW (st:=qv) (ps:=["work","limit"]) X G a35 l35 c35 k35 yUa (.cons ⟨_,rfl⟩ (.nil)) (λ s us hK hl=>by refine jx (n:=2) (P:=λ z=>BindsTo s _ ⟨z,[]⟩ (List.zip ["work","limit"] z)) ?_ us hl;intro _ _;exact d7 hK rfl yUa rfl rfl rfl) (λ s us hK hl=>by refine jx (n:=1) (P:=λ z=>BindsTo s _ ⟨z,[]⟩ (List.zip ["work","limit"] (z ++ _))) ?_ us (by simp at hl;omega);intro _;exact d7 hK rfl yUa rfl rfl rfl)
  kP:=qy X G h36
  ix:=qy X G h37
  mv:=qy X G h38
  mw:=qy X G h39
  my:=qy X G h40
  l9:=qy X G h41
  ma:=qy X G h42
  me:=qy X G h43
  mz:=qy X G h44
  mf:=qy X G h45
  mK:=qy X G h46
  mB:=qy X G h47
  mh:=qy X G h48
  lV:=qy X G h49
  lW:=qy X G h50
  gJ:=bU X G yVa
  ka:=bU X G yWa
  mC:=bU X G yXa
  mq:=bU X G yYa
  lY:=bU X G yZa
  gM:=bU X G y0a
  i6:=bU X G y1a
  mQ:=bU X G y2a
  lJ:=bU X G y3a
  mD:=bU X G y4a
  mR:=bU X G y5a
  mS:=bU X G y6a
  lB:=b8 X G y7a
  mi:=b8 X G y8a
  gZ:=b8 X G y9a
  kR:=b8 X G yab
  kS:=b8 X G ybb
  mE:=b8 X G ycb
  mT:=b8 X G ydb
  lK:=b8 X G yfb
  lh:=b8 X G ygb
  mF:=b8 X G yhb
  ky:=b8 X G yib
  mL:=b8 X G yjb
  lM:=b8 X G ykb
  mM:=b8 X G ylb
  mW:=b8 X G ymb
  mU:=b8 X G ynb
  ip:=yob.c
  ij:=ypb
  gW:=yqb
  lC:=X7 yob yrb
  gu:=ziR (st:=ja) (ps:=["self","ins","outs"]) (b8 X G yeb) yxb yyb yzb yub yvb ywb (λ _ _ _ _ _ _=>jx (by walk_at "b"))
  gy:=yAb.c
  gH:=yBb
  gD:=yCb
  iD:=yDb
  gX:=yEb
  mG:=yAb.w wgn wtk
  kz:=X7 yAb yFb
  iP:=wC yGb
  iQ:=wC yHb
  gF:=yIb.c
  gz:=yJb
  ik:=yKb
  iE:=yLb
  mO:=yIb.w wgn wtk
  kT:=X7 yIb yMb
  kb:=wC yNb
  ke:=wC yOb
  gP:=yPb.c
  hW:=yQb
  gI:=yRb
  mH:=yPb.w wgn wtk
  kA:=X7 yPb ySb
  iR:=wC yTb
  iS:=wC yUb
  gx:=yVb.c
  gC:=yWb
  gA:=yXb
  kB:=yVb.w wgn wtk
  ir:=X7 yVb yYb
  hX:=wC yZb
  ia:=wC y0b
  gG:=y1b.c
  ib:=y2b
  io:=y3b
  ic:=y4b
  mP:=y1b.w wgn wtk
  kU:=X7 y1b y5b
  kg:=wC y6b
  iy:=wC y7b
  kh:=wC y8b
  gQ:=y9b.c
  gR:=yac
  gY:=ybc
  mI:=y9b.w wgn wtk
  kC:=X7 y9b ycc
  iT:=wC ydc
  iU:=wC yec
  gd:=yfc.c
  gg:=ygc
  gf:=yhc
  gk:=yic
  gi:=yjc
  kX:=X7 yfc ykc
  gq:=ylc.c
  gw:=ymc
  gS:=ync
  iw:=yoc
  ie:=ypc
  lX:=X7 ylc yqc
  ki:=wC yrc
  iF:=wC ysc
  iz:=wC ytc
  iG:=wC yuc
  iA:=wC yvc
  gm:=ywc.c
  gU:=yxc
  gj:=yyc
  lD:=X7 ywc yzc
  kD:=wC yAc
  kj:=wC yBc
  lE:=wC yCc
  lF:=⟨_,b8 X G yDc⟩
  i7:=⟨_,b8 X G yEc⟩
  kY:=⟨_,b8 X G yFc⟩
  kF:=⟨_,b8 X G yGc⟩
  lH:=⟨_,b8 X G yHc⟩
  kZ:=⟨_,b8 X G yIc⟩
  k8:=⟨_,b8 X G yJc⟩
  mj:=⟨yKc⟩
  g6:=⟨yLc⟩
  mn:=⟨yMc⟩
  kq:=⟨yNc,yOc,yPc,yQc,xgn,xtk,yRc,ySc⟩
  k9:=⟨yTc⟩
  lI:=yUc
  ii:=zdU yVc yWc yXc
  iH:=yYc
  iV:=yZc
  iI:=y0c
  g9:=y1c
  iW:=y2c
  iJ:=y3c
  iX:=y4c
  km:=y5c
  iY:=y6c
  ig:=y7c
  ko:=y8c
  iZ:=y9c
  iK:=yad
  i0:=ybd
  iL:=ycd
  hJ:=ydd
  i5:=yed
  iM:=yfd
  iu:=ygd
  iB:=yhd
 }
 exact ⟨_,λ s v=>.of_eq rfl,λ base _ _=>top_ok T (vh (st:=ZZ) lL cL kL)⟩
def walk {l:PySem.W.OpenLaw} {q:Af} {loose:A8} {XP:(Str->Option Value)->Heap->Prop} {YP:World->Heap->Prop} {d:DefRec} {K:Params->PySem.W.Frag} (hn:l.most=some 63) (hdf:d.params.defaults=[])
  (hY:∀ (w:World) (h:Heap),YP w h->(K w.params).In h)
  (F:∀ (w:World) (mg:A4) (fa:Addr) (h:Heap),(K w.params).In h->h.Ns mainGlobals mg->mg d.name=some (.ref fa) ->
   ∃ fd:FuncData,(∀ (s:An) (u:Am),BindsTo s fd ⟨[u],[]⟩ [("_law_script",u)])/\∀ base:Heap,(K w.params).In base->base.Ns mainGlobals mg->FnOk l.prog w (K w.params) mg base (CXr l.prog w) 12 fa fd ["_law_script"] (zah (K w.params))) :
  PySem.W.WalkO q loose XP YP l.row.toRowW d [] (λ f vs=>PySem.call f vs) :=
 L2.walk_of (n:=63) (k:=12) (x:="_law_script") (CX:=λ w=>CXr l.prog w) (sp:=λ w=>zah (K w.params)) hn (by decide) hdf ⟨rfl,by decide,by decide⟩ hY F (λ _ _ a ns hl _ hS=>⟨a,ns,rfl,hS,hl,λ _=>rfl⟩) λ _ _ _ _ _ z=>zd7 z
end K42
set_option Elab.async false
def Aw:=trivial
namespace PySem.W.Fast
def tw18432918418901122701:=Aw
def tw2403678984276117750:=Aw
def tw12774656879912211679:=Aw
def tw13727038358493542730:=Aw
def tw8298566372314902690:=Aw
def tw13089065709976455681:=Aw
def tw2326296638622962771:=Aw
def tw17408446051442778763:=Aw
def tw16499842539897456539:=Aw
def tw5372140494988627630:=Aw
def tw7643630652784327815:=Aw
def tw17187457676232988985:=Aw
def tw15849624124262948150:=Aw
def tw9871585123398973574:=Aw
def tw13361876354306488567:=Aw
def tw986423337033910856:=Aw
def tw8660495883054562785:=Aw
def tw11971556895000575893:=Aw
def tw14826091479698374327:=Aw
def tw3794947957247327733:=Aw
def tw12356901678657523922:=Aw
def tw5986393337413266642:=Aw
def tw10506813108376614249:=Aw
def tw264618229147601911:=Aw
def tw16285888857014607439:=Aw
def tw14810358821543486816:=Aw
def tw7685951392489080507:=Aw
def tw9102260027228233936:=Aw
def tw11965547437707087491:=Aw
def tw7328901673935777993:=Aw
def tw11710054259931484535:=Aw
def tw955106286069599830:=Aw
def tw9691623029181061047:=Aw
def tw14601509768676978864:=Aw
def tw16871672961673645417:=Aw
def tw9743331672655181937:=Aw
def tw18385411555223417234:=Aw
def tw6822548052813059553:=Aw
def tw2396420838285198849:=Aw
def tw18363254808144641557:=Aw
def tw12197129042711432746:=Aw
def tw15895068051620176316:=Aw
def tw17637980852026888019:=Aw
def tw13096412401025253758:=Aw
def tw84351769664398018:=Aw
def tw14086246303505082654:=Aw
def tw7624072892188712004:=Aw
def tw6211231670335808920:=Aw
def tw5455865076790455578:=Aw
def tw13018536819353845862:=Aw
def tw18233549069137336711:=Aw
def tw4080137671466709343:=Aw
def tw16250688642490777673:=Aw
def tw7529779704912551657:=Aw
def tw4536158515496945512:=Aw
def tw16983071021879491031:=Aw
def tw6751629735917080862:=Aw
def tw14853885227658766525:=Aw
def tw10009240262237941313:=Aw
def tw16259355528494683818:=Aw
def tw6433158928073933216:=Aw
def tw1830737405137022497:=Aw
def tw6259038778245430058:=Aw
def tw13894311482522134305:=Aw
def tw465196495643730586:=Aw
def tw9773667115515706752:=Aw
def tw14611350539129332339:=Aw
def tw1182784666155293178:=Aw
def tw5624141743564383182:=Aw
def tw293439429434239598:=Aw
def tw11662001994182965350:=Aw
def tw17947435712610521783:=Aw
def tw4536167325867085951:=Aw
def tw11821445857171248843:=Aw
def tw14323293708936309523:=Aw
def tw2310755495693660969:=Aw
def tw8499020790494949644:=Aw
def tw10081970938971123669:=Aw
def tw2520685189791930411:=Aw
def tw5797059525316614061:=Aw
def tw7119771242592542057:=Aw
def tw5951875492397677267:=Aw
def tw5032591536523024087:=Aw
def tw4116029681269857233:=Aw
def tw5679497331676551387:=Aw
def tw14904971311261492899:=Aw
def tw10198814279272564529:=Aw
def tw16683387134542526082:=Aw
def tw17368510335184657937:=Aw
def tw674151436456886130:=Aw
def tw4077004980410548134:=Aw
def tw1164259786624482805:=Aw
def tw5718370331094444407:=Aw
def tw14963362118879555218:=Aw
def tw8319415757910181022:=Aw
def tw8149076471650012997:=Aw
def tw451488320285981005:=Aw
def tw1613545125952748176:=Aw
def tw9343367362152426775:=Aw
def tw9774421018237931381:=Aw
def tw17281003835481622922:=Aw
def tw16600205743777172337:=Aw
def tw13140928614393105670:=Aw
def tw460887230913857822:=Aw
def tw769215292327651809:=Aw
def tw15334585678895847892:=Aw
def tw12846613261394221509:=Aw
def tw15644962475404499883:=Aw
def tw1751882491728158016:=Aw
def tw11017132207566207686:=Aw
def tw5921135751762743446:=Aw
def tw4120761747963936953:=Aw
def tw17808515838976011925:=Aw
def tw5576864209440496572:=Aw
def tw15516756079914050151:=Aw
def tw2537218841725747438:=Aw
def tw1400063020240433191:=Aw
def tw18209228953198825203:=Aw
def tw11754258647759936669:=Aw
def tw13499964574705032206:=Aw
def tw14562781172180514404:=Aw
def tw14687241998900727265:=Aw
def tw5812245623998938590:=Aw
def tw6924314123707536571:=Aw
def tw2435566318212383060:=Aw
def tw12519606656740808869:=Aw
def tw14406252162638489759:=Aw
def tw12315428659436210102:=Aw
def tw17141073636643265597:=Aw
def tw3682461919631916578:=Aw
def tw8385863775467976725:=Aw
def tw9212664964902789583:=Aw
def tw154922480061270558:=Aw
def tw9106574454948088213:=Aw
def tw560207816553617719:=Aw
def tw4033337664740418753:=Aw
def tw1341471985140018722:=Aw
def tw2746668481418165355:=Aw
def tw14094365281034583846:=Aw
def tw15618563818480791448:=Aw
def tw10077808765965029938:=Aw
def tw12785991469288802152:=Aw
def tw10553287148380961408:=Aw
def tw10962267971232400265:=Aw
def tw4763378554938516961:=Aw
def tw12494323502573410252:=Aw
def tw5142301417147273352:=Aw
def tw8428317942468043302:=Aw
def tw8035164499162990081:=Aw
def tw15767952203162058011:=Aw
def tw13665215165985239509:=Aw
def tw18023390490012726365:=Aw
def tw5333193141170476096:=Aw
def tw13454384217035001679:=Aw
def tw15201993220735128252:=Aw
def tw14527250036919248564:=Aw
def tw15945150297113764950:=Aw
def tw15391597864378356141:=Aw
def tw1001738921506786850:=Aw
def tw9240179050833131859:=Aw
def tw15727924919995311747:=Aw
def tw12484879496086235222:=Aw
def tw618046108743929922:=Aw
def tw1466655853841683508:=Aw
def tw5218695780605358049:=Aw
def tw11478790504180353879:=Aw
def tw9788647366763937870:=Aw
def tw5565956542389114100:=Aw
def tw6188915380469371265:=Aw
def tw3208027766266292226:=Aw
def tw12229071617127218566:=Aw
def tw122622741900010092:=Aw
def tw1353895731006032937:=Aw
def tw10619576028267820628:=Aw
def tw207907637391668729:=Aw
def tw12320892870437376194:=Aw
def tw14954426988920891172:=Aw
def tw12512410245891598520:=Aw
def tw10234558974720404239:=Aw
def tw32146969304771455:=Aw
def tw14205380008618752628:=Aw
def tw130519867870332674:=Aw
def tw17331032129569363519:=Aw
def tw1355781874153034443:=Aw
def tw1912701127341091828:=Aw
def tw3261112769932609312:=Aw
def tw11342897490167410171:=Aw
def tw14335057832617045617:=Aw
def tw15843161459845376298:=Aw
def tw12105776399842184901:=Aw
def tw17417613310742956141:=Aw
def tw7994008767639832112:=Aw
def tw1463723728125039266:=Aw
def tw18177991431081152342:=Aw
def tw7319431383283275196:=Aw
def tw18357978057000115154:=Aw
def tw11066194360139679435:=Aw
def tw4467407011950156048:=Aw
def tw282778599720506966:=Aw
def tw14069522049204860042:=Aw
def tw3668162450630079161:=Aw
def tw8071591611082844958:=Aw
def tw1346102979234531514:=Aw
def tw15775107774184306366:=Aw
def tw1450151499001979755:=Aw
def tw16787478485891904361:=Aw
def tw6416565864384049251:=Aw
def tw11715981451469247660:=Aw
def tw9363650897501790929:=Aw
def tw15666813261482566782:=Aw
def tw2021991432742957085:=Aw
def tw12172245914330332348:=Aw
def tw392148621076607444:=Aw
def tw10720542940266368893:=Aw
def tw2142133011523651370:=Aw
def tw9344662568018706700:=Aw
def tw6500504670326374739:=Aw
def tw5879884168504336872:=Aw
def tw18087704208828128951:=Aw
def tw9392710423995395994:=Aw
def tw1562136689439606082:=Aw
def tw14816457918636385552:=Aw
def tw1374509536927884588:=Aw
def tw14836771388849366509:=Aw
def tw10838516847433236391:=Aw
def tw13512800893327436566:=Aw
def tw11009753318698982252:=Aw
def tw9696123117138697902:=Aw
def tw7592350475249550105:=Aw
def tw15970098450377706654:=Aw
def tw9417656160533209461:=Aw
def tw8026814757007968316:=Aw
def tw2570255682128371906:=Aw
def tw4830789902423110040:=Aw
def tw2064260033748837597:=Aw
def tw6773936480572436837:=Aw
def tw8828604632293743691:=Aw
def tw2373700369682540204:=Aw
def tw2957968038777494665:=Aw
def tw8691687689450365210:=Aw
def tw10038193284168028325:=Aw
def tw6761466434640096210:=Aw
def tw1145317950058263153:=Aw
def tw8718500358227778743:=Aw
def tw3657573570184872759:=Aw
def tw330174148569346620:=Aw
def tw1983731496333450919:=Aw
def tw3504772769269233582:=Aw
def tw14387106521718577229:=Aw
def tw11677285825497562958:=Aw
def tw16800388268188007749:=Aw
def tw15723242777897076887:=Aw
def tw9535325467125572937:=Aw
def tw13476751932876653689:=Aw
def tw3828349377784294965:=Aw
def tw1864291456788683456:=Aw
def tw12435799342123879752:=Aw
def tw17262097429016025360:=Aw
def tw17553275173138770365:=Aw
def tw18311044741070543347:=Aw
def tw16075754794788420218:=Aw
def tw7199346228806858416:=Aw
def tw16820321372989074359:=Aw
def tw5814534266885242903:=Aw
def tw918285012253727428:=Aw
def tw16162455426734705376:=Aw
def tw9873894735373628189:=Aw
def tw9328369117530216633:=Aw
def tw15970106857358477232:=Aw
def tw9062972842727861494:=Aw
def tw18048817561701088476:=Aw
def tw14978234505105835990:=Aw
def tw6868894810590677886:=Aw
def tw15593366808154734615:=Aw
def tw6924408479252145934:=Aw
def tw17868149640452988987:=Aw
def tw9739354050633561815:=Aw
def tw78973301688922343:=Aw
def tw12335543299194949399:=Aw
def tw18223911442649659839:=Aw
def tw6027276890213694821:=Aw
def tw9498998796610046328:=Aw
def tw15045594279957272784:=Aw
def tw16387831040026129452:=Aw
def tw7473801447735983009:=Aw
def tw2815947330697241108:=Aw
def tw3091781816640558987:=Aw
def tw12234590090071983223:=Aw
def tw17259871820505814184:=Aw
def tw4005794366350451049:=Aw
def tw14862195831928168278:=Aw
def tw14599697342612483642:=Aw
def tw2969387459783063200:=Aw
def tw12479177466782365946:=Aw
def tw13808557265353254948:=Aw
def tw16739546007607089615:=Aw
def tw846411485315224447:=Aw
def tw5789191151357315193:=Aw
def tw13401735646187035905:=Aw
def tw10028857841381437423:=Aw
def tw15585222236316464425:=Aw
def tw10673700448395679257:=Aw
def tw2891145384659404088:=Aw
def tw2400031999525760140:=Aw
def tw4918295018134370953:=Aw
def tw15035054198875291123:=Aw
def tw1794086204214534924:=Aw
def tw13655024685659375698:=Aw
def tw13325202109254731242:=Aw
def tw13161756101562780881:=Aw
def tw9585632120194153310:=Aw
def tw15769341001467025151:=Aw
def tw3771558399189634571:=Aw
def tw503335735913810705:=Aw
def tw583336847691825456:=Aw
def tw3159019390755480716:=Aw
def tw7715153699766312461:=Aw
def tw5198650832331188156:=Aw
def tw6520659499218723804:=Aw
def tw1811572254023063053:=Aw
def tw2627229097021097588:=Aw
def tw18416996383654038773:=Aw
def tw15741130028772962246:=Aw
def tw7933805414622690991:=Aw
def tw6852992262180435761:=Aw
def tw17741624225654244515:=Aw
def tw11080663061131882747:=Aw
def tw4698965351924263431:=Aw
def tw7308576687090335913:=Aw
def tw6845532180908551910:=Aw
def tw3152123747871214805:=Aw
def tw6652042162501193783:=Aw
def tw11218697694854929902:=Aw
def tw7485837662205354241:=Aw
def tw17730291651498918280:=Aw
def tw16746466127160906975:=Aw
def tw3017720482759930970:=Aw
def tw5418546830498324884:=Aw
def tw1071698664908457456:=Aw
def tw1024571512453428533:=Aw
def tw13540802266306557809:=Aw
def tw4175017838711757354:=Aw
def tw10138394601535295690:=Aw
def tw18251947659691588122:=Aw
def tw12129646165875555890:=Aw
def tw12485532075782251848:=Aw
def tw9719850194312380855:=Aw
def tw12014081561138568883:=Aw
def tw13487382458376659888:=Aw
def tw14135908287697182998:=Aw
def tw17289576023949741298:=Aw
def tw5749259455107362165:=Aw
def tw8875237319841308096:=Aw
def tw7257611170880843071:=Aw
def tw3765546820289691686:=Aw
def tw11553299010591342795:=Aw
def tw8981755433560197272:=Aw
def tw10882884078489407530:=Aw
def tw5810856787507833513:=Aw
def tw798591689209099591:=Aw
def tw17646901385300474356:=Aw
def tw6405510929420296395:=Aw
def tw953448434116767714:=Aw
def tw13601414328813668743:=Aw
def tw68975020267621506:=Aw
def tw17911221635056405737:=Aw
def tw1697139282155201855:=Aw
def tw4890728697836017724:=Aw
def tw6293640788291578032:=Aw
def tw9543430780035717647:=Aw
def tw2066307977822147702:=Aw
def tw8810164973223516215:=Aw
def tw418725057307132214:=Aw
def tw15249652536769852674:=Aw
def tw12602694360167125119:=Aw
def tw4959210582275056410:=Aw
def tw9298233075464261695:=Aw
def tw10122017574081563639:=Aw
def tw6818580623369006268:=Aw
def tw11665300691472849083:=Aw
def tw5493902404133395009:=Aw
def tw15424932930017150147:=Aw
def tw8884113658220953824:=Aw
def tw7897302692774272799:=Aw
def tw6443598542221406679:=Aw
def tw15999145513729690856:=Aw
def tw7610430456931981826:=Aw
def tw666950825403142940:=Aw
def tw18150965899631423009:=Aw
def tw14205754378440970285:=Aw
def tw10625700319539357411:=Aw
def tw10029822433743399795:=Aw
def tw16033383672386077048:=Aw
def tw11917955558716054016:=Aw
def tw15189031763836904227:=Aw
def tw12728159244595686568:=Aw
def tw13168836663520276835:=Aw
def tw276465123733780787:=Aw
def tw14546359920704560175:=Aw
def tw9795504906769396686:=Aw
def tw12962323134240116542:=Aw
def tw9325310565198670906:=Aw
def tw10376080003272058834:=Aw
def tw9188516819393756597:=Aw
def tw2641243902518621499:=Aw
def tw17839440125128801480:=Aw
def tw13821832823506563688:=Aw
def tw4145883459455787420:=Aw
def tw11113057159815191571:=Aw
def tw12247698792627612999:=Aw
def tw15027095681763977023:=Aw
def tw15742305743433342845:=Aw
def tw7258337017431988525:=Aw
def tw13774572080088226184:=Aw
def tw16005614122433296718:=Aw
def tw2064910244807117686:=Aw
def tw1623594282237403864:=Aw
def tw5027651291248206111:=Aw
def tw18144021085748837082:=Aw
def tw14517831839317053167:=Aw
def tw5339118119676310221:=Aw
def tw3829864283979568368:=Aw
def tw5274948962716078647:=Aw
def tw14107859593347598175:=Aw
def tw6744034199361508305:=Aw
def tw8287987383304625637:=Aw
def tw16563277331191079133:=Aw
def tw13602199458206140725:=Aw
def tw10811865294982416119:=Aw
def tw8835006903306897285:=Aw
def tw17658463167995179758:=Aw
def tw8997122551928977855:=Aw
def tw8976411757155962724:=Aw
def tw10889235008612142866:=Aw
def tw8191210960345483710:=Aw
def tw8025326149908301283:=Aw
def tw1033123201068401544:=Aw
def tw17442089658566822760:=Aw
def tw1637202033440160104:=Aw
def tw6121724333969221377:=Aw
def tw5183107223754823401:=Aw
def tw13132507547875301326:=Aw
def tw4453529145285277362:=Aw
def tw6866909642754075157:=Aw
def tw1988146569353823729:=Aw
def tw9733533508483408485:=Aw
def tw8039324932054573564:=Aw
def tw1068790404890411468:=Aw
def tw15205232267198696988:=Aw
def tw14153199327732800486:=Aw
def tw4302933550219351694:=Aw
def tw1014090101870859243:=Aw
def tw5265692214384538755:=Aw
def tw12143225255392110184:=Aw
def tw1940040738771173561:=Aw
def tw1319093663437905522:=Aw
def tw15565107637533730626:=Aw
def tw10739267212668215200:=Aw
def tw11728606160550105032:=Aw
def tw15994136202532698961:=Aw
def tw12953636917175179599:=Aw
def tw12220576530944378559:=Aw
def tw11401801588151545350:=Aw
def tw10780994247966702309:=Aw
def tw7991602212562291490:=Aw
def tw13558683427993347532:=Aw
def tw4127556998907489521:=Aw
def tw8916190482707326899:=Aw
def tw18259354212983301779:=Aw
def tw1474650363749781105:=Aw
def tw11074944370168237784:=Aw
def tw16222984434451766980:=Aw
def tw367464823840595406:=Aw
def tw15499968642428800498:=Aw
def tw6656602741741192805:=Aw
def tw14045198923075202268:=Aw
def tw1616443764192497599:=Aw
def tw8677916318074818273:=Aw
def tw8411770785753302348:=Aw
def tw2413280835984523062:=Aw
def tw10322930646140933560:=Aw
def tw13890918886358408425:=Aw
def tw4046722405244491780:=Aw
def tw13803970374825860575:=Aw
def tw18122864854653970733:=Aw
def tw6363767583581543599:=Aw
def tw4146924946625095685:=Aw
def tw16090813377165318328:=Aw
def tw8354877510193636707:=Aw
def tw10690290088732646665:=Aw
def tw15193169830401071763:=Aw
def tw14580679268765206692:=Aw
def tw11262134757299121731:=Aw
def tw8296763517377199533:=Aw
def tw11147907449098062775:=Aw
def tw16521268153520125511:=Aw
end PySem.W.Fast
open PySem PySem.W PyProof.Rows
set_option maxRecDepth 100000 in
set_option maxHeartbeats 0 in
theorem PySem.Challenge.cw_beltshares_k42_whole_still_for_ever_holds : PySem.Challenge.rw_beltshares_k42_whole_still_for_ever.Holds := by
 w_on;o_law;k_head;(case hw=>w_witness2)
 k_fill
 refine K42.walk (l:=PySem.Challenge.rw_beltshares_k42_whole_still_for_ever) rfl rfl (λ w h Y=>PySem.W.kIn_of Y) ?F
 case F =>
  intro w mg fa h KX G hmg;refine' K42.all_mk KX G hmg ?h1 ?h2 ?h3 ?h4 ?h5 ?h6 ?h7 ?h8 ?h9 ?h10 ?h11 ?h12 ?h13 ?h14 ?h15 ?h16 ?h17 ?h18 ?h19 ?h20 ?h21 ?h22 ?h23 ?a24 ?l24 ?c24 ?k24 ?yRa ?h25 ?h26 ?a27 ?l27 ?c27 ?k27 ?ySa ?h28 ?h29 ?h30 ?h31 ?a32 ?l32 ?c32 ?k32 ?yTa ?h33 ?h34 ?a35 ?l35 ?c35 ?k35 ?yUa ?h36 ?h37 ?h38 ?h39 ?h40 ?h41 ?h42 ?h43 ?h44 ?h45 ?h46 ?h47 ?h48 ?h49 ?h50 ?aL ?lL ?cL ?kL ?yVa ?yWa ?yXa ?yYa ?yZa ?y0a ?y1a ?y2a ?y3a ?y4a ?y5a ?y6a ?y7a ?y8a ?y9a ?yab ?ybb ?ycb ?ydb ?yeb ?yfb ?ygb ?yhb ?yib ?yjb ?ykb ?ylb ?ymb ?ynb ?yob ?ypb ?yqb ?yrb ?ysb ?ytb ?yub ?yvb ?ywb ?yxb ?yyb ?yzb ?yAb ?yBb ?yCb ?yDb ?yEb ?yFb ?yGb ?yHb ?yIb ?yJb ?yKb ?yLb ?yMb ?yNb ?yOb ?yPb ?yQb ?yRb ?ySb ?yTb ?yUb ?yVb ?yWb ?yXb ?yYb ?yZb ?y0b ?y1b ?y2b ?y3b ?y4b ?y5b ?y6b ?y7b ?y8b ?y9b ?yac ?ybc ?ycc ?ydc ?yec ?yfc ?ygc ?yhc ?yic ?yjc ?ykc ?ylc ?ymc ?ync ?yoc ?ypc ?yqc ?yrc ?ysc ?ytc ?yuc ?yvc ?ywc ?yxc ?yyc ?yzc ?yAc ?yBc ?yCc ?wgn ?wtk ?yDc ?yEc ?yFc ?yGc ?yHc ?yIc ?yJc ?yKc ?yLc ?yMc ?yNc ?yOc ?yPc ?yQc ?yRc ?ySc ?yTc ?xgn ?xtk ?yUc ?yVc ?yWc ?yXc ?yYc ?yZc ?y0c ?y1c ?y2c ?y3c ?y4c ?y5c ?y6c ?y7c ?y8c ?y9c ?yad ?ybd ?ycd ?ydd ?yed ?yfd ?ygd ?yhd
  (case h1|h2|h3|h4|h5|h6|h7|h8|h9|h10|h11|h12|h13|h14|h15|h16|h17|h18|h19|h20|h21|h22|h23=>(refine' K42.fhy ?a ?l ?c ?k;(case a=>k_is);(case l=>k_is);(case c=>k_is);(case k=>k_is)))
  (case a24|l24|c24|k24|yRa=>k_is)
  (case h25|h26=>(refine' K42.fhy ?a ?l ?c ?k;(case a=>k_is);(case l=>k_is);(case c=>k_is);(case k=>k_is)))
  (case a27|l27|c27|k27|ySa=>k_is)
  (case h28|h29|h30|h31=>(refine' K42.fhy ?a ?l ?c ?k;(case a=>k_is);(case l=>k_is);(case c=>k_is);(case k=>k_is)))
  (case a32|l32|c32|k32|yTa=>k_is)
  (case h33|h34=>(refine' K42.fhy ?a ?l ?c ?k;(case a=>k_is);(case l=>k_is);(case c=>k_is);(case k=>k_is)))
  (case a35|l35|c35|k35|yUa=>k_is)
  (case h36|h37|h38|h39|h40|h41|h42|h43|h44|h45|h46|h47|h48|h49|h50=>(refine' K42.fhy ?a ?l ?c ?k;(case a=>k_is);(case l=>k_is);(case c=>k_is);(case k=>k_is)))
  (case aL|lL|cL|kL=>k_is)
  (case yVa|yWa|yXa|yYa|yZa|y0a|y1a|y2a|y3a|y4a|y5a|y6a|y7a|y8a|y9a|yab|ybb|ycb|ydb|yeb|yfb|ygb|yhb|yib|yjb|ykb|ylb|ymb|ynb=>(show nsIn _ _ _=_;k_is))
  (case yob=>(refine ⟨?_,?_,?_,?_,?_,?_,?_,?_⟩ <;> k_is))
  (case ypb|yqb=>(show findIn _ _ _=_;k_is))
  (case yrb=>(refine' K42.mhy ?a ?i ?l ?c ?k;(case a=>k_is);(case i=>k_is);(case l=>k_is);(case c=>k_is);(case k=>k_is)))
  (case ysb|ytb|yub|yvb|ywb|yxb|yyb|yzb=>k_is)
  (case yAb=>(refine ⟨?_,?_,?_,?_,?_,?_,?_,?_⟩ <;> k_is))
  (case yBb|yCb|yDb|yEb=>(show findIn _ _ _=_;k_is))
  (case yFb|yGb|yHb=>(refine' K42.mhy ?a ?i ?l ?c ?k;(case a=>k_is);(case i=>k_is);(case l=>k_is);(case c=>k_is);(case k=>k_is)))
  (case yIb=>(refine ⟨?_,?_,?_,?_,?_,?_,?_,?_⟩ <;> k_is))
  (case yJb|yKb|yLb=>(show findIn _ _ _=_;k_is))
  (case yMb|yNb|yOb=>(refine' K42.mhy ?a ?i ?l ?c ?k;(case a=>k_is);(case i=>k_is);(case l=>k_is);(case c=>k_is);(case k=>k_is)))
  (case yPb=>(refine ⟨?_,?_,?_,?_,?_,?_,?_,?_⟩ <;> k_is))
  (case yQb|yRb=>(show findIn _ _ _=_;k_is))
  (case ySb|yTb|yUb=>(refine' K42.mhy ?a ?i ?l ?c ?k;(case a=>k_is);(case i=>k_is);(case l=>k_is);(case c=>k_is);(case k=>k_is)))
  (case yVb=>(refine ⟨?_,?_,?_,?_,?_,?_,?_,?_⟩ <;> k_is))
  (case yWb|yXb=>(show findIn _ _ _=_;k_is))
  (case yYb|yZb|y0b=>(refine' K42.mhy ?a ?i ?l ?c ?k;(case a=>k_is);(case i=>k_is);(case l=>k_is);(case c=>k_is);(case k=>k_is)))
  (case y1b=>(refine ⟨?_,?_,?_,?_,?_,?_,?_,?_⟩ <;> k_is))
  (case y2b|y3b|y4b=>(show findIn _ _ _=_;k_is))
  (case y5b|y6b|y7b|y8b=>(refine' K42.mhy ?a ?i ?l ?c ?k;(case a=>k_is);(case i=>k_is);(case l=>k_is);(case c=>k_is);(case k=>k_is)))
  (case y9b=>(refine ⟨?_,?_,?_,?_,?_,?_,?_,?_⟩ <;> k_is))
  (case yac|ybc=>(show findIn _ _ _=_;k_is))
  (case ycc|ydc|yec=>(refine' K42.mhy ?a ?i ?l ?c ?k;(case a=>k_is);(case i=>k_is);(case l=>k_is);(case c=>k_is);(case k=>k_is)))
  (case yfc=>(refine ⟨?_,?_,?_,?_,?_,?_,?_,?_⟩ <;> k_is))
  (case ygc|yhc|yic|yjc=>(show findIn _ _ _=_;k_is))
  (case ykc=>(refine' K42.mhy ?a ?i ?l ?c ?k;(case a=>k_is);(case i=>k_is);(case l=>k_is);(case c=>k_is);(case k=>k_is)))
  (case ylc=>(refine ⟨?_,?_,?_,?_,?_,?_,?_,?_⟩ <;> k_is))
  (case ymc|ync|yoc|ypc=>(show findIn _ _ _=_;k_is))
  (case yqc|yrc|ysc|ytc|yuc|yvc=>(refine' K42.mhy ?a ?i ?l ?c ?k;(case a=>k_is);(case i=>k_is);(case l=>k_is);(case c=>k_is);(case k=>k_is)))
  (case ywc=>(refine ⟨?_,?_,?_,?_,?_,?_,?_,?_⟩ <;> k_is))
  (case yxc|yyc=>(show findIn _ _ _=_;k_is))
  (case yzc|yAc|yBc|yCc=>(refine' K42.mhy ?a ?i ?l ?c ?k;(case a=>k_is);(case i=>k_is);(case l=>k_is);(case c=>k_is);(case k=>k_is)))
  (case wgn|wtk|yDc|yEc|yFc|yGc|yHc|yIc|yJc=>k_is)
  (case yKc|yLc|yMc=>k_exc)
  (case yNc|yOc|yPc|yQc|yRc|ySc=>k_is)
  (case yTc=>k_exc)
  (case xgn|xtk|yUc|yVc|yWc|yXc=>k_is)
  (case yYc|yZc|y0c|y1c|y2c|y3c|y4c|y5c|y6c|y7c|y8c|y9c|yad|ybd|ycd|ydd|yed|yfd|ygd|yhd=>(show kitOne _ _ _=_;kit_is))
